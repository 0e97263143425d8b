import PyProof.Rows.All
import Wide.All
import OpenK.AllK
import Wide.FinOn
import Lean
import PyProof.EqAt
import PyProof.EqKinds
import PyProof.TupleCall
import KE.KDictList
import KE.KRevIter
import KE.KTurns
import PyProof.Rows.SetFrom
import PyProof.Rows.SortStr
import PyProof.FactsAll.set
import PyProof.Draws
import PyProof.EnumMake
import PyProof.AttrMissSeq
import KE.KDictOf
import PyProof.Walks
import KE.KSortTup
import KE.KItemsList
import KE.KDictSum
import PySem.Challenge.RW_doneroom_k23_paths_taken
set_option Elab.async false
set_option bootstrap.genMatcherCode false
set_option linter.all false
set_option maxRecDepth 100000
noncomputable section
/-! THE HAND LAYER, for ints, bools, texts, own classes, LISTS and tuples (index, slices, in, append, pop ..), calls, loops. Paste it whole ahead of your own text; what your proof does not reach may be deleted. -/
namespace L2
open PySem PySem.Spec PyProof.Rows

noncomputable abbrev Key := Sum Int Str
noncomputable def QcU : Key → Value → Bool
  | .inl k, v => Value.isInt k v
  | .inr x, v => Value.isStrOf x v
noncomputable def Qe5 (w : World) : Key → Int
  | .inl k => hashInt k
  | .inr x => hashStr w x
theorem QD : ∀ {k : Key} {v : Value}, QcU k v = true → (∃ i t, k = Sum.inl i ∧ v = Value.int i t) ∨ (∃ x t, k = Sum.inr x ∧ v = Value.str x t)
  | .inl i, v, h => by
    obtain ⟨t, e⟩ := Value.isInt_shape (k := i) (v := v) h
    exact .inl ⟨i, t, rfl, e⟩
  | .inr x, v, h => by
    obtain ⟨t, e⟩ := Value.isStrOf_shape (x := x) (v := v) h
    exact .inr ⟨x, t, rfl, e⟩
theorem QbE (a b : Int) : decide ((Sum.inl a : Key) = Sum.inl b) = (a == b) := by
  by_cases e : a = b
  · subst e; simp
  · have h : ¬ (Sum.inl a : Key) = Sum.inl b := fun q => e (Sum.inl.inj q)
    rw [decide_eq_false h]
    exact (beq_eq_false_iff_ne.mpr e).symm
theorem Qb2 (a b : Str) : decide ((Sum.inr a : Key) = Sum.inr b) = decide (a = b) := by
  by_cases e : a = b
  · subst e; simp
  · have h : ¬ (Sum.inr a : Key) = Sum.inr b := fun q => e (Sum.inr.inj q)
    rw [decide_eq_false h, decide_eq_false e]
theorem Qb4 (a : Int) (b : Str) : decide ((Sum.inl a : Key) = Sum.inr b) = false := decide_eq_false (fun q => nomatch q)
theorem QcM (a : Str) (b : Int) : decide ((Sum.inr a : Key) = Sum.inl b) = false := decide_eq_false (fun q => nomatch q)

noncomputable def YJ (prog : Program) (w : World) : PySem.KeyKind prog w Key where
  is := QcU
  hash := Qe5 w
  inj := fun v a b ha hb => by
    rcases QD ha with ⟨i, t, rfl, rfl⟩ | ⟨x, t, rfl, rfl⟩
    · rcases QD hb with ⟨j, u, rfl, e⟩ | ⟨y, u, rfl, e⟩
      · injection e with e1 _; rw [e1]
      · exact nomatch e
    · rcases QD hb with ⟨j, u, rfl, e⟩ | ⟨y, u, rfl, e⟩
      · exact nomatch e
      · injection e with e1 _; rw [e1]
  byValue := fun k v h => by
    rcases QD h with ⟨i, t, rfl, rfl⟩ | ⟨x, t, rfl, rfl⟩ <;> rfl
  pyHash := fun hv h => by
    rcases QD hv with ⟨i, t, rfl, rfl⟩ | ⟨x, t, rfl, rfl⟩
    · exact wpAny_pyHash_int h
    · exact wpAny_pyHash_str h
  eqBool := fun hu hv h => by
    rcases QD hu with ⟨i, t, rfl, rfl⟩ | ⟨x, t, rfl, rfl⟩
    · rcases QD hv with ⟨j, u, rfl, rfl⟩ | ⟨y, u, rfl, rfl⟩
      · rw [QbE] at h; exact wpAny_eqBool_int h
      · rw [Qb4] at h; exact SeqAt.EqAt.int_str i t y u _ _ _ _ h
    · rcases QD hv with ⟨j, u, rfl, rfl⟩ | ⟨y, u, rfl, rfl⟩
      · rw [QcM] at h; exact SeqAt.EqAt.str_int x t j u _ _ _ _ h
      · rw [Qb2] at h; exact wpAny_eqBool_str h
  «strs» := fun k x t v h => by
    rcases QD h with ⟨i, u, rfl, e⟩ | ⟨y, u, rfl, e⟩
    · exact nomatch e
    · injection e with e1 _
      subst e1
      cases v <;> rfl

end L2

namespace L2
open PySem PySem.Spec PyProof.Rows

inductive V where
  | non | bl (b : Bool) | int (i : Int) | str (x : Str) | byt (b : Array UInt8) | flt (b : UInt64) | ref (a : Addr) | ty (n : String)
  deriving DecidableEq

noncomputable def RelV : V → Value → Prop
  | .non, u => u = Value.none
  | .bl b, u => u = Value.bool b
  | .int i, u => ∃ t, u = Value.int i t
  | .str x, u => ∃ t, u = Value.str x t
  | .byt b, u => ∃ t, u = Value.bytes b t
  | .flt b, u => ∃ t, u = Value.float b t
  | .ref a, u => u = Value.ref a
  | .ty n, u => u = Value.type n

noncomputable abbrev Vals : List V → List Value → Prop := Paired RelV
theorem Vals.length {xs : List V} {us : List Value} (r : Vals xs us) : xs.length = us.length := Paired.length r
theorem Vals.get : ∀ {xs : List V} {us : List Value} {i : Nat} {x : V}, Vals xs us → xs[i]? = some x → ∃ u, us[i]? = some u ∧ RelV x u
  | _, _, _, _, .nil, e => by simp at e
  | _, _, 0, _, .cons r _, e => by simp at e; subst e; exact ⟨_, rfl, r⟩
  | _, _, i + 1, x, .cons _ t, e => by
    obtain ⟨u, h1, h2⟩ := Vals.get (i := i) (x := x) t (by simpa using e)
    exact ⟨u, by simpa using h1, h2⟩
theorem Vals.set {x : V} {u : Value} (r : RelV x u) : ∀ {xs : List V} {us : List Value} (i : Nat), Vals xs us → Vals (xs.set i x) (us.set i u)
  | _, _, _, .nil => .nil
  | _, _, 0, .cons _ t => .cons r t
  | _, _, i + 1, .cons q t => .cons q (Vals.set r i t)
theorem Vals.append : ∀ {xs ys : List V} {us ws : List Value}, Vals xs us → Vals ys ws → Vals (xs ++ ys) (us ++ ws)
  | _, _, _, _, .nil, s => s
  | _, _, _, _, .cons r t, s => .cons r (Vals.append t s)
noncomputable def RelO : Option V → Option Value → Prop
  | some v, some u => RelV v u
  | none, none => True
  | _, _ => False
noncomputable def KV {κ : Type} : List (κ × V) → List (κ × Value) → Prop := Paired fun (p : κ × V) (q : κ × Value) => p.1 = q.1 ∧ RelV p.2 q.2

inductive Tr where
  | i (n : Int)
  | s (x : Str)
  | t (ks : List Tr)
noncomputable instance trDec : DecidableEq Tr := fun _ _ => Classical.propDecidable _
noncomputable def IsT (h : Heap) : Nat → Tr → Value → Prop
  | 0, _, _ => False
  | _ + 1, .i k, v => (∃ t, v = .int k t) ∨ ∃ b : Bool, v = .bool b ∧ k = if b then 1 else 0
  | _ + 1, .s x, v => ∃ t, v = .str x t
  | n + 1, .t ks, v => ∃ a its, v = .ref a ∧ h.IsTuple a its ∧ Paired (IsT h n) ks its.toList
theorem KN {α β : Type} {F : α → β → Prop} (hi : ∀ x y v, F x v → F y v → x = y) : ∀ {xs ys : List α} {vs : List β}, Paired F xs vs → Paired F ys vs → xs = ys
  | _, _, _, .nil, .nil => rfl
  | _, _, _, .cons a s, .cons b t => by rw [hi _ _ _ a b, KN hi s t]
theorem W9 {h : Heap} {n : Nat} {x : Tr} {a : Addr} (hx : IsT h n x (.ref a)) : ∃ m ks its, n = m + 1 ∧ x = .t ks ∧ h.IsTuple a its ∧ Paired (IsT h m) ks its.toList := by
  cases n with
  | zero => exact hx.elim
  | succ n =>
    cases x with
    | i k => rcases hx with ⟨t, e⟩ | ⟨b, e, _⟩ <;> cases e
    | s y => obtain ⟨t, e⟩ := hx; cases e
    | t ks => obtain ⟨a', its, e, p, q⟩ := hx; cases e; exact ⟨n, ks, its, rfl, rfl, p, q⟩
theorem XQ {h : Heap} {a : Addr} {x y : Array Value} (hx : h.IsTuple a x) (hy : h.IsTuple a y) : x = y := by
  obtain ⟨o, h1, _, n, h2⟩ := hx
  obtain ⟨o', h1', _, n', h2'⟩ := hy
  rw [h1] at h1'; cases h1'
  rw [h2] at h2'; injection h2'
theorem Zk {h : Heap} : ∀ {n : Nat} (x y : Tr) (v : Value), IsT h n x v → IsT h n y v → x = y
  | 0, _, _, _, hx, _ => hx.elim
  | n + 1, x, y, v, hx, hy => by
    cases v with
    | ref a =>
      obtain ⟨m, ks, its, e, rfl, p, q⟩ := W9 hx
      obtain ⟨m', ls, its', e', rfl, p', q'⟩ := W9 hy
      cases e; cases e'
      cases XQ p p'
      rw [KN (fun x y v => Zk (n := n) x y v) q q']
    | _ =>
      cases x with
      | i k =>
        cases y with
        | i k' =>
          rcases hx with ⟨t, e⟩ | ⟨b, e, rfl⟩ <;> cases e <;> rcases hy with ⟨t, e⟩ | ⟨b, e, rfl⟩ <;> cases e <;> rfl
        | s y => obtain ⟨t, e⟩ := hy; rcases hx with ⟨t, e'⟩ | ⟨b, e', _⟩ <;> (rw [e] at e'; cases e')
        | t ls => obtain ⟨a, its, e, _⟩ := hy; cases e
      | s z =>
        obtain ⟨t, e'⟩ := hx
        cases y with
        | i k => rcases hy with ⟨t, e⟩ | ⟨b, e, _⟩ <;> (rw [e] at e'; cases e')
        | s y => obtain ⟨t, e⟩ := hy; rw [e] at e'; cases e'; rfl
        | t ls => obtain ⟨a, its, e, _⟩ := hy; cases e
      | t ks => obtain ⟨a, its, e, _⟩ := hx; cases e
theorem Zn {α β : Type} {F G : α → β → Prop} (f : ∀ a b, F a b → G a b) : ∀ {l₁ : List α} {l₂ : List β}, Paired F l₁ l₂ → Paired G l₁ l₂
  | _, _, .nil => .nil
  | _, _, .cons r t => .cons (f _ _ r) (Zn f t)
theorem V5 {h h' : Heap} {d : Addr} {o : Obj} {es ep} (ho : h.get? d = some o) (hd : o.data = .dict es ep) (hs : Heap.SameBut d h h') : ∀ {n : Nat} (k : Tr) (v : Value), IsT h n k v → IsT h' n k v
  | 0, _, _, x => x.elim
  | n + 1, .i k, v, x => x
  | n + 1, .s k, v, x => x
  | n + 1, .t ks, v, ⟨a, its, e, ⟨o', ho', hc, m, hd'⟩, q⟩ => by
    have hne : a ≠ d := by
      rintro rfl
      rw [ho'] at ho; cases ho
      rw [hd] at hd'; exact nomatch hd'
    exact ⟨a, its, e, ⟨o', (hs.2 a hne).trans ho', hc, m, hd'⟩, Zn (fun k v => V5 ho hd hs k v) q⟩
noncomputable def hN (w : World) : Nat → Tr → Int
  | 0, _ => 0
  | _ + 1, .i k => hashInt k
  | _ + 1, .s x => hashStr w x
  | n + 1, .t ks => reduceHash (Builtin.Tuple.tupleHashOf (ks.map (hN w n)))
noncomputable def dN : Nat → Tr → Nat
  | 0, _ => 0
  | _ + 1, .i _ => 1
  | _ + 1, .s _ => 1
  | n + 1, .t ks => (ks.map (dN n)).sum + 1
section
variable {prog : Program} {w : World} {E : Value → Shared → Prop}
theorem V7 {n : Nat} {A : Around} (ih : ∀ (k : Tr) (v : Value) (s : Shared) (Q : Int → Shared → Prop), IsT s.heap n k v → Q (hN w n k) { s with toks := s.toks + dN n k } → wpAny (model prog w) A (pyHash v) Q E s) :
    ∀ (ks : List Tr) (vs : List Value) (s : Shared) (b : Array Int) (Q : Array Int → Shared → Prop), Paired (IsT s.heap n) ks vs →
    (∀ b', b'.toList = b.toList ++ ks.map (hN w n) → Q b' { s with toks := s.toks + (ks.map (dN n)).sum }) →
    wpAny (model prog w) A (forIn vs b fun x r => do let h ← pyHash x; pure PUnit.unit; pure (ForInStep.yield (r.push h))) Q E s
  | [], _, s, b, Q, x, h => by cases x; exact wpAny_pure (h b (by simp))
  | k :: ks, _, s, b, Q, x, h => by
    cases x with
    | cons x1 x2 =>
      rw [List.forIn_cons]
      refine wpAny_bind (wpAny_bind (ih k _ s _ x1 ?_))
      refine wpAny_bind (wpAny_pure (wpAny_pure ?_))
      refine V7 ih ks _ _ _ Q x2 fun b' hb => ?_
      have := h b' (by simp [hb])
      simpa [Nat.add_assoc] using this
theorem WI : ∀ (n : Nat) (A : Around), A.units + n < cLine → ∀ (k : Tr) (v : Value) (s : Shared) (Q : Int → Shared → Prop), IsT s.heap n k v → Q (hN w n k) { s with toks := s.toks + dN n k } → wpAny (model prog w) A (pyHash v) Q E s
  | 0, _, _, _, _, _, _, x, _ => x.elim
  | n + 1, A, hu, .i k, v, s, Q, x, h => by
    rcases x with ⟨t, rfl⟩ | ⟨b, rfl, rfl⟩
    · exact wpAny_pyHash_int h
    · refine PySem.W.pyHash_slot (T := "bool") rfl F.slot_bool_hash entry_int_hash (args_int_hash _) (beq_builtin_none _) (.inr (by omega)) ?_
      cases b
      · exact (show wpAny _ _ (do ret (← mkInt 0)) _ _ s from wpAny_bind (wpAny_mkInt (wpAny_pure ⟨_, _, rfl, h⟩)))
      · exact (show wpAny _ _ (do ret (← mkInt 1)) _ _ s from wpAny_bind (wpAny_mkInt (wpAny_pure ⟨_, _, rfl, h⟩)))
  | n + 1, A, hu, .s y, v, s, Q, x, h => by
    obtain ⟨t, rfl⟩ := x
    exact wpAny_pyHash_str h
  | n + 1, A, hu, .t ks, v, s, Q, x, h => by
    obtain ⟨a, its, rfl, ⟨o, ho, hc, m, hd⟩, q⟩ := x
    refine PySem.W.pyHash_slot (T := "tuple") ⟨_, ho, hc⟩ F.slot_tuple_hash F.entry_tuple_hash (F.args_tuple_hash_1 _) (beq_builtin_none _) (.inr (by omega)) ?_
    show wpAny _ _ (Builtin.Tuple.tupleItemsOf (.ref a) >>= _) _ _ s
    refine wpAny_bind (wpAny_tupleItemsOf ho hd ?_)
    refine wpAny_bind ?_
    rw [← Array.forIn_toList]
    refine V7 (n := n) (fun k v s Q => WI n A.in1 (by show A.units + 1 + n < cLine; omega) k v s Q) ks _ s #[] _ q fun b hb => ?_
    show wpAny _ _ (retInt (Builtin.Tuple.tupleHashOf b.toList)) _ _ _
    rw [hb]
    refine wpAny_bind (wpAny_mkInt (wpAny_pure ⟨_, _, rfl, ?_⟩))
    simpa [hN, dN, Nat.add_assoc] using h
theorem Qa3 {n : Nat} {h : Heap} {e : Nat → Bool} : ∀ {ks ls : List Tr} {us vs : List Value}, Paired (IsT h n) ks us → Paired (IsT h n) ls vs → (∀ (j : Nat) (x y : Tr), ks[j]? = some x → ls[j]? = some y → e j = decide (x = y)) →
    ((List.range (min us.length vs.length)).all e && us.length == vs.length) = decide (Tr.t ks = Tr.t ls) := by
  intro ks ls us vs p q he
  have l1 := Paired.length p
  have l2 := Paired.length q
  rw [← l1, ← l2]
  by_cases hl : ks.length = ls.length
  · by_cases hk : ks = ls
    · subst hk
      simp only [Nat.min_self, beq_self_eq_true, Bool.and_true, decide_true]
      rw [List.all_eq_true]
      intro j hj
      rw [List.mem_range] at hj
      rw [he j ks[j] ks[j] (List.getElem?_eq_getElem hj) (List.getElem?_eq_getElem hj)]
      simp
    · have : decide (Tr.t ks = Tr.t ls) = false := decide_eq_false fun z => hk (Tr.t.inj z)
      rw [this, Bool.and_eq_false_iff]
      left
      have : ∃ j, ks[j]? ≠ ls[j]? := Classical.byContradiction fun z => hk (List.ext_getElem? fun j => Classical.byContradiction fun y => z ⟨j, y⟩)
      obtain ⟨j, hj⟩ := this
      have hjl : j < ks.length := Classical.byContradiction fun z => hj (by rw [List.getElem?_eq_none (by omega), List.getElem?_eq_none (by omega)])
      rw [List.all_eq_false]
      refine ⟨j, List.mem_range.mpr (by omega), ?_⟩
      rw [he j ks[j] ls[j] (List.getElem?_eq_getElem hjl) (List.getElem?_eq_getElem (by omega))]
      intro z
      rw [decide_eq_true_eq] at z
      exact hj (by rw [List.getElem?_eq_getElem hjl, List.getElem?_eq_getElem (by omega), z])
  · have h1 : (ks.length == ls.length) = false := beq_eq_false_iff_ne.mpr hl
    rw [h1, Bool.and_false]
    exact (decide_eq_false fun z => hl (by rw [Tr.t.inj z])).symm
theorem Zr {α β : Type} {F : α → β → Prop} : ∀ {l₁ : List α} {l₂ : List β} {j : Nat} {x : α}, Paired F l₁ l₂ → l₁[j]? = some x → ∃ v, l₂[j]? = some v ∧ F x v
  | _, _, 0, x, .cons r t, e => by simp at e; subst e; exact ⟨_, rfl, r⟩
  | _, _, j + 1, x, .cons r t, e => by
    obtain ⟨v, h1, h2⟩ := Zr (j := j) (x := x) t (by simpa using e)
    exact ⟨v, by simpa using h1, h2⟩
open SeqAt in
theorem Qbv {s : Shared} : ∀ (n : Nat) (A : Around), A.units + n < cLine → ∀ (x y : Tr) (u v : Value), IsT s.heap n x u → IsT s.heap n y v → EqAt A s u v (decide (x = y))
  | 0, _, _, _, _, _, _, hx, _ => hx.elim
  | n + 1, A, hu, .i a, .i b, u, v, hx, hy => by
    have hd : decide (Tr.i a = Tr.i b) = (a == b) := by
      by_cases z : a = b
      · subst z; simp
      · rw [decide_eq_false fun q => z (Tr.i.inj q)]; exact (beq_eq_false_iff_ne.mpr z).symm
    rw [hd]
    rcases hx with ⟨t, rfl⟩ | ⟨p, rfl, rfl⟩ <;> rcases hy with ⟨t', rfl⟩ | ⟨q, rfl, rfl⟩
    · exact EqAt.int_int a t b t'
    · exact EqAt.int_bool a t q
    · exact EqAt.bool_int p b t'
    · have := EqAt.bool_bool (A := A) (s := s) p q
      cases p <;> cases q <;> exact this
  | n + 1, A, hu, .i a, .s b, u, v, hx, hy => by
    obtain ⟨t', rfl⟩ := hy
    rw [decide_eq_false (fun z => nomatch z)]
    rcases hx with ⟨t, rfl⟩ | ⟨p, rfl, rfl⟩
    · exact EqAt.int_str a t b t'
    · exact EqAt.bool_str p b t'
  | n + 1, A, hu, .i a, .t ks, u, v, hx, hy => by
    obtain ⟨ad, its, rfl, p, _⟩ := hy
    rw [decide_eq_false (fun z => nomatch z)]
    rcases hx with ⟨t, rfl⟩ | ⟨q, rfl, rfl⟩
    · exact EqAt.int_tuple a t p (by omega)
    · exact EqAt.bool_tuple q p (by omega)
  | n + 1, A, hu, .s b, .i a, u, v, hx, hy => by
    obtain ⟨t', rfl⟩ := hx
    rw [decide_eq_false (fun z => nomatch z)]
    rcases hy with ⟨t, rfl⟩ | ⟨p, rfl, rfl⟩
    · exact EqAt.str_int b t' a t
    · exact EqAt.str_bool b t' p
  | n + 1, A, hu, .s a, .s b, u, v, hx, hy => by
    obtain ⟨t, rfl⟩ := hx
    obtain ⟨t', rfl⟩ := hy
    have hd : decide (Tr.s a = Tr.s b) = (a == b) := by
      by_cases z : a = b
      · subst z; simp
      · rw [decide_eq_false fun q => z (Tr.s.inj q)]; exact (beq_eq_false_iff_ne.mpr z).symm
    rw [hd]
    exact EqAt.str_str a t b t'
  | n + 1, A, hu, .s b, .t ks, u, v, hx, hy => by
    obtain ⟨ad, its, rfl, p, _⟩ := hy
    obtain ⟨t, rfl⟩ := hx
    rw [decide_eq_false (fun z => nomatch z)]
    exact EqAt.str_tuple b t p (by omega)
  | n + 1, A, hu, .t ks, .i a, u, v, hx, hy => by
    obtain ⟨ad, its, rfl, p, _⟩ := hx
    rw [decide_eq_false (fun z => nomatch z)]
    rcases hy with ⟨t, rfl⟩ | ⟨q, rfl, rfl⟩
    · exact EqAt.tuple_int a t p (by omega)
    · exact EqAt.tuple_bool q p (by omega)
  | n + 1, A, hu, .t ks, .s b, u, v, hx, hy => by
    obtain ⟨ad, its, rfl, p, _⟩ := hx
    obtain ⟨t, rfl⟩ := hy
    rw [decide_eq_false (fun z => nomatch z)]
    exact EqAt.tuple_str b t p (by omega)
  | n + 1, A, hu, .t ks, .t ls, u, v, hx, hy => by
    obtain ⟨ad, its, rfl, p, q⟩ := id hx
    obtain ⟨bd, its', rfl, p', q'⟩ := id hy
    by_cases hab : ad = bd
    · subst hab
      have := Zk _ _ _ hx hy
      rw [this, decide_eq_true rfl]
      exact EqAt.same _
    · refine EqAt.of_refs hab ?_
      have ih := Qbv (s := s) n A.in1 (by show A.units + 1 + n < cLine; omega)
      have hz := RcAt.tuples (A := A) (s := s) (e := fun j => match ks[j]?, ls[j]? with | some x, some y => decide (x = y) | _, _ => false) p p' (by omega) (fun j h1 h2 => by
        have l1 := Paired.length q
        have l2 := Paired.length q'
        have j1 : j < ks.length := by rw [l1]; exact h1
        have j2 : j < ls.length := by rw [l2]; exact h2
        obtain ⟨x, hx⟩ : ∃ x, ks[j]? = some x := ⟨ks[j], List.getElem?_eq_getElem j1⟩
        obtain ⟨y, hy⟩ : ∃ y, ls[j]? = some y := ⟨ls[j], List.getElem?_eq_getElem j2⟩
        obtain ⟨u, hu1, hu2⟩ := Zr q hx
        obtain ⟨t, ht1, ht2⟩ := Zr q' hy
        rw [hx, hy]
        have e1 : its[j] = u := by
          rw [Array.getElem?_toList, Array.getElem?_eq_getElem h1] at hu1; exact Option.some.inj hu1
        have e2 : its'[j] = t := by
          rw [Array.getElem?_toList, Array.getElem?_eq_getElem h2] at ht1; exact Option.some.inj ht1
        rw [e1, e2]
        exact ih x y u t hu2 ht2)
      have := Qa3 (e := fun j => match ks[j]?, ls[j]? with | some x, some y => decide (x = y) | _, _ => false) q q' (fun j x y h1 h2 => by simp only [h1, h2])
      rw [Array.length_toList, Array.length_toList] at this
      rw [this] at hz
      exact hz
theorem VM {A : Around} {s : Shared} : ∀ (n m : Nat) (k : Tr) (v : Value) (Q : Bool → Shared → Prop), IsT s.heap n k v → n ≤ m → Q true s → wpAny (model prog w) A (eqIsQuiet m v) Q E s
  | 0, _, _, _, _, x, _, _ => x.elim
  | n + 1, m, .i k, v, Q, x, _, h => by
    rcases x with ⟨t, rfl⟩ | ⟨b, rfl, rfl⟩
    · rw [eqIsQuiet_byValue _ rfl]; exact wpAny_pure h
    · rw [eqIsQuiet_byValue _ rfl]; exact wpAny_pure h
  | n + 1, m, .s k, v, Q, x, _, h => by
    obtain ⟨t, rfl⟩ := x
    rw [eqIsQuiet_byValue _ rfl]; exact wpAny_pure h
  | n + 1, 0, .t ks, v, Q, x, hm, h => by omega
  | n + 1, m + 1, .t ks, v, Q, x, hm, h => by
    obtain ⟨a, its, rfl, ⟨o, ho, hc, l, hd⟩, q⟩ := x
    have hT : s.TypeIs (.ref a) "tuple" := ⟨o, ho, hc⟩
    unfold eqIsQuiet
    refine wpAny_bind (wpAny_specialOf hT F.slot_tuple_eq.lookup ?_)
    show wpAny _ _ (isInstance (.ref a) (.type "tuple") >>= _) _ _ s
    refine wpAny_bind (wpAny_isInstance hT isSubtype_tuple_tuple ?_)
    simp only [Bool.not_true, Bool.false_eq_true, if_false]
    refine wpAny_bind (wpAny_seqItems ho hd ?_)
    refine wpAny_bind ?_
    show wpAny _ _ (forIn its _ _) _ _ s
    rw [← Array.forIn_toList]
    refine wpAny_forIn_list _ (fun rest r s' => r.1 = none ∧ s' = s ∧ ∃ ks', Paired (IsT s.heap n) ks' rest) _ ?_ ?_ _ _ ⟨rfl, rfl, ks, q⟩
    · rintro v rest r s' ⟨hr, rfl, ks', q'⟩
      cases q' with
      | cons q1 q2 =>
        refine wpAny_bind (VM n m _ _ _ q1 (by omega) ?_)
        simp only [Bool.not_true, Bool.false_eq_true, if_false]
        exact wpAny_pure ⟨rfl, rfl, _, q2⟩
    · rintro ⟨r1, r2⟩ s' ⟨hr, rfl, _⟩
      simp only at hr
      subst hr
      exact wpAny_pure h
end
noncomputable def Qh (prog : Program) (w : World) : HeapKind prog w Tr where
  is := fun h k a => IsT h 8 k (.ref a)
  hash := hN w 8
  draws := dN 8
  room := fun A => A.units + 8 < cLine
  inj := fun hx hy => Zk _ _ _ hx hy
  keeps := fun x ho hd hs => V5 ho hd hs _ _ x
  pyHash := fun hu hk h => WI 8 _ hu _ _ _ _ hk h
  eqBool := fun hu hx hy h => Qbv 8 _ hu _ _ _ _ hx hy _ _ _ _ h
  quiet := fun hk h => VM 8 8 _ _ _ hk (Nat.le_refl _) h

noncomputable def kV : Key → V
  | .inl i => .int i
  | .inr x => .str x

inductive HO where
  /-- a list -/
  | lst (xs : List V)
  /-- a tuple (never changes) -/
  | tup (xs : List V)
  /-- a dict whose keys are ints and texts; one whose keys are tuples of ints and texts (the empty one is both) -/
  | dK (kvs : List (Key × V)) | dT (kvs : List (Tr × Addr × V))
  /-- a set of ints: its members, its size -/
  | set (S : Int → Bool) (n : Nat)
  /-- an instance of the class at C, its dict at dx, its attributes -/
  | ins (C dx : Addr) (fs : List (Str × V))
  /-- the dict of the instance at x -/
  | own (x : Addr)
  /-- the dict of an exception -/
  | xd (fs : List (Str × V))
  /-- a bound method, f of x -/
  | met (f x : Addr)
  /-- a range object lo, lo + 1, .. below hi -/
  | rng (lo hi : Int)
  /-- a thing that is known to the object (the script; a dict while a loop walks it): read, never written while it is so -/
  | frz (o : Obj) (u : HO)
  /-- a code object's table -/
  | tbl (ps : Array Value)
  /-- any other thing, by what is true of its one object (a def of one's own: SetO a S n := HO.ext fun h => ..) -/
  | ext (φ : Heap → Prop)

noncomputable abbrev Hp := Addr → Option HO
noncomputable def upd (H : Hp) (a : Addr) (o : HO) : Hp := fun b => if b = a then some o else H b
theorem Zh {H : Hp} {a : Addr} {o : HO} : upd H a o a = some o := by unfold upd; rw [if_pos rfl]
theorem Qp {H : Hp} {a b : Addr} {o : HO} (h : b ≠ a) : upd H a o b = H b := by unfold upd; rw [if_neg h]
theorem Zo {H : Hp} {a b : Addr} {o : HO} (h : H a = some o) (h' : H b = none) : a ≠ b := by
  intro e; subst e; rw [h] at h'; cases h'

section
variable (P : Program) (w : World)
noncomputable def ObjOk (H : Hp) (h : Heap) (a : Addr) : HO → Prop
  | .lst xs => xs.length ≤ sizeLine ∧ ∃ (its : List Value) (n : Nat), Vals xs its ∧ h.get? a = some { cls := .type "list", data := .seq its.toArray n }
  | .tup xs => xs.length ≤ sizeLine ∧ ∃ its : List Value, Vals xs its ∧ IsTup h a its.toArray
  | .dK kvs => kvs.length ≤ sizeLine ∧ (a == sysModules) = false ∧ ∃ vs, KV kvs vs ∧ h.DictOf (YJ P w) a vs
  | .dT kvs => kvs.length ≤ sizeLine ∧ (a == sysModules) = false ∧ ∃ xs : List (Tr × Addr × Value),
      Paired (fun (p : Tr × Addr × V) (q : Tr × Addr × Value) => p.1 = q.1 ∧ p.2.1 = q.2.1 ∧ RelV p.2.2 q.2.2) kvs xs ∧
      ∃ o es ep, h.get? a = some o ∧ o.ExactDict ∧ o.data = .dict es ep ∧ es.toList = xs.map (entryOfKey (Qh P w)) ∧ (xs.map (·.1)).Nodup ∧ ep = es.size
  | .set S n => h.SetOf (intKind P w) a S n
  | .ins C dx fs => H dx = some (.own a) ∧ fs.length ≤ 1000 ∧ dx ≠ a ∧ h.get? a = some (PySem.W.instObj C dx) ∧
      ∃ mA, h.Ns1 dx mA ∧ (∀ f, RelO (fs.lookup f) (mA f)) ∧ PySem.Within mA (fs.map (·.1))
  | .own _ => ∃ o, h.get? a = some o
  | .xd fs => ∃ mA, h.Ns1 a mA ∧ ∀ f, RelO (fs.lookup f) (mA f)
  | .rng lo hi => ∃ t u v, h.get? a = some { cls := .type "range", data := .fields #[.int lo t, .int hi u, .int 1 v] }
  | .frz o u => h.get? a = some o ∧ ObjOk H h a u
  | .tbl ps => h.get? a = some { cls := .none, data := .fields ps }
  | .met f x => h.get? a = some (PySem.W.methodObj (.ref f) (.ref x))
  | .ext φ => φ h ∧ (∃ o, h.get? a = some o) ∧ ∀ h1 h2 : Heap, φ h1 → (∀ o, h1.get? a = some o → h2.get? a = some o) → φ h2
noncomputable def HOk (H : Hp) (h : Heap) : Prop := ∀ a o, H a = some o → ObjOk P w H h a o
end

section
variable {P : Program} {w : World} {H H' : Hp} {h h' : Heap} {a : Addr} {o : HO}
theorem ObjOk.lt (x : ObjOk P w H h a o) : a < h.objs.size := by
  cases o with
  | lst xs => obtain ⟨_, _, _, _, e⟩ := x; exact Heap.lt_size e
  | tup xs => obtain ⟨_, _, _, p⟩ := x; exact p.lt
  | dK kvs => obtain ⟨_, _, _, _, o, _, _, e, _⟩ := x; exact Heap.lt_size e
  | dT kvs => obtain ⟨_, _, _, _, o, _, _, e, _⟩ := x; exact Heap.lt_size e
  | set S n => obtain ⟨o, _, _, _, e, _⟩ := x; exact Heap.lt_size e
  | ins C dx fs => obtain ⟨_, _, _, e, _⟩ := x; exact Heap.lt_size e
  | own y => obtain ⟨_, e⟩ := x; exact Heap.lt_size e
  | xd fs => obtain ⟨_, ⟨_, _, _, e, _⟩, _⟩ := x; exact Heap.lt_size e
  | rng lo hi => obtain ⟨_, _, _, e⟩ := x; exact Heap.lt_size e
  | frz ob u => obtain ⟨e, _⟩ := x; exact Heap.lt_size e
  | tbl ps => exact Heap.lt_size (show h.get? a = some _ from x)
  | met f y => exact Heap.lt_size (show h.get? a = some _ from x)
  | ext φ => obtain ⟨_, ⟨_, e⟩, _⟩ := x; exact Heap.lt_size e
theorem Paired.mapP {α β : Type} {F G : α → β → Prop} : ∀ {l₁ : List α} {l₂ : List β}, Paired F l₁ l₂ → (∀ a b, F a b → G a b) → Paired G l₁ l₂
  | _, _, .nil, _ => .nil
  | _, _, .cons r t, f => .cons (f _ _ r) (Paired.mapP t f)
theorem ObjOk.stay (x : ObjOk P w H h a o) (k : ∀ b u, (b = a ∨ H b = some (.own a)) → h.get? b = some u → h'.get? b = some u)
    (ho : ∀ b, H b = some (.own a) → H' b = some (.own a)) (ht : ∀ b xs, H b = some (.tup xs) → H' b = some (.tup xs)) : ObjOk P w H' h' a o := by
  induction o with
  | lst xs => obtain ⟨z, its, n, r, e⟩ := x; exact ⟨z, its, n, r, k _ _ (.inl rfl) e⟩
  | tup xs => obtain ⟨z, its, r, ob, e, c⟩ := x; exact ⟨z, its, r, ob, k _ _ (.inl rfl) e, c⟩
  | dK kvs => obtain ⟨z, y, vs, r, ob, es, ep, e, c⟩ := x; exact ⟨z, y, vs, r, ob, es, ep, k _ _ (.inl rfl) e, c⟩
  | dT kvs =>
    obtain ⟨z, y, xs, r, ob, es, ep, e, c⟩ := x
    exact ⟨z, y, xs, r, ob, es, ep, k _ _ (.inl rfl) e, c⟩
  | set S n => obtain ⟨ob, es, ep, t, e, c⟩ := x; exact ⟨ob, es, ep, t, k _ _ (.inl rfl) e, c⟩
  | ins C dx fs =>
    obtain ⟨d, z, ne, e, mA, ⟨od, es, ep, e2, c⟩, r⟩ := x
    exact ⟨ho _ d, z, ne, k _ _ (.inl rfl) e, mA, ⟨od, es, ep, k _ _ (.inr d) e2, c⟩, r⟩
  | own y => obtain ⟨ob, e⟩ := x; exact ⟨ob, k _ _ (.inl rfl) e⟩
  | xd fs => obtain ⟨mA, ⟨od, es, ep, e, c⟩, r⟩ := x; exact ⟨mA, ⟨od, es, ep, k _ _ (.inl rfl) e, c⟩, r⟩
  | rng lo hi => obtain ⟨t, u, v, e⟩ := x; exact ⟨t, u, v, k _ _ (.inl rfl) e⟩
  | frz ob u ih => obtain ⟨e, q⟩ := x; exact ⟨k _ _ (.inl rfl) e, ih q⟩
  | tbl ps =>
    have e : h.get? a = some { cls := .none, data := .fields ps } := x
    show h'.get? a = some { cls := .none, data := .fields ps }
    exact k a _ (.inl rfl) e
  | met f y =>
    have e : h.get? a = some (PySem.W.methodObj (.ref f) (.ref y)) := x
    show h'.get? a = some (PySem.W.methodObj (.ref f) (.ref y))
    exact k a _ (.inl rfl) e
  | ext φ => obtain ⟨p, ⟨o, e⟩, st⟩ := x; exact ⟨st _ _ p fun o q => k _ _ (.inl rfl) q, ⟨o, k _ _ (.inl rfl) e⟩, st⟩
theorem HOk.lt (x : HOk P w H h) (e : H a = some o) : a < h.objs.size := (x a o e).lt
theorem HOk.fresh (x : HOk P w H h) (e : h.objs.size ≤ a) : H a = none := by
  cases q : H a with
  | none => rfl
  | some u => exact absurd (Nat.lt_of_lt_of_le (x.lt q) e) (Nat.lt_irrefl _)
theorem HOk.kept (x : HOk P w H h) (k : ∀ b u, h.get? b = some u → h'.get? b = some u) : HOk P w H h' := fun a o e =>
  (x a o e).stay (fun b u _ q => k b u q) (fun _ q => q) fun _ _ q => q
theorem HOk.laid (x : HOk P w H h) (k : ∀ b u, h.get? b = some u → h'.get? b = some u) (hp : h.objs.size ≤ a) (new : ObjOk P w (upd H a o) h' a o) : HOk P w (upd H a o) h' := fun b u e => by
  have hn := x.fresh hp
  by_cases hb : b = a
  · subst hb; rw [Zh] at e; cases e; exact new
  · rw [Qp hb] at e
    exact (x b u e).stay (fun c v _ q => k c v q) (fun c q => by rw [Qp (Zo q hn)]; exact q) fun c xs q => by rw [Qp (Zo q hn)]; exact q
end

noncomputable def Rd (H : Hp) (a : Addr) (u : HO) : Prop := H a = some u ∨ ∃ o, H a = some (.frz o u)
theorem Rd.ok {P : Program} {w : World} {H : Hp} {h : Heap} {a : Addr} {u : HO} (r : Rd H a u) (x : HOk P w H h) : ObjOk P w H h a u := by
  rcases r with r | ⟨o, r⟩
  · exact x a u r
  · obtain ⟨_, q⟩ := x a _ r
    exact q
noncomputable def Mut : Option HO → Prop
  | some (.lst _) => True
  | some (.dK _) => True
  | some (.dT _) => True
  | some (.set _ _) => True
  | some (.ins _ _ _) => True
  | some (.ext _) => True
  | _ => False
section
variable {P : Program} {w : World} {H : Hp} {h h' : Heap} {x e : Addr} {o' : HO}
theorem HOk.write (ok : HOk P w H h) (mu : Mut (H x)) (he : e = x ∨ H e = some (.own x)) (k : ∀ b u, b ≠ e → h.get? b = some u → h'.get? b = some u) (heo : ∃ u, h'.get? e = some u)
    (new : ObjOk P w (upd H x o') h' x o') : HOk P w (upd H x o') h' := fun b u q => by
  have nown : ∀ c y, H c = some (.own y) → c ≠ x := fun c y r z => by subst z; rw [r] at mu; exact mu
  have ntup : ∀ c xs, H c = some (.tup xs) → c ≠ x := fun c xs r z => by subst z; rw [r] at mu; exact mu
  by_cases hb : b = x
  · subst hb; rw [Zh] at q; cases q; exact new
  · rw [Qp hb] at q
    by_cases hbe : b = e
    · have q' : H b = some (.own x) := by
        rcases he with z | z
        · exact absurd (hbe.trans z) hb
        · rw [hbe]; exact z
      rw [q] at q'; cases q'
      obtain ⟨v, hv⟩ := heo
      exact ⟨v, by rw [hbe]; exact hv⟩
    · refine (ok b u q).stay (fun c v hc r => k c v ?_ r) (fun c r => by rw [Qp (nown c b r)]; exact r) fun c xs r => by rw [Qp (ntup c xs r)]; exact r
      rcases hc with rfl | hc
      · exact hbe
      · rintro rfl
        rcases he with z | z
        · exact nown c b hc z
        · rw [hc] at z; cases z; exact hb rfl
end

structure Un (fs ex : List Addr) (H H' : Hp) (h h' : Heap) : Prop where
  keep : ∀ b o, h.get? b = some o → H b = none → b ∉ fs → b ∉ ex → h'.get? b = some o
  slot : ∀ b o, h.get? b = some o → H b = none → b ∈ fs → b ∉ ex → ∃ sl, h'.get? b = some { o with slots := sl }
  free : ∀ b o, h.get? b = some o → H b = none → b ∉ ex → H' b = none
  there : ∀ b o, h.get? b = some o → b ∉ ex → ∃ o', h'.get? b = some o'
  tups : ∀ b xs, H b = some (.tup xs) → H' b = some (.tup xs)
  frzs : ∀ b o u, H b = some (.frz o u) → H' b = some (.frz o u)
  tbls : ∀ b ps, H b = some (.tbl ps) → ∃ more, H' b = some (.tbl (ps ++ more))
section
variable {fs fs' ex ex' : List Addr} {H H1 H2 : Hp} {h h1 h2 h' : Heap} {a x e : Addr} {o : HO}
theorem Un.any (u : Un fs ex H H1 h h1) {b : Addr} {ob : Obj} (q : h.get? b = some ob) (n : H b = none) (hx : b ∉ ex) : ∃ sl, h1.get? b = some { ob with slots := sl } := by
  by_cases hb : b ∈ fs
  · exact u.slot b ob q n hb hx
  · exact ⟨ob.slots, u.keep b ob q n hb hx⟩
theorem Un.kept (k : ∀ b u, h.get? b = some u → h'.get? b = some u) : Un fs ex H H h h' :=
  ⟨fun b ob q _ _ _ => k b ob q, fun b ob q _ _ _ => ⟨ob.slots, k b ob q⟩, fun _ _ _ n _ => n, fun b ob q _ => ⟨ob, k b ob q⟩, fun _ _ q => q, fun _ _ _ q => q, fun _ ps q => ⟨#[], by rw [q]; simp⟩⟩
theorem Un.refl : Un fs ex H H h h := Un.kept fun _ _ q => q
theorem Un.laid (k : ∀ b u, h.get? b = some u → h'.get? b = some u) (hp : h.objs.size ≤ a) (hn : H a = none) : Un fs ex H (upd H a o) h h' where
  keep := fun b u q _ _ _ => k b u q
  slot := fun b u q _ _ _ => ⟨u.slots, k b u q⟩
  free := fun b u q n _ => by rw [Qp (Nat.ne_of_lt (Nat.lt_of_lt_of_le (Heap.lt_size q) hp))]; exact n
  there := fun b u q _ => ⟨u, k b u q⟩
  tups := fun b xs q => by rw [Qp (Zo q hn)]; exact q
  frzs := fun b u xs q => by rw [Qp (Zo q hn)]; exact q
  tbls := fun b ps q => ⟨#[], by rw [Qp (Zo q hn), q]; simp⟩
theorem Un.write (mu : Mut (H x)) (he : e = x ∨ H e = some (.own x)) (k : ∀ b u, b ≠ e → h.get? b = some u → h'.get? b = some u) (heo : ∃ u, h'.get? e = some u) : Un fs ex H (upd H x o) h h' := by
  have hx : ∀ b, H b = none → b ≠ x := fun b n z => by subst z; rw [n] at mu; exact mu
  have hb : ∀ b, H b = none → b ≠ e := fun b n z => by
    subst z
    rcases he with r | r
    · exact hx b n r
    · rw [n] at r; cases r
  have hm : ∀ b u, H b = some u → ¬ Mut (some u) → b ≠ x := fun b u q nm z => by subst z; rw [q] at mu; exact nm mu
  refine ⟨fun b u q n _ _ => k b u (hb b n) q, fun b u q n _ _ => ⟨u.slots, k b u (hb b n) q⟩, fun b u q n _ => by rw [Qp (hx b n)]; exact n, fun b u q _ => ?_,
    fun b xs q => by rw [Qp (hm b _ q fun z => z)]; exact q, fun b u xs q => by rw [Qp (hm b _ q fun z => z)]; exact q, fun b ps q => ⟨#[], by rw [Qp (hm b _ q fun z => z), q]; simp⟩⟩
  by_cases hbe : b = e
  · subst hbe; exact heo
  · exact ⟨u, k b u hbe q⟩
end

noncomputable def trk (h : Heap) (H : Hp) : List Addr := (List.range h.objs.size).filter fun a => (H a).isSome
noncomputable def U7 (h : Heap) (H : Hp) : Heap := PySem.W.hideAll h (trk h H)
theorem We (h : Heap) (H : Hp) : (U7 h H).objs.size = h.objs.size := PySem.W.hideAll_size _ _
theorem UL {h : Heap} {H : Hp} {b : Addr} {o : Obj} (e : h.get? b = some o) (n : H b = none) : (U7 h H).get? b = some o :=
  PySem.W.hideAll_get _ e fun hm => by
    have q : (H b).isSome = true := (List.mem_filter.mp hm).2
    rw [n] at q; simp at q
theorem Qa5 {h : Heap} {H : Hp} {b : Addr} {o : Obj} (e : (U7 h H).get? b = some o) : h.get? b = some o ∧ H b = none := by
  have e' : h.get? b = some o := PySem.W.of_hideAll (trk h H) e
  refine ⟨e', ?_⟩
  cases q : H b with
  | none => rfl
  | some x =>
    have hm : b ∈ trk h H := List.mem_filter.mpr ⟨List.mem_range.mpr (Heap.lt_size e'), by simp [q]⟩
    have z : (U7 h H).get? b = none := PySem.W.hideAll_none (trk h H) hm
    rw [z] at e; cases e

end L2

namespace L2
open PySem PySem.Spec PyProof.Rows

structure Mod (K : PySem.W.Frag) (mg : Str → Option Value) (base : Heap) : Prop where
  kin : K.In base
  glob : base.Ns mainGlobals mg
  blt : ∃ mb, base.Ns builtinsNs mb ∧ ∀ x : Str, x ≠ "__name__" → mb x = bootBuiltins x
  nolimit : base.NoLimit

structure Cx where
  prog : Program
  w : World
  K : PySem.W.Frag
  mg : Str → Option Value
  base : Heap
  A : Around
  N : List Str
  s₀ : Shared
  H₀ : Hp
  env : Env
  outer : List Env
  stack : List Env
  ex : List Addr
  fn : Str → Bool
  calm : Bool
  pn : List (Addr × Obj)
  xe : Value → Shared → Prop
noncomputable def frs (l : List Env) : List Addr := l.filterMap (·.frame)
noncomputable abbrev Cx.fs (X : Cx) : List Addr := frs X.outer

noncomputable def Vis (sc : Scope) (x : Str) : Prop := sc.names.lookup x = some .local ∨ sc.names.lookup x = some .cell ∨ sc.names.lookup x = some .free
noncomputable def Loc (sc : Scope) (x : Str) : Prop := sc.names.lookup x = some .local ∨ sc.names.lookup x = some .cell
noncomputable def Qfz (env : Env) (h : Heap) (m : Str → Option Value) (x : Str) (u : Value) : Prop :=
  (env.kindOf x = some .local ∧ m x = some u) ∨ ((env.kindOf x = some .cell ∨ env.kindOf x = some .free) ∧ ∃ c, env.cells.lookup x = some c ∧ h.IsCell c (some u))

structure Cx.Ok (X : Cx) : Prop where
  mod : Mod X.K X.mg X.base
  kind : X.env.scope.kind = .function
  glob : X.env.globals = mainGlobals
  blt : X.env.builtins = builtinsNs
  above : X.s₀.heap.objs.size ≤ X.env.locals
  inj : ∀ x y c, X.env.cells.lookup x = some c → X.env.cells.lookup y = some c → x = y
  has : ∀ x, (X.env.kindOf x = some .cell ∨ X.env.kindOf x = some .free) → ∃ c, X.env.cells.lookup x = some c
  cab : ∀ x c, X.fn x = true → X.env.cells.lookup x = some c → X.s₀.heap.objs.size ≤ c
  hd : X.calm = true → X.A.handled = none
  frames : X.A.frames = some X.stack
  stk : X.stack = X.outer ∨ (X.stack = X.env :: X.outer ∧ X.env.frame = some X.env.locals)
  exf : ∀ b ∈ X.ex, b ≠ X.env.locals ∧ ∀ x c, X.env.cells.lookup x = some c → c ≠ b
  bs : ∀ b o, X.base.get? b = some o → X.s₀.heap.get? b = some o ∧ X.H₀ b = none
  bsz : X.base.objs.size ≤ X.s₀.heap.objs.size
  noex : ∀ b o, X.base.get? b = some o → b ∉ X.ex
  exfs : ∀ b ∈ X.ex, b ∉ X.fs
  funs : X.s₀.heap.FunFrames X.base X.outer
  frf : ∀ b ∈ X.fs, X.H₀ b = none

structure Inv (X : Cx) (pins : List (Addr × Obj)) (σ : List (Option V)) (H : Hp) (s : Shared) : Prop where
  ok : X.Ok
  os : s.os = X.s₀.os
  bare : AllBare s.gens
  base : Un X.fs X.ex X.H₀ H X.s₀.heap s.heap
  loc : ∃ m, s.heap.Ns X.env.locals m ∧ ∀ (i : Nat) (x : Str) (v : V), X.N[i]? = some x → σ[i]? = some (some v) → Vis X.env.scope x → ∃ u, RelV v u ∧ Qfz X.env s.heap m x u
  cell : ∀ x c, X.env.cells.lookup x = some c → ∃ v, s.heap.IsCell c v
  free : H X.env.locals = none
  freeC : ∀ x c, X.env.cells.lookup x = some c → H c = none
  pin : ∀ p ∈ X.pn ++ pins, s.heap.get? p.1 = some p.2 ∧ H p.1 = none ∧ p.1 ≠ X.env.locals ∧ p.1 ∉ X.fs ∧ ∀ v, p.2.data ≠ .cell v
  hok : HOk X.prog X.w H s.heap
  len : σ.length = X.N.length

section
variable {X : Cx} {pins : List (Addr × Obj)} {σ : List (Option V)} {H H' : Hp} {s : Shared} {h' : Heap}

theorem Cx.Ok.nofr (ok : X.Ok) {b : Addr} {o : Obj} (e : X.base.get? b = some o) : b ∉ X.fs := fun hb => by
  have := (ok.funs.mem hb).1
  rw [e] at this; cases this
theorem Inv.bs (I : Inv X pins σ H s) : ∀ b o, X.base.get? b = some o → s.heap.get? b = some o ∧ H b = none := fun b o e =>
  ⟨I.base.keep b o (I.ok.bs b o e).1 (I.ok.bs b o e).2 (I.ok.nofr e) (I.ok.noex b o e), I.base.free b o (I.ok.bs b o e).1 (I.ok.bs b o e).2 (I.ok.noex b o e)⟩
theorem Inv.bk (I : Inv X pins σ H s) : ∀ b o, X.base.get? b = some o → s.heap.get? b = some o := fun b o e => (I.bs b o e).1
theorem Inv.mod (I : Inv X pins σ H s) : Mod X.K X.mg X.base := I.ok.mod
theorem Inv.kIn (I : Inv X pins σ H s) : X.K.In s.heap := I.ok.mod.kin.keeps I.bk
theorem Inv.lt (I : Inv X pins σ H s) : X.env.locals < s.heap.objs.size := let ⟨_, hn, _⟩ := I.loc; hn.lt
theorem Inv.sz (I : Inv X pins σ H s) : X.s₀.heap.objs.size ≤ s.heap.objs.size := Nat.le_trans I.ok.above (Nat.le_of_lt I.lt)
theorem Inv.nofs (I : Inv X pins σ H s) {a : Addr} (h : s.heap.objs.size ≤ a) : a ∉ X.fs := fun hb => by
  obtain ⟨_, o, ho, _⟩ := I.ok.funs.mem hb
  exact absurd (Nat.lt_of_lt_of_le (Heap.lt_size ho) (Nat.le_trans I.sz h)) (Nat.lt_irrefl _)
theorem Inv.cne (I : Inv X pins σ H s) : ∀ x c, X.env.cells.lookup x = some c → c ≠ X.env.locals := fun x c e z => by
  obtain ⟨v, o, ho, hd⟩ := I.cell x c e
  obtain ⟨m, ⟨o', es, ep, ho', hd', _⟩, _⟩ := I.loc
  rw [z, ho'] at ho; cases ho; rw [hd'] at hd; cases hd
theorem Inv.funs (I : Inv X pins σ H s) : s.heap.FunFrames X.base X.outer := by
  have all : ∀ (l : List Env), (∀ b ∈ frs l, b ∈ X.fs) → X.s₀.heap.FunFrames X.base l → s.heap.FunFrames X.base l := by
    intro l
    induction l with
    | nil => intro _ _; trivial
    | cons env r ih =>
      intro hs hl
      obtain ⟨hk, ⟨L, o, hf, hn, ho, hd⟩, hr⟩ := hl
      have hL : L ∈ X.fs := hs L (by unfold frs; rw [List.filterMap_cons, hf]; exact List.mem_cons_self)
      obtain ⟨sl, e⟩ := I.base.slot L o ho (I.ok.frf L hL) hL fun z => I.ok.exfs L z hL
      exact ⟨hk, ⟨L, _, hf, hn, e, hd⟩, ih (fun b hb => hs b (by unfold frs; rw [List.filterMap_cons, hf]; exact List.mem_cons_of_mem _ hb)) hr⟩
  exact all X.outer (fun _ hb => hb) I.ok.funs

theorem Inv.stack (I : Inv X pins σ H s) : s.heap.FunFrames X.base X.stack := by
  rcases I.ok.stk with e | ⟨e, hf⟩
  · rw [e]; exact I.funs
  · rw [e]
    obtain ⟨m, hn, _⟩ := I.loc
    refine .cons (by rw [I.ok.kind]; decide) hf hn ?_ I.funs
    exact Heap.get?_none_of_le (Nat.le_trans I.ok.bsz I.ok.above)
theorem Inv.stkSub (I : Inv X pins σ H s) : ∀ b ∈ frs X.stack, b ∈ X.env.locals :: X.fs := fun b hb => by
  rcases I.ok.stk with e | ⟨e, hf⟩
  · rw [e] at hb; exact List.mem_cons_of_mem _ hb
  · rw [e] at hb
    unfold frs at hb
    rw [List.filterMap_cons, hf] at hb
    exact hb
theorem Inv.stkFree (I : Inv X pins σ H s) : ∀ b ∈ frs X.stack, H b = none := fun b hb => by
  rcases List.mem_cons.mp (I.stkSub b hb) with e | hb
  · rw [e]; exact I.free
  · obtain ⟨_, o, ho, _⟩ := I.ok.funs.mem hb
    exact I.base.free b o ho (I.ok.frf b hb) fun z => I.ok.exfs b z hb

theorem Inv.step {g' : Array GenState} {t' : Nat} {d' : Drawn} {ch : List Addr} (I : Inv X pins σ H s)
    (hch : ∀ b ∈ ch, (b ∈ X.ex ∨ X.s₀.heap.objs.size ≤ b) ∧ b ≠ X.env.locals ∧ (∀ x c, X.env.cells.lookup x = some c → c ≠ b) ∧ ∀ p ∈ X.pn ++ pins, p.1 ≠ b)
    (keep : ∀ b o, b ≠ X.env.locals → b ∉ X.fs → b ∉ ch → s.heap.get? b = some o → H b = none → h'.get? b = some o)
    (slot : ∀ b o, b ≠ X.env.locals → b ∈ X.fs → b ∉ ch → s.heap.get? b = some o → H b = none → ∃ sl, h'.get? b = some { o with slots := sl }) (free : ∀ b o, b ∉ ch → s.heap.get? b = some o → H b = none → H' b = none)
    (there : ∀ b o, b ∉ ch → s.heap.get? b = some o → ∃ o', h'.get? b = some o')
    (tups : ∀ b xs, H b = some (.tup xs) → H' b = some (.tup xs)) (frzs : ∀ b o u, H b = some (.frz o u) → H' b = some (.frz o u)) (tbls : ∀ b ps, H b = some (.tbl ps) → ∃ more, H' b = some (.tbl (ps ++ more)))
    (ns : ∀ m, s.heap.Ns X.env.locals m → h'.Ns X.env.locals m) (hok : HOk X.prog X.w H' h') (hg : AllBare g') :
    Inv X pins σ H' { s with heap := h', gens := g', drawn := d', toks := t' } := by
  have neL : ∀ b o, X.s₀.heap.get? b = some o → b ≠ X.env.locals := fun b o e => Nat.ne_of_lt (Nat.lt_of_lt_of_le (Heap.lt_size e) I.ok.above)
  have neC : ∀ b o, X.s₀.heap.get? b = some o → b ∉ X.ex → b ∉ ch := fun b o e hx hb => by
    rcases (hch b hb).1 with z | z
    · exact hx z
    · exact absurd (Nat.lt_of_lt_of_le (Heap.lt_size e) z) (Nat.lt_irrefl _)
  have cellK : ∀ x c, X.env.cells.lookup x = some c → ∀ v, s.heap.IsCell c v → h'.IsCell c v := fun x c e v ⟨o, ho, hd⟩ => by
    have nch : c ∉ ch := fun z => (hch c z).2.2.1 x c e rfl
    by_cases hc : c ∈ X.fs
    · obtain ⟨sl, q⟩ := slot c o (I.cne x c e) hc nch ho (I.freeC x c e)
      exact ⟨_, q, hd⟩
    · exact ⟨o, keep c o (I.cne x c e) hc nch ho (I.freeC x c e), hd⟩
  refine ⟨I.ok, I.os, hg, ⟨fun b o e n hb hx => ?_, fun b o e n hb hx => ?_, fun b o e n hx => ?_, fun b o e hx => ?_, fun b xs e => tups b xs (I.base.tups b xs e), fun b o xs e => frzs b o xs (I.base.frzs b o xs e), fun b ps e => ?_⟩, ?_, fun x c e => ?_, ?_, fun x c e => ?_, fun p hp => ?_, hok, I.len⟩
  · exact keep b o (neL b o e) hb (neC b o e hx) (I.base.keep b o e n hb hx) (I.base.free b o e n hx)
  · obtain ⟨sl, e1⟩ := I.base.slot b o e n hb hx
    obtain ⟨sl', e2⟩ := slot b _ (neL b o e) hb (neC b o e hx) e1 (I.base.free b o e n hx)
    exact ⟨sl', e2⟩
  · obtain ⟨o', e1⟩ := I.base.there b o e hx
    exact free b o' (neC b o e hx) e1 (I.base.free b o e n hx)
  · obtain ⟨o', e1⟩ := I.base.there b o e hx
    exact there b o' (neC b o e hx) e1
  · obtain ⟨m1, e1⟩ := I.base.tbls b ps e
    obtain ⟨m2, e2⟩ := tbls b _ e1
    exact ⟨m1 ++ m2, by rw [e2, Array.append_assoc]⟩
  · obtain ⟨m, hn, hl⟩ := I.loc
    refine ⟨m, ns m hn, fun i x v e1 e2 e3 => ?_⟩
    obtain ⟨u, r, l⟩ := hl i x v e1 e2 e3
    refine ⟨u, r, ?_⟩
    rcases l with l | ⟨k, c, e, z⟩
    · exact .inl l
    · exact .inr ⟨k, c, e, cellK x c e _ z⟩
  · obtain ⟨v, z⟩ := I.cell x c e
    exact ⟨v, cellK x c e v z⟩
  · obtain ⟨m, ⟨o, _, _, ho, _⟩, _⟩ := I.loc
    exact free _ o (fun z => (hch _ z).2.1 rfl) ho I.free
  · obtain ⟨v, o, ho, hd⟩ := I.cell x c e
    exact free c o (fun z => (hch c z).2.2.1 x c e rfl) ho (I.freeC x c e)
  · obtain ⟨e, n, ne, nf, d⟩ := I.pin p hp
    have nch : p.1 ∉ ch := fun z => (hch p.1 z).2.2.2 p hp rfl
    exact ⟨keep p.1 p.2 ne nf nch e n, free p.1 p.2 nch e n, ne, nf, d⟩
theorem Inv.un {t' : Nat} (I : Inv X pins σ H s) (u : Un X.fs [] H H' s.heap h') (hok : HOk X.prog X.w H' h') : Inv X pins σ H' { s with heap := h', toks := t' } := by
  obtain ⟨m, ⟨o, es, ep, ho, r⟩, _⟩ := id I.loc
  obtain ⟨sl, hL⟩ := u.any ho I.free (by simp)
  exact I.step (g' := s.gens) (d' := s.drawn) (ch := []) (fun _ z => nomatch z) (fun b o _ hb _ e n => u.keep b o e n hb (by simp)) (fun b o _ hb _ e n => u.slot b o e n hb (by simp)) (fun b o _ e n => u.free b o e n (by simp)) (fun b o _ e => u.there b o e (by simp)) u.tups u.frzs u.tbls (fun m' hm => by
    obtain ⟨o', es', ep', ho', r'⟩ := hm
    rw [ho] at ho'; cases ho'
    exact ⟨_, es', ep', hL, r'⟩) hok I.bare
theorem Inv.call {g' : Array GenState} {t' : Nat} {d' : Drawn} {ch : List Addr} (I : Inv X pins σ H s) (u : Un (frs X.stack) ch H H' s.heap h') (hok : HOk X.prog X.w H' h') (hg : AllBare g')
    (hch : ∀ b ∈ ch, (b ∈ X.ex ∨ X.s₀.heap.objs.size ≤ b) ∧ b ≠ X.env.locals ∧ (∀ x c, X.env.cells.lookup x = some c → c ≠ b) ∧ ∀ p ∈ X.pn ++ pins, p.1 ≠ b) :
    Inv X pins σ H' { s with heap := h', gens := g', drawn := d', toks := t' } := by
  obtain ⟨m, ⟨o, es, ep, ho, r⟩, _⟩ := id I.loc
  obtain ⟨sl, hL⟩ := u.any ho I.free fun z => (hch _ z).2.1 rfl
  exact I.step (ch := ch) hch (fun b o hL hb hc e n => u.keep b o e n (fun z => (List.mem_cons.mp (I.stkSub b z)).elim hL hb) hc) (fun b o _ _ hc e n => u.any e n hc) (fun b o hc e n => u.free b o e n hc) (fun b o hc e => u.there b o e hc) u.tups u.frzs u.tbls (fun m' hm => by
    obtain ⟨o', es', ep', ho', r'⟩ := hm
    rw [ho] at ho'; cases ho'
    exact ⟨_, es', ep', hL, r'⟩) hok hg
theorem Inv.turned {t' : Nat} {it : Addr} (I : Inv X pins σ H s) (k : ∀ b o, b ≠ it → s.heap.get? b = some o → h'.get? b = some o) (hn : H it = none) (hL : it ≠ X.env.locals)
    (h1 : it ∈ X.ex ∨ X.s₀.heap.objs.size ≤ it) (h2 : ∀ x c, X.env.cells.lookup x = some c → c ≠ it) (h3 : ∀ p ∈ X.pn ++ pins, p.1 ≠ it) : Inv X pins σ H { s with heap := h', toks := t' } := by
  have nit : ∀ b u, H b = some u → b ≠ it := fun b u e z => by rw [z, hn] at e; cases e
  refine I.step (g' := s.gens) (d' := s.drawn) (ch := [it]) (fun b hb => ?_) (fun b o _ _ hc e _ => k b o (fun z => hc (by simp [z])) e) (fun b o _ _ hc e _ => ⟨o.slots, k b o (fun z => hc (by simp [z])) e⟩) (fun _ _ _ _ n => n)
    (fun b o hc e => ⟨o, k b o (fun z => hc (by simp [z])) e⟩) (fun _ _ e => e) (fun _ _ _ e => e) (fun b ps e => ⟨#[], by rw [e]; simp⟩) (fun m hm => ?_) (fun b u e => ?_) I.bare
  · have e : b = it := by simpa using hb
    subst e
    exact ⟨h1, hL, h2, h3⟩
  · obtain ⟨o, es, ep, ho, r⟩ := hm
    exact ⟨o, es, ep, k _ o (Ne.symm hL) ho, r⟩
  · refine (I.hok b u e).stay (fun c v hc q => k c v ?_ q) (fun _ q => q) fun _ _ q => q
    rcases hc with z | z
    · rw [z]; exact nit b u e
    · exact nit c _ z
theorem Inv.tok (I : Inv X pins σ H s) (t : Nat) : Inv X pins σ H { s with toks := t } := I.un (h' := s.heap) (t' := t) Un.refl I.hok
theorem Inv.kept {t' : Nat} (I : Inv X pins σ H s) (k : ∀ b u, s.heap.get? b = some u → h'.get? b = some u) : Inv X pins σ H { s with heap := h', toks := t' } := I.un (Un.kept k) (I.hok.kept k)
theorem Inv.laid {a : Addr} {o : HO} {t' : Nat} (I : Inv X pins σ H s) (k : ∀ b u, s.heap.get? b = some u → h'.get? b = some u) (hp : s.heap.objs.size ≤ a) (new : ObjOk X.prog X.w (upd H a o) h' a o) :
    Inv X pins σ (upd H a o) { s with heap := h', toks := t' } := I.un (Un.laid k hp (I.hok.fresh hp)) (I.hok.laid k hp new)
theorem Inv.write {x e : Addr} {o : HO} {t' : Nat} (I : Inv X pins σ H s) (mu : Mut (H x)) (he : e = x ∨ H e = some (.own x)) (k : ∀ b u, b ≠ e → s.heap.get? b = some u → h'.get? b = some u) (heo : ∃ u, h'.get? e = some u)
    (new : ObjOk X.prog X.w (upd H x o) h' x o) : Inv X pins σ (upd H x o) { s with heap := h', toks := t' } := I.un (Un.write mu he k heo) (I.hok.write mu he k heo new)
theorem Inv.pins_of {pins' : List (Addr × Obj)} (I : Inv X pins σ H s) (h : ∀ p ∈ pins', s.heap.get? p.1 = some p.2 ∧ H p.1 = none ∧ p.1 ≠ X.env.locals ∧ p.1 ∉ X.fs ∧ ∀ v, p.2.data ≠ .cell v) : Inv X pins' σ H s :=
  ⟨I.ok, I.os, I.bare, I.base, I.loc, I.cell, I.free, I.freeC, fun p hp => (List.mem_append.mp hp).elim (fun z => I.pin p (List.mem_append_left _ z)) (h p), I.hok, I.len⟩

theorem K5 {N : List Str} (hN : N.Nodup) {i j : Nat} {x : Str} (a : N[i]? = some x) (b : N[j]? = some x) : i = j := by
  obtain ⟨h1, e1⟩ := List.getElem?_eq_some_iff.mp a
  obtain ⟨h2, e2⟩ := List.getElem?_eq_some_iff.mp b
  exact (List.getElem_inj hN).mp (e1.trans e2.symm)

theorem Xw {M : Model} {A : Around} {E : Value → Shared → Prop} {i : Nat} {x : Str} {v : V} {u : Value} {Q : Unit → Shared → Prop} (I : Inv X pins σ H s) (hN : X.N.Nodup) (hi : X.N[i]? = some x) (hx : Loc X.env.scope x) (r : RelV v u)
    (h : ∀ s', Inv X pins (σ.set i (some v)) H s' → (∃ a, Heap.SameBut a s.heap s'.heap ∧ (a = X.env.locals ∨ X.env.cells.lookup x = some a)) → Q () s') (hf : X.fn x = true ∨ X.env.scope.names.lookup x = some .local := by first | exact .inl rfl | exact .inr rfl | assumption) : wpAny M A (storeName X.env x u) Q E s := by
  obtain ⟨m, hn, hl⟩ := id I.loc
  have hcls : (X.env.scope.kind == .class || (X.env.scope.kind == .module && X.env.locals != X.env.globals)) = false := by rw [I.ok.kind]; rfl
  have hiσ : i < σ.length := by rw [I.len]; exact (List.getElem?_eq_some_iff.mp hi).1
  have cne := I.cne
  have tracked : ∀ {a : Addr} {h' : Heap}, (∃ o, s.heap.get? a = some o ∧ H a = none) → Heap.SameBut a s.heap h' → HOk X.prog X.w H h' := fun {a h'} ha hs b ob e => by
    obtain ⟨_, _, hfree⟩ := ha
    refine (I.hok b ob e).stay (fun c w' hc q => (hs.2 c ?_).trans q) (fun _ q => q) fun _ _ q => q
    rintro rfl
    rcases hc with rfl | hc
    · rw [hfree] at e; cases e
    · rw [hfree] at hc; cases hc
  rcases hx with hk | hk
  · refine wpAny_storeName_local hk hn (fun h' hn' hs => ?_) hcls
    obtain ⟨oL, _, _, hoL, _⟩ := id hn
    refine h _ ⟨I.ok, I.os, I.bare, ⟨fun b o e n hb hx => ?_, fun b o e n hb hx => ?_, I.base.free, fun b o e hx => ?_, I.base.tups, I.base.frzs, I.base.tbls⟩, ⟨_, hn', fun j y v' e1 e2 e3 => ?_⟩, fun y c e => ?_, I.free, I.freeC, fun p hp => ?_, tracked ⟨oL, hoL, I.free⟩ hs, by simpa using I.len⟩ ⟨_, hs, .inl rfl⟩
    · exact (hs.2 b (Nat.ne_of_lt (Nat.lt_of_lt_of_le (Heap.lt_size e) I.ok.above))).trans (I.base.keep b o e n hb hx)
    · obtain ⟨sl, e1⟩ := I.base.slot b o e n hb hx
      exact ⟨sl, (hs.2 b (Nat.ne_of_lt (Nat.lt_of_lt_of_le (Heap.lt_size e) I.ok.above))).trans e1⟩
    · obtain ⟨o', e1⟩ := I.base.there b o e hx
      exact ⟨o', (hs.2 b (Nat.ne_of_lt (Nat.lt_of_lt_of_le (Heap.lt_size e) I.ok.above))).trans e1⟩
    · by_cases hj : j = i
      · subst hj
        rw [hi] at e1; cases e1
        rw [List.getElem?_set_self hiσ] at e2
        cases e2
        exact ⟨u, r, .inl ⟨hk, by simp⟩⟩
      · rw [List.getElem?_set_ne (Ne.symm hj)] at e2
        obtain ⟨u', r', q⟩ := hl j y v' e1 e2 e3
        refine ⟨u', r', ?_⟩
        rcases q with ⟨k, e⟩ | ⟨k, c, e, z⟩
        · refine .inl ⟨k, ?_⟩
          have : y ≠ x := fun e => hj (K5 hN e1 (e ▸ hi))
          simp [this, e]
        · exact .inr ⟨k, c, e, z.sameBut hs (cne y c e)⟩
    · obtain ⟨w', z⟩ := I.cell y c e
      exact ⟨w', z.sameBut hs (cne y c e)⟩
    · obtain ⟨e, n, ne, nf, d⟩ := I.pin p hp
      exact ⟨(hs.2 p.1 ne).trans e, n, ne, nf, d⟩
  · have hfn : X.fn x = true := by
      rcases hf with z | z
      · exact z
      · rw [z] at hk; cases hk
    obtain ⟨c, hc⟩ := I.ok.has x (.inl hk)
    obtain ⟨w', z⟩ := I.cell x c hc
    refine wpAny_storeName_cell I.ok.kind hk hc z (fun h' hc' hs => ?_)
    obtain ⟨oc, hoc, hocd⟩ := id z
    refine h { s with heap := h' } ⟨I.ok, I.os, I.bare, ⟨fun b o e n hb hx => ?_, fun b o e n hb hx => ?_, I.base.free, fun b o e hx => ?_, I.base.tups, I.base.frzs, I.base.tbls⟩, ⟨m, hn.sameBut hs (Ne.symm (cne x c hc)), fun j y v' e1 e2 e3 => ?_⟩, fun y c' e => ?_, I.free, I.freeC, fun p hp => ?_, tracked ⟨oc, hoc, I.freeC x c hc⟩ hs, by simpa using I.len⟩ ⟨c, hs, .inr hc⟩
    · exact (hs.2 b (Nat.ne_of_lt (Nat.lt_of_lt_of_le (Heap.lt_size e) (I.ok.cab x c hfn hc)))).trans (I.base.keep b o e n hb hx)
    · obtain ⟨sl, e1⟩ := I.base.slot b o e n hb hx
      exact ⟨sl, (hs.2 b (Nat.ne_of_lt (Nat.lt_of_lt_of_le (Heap.lt_size e) (I.ok.cab x c hfn hc)))).trans e1⟩
    · obtain ⟨o', e1⟩ := I.base.there b o e hx
      exact ⟨o', (hs.2 b (Nat.ne_of_lt (Nat.lt_of_lt_of_le (Heap.lt_size e) (I.ok.cab x c hfn hc)))).trans e1⟩
    · by_cases hj : j = i
      · subst hj
        rw [hi] at e1; cases e1
        rw [List.getElem?_set_self hiσ] at e2
        cases e2
        exact ⟨u, r, .inr ⟨.inl hk, c, hc, hc'⟩⟩
      · rw [List.getElem?_set_ne (Ne.symm hj)] at e2
        obtain ⟨u', r', q⟩ := hl j y v' e1 e2 e3
        refine ⟨u', r', ?_⟩
        rcases q with q | ⟨k, c', e, z'⟩
        · exact .inl q
        · refine .inr ⟨k, c', e, z'.sameBut hs ?_⟩
          rintro rfl
          exact hj (K5 hN e1 (I.ok.inj _ _ _ e hc ▸ hi))
    · by_cases hcc : c' = c
      · subst hcc; exact ⟨_, hc'⟩
      · obtain ⟨w2, z2⟩ := I.cell y c' e
        exact ⟨w2, z2.sameBut hs hcc⟩
    · obtain ⟨e, n, ne, nf, d⟩ := I.pin p hp
      refine ⟨(hs.2 p.1 ?_).trans e, n, ne, nf, d⟩
      intro q
      rw [q, hoc] at e
      have q' : oc = p.2 := Option.some.inj e
      exact d w' (by rw [← q']; exact hocd)
theorem Km {M : Model} {A : Around} {E : Value → Shared → Prop} {i : Nat} {x : Str} {v : V} {u : Value} {Q : Unit → Shared → Prop} (I : Inv X pins σ H s) (hN : X.N.Nodup) (hi : X.N[i]? = some x) (hx : Loc X.env.scope x) (r : RelV v u)
    (h : ∀ s', Inv X pins (σ.set i (some v)) H s' → Q () s') (hf : X.fn x = true ∨ X.env.scope.names.lookup x = some .local := by first | exact .inl rfl | exact .inr rfl | assumption) : wpAny M A (storeName X.env x u) Q E s :=
  Xw I hN hi hx r (fun s' I' _ => h s' I') hf
theorem Inv.call' {s' : Shared} {ch : List Addr} (I : Inv X pins σ H s) (ho : s'.os = s.os) (u : Un (frs X.stack) ch H H' s.heap s'.heap) (hok : HOk X.prog X.w H' s'.heap) (hg : AllBare s'.gens)
    (hch : ∀ b ∈ ch, (b ∈ X.ex ∨ X.s₀.heap.objs.size ≤ b) ∧ b ≠ X.env.locals ∧ (∀ x c, X.env.cells.lookup x = some c → c ≠ b) ∧ ∀ p ∈ X.pn ++ pins, p.1 ≠ b) : Inv X pins σ H' s' := by
  obtain ⟨h', g', d', t', o'⟩ := s'
  have e : o' = s.os := ho
  subst e
  exact I.call (g' := g') (t' := t') (d' := d') u hok hg hch
end

noncomputable abbrev XK := Value → Option Addr → Hp → Prop
noncomputable abbrev St := List (Option V)
noncomputable abbrev VK := V → Hp → Prop
noncomputable abbrev TE := St → Hp → VK → Prop
noncomputable abbrev TT := St → Hp → (Bool → Hp → Prop) → Prop
noncomputable abbrev TA := St → Hp → (List V → Hp → Prop) → Prop
structure Ends where
  nx : St → Hp → Prop
  rt : VK
  bk : St → Hp → Prop := fun _ _ => False
  ct : St → Hp → Prop := fun _ _ => False
noncomputable abbrev TS := Ends → St → Hp → Prop

noncomputable def EP (X : Cx) (pins : List (Addr × Obj)) (σ : St) (Q : VK) (u : Value) (s' : Shared) : Prop := ∃ v H', Inv X pins σ H' s' ∧ RelV v u ∧ Q v H'
noncomputable def TP (X : Cx) (pins : List (Addr × Obj)) (σ : St) (Q : Bool → Hp → Prop) (b : Bool) (s' : Shared) : Prop := ∃ H', Inv X pins σ H' s' ∧ Q b H'
noncomputable def AP (X : Cx) (pins : List (Addr × Obj)) (σ : St) (Q : List V → Hp → Prop) (us : List Value) (s' : Shared) : Prop := ∃ vs H', Inv X pins σ H' s' ∧ Vals vs us ∧ Q vs H'
noncomputable def SP (X : Cx) (pins : List (Addr × Obj)) (D : Ends) (f : Flow) (s' : Shared) : Prop :=
  match f with
  | .next => ∃ σ' H', Inv X pins σ' H' s' ∧ D.nx σ' H'
  | .brk => ∃ σ' H', Inv X pins σ' H' s' ∧ D.bk σ' H'
  | .cont => ∃ σ' H', Inv X pins σ' H' s' ∧ D.ct σ' H'
  | .ret u => ∃ v σ' H', Inv X pins σ' H' s' ∧ RelV v u ∧ D.rt v H'

noncomputable def PE (X : Cx) (e : Expr) (t : TE) : Prop :=
  ∀ (pins : List (Addr × Obj)) (s : Shared) (σ : St) (H : Hp) (Q : VK), Inv X pins σ H s → t σ H Q → wpAny (model X.prog X.w) X.A (eval e X.env) (EP X pins σ Q) X.xe s
noncomputable def PT (X : Cx) (e : Expr) (t : TT) : Prop :=
  ∀ (pins : List (Addr × Obj)) (s : Shared) (σ : St) (H : Hp) (Q : Bool → Hp → Prop), Inv X pins σ H s → t σ H Q → wpAny (model X.prog X.w) X.A (isTrue e X.env (eval e X.env)) (TP X pins σ Q) X.xe s
noncomputable def PW (X : Cx) (e : Expr) (t : TT) : Prop :=
  ∀ (whole : Sem Value) (pins : List (Addr × Obj)) (s : Shared) (σ : St) (H : Hp) (Q : Bool → Hp → Prop), Inv X pins σ H s → t σ H Q → wpAny (model X.prog X.w) X.A (isTrue e X.env whole) (TP X pins σ Q) X.xe s
theorem PW.pt {X : Cx} {e : Expr} {t : TT} (h : PW X e t) : PT X e t := h _
noncomputable def PA (X : Cx) (es : List Expr) (t : TA) : Prop :=
  ∀ (pos : Pos) (pins : List (Addr × Obj)) (s : Shared) (σ : St) (H : Hp) (Q : List V → Hp → Prop), Inv X pins σ H s → t σ H Q → wpAny (model X.prog X.w) X.A (spliced (backTo pos (starEach es X.env))) (AP X pins σ Q) X.xe s
noncomputable def PS (X : Cx) (st : Stmt) (t : TS) : Prop :=
  ∀ (pins : List (Addr × Obj)) (s : Shared) (σ : St) (H : Hp) (D : Ends), Inv X pins σ H s → t D σ H → wpAny (model X.prog X.w) X.A (exec st X.env) (SP X pins D) X.xe s
noncomputable def PSs (X : Cx) (st : List Stmt) (t : TS) : Prop :=
  ∀ (pins : List (Addr × Obj)) (s : Shared) (σ : St) (H : Hp) (D : Ends), Inv X pins σ H s → t D σ H → wpAny (model X.prog X.w) X.A (execs st X.env) (SP X pins D) X.xe s
theorem thn {α : Type} {t : Sem α} {Q Q' : α → Shared → Prop} {M : Model} {A : Around} {E : Value → Shared → Prop} {s : Shared} (h : wpAny M A t Q E s) (hQ : ∀ a s, Q a s → Q' a s) : wpAny M A t Q' E s := wpAny_mono h hQ fun _ _ x => x
end L2

namespace L2
open PySem PySem.Spec PyProof.Rows
section
variable {X : Cx}

theorem bin {a b : Expr} {ta tb : TE} (ha : PE X a ta) (hb : PE X b tb) {pins : List (Addr × Obj)} {s : Shared} {σ : St} {H : Hp} {R : V → V → Hp → Prop} (I : Inv X pins σ H s) (h : ta σ H fun x H1 => tb σ H1 fun y H2 => R x y H2)
    {α : Type} {Q : α → Shared → Prop} {f : Value → Value → Sem α}
    (hf : ∀ v u s2 x y H2, Inv X pins σ H2 s2 → RelV x v → RelV y u → R x y H2 → wpAny (model X.prog X.w) X.A (f v u) Q X.xe s2) :
    wpAny (model X.prog X.w) X.A (eval a X.env) (fun v s₁ => wpAny (model X.prog X.w) X.A (eval b X.env) (fun u s₂ => wpAny (model X.prog X.w) X.A (f v u) Q X.xe s₂) X.xe s₁) X.xe s := by
  refine thn (ha pins s σ H _ I h) fun v s1 ⟨x, H1, I1, r1, q1⟩ => ?_
  refine thn (hb pins s1 σ H1 _ I1 q1) fun u s2 ⟨y, H2, I2, r2, q2⟩ => ?_
  exact hf v u s2 x y H2 I2 r1 r2 q2

noncomputable def QfK (i : Nat) : TE := fun σ H Q => ∃ v, σ[i]? = some (some v) ∧ Q v H
noncomputable def tC (v : V) : TE := fun _ H Q => Q v H
theorem Qce {i : Nat} {x : Str} {pos : Pos} (hN : X.N[i]? = some x) (hv : Vis X.env.scope x) (hd : (x == ("__debug__" : Str)) = false := by decide) (hcd : (x == ("__classdict__" : Str)) = false := by decide) : PE X (.Name x pos) (QfK i) := by
  intro pins s σ H Q I h
  obtain ⟨v, e, h⟩ := h
  obtain ⟨m, hn, hl⟩ := I.loc
  obtain ⟨u, r, l⟩ := hl i x v hN e hv
  have fin : EP X pins σ Q u s := ⟨v, H, I, r, h⟩
  rcases l with ⟨hk, hm⟩ | ⟨hk, c, hc, hcell⟩
  · exact wpAny_Name (wpAny_loadName_local I.ok.kind hk hn hm fin) hd
  · rcases hk with hk | hk
    · exact wpAny_Name (wpAny_loadName_cell I.ok.kind hk hc hcell fin) hd
    · exact wpAny_Name (wpAny_loadName_free I.ok.kind hk hc hcell fin hcd) hd
theorem Qbz {i j pos} : PE X (.Constant (.int i) j pos) (tC (.int i)) := fun _ _ _ H _ I h => wpAny_Constant_int ⟨.int i, H, I.tok _, ⟨_, rfl⟩, h⟩
theorem Qd9 {b j pos} : PE X (.Constant (.bool b) j pos) (tC (.bl b)) := fun _ _ _ H _ I h => Constant_bool ⟨.bl b, H, I, rfl, h⟩
theorem QbO {x j pos} : PE X (.Constant (.str x) j pos) (tC (.str x)) := fun _ _ _ H _ I h => Calls.Constant_str ⟨.str x, H, I.tok _, ⟨_, rfl⟩, h⟩

noncomputable def Gl (X : Cx) (x : Str) : Prop := X.env.kindOf x = some .globalImplicit
theorem Qbs {E : Value → Shared → Prop} {pins : List (Addr × Obj)} {s : Shared} {σ : St} {H : Hp} {x : Str} {u : Value} {pos : Pos} {Q : Value → Shared → Prop} (I : Inv X pins σ H s) (hg : Gl X x) (hm : X.mg x = some u) (h : Q u s)
    (hd : (x == ("__debug__" : Str)) = false := by decide) : wpAny (model X.prog X.w) X.A (eval (.Name x pos) X.env) Q E s :=
  Calls.Name_function_global I.ok.kind hg (Calls.loadGlobal_global (by rw [I.ok.glob]; exact I.mod.glob.keeps I.bk) hm h) hd
theorem JT {E : Value → Shared → Prop} {pins : List (Addr × Obj)} {s : Shared} {σ : St} {H : Hp} {x : Str} {u : Value} {pos : Pos} {Q : Value → Shared → Prop} (I : Inv X pins σ H s) (hg : Gl X x) (hm : X.mg x = none) (hv : bootBuiltins x = some u) (h : Q u s)
    (hn : x ≠ "__name__" := by decide) (hd : (x == ("__debug__" : Str)) = false := by decide) : wpAny (model X.prog X.w) X.A (eval (.Name x pos) X.env) Q E s := by
  obtain ⟨mb, h1, h2⟩ := I.mod.blt
  exact Calls.Name_function_global I.ok.kind hg (Calls.loadGlobal_builtin (by rw [I.ok.glob]; exact I.mod.glob.keeps I.bk) hm (by rw [I.ok.blt]; exact h1.keeps I.bk) ((h2 x hn).trans hv) h) hd
theorem QaD {x : Str} {v : V} {u : Value} {pos : Pos} (hg : Gl X x) (hm : X.mg x = none) (hv : bootBuiltins x = some u) (r : RelV v u) (hn : x ≠ "__name__" := by decide) (hd : (x == ("__debug__" : Str)) = false := by decide) : PE X (.Name x pos) (tC v) :=
  fun _ _ _ H _ I h => JT I hg hm hv ⟨v, H, I, r, h⟩ hn hd

variable {a b : Expr} {ta tb : TE} {pos : Pos}
variable {tA tB' : TT} {rest : List Expr}
noncomputable def QeO (t u : TT) : TT := fun σ H Q => t σ H fun c H1 => if c = true then u σ H1 Q else Q false H1
noncomputable def tOr (t u : TT) : TT := fun σ H Q => t σ H fun c H1 => if c = true then Q true H1 else u σ H1 Q
noncomputable def Qfy (t : TT) : TT := fun σ H Q => t σ H fun c H1 => Q (!c) H1
theorem Qbc (ha : PT X a tA) : PW X (.BoolOp .And [a] pos) tA := by
  intro wh pins s σ H Q I h
  refine isTrue_and (thn (ha pins s σ H Q I h) fun c s1 e => ?_)
  cases c with
  | true => exact isTrue_and_nil e
  | false => exact e
theorem Qb9 (ha : PT X a tA) : PW X (.BoolOp .Or [a] pos) tA := by
  intro wh pins s σ H Q I h
  refine isTrue_or (thn (ha pins s σ H Q I h) fun c s1 e => ?_)
  cases c with
  | false => exact isTrue_or_nil e
  | true => exact e
theorem Qc0 (ha : PT X a tA) (hb : PW X (.BoolOp .And (b :: rest) pos) tB') : PW X (.BoolOp .And (a :: b :: rest) pos) (QeO tA tB') := by
  intro wh pins s σ H Q I h
  refine isTrue_and (thn (ha pins s σ H _ I h) fun c s1 ⟨H1, I1, q1⟩ => ?_)
  cases c with
  | true => exact hb wh pins s1 σ H1 Q I1 q1
  | false => exact ⟨H1, I1, q1⟩
theorem Qdr (ha : PT X a tA) (hb : PW X (.BoolOp .Or (b :: rest) pos) tB') : PW X (.BoolOp .Or (a :: b :: rest) pos) (tOr tA tB') := by
  intro wh pins s σ H Q I h
  refine isTrue_or (thn (ha pins s σ H _ I h) fun c s1 ⟨H1, I1, q1⟩ => ?_)
  cases c with
  | true => exact ⟨H1, I1, q1⟩
  | false => exact hb wh pins s1 σ H1 Q I1 q1
theorem Qcp (ha : PT X a tA) : PT X (.UnaryOp .Not a pos) (Qfy tA) := by
  intro pins s σ H Q I h
  exact isTrue_not (ha pins s σ H (fun c H1 => Q (!c) H1) I h)
end
end L2

namespace L2
open PySem PySem.Spec PyProof.Rows

noncomputable def SqL (K : PySem.W.Frag) (H : Hp) (a : Addr) (xs : List V) : Prop :=
  Rd H a (.lst xs) ∨
    ∃ (o : Obj) (its : Array Value) (n : Nat), K.lookup a = some o ∧ o.cls = .type "list" ∧ o.dict = none ∧ o.data = .seq its n ∧ its.size ≤ sizeLine ∧ Vals xs its.toList
noncomputable def SqT (K : PySem.W.Frag) (H : Hp) (a : Addr) (xs : List V) : Prop :=
  Rd H a (.tup xs) ∨
    ∃ (o : Obj) (its : Array Value) (n : Nat), K.lookup a = some o ∧ o.cls = .type "tuple" ∧ o.data = .seq its n ∧ its.size ≤ sizeLine ∧ Vals xs its.toList
noncomputable def QfX : Value → Option V
  | .none => some .non
  | .bool b => some (.bl b)
  | .int i _ => some (.int i)
  | .str x _ => some (.str x)
  | .bytes b _ => some (.byt b)
  | .float b _ => some (.flt b)
  | .ref a => some (.ref a)
  | .type n => some (.ty n)
  | _ => none
theorem RelV.abs {x : V} {u : Value} (r : RelV x u) : QfX u = some x := by
  cases x with
  | non => cases r; rfl
  | bl _ => cases r; rfl
  | int _ => obtain ⟨t, rfl⟩ := r; rfl
  | str _ => obtain ⟨t, rfl⟩ := r; rfl
  | byt _ => obtain ⟨t, rfl⟩ := r; rfl
  | flt _ => obtain ⟨t, rfl⟩ := r; rfl
  | ref _ => cases r; rfl
  | ty _ => cases r; rfl
theorem RelV.inj {x y : V} {u : Value} (r : RelV x u) (q : RelV y u) : x = y := Option.some.inj (r.abs.symm.trans q.abs)
theorem Vals.inj : ∀ {xs ys : List V} {us : List Value}, Vals xs us → Vals ys us → xs = ys
  | _, _, _, .nil, .nil => rfl
  | _, _, _, .cons r t, .cons r' t' => by rw [r.inj r', Vals.inj t t']
section
variable {X : Cx} {pins : List (Addr × Obj)} {σ : St} {H : Hp} {s : Shared} {a : Addr} {xs ys : List V}
theorem SqL.of {K : PySem.W.Frag} (h : H a = some (.lst xs)) : SqL K H a xs := .inl (.inl h)
theorem SqT.of {K : PySem.W.Frag} (h : H a = some (.tup xs)) : SqT K H a xs := .inl (.inl h)
theorem Inv.list (I : Inv X pins σ H s) (h : SqL X.K H a xs) : ∃ its : List Value, Vals xs its ∧ PlainL s.heap a its.toArray ∧ xs.length ≤ sizeLine := by
  rcases h with h | ⟨o, its, n, hk, hc, hd, hs, hz, r⟩
  · obtain ⟨z, its, n, r, e⟩ := h.ok I.hok
    exact ⟨its, r, ⟨_, n, e, rfl, rfl, rfl⟩, z⟩
  · refine ⟨its.toList, r, ⟨o, n, I.kIn a o hk, hc, hd, by simpa using hs⟩, ?_⟩
    have e := r.length
    simp only [Array.length_toList] at e
    omega
theorem Inv.tuple (I : Inv X pins σ H s) (h : SqT X.K H a xs) : ∃ its : List Value, Vals xs its ∧ IsTup s.heap a its.toArray ∧ xs.length ≤ sizeLine := by
  rcases h with h | ⟨o, its, n, hk, hc, hs, hz, r⟩
  · obtain ⟨z, its, r, p⟩ := h.ok I.hok
    exact ⟨its, r, p, z⟩
  · refine ⟨its.toList, r, ⟨o, I.kIn a o hk, hc, n, by simpa using hs⟩, ?_⟩
    have e := r.length
    simp only [Array.length_toList] at e
    omega
theorem Inv.list_inj (I : Inv X pins σ H s) (h : SqL X.K H a xs) (h' : SqL X.K H a ys) : xs = ys := by
  obtain ⟨its, r, ⟨o, n, e, _, _, d⟩, _⟩ := I.list h
  obtain ⟨its', r', ⟨o', n', e', _, _, d'⟩, _⟩ := I.list h'
  rw [e] at e'; cases e'
  rw [d] at d'
  injection d' with d1 _
  have : its = its' := by simpa using congrArg Array.toList d1
  subst this
  exact r.inj r'
theorem Inv.tuple_inj (I : Inv X pins σ H s) (h : SqT X.K H a xs) (h' : SqT X.K H a ys) : xs = ys := by
  obtain ⟨its, r, ⟨o, e, _, n, d⟩, _⟩ := I.tuple h
  obtain ⟨its', r', ⟨o', e', _, n', d'⟩, _⟩ := I.tuple h'
  rw [e] at e'; cases e'
  rw [d] at d'
  injection d' with d1 _
  have : its = its' := by simpa using congrArg Array.toList d1
  subst this
  exact r.inj r'
end

noncomputable abbrev Cx.wish (X : Cx) (E : Value → Shared → Prop) : Cx := { X with xe := E }
noncomputable abbrev Cx.nox (X : Cx) : Cx := X.wish fun _ _ => False
theorem Cx.Ok.wish {X : Cx} (ok : X.Ok) (E : Value → Shared → Prop) : (X.wish E).Ok :=
  ⟨ok.mod, ok.kind, ok.glob, ok.blt, ok.above, ok.inj, ok.has, ok.cab, ok.hd, ok.frames, ok.stk, ok.exf, ok.bs, ok.bsz, ok.noex, ok.exfs, ok.funs, ok.frf⟩
theorem Cx.Ok.unwish {X : Cx} {E : Value → Shared → Prop} (ok : (X.wish E).Ok) : X.Ok :=
  ⟨ok.mod, ok.kind, ok.glob, ok.blt, ok.above, ok.inj, ok.has, ok.cab, ok.hd, ok.frames, ok.stk, ok.exf, ok.bs, ok.bsz, ok.noex, ok.exfs, ok.funs, ok.frf⟩
section
variable {X : Cx} {pins : List (Addr × Obj)} {σ : St} {H : Hp} {s : Shared} {E : Value → Shared → Prop}
theorem Inv.wish (I : Inv X pins σ H s) (E : Value → Shared → Prop) : Inv (X.wish E) pins σ H s := ⟨I.ok.wish E, I.os, I.bare, I.base, I.loc, I.cell, I.free, I.freeC, I.pin, I.hok, I.len⟩
theorem Inv.unwish (I : Inv (X.wish E) pins σ H s) : Inv X pins σ H s := ⟨I.ok.unwish, I.os, I.bare, I.base, I.loc, I.cell, I.free, I.freeC, I.pin, I.hok, I.len⟩
theorem SP.unwish {D : Ends} {f : Flow} {s' : Shared} (h : SP (X.wish E) pins D f s') : SP X pins D f s' := by
  cases f with
  | next => obtain ⟨σ', H', I, q⟩ := h; exact ⟨σ', H', I.unwish, q⟩
  | brk => obtain ⟨σ', H', I, q⟩ := h; exact ⟨σ', H', I.unwish, q⟩
  | cont => obtain ⟨σ', H', I, q⟩ := h; exact ⟨σ', H', I.unwish, q⟩
  | ret u => obtain ⟨v, σ', H', I, r, q⟩ := h; exact ⟨v, σ', H', I.unwish, r, q⟩
theorem PSs.nox {st : List Stmt} {t : TS} (h : PSs X.nox st t) : PSs X st t := fun pins s σ H D I hw =>
  wpAny_mono (h pins s σ H D (I.wish _) hw) (fun _ _ q => q.unwish) fun _ _ z => False.elim z
end

section
variable {X : Cx} {st : Stmt} {rest : List Stmt} {t u : TS} {e : Expr} {te : TE} {pos : Pos}
noncomputable def QdA : TS := fun D σ H => D.nx σ H
noncomputable def Qen (t u : TS) : TS := fun D σ H => t { D with nx := u D } σ H
theorem Qbr : PSs X [] QdA := fun _ _ σ H _ I h => wpAny_execs_nil ⟨σ, H, I, h⟩
theorem UM (h1 : PS X st t) (h2 : PSs X rest u) : PSs X (st :: rest) (Qen t u) := by
  intro pins s σ H D I h
  refine wpAny_execs_cons (thn (h1 pins s σ H { D with nx := u D } I h) fun f s1 q => ?_)
  cases f with
  | next =>
    obtain ⟨σ', H', I', q⟩ := q
    exact h2 pins s1 σ' H' D I' q
  | ret v => exact q
  | brk => exact q
  | cont => exact q
theorem QaW (h1 : PS X st t) : PSs X [st] t := by
  intro pins s σ H D I h
  refine wpAny_execs_cons (thn (h1 pins s σ H D I h) fun f s1 q => ?_)
  cases f with
  | next => exact wpAny_execs_nil q
  | ret v => exact q
  | brk => exact q
  | cont => exact q
theorem Inv.quiet {pins : List (Addr × Obj)} {σ : St} {H : Hp} {s : Shared} (I : Inv X pins σ H s) : interactive X.env = false := by simp [interactive, I.ok.kind]
noncomputable def Qd6 (te : TE) : TS := fun D σ H => te σ H fun _ H1 => D.nx σ H1
theorem QaE (he : PE X e te) (hs : swapsWith e none pos.line X.env = pure false := by rfl) : PS X (.Expr e pos) (Qd6 te) := by
  intro pins s σ H D I h
  exact wpAny_Expr_any (thn (he pins s σ H _ I h) fun v s1 ⟨x, H1, I1, r1, q1⟩ => ⟨σ, H1, I1, q1⟩) I.quiet hs
noncomputable def Qft (te : TE) : TS := fun D σ H => te σ H D.rt
theorem Qcq (he : PE X e te) : PS X (.Return (some e) pos) (Qft te) := by
  intro pins s σ H D I h
  exact wpAny_Return_some (thn (he pins s σ H _ I h) fun v s1 ⟨x, H1, I1, r1, q1⟩ => ⟨x, σ, H1, I1, r1, q1⟩)
noncomputable def Qfp (c : TT) (t u : TS) : TS := fun D σ H => c σ H fun b H1 => if b = true then t D σ H1 else u D σ H1
theorem Qdh {c : Expr} {a b : List Stmt} {tc : TT} (hc : PT X c tc) (ha : PSs X a t) (hb : PSs X b u) : PS X (.If c a b pos) (Qfp tc t u) := by
  intro pins s σ H D I h
  refine wpAny_If (thn (hc pins s σ H _ I h) fun d s1 ⟨H1, I1, q1⟩ => ?_)
  cases d with
  | true => exact ha pins s1 σ H1 D I1 q1
  | false => exact hb pins s1 σ H1 D I1 q1
end

noncomputable abbrev TG := V → St → Hp → (St → Hp → Prop) → Prop
noncomputable abbrev TGs := List V → St → Hp → (St → Hp → Prop) → Prop
noncomputable def PG (X : Cx) (target : Expr) (t : TG) : Prop :=
  ∀ (pins : List (Addr × Obj)) (s : Shared) (σ : St) (H : Hp) (v : V) (u : Value) (Q : St → Hp → Prop), Inv X pins σ H s → RelV v u → t v σ H Q →
    wpAny (model X.prog X.w) X.A (assign target X.env u) (fun _ s' => ∃ σ' H', Inv X pins σ' H' s' ∧ Q σ' H') X.xe s
noncomputable def PGs (X : Cx) (ts : List Expr) (t : TGs) : Prop :=
  ∀ (pins : List (Addr × Obj)) (s : Shared) (σ : St) (H : Hp) (vs : List V) (us : List Value) (Q : St → Hp → Prop), Inv X pins σ H s → Vals vs us → t vs σ H Q →
    wpAny (model X.prog X.w) X.A (assignInOrder ((assignEach ts X.env).map (·.2)) us) (fun _ s' => ∃ σ' H', Inv X pins σ' H' s' ∧ Q σ' H') X.xe s
section
variable {X : Cx} {pos : Pos}
noncomputable def Wq (i : Nat) : TG := fun v σ H Q => Q (σ.set i (some v)) H
theorem Wk {i : Nat} {x : Str} (hN : X.N.Nodup) (hi : X.N[i]? = some x) (hx : Loc X.env.scope x) (hf : X.fn x = true ∨ X.env.scope.names.lookup x = some .local := by first | exact .inl rfl | exact .inr rfl | assumption) : PG X (.Name x pos) (Wq i) := by
  intro pins s σ H v u Q I r h
  exact wpAny_assign_Name (Km I hN hi hx r (fun s' I' => ⟨_, H, I', h⟩) hf)
noncomputable def Qev : TGs := fun vs σ H Q => vs = [] ∧ Q σ H
noncomputable def QcN (t : TG) (u : TGs) : TGs := fun vs σ H Q => ∃ v r, vs = v :: r ∧ t v σ H fun σ' H' => u r σ' H' Q
theorem Qa8 : PGs X [] Qev := by
  intro pins s σ H vs us Q I r h
  obtain ⟨e, h⟩ := h
  subst e
  cases r
  exact assignInOrder_nil ⟨σ, H, I, h⟩
theorem Gg {e : Expr} {es : List Expr} {t : TG} {u : TGs} (h1 : PG X e t) (h2 : PGs X es u)
    (hs : (assignEach (e :: es) X.env).map (·.2) = assign e X.env :: (assignEach es X.env).map (·.2) := by rfl) : PGs X (e :: es) (QcN t u) := by
  intro pins s σ H vs us Q I r h
  obtain ⟨v, vr, e1, h⟩ := h
  subst e1
  cases r with
  | cons r rr =>
    rw [hs]
    refine assignInOrder_cons (thn (h1 pins s σ H _ _ _ I r h) fun _ s1 ⟨σ1, H1, I1, q1⟩ => ?_)
    exact h2 pins s1 σ1 H1 _ _ Q I1 rr q1
noncomputable def Qe4 (K : PySem.W.Frag) (n : Nat) (t : TGs) : TG := fun v σ H Q => ∃ a xs, v = .ref a ∧ SqT K H a xs ∧ xs.length = n ∧ t xs σ H Q
theorem QcE {es : List Expr} {k : Nat} {t : TGs} {n : Nat} (hc : X.calm = true) (h : PGs X es t)
    (hn : (assignEach es X.env).length = n := by rfl) (hst : (assignEach es X.env).findIdx? (·.1) = none := by rfl) : PG X (.Tuple es k pos) (Qe4 X.K n t) := by
  intro pins s σ H v u Q I r hw
  obtain ⟨a, xs, e1, hq, hl, hw⟩ := hw
  subst e1
  cases r
  obtain ⟨its, rv, ht, hz⟩ := I.tuple hq
  refine assign_Tuple_tuple (I.ok.hd hc) ht (by simp [hn, ← hl, rv.length]) hst fun h' hx => ?_
  have I1 : Inv X pins σ H { s with heap := h' } := I.kept (t' := s.toks) fun b o e => hx b o (Nat.ne_of_lt (Heap.lt_size e)) e
  exact h pins _ σ H xs _ Q I1 (by simpa using rv) hw
noncomputable def Qd5 (te : TE) (g : TG) : TS := fun D σ H => te σ H fun x H1 => g x σ H1 D.nx
theorem Qb6 {tg e : Expr} {te : TE} {g : TG} (he : PE X e te) (hg : PG X tg g) (hs : swapsWithSole [tg] e pos.line X.env = pure false := by rfl) (hw : swappedStores [tg] e X.env = pure none := by rfl)
    (h1 : (assignEach [tg] X.env).map (·.2) = [assign tg X.env] := by rfl) : PS X (.Assign [tg] e pos) (Qd5 te g) := by
  intro pins s σ H D I h
  refine wpAny_Assign_stores (thn (he pins s σ H _ I h) fun v s1 ⟨x, H1, I1, r1, q1⟩ => ?_) hs hw
  rw [h1]
  exact thn (hg pins s1 σ H1 x v _ I1 r1 q1) fun _ s2 q => q
theorem G7 {i : Nat} {x : Str} {e : Expr} {te : TE} {pos' : Pos} (hN : X.N.Nodup) (hi : X.N[i]? = some x) (hx : Loc X.env.scope x) (he : PE X e te) (hs : swapsWith e (some (.Name x pos')) pos.line X.env = pure false := by rfl) (hf : X.fn x = true ∨ X.env.scope.names.lookup x = some .local := by first | exact .inl rfl | exact .inr rfl | assumption) :
    PS X (.Assign [.Name x pos'] e pos) (Qd5 te (Wq i)) := by
  intro pins s σ H D I h
  refine wpAny_Assign_Name (thn (he pins s σ H _ I h) fun v s1 ⟨y, H1, I1, r1, q1⟩ => ?_) hs
  exact Km I1 hN hi hx r1 (fun s2 I2 => ⟨_, H1, I2, q1⟩) hf
end

section
variable {X : Cx} {pos : Pos}
end

structure It where
  go : Nat → Hp → Prop
  yld : Nat → Hp → V → Hp → Prop
  stop : Nat → Hp → Prop
noncomputable def Uh (X : Cx) (pins : List (Addr × Obj)) (H : Hp) (b : Addr) : Prop :=
  H b = none ∧ b ≠ X.env.locals ∧ b ∉ X.fs ∧ (b ∈ X.ex ∨ X.s₀.heap.objs.size ≤ b) ∧ (∀ x c, X.env.cells.lookup x = some c → c ≠ b) ∧ ∀ p ∈ X.pn ++ pins, p.1 ≠ b
theorem Inv.fpOk {X : Cx} {pins : List (Addr × Obj)} {σ : St} {H H' : Hp} {s : Shared} {b : Addr} (I : Inv X pins σ H s) (hb : s.heap.objs.size ≤ b) (hn : H' b = none) : Uh X pins H' b := by
  refine ⟨hn, Nat.ne_of_gt (Nat.lt_of_lt_of_le I.lt hb), I.nofs hb, .inr (Nat.le_trans I.sz hb), fun x c e z => ?_, fun p hp z => ?_⟩
  · obtain ⟨v, q⟩ := I.cell x c e
    exact absurd (Nat.lt_of_lt_of_le q.lt (by rw [z]; exact hb)) (Nat.lt_irrefl _)
  · exact absurd (Nat.lt_of_lt_of_le (Heap.lt_size (I.pin p hp).1) (by rw [z]; exact hb)) (Nat.lt_irrefl _)
structure Turn (P : Program) (w : World) (K : PySem.W.Frag) (tg : Expr) (J : It) (fp : List Addr) (it : Addr) (tn : Nat → Heap → Prop) : Prop where
  mem : it ∈ fp
  obj : ∀ i h, tn i h → ∀ b ∈ fp, ∃ o, h.get? b = some o ∧ ∀ v, o.data ≠ .cell v
  keep : ∀ i h h', tn i h → (∀ b ∈ fp, ∀ o, h.get? b = some o → h'.get? b = some o) → tn i h'
  item : ∀ (X : Cx), X.prog = P → X.w = w → X.K = K → X.calm = true → ∀ (i : Nat) (pins : List (Addr × Obj)) (s : Shared) (σ : St) (H : Hp) (E : Value → Shared → Prop), Inv X pins σ H s → (∀ b ∈ fp, Uh X pins H b) → tn i s.heap → J.go i H →
    wpAny (model P w) X.A (pyNext (.ref it)) (fun r s1 => ∃ u, r = some u ∧
      wpAny (model P w) X.A (letOwnedTupleGo tg (.ref it) u) (fun _ s2 => ∃ x H', Inv X pins σ H' s2 ∧ RelV x u ∧ J.yld i H x H' ∧ tn (i + 1) s2.heap ∧ ∀ b ∈ fp, H' b = none) E s1) E s
  done : ∀ (X : Cx), X.prog = P → X.w = w → X.K = K → X.calm = true → ∀ (i : Nat) (pins : List (Addr × Obj)) (s : Shared) (σ : St) (H : Hp) (E : Value → Shared → Prop), Inv X pins σ H s → (∀ b ∈ fp, Uh X pins H b) → tn i s.heap → J.stop i H →
    wpAny (model P w) X.A (pyNext (.ref it)) (fun r s1 => r = none ∧ Inv X pins σ H s1) E s
  self : ∀ (A : Around) (i : Nat) (s : Shared) (Q : Value → Shared → Prop) (E : Value → Shared → Prop), tn i s.heap → Q (.ref it) s → wpAny (model P w) A (pyIter (.ref it)) Q E s
noncomputable abbrev TI := St → Hp → (It → Hp → Prop) → Prop
noncomputable def PIE (X : Cx) (pins : List (Addr × Obj)) (σ : St) (tg : Expr) (R : It → Hp → Prop) (itv : Value) (s2 : Shared) : Prop :=
  ∃ (it : Addr) (fp : List Addr) (tn : Nat → Heap → Prop) (J : It) (H' : Hp), itv = .ref it ∧ Inv X pins σ H' s2 ∧ Turn X.prog X.w X.K tg J fp it tn ∧ tn 0 s2.heap ∧ (∀ b ∈ fp, Uh X pins H' b) ∧ R J H'
noncomputable def PI (X : Cx) (tg iter : Expr) (wi : TI) : Prop :=
  ∀ (pins : List (Addr × Obj)) (s : Shared) (σ : St) (H : Hp) (R : It → Hp → Prop), Inv X pins σ H s → wi σ H R →
    wpAny (model X.prog X.w) X.A (eval iter X.env) (fun v s1 => wpAny (model X.prog X.w) X.A (pyIter v) (PIE X pins σ tg R) X.xe s1) X.xe s

theorem Yo {M : Model} {A : Around} {E : Value → Shared → Prop} {s : Shared} {tg : Expr} {it : Addr} {u : Value} {o : Obj} {n : String} {vs : Array Value} {Q : Unit → Shared → Prop} (ho : s.heap.get? it = some o) (hc : o.cls = .type n) (hd : o.data = .fields vs)
    (hn : ["enumerate", "zip", "dict_itemiterator", "dict_reverseitemiterator", "odict_iterator", "itertools.zip_longest", "itertools.pairwise"].contains n = false) (hQ : Q () s) : wpAny M A (letOwnedTupleGo tg (.ref it) u) Q E s := by
  unfold letOwnedTupleGo
  cases tg <;> first
    | exact wpAny_pure hQ
    | (cases u <;> first
        | exact wpAny_pure hQ
        | (refine wpAny_bind (wpAny_load ho ?_)
           rw [hc, hd]
           show wpAny M A (if (["enumerate", "zip", "dict_itemiterator", "dict_reverseitemiterator", "odict_iterator", "itertools.zip_longest", "itertools.pairwise"].contains n && vs[0]? == some (rawInt _)) = true then _ else _) Q E s
           rw [if_neg (by intro h; rw [hn, Bool.false_and] at h; cases h)]
           exact wpAny_pure hQ))

noncomputable def Itl (K : PySem.W.Frag) (a : Addr) : It :=
  ⟨fun i H => ∃ xs x, SqL K H a xs ∧ xs[i]? = some x, fun i H x H' => H' = H ∧ ∀ xs, SqL K H a xs → xs[i]? = some x, fun i H => ∃ xs, SqL K H a xs ∧ xs.length ≤ i⟩
noncomputable def Itt (K : PySem.W.Frag) (a : Addr) : It :=
  ⟨fun i H => ∃ xs x, SqT K H a xs ∧ xs[i]? = some x, fun i H x H' => H' = H ∧ ∀ xs, SqT K H a xs → xs[i]? = some x, fun i H => ∃ xs, SqT K H a xs ∧ xs.length ≤ i⟩
noncomputable def Itr (lo : Int) (n : Nat) : It := ⟨fun i _ => i < n, fun i H x H' => H' = H ∧ x = .int (lo + i), fun i _ => n ≤ i⟩
theorem Wo {P : Program} {w : World} {K : PySem.W.Frag} {tg : Expr} (a it : Addr) : Turn P w K tg (Itl K a) [it] it (fun i h => h.IsListIter it a i) where
  mem := by simp
  obj := fun i h st b hb => by
    have e : b = it := by simpa using hb
    subst e
    obtain ⟨o, e, c, d⟩ := st
    exact ⟨o, e, fun v z => by rw [d] at z; cases z⟩
  keep := fun i h h' st k => st.at fun o e => k it (by simp) o e
  item := by
    intro X hP hw hK hc i pins s σ H E I hf st hg
    subst hP hw hK
    obtain ⟨xs, x, hq, hx⟩ := hg
    obtain ⟨its, rv, p, hz⟩ := I.list hq
    obtain ⟨u, hu, ru⟩ := rv.get hx
    obtain ⟨f0, f1, f2, f3, f4, f5⟩ := hf it (by simp)
    refine wpAny_pyNext_list_item st p.isList (x := u) (by simpa using hu) fun h' st' sb => ?_
    have I1 : Inv X pins σ H { s with heap := h' } := I.turned (t' := s.toks) (fun b o hb e => (sb.2 b hb).trans e) f0 f1 f3 f4 f5
    obtain ⟨o, e, c, d⟩ := id st'
    exact ⟨u, rfl, Yo (s := { s with heap := h' }) e c d (by decide) ⟨x, H, I1, ru, ⟨rfl, fun ys hy => by rw [I.list_inj hy hq]; exact hx⟩, st', fun b hb => (hf b hb).1⟩⟩
  done := by
    intro X hP hw hK hc i pins s σ H E I hf st hg
    subst hP hw hK
    obtain ⟨xs, hq, hx⟩ := hg
    obtain ⟨its, rv, p, hz⟩ := I.list hq
    obtain ⟨f0, f1, f2, f3, f4, f5⟩ := hf it (by simp)
    have hl := rv.length
    exact wpAny_pyNext_list_end (I.ok.hd hc) st p.isList (by simp; omega) fun h' eb => ⟨rfl, I.turned (t' := s.toks) (fun b o hb e => eb b o hb e) f0 f1 f3 f4 f5⟩
  self := fun _ _ _ _ _ st h => wpAny_pyIter_listiter st h
theorem Yy {P : Program} {w : World} {K : PySem.W.Frag} {tg : Expr} (a it : Addr) : Turn P w K tg (Itt K a) [it] it (fun i h => h.IsTupleIter it a i) where
  mem := by simp
  obj := fun i h st b hb => by
    have e : b = it := by simpa using hb
    subst e
    obtain ⟨o, e, c, d⟩ := st
    exact ⟨o, e, fun v z => by rw [d] at z; cases z⟩
  keep := fun i h h' st k => st.at fun o e => k it (by simp) o e
  item := by
    intro X hP hw hK hc i pins s σ H E I hf st hg
    subst hP hw hK
    obtain ⟨xs, x, hq, hx⟩ := hg
    obtain ⟨its, rv, p, hz⟩ := I.tuple hq
    obtain ⟨u, hu, ru⟩ := rv.get hx
    obtain ⟨f0, f1, f2, f3, f4, f5⟩ := hf it (by simp)
    refine wpAny_pyNext_tuple_item st (show s.heap.IsTuple a its.toArray from p) (x := u) (by simpa using hu) fun h' st' sb => ?_
    have I1 : Inv X pins σ H { s with heap := h' } := I.turned (t' := s.toks) (fun b o hb e => (sb.2 b hb).trans e) f0 f1 f3 f4 f5
    obtain ⟨o, e, c, d⟩ := id st'
    exact ⟨u, rfl, Yo (s := { s with heap := h' }) e c d (by decide) ⟨x, H, I1, ru, ⟨rfl, fun ys hy => by rw [I.tuple_inj hy hq]; exact hx⟩, st', fun b hb => (hf b hb).1⟩⟩
  done := by
    intro X hP hw hK hc i pins s σ H E I hf st hg
    subst hP hw hK
    obtain ⟨xs, hq, hx⟩ := hg
    obtain ⟨its, rv, p, hz⟩ := I.tuple hq
    obtain ⟨f0, f1, f2, f3, f4, f5⟩ := hf it (by simp)
    have hl := rv.length
    exact wpAny_pyNext_tuple_end (I.ok.hd hc) st (show s.heap.IsTuple a its.toArray from p) (by simp; omega) fun h' eb => ⟨rfl, I.turned (t' := s.toks) (fun b o hb e => eb b o hb e) f0 f1 f3 f4 f5⟩
  self := fun _ _ _ _ _ st h => wpAny_pyIter_tupleiter st h
theorem Yu {P : Program} {w : World} {K : PySem.W.Frag} {tg : Expr} (it : Addr) (lo : Int) (n : Nat) : Turn P w K tg (Itr lo n) [it] it (fun i h => IsRangeIter h it (lo + (i : Nat) * 1) ((n : Int) - (i : Nat)) 1) where
  mem := by simp
  obj := fun i h st b hb => by
    have e : b = it := by simpa using hb
    subst e
    exact ⟨_, st, fun v z => by
      have z' : Data.fields _ = Data.cell v := z
      cases z'⟩
  keep := fun i h h' st k => k it (by simp) _ st
  item := by
    intro X hP hw hK hc i pins s σ H E I hf st hg
    subst hP hw hK
    obtain ⟨f0, f1, f2, f3, f4, f5⟩ := hf it (by simp)
    have W := Walks.range (prog := X.prog) (w := X.w) (I.ok.hd hc) it lo 1 n
    refine W.item i s _ _ hg st fun v h' tk hv st' kk => ?_
    obtain ⟨t, rfl⟩ := hv
    have I1 : Inv X pins σ H { s with heap := h', toks := tk } := I.turned (fun b o hb e => kk b o (by simpa using hb) e) f0 f1 f3 f4 f5
    refine ⟨_, rfl, Yo (s := { s with heap := h', toks := tk }) (n := "range_iterator") st' rfl rfl (by decide) ⟨.int (lo + i), H, I1, ⟨t, ?_⟩, ⟨rfl, rfl⟩, st', fun b hb => (hf b hb).1⟩⟩
    rw [Int.mul_one]
  done := by
    intro X hP hw hK hc i pins s σ H E I hf st hg
    subst hP hw hK
    obtain ⟨f0, f1, f2, f3, f4, f5⟩ := hf it (by simp)
    exact wpAny_pyNext_range_end (I.ok.hd hc) st (by have : n ≤ i := hg; omega) fun h' eb => ⟨rfl, I.turned (t' := s.toks) (fun b o hb e => eb b o hb e) f0 f1 f3 f4 f5⟩
  self := fun _ _ _ _ _ st h => wpAny_pyIter_rangeiter st h
end L2

namespace L2
open PySem PySem.Spec PyProof.Rows
section
variable {X : Cx} {tg : Expr}
theorem Uz {pins : List (Addr × Obj)} {σ : St} {H : Hp} {s : Shared} {R : It → Hp → Prop} {E : Value → Shared → Prop} {lo hi : Int} {t u v : Tok} {tk : Nat} (I : Inv X pins σ H s) (h1 : -(2 ^ 62) ≤ lo) (h2 : lo < 2 ^ 62) (h3 : -(2 ^ 62) ≤ hi) (h4 : hi < 2 ^ 62)
    (q : R (Itr lo (hi - lo).toNat) H) : wpAny (model X.prog X.w) X.A (pyIter (.ref s.heap.objs.size)) (PIE X pins σ tg R) E { s with heap := s.heap.push { cls := .type "range", data := .fields #[.int lo t, .int hi u, .int 1 v] }, toks := tk } := by
  refine wpAny_pyIter_range (IsRange.new ..) (small_one h1 h2 h3 h4) ?_
  have I1 : Inv X pins σ H { s with heap := s.heap.push { cls := .type "range", data := .fields #[.int lo t, .int hi u, .int 1 v] }, toks := tk } := I.kept fun b o e => Heap.get?_push_of_some _ e
  refine ⟨(s.heap.push { cls := .type "range", data := .fields #[.int lo t, .int hi u, .int 1 v] }).objs.size, [(s.heap.push { cls := .type "range", data := .fields #[.int lo t, .int hi u, .int 1 v] }).objs.size], _, _, H, rfl,
    I1.kept (t' := tk) fun b o e => Heap.get?_push_of_some _ e, Yu _ lo (hi - lo).toNat, ?_, fun b hb => ?_, q⟩
  · have e1 : lo + ((0 : Nat) : Int) * 1 = lo := by simp
    have e2 : (((hi - lo).toNat : Nat) : Int) - ((0 : Nat) : Int) = Builtin.Range.rangeSize lo hi 1 := by rw [rangeSize_one]; split <;> omega
    show IsRangeIter _ _ (lo + ((0 : Nat) : Int) * 1) ((((hi - lo).toNat : Nat) : Int) - ((0 : Nat) : Int)) 1
    rw [e1, e2]
    exact Heap.get?_push_size _ rfl
  · have e : b = (s.heap.push { cls := .type "range", data := .fields #[.int lo t, .int hi u, .int 1 v] }).objs.size := by simpa using hb
    subst e
    exact I1.fpOk (Nat.le_refl _) (I1.hok.fresh (Nat.le_refl _))
noncomputable def QdX (ta : TA) : TI := fun σ H R => ta σ H fun vs H1 => ∃ j : Int, vs = [.int j] ∧ -(2 ^ 62) ≤ j ∧ j < 2 ^ 62 ∧ R (Itr 0 j.toNat) H1
theorem WL {a : Expr} {ta : TA} {p pos : Pos} (hg : Gl X "range") (hm : X.mg "range" = none) (ha : PA X [a] ta) (hs : starEach [a] X.env = [(false, eval a X.env)] := by rfl) : PI X tg (.Call (.Name "range" p) [a] [] pos) (QdX ta) := by
  intro pins s σ H R I h
  refine Call_ (JT I hg hm boot_range (PyProof.Rows.callWith_type1 (thn (ha pos pins s σ H _ I h) fun us s1 ⟨vs, H1, I1, r1, q1⟩ => ?_) hs rfl))
  obtain ⟨j, e, q1, q2, q⟩ := q1
  subst e
  cases r1 with
  | cons r rr =>
    cases rr
    obtain ⟨t, rfl⟩ := r
    exact call_range_1 (Uz I1 (by omega) (by omega) q1 q2 (by simpa using q))
noncomputable def QeM (wi : TI) (g : TG) (tb : TS) : TS := fun D σ H => wi σ H fun J H1 => ∃ W : Nat → Nat → St → Hp → Prop, (∃ m, W 0 m σ H1) ∧ ∀ i m σ H, W i m σ H →
  (J.stop i H ∧ D.nx σ H) ∨ (J.go i H ∧ ∃ N : St → Hp → Prop, (∀ σ' H', N σ' H' → ∃ m', m' < m ∧ W (i + 1) m' σ' H') ∧ ∀ x H', J.yld i H x H' → g x σ H' fun σ2 H2 => tb { D with nx := N, ct := N, bk := D.nx } σ2 H2)
noncomputable def XJ (fp : List Addr) (h : Heap) : List (Addr × Obj) := fp.filterMap fun b => (h.get? b).map fun o => (b, o)
theorem ZQ {fp : List Addr} {h : Heap} {b : Addr} {o : Obj} (hb : b ∈ fp) (e : h.get? b = some o) : (b, o) ∈ XJ fp h := List.mem_filterMap.mpr ⟨b, hb, by rw [e]; rfl⟩
theorem WH {fp : List Addr} {h : Heap} {p : Addr × Obj} (hp : p ∈ XJ fp h) : p.1 ∈ fp ∧ h.get? p.1 = some p.2 := by
  obtain ⟨b, hb, e⟩ := List.mem_filterMap.mp hp
  cases q : h.get? b with
  | none => rw [q] at e; cases e
  | some o =>
    rw [q] at e
    have e' : (b, o) = p := Option.some.inj e
    subst e'
    exact ⟨hb, q⟩
theorem Inv.pinned {pins : List (Addr × Obj)} {σ : St} {H : Hp} {s : Shared} {fp : List Addr} (I : Inv X pins σ H s) (hf : ∀ b ∈ fp, Uh X pins H b) (ho : ∀ b ∈ fp, ∃ o, s.heap.get? b = some o ∧ ∀ v, o.data ≠ .cell v) : Inv X (pins ++ XJ fp s.heap) σ H s :=
  I.pins_of fun p hp => (List.mem_append.mp hp).elim (fun z => I.pin p (List.mem_append_right _ z)) fun z => by
    obtain ⟨hb, e⟩ := WH z
    obtain ⟨f0, f1, f2, _⟩ := hf p.1 hb
    obtain ⟨o, e', d⟩ := ho p.1 hb
    rw [e] at e'; cases e'
    exact ⟨e, f0, f1, f2, d⟩
theorem Inv.unpinned {pins pl : List (Addr × Obj)} {σ : St} {H : Hp} {s : Shared} (I : Inv X (pins ++ pl) σ H s) : Inv X pins σ H s := I.pins_of fun p hp => I.pin p (List.mem_append_right _ (List.mem_append_left _ hp))
theorem QbH {iter : Expr} {body : List Stmt} {wi : TI} {g : TG} {tb : TS} {pos : Pos} (hp : PassesOwn (model X.prog X.w) X.A X.env X.xe) (hc : X.calm = true) (hi : PI X tg iter wi) (hg : PG X tg g) (hb : PSs X body tb)
    (hs : ∀ x, foldedSetIterable iter X.env x = pure x := by intro _; rfl) : PS X (.For tg iter body [] pos) (QeM wi g tb) := by
  intro pins s σ H D I h
  refine wpAny_For (thn (hi pins s σ H _ I h) fun v s1 h1 => thn h1 fun itv s2 h2 => ?_) hs
  obtain ⟨it, fp, tn, J, H2, e, I2, T, st2, f2, W, ⟨m0, w0⟩, turn⟩ := h2
  subst e
  -- what stays true of the iterator's objects through the loop
  have stat : ∀ {H' : Hp}, (∀ b ∈ fp, H' b = none) → ∀ b ∈ fp, Uh X pins H' b := fun hn b hb => ⟨hn b hb, (f2 b hb).2⟩
  refine codeAny_forLoop_any (fun n s' => ∃ i σ' H', Inv X pins σ' H' s' ∧ tn i s'.heap ∧ (∀ b ∈ fp, H' b = none) ∧ W i n σ' H') ?_ m0 ⟨0, σ, H2, I2, st2, fun b hb => (f2 b hb).1, w0⟩
  rintro n s3 ⟨i, σ3, H3, I3, st3, fr3, w3⟩
  rcases turn i n σ3 H3 w3 with ⟨stop, qn⟩ | ⟨go, N, hN, step⟩
  · refine wpAny_passesOwn hp (thn (T.done X rfl rfl rfl hc i pins s3 σ3 H3 X.xe I3 (stat fr3) st3 stop) fun r s4 ⟨hr, I4⟩ => ?_)
    subst hr
    exact wpAny_execs_nil ⟨σ3, H3, I4, qn⟩
  · refine wpAny_passesOwn hp (thn (T.item X rfl rfl rfl hc i pins s3 σ3 H3 X.xe I3 (stat fr3) st3 go) fun r s4 ⟨u, hr, h4⟩ => ?_)
    subst hr
    refine wpAny_passesOwn hp (thn h4 fun _ s5 ⟨x, H5, I5, r5, y5, st5, fr5⟩ => ?_)
    have I5' := I5.pinned (stat fr5) (T.obj _ _ st5)
    refine wpAny_passesOwn hp (thn (hg _ s5 σ3 H5 x u _ I5' r5 (step x H5 y5)) fun _ s6 ⟨σ6, H6, I6, q6⟩ => ?_)
    refine wpAny_passesOwn hp (thn (hb _ s6 σ6 H6 _ I6 q6) fun f s7 q7 => ?_)
    have again : ∀ {σ7 : St} {H7 : Hp}, Inv X (pins ++ XJ fp s5.heap) σ7 H7 s7 → N σ7 H7 → ∃ m, m < n ∧ ∃ i σ' H', Inv X pins σ' H' s7 ∧ tn i s7.heap ∧ (∀ b ∈ fp, H' b = none) ∧ W i m σ' H' := fun {σ7 H7} I7 n7 => by
      obtain ⟨m', hm, w7⟩ := hN σ7 H7 n7
      refine ⟨m', hm, i + 1, σ7, H7, I7.unpinned, T.keep _ _ _ st5 fun b hb o e => (I7.pin (b, o) (List.mem_append_right _ (List.mem_append_right _ (ZQ hb e)))).1, fun b hb => ?_, w7⟩
      obtain ⟨o, e, d⟩ := T.obj _ _ st5 b hb
      exact (I7.pin (b, o) (List.mem_append_right _ (List.mem_append_right _ (ZQ hb e)))).2.1
    cases f with
    | next => obtain ⟨σ7, H7, I7, n7⟩ := q7; exact again I7 n7
    | cont => obtain ⟨σ7, H7, I7, n7⟩ := q7; exact again I7 n7
    | brk => obtain ⟨σ7, H7, I7, q7⟩ := q7; exact ⟨σ7, H7, I7.unpinned, q7⟩
    | ret v => obtain ⟨x7, σ7, H7, I7, r7, q7⟩ := q7; exact ⟨x7, σ7, H7, I7.unpinned, r7, q7⟩
end

end L2

namespace L2
open PySem PySem.Spec PyProof.Rows

noncomputable abbrev R2 := V → V → Hp → VK → Prop
noncomputable def OpR (X : Cx) (f : Value → Value → Sem Value) (r : R2) : Prop :=
  ∀ (pins : List (Addr × Obj)) (s : Shared) (σ : St) (H : Hp) (x y : V) (v u : Value) (Q : VK), Inv X pins σ H s → RelV x v → RelV y u → r x y H Q →
    wpAny (model X.prog X.w) X.A (f v u) (EP X pins σ Q) X.xe s
noncomputable def CallR (X : Cx) (f : Value) (r : List V → Hp → VK → Prop) : Prop :=
  ∀ (pins : List (Addr × Obj)) (s : Shared) (σ : St) (H : Hp) (xs : List V) (us : List Value) (Q : VK), Inv X pins σ H s → Vals xs us → r xs H Q →
    wpAny (model X.prog X.w) X.A (call f us) (EP X pins σ Q) X.xe s
noncomputable def Qe8 (X : Cx) (r : V → Hp → (Bool → Hp → Prop) → Prop) : Prop :=
  ∀ (pins : List (Addr × Obj)) (s : Shared) (σ : St) (H : Hp) (x : V) (v : Value) (Q : Bool → Hp → Prop), Inv X pins σ H s → RelV x v → r x H Q →
    wpAny (model X.prog X.w) X.A (truthy v) (TP X pins σ Q) X.xe s

noncomputable def tOp (r : R2) (ta tb : TE) : TE := fun σ H Q => ta σ H fun x H1 => tb σ H1 fun y H2 => r x y H2 Q
noncomputable def rI (C : Int → Int → Prop) (g : Int → Int → V) : R2 := fun x y H Q => ∃ i j, x = .int i ∧ y = .int j ∧ C i j ∧ Q (g i j) H
noncomputable def rI0 (g : Int → Int → V) : R2 := fun x y H Q => ∃ i j, x = .int i ∧ y = .int j ∧ Q (g i j) H
section
variable {X : Cx} {a b c : Expr} {ta tb tc : TE} {pos : Pos}

theorem Qdj (ha : PE X a ta) (hb : PE X b tb) {pins : List (Addr × Obj)} {s : Shared} {σ : St} {H : Hp} {R : V → V → Hp → Prop} (I : Inv X pins σ H s)
    (h : ta σ H fun x H1 => tb σ H1 fun y H2 => R x y H2) {Q : Value → Shared → Prop} {f : Value → Value → Sem Value}
    (hf : ∀ v u s2 x y H2, Inv X pins σ H2 s2 → RelV x v → RelV y u → R x y H2 → wpAny (model X.prog X.w) X.A (f v u) Q X.xe s2) :
    wpAny (model X.prog X.w) X.A (eval a X.env) (fun v s₁ => wpAny (model X.prog X.w) X.A (eval b X.env) (fun u s₂ => wpAny (model X.prog X.w) X.A (f v u) Q X.xe s₂) X.xe s₁) X.xe s := by
  refine thn (ha pins s σ H _ I h) fun v s1 ⟨x, H1, I1, r1, q1⟩ => ?_
  refine thn (hb pins s1 σ H1 _ I1 q1) fun u s2 ⟨y, H2, I2, r2, q2⟩ => ?_
  exact hf v u s2 x y H2 I2 r1 r2 q2

theorem Qdt {op : Operator} {r : R2} (ho : OpR X (binaryOp op) r) (ha : PE X a ta) (hb : PE X b tb) : PE X (.BinOp a op b pos) (tOp r ta tb) := by
  intro pins s σ H Q I h
  exact wpAny_BinOp (Qdj ha hb I h fun v u s2 x y H2 I2 rx ry q => ho pins s2 σ H2 x y v u Q I2 rx ry q)
theorem opI {f : Value → Value → Sem Value} {C : Int → Int → Prop} {g : Int → Int → Int}
    (rule : ∀ (i j : Int) (t u : Tok) (s : Shared) (Q : Value → Shared → Prop) (E : Value → Shared → Prop), C i j → Q (.int (g i j) s.toks) { s with toks := s.toks + 1 } → wpAny (model X.prog X.w) X.A (f (.int i t) (.int j u)) Q E s) :
    OpR X f (rI C fun i j => .int (g i j)) := by
  intro pins s σ H x y v u Q I rx ry h
  obtain ⟨i, j, rfl, rfl, hc, q⟩ := h
  obtain ⟨t, rfl⟩ := rx
  obtain ⟨t', rfl⟩ := ry
  exact rule i j t t' s _ _ hc ⟨.int (g i j), H, I.tok _, ⟨_, rfl⟩, q⟩
theorem Qf2 {f : Value → Value → Sem Value} {g : Int → Int → Int}
    (rule : ∀ (i j : Int) (t u : Tok) (s : Shared) (Q : Value → Shared → Prop) (E : Value → Shared → Prop), Q (.int (g i j) s.toks) { s with toks := s.toks + 1 } → wpAny (model X.prog X.w) X.A (f (.int i t) (.int j u)) Q E s) :
    OpR X f (rI0 fun i j => .int (g i j)) := by
  intro pins s σ H x y v u Q I rx ry h
  obtain ⟨i, j, rfl, rfl, q⟩ := h
  obtain ⟨t, rfl⟩ := rx
  obtain ⟨t', rfl⟩ := ry
  exact rule i j t t' s _ _ ⟨.int (g i j), H, I.tok _, ⟨_, rfl⟩, q⟩
theorem Qek {f : Value → Value → Sem Value} {g : Int → Int → Bool}
    (rule : ∀ (i j : Int) (t u : Tok) (s : Shared) (Q : Value → Shared → Prop) (E : Value → Shared → Prop), Q (.bool (g i j)) s → wpAny (model X.prog X.w) X.A (f (.int i t) (.int j u)) Q E s) :
    OpR X f (rI0 fun i j => .bl (g i j)) := by
  intro pins s σ H x y v u Q I rx ry h
  obtain ⟨i, j, rfl, rfl, q⟩ := h
  obtain ⟨t, rfl⟩ := rx
  obtain ⟨t', rfl⟩ := ry
  exact rule i j t t' s _ _ ⟨.bl (g i j), H, I, rfl, q⟩

noncomputable def QfZ (i j : Int) : Prop := 0 < j ∧ j < 1073741824
noncomputable def Qfr (i j : Int) : Prop := 0 ≤ j ∧ j ≤ 1000000 ∧ i.natAbs < 2 ^ 64
noncomputable def CMul (i j : Int) : Prop := (-(2 ^ 64) < i ∧ i < 2 ^ 64) ∨ (-(2 ^ 64) < j ∧ j < 2 ^ 64)
theorem CMul.ok {i j : Int} (h : CMul i j) : IntMulOk i j := by
  rcases h with ⟨h1, h2⟩ | ⟨h1, h2⟩
  · exact .of_left (intBits_le_64 h1 h2)
  · exact .of_right (intBits_le_64 h1 h2)
theorem op_add : OpR X (binaryOp .Add) (rI0 fun i j => .int (i + j)) := Qf2 fun _ _ _ _ _ _ _ q => add_int q
theorem Qb1 : OpR X (binaryOp .Mult) (rI CMul fun i j => .int (i * j)) := opI fun _ _ _ _ _ _ _ hc q => mul_int q hc.ok
theorem Qat : OpR X (binaryOp .FloorDiv) (rI QfZ fun i j => .int (i / j)) := opI fun i j _ _ _ _ _ hc q => by
  have h1 : (0 : Int) < j := hc.1
  have h2 : j < 1073741824 := hc.2
  exact floordiv_int (by omega) (by rw [Int.fdiv_eq_ediv_of_nonneg i (by omega)]; exact q) (.inl (PyProof.noPylong_small (by omega)))
theorem QcJ : OpR X (binaryOp .Mod) (rI (fun _ j => 0 < j) fun i j => .int (i % j)) := opI fun i j _ _ _ _ _ hc q => by
  have h1 : (0 : Int) < j := hc
  exact mod_int' (by omega) (by rw [Int.fmod_eq_emod_of_nonneg i (by omega)]; exact q)
theorem Qca : OpR X (binaryOp .Pow) (rI Qfr fun i j => .int (i ^ j.toNat)) := opI fun _ _ _ _ _ _ _ hc q => pow_int_small hc.1 hc.2.1 hc.2.2 q
end

section
variable {X : Cx} {a b c : Expr} {ta tb tc : TE} {pos : Pos}
theorem Qcw {pins : List (Addr × Obj)} {σ : St} {H : Hp} {s : Shared} {Q : VK} {k k' : Bool} (I : Inv X pins σ H s) (q : Q (.bl k) H) (e : k = k') : EP X pins σ Q (.bool k') s := by
  subst e
  exact ⟨.bl k, H, I, rfl, q⟩
theorem op_lt : OpR X (compareOp .Lt) (rI0 fun i j => .bl (decide (i < j))) := Qek fun _ _ _ _ _ _ _ q => lt_int q
theorem Qd3 : OpR X (compareOp .Gt) (rI0 fun i j => .bl (decide (j < i))) := Qek fun _ _ _ _ _ _ _ q => gt_int q
theorem Ww : OpR X (compareOp .Lt) (fun x y H Q => ∃ i j, x = .str i ∧ y = .str j ∧ Q (.bl (decide (i.cps.toList < j.cps.toList))) H) := by
  intro pins s σ H x y v u Q I rx ry h
  obtain ⟨i, j, rfl, rfl, q⟩ := h
  obtain ⟨t, rfl⟩ := rx
  obtain ⟨t', rfl⟩ := ry
  exact lt_str (Qcw I q rfl)
theorem OpR.or {f : Value → Value → Sem Value} {r r' : R2} (h : OpR X f r) (h' : OpR X f r') : OpR X f (fun x y H Q => r x y H Q ∨ r' x y H Q) := by
  intro pins s σ H x y v u Q I rx ry q
  rcases q with q | q
  · exact h pins s σ H x y v u Q I rx ry q
  · exact h' pins s σ H x y v u Q I rx ry q

theorem QaR {op : CmpOp} {r : R2} (ho : OpR X (compareOp op) r) (ha : PE X a ta) (hb : PE X b tb) (hm : behindInMarks op b = false) : PE X (.Compare a [op] [b] pos) (tOp r ta tb) := by
  intro pins s σ H Q I h
  exact wpAny_Compare1 (Qdj ha hb I h fun v u s2 x y H2 I2 rx ry q => ho pins s2 σ H2 x y v u Q I2 rx ry q) hm
noncomputable def Qef (t : TE) : TT := fun σ H Q => t σ H fun x H' => ∃ k, x = .bl k ∧ Q k H'
theorem Qam {op : CmpOp} {r : R2} (ho : OpR X (compareOp op) r) (ha : PE X a ta) (hb : PE X b tb) (hm : behindInMarks op b = false) : PT X (.Compare a [op] [b] pos) (Qef (tOp r ta tb)) := by
  intro pins s σ H Q I h
  refine wpAny_isTrue_Compare1 (thn (ha pins s σ H _ I h) fun v s1 ⟨x, H1, I1, r1, q1⟩ => thn (hb pins s1 σ H1 _ I1 q1) fun u s2 ⟨y, H2, I2, r2, q2⟩ =>
    thn (ho pins s2 σ H2 x y v u _ I2 r1 r2 q2) fun c s3 ⟨z, H3, I3, r3, k, e, q3⟩ => ?_) hm
  subst e
  cases r3
  exact wpAny_truthy_bool ⟨H3, I3, q3⟩
noncomputable def QdC (K : PySem.W.Frag) (x : V) (H : Hp) (k : Bool) : Prop :=
  match x with
  | .non => k = false
  | .bl b => k = b
  | .int i => k = (i != 0)
  | .str y => y.length ≤ sizeLine ∧ k = ((y.length : Int) != 0)
  | .byt y => y.size ≤ sizeLine ∧ k = ((y.size : Int) != 0)
  | .ref p => (∃ xs, SqL K H p xs ∧ k = !xs.isEmpty) ∨ (∃ xs, SqT K H p xs ∧ k = !xs.isEmpty) ∨ ∃ kvs, H p = some (.dK kvs) ∧ k = !kvs.isEmpty
  | _ => False
theorem YC {κ : Type} {kvs : List (κ × V)} {vs : List (κ × Value)} (r : KV kvs vs) : (!vs.isEmpty) = !kvs.isEmpty := by
  cases r <;> rfl
theorem Vk {xs : List V} {its : List Value} (r : Vals xs its) : (!its.toArray.isEmpty) = !xs.isEmpty := by
  cases r <;> simp
theorem Vq : (sizeLine : Nat) < 2 ^ 63 := by rw [sizeLine_eq]; decide
theorem QbM : Qe8 X (fun x H Q => ∃ k, QdC X.K x H k ∧ Q k H) := by
  intro pins s σ H x v Q I rx h
  obtain ⟨k, e, q⟩ := h
  have hl := Vq
  have hs : sizeLine = 16777216 := sizeLine_eq
  cases x with
  | non =>
    cases rx
    have e' : k = false := e
    subst e'
    exact truthy_none ⟨H, I, q⟩
  | bl b =>
    cases rx
    have e' : k = b := e
    subst e'
    exact wpAny_truthy_bool ⟨H, I, q⟩
  | int i =>
    obtain ⟨t, rfl⟩ := rx
    have e' : k = (i != 0) := e
    subst e'
    exact PySem.P.truthy_int ⟨H, I, q⟩
  | str y =>
    obtain ⟨t, rfl⟩ := rx
    obtain ⟨hy, e'⟩ : y.length ≤ sizeLine ∧ k = ((y.length : Int) != 0) := e
    subst e'
    exact PySem.P.truthy_str (by omega) ⟨H, I.tok _, q⟩
  | byt y =>
    obtain ⟨t, rfl⟩ := rx
    obtain ⟨hy, e'⟩ : y.size ≤ sizeLine ∧ k = ((y.size : Int) != 0) := e
    subst e'
    exact PySem.W.truthy_bytes (by omega) ⟨H, I.tok _, q⟩
  | ref p =>
    cases rx
    have e' : (∃ xs, SqL X.K H p xs ∧ k = !xs.isEmpty) ∨ (∃ xs, SqT X.K H p xs ∧ k = !xs.isEmpty) ∨ ∃ kvs, H p = some (.dK kvs) ∧ k = !kvs.isEmpty := e
    rcases e' with ⟨xs, hx, e'⟩ | ⟨xs, hx, e'⟩ | ⟨kvs, hx, e'⟩
    · subst e'
      obtain ⟨its, r, pl, hz⟩ := I.list hx
      have hlen := r.length
      exact wpAny_truthy_list pl.isList (by simp only [List.size_toArray]; omega) ⟨H, I.tok _, by rw [Vk r]; exact q⟩
    · subst e'
      obtain ⟨its, r, pl, hz⟩ := I.tuple hx
      have hlen := r.length
      exact truthy_tuple pl (by simp only [List.size_toArray]; omega) ⟨H, I.tok _, by rw [Vk r]; exact q⟩
    · subst e'
      obtain ⟨hz, hS, vs, r, m⟩ : kvs.length ≤ sizeLine ∧ (p == sysModules) = false ∧ ∃ vs, KV kvs vs ∧ s.heap.DictOf (YJ X.prog X.w) p vs := I.hok p _ hx
      have hlen : kvs.length = vs.length := Paired.length r
      exact wpAny_truthy_dict hS m (by omega) ⟨H, I.tok _, by rw [YC r]; exact q⟩
  | _ => exact (show False from e).elim
theorem Uu (ha : PE X a ta) (he : ∀ whole, isTrue a X.env whole = (do let v ← whole; standAt a.pos; holding [v] (truthy v))) :
    PT X a (fun σ H Q => ta σ H fun x H' => ∃ k, QdC X.K x H' k ∧ Q k H') := by
  intro pins s σ H Q I h
  exact isTrue_plain (thn (ha pins s σ H _ I h) fun v s1 ⟨x, H1, I1, r1, q1⟩ => QbM pins s1 σ H1 x v Q I1 r1 q1) (he _)

theorem op_add_str : OpR X (binaryOp .Add) (fun x y H Q => ∃ i j, x = .str i ∧ y = .str j ∧ i.length + j.length ≤ sizeLine ∧ Q (.str (i ++ j)) H) := by
  intro pins s σ H x y v u Q I rx ry h
  obtain ⟨i, j, rfl, rfl, hz, q⟩ := h
  obtain ⟨t, rfl⟩ := rx
  obtain ⟨t', rfl⟩ := ry
  exact add_str (fun t' tk => ⟨.str (i ++ j), H, I.tok _, ⟨_, rfl⟩, q⟩) hz
theorem Xq {x : V} {us : List Value} (r : Vals [x] us) : ∃ u, us = [u] ∧ RelV x u := by
  cases r with
  | cons r1 r2 => cases r2; exact ⟨_, rfl, r1⟩
theorem Qba {x y : V} {us : List Value} (r : Vals [x, y] us) : ∃ u w', us = [u, w'] ∧ RelV x u ∧ RelV y w' := by
  cases r with
  | cons r1 r2 =>
    cases r2 with
    | cons r3 r4 => cases r4; exact ⟨_, _, rfl, r1, r3⟩
theorem YS : CallR X (.type "int") (fun xs H Q => (∃ i, xs = [.int i] ∧ Q (.int i) H) ∨ ∃ k, xs = [.bl k] ∧ Q (.int (if k then 1 else 0)) H) := by
  intro pins s σ H xs us Q I r h
  rcases h with ⟨i, rfl, q⟩ | ⟨k, rfl, q⟩
  · obtain ⟨u, rfl, t, rfl⟩ := Xq r
    exact call_int_int ⟨.int i, H, I, ⟨_, rfl⟩, q⟩
  · obtain ⟨u, rfl, r1⟩ := Xq r
    cases r1
    exact call_int_bool ⟨.int (if k then 1 else 0), H, I.tok _, ⟨_, rfl⟩, q⟩
end
end L2

namespace L2
open PySem PySem.Spec PyProof.Rows

structure ObjM (h : Heap) (x dx C : Addr) (mA : Str → Option Value) : Prop where
  obj : h.get? x = some (PySem.W.instObj C dx)
  ns : h.Ns1 dx mA
  ne : dx ≠ x

theorem W3 {h : Heap} {dx : Addr} {mA : Str → Option Value} (n : h.Ns1 dx mA) : ∃ od, h.get? dx = some od ∧ ∀ name, PySem.W.lookIn name od = some (mA name) := by
  obtain ⟨o, es, ep, ho, hd, hk, _, hm⟩ := n
  refine ⟨o, ho, fun name => ?_⟩
  have e := hm name
  unfold nsFind findBy at e
  rw [← Array.find?_toList] at e
  unfold PySem.W.lookIn
  rw [hd]
  dsimp only
  split
  · rename_i y q
    rw [q] at e
    exact congrArg some e
  · rename_i q
    rw [q] at e
    have a : es.toList.any (·.refKey) = false := by
      rw [List.any_eq_false]
      intro y hy
      obtain ⟨z, t, hkey⟩ := hk y (Array.mem_toList_iff.mp hy)
      simp [DictEntry.refKey, hkey]
    have a' : ¬ es.toList.any (·.refKey) = true := by rw [a]; exact Bool.false_ne_true
    rw [if_neg a']
    exact congrArg some e

theorem ObjM.look {h : Heap} {x dx C : Addr} {mA : Str → Option Value} (I : ObjM h x dx C mA) : ∃ od, PySem.W.InstAt h x (PySem.W.instObj C dx) C (some od) ∧ ∀ name, PySem.W.lookIn name od = some (mA name) :=
  let ⟨od, ho, hl⟩ := W3 I.ns
  ⟨od, ⟨I.obj, rfl, rfl, ho⟩, hl⟩

section
variable {prog : Program} {w : World} {A : Around} {E : Value → Shared → Prop} {s : Shared} {K : PySem.W.Frag} {x dx C f : Addr} {mA : Str → Option Value} {name : Str} {v : Value}

end

theorem RelO.some_of {v : V} {o : Option Value} (r : RelO (some v) o) : ∃ u, o = some u ∧ RelV v u := by
  cases o with
  | none => exact (show False from r).elim
  | some u => exact ⟨u, rfl, r⟩
theorem RelO.none_of {o : Option Value} (r : RelO none o) : o = none := by
  cases o with
  | none => rfl
  | some u => exact (show False from r).elim
section
variable {P : Program} {w : World} {H H' : Hp} {h h' : Heap} {a C dx : Addr} {fs fs' : List (Str × V)}
theorem Qbn (hok : HOk P w H h) (e : H a = some (.ins C dx fs)) : ∃ mA, ObjM h a dx C mA ∧ (∀ f, RelO (fs.lookup f) (mA f)) ∧ PySem.Within mA (fs.map (·.1)) ∧ fs.length ≤ 1000 ∧ H dx = some (.own a) := by
  obtain ⟨d, z, ne, ob, mA, n, r, q⟩ := (show ObjOk P w H h a (.ins C dx fs) from hok a _ e)
  exact ⟨mA, ⟨ob, n, ne⟩, r, q, z, d⟩
end

structure Cls (K : PySem.W.Frag) (C : Addr) : Prop where
  pg : PySem.W.plainGet K C Str.empty = true
  hd : PySem.W.hasDictIn K C = true
  po : PySem.W.plainOver K C = true
  sa : PySem.W.findIn K (.ref C) "__setattr__" = some (some (.builtin "object.__setattr__"))
theorem Cls.get {K : PySem.W.Frag} {C : Addr} (c : Cls K C) (f : Str) : PySem.W.plainGet K C f = true := c.pg
section
variable {X : Cx} {pins : List (Addr × Obj)} {σ : St} {H : Hp} {s : Shared} {a C dx : Addr} {fs : List (Str × V)} {f : Str} {v : V} {A : Around} {E : Value → Shared → Prop}

end

section
variable {X : Cx} {o e value : Expr} {f : Str} {pos pos' tpos : Pos} {ta tv : TE}
end

section
variable {X : Cx} {pins : List (Addr × Obj)} {σ : St} {H : Hp} {s : Shared} {A : Around} {E : Value → Shared → Prop} {Q : Value → Shared → Prop} {c : Value} {b : Bool}
inductive TyOf (K : PySem.W.Frag) (H : Hp) : V → Value → Prop where
  | non : TyOf K H .non (.type "NoneType")
  | bl (x : Bool) : TyOf K H (.bl x) (.type "bool")
  | int (i : Int) : TyOf K H (.int i) (.type "int")
  | str (x : Str) : TyOf K H (.str x) (.type "str")
  | flt (x : UInt64) : TyOf K H (.flt x) (.type "float")
  | lst {a : Addr} {xs : List V} (e : H a = some (.lst xs)) : TyOf K H (.ref a) (.type "list")
  | frz {a : Addr} {o : Obj} {xs : List V} (e : H a = some (.frz o (.lst xs))) : TyOf K H (.ref a) (.type "list")
  | tup {a : Addr} {xs : List V} (e : H a = some (.tup xs)) : TyOf K H (.ref a) (.type "tuple")
  | dK {a : Addr} {kvs : List (Key × V)} (e : H a = some (.dK kvs)) : TyOf K H (.ref a) (.type "dict")
  | dT {a : Addr} {kvs : List (Tr × Addr × V)} (e : H a = some (.dT kvs)) : TyOf K H (.ref a) (.type "dict")
  | ins {a C dx : Addr} {fs : List (Str × V)} (e : H a = some (.ins C dx fs)) (cl : Cls K C) (ha : PySem.W.findIn K (.ref C) "__class__" = some (some (.builtin "object.__class__")))
      (hn : PySem.W.specialIn K (.builtin "object.__class__") "__get__" = some (some (.builtin "getset_descriptor.__get__"))) (htk : PySem.W.takesIn K (.builtin "object.__class__") = some true)
      (hm : PySem.W.mroIn K C (.type "object") = some true) : TyOf K H (.ref a) (.ref C)
theorem WF {x : V} {u t : Value} (I : Inv X pins σ H s) (rx : RelV x u) (ty : TyOf X.K H x t) (e : PySem.W.kitOne X.K t c = some b) (h : ∀ tk, Q (.bool b) { s with toks := tk }) :
    wpAny (model X.prog X.w) A (call (.builtin "isinstance") [u, c]) Q E s := by
  cases ty with
  | non => cases (show u = Value.none from rx); exact PySem.W.kia_one PySem.W.kitx_none I.kIn True.intro e (fun z => nomatch z) h
  | bl y => cases (show u = Value.bool y from rx); exact PySem.W.kia_one PySem.W.kitx_bool I.kIn True.intro e (fun z => nomatch z) h
  | int i => obtain ⟨t, q⟩ := (show ∃ t, u = Value.int i t from rx); cases q; exact PySem.W.kia_one PySem.W.kitx_int I.kIn True.intro e (fun z => nomatch z) h
  | str y => obtain ⟨t, q⟩ := (show ∃ t, u = Value.str y t from rx); cases q; exact PySem.W.kia_one PySem.W.kitx_str I.kIn True.intro e (fun z => nomatch z) h
  | flt y => obtain ⟨t, q⟩ := (show ∃ t, u = Value.float y t from rx); cases q; exact PySem.W.kia_one PySem.W.kitx_float I.kIn True.intro e (fun z => nomatch z) h
  | @lst a xs ea =>
    cases (show u = Value.ref a from rx)
    obtain ⟨_, _, n, _, h1⟩ := (show ObjOk X.prog X.w H s.heap a (.lst xs) from I.hok a _ ea)
    exact PySem.W.kia_one PySem.W.kitx_list I.kIn ⟨_, h1, rfl⟩ e (fun z => nomatch z) h
  | @frz a ob xs ea =>
    cases (show u = Value.ref a from rx)
    obtain ⟨_, _, _, n, _, h1⟩ := (show ObjOk X.prog X.w H s.heap a (.frz ob (.lst xs)) from I.hok a _ ea)
    exact PySem.W.kia_one PySem.W.kitx_list I.kIn ⟨_, h1, rfl⟩ e (fun z => nomatch z) h
  | @tup a xs ea =>
    cases (show u = Value.ref a from rx)
    obtain ⟨_, _, _, p⟩ := (show ObjOk X.prog X.w H s.heap a (.tup xs) from I.hok a _ ea)
    obtain ⟨o, h1, h2, _⟩ := p
    exact PySem.W.kia_one PySem.W.kitx_tuple I.kIn ⟨o, h1, h2⟩ e (fun z => nomatch z) h
  | @dK a kvs ea =>
    cases (show u = Value.ref a from rx)
    obtain ⟨_, _, vs, _, p⟩ := (show ObjOk X.prog X.w H s.heap a (.dK kvs) from I.hok a _ ea)
    obtain ⟨o, es, ep, h1, h2, _⟩ := p
    exact PySem.W.kia_one PySem.W.kitx_dict I.kIn ⟨o, h1, h2.1⟩ e (fun z => nomatch z) h
  | @dT a kvs ea =>
    cases (show u = Value.ref a from rx)
    obtain ⟨_, _, xs, _, o, es, ep, h1, h2, _⟩ := (show ObjOk X.prog X.w H s.heap a (.dT kvs) from I.hok a _ ea)
    exact PySem.W.kia_one PySem.W.kitx_dict I.kIn ⟨o, h1, h2.1⟩ e (fun z => nomatch z) h
  | @ins a C dx fs ea cl ha hn htk hm =>
    cases (show u = Value.ref a from rx)
    obtain ⟨mA, O, _⟩ := Qbn I.hok ea
    obtain ⟨od, J, _⟩ := O.look
    exact PySem.W.kia_one (PySem.W.kitx_own (cl.get _) cl.hd ha hn htk hm) I.kIn J e (fun z => nomatch z) h
end
end L2

namespace L2
open PySem PySem.Spec PyProof.Rows

structure Room (k : Nat) (A : Around) : Prop where
  hd : A.handled = none
  dp : A.depth + 3 * k + 5 < recursionLimit
  un : A.units + 16 * k + 200 < cLine
theorem Room.mono {j k : Nat} {A : Around} (r : Room k A) (h : j ≤ k) : Room j A := ⟨r.hd, by have := r.dp; omega, by have := r.un; omega⟩
theorem Room.deeper {k : Nat} {A : Around} (r : Room (k + 1) A) (env : Env) : Room k (A.deeper env) :=
  ⟨r.hd, by have := r.dp; show A.depth + 1 + 3 * k + 5 < _; omega, by have := r.un; show A.units + 3 + 16 * k + 200 < _; omega⟩
theorem Room.depth {k : Nat} {A : Around} (r : Room k A) : A.depth < recursionLimit := by have := r.dp; omega
theorem Room.units {k : Nat} {A : Around} (r : Room k A) : A.units + 64 < cLine := by have := r.un; omega
noncomputable def Qf1 : TA := fun _ H Q => Q [] H
noncomputable def Qd8 (ta : TE) (tr : TA) : TA := fun σ H Q => ta σ H fun x H1 => tr σ H1 fun xs H2 => Q (x :: xs) H2
section
variable {X : Cx} {e : Expr} {es : List Expr} {te : TE} {t : TA} {pos : Pos}
theorem QbQ : PA X [] Qf1 := fun _ _ _ _ H Q I h => Calls.spliced_nil ⟨[], H, I, .nil, h⟩
theorem Qbi (ha : PE X e te) (hr : PA X es t) (hs : starEach (e :: es) X.env = (false, eval e X.env) :: starEach es X.env := by rfl) : PA X (e :: es) (Qd8 te t) := by
  intro pos pins s σ H Q I h
  rw [hs]
  show wpAny _ _ (spliced ((false, eval e X.env) :: backTo pos (starEach es X.env))) _ _ s
  refine Calls.spliced_cons (thn (ha pins s σ H _ I h) fun u s1 ⟨x, H1, I1, r1, q1⟩ => ?_)
  exact thn (hr pos pins s1 σ H1 _ I1 q1) fun us s2 ⟨xs, H2, I2, r2, q2⟩ => ⟨x :: xs, H2, I2, .cons r1 r2, q2⟩

noncomputable def QfD (t : TA) : TE := fun σ H Q => t σ H fun xs H1 => xs.length ≤ sizeLine ∧ ∀ p, H1 p = none → Q (.ref p) (upd H1 p (.tup xs))
noncomputable def QfJ (t : TA) : TE := fun σ H Q => t σ H fun xs H1 => xs.length ≤ sizeLine ∧ ∀ p, H1 p = none → Q (.ref p) (upd H1 p (.lst xs))
theorem QcI {x1} (h : PA X es t) : PE X (.Tuple es x1 pos) (QfD t) := by
  intro pins s σ H Q I hq
  refine wpAny_Tuple_spliced (thn (h pos pins s σ H _ I hq) fun us s1 ⟨xs, H1, I1, r, z, q⟩ => ⟨by rw [← r.length]; exact z, ?_⟩)
  have hf : H1 s1.heap.objs.size = none := I1.hok.fresh (Nat.le_refl _)
  refine ⟨.ref s1.heap.objs.size, upd H1 s1.heap.objs.size (.tup xs), I1.laid (t' := s1.toks) (fun b u e => Heap.get?_push_of_some _ e) (Nat.le_refl _) ?_, rfl, q _ hf⟩
  exact ⟨z, us, r, ⟨_, Heap.get?_push_size _ rfl, rfl, _, rfl⟩⟩
theorem GV (h : PA X es t) : PE X (.List es pos) (QfJ t) := by
  intro pins s σ H Q I hq
  refine wpAny_List_spliced (thn (h pos pins s σ H _ I hq) fun us s1 ⟨xs, H1, I1, r, z, q⟩ => ⟨by rw [← r.length]; exact z, ?_⟩)
  have hf : H1 s1.heap.objs.size = none := I1.hok.fresh (Nat.le_refl _)
  refine ⟨.ref s1.heap.objs.size, upd H1 s1.heap.objs.size (.lst xs), I1.laid (t' := s1.toks) (fun b u e => Heap.get?_push_of_some _ e) (Nat.le_refl _) ?_, rfl, q _ hf⟩
  exact ⟨z, us, 0, r, Heap.get?_push_size _ rfl⟩
end

noncomputable abbrev Sp := List V → Hp → VK → XK → Prop
noncomputable abbrev CXT := List Env → Hp → Shared → XK → Value → Shared → Prop

structure Env0 (P : Program) (w : World) (K : PySem.W.Frag) (mg : Str → Option Value) (base : Heap) (A : Around) (outer : List Env) (s : Shared) (H : Hp) : Prop where
  frames : A.frames = some outer
  mod : Mod K mg base
  bs : ∀ b o, base.get? b = some o → s.heap.get? b = some o ∧ H b = none
  bsz : base.objs.size ≤ s.heap.objs.size
  funs : s.heap.FunFrames base outer
  frf : ∀ b ∈ frs outer, H b = none
  hok : HOk P w H s.heap
  bare : AllBare s.gens
noncomputable def CE (outer : List Env) (P : Program) (w : World) (H : Hp) (s : Shared) (Q : VK) (u : Value) (s' : Shared) : Prop :=
  ∃ v H', s'.os = s.os ∧ AllBare s'.gens ∧ Un (frs outer) [] H H' s.heap s'.heap ∧ HOk P w H' s'.heap ∧ RelV v u ∧ Q v H'
noncomputable def CR (CX : CXT) (outer : List Env) (P : Program) (w : World) (H : Hp) (s : Shared) (Q : VK) (E : XK) (r : Result) (s' : Shared) : Prop :=
  match r with
  | .ok (.ret u) => CE outer P w H s Q u s'
  | .ok _ => False
  | .error e => CX outer H s E e s'
structure FnOk (P : Program) (w : World) (K : PySem.W.Frag) (mg : Str → Option Value) (base : Heap) (CX : CXT) (k : Nat) (f : Addr) (fd : FuncData) (ps : List Str) (sp : Sp) : Prop where
  len : ∀ vs H Q E, sp vs H Q E → vs.length = ps.length
  run : ∀ (A : Around) (outer : List Env) (s : Shared) (H : Hp) (args : Args) (us : List Value) (vs : List V) (Q : VK) (E : XK), Room k A → Env0 P w K mg base A outer s H → BindsTo s fd args (ps.zip us) → Vals vs us → sp vs H Q E →
    codeAny (model P w) A (.call (.ref f) args) (CR CX outer P w H s Q E) s
theorem FnOk.imp {P : Program} {w : World} {K : PySem.W.Frag} {mg : Str → Option Value} {base : Heap} {CX : CXT} {k : Nat} {f : Addr} {fd : FuncData} {ps : List Str} {sp sp' : Sp} (F : FnOk P w K mg base CX k f fd ps sp)
    (h : ∀ vs H Q E, sp' vs H Q E → sp vs H Q E) : FnOk P w K mg base CX k f fd ps sp' :=
  ⟨fun vs H Q E q => F.len vs H Q E (h _ _ _ _ q), fun A outer s H args us vs Q E hr he hb hv hs => F.run A outer s H args us vs Q E hr he hb hv (h _ _ _ _ hs)⟩

section
variable {X : Cx} {pins : List (Addr × Obj)} {σ : St} {H : Hp} {s s' : Shared}
theorem Inv.env0 (I : Inv X pins σ H s) : Env0 X.prog X.w X.K X.mg X.base X.A X.stack s H :=
  ⟨I.ok.frames, I.ok.mod, I.bs, Nat.le_trans I.ok.bsz I.sz, I.stack, I.stkFree, I.hok, I.bare⟩
theorem Inv.after {Q : VK} {u : Value} (I : Inv X pins σ H s) (h : CE X.stack X.prog X.w H s Q u s') : EP X pins σ Q u s' := by
  obtain ⟨v, H', os, bare, un, hok, r, q⟩ := h
  obtain ⟨hh, g, d, t, os'⟩ := s'
  obtain rfl : os' = s.os := os
  exact ⟨v, H', I.call (h' := hh) (g' := g) (d' := d) (t' := t) (ch := []) un hok bare (fun b z => absurd z (by simp)), r, q⟩
end

noncomputable def Qcz (sp : Sp) (dvs : List V) (E : XK) (t : TA) : TE := fun σ H Q => t σ H fun vs H1 => sp (vs ++ dvs) H1 Q E
noncomputable def Binds (K : PySem.W.Frag) (fd : FuncData) (ps : List Str) (ds : List Value) : Prop :=
  ∀ (s : Shared) (us : List Value), K.In s.heap → (us ++ ds).length = ps.length → BindsTo s fd ⟨us, []⟩ (ps.zip (us ++ ds))
theorem Binds.all {K : PySem.W.Frag} {fd : FuncData} {ps : List Str} (h : ∀ us : List Value, us.length = ps.length → bindArgs fd ⟨us, []⟩ = pure (ps.zip us)) : Binds K fd ps [] := fun s us _ hl => by
  rw [List.append_nil] at hl ⊢
  exact .of_eq (h us hl)

noncomputable def KL (CX : CXT) (X : Cx) (E : XK) : Prop := ∀ (pins : List (Addr × Obj)) (σ : St) (H : Hp) (s : Shared) (e : Value) (s' : Shared), Inv X pins σ H s → CX X.stack H s E e s' → X.xe e s'

section
variable {X : Cx} {CX : CXT} {k : Nat} {f C : Addr} {fd : FuncData} {ps : List Str} {sp : Sp} {dvs : List V} {ds : List Value} {E : XK} {x m : Str} {p pos apos : Pos} {e o : Expr} {es : List Expr} {ta : TE} {t : TA}

theorem QcG {pins : List (Addr × Obj)} {σ : St} {H : Hp} {s : Shared} {Q : VK} {us : List Value} {vs : List V} (F : FnOk X.prog X.w X.K X.mg X.base CX k f fd ps sp) (hr : Room k X.A) (hb : Binds X.K fd ps ds) (hd : Vals dvs ds) (hx : KL CX X E)
    (I : Inv X pins σ H s) (r : Vals vs us) (h : sp (vs ++ dvs) H Q E) : wpAny (model X.prog X.w) X.A (call (.ref f) us) (EP X pins σ Q) X.xe s := by
  have r2 : Vals (vs ++ dvs) (us ++ ds) := r.append hd
  have hl : (us ++ ds).length = ps.length := by rw [← r2.length]; exact F.len _ _ _ _ h
  refine wpAny_call (codeAny_mono (F.run X.A X.stack s H ⟨us, []⟩ (us ++ ds) (vs ++ dvs) Q E hr I.env0 (hb s us I.kIn hl) r2 h) fun r s' hq => ?_)
  cases r with
  | error e => exact hx pins σ H s e s' I hq
  | ok fl =>
    cases fl with
    | ret u => exact I.after hq
    | next => exact False.elim hq
    | brk => exact False.elim hq
    | cont => exact False.elim hq

theorem QaK (F : FnOk X.prog X.w X.K X.mg X.base CX k f fd ps sp) (hr : Room k X.A) (hg : Gl X x) (hm : X.mg x = some (.ref f)) (hk : PySem.W.keepIn X.K (.ref f) = true) (hb : Binds X.K fd ps ds) (hd : Vals dvs ds) (hx : KL CX X E)
    (ha : PA X (e :: es) t) (hdb : (x == ("__debug__" : Str)) = false := by decide) (he : starEach (e :: es) X.env = (false, eval e X.env) :: starEach es X.env := by rfl) (hpl : (backTo pos (starEach es X.env)).any (·.1) = false := by rfl) :
    PE X (.Call (.Name x p) (e :: es) [] pos) (Qcz sp dvs E t) := by
  intro pins s σ H Q I h
  refine wpAny_Call_Name_kw (Qbs I hg hm ?_ hdb)
  refine PySem.W.callWith_K (h₀ := X.base) I.ok.mod.kin hk (thn (ha pos pins s σ H _ I h) fun us s1 ⟨vs, H1, I1, r, q⟩ => ⟨I1.kIn, ?_⟩) he hpl
  exact QcG F hr hb hd hx I1 r q
end

section
variable {X : Cx} {CX : CXT} {k : Nat} {f C : Addr} {fd : FuncData} {ps ks : List Str} {sp : Sp} {E : XK} {x m : Str} {p pos apos kpos : Pos} {e o : Expr} {es : List Expr} {kws : List Keyword} {te ta : TE} {t tk : TA} {nm : Option Str}
variable {g : List Value → List Value → List Value} {gV : List V → List V → List V}
end

structure FnScope (N P : List Str) (sc : Scope) : Prop where
  kind : sc.kind = .function
  co : sc.isCoroutine = false
  gen : sc.isGenerator = false
  nd : N.Nodup
  pre : N.take P.length = P
  par : ∀ x ∈ P, sc.names.lookup x = some .local ∨ sc.names.lookup x = some .cell
  nofree : ∀ y ∈ sc.names, y.2 ≠ .free

theorem V9 {kindOf : Str → Option NameKind} {x : Str} : ∀ {binds : List (Str × Value)} {m : Str → Option Value}, (∀ v, (x, v) ∉ binds) → bindL kindOf binds m x = m x
  | [], _, _ => rfl
  | (n, v) :: r, m, h => by
    unfold bindL
    rw [V9 fun w hw => h w (List.mem_cons_of_mem _ hw)]
    split
    · have : x ≠ n := by rintro rfl; exact h v List.mem_cons_self
      simp [this]
    · rfl
theorem Xs {kindOf : Str → Option NameKind} {x : Str} : ∀ {binds : List (Str × Value)} {m : Str → Option Value}, (∀ v, (x, v) ∉ binds) → bindC kindOf binds m x = m x
  | [], _, _ => rfl
  | (n, v) :: r, m, h => by
    unfold bindC
    rw [Xs fun w hw => h w (List.mem_cons_of_mem _ hw)]
    split
    · rfl
    · have : x ≠ n := by rintro rfl; exact h v List.mem_cons_self
      simp [this]
theorem V2 {kindOf : Str → Option NameKind} {x : Str} {v : Value} : ∀ {P : List Str} {vs : List Value} {i : Nat} {m : Str → Option Value}, P.Nodup → P[i]? = some x → vs[i]? = some v → kindOf x = some .local →
    bindL kindOf (P.zip vs) m x = some v
  | [], _, _, _, _, h, _, _ => by simp at h
  | _ :: _, [], _, _, _, _, h, _ => by simp at h
  | p :: P, w :: vs, 0, m, nd, h1, h2, hk => by
    simp at h1 h2; subst h1; subst h2
    show bindL kindOf ((p, w) :: P.zip vs) m p = _
    unfold bindL
    rw [V9 fun v hv => (List.nodup_cons.mp nd).1 (List.of_mem_zip hv).1, if_pos hk]
    simp
  | p :: P, w :: vs, i + 1, m, nd, h1, h2, hk => by
    show bindL kindOf ((p, w) :: P.zip vs) m x = _
    unfold bindL
    exact V2 (i := i) (List.nodup_cons.mp nd).2 (by simpa using h1) (by simpa using h2) hk
theorem Xt {kindOf : Str → Option NameKind} {x : Str} {v : Value} : ∀ {P : List Str} {vs : List Value} {i : Nat} {m : Str → Option Value}, P.Nodup → P[i]? = some x → vs[i]? = some v → kindOf x ≠ some .local →
    bindC kindOf (P.zip vs) m x = some v
  | [], _, _, _, _, h, _, _ => by simp at h
  | _ :: _, [], _, _, _, _, h, _ => by simp at h
  | p :: P, w :: vs, 0, m, nd, h1, h2, hk => by
    simp at h1 h2; subst h1; subst h2
    show bindC kindOf ((p, w) :: P.zip vs) m p = _
    unfold bindC
    rw [Xs fun v hv => (List.nodup_cons.mp nd).1 (List.of_mem_zip hv).1, if_neg hk]
    simp
  | p :: P, w :: vs, i + 1, m, nd, h1, h2, hk => by
    show bindC kindOf ((p, w) :: P.zip vs) m x = _
    unfold bindC
    exact Xt (i := i) (List.nodup_cons.mp nd).2 (by simpa using h1) (by simpa using h2) hk

noncomputable def start (N : List Str) (vs : List V) : St := vs.map some ++ List.replicate (N.length - vs.length) none

noncomputable def GF (CX : CXT) (P : Program) (w : World) (K : PySem.W.Frag) (mg : Str → Option Value) (base : Heap) (N : List Str) (qual : Str) (scope : Scope) (f : Addr) (cd : Value) (A : Around) (outer : List Env) (s : Shared) (H : Hp) (E : XK) : Cx where
  prog := P
  w := w
  K := K
  mg := mg
  base := base
  A := A.deeper (envOfC qual scope s.heap.objs.size f cd)
  N := N
  s₀ := s
  H₀ := H
  env := envOfC qual scope s.heap.objs.size f cd
  outer := outer
  stack := envOfC qual scope s.heap.objs.size f cd :: outer
  ex := []
  calm := true
  fn := fun _ => true
  pn := []
  xe := fun e s' => wpAny (model P w) (A.deeper (envOfC qual scope s.heap.objs.size f cd)) (leaving (envOfC qual scope s.heap.objs.size f cd) e) (fun _ s'' => CX outer H s E e s'') (fun e' s'' => CX outer H s E e' s'') s'

theorem Kq {sc : Scope} {n : Nat} {x : Str} (h : sc.names.lookup x = some .cell) : ∃ c, (cellsFrom n sc.names []).lookup x = some c := by
  have q := PySem.W.cellsFrom_some sc.names n [] (.inl h)
  exact Option.isSome_iff_exists.mp q

theorem Y4 {CX : CXT} {P : Program} {w : World} {K : PySem.W.Frag} {mg : Str → Option Value} {base : Heap} {N ps : List Str} {qual : Str} {scope : Scope} {f : Addr} {cd : Value} {A : Around} {outer : List Env} {s s1 : Shared} {H : Hp} {E : XK} {us : List Value} {vs : List V}
    (S : FnScope N ps scope) (hd : A.handled = none) (e0 : Env0 P w K mg base A outer s H) (hl : vs.length = ps.length) (r : Vals vs us)
    (x : InCallC s s.heap.objs.size (bindL (envOfC qual scope s.heap.objs.size f cd).kindOf (ps.zip us) fun _ => none) (cellsFrom (s.heap.objs.size + 1) scope.names []) (bindC (envOfC qual scope s.heap.objs.size f cd).kindOf (ps.zip us) fun _ => none) s1) :
    Inv (GF CX P w K mg base N qual scope f cd A outer s H E) [] (start N vs) H s1 := by
  have hpl : ps.length ≤ N.length := by have := congrArg List.length S.pre; rw [List.length_take] at this; omega
  obtain ⟨h1, tk, rfl, hk⟩ := x.done
  have noA : ∀ b : Addr, b ∉ (GF CX P w K mg base N qual scope f cd A outer s H E).ex := fun b z => absurd (show b ∈ ([] : List Addr) from z) (by simp)
  refine ⟨⟨e0.mod, S.kind, rfl, rfl, Nat.le_refl _, fun y z c h1 h2 => ?_, fun y hy => ?_, fun y c _ h => ?_, fun _ => hd, Around.frames_deeper e0.frames, .inr ⟨rfl, rfl⟩, fun b z => absurd z (noA b), e0.bs, e0.bsz, fun b _ _ => noA b, fun b z => absurd z (noA b), e0.funs, e0.frf⟩,
    rfl, e0.bare, Un.kept hk, ⟨_, x.toInCall.ns, fun i y v h1 h2 h3 => ?_⟩, fun y c h => ⟨_, x.cell y c h⟩, e0.hok.fresh (Nat.le_refl _), fun y c h => ?_, fun p hp => absurd (show p ∈ ([] : List (Addr × Obj)) from hp) (by simp), e0.hok.kept hk, ?_⟩
  · exact name_of_addr x.apart (PySem.mem_of_lookup h1) (PySem.mem_of_lookup h2)
  · have hy : scope.names.lookup y = some .cell ∨ scope.names.lookup y = some .free := hy
    rcases hy with hy | hy
    · exact Kq hy
    · exact absurd rfl (S.nofree _ (PySem.mem_of_lookup hy))
  · exact Nat.le_of_lt (x.above y c (PySem.mem_of_lookup h))
  · have hi : i < vs.length := by
      unfold start at h2
      by_cases hi : i < vs.length
      · exact hi
      · rw [List.getElem?_append_right (by simpa using hi)] at h2
        rw [List.getElem?_replicate] at h2
        split at h2 <;> cases h2
    have ha : vs[i]? = some v := by
      unfold start at h2
      rw [List.getElem?_append_left (by simpa using hi), List.getElem?_map] at h2
      cases e : vs[i]? with
      | none => rw [e] at h2; cases h2
      | some a => rw [e] at h2; cases h2; rfl
    obtain ⟨u, hu, rv⟩ := r.get ha
    have hp : ps[i]? = some y := by
      rw [← S.pre, List.getElem?_take_of_lt (by omega)]; exact h1
    have ndP : ps.Nodup := by rw [← S.pre]; exact S.nd.sublist (List.take_sublist _ _)
    refine ⟨u, rv, ?_⟩
    rcases S.par y (List.mem_of_getElem? hp) with k | k
    · exact .inl ⟨k, V2 ndP hp hu k⟩
    · obtain ⟨c, e⟩ := Kq (n := s.heap.objs.size + 1) k
      refine .inr ⟨.inl k, c, e, ?_⟩
      have q := x.cell y c e
      rw [Xt ndP hp hu (by show scope.names.lookup y ≠ _; rw [k]; decide)] at q
      exact q
  · exact e0.hok.fresh (Nat.le_of_lt (x.above y c (PySem.mem_of_lookup h)))
  · unfold start
    show _ = N.length
    rw [List.length_append, List.length_map, List.length_replicate]
    omega

theorem Qdi {CX : CXT} {P : Program} {w : World} {K : PySem.W.Frag} {mg : Str → Option Value} {base : Heap} {k : Nat} {f : Addr} {name qual : Str} {params : Arguments} {body : List Stmt} {scope : Scope} {dV kV doc pm cdv ct oc : Value} {an od : Option Addr}
    {osl : Array (Option Value)} {N ps : List Str} {sp : Sp} (lk : K.lookup f = some ⟨oc, od, .func (PySem.W.fnOf name qual params body scope dV kV doc pm an cdv ct), osl⟩) (hcd : PySem.W.codeIn K cdv qual = true) (S : FnScope N ps scope)
    (len : ∀ vs H Q E, sp vs H Q E → vs.length = ps.length)
    (hbody : ∀ (A : Around) (outer : List Env) (s : Shared) (H : Hp) (vs : List V) (Q : VK) (E : XK), Room k (A.deeper (envOfC qual scope s.heap.objs.size f cdv)) → sp vs H Q E →
      ∃ t, PSs (GF CX P w K mg base N qual scope f cdv A outer s H E) body t ∧ t { nx := fun _ H' => Q .non H', rt := Q } (start N vs) H) :
    FnOk P w K mg base CX (k + 1) f (PySem.W.fnOf name qual params body scope dV kV doc pm an cdv ct) ps sp := by
  refine ⟨len, fun A outer s H args us vs Q E hr e0 hb r hsp => ?_⟩
  have hl := len _ _ _ _ hsp
  have KX : K.In s.heap := e0.mod.kin.keeps fun b o e => (e0.bs b o e).1
  have lim : s.heap.NoLimit := e0.mod.nolimit.keeps fun b o e => (e0.bs b o e).1
  have hkind : ∀ y ∈ ps.zip us, scope.names.lookup y.1 = some .local ∨ (scope.names.lookup y.1 = some .cell ∧ ((cellsFrom (s.heap.objs.size + 1) scope.names []).lookup y.1).isSome = true) := fun ⟨n, v⟩ hy => by
    rcases S.par n (List.of_mem_zip hy).1 with q | q
    · exact .inl q
    · exact .inr ⟨q, PySem.W.cellsFrom_some _ _ _ (.inl q)⟩
  refine codeAny_call_function hr.depth (KX _ _ lk) rfl S.co S.gen rfl (PySem.W.codeRec_of KX hcd) (hb _ _ _ _ ?_)
  refine wpAny_newFunctionEnv_cells S.kind hkind fun env he s1 x => ?_
  subst he
  refine ⟨lim.keeps x.toInCall.keep, codeAny_func ?_⟩
  obtain ⟨t, ht, hq⟩ := hbody A outer s H vs Q E (hr.deeper _) hsp
  have I : Inv (GF CX P w K mg base N qual scope f cdv A outer s H E) [] (start N vs) H s1 := Y4 S hr.hd e0 hl r x
  refine wpAny_mono (ht [] s1 (start N vs) H _ I hq) (fun fl s' hs => ?_) fun e s' hs => hs
  have fin : ∀ {σ' : St} {H' : Hp} {v : V} {u : Value}, Inv (GF CX P w K mg base N qual scope f cdv A outer s H E) [] σ' H' s' → RelV v u → Q v H' → CE outer P w H s Q u s' :=
    fun {σ' H' v u} J rv q => ⟨v, H', J.os, J.bare, J.base, J.hok, rv, q⟩
  cases fl with
  | ret u =>
    obtain ⟨v, σ', H', J, rv, q⟩ := hs
    exact fin J rv q
  | next =>
    obtain ⟨σ', H', J, q⟩ := hs
    exact fin (v := V.non) (u := Value.none) J rfl q
  | brk =>
    obtain ⟨_, _, _, q⟩ := hs
    exact False.elim q
  | cont =>
    obtain ⟨_, _, _, q⟩ := hs
    exact False.elim q
end L2

namespace L2
open PySem PySem.Spec PyProof.Rows
section
variable {X : Cx} {x : Str} {p pos : Pos} {e : Expr} {es : List Expr} {t : TA} {id T : String} {r : List V → Hp → VK → Prop}

noncomputable def tCB (r : List V → Hp → VK → Prop) (t : TA) : TE := fun σ H Q => t σ H fun vs H1 => r vs H1 Q
theorem UW (hc : CallR X (.builtin id) r) (hg : Gl X x) (hm : X.mg x = none) (hv : bootBuiltins x = some (.builtin id)) (ha : PA X (e :: es) t) (hn : x ≠ "__name__" := by decide) (hdb : (x == ("__debug__" : Str)) = false := by decide)
    (he : starEach (e :: es) X.env = (false, eval e X.env) :: starEach es X.env := by rfl) (hpl : (backTo pos (starEach es X.env)).any (·.1) = false := by rfl) : PE X (.Call (.Name x p) (e :: es) [] pos) (tCB r t) := by
  intro pins s σ H Q I h
  refine wpAny_Call_Name_kw (JT I hg hm hv ?_ hn hdb)
  exact PyProof.Rows.callWith_builtin1 (thn (ha pos pins s σ H _ I h) fun us s1 ⟨vs, H1, I1, r1, q1⟩ => hc pins s1 σ H1 vs us Q I1 r1 q1) he hpl
theorem WY (hc : CallR X (.type T) r) (hg : Gl X x) (hm : X.mg x = none) (hv : bootBuiltins x = some (.type T)) (ha : PA X (e :: es) t) (hn : x ≠ "__name__" := by decide) (hdb : (x == ("__debug__" : Str)) = false := by decide)
    (he : starEach (e :: es) X.env = (false, eval e X.env) :: starEach es X.env := by rfl) (hpl : (backTo pos (starEach es X.env)).any (·.1) = false := by rfl) : PE X (.Call (.Name x p) (e :: es) [] pos) (tCB r t) := by
  intro pins s σ H Q I h
  refine wpAny_Call_Name_kw (JT I hg hm hv ?_ hn hdb)
  exact PyProof.Rows.callWith_type1 (thn (ha pos pins s σ H _ I h) fun us s1 ⟨vs, H1, I1, r1, q1⟩ => hc pins s1 σ H1 vs us Q I1 r1 q1) he hpl
end
end L2

namespace HT
open PySem PyProof.Rows

section
open PySem.SeqAt
open PySem.AutoSeq1 (wpAny_loadPart')
open PySem.MeetsSeq PySem.MeetsSeq2 PySem.MeetsSeq3

end

section
variable {prog : Program} {w : World} {A : Around} {E : Value → Shared → Prop} {s : Shared}

theorem cat_tup {t b : Addr} {vs ws : List Value} {Q : Value → Shared → Prop} (ht : IsTup s.heap t vs.toArray) (hb : IsTup s.heap b ws.toArray) (hv : vs ≠ [])
    (h1 : ws = [] → Q (.ref t) s) (h2 : ws ≠ [] → Q (.ref s.heap.objs.size) { s with heap := s.heap.push { cls := .type "tuple", data := .seq (vs ++ ws).toArray } })
    (hsz : vs.length + ws.length ≤ sizeLine) : wpAny (model prog w) A (binaryOp .Add (.ref t) (.ref b)) Q E s := by
  obtain ⟨⟨cls, dd, data, sl⟩, ho, hc, n, hd⟩ := id ht
  obtain ⟨⟨cls2, dd2, data2, sl2⟩, ho2, hc2, n2, hd2⟩ := id hb
  simp only at hc hd hc2 hd2
  subst hc hd hc2 hd2
  have e : vs.toArray ++ ws.toArray = (vs ++ ws).toArray := by simp
  by_cases hw : ws = []
  · exact concat_meets ⟨_, ho, rfl⟩ ⟨_, ho2, rfl⟩ noFill_tuple_add seq_tuple_add PySem.F.slot_tuple_add PySem.F.entry_tuple_add (PySem.F.args_tuple_add_2 _ _)
      (tuple_addW1 t b vs.toArray ws.toArray n n2 dd dd2 sl sl2 (by simpa using hv) (by simp [hw])) ⟨ho, ho2, h1 hw⟩
  · refine concat_meets ⟨_, ho, rfl⟩ ⟨_, ho2, rfl⟩ noFill_tuple_add seq_tuple_add PySem.F.slot_tuple_add PySem.F.entry_tuple_add (PySem.F.args_tuple_add_2 _ _)
      (tuple_addW2 t b vs.toArray ws.toArray n n2 dd dd2 sl sl2 (by simpa using hv) (by simpa using hw) (by rw [List.size_toArray, List.size_toArray]; exact hsz)) ⟨ho, ho2, ?_⟩
    rw [e]
    exact h2 hw

end
end HT

namespace L2
open PySem PySem.Spec PyProof.Rows

section
variable {X : Cx} {e : Expr} {te : TE} {lo hi : Option Expr} {tl th : TO} {pos p2 : Pos}

noncomputable def Qdz (K : PySem.W.Frag) : R2 := fun x y H Q => ∃ a b xs ys, x = .ref a ∧ y = .ref b ∧ SqT K H a xs ∧ SqT K H b ys ∧ xs ≠ [] ∧ xs.length + ys.length ≤ sizeLine ∧
  (ys = [] → Q (.ref a) H) ∧ (ys ≠ [] → ∀ p, H p = none → Q (.ref p) (upd H p (.tup (xs ++ ys))))
theorem Vals.nil_iff {xs : List V} {us : List Value} (r : Vals xs us) : us = [] ↔ xs = [] := by
  cases r with
  | nil => simp
  | cons _ _ => simp
theorem Qbf : OpR X (binaryOp .Add) (Qdz X.K) := by
  intro pins s σ H x y v u Q I rx ry h
  obtain ⟨a, b, xs, ys, rfl, rfl, ha, hb, hx, hz, q1, q2⟩ := h
  cases rx
  cases ry
  obtain ⟨its, r1, p1, _⟩ := I.tuple ha
  obtain ⟨its2, r2, p2, _⟩ := I.tuple hb
  refine HT.cat_tup p1 p2 (fun z => hx (r1.nil_iff.mp z)) (fun z => ⟨.ref a, H, I, rfl, q1 (r2.nil_iff.mp z)⟩) (fun z => ?_) (by rw [← r1.length, ← r2.length]; exact hz)
  refine ⟨.ref s.heap.objs.size, _, I.laid (t' := s.toks) (o := .tup (xs ++ ys)) (fun b ob q => Heap.get?_push_of_some _ q) (Nat.le_refl _) ?_, rfl, q2 (fun w => z (r2.nil_iff.mpr w)) _ (I.hok.fresh (Nat.le_refl _))⟩
  exact ⟨by rw [List.length_append]; exact hz, _, r1.append r2, IsTup.new _ _⟩
end
end L2

namespace L2
open PySem PySem.Spec PyProof.Rows

noncomputable def ixN (n : Nat) (i : Int) : Option Nat := if 0 ≤ i then (if i < n then some i.toNat else none) else if -(n : Int) ≤ i then some (i + n).toNat else none
noncomputable def atI {α : Type} (xs : List α) (i : Int) : Option α := (ixN xs.length i).bind fun j => xs[j]?
theorem QaB {n : Nat} {i : Int} {j : Nat} (h : ixN n i = some j) : seqIndex? i n = some j ∧ j < n ∧ -(n : Int) ≤ i ∧ i < n := by
  unfold ixN at h
  by_cases h0 : 0 ≤ i
  · rw [if_pos h0] at h
    by_cases h1 : i < n
    · rw [if_pos h1] at h
      have e : i.toNat = j := Option.some.inj h
      exact ⟨by rw [seqIndex_of h0 h1, e], by omega, by omega, h1⟩
    · rw [if_neg h1] at h; cases h
  · rw [if_neg h0] at h
    by_cases h1 : -(n : Int) ≤ i
    · rw [if_pos h1] at h
      have e : (i + n).toNat = j := Option.some.inj h
      exact ⟨by rw [seqIndex_neg (by omega) h1, e], by omega, h1, by omega⟩
    · rw [if_neg h1] at h; cases h
theorem X6 {α : Type} {xs : List α} {i : Int} {v : α} (h : atI xs i = some v) : ∃ j, seqIndex? i xs.length = some j ∧ xs[j]? = some v ∧ j < xs.length ∧ -(xs.length : Int) ≤ i ∧ i < xs.length := by
  unfold atI at h
  cases e : ixN xs.length i with
  | none => rw [e] at h; cases h
  | some j =>
    rw [e] at h
    obtain ⟨h1, h2, h3, h4⟩ := QaB e
    exact ⟨j, h1, h, h2, h3, h4⟩
theorem Wv {α : Type} {xs : List α} {j : Nat} {v : α} (h : xs[j]? = some v) : atI xs (j : Int) = some v := by
  have hj : j < xs.length := (List.getElem?_eq_some_iff.mp h).1
  have e : ixN xs.length (j : Int) = some j := by
    unfold ixN
    rw [if_pos (by omega), if_pos (by omega)]; simp
  unfold atI; rw [e]; exact h
noncomputable def W2 (b : Expr) : Prop := ∀ o i, subscripted b false o i = operate [o, i] (getItem o i)
noncomputable def IxR (X : Cx) (r : R2) : Prop :=
  ∀ (value slice : Expr) (pins : List (Addr × Obj)) (s : Shared) (σ : St) (H : Hp) (x y : V) (v u : Value) (Q : VK), Inv X pins σ H s → RelV x v → RelV y u → r x y H Q →
    subscripted slice false v u = operate [v, u] (getItem v u) → wpAny (model X.prog X.w) X.A (subscriptTail value slice v u) (EP X pins σ Q) X.xe s
noncomputable def MtR (X : Cx) (id : String) (r : V → List V → Hp → VK → Prop) : Prop :=
  ∀ (pins : List (Addr × Obj)) (s : Shared) (σ : St) (H : Hp) (x : V) (xs : List V) (v : Value) (us : List Value) (Q : VK), Inv X pins σ H s → RelV x v → Vals xs us → r x xs H Q →
    wpAny (model X.prog X.w) X.A (call (.builtin id) (v :: us)) (EP X pins σ Q) X.xe s
section
variable {X : Cx} {a b : Expr} {ta tb : TE} {pos : Pos}
theorem IxR.or {r r' : R2} (h : IxR X r) (h' : IxR X r') : IxR X (fun x y H Q => r x y H Q ∨ r' x y H Q) := by
  intro value slice pins s σ H x y v u Q I rx ry q hs
  rcases q with q | q
  · exact h value slice pins s σ H x y v u Q I rx ry q hs
  · exact h' value slice pins s σ H x y v u Q I rx ry q hs
theorem QdZ {r : R2} (hr : IxR X r) (ha : PE X a ta) (hb : PE X b tb) (hs : W2 b) : PE X (.Subscript a b pos) (tOp r ta tb) := by
  intro pins s σ H Q I h
  exact Subscript_ (Qdj ha hb I h fun v u s2 x y H2 I2 rx ry q => hr a b pins s2 σ H2 x y v u Q I2 rx ry q (hs _ _))

noncomputable def QeQ (K : PySem.W.Frag) : R2 := fun x y H Q => ∃ p xs i v, x = .ref p ∧ y = .int i ∧ SqL K H p xs ∧ atI xs i = some v ∧ Q v H
noncomputable def QeU (K : PySem.W.Frag) : R2 := fun x y H Q => ∃ p xs i v, x = .ref p ∧ y = .int i ∧ SqT K H p xs ∧ atI xs i = some v ∧ Q v H
noncomputable def QeN : R2 := fun x y H Q => ∃ z i c, x = .str z ∧ y = .int i ∧ z.length ≤ sizeLine ∧ atI z.cps.toList i = some c ∧ Q (.str ⟨#[c]⟩) H
theorem ix_list : IxR X (QeQ X.K) := by
  intro value slice pins s σ H x y v u Q I rx ry h hs
  obtain ⟨p, xs, i, z, rfl, rfl, hq, he, q⟩ := h
  cases rx
  obtain ⟨t, rfl⟩ := ry
  obtain ⟨its, r, pl, hz⟩ := I.list hq
  obtain ⟨j, h1, h2, h3, h4, h5⟩ := X6 he
  obtain ⟨w, ew, rw'⟩ := r.get h2
  have hl := r.length
  have hn := Vq
  have fin : EP X pins σ Q w s := ⟨z, H, I, rw', q⟩
  by_cases h0 : 0 ≤ i
  · have hj : i.toNat = j := by
      rw [seqIndex_of h0 h5] at h1
      exact Option.some.inj h1
    exact item_listR pl.isList h0 (by omega) (by rw [hj]; simpa using ew) fin hs
  · have hj : (i + (its.toArray.size : Int)).toNat = j := by
      rw [seqIndex_neg (by omega) h4] at h1
      rw [List.size_toArray, ← hl]
      exact Option.some.inj h1
    exact subscriptTail_builtinR (x := w) pl.isList.typeIs slot_list_getitem.lookup
      (wpAny_getItem_list_neg (Q := fun r s' => r = w ∧ EP X pins σ Q r s') pl.isList (by omega) (by rw [List.size_toArray] <;> omega) (by omega) (by rw [hj]; simpa using ew) ⟨rfl, fin⟩) hs
theorem ix_tup : IxR X (QeU X.K) := by
  intro value slice pins s σ H x y v u Q I rx ry h hs
  obtain ⟨p, xs, i, z, rfl, rfl, hq, he, q⟩ := h
  cases rx
  obtain ⟨t, rfl⟩ := ry
  obtain ⟨its, r, pl, hz⟩ := I.tuple hq
  obtain ⟨j, h1, h2, h3, h4, h5⟩ := X6 he
  obtain ⟨w, ew, rw'⟩ := r.get h2
  have hl := r.length
  have hn := Vq
  have fin : EP X pins σ Q w s := ⟨z, H, I, rw', q⟩
  exact subscriptTail_builtinR (x := w) pl.typeIs slot_tuple_getitem.lookup
    (getItem_tuple (j := j) (Q := fun r s' => r = w ∧ EP X pins σ Q r s') pl (by omega) (by omega) (by rw [List.size_toArray, ← hl]; exact h1) (by simpa using ew) ⟨rfl, fin⟩) hs
theorem QbS : IxR X QeN := by
  intro value slice pins s σ H x y v u Q I rx ry h hs
  obtain ⟨z, i, c, rfl, rfl, hz, he, q⟩ := h
  obtain ⟨t, rfl⟩ := rx
  obtain ⟨t', rfl⟩ := ry
  obtain ⟨j, h1, h2, h3, h4, h5⟩ := X6 he
  have hl : z.cps.toList.length = z.length := by simp [Str.length]
  rw [hl] at h1 h4 h5
  have hn := Vq
  exact tail_any (typeIs_str s z t) slot_str_getitem.lookup (getItem_str (c := c) (by
    have e1 : decide (i < -(2 ^ 63 : Int)) = false := decide_eq_false (by omega)
    have e2 : decide (i ≥ 2 ^ 63) = false := decide_eq_false (by omega)
    rw [e1, e2, Bool.or_false]) (by rw [h1]; simpa using h2) ⟨.str ⟨#[c]⟩, H, I.tok _, ⟨_, rfl⟩, q⟩) hs
noncomputable def rIx (K : PySem.W.Frag) : R2 := fun x y H Q => QeQ K x y H Q ∨ QeU K x y H Q ∨ QeN x y H Q
theorem QbD : IxR X (rIx X.K) := ix_list.or (ix_tup.or QbS)

noncomputable def Qbu : V → Bool
  | .non => true
  | .bl _ => true
  | .int _ => true
  | .str _ => true
  | _ => false
noncomputable def eqV : V → V → Bool
  | .non, .non => true
  | .bl a, .bl b => a == b
  | .bl a, .int b => (if a then 1 else 0) == b
  | .int a, .bl b => a == (if b then 1 else 0)
  | .int a, .int b => a == b
  | .str a, .str b => a == b
  | _, _ => false
theorem QcS {A : Around} {s : Shared} {y x : V} {u v : Value} (ry : RelV y u) (rx : RelV x v) (fy : Qbu y = true) (fx : Qbu x = true) : SeqAt.EqAt A s u v (eqV y x) := by
  cases y with
  | non =>
    cases ry
    cases x with
    | non => cases rx; exact SeqAt.EqAt.same _
    | bl b => cases rx; exact SeqAt.EqAt.none_bool b
    | int b => obtain ⟨t, rfl⟩ := rx; exact SeqAt.EqAt.none_int b t
    | str b => obtain ⟨t, rfl⟩ := rx; exact SeqAt.EqAt.none_str b t
    | _ => exact absurd (show false = true from fx) Bool.false_ne_true
  | bl a =>
    cases ry
    cases x with
    | non => cases rx; exact SeqAt.EqAt.bool_none a
    | bl b => cases rx; exact SeqAt.EqAt.bool_bool a b
    | int b => obtain ⟨t, rfl⟩ := rx; exact SeqAt.EqAt.bool_int a b t
    | str b => obtain ⟨t, rfl⟩ := rx; exact SeqAt.EqAt.bool_str a b t
    | _ => exact absurd (show false = true from fx) Bool.false_ne_true
  | int a =>
    obtain ⟨t', rfl⟩ := ry
    cases x with
    | non => cases rx; exact SeqAt.EqAt.int_none a t'
    | bl b => cases rx; exact SeqAt.EqAt.int_bool a t' b
    | int b => obtain ⟨t, rfl⟩ := rx; exact SeqAt.EqAt.int_int a t' b t
    | str b => obtain ⟨t, rfl⟩ := rx; exact SeqAt.EqAt.int_str a t' b t
    | _ => exact absurd (show false = true from fx) Bool.false_ne_true
  | str a =>
    obtain ⟨t', rfl⟩ := ry
    cases x with
    | non => cases rx; exact SeqAt.EqAt.str_none a t'
    | bl b => cases rx; exact SeqAt.EqAt.str_bool a t' b
    | int b => obtain ⟨t, rfl⟩ := rx; exact SeqAt.EqAt.str_int a t' b t
    | str b => obtain ⟨t, rfl⟩ := rx; exact SeqAt.EqAt.str_str a t' b t
    | _ => exact absurd (show false = true from fx) Bool.false_ne_true
  | _ => exact absurd (show false = true from fy) Bool.false_ne_true
theorem call_len_seq : CallR X (.builtin "len") (fun xs H Q => ∃ p ys, xs = [.ref p] ∧ (SqL X.K H p ys ∨ SqT X.K H p ys) ∧ Q (.int ys.length) H) := by
  intro pins s σ H xs us Q I r h
  obtain ⟨p, ys, rfl, hq, q⟩ := h
  obtain ⟨u, rfl, rx⟩ := Xq r
  cases rx
  have hn := Vq
  rcases hq with hq | hq
  · obtain ⟨its, r', pl, hz⟩ := I.list hq
    have hlen := r'.length
    exact Calls.call_len_list pl.isList (by simp only [List.size_toArray] <;> omega) ⟨.int ys.length, H, I.tok _, ⟨s.toks + 1, by rw [List.size_toArray, hlen]⟩, q⟩
  · obtain ⟨its, r', pl, hz⟩ := I.tuple hq
    have hlen := r'.length
    exact len_tuple pl (by simp only [List.size_toArray] <;> omega) ⟨.int ys.length, H, I.tok _, ⟨s.toks + 1, by rw [List.size_toArray, hlen]⟩, q⟩
theorem Xl : CallR X (.builtin "len") (fun xs H Q => ∃ z, xs = [.str z] ∧ z.length ≤ sizeLine ∧ Q (.int z.length) H) := by
  intro pins s σ H xs us Q I r h
  obtain ⟨z, rfl, hz, q⟩ := h
  obtain ⟨u, rfl, t, rfl⟩ := Xq r
  have hn := Vq
  exact len_str (by omega) ⟨.int z.length, H, I.tok _, ⟨_, rfl⟩, q⟩
theorem CallR.or {f : Value} {r r' : List V → Hp → VK → Prop} (h : CallR X f r) (h' : CallR X f r') : CallR X f (fun xs H Q => r xs H Q ∨ r' xs H Q) := by
  intro pins s σ H xs us Q I rs q
  rcases q with q | q
  · exact h pins s σ H xs us Q I rs q
  · exact h' pins s σ H xs us Q I rs q
theorem Xe : CallR X (.type "list") (fun xs H Q => ∃ p ys, xs = [.ref p] ∧ (SqL X.K H p ys ∨ SqT X.K H p ys) ∧ ∀ l, H l = none → Q (.ref l) (upd H l (.lst ys))) := by
  intro pins s σ H xs us Q I r h
  obtain ⟨p, ys, rfl, hq, q⟩ := h
  obtain ⟨u, rfl, rx⟩ := Xq r
  cases rx
  have fin : ∀ (its : List Value), Vals ys its → ys.length ≤ sizeLine → ∀ (h' : Heap) (c' : Nat), (∀ b o', s.heap.get? b = some o' → h'.get? b = some o') →
      h'.get? s.heap.objs.size = some { cls := .type "list", dict := none, data := .seq its.toArray c', slots := #[] } → EP X pins σ Q (.ref s.heap.objs.size) { s with heap := h' } := fun its r' hz h' c' kp e =>
    ⟨.ref s.heap.objs.size, _, I.laid (t' := s.toks) kp (Nat.le_refl _) (show ObjOk X.prog X.w _ h' _ (.lst ys) from ⟨hz, its, c', r', e⟩), rfl, q _ (I.hok.fresh (Nat.le_refl _))⟩
  rcases hq with hq | hq
  · obtain ⟨its, r', pl, hz⟩ := I.list hq
    have hlen := r'.length
    obtain ⟨o, ho, hc, n, hd⟩ := pl.isList
    exact call_list_seq p (.inl rfl) ho hc hd (fun h' c' kp e => fin its r' hz h' c' kp e) (by simp only [List.size_toArray] <;> omega)
  · obtain ⟨its, r', pl, hz⟩ := I.tuple hq
    have hlen := r'.length
    obtain ⟨o, ho, hc, n, hd⟩ := pl
    exact call_list_seq p (.inr rfl) ho hc hd (fun h' c' kp e => fin its r' hz h' c' kp e) (by simp only [List.size_toArray] <;> omega)
noncomputable def tyV (K : PySem.W.Frag) (T : String) (x : V) (H : Hp) : Prop := match x with
  | .str _ => T = "str"
  | .int _ => T = "int"
  | .ref p => (T = "list" ∧ ∃ xs, SqL K H p xs) ∨ (T = "tuple" ∧ ∃ o, K.lookup p = some o ∧ o.cls = .type "tuple" ∧ o.dict = none) ∨
      (T = "dict" ∧ ((∃ kvs, H p = some (.dK kvs)) ∨ ∃ kvs, H p = some (.dT kvs))) ∨ (T = "set" ∧ ∃ S n, H p = some (.set S n))
  | _ => False
theorem QcH {pins : List (Addr × Obj)} {σ : St} {H : Hp} {s : Shared} {T : String} {x : V} {v : Value} (I : Inv X pins σ H s) (r : RelV x v) (ty : tyV X.K T x H) :
    s.TypeIs v T ∧ ∀ a, v = .ref a → ∃ ob, s.heap.get? a = some ob ∧ ob.dict = none := by
  cases x with
  | str z =>
    obtain ⟨t, rfl⟩ := r
    cases (show T = "str" from ty)
    exact ⟨typeIs_str s z t, fun _ e => nomatch e⟩
  | int i =>
    obtain ⟨t, rfl⟩ := r
    cases (show T = "int" from ty)
    exact ⟨typeIs_int s i t, fun _ e => nomatch e⟩
  | ref p =>
    cases r
    rcases ty with ⟨rfl, xs, hq⟩ | ⟨rfl, o, hk, hc, hd⟩ | ⟨rfl, hk⟩ | ⟨rfl, S, n, hk⟩
    · obtain ⟨its, _, pl, _⟩ := I.list hq
      refine ⟨pl.isList.typeIs, fun a e => ?_⟩
      cases e
      obtain ⟨o, n, e, c, hd, _⟩ := pl
      exact ⟨o, e, hd⟩
    · refine ⟨⟨o, I.kIn p o hk, hc⟩, fun a e => ?_⟩
      cases e
      exact ⟨o, I.kIn _ o hk, hd⟩
    · have z : ∃ o, s.heap.get? p = some o ∧ o.ExactDict := by
        rcases hk with ⟨kvs, hk⟩ | ⟨kvs, hk⟩
        · obtain ⟨_, _, _, _, o, _, _, e, ex, _⟩ := I.hok p _ hk
          exact ⟨o, e, ex⟩
        · obtain ⟨_, _, _, _, o, _, _, e, ex, _⟩ := I.hok p _ hk
          exact ⟨o, e, ex⟩
      obtain ⟨o, e, ex⟩ := z
      refine ⟨⟨o, e, ex.1⟩, fun a e2 => ?_⟩
      cases e2
      exact ⟨o, e, ex.2.1⟩
    · obtain ⟨o, _, _, _, e, ex, _⟩ := I.hok p _ hk
      refine ⟨⟨o, e, ex.1⟩, fun a e2 => ?_⟩
      cases e2
      exact ⟨o, e, ex.2.1⟩
  | _ => exact False.elim ty
noncomputable def tBM (K : PySem.W.Frag) (T : String) (r : V → List V → Hp → VK → Prop) (to : TE) (t : TA) : TE := fun σ H Q => to σ H fun x H1 => tyV K T x H1 ∧ t σ H1 fun xs H2 => r x xs H2 Q
variable {o e : Expr} {es : List Expr} {to : TE} {t : TA} {name : Str} {apos cpos : Pos} {T id : String} {r : V → List V → Hp → VK → Prop}
theorem QdL (pa : PlainAttrs T) (slot : Slot T name id) (hty : typeOf (.builtin id) = pure (.type "method_descriptor")) (hm : MtR X id r) (ho : PE X o to) (ha : PA X (e :: es) t)
    (hbase : attributeBase o name X.env (eval o X.env) = eval o X.env := by rfl)
    (hfew : ((backTo cpos (starEach (e :: es) X.env)).all (fun x => !x.1) && (backToKw cpos (keywordEach [] X.env)).all (fun x => x.1.isSome)
      && decide ((e :: es).length + ([] : List Keyword).length + (if ([] : List Keyword).isEmpty then 0 else 1) < 30)) = true := by rfl)
    (hline : (apos.endLine == cpos.line) = true := by rfl) (hs : starEach (e :: es) X.env = (false, eval e X.env) :: starEach es X.env := by rfl) (hplain : (backTo cpos (starEach es X.env)).any (·.1) = false := by rfl) :
    PE X (.Call (.Attribute o name apos) (e :: es) [] cpos) (tBM X.K T r to t) := by
  intro pins s σ H Q I h
  refine wpAny_Call_method_late hbase hfew hline rfl (thn (ho pins s σ H _ I h) fun v s1 ⟨x, H1, I1, r1, ty, q1⟩ => ?_)
  obtain ⟨h1, h2⟩ := QcH I1 r1 ty
  refine ⟨T, id, pa, slot, hty, h1, h2, ?_⟩
  have hA := ha cpos pins s1 σ H1 _ I1 q1
  rw [hs] at hA ⊢
  refine Calls.callWith_builtin (by show (false || (backTo cpos (starEach es X.env)).any (·.1)) = false; rw [hplain] <;> rfl) (Calls.evalArgs_plain ?_)
  exact thn hA fun us s2 ⟨vs, H2, I2, r2, q2⟩ => hm pins s2 σ H2 x vs v us Q I2 r1 r2 q2
end
end L2

namespace L2
open PySem PySem.Spec PyProof.Rows

noncomputable def MtM (X : Cx) (id : String) (r : V → List V → Hp → VK → Prop) : Prop :=
  ∀ (pins : List (Addr × Obj)) (s : Shared) (σ : St) (H : Hp) (x : V) (xs : List V) (v : Value) (us : List Value) (Q : VK), Inv X pins σ H s → RelV x v → Vals xs us → r x xs H Q →
    wpAny (model X.prog X.w) X.A (call (.builtin id) (v :: us)) (EP X pins σ Q) X.xe s

theorem Vals.one : ∀ {x : V} {us : List Value}, Vals [x] us → ∃ u, us = [u] ∧ RelV x u
  | _, _, .cons r .nil => ⟨_, rfl, r⟩
theorem Vals.eraseIdx : ∀ {xs : List V} {us : List Value} (i : Nat), Vals xs us → Vals (xs.eraseIdx i) (us.eraseIdx i)
  | _, _, _, .nil => .nil
  | _, _, 0, .cons _ t => t
  | _, _, i + 1, .cons r t => .cons r (Vals.eraseIdx i t)
section
variable {X : Cx} {pins : List (Addr × Obj)} {σ : St} {H : Hp} {s : Shared} {l b : Addr} {xs ys zs : List V}

theorem Inv.lset {its its' : List Value} {n : Nat} {f : Array Value → Array Value} {t' : Nat} (I : Inv X pins σ H s) (hH : H l = some (.lst xs))
    (e : s.heap.get? l = some { cls := .type "list", data := .seq its.toArray n }) (hf : f its.toArray = its'.toArray) (hv : Vals ys its') (hz : ys.length ≤ sizeLine) :
    Inv X pins σ (upd H l (.lst ys)) { s with heap := s.heap.update l (Obj.mapSeq f), toks := t' } := by
  have q := PySem.IsL.update e f
  rw [hf] at q
  refine I.write (x := l) (e := l) (by rw [hH]; exact trivial) (.inl rfl) (fun b' u hb hu => (Heap.get?_update_other s.heap (Obj.mapSeq f) (Ne.symm hb)).trans hu) ⟨_, q⟩ ?_
  exact ⟨hz, its', _, hv, q⟩
theorem Inv.lnew {its : List Value} {t' : Nat} (I : Inv X pins σ H s) (hv : Vals ys its) (hz : ys.length ≤ sizeLine) :
    Inv X pins σ (upd H s.heap.objs.size (.lst ys)) { s with heap := s.heap.push { cls := .type "list", data := .seq its.toArray }, toks := t' } :=
  I.laid (fun _ _ q => Heap.get?_push_of_some _ q) (Nat.le_refl _) ⟨hz, its, 0, hv, Heap.get?_push_size _ rfl⟩
theorem Inv.fresh (I : Inv X pins σ H s) : H s.heap.objs.size = none := I.hok.fresh (Nat.le_refl _)
theorem Inv.lstM (I : Inv X pins σ H s) (hH : H l = some (.lst xs)) : xs.length ≤ sizeLine ∧ ∃ (its : List Value) (n : Nat), Vals xs its ∧ xs.length = its.length ∧ s.heap.get? l = some { cls := .type "list", data := .seq its.toArray n } := by
  obtain ⟨z, its, n, r, e⟩ := I.hok l _ hH
  exact ⟨z, its, n, r, r.length, e⟩

theorem Qc3 {n : Nat} (h : n ≤ sizeLine) : Builtin.List.listTooLong n = false := by
  unfold Builtin.List.listTooLong
  exact decide_eq_false (by omega)
end

section
variable {X : Cx}

noncomputable def QaQ : V → List V → Hp → VK → Prop := fun x vs H Q => ∃ l xs y, x = .ref l ∧ vs = [y] ∧ H l = some (.lst xs) ∧ xs.length < sizeLine ∧ Q .non (upd H l (.lst (xs ++ [y])))
theorem YO : MtM X "list.append" QaQ := by
  intro pins s σ H x vs v us Q I rx rv h
  obtain ⟨l, xs, y, rfl, rfl, hH, hz, q⟩ := h
  cases rx
  obtain ⟨u, rfl, ru⟩ := rv.one
  obtain ⟨z, its, n, r, hl, e⟩ := I.lstM hH
  refine call_meets F.slot_list_append ⟨_, e, rfl⟩ F.entry_list_append (F.args_list_append_2 _ _) (PySem.list_append l its.toArray n u (by rw [List.size_toArray]; omega)) ⟨e, ?_⟩
  refine ⟨.non, _, I.lset (its' := its ++ [u]) hH e (by simp) (r.append (.cons ru .nil)) ?_, rfl, q⟩
  rw [List.length_append, List.length_singleton]
  omega

noncomputable def QfY : R2 := fun x y H Q => ∃ l b xs zs, x = .ref l ∧ y = .ref b ∧ H l = some (.lst xs) ∧ H b = some (.lst zs) ∧ xs.length + zs.length ≤ sizeLine ∧ ∀ p, H p = none → Q (.ref p) (upd H p (.lst (xs ++ zs)))
theorem Qcb : OpR X (binaryOp .Add) QfY := by
  intro pins s σ H x y v u Q I rx ry h
  obtain ⟨l, b, xs, zs, rfl, rfl, hH, hB, hz, q⟩ := h
  cases rx
  cases ry
  obtain ⟨z, its, n, r, hl, e⟩ := I.lstM hH
  obtain ⟨z2, its2, n2, r2, hl2, e2⟩ := I.lstM hB
  refine PySem.P.add_list e e2 ?_ (by rw [List.size_toArray, List.size_toArray]; omega)
  have ea : its.toArray ++ its2.toArray = (its ++ its2).toArray := by simp
  rw [ea]
  exact ⟨.ref _, _, I.lnew (t' := s.toks) (r.append r2) (by rw [List.length_append]; omega), rfl, q _ I.fresh⟩
end

section
variable {prog : Program} {w : World} {A : Around} {E : Value → Shared → Prop} {s : Shared}
end

section
variable {X : Cx}
end
end L2

namespace Att
open PySem PySem.W PySem.Calls PyProof.Rows

theorem J4 {P : Params} {h : Heap} : ∀ (ns : List Int) (vs : List Value), WellAll P h vs (ns.map WData.int) → IntsAre vs ns := by
  intro ns
  induction ns with
  | nil =>
    intro vs w
    rw [List.map_nil] at w
    cases w
    exact .nil
  | cons n ns ih =>
    intro vs w
    rw [List.map_cons] at w
    cases w with
    | cons a b =>
      cases a
      exact .cons _ _ (ih _ b)

theorem Wu {l : OpenLaw} {n : Nat} (hn : l.most = some n) {P : Params} {h : Heap} {args : List WData} {vals : List Value}
    (hpre : l.row.toRowW.claim.pre args = true) (hwl : WellAll P h vals args) :
    ∃ a vs ns, vals = [Value.ref a] ∧ args = [WData.list (ns.map WData.int)] ∧ h.get? a = some { cls := .type "list", data := .seq vs.toArray } ∧ IntsAre vs ns ∧ ns.length ≤ n := by
  have hsh : WShape.hasAll [] args [.list .int] = true := (pre_splitW hpre).1
  have hc : l.pre.holds [] { args := args } = true := (pre_splitW hpre).2
  obtain ⟨d, r, rfl, h1, h2⟩ := hasAllW_cons hsh
  obtain rfl := hasAllW_nil h2
  obtain ⟨xs, rfl, h3⟩ := hasW_list h1
  obtain ⟨ns, rfl⟩ := items_int h3
  have hlen : ns.length ≤ n := by
    unfold OpenLaw.pre at hc
    have h4 : (WTm.not (.lt (.lit (.int (n : Int))) (.len (.arg 0)))).holds [] { args := [.list (ns.map .int)] } = true := by
      have h4 := (holds_andW hc).1
      rw [hn] at h4
      exact h4
    have h5 := condW_of h4 (w_not (w_lt w_lit (w_len_list (w_arg rfl))))
    rw [List.length_map] at h5
    refine Nat.le_of_not_lt fun q => ?_
    have q' : (n : Int) < ((ns.length : Nat) : Int) := by omega
    first
      | (rw [decide_eq_true q'] at h5; exact absurd h5 (by decide))
      | (simp at h5; omega)
  cases hwl with
  | cons w1 w2 =>
    cases w2
    cases w1 with
    | list ho hall => exact ⟨_, _, ns, rfl, rfl, ho, J4 ns _ hall, hlen⟩

theorem W1 (l : OpenLaw) (args : List WData) : l.row.toRowW.claim.post args (.bool true) args = true :=
  postW_of (r := l.row.toRowW) (X := (true == true))
    (show WShape.has [] (.bool true) .bool = true by first | rfl | decide | simp [WShape.has, WShape.arms, WShape.armsAll])
    (show (WTm.eq .res (.lit (.bool true))).value [] { args := args, res := some (.bool true), after := args } = some (.bool (true == true)) from w_eq_bool (w_res rfl) w_lit) rfl

theorem attach_call {l : OpenLaw} {n : Nat} {q : Program} {loose : List Str} {XP : (Str → Option Value) → Heap → Prop} {YP : World → Heap → Prop} {d : DefRec}
    (hn : l.most = some n) (hdf : d.params.defaults = [])
    (call : ∀ (w : World) (s₀ s₁ : Shared) (mg mb : Str → Option Value) (fa : Addr) (o : Obj) (pm cd doc : Value) (a : Addr) (vs : List Value) (ns : List Int),
      Ground q loose [] XP w s₀ mg mb s₁.heap → YP w s₁.heap →
      s₁.heap.get? fa = some o → o.data = .func (docDef d.name d.params d.body d.scope pm cd doc) → s₁.heap.CodeRec cd d.name → mg d.name = some (.ref fa) →
      s₁.heap.get? a = some { cls := .type "list", data := .seq vs.toArray } → IntsAre vs ns → ns.length ≤ n → s₁.gens = #[] →
      codeAny (model l.prog w) callerA (.call (.ref fa) ⟨[.ref a], []⟩) (fun r s' => r = .ok (.ret (.bool true)) ∧ OldK s₁.heap s'.heap ∧ s'.os = s₁.os ∧ AllBare s'.gens) s₁) :
    WalkO q loose XP YP l.row.toRowW d [] (fun f vs => PySem.call f vs) := by
  intro w s₀ s₁ mg mb G Y fa o pm cd doc dV kV ho hd hcd hD hmg hg args vals as hpre hlay hrd hwl hlo
  obtain rfl : dV = .none := Dflts.none hD hdf
  obtain rfl : kV = .none := Dflts.noKw hD
  obtain ⟨a, vs, ns, rfl, rfl, hobj, hints, hlen⟩ := Wu hn hpre hwl
  refine enter_call (codeAny_mono (call w s₀ s₁ mg mb fa o pm cd doc a vs ns G Y ho (fd_plain hd) hcd hmg hobj hints hlen hg) fun r s' hq => ?_)
  obtain ⟨rfl, h2, h3, h4⟩ := hq
  exact ⟨.inl ⟨.bool true, .bool true, [], rfl, fun _ => rfl, .bool true, W1 l _, fun _ => ⟨List.Pairwise.nil, fun _ hm => (nomatch hm)⟩⟩, h2, h3, h4⟩

section
variable {prog : Program} {w : World} {A : Around} {E : Value → Shared → Prop} {s : Shared} {K : Frag}

end
end Att

namespace L2
open PySem PySem.Spec PyProof.Rows

theorem Xd : ∀ {vs : List Value} {ns : List Int}, IntsAre vs ns → Vals (ns.map V.int) vs
  | _, _, .nil => .nil
  | _, _, .cons n t h => .cons ⟨t, rfl⟩ (Xd h)

noncomputable def QdH (H : Hp) : Prop := ∀ b, H b = none ∨ ∃ o xs, H b = some (.frz o (.lst xs))

theorem US {P : Program} {w : World} {K : PySem.W.Frag} {mg mb : Str → Option Value} {CX : CXT} {k : Nat} {fa a : Addr} {fd : FuncData} {x : Str} {sp : Sp} {s₁ : Shared} {vs : List Value} {ns : List Int}
    (KX : K.In s₁.heap) (hns : s₁.heap.Ns mainGlobals mg) (hb : s₁.heap.Ns builtinsNs mb) (hbb : ∀ x : Str, x ≠ "__name__" → mb x = bootBuiltins x) (hlim : s₁.heap.NoLimit) (hg : s₁.gens = #[])
    (ha : s₁.heap.get? a = some { cls := .type "list", data := .seq vs.toArray }) (hi : IntsAre vs ns) (hl : ns.length ≤ sizeLine) (hr : Room k callerA)
    (F : ∀ base : Heap, K.In base → base.Ns mainGlobals mg → FnOk P w K mg base CX k fa fd [x] sp) (hbind : ∀ (s : Shared) (u : Value), BindsTo s fd ⟨[u], []⟩ [(x, u)])
    (hsp : ∀ H : Hp, QdH H → SqL K H a (ns.map V.int) → sp [.ref a] H (fun v _ => v = .bl true) fun _ _ _ => False)
    (hCX : ∀ H e s', CX [] H s₁ (fun _ _ _ => False) e s' → False) :
    codeAny (model P w) callerA (.call (.ref fa) ⟨[.ref a], []⟩) (fun r s' => r = .ok (.ret (.bool true)) ∧ OldK s₁.heap s'.heap ∧ s'.os = s₁.os ∧ AllBare s'.gens) s₁ := by
  have rv := Xd hi
  have lenV := hi.length
  -- from an abstract heap in which nothing but the script may be tracked
  have core : ∀ H : Hp, QdH H → SqL K H a (ns.map V.int) → HOk P w H s₁.heap → (∀ b, H b ≠ none → b = a) → (H a ≠ none → K.lookup a = none) →
      codeAny (model P w) callerA (.call (.ref fa) ⟨[.ref a], []⟩) (fun r s' => r = .ok (.ret (.bool true)) ∧ OldK s₁.heap s'.heap ∧ s'.os = s₁.os ∧ AllBare s'.gens) s₁ := by
    intro H hO hS hok hA hK
    have base_of : ∀ {b : Addr} {o : Obj}, s₁.heap.get? b = some o → H b = none → (U7 s₁.heap H).get? b = some o := fun e n => UL e n
    have noA : ∀ {b : Addr} {o : Obj} {es : Array DictEntry} {ep : Nat}, s₁.heap.get? b = some o → o.data = .dict es ep → H b = none := fun {b o es ep} e d => by
      cases q : H b with
      | none => rfl
      | some u =>
        have e' : b = a := hA b (by rw [q]; simp)
        subst e'
        rw [ha] at e; cases e
        have d' : Data.seq vs.toArray _ = Data.dict es ep := d
        cases d'
    have nsK : ∀ {b : Addr} {m : Str → Option Value}, s₁.heap.Ns b m → (U7 s₁.heap H).Ns b m := fun {b m} ⟨o, es, ep, e, d, r⟩ => ⟨o, es, ep, base_of e (noA e d), d, r⟩
    have hKb : K.In (U7 s₁.heap H) := fun b o e => base_of (KX b o e) (by
      cases q : H b with
      | none => rfl
      | some u =>
        have e' : b = a := hA b (by rw [q]; simp)
        subst e'
        rw [hK (by rw [q]; simp)] at e; cases e)
    have hM : Mod K mg (U7 s₁.heap H) := ⟨hKb, nsK hns, ⟨mb, nsK hb, hbb⟩, let ⟨mc, h1, h2⟩ := hlim; ⟨mc, nsK h1, h2⟩⟩
    have e0 : Env0 P w K mg (U7 s₁.heap H) callerA [] s₁ H := ⟨rfl, hM, fun b o e => Qa5 e, Nat.le_of_eq (We _ _), trivial, fun b hb => absurd (show b ∈ ([] : List Addr) from hb) (by simp), hok, .of_eq hg⟩
    refine codeAny_mono ((F _ hKb (nsK hns)).run callerA [] s₁ H ⟨[.ref a], []⟩ [.ref a] [.ref a] _ _ hr e0 (hbind s₁ (.ref a)) (.cons rfl .nil) (hsp H hO hS)) fun r s' h => ?_
    cases r with
    | error e => exact (hCX H e s' h).elim
    | ok fl =>
      cases fl with
      | next => exact False.elim h
      | brk => exact False.elim h
      | cont => exact False.elim h
      | ret u =>
        obtain ⟨v, H', os, bare, un, hok', r', q⟩ := h
        have q' : v = .bl true := q
        subst q'
        obtain rfl : u = Value.bool true := r'
        refine ⟨rfl, OldK.of_keep fun b o e => ?_, os, bare⟩
        cases q : H b with
        | none => exact un.keep b o e q (by intro z; exact absurd (show b ∈ ([] : List Addr) from z) (by simp)) (by simp)
        | some u =>
          rcases hO b with z | ⟨ob, xs, z⟩
          · rw [q] at z; cases z
          · have z2 := un.frzs b ob _ z
            obtain ⟨e1, _⟩ := hok b _ z
            obtain ⟨e2, _⟩ := hok' b _ z2
            rw [e] at e1; cases e1
            exact e2
  cases hk : K.lookup a with
  | some o =>
    -- the script is one of the module's own objects
    have e := KX a o hk
    rw [ha] at e
    cases e
    refine core (fun _ => none) (fun _ => .inl rfl) (.inr ⟨_, vs.toArray, _, hk, rfl, rfl, rfl, by rw [List.size_toArray, lenV]; exact hl, by simpa using rv⟩) (fun b u z => by have z' : (none : Option HO) = some u := z; cases z') (fun b z => absurd rfl z) fun z => absurd rfl z
  | none =>
    refine core (fun b => if b = a then some (.frz { cls := .type "list", data := .seq vs.toArray } (.lst (ns.map V.int))) else none) (fun b => ?_) (.inl (.inr ⟨{ cls := .type "list", data := .seq vs.toArray }, if_pos rfl⟩)) (fun b u z => ?_) (fun b z => ?_) fun _ => hk
    · by_cases hb : b = a
      · exact .inr ⟨_, _, if_pos hb⟩
      · exact .inl (if_neg hb)
    · by_cases hb : b = a
      · have z' := (if_pos hb).symm.trans z
        cases z'
        subst hb
        exact ⟨ha, by rw [List.length_map]; exact hl, vs, _, rv, ha⟩
      · have z' := (if_neg hb).symm.trans z
        cases z'
    · by_cases hb : b = a
      · exact hb
      · exact absurd (if_neg hb) z
end L2

namespace L2
open PySem PySem.Spec PyProof.Rows

noncomputable abbrev KOf {K : PySem.W.Frag} {h : Heap} (_ : K.In h) : PySem.W.Frag := K

theorem Qbo {l : PySem.W.OpenLaw} {n k : Nat} {q : Program} {loose : List Str} {XP : (Str → Option Value) → Heap → Prop} {YP : World → Heap → Prop} {d : DefRec} {K : Params → PySem.W.Frag} {CX : World → CXT} {sp : World → Sp} {x : Str}
    (hn : l.most = some n) (hn2 : n ≤ sizeLine) (hdf : d.params.defaults = []) (hr : Room k callerA)
    (hY : ∀ (w : World) (h : Heap), YP w h → (K w.params).In h)
    (F : ∀ (w : World) (mg : Str → Option Value) (fa : Addr) (h : Heap), (K w.params).In h → h.Ns mainGlobals mg → mg d.name = some (.ref fa) →
      ∃ fd : FuncData, (∀ (s : Shared) (u : Value), BindsTo s fd ⟨[u], []⟩ [(x, u)]) ∧
        ∀ base : Heap, (K w.params).In base → base.Ns mainGlobals mg → FnOk l.prog w (K w.params) mg base (CX w) k fa fd [x] (sp w))
    (hsp : ∀ (w : World) (H : Hp) (a : Addr) (ns : List Int), ns.length ≤ n → QdH H → SqL (K w.params) H a (ns.map V.int) → sp w [.ref a] H (fun v _ => v = .bl true) fun _ _ _ => False)
    (hCX : ∀ (w : World) (H : Hp) (s : Shared) (e : Value) (s' : Shared), CX w [] H s (fun _ _ _ => False) e s' → False) :
    PySem.W.WalkO q loose XP YP l.row.toRowW d [] (fun f vs => PySem.call f vs) := by
  refine Att.attach_call hn hdf fun w s₀ s₁ mg mb fa o pm cd doc a vs ns G Y ho hd hcd hmg hobj hints hlen hg => ?_
  have KX := hY w _ Y
  obtain ⟨fd, hb, hF⟩ := F w mg fa _ KX G.T.g hmg
  exact US KX G.T.g G.T.b G.T.builtins G.T.nolimit hg hobj hints (Nat.le_trans hlen hn2) hr hF hb (fun H hO hS => hsp w H a ns hlen hO hS) fun H e s' => hCX w H s₁ e s'
end L2


namespace L2
open PySem PySem.Spec PyProof.Rows

noncomputable def Z5 (s : Stmt) : Arguments := match s with
  | .FunctionDef _ a _ _ _ _ _ _ _ _ => a
  | _ => { posonlyargs := [], args := [], vararg := none, kwonlyargs := [], kw_defaults := [], kwarg := none, defaults := [] }
noncomputable def Zl (s : Stmt) : List Stmt := match s with
  | .FunctionDef _ _ b _ _ _ _ _ _ _ => b
  | _ => []
noncomputable def Qm (s : Stmt) : Scope := match s with
  | .FunctionDef _ _ _ _ _ _ sc _ _ _ => sc
  | _ => { kind := .function, names := [], isGenerator := false, isCoroutine := false }

noncomputable abbrev CX0 : CXT := fun _ _ _ _ _ _ => False
noncomputable abbrev E0 : XK := fun _ _ _ => False
theorem Qdn {X : Cx} : KL CX0 X E0 := fun _ _ _ _ _ _ _ h => h.elim

structure Fun (K : PySem.W.Frag) (x qual : Str) (st : Stmt) (f : Addr) (fd : FuncData) : Prop where
  ex : ∃ (oc : Value) (od : Option Addr) (kV doc pm : Value) (an : Option Addr) (cdv ct : Value) (osl : Array (Option Value)),
    fd = PySem.W.fnOf x qual (Z5 st) (Zl st) (Qm st) .none kV doc pm an cdv ct ∧ K.lookup f = some ⟨oc, od, .func fd, osl⟩ ∧ PySem.W.codeIn K cdv qual = true
  kp : PySem.W.keepIn K (.ref f) = true
section
variable {P : Program} {w : World} {K : PySem.W.Frag} {mg : Str → Option Value} {base : Heap}
theorem Fun.ok {x qual : Str} {st : Stmt} {f : Addr} {fd : FuncData} {N ps : List Str} {k : Nat} {sp : Sp} (F : Fun K x qual st f fd) (S : FnScope N ps (Qm st)) (len : ∀ vs H Q E, sp vs H Q E → vs.length = ps.length)
    (hbody : ∀ (cdv : Value) (A : Around) (outer : List Env) (s : Shared) (H : Hp) (vs : List V) (Q : VK) (E : XK), Room k (A.deeper (envOfC qual (Qm st) s.heap.objs.size f cdv)) → sp vs H Q E →
      ∃ t, PSs (GF CX0 P w K mg base N qual (Qm st) f cdv A outer s H E).nox (Zl st) t ∧ t { nx := fun _ H' => Q .non H', rt := Q } (start N vs) H) : FnOk P w K mg base CX0 (k + 1) f fd ps sp := by
  obtain ⟨oc, od, kV, doc, pm, an, cdv, ct, osl, rfl, lk, hcd⟩ := F.ex
  refine Qdi lk hcd S len fun A outer s H vs Q E hr hsp => ?_
  obtain ⟨t, h, q⟩ := hbody cdv A outer s H vs Q E hr hsp
  exact ⟨t, h.nox, q⟩
theorem Fun.binds {x qual : Str} {st : Stmt} {f : Addr} {fd : FuncData} {ps : List Str} (F : Fun K x qual st f fd)
    (h : ∀ (kV doc pm : Value) (an : Option Addr) (cdv ct : Value) (us : List Value), us.length = ps.length → bindArgs (PySem.W.fnOf x qual (Z5 st) (Zl st) (Qm st) .none kV doc pm an cdv ct) ⟨us, []⟩ = pure (ps.zip us)) : Binds K fd ps [] := by
  obtain ⟨oc, od, kV, doc, pm, an, cdv, ct, osl, rfl, lk, hcd⟩ := F.ex
  exact .all (h kV doc pm an cdv ct)
theorem G0 {x qual : Str} {st : Stmt} {f : Addr} {oc : Value} {od an : Option Addr} {osl : Array (Option Value)} {kV doc pm cdv ct : Value} (l : K.lookup f = some ⟨oc, od, .func (PySem.W.fnOf x qual (Z5 st) (Zl st) (Qm st) .none kV doc pm an cdv ct), osl⟩)
    (c : PySem.W.codeIn K cdv qual = true) (k : PySem.W.keepIn K (.ref f) = true) : Fun K x qual st f (PySem.W.fnOf x qual (Z5 st) (Zl st) (Qm st) .none kV doc pm an cdv ct) := ⟨⟨oc, od, kV, doc, pm, an, cdv, ct, osl, rfl, l, c⟩, k⟩
end
section
variable {X : Cx}
end

theorem Qc8 {A B : Prop} (h : B) : if false = true then A else B := by
  rw [if_neg Bool.false_ne_true]
  exact h
theorem Qc5 {A B : Prop} (h : A) : if true = true then A else B := by
  rw [if_pos rfl]
  exact h
end L2

namespace L2
open PySem PySem.Spec PyProof.Rows

section
variable {κ : Type} [DecidableEq κ]
noncomputable def G4 (kvs : List (κ × V)) (k : κ) : Option V := (kvs.find? fun kv => decide (kv.1 = k)).map (·.2)
noncomputable def Qez (kvs : List (κ × V)) (k : κ) (v : V) : List (κ × V) :=
  if (kvs.any fun kv => decide (kv.1 = k)) = true then kvs.map (fun kv => if kv.1 = k then (kv.1, v) else kv) else kvs ++ [(k, v)]
theorem UP {p : κ × V} {r : List (κ × V)} {k : κ} (e : p.1 = k) : G4 (p :: r) k = some p.2 := by simp [G4, List.find?_cons, e]
theorem Gm {p : κ × V} {r : List (κ × V)} {k : κ} (e : ¬ p.1 = k) : G4 (p :: r) k = G4 r k := by simp [G4, List.find?_cons, e]
theorem RelO.isSome_eq {o : Option V} {u : Option Value} (r : RelO o u) : o.isSome = u.isSome := by
  cases o with
  | none => cases u with
    | none => rfl
    | some _ => exact (show False from r).elim
  | some _ => cases u with
    | none => exact (show False from r).elim
    | some _ => rfl
theorem RelO.getD {o : Option V} {u : Option Value} {d : V} {d' : Value} (r : RelO o u) (rd : RelV d d') : RelV (o.getD d) (u.getD d') := by
  cases o with
  | none => cases u with
    | none => exact rd
    | some _ => exact (show False from r).elim
  | some _ => cases u with
    | none => exact (show False from r).elim
    | some _ => exact r

theorem KV.val {kvs : List (κ × V)} {vs : List (κ × Value)} (r : KV kvs vs) (k : κ) : RelO (G4 kvs k) (valueAt vs k) := by
  unfold KV at r
  induction r with
  | nil => exact True.intro
  | @cons p q ps qs h t ih =>
    obtain ⟨h1, h2⟩ := h
    by_cases e : p.1 = k
    · have e' : q.1 = k := h1.symm.trans e
      have b : valueAt (q :: qs) k = some q.2 := by simp [valueAt, List.find?_cons, e']
      rw [UP e, b]; exact h2
    · have e' : ¬ q.1 = k := fun z => e (h1.trans z)
      have b : valueAt (q :: qs) k = valueAt qs k := by simp [valueAt, List.find?_cons, e']
      rw [Gm e, b]; exact ih
theorem KV.any {kvs : List (κ × V)} {vs : List (κ × Value)} (r : KV kvs vs) (k : κ) : (kvs.any fun kv => decide (kv.1 = k)) = vs.any fun kv => decide (kv.1 = k) := by
  unfold KV at r
  induction r with
  | nil => rfl
  | cons h t ih => rw [List.any_cons, List.any_cons, ih, h.1]
theorem KV.repl {kvs : List (κ × V)} {vs : List (κ × Value)} (r : KV kvs vs) (k : κ) {y : V} {u : Value} (ry : RelV y u) :
    KV (kvs.map fun kv => if kv.1 = k then (kv.1, y) else kv) (vs.map fun kv => if kv.1 = k then (kv.1, u) else kv) := by
  unfold KV at r ⊢
  induction r with
  | nil => exact .nil
  | @cons p q ps qs h t ih =>
    rw [List.map_cons, List.map_cons]
    refine .cons ?_ ih
    obtain ⟨h1, h2⟩ := h
    by_cases e : p.1 = k
    · rw [if_pos e, if_pos (h1.symm.trans e)]; exact ⟨h1, ry⟩
    · rw [if_neg e, if_neg (fun z => e (h1.trans z))]; exact ⟨h1, h2⟩
theorem KV.put {kvs : List (κ × V)} {vs : List (κ × Value)} (r : KV kvs vs) (k : κ) {y : V} {u : Value} (ry : RelV y u) : KV (Qez kvs k y) (stored vs k u) := by
  unfold Qez stored
  rw [r.any k]
  by_cases e : (vs.any fun kv => decide (kv.1 = k)) = true
  · rw [if_pos e, if_pos e]; exact r.repl k ry
  · rw [if_neg e, if_neg e]; exact Paired.snoc r ⟨rfl, ry⟩
theorem KV.keys {kvs : List (κ × V)} {vs : List (κ × Value)} (r : KV kvs vs) : kvs.map (·.1) = vs.map (·.1) := by
  unfold KV at r
  induction r with
  | nil => rfl
  | cons h t ih => rw [List.map_cons, List.map_cons, ih, h.1]
theorem KV.length {kvs : List (κ × V)} {vs : List (κ × Value)} (r : KV kvs vs) : kvs.length = vs.length := Paired.length r
end


section
variable {P : Program} {w : World} {H : Hp} {h : Heap} {a : Addr}
end

noncomputable def DGet (H : Hp) (a : Addr) (y : V) (r : Option V) : Prop := ∃ kvs k, Rd H a (.dK kvs) ∧ y = kV k ∧ r = G4 kvs k
theorem DGet.k {H : Hp} {a : Addr} {kvs : List (Key × V)} {k : Key} (e : H a = some (.dK kvs)) : DGet H a (kV k) (G4 kvs k) := ⟨kvs, k, .inl e, rfl, rfl⟩
section
variable {X : Cx} {pins : List (Addr × Obj)} {σ : St} {H : Hp} {s : Shared} {a : Addr} {y v : V} {u r : Value} {o : Option V} {A : Around} {E : Value → Shared → Prop}

theorem Inv.big (I : Inv X pins σ H s) : sysModules < s.heap.objs.size := by
  have h : mainGlobals < s.heap.objs.size := (I.mod.glob.keeps I.bk).lt
  exact Nat.lt_trans (by decide) h

theorem QaO {h' : Heap} {t' : Nat} {ob : HO} (I : Inv X pins σ H s) (mu : Mut (H a)) (hs : Heap.SameBut a s.heap h') (he : ∃ q, h'.get? a = some q) (new : ObjOk X.prog X.w (upd H a ob) h' a ob) :
    Inv X pins σ (upd H a ob) { s with heap := h', toks := t' } :=
  I.write (x := a) (e := a) mu (.inl rfl) (fun b q hb z => (hs.2 b hb).trans z) he new
end

section
variable {X : Cx} {pins : List (Addr × Obj)} {σ : St} {H : Hp} {s : Shared} {a : Addr} {kvs : List (Key × V)} {k : Key} {u : Value} {A : Around} {E : Value → Shared → Prop}
end


section
variable {X : Cx} {o i e value : Expr} {pos pos' tpos : Pos} {td ty tv : TE}
end


theorem KC {P : Program} {w : World} {H : Hp} (h : Heap) (hb : sysModules < h.objs.size) : ObjOk P w H (h.push { cls := .type "dict", data := .dict #[] }) h.objs.size (.dT []) :=
  ⟨Nat.zero_le _, beq_eq_false_iff_ne.mpr (Ne.symm (Nat.ne_of_lt hb)), [], .nil, _, #[], 0, Heap.get?_push_size _ rfl, ⟨rfl, rfl, rfl⟩, rfl, rfl, List.nodup_nil, rfl⟩
noncomputable def Qcs : TE := fun _ H Q => ∀ p, H p = none → Q (.ref p) (upd H p (.dT []))
section
variable {X : Cx} {pos : Pos}
theorem UT : PE X (.Dict [] [] pos) Qcs := fun pins s σ H Q I h =>
  wpAny_Dict_empty ⟨.ref s.heap.objs.size, _, I.laid (a := s.heap.objs.size) (o := .dT []) (t' := s.toks) (fun _ _ q => Heap.get?_push_of_some _ q) (Nat.le_refl _) (KC s.heap I.big), rfl, h _ (I.hok.fresh (Nat.le_refl _))⟩
end

structure M1 (X : Cx) (o : Expr) (m : Str) (apos : Pos) (e : Expr) (cpos : Pos) : Prop where
  base : attributeBase o m X.env (eval o X.env) = eval o X.env
  few : ((backTo cpos (starEach [e] X.env)).all (fun x => !x.1) && (backToKw cpos (keywordEach [] X.env)).all (fun x => x.1.isSome)
    && decide (([e] : List Expr).length + ([] : List Keyword).length + (if ([] : List Keyword).isEmpty then 0 else 1) < 30)) = true
  line : (apos.endLine == cpos.line) = true
  trees : backTo cpos (starEach [e] X.env) = [(false, eval e X.env)]
structure M2 (X : Cx) (o : Expr) (m : Str) (apos : Pos) (e f : Expr) (cpos : Pos) : Prop where
  base : attributeBase o m X.env (eval o X.env) = eval o X.env
  few : ((backTo cpos (starEach [e, f] X.env)).all (fun x => !x.1) && (backToKw cpos (keywordEach [] X.env)).all (fun x => x.1.isSome)
    && decide (([e, f] : List Expr).length + ([] : List Keyword).length + (if ([] : List Keyword).isEmpty then 0 else 1) < 30)) = true
  line : (apos.endLine == cpos.line) = true
  trees : backTo cpos (starEach [e, f] X.env) = [(false, eval e X.env), (false, eval f X.env)]

section
variable {X : Cx} {pins : List (Addr × Obj)} {σ : St} {H : Hp} {s : Shared} {a : Addr} {y d : V} {u r : Value} {o : Option V} {A : Around} {E : Value → Shared → Prop}
end

section
variable {X : Cx} {o e f : Expr} {apos cpos : Pos} {td ty tx : TE}
end

section
variable {X : Cx} {pins : List (Addr × Obj)} {σ : St} {H : Hp} {s : Shared} {a : Addr} {kvs : List (Key × V)} {A : Around} {E : Value → Shared → Prop}
end


section
variable {X : Cx} {pins : List (Addr × Obj)} {σ : St} {H : Hp} {s : Shared} {a : Addr} {y : V} {u : Value} {A : Around} {E : Value → Shared → Prop}
end
end L2

namespace L2
open PySem PySem.Spec PyProof.Rows
section
variable {X : Cx}
end
section
variable {κ : Type} [DecidableEq κ]
end
end L2

namespace Mi
open PySem PySem.Spec PyProof.Rows L2

inductive W where
  | non | bl (b : Bool) | int (i : Int) | str (x : Str) | tup (ws : List W) | lst (ws : List W) | frz (ws : List W) | ref (n : Nat) | ty (n : String)
inductive MO where
  | lst (ws : List W)
  | dic (kvs : List (Key × W))
  | dct (kvs : List (W × W))
noncomputable abbrev MH := List MO
noncomputable abbrev MSt := List (Option W)

structure Rn where
  ρ : Nat → Addr
  N : Nat
  F : Hp
  G : Hp
structure Ext (R R' : Rn) : Prop where
  n : R.N ≤ R'.N
  ρ : ∀ n, n < R.N → R'.ρ n = R.ρ n
  f : ∀ a o, R.F a = some o → R'.F a = some o
  g : R'.G = R.G
theorem Ext.refl (R : Rn) : Ext R R := ⟨Nat.le_refl _, fun _ _ => rfl, fun _ _ h => h, rfl⟩
theorem Ext.trans {R R1 R2 : Rn} (a : Ext R R1) (b : Ext R1 R2) : Ext R R2 :=
  ⟨Nat.le_trans a.n b.n, fun n h => (b.ρ n (Nat.lt_of_lt_of_le h a.n)).trans (a.ρ n h), fun x o h => b.f x o (a.f x o h), b.g.trans a.g⟩

theorem Zz {K : PySem.W.Frag} {F F' : Hp} (e : ∀ a o, F a = some o → F' a = some o) {a : Addr} {xs : List V} (h : SqT K F a xs) : SqT K F' a xs := by
  rcases h with (h | ⟨o, h⟩) | h
  · exact .inl (.inl (e _ _ h))
  · exact .inl (.inr ⟨o, e _ _ h⟩)
  · exact .inr h
theorem QS {K : PySem.W.Frag} {F F' : Hp} (e : ∀ a o, F a = some o → F' a = some o) {a : Addr} {xs : List V} (h : SqL K F a xs) : SqL K F' a xs := by
  rcases h with (h | ⟨o, h⟩) | h
  · exact .inl (.inl (e _ _ h))
  · exact .inl (.inr ⟨o, e _ _ h⟩)
  · exact .inr h

section
variable (K : PySem.W.Frag)
mutual
noncomputable def Rw (R : Rn) : W → V → Prop
  | .non, v => v = .non
  | .bl b, v => v = .bl b
  | .int i, v => v = .int i
  | .str x, v => v = .str x
  | .tup ws, v => ∃ a xs, v = .ref a ∧ SqT K R.F a xs ∧ Rws R ws xs
  | .lst ws, v => ∃ a xs, v = .ref a ∧ R.F a = some (.lst xs) ∧ Rws R ws xs
  | .frz ws, v => ∃ a xs, v = .ref a ∧ SqL K R.F a xs ∧ Rws R ws xs
  | .ref n, v => n < R.N ∧ v = .ref (R.ρ n)
  | .ty n, v => v = .ty n
noncomputable def Rws (R : Rn) : List W → List V → Prop
  | [], vs => vs = []
  | w :: ws, vs => ∃ v vs', vs = v :: vs' ∧ Rw R w v ∧ Rws R ws vs'
end
end
section
variable {K : PySem.W.Frag} {R R' : Rn}
mutual
theorem Rw.mono (e : Ext R R') : ∀ (w : W) (v : V), Rw K R w v → Rw K R' w v
  | .non, _, h => by unfold Rw at h ⊢; exact h
  | .bl _, _, h => by unfold Rw at h ⊢; exact h
  | .int _, _, h => by unfold Rw at h ⊢; exact h
  | .str _, _, h => by unfold Rw at h ⊢; exact h
  | .ty _, _, h => by unfold Rw at h ⊢; exact h
  | .tup ws, _, h => by
    unfold Rw at h ⊢
    obtain ⟨a, xs, e1, e2, e3⟩ := h
    exact ⟨a, xs, e1, Zz e.f e2, Rws.mono e ws xs e3⟩
  | .lst ws, _, h => by
    unfold Rw at h ⊢
    obtain ⟨a, xs, e1, e2, e3⟩ := h
    exact ⟨a, xs, e1, e.f a _ e2, Rws.mono e ws xs e3⟩
  | .frz ws, _, h => by
    unfold Rw at h ⊢
    obtain ⟨a, xs, e1, e2, e3⟩ := h
    exact ⟨a, xs, e1, QS e.f e2, Rws.mono e ws xs e3⟩
  | .ref n, _, h => by
    unfold Rw at h ⊢
    obtain ⟨e1, e2⟩ := h
    exact ⟨Nat.lt_of_lt_of_le e1 e.n, by rw [e.ρ n e1]; exact e2⟩
theorem Rws.mono (e : Ext R R') : ∀ (ws : List W) (vs : List V), Rws K R ws vs → Rws K R' ws vs
  | [], _, h => by unfold Rws at h ⊢; exact h
  | w :: ws, _, h => by
    unfold Rws at h ⊢
    obtain ⟨v, vs', e1, e2, e3⟩ := h
    exact ⟨v, vs', e1, Rw.mono e w v e2, Rws.mono e ws vs' e3⟩
end
theorem Rws.nil_iff {vs : List V} : Rws K R [] vs ↔ vs = [] := by unfold Rws; exact Iff.rfl
theorem Rws.cons_iff {w : W} {ws : List W} {vs : List V} : Rws K R (w :: ws) vs ↔ ∃ v vs', vs = v :: vs' ∧ Rw K R w v ∧ Rws K R ws vs' := by
  constructor
  · intro h; unfold Rws at h; exact h
  · intro h; unfold Rws; exact h
theorem Rws.nil : Rws K R [] [] := Rws.nil_iff.mpr rfl
theorem Rws.cons {w : W} {ws : List W} {v : V} {vs : List V} (a : Rw K R w v) (b : Rws K R ws vs) : Rws K R (w :: ws) (v :: vs) := Rws.cons_iff.mpr ⟨v, vs, rfl, a, b⟩
theorem Rws.paired : ∀ {ws : List W} {vs : List V}, Rws K R ws vs → Paired (Rw K R) ws vs
  | [], vs, h => by rw [Rws.nil_iff] at h; subst h; exact .nil
  | w :: ws, vs, h => by
    rw [Rws.cons_iff] at h
    obtain ⟨v, vs', rfl, a, b⟩ := h
    exact .cons a (Rws.paired b)
theorem Rws.of : ∀ {ws : List W} {vs : List V}, Paired (Rw K R) ws vs → Rws K R ws vs
  | _, _, .nil => Rws.nil
  | _, _, .cons a b => Rws.cons a (Rws.of b)
theorem Rws.length {ws : List W} {vs : List V} (h : Rws K R ws vs) : ws.length = vs.length := Paired.length h.paired
theorem Rws.get : ∀ {ws : List W} {vs : List V} {i : Nat} {w : W}, Rws K R ws vs → ws[i]? = some w → ∃ v, vs[i]? = some v ∧ Rw K R w v
  | [], _, _, _, _, e => by simp at e
  | w :: ws, vs, 0, x, h, e => by
    rw [Rws.cons_iff] at h
    obtain ⟨v, vs', rfl, a, b⟩ := h
    simp at e; subst e
    exact ⟨v, by simp, a⟩
  | w :: ws, vs, i + 1, x, h, e => by
    rw [Rws.cons_iff] at h
    obtain ⟨v, vs', rfl, a, b⟩ := h
    obtain ⟨y, h1, h2⟩ := Rws.get (i := i) b (by simpa using e)
    exact ⟨y, by simpa using h1, h2⟩
theorem Rws.append : ∀ {ws us : List W} {vs xs : List V}, Rws K R ws vs → Rws K R us xs → Rws K R (ws ++ us) (vs ++ xs)
  | [], us, vs, xs, h, q => by rw [Rws.nil_iff] at h; subst h; exact q
  | w :: ws, us, vs, xs, h, q => by
    rw [Rws.cons_iff] at h
    obtain ⟨v, vs', rfl, a, b⟩ := h
    exact Rws.cons a (Rws.append b q)
theorem Rws.take : ∀ {ws : List W} {vs : List V} (n : Nat), Rws K R ws vs → Rws K R (ws.take n) (vs.take n)
  | _, _, 0, _ => by simp; exact Rws.nil
  | [], vs, n + 1, h => by rw [Rws.nil_iff] at h; subst h; simp; exact Rws.nil
  | w :: ws, vs, n + 1, h => by
    rw [Rws.cons_iff] at h
    obtain ⟨v, vs', rfl, a, b⟩ := h
    exact Rws.cons a (Rws.take n b)
theorem Rws.drop : ∀ {ws : List W} {vs : List V} (n : Nat), Rws K R ws vs → Rws K R (ws.drop n) (vs.drop n)
  | _, _, 0, h => by simpa using h
  | [], vs, n + 1, h => by rw [Rws.nil_iff] at h; subst h; simp; exact Rws.nil
  | w :: ws, vs, n + 1, h => by
    rw [Rws.cons_iff] at h
    obtain ⟨v, vs', rfl, a, b⟩ := h
    exact Rws.drop n b
theorem Rws.set : ∀ {ws : List W} {vs : List V} {w : W} {v : V} (n : Nat), Rws K R ws vs → Rw K R w v → Rws K R (ws.set n w) (vs.set n v)
  | [], vs, _, _, n, h, _ => by rw [Rws.nil_iff] at h; subst h; simp; exact Rws.nil
  | x :: ws, vs, w, v, 0, h, q => by
    rw [Rws.cons_iff] at h
    obtain ⟨y, vs', rfl, a, b⟩ := h
    exact Rws.cons q b
  | x :: ws, vs, w, v, n + 1, h, q => by
    rw [Rws.cons_iff] at h
    obtain ⟨y, vs', rfl, a, b⟩ := h
    exact Rws.cons a (Rws.set n b q)
end

noncomputable def kW : Key → W
  | .inl i => .int i
  | .inr x => .str x
noncomputable def VY : Nat → W → Option Tr
  | 0, _ => none
  | _ + 1, .int i => some (.i i)
  | _ + 1, .bl b => some (.i (if b then 1 else 0))
  | _ + 1, .str x => some (.s x)
  | n + 1, .tup ws => (ws.mapM (VY n)).map .t
  | _ + 1, _ => none
noncomputable def nrm : W → Option Tr
  | .tup ws => VY 8 (.tup ws)
  | _ => none
section
variable (K : PySem.W.Frag)
noncomputable def Ro (R : Rn) : MO → Option HO → Prop
  | .lst ws, o => ∃ xs, o = some (.lst xs) ∧ Rws K R ws xs
  | .dic kvs, o => ∃ kx : List (Key × V), o = some (.dK kx) ∧ Paired (fun p q => p.1 = q.1 ∧ Rw K R p.2 q.2) kvs kx
  | .dct kvs, o => ∃ kx : List (Tr × Addr × V), o = some (.dT kx) ∧ Paired (fun p q => Rw K R p.1 (.ref q.2.1) ∧ nrm p.1 = some q.1 ∧ Rw K R p.2 q.2.2) kvs kx
structure Rh (R : Rn) (h : MH) (H : Hp) : Prop where
  len : R.N = h.length
  sub : ∀ a o, R.F a = some o → H a = some o
  sep : ∀ n, n < R.N → R.F (R.ρ n) = none
  inj : ∀ m n, m < R.N → n < R.N → R.ρ m = R.ρ n → m = n
  obj : ∀ n o, h[n]? = some o → Ro K R o (H (R.ρ n))
  gsub : ∀ a o, R.G a = some o → H a = some o
  gsep : ∀ n, n < R.N → R.G (R.ρ n) = none
  gf : ∀ a o, R.G a = some o → R.F a = none
noncomputable def Rst (R : Rn) (σi : MSt) (σ : L2.St) : Prop := σi.length = σ.length ∧ ∀ (i : Nat) (w : W), σi[i]? = some (some w) → ∃ v, σ[i]? = some (some v) ∧ Rw K R w v
end
section
variable {K : PySem.W.Frag} {R R' : Rn} {h : MH} {H : Hp} {σi : MSt} {σ : L2.St}
theorem Ro.mono (e : Ext R R') {o : MO} {u : Option HO} (q : Ro K R o u) : Ro K R' o u := by
  cases o with
  | lst ws => obtain ⟨xs, e1, e2⟩ := q; exact ⟨xs, e1, Rws.mono e ws xs e2⟩
  | dic kvs => obtain ⟨kx, e1, e2⟩ := q; exact ⟨kx, e1, Paired.mapP e2 fun a b z => ⟨z.1, Rw.mono e _ _ z.2⟩⟩
  | dct kvs => obtain ⟨kx, e1, e2⟩ := q; exact ⟨kx, e1, Paired.mapP e2 fun a b z => ⟨Rw.mono e _ _ z.1, z.2.1, Rw.mono e _ _ z.2.2⟩⟩
theorem Ro.some {o : MO} {u : Option HO} (q : Ro K R o u) : ∃ x, u = some x := by
  cases o with
  | lst ws => obtain ⟨xs, e1, e2⟩ := q; exact ⟨_, e1⟩
  | dic kvs => obtain ⟨kx, e1, e2⟩ := q; exact ⟨_, e1⟩
  | dct kvs => obtain ⟨kx, e1, e2⟩ := q; exact ⟨_, e1⟩
theorem Rst.mono (e : Ext R R') (q : Rst K R σi σ) : Rst K R' σi σ := ⟨q.1, fun i w h => by
  obtain ⟨v, h1, h2⟩ := q.2 i w h
  exact ⟨v, h1, Rw.mono e _ _ h2⟩⟩
theorem Rst.set {i : Nat} {w : W} {v : V} (q : Rst K R σi σ) (r : Rw K R w v) : Rst K R (σi.set i (some w)) (σ.set i (some v)) := by
  refine ⟨by rw [List.length_set, List.length_set]; exact q.1, fun j u e => ?_⟩
  rw [List.getElem?_set] at e ⊢
  by_cases hij : i = j
  · subst hij
    rw [if_pos rfl] at e ⊢
    by_cases hl : i < σi.length
    · rw [if_pos hl] at e
      rw [if_pos (q.1 ▸ hl)]
      cases e
      exact ⟨v, rfl, r⟩
    · rw [if_neg hl] at e; cases e
  · rw [if_neg hij] at e ⊢
    exact q.2 j u e
theorem Rh.there (q : Rh K R h H) {n : Nat} (hn : n < R.N) : ∃ o u, h[n]? = some o ∧ H (R.ρ n) = some u := by
  have hl : n < h.length := q.len ▸ hn
  obtain ⟨u, hu⟩ := (q.obj n h[n] (List.getElem?_eq_getElem hl)).some
  exact ⟨h[n], u, List.getElem?_eq_getElem hl, hu⟩
theorem Rh.ne (q : Rh K R h H) {p : Addr} (hp : H p = none) {n : Nat} (hn : n < R.N) : R.ρ n ≠ p := fun e => by
  obtain ⟨o, u, _, hu⟩ := q.there hn
  rw [e, hp] at hu; cases hu
theorem Rh.fix (q : Rh K R h H) {p : Addr} {o : HO} (hp : H p = none) :
    Ext R { R with F := upd R.F p o } ∧ Rh K { R with F := upd R.F p o } h (upd H p o) := by
  have hF : R.F p = none := by
    cases e : R.F p with
    | none => rfl
    | some u => have := q.sub p u e; rw [hp] at this; cases this
  have x : Ext R { R with F := upd R.F p o } := ⟨Nat.le_refl _, fun _ _ => rfl, fun a u e => by
    show upd R.F p o a = some u
    rw [Qp (fun z => by rw [z, hF] at e; cases e)]; exact e, rfl⟩
  have hG : ∀ a u, R.G a = some u → a ≠ p := fun a u e z => by have := q.gsub a u e; rw [z, hp] at this; cases this
  refine ⟨x, q.len, fun a u e => ?_, fun n hn => ?_, q.inj, fun n u e => ?_, fun a u e => ?_, q.gsep, fun a u e => ?_⟩
  rotate_right 2
  · rw [Qp (hG a u e)]; exact q.gsub a u e
  · show upd R.F p o a = none
    rw [Qp (hG a u e)]; exact q.gf a u e
  · by_cases z : a = p
    · subst z
      have e' : upd R.F a o a = some u := e
      rw [Zh] at e' ⊢; exact e'
    · have e' : upd R.F p o a = some u := e
      rw [Qp z] at e' ⊢; exact q.sub a u e'
  · show upd R.F p o (R.ρ n) = none
    rw [Qp (q.ne hp hn)]; exact q.sep n hn
  · have hn : n < R.N := by rw [q.len]; exact (List.getElem?_eq_some_iff.mp e).1
    show Ro K _ u (upd H p o (R.ρ n))
    rw [Qp (q.ne hp hn)]
    exact (q.obj n u e).mono x
theorem Rh.tup (q : Rh K R h H) {p : Addr} {ws : List W} {xs : List V} (hp : H p = none) (r : Rws K R ws xs) :
    ∃ R', Ext R R' ∧ Rh K R' h (upd H p (.tup xs)) ∧ Rw K R' (.tup ws) (.ref p) := by
  obtain ⟨x, y⟩ := q.fix (o := .tup xs) hp
  refine ⟨_, x, y, ?_⟩
  unfold Rw
  exact ⟨p, xs, rfl, SqT.of Zh, Rws.mono x _ _ r⟩
theorem Rh.lstI (q : Rh K R h H) {p : Addr} {ws : List W} {xs : List V} (hp : H p = none) (r : Rws K R ws xs) :
    ∃ R', Ext R R' ∧ Rh K R' h (upd H p (.lst xs)) ∧ Rw K R' (.lst ws) (.ref p) := by
  obtain ⟨x, y⟩ := q.fix (o := .lst xs) hp
  refine ⟨_, x, y, ?_⟩
  unfold Rw
  exact ⟨p, xs, rfl, Zh, Rws.mono x _ _ r⟩
theorem Rh.new (q : Rh K R h H) {p : Addr} {o : HO} {mo : MO} (hp : H p = none) (r : ∀ R', Ext R R' → Ro K R' mo (some o)) :
    ∃ R', Ext R R' ∧ Rh K R' (h ++ [mo]) (upd H p o) ∧ Rw K R' (.ref h.length) (.ref p) := by
  let R' : Rn := { ρ := fun n => if n = R.N then p else R.ρ n, N := R.N + 1, F := R.F, G := R.G }
  have hr : ∀ n, n < R.N → R'.ρ n = R.ρ n := fun n hn => if_neg (Nat.ne_of_lt hn)
  have hq : R'.ρ R.N = p := if_pos rfl
  have x : Ext R R' := ⟨Nat.le_succ _, hr, fun _ _ e => e, rfl⟩
  have hG : ∀ a u, R.G a = some u → a ≠ p := fun a u e z => by have := q.gsub a u e; rw [z, hp] at this; cases this
  have hF : R.F p = none := by
    cases e : R.F p with
    | none => rfl
    | some u => have := q.sub p u e; rw [hp] at this; cases this
  have below : ∀ n, n < R.N + 1 → n < R.N ∨ n = R.N := fun n hn => Nat.lt_or_eq_of_le (Nat.le_of_lt_succ hn)
  have hgs : ∀ n, n < R.N + 1 → R.G (R'.ρ n) = none := fun n hn => by
    rcases below n hn with hn | hn
    · rw [hr n hn]; exact q.gsep n hn
    · subst hn
      rw [hq]
      cases e : R.G p with
      | none => rfl
      | some u => exact absurd rfl (hG p u e)
  refine ⟨R', x, ⟨?_, fun a u e => ?_, fun n hn => ?_, fun m n hm hn e => ?_, fun n u e => ?_, fun a u e => by rw [Qp (hG a u e)]; exact q.gsub a u e, hgs, q.gf⟩, ?_⟩
  · show R.N + 1 = _
    rw [List.length_append, q.len]; rfl
  · have z : a ≠ p := fun z => by have e' : R.F a = some u := e; rw [z, hF] at e'; cases e'
    rw [Qp z]; exact q.sub a u e
  · rcases below n hn with hn | hn
    · rw [hr n hn]; exact q.sep n hn
    · subst hn; rw [hq]; exact hF
  · rcases below m hm with hm | hm <;> rcases below n hn with hn | hn
    · rw [hr m hm, hr n hn] at e; exact q.inj m n hm hn e
    · subst hn; rw [hr m hm, hq] at e; exact absurd e (q.ne hp hm)
    · subst hm; rw [hr n hn, hq] at e; exact absurd e.symm (q.ne hp hn)
    · rw [hm, hn]
  · have hn : n < R.N + 1 := by
      have := (List.getElem?_eq_some_iff.mp e).1
      rw [List.length_append, ← q.len] at this; exact this
    rcases below n hn with hn | hn
    · rw [hr n hn, Qp (q.ne hp hn)]
      rw [List.getElem?_append_left (by rw [← q.len]; exact hn)] at e
      exact (q.obj n u e).mono x
    · subst hn
      rw [hq, Zh]
      rw [List.getElem?_append_right (by rw [q.len]; exact Nat.le_refl _), q.len, Nat.sub_self] at e
      cases e
      exact r R' x
  · unfold Rw
    refine ⟨by rw [← q.len]; exact Nat.lt_succ_self _, ?_⟩
    rw [← q.len, hq]
theorem Rh.put (q : Rh K R h H) {n : Nat} {o : HO} {mo : MO} (hn : n < R.N) (r : Ro K R mo (some o)) : Rh K R (h.set n mo) (upd H (R.ρ n) o) := by
  refine ⟨by rw [List.length_set]; exact q.len, fun a u e => ?_, q.sep, q.inj, fun m u e => ?_, fun a u e => ?_, q.gsep, q.gf⟩
  rotate_right
  · have z : a ≠ R.ρ n := fun z => by rw [z, q.gsep n hn] at e; cases e
    rw [Qp z]; exact q.gsub a u e
  · have z : a ≠ R.ρ n := fun z => by rw [z, q.sep n hn] at e; cases e
    rw [Qp z]; exact q.sub a u e
  · by_cases z : n = m
    · subst z
      rw [Zh]
      rw [List.getElem?_set_self (by rw [← q.len]; exact hn)] at e
      cases e
      exact r
    · have hm : m < R.N := by
        have := (List.getElem?_eq_some_iff.mp e).1
        rw [List.length_set, ← q.len] at this; exact this
      rw [List.getElem?_set_ne z] at e
      rw [Qp (fun w => z (q.inj m n hm hn w).symm)]
      exact q.obj m u e
theorem Rh.tupAt (q : Rh K R h H) {ws : List W} {v : V} (r : Rw K R (.tup ws) v) : ∃ a xs, v = .ref a ∧ SqT K H a xs ∧ Rws K R ws xs := by
  unfold Rw at r
  obtain ⟨a, xs, e1, e2, e3⟩ := r
  exact ⟨a, xs, e1, Zz q.sub e2, e3⟩
theorem Rh.lstAt (q : Rh K R h H) {ws : List W} {v : V} (r : Rw K R (.lst ws) v) : ∃ a xs, v = .ref a ∧ H a = some (.lst xs) ∧ Rws K R ws xs := by
  unfold Rw at r
  obtain ⟨a, xs, e1, e2, e3⟩ := r
  exact ⟨a, xs, e1, q.sub a _ e2, e3⟩
theorem Rh.frzAt (q : Rh K R h H) {ws : List W} {v : V} (r : Rw K R (.frz ws) v) : ∃ a xs, v = .ref a ∧ SqL K H a xs ∧ Rws K R ws xs := by
  unfold Rw at r
  obtain ⟨a, xs, e1, e2, e3⟩ := r
  exact ⟨a, xs, e1, QS q.sub e2, e3⟩
noncomputable def lsW (h : MH) : W → Option (List W)
  | .lst ws => some ws
  | .frz ws => some ws
  | .ref n => match h[n]? with | some (.lst ws) => some ws | _ => none
  | _ => none
noncomputable def loW (h : MH) : W → Option (List W)
  | .lst ws => some ws
  | .ref n => match h[n]? with | some (.lst ws) => some ws | _ => none
  | _ => none
theorem Rh.loAt (q : Rh K R h H) {w : W} {v : V} {ws : List W} (r : Rw K R w v) (e : loW h w = some ws) : ∃ a xs, v = .ref a ∧ H a = some (.lst xs) ∧ Rws K R ws xs := by
  cases w with
  | lst us => cases e; exact q.lstAt r
  | ref n =>
    simp only [loW] at e
    split at e
    · rename_i us hn
      cases e
      unfold Rw at r
      obtain ⟨xs, h1, h2⟩ := q.obj n _ hn
      exact ⟨_, xs, r.2, h1, h2⟩
    · cases e
  | _ => cases e
theorem Rh.lsAt (q : Rh K R h H) {w : W} {v : V} {ws : List W} (r : Rw K R w v) (e : lsW h w = some ws) : ∃ a xs, v = .ref a ∧ SqL K H a xs ∧ Rws K R ws xs := by
  cases w with
  | lst us => cases e; obtain ⟨a, xs, e1, e2, e3⟩ := q.lstAt r; exact ⟨a, xs, e1, SqL.of e2, e3⟩
  | frz us => cases e; exact q.frzAt r
  | ref n =>
    simp only [lsW] at e
    split at e
    · rename_i us hn
      cases e
      unfold Rw at r
      obtain ⟨xs, h1, h2⟩ := q.obj n _ hn
      exact ⟨_, xs, r.2, SqL.of h1, h2⟩
    · cases e
  | _ => cases e
theorem Rh.refAt (q : Rh K R h H) {n : Nat} {v : V} {ws : List W} (r : Rw K R (.ref n) v) (e : h[n]? = some (.lst ws)) :
    n < R.N ∧ v = .ref (R.ρ n) ∧ ∃ xs, H (R.ρ n) = some (.lst xs) ∧ Rws K R ws xs := by
  unfold Rw at r
  exact ⟨r.1, r.2, q.obj n _ e⟩
end
theorem Rw.non_eq {K : PySem.W.Frag} {R : Rn} {v : V} (r : Rw K R .non v) : v = .non := by unfold Rw at r; exact r
theorem Rw.bl_eq {K : PySem.W.Frag} {R : Rn} {v : V} {b : Bool} (r : Rw K R (.bl b) v) : v = .bl b := by unfold Rw at r; exact r
theorem Rw.int_eq {K : PySem.W.Frag} {R : Rn} {v : V} {i : Int} (r : Rw K R (.int i) v) : v = .int i := by unfold Rw at r; exact r
theorem Rw.str_eq {K : PySem.W.Frag} {R : Rn} {v : V} {x : Str} (r : Rw K R (.str x) v) : v = .str x := by unfold Rw at r; exact r
theorem Rw.ty_eq {K : PySem.W.Frag} {R : Rn} {v : V} {n : String} (r : Rw K R (.ty n) v) : v = .ty n := by unfold Rw at r; exact r
theorem Rw.ty {K : PySem.W.Frag} {R : Rn} (n : String) : Rw K R (.ty n) (.ty n) := by unfold Rw; rfl
theorem Rw.non {K : PySem.W.Frag} {R : Rn} : Rw K R .non .non := by unfold Rw; rfl
theorem Rw.bl {K : PySem.W.Frag} {R : Rn} (b : Bool) : Rw K R (.bl b) (.bl b) := by unfold Rw; rfl
theorem Rw.int {K : PySem.W.Frag} {R : Rn} (i : Int) : Rw K R (.int i) (.int i) := by unfold Rw; rfl
theorem Rw.str {K : PySem.W.Frag} {R : Rn} (x : Str) : Rw K R (.str x) (.str x) := by unfold Rw; rfl
end Mi

namespace Mi
open PySem PySem.Spec PyProof.Rows L2

noncomputable abbrev ME := MSt → MH → Option (W × MH)
noncomputable abbrev MT := MSt → MH → Option (Bool × MH)
noncomputable abbrev MA := MSt → MH → Option (List W × MH)
inductive MF where
  | nx (σ : MSt) (h : MH) | rt (w : W) (h : MH) | bk (σ : MSt) (h : MH) | ct (σ : MSt) (h : MH)
noncomputable abbrev SM := MSt → MH → Option MF
noncomputable abbrev FM := List W → MH → Option (W × MH)

section
variable (K : PySem.W.Frag)
noncomputable def After (R : Rn) (w : W) (h' : MH) (Q : VK) : Prop := ∀ R' H' v, Ext R R' → Rh K R' h' H' → Rw K R' w v → Q v H'
noncomputable def tI (m : ME) : TE := fun σ H Q => ∃ R σi h w h', Rh K R h H ∧ Rst K R σi σ ∧ m σi h = some (w, h') ∧ After K R w h' Q
noncomputable def tIT (m : MT) : TT := fun σ H Q => ∃ R σi h b h', Rh K R h H ∧ Rst K R σi σ ∧ m σi h = some (b, h') ∧ ∀ R' H', Ext R R' → Rh K R' h' H' → Q b H'
noncomputable def tIA (m : MA) : TA := fun σ H Q => ∃ R σi h ws h', Rh K R h H ∧ Rst K R σi σ ∧ m σi h = some (ws, h') ∧ ∀ R' H' vs, Ext R R' → Rh K R' h' H' → Rws K R' ws vs → Q vs H'
noncomputable def Ends (R : Rn) (D : L2.Ends) : MF → Prop
  | .nx σi h => ∀ R' H' σ, Ext R R' → Rh K R' h H' → Rst K R' σi σ → D.nx σ H'
  | .bk σi h => ∀ R' H' σ, Ext R R' → Rh K R' h H' → Rst K R' σi σ → D.bk σ H'
  | .ct σi h => ∀ R' H' σ, Ext R R' → Rh K R' h H' → Rst K R' σi σ → D.ct σ H'
  | .rt w h => After K R w h D.rt
noncomputable def tS (m : SM) : TS := fun D σ H => ∃ R σi h r, Rh K R h H ∧ Rst K R σi σ ∧ m σi h = some r ∧ Ends K R D r
noncomputable def spM (n : Nat) (m : FM) : Sp := fun vs H Q _ => ∃ R ws h w h', ws.length = n ∧ Rh K R h H ∧ Rws K R ws vs ∧ m ws h = some (w, h') ∧ After K R w h' Q
end
noncomputable def PM (X : Cx) (e : Expr) (m : ME) : Prop := PE X e (tI X.K m)
noncomputable def PMT (X : Cx) (e : Expr) (m : MT) : Prop := PT X e (tIT X.K m)
noncomputable def PMA (X : Cx) (es : List Expr) (m : MA) : Prop := PA X es (tIA X.K m)
noncomputable def PMS (X : Cx) (st : Stmt) (m : SM) : Prop := PS X st (tS X.K m)
noncomputable def UX (X : Cx) (st : List Stmt) (m : SM) : Prop := PSs X st (tS X.K m)

section
variable {K : PySem.W.Frag} {R R1 R2 : Rn}
theorem After.ext {w : W} {h' : MH} {Q : VK} (a : After K R w h' Q) (x : Ext R R1) : After K R1 w h' Q := fun R' H' v e => a R' H' v (x.trans e)
theorem Ends.ext {D : L2.Ends} {r : MF} (a : Ends K R D r) (x : Ext R R1) : Ends K R1 D r := by
  cases r with
  | nx σ h => exact fun R' H' v e => a R' H' v (x.trans e)
  | bk σ h => exact fun R' H' v e => a R' H' v (x.trans e)
  | ct σ h => exact fun R' H' v e => a R' H' v (x.trans e)
  | rt w h => exact After.ext a x
end
theorem QO {X : Cx} {e : Expr} {t t' : TE} (h : PE X e t) (i : ∀ σ H Q, t' σ H Q → t σ H Q) : PE X e t' := fun pins s σ H Q I q => h pins s σ H Q I (i _ _ _ q)
theorem Ws {X : Cx} {e : Expr} {t t' : TT} (h : PT X e t) (i : ∀ σ H Q, t' σ H Q → t σ H Q) : PT X e t' := fun pins s σ H Q I q => h pins s σ H Q I (i _ _ _ q)
theorem Gw {X : Cx} {e : Expr} {t t' : TT} (h : PW X e t) (i : ∀ σ H Q, t' σ H Q → t σ H Q) : PW X e t' := fun wh pins s σ H Q I q => h wh pins s σ H Q I (i _ _ _ q)
theorem GS {X : Cx} {es : List Expr} {t t' : TA} (h : PA X es t) (i : ∀ σ H Q, t' σ H Q → t σ H Q) : PA X es t' := fun pos pins s σ H Q I q => h pos pins s σ H Q I (i _ _ _ q)
theorem Z0 {X : Cx} {st : Stmt} {t t' : TS} (h : PS X st t) (i : ∀ D σ H, t' D σ H → t D σ H) : PS X st t' := fun pins s σ H D I q => h pins s σ H D I (i _ _ _ q)
theorem WC {X : Cx} {st : List Stmt} {t t' : TS} (h : PSs X st t) (i : ∀ D σ H, t' D σ H → t D σ H) : PSs X st t' := fun pins s σ H D I q => h pins s σ H D I (i _ _ _ q)

noncomputable def Qg (i : Nat) : ME := fun σ h => match σ[i]? with | some (some w) => some (w, h) | _ => none
noncomputable def mC (w : W) : ME := fun _ h => some (w, h)
section
variable {X : Cx}
theorem Qb (i : Nat) {x : Str} {pos : Pos} (hN : X.N[i]? = some x := by rfl) (hv : Vis X.env.scope x := by first | exact Or.inl rfl | exact Or.inr (Or.inl rfl) | exact Or.inr (Or.inr rfl)) (hd : (x == ("__debug__" : Str)) = false := by decide)
    (hcd : (x == ("__classdict__" : Str)) = false := by decide) : PM X (.Name x pos) (Qg i) := QO (Qce hN hv hd hcd) <| by
  rintro σ H Q ⟨R, σi, h, w, h', rh, st, e, k⟩
  unfold Qg at e
  split at e
  · rename_i w' e'
    cases e
    obtain ⟨v, h1, h2⟩ := st.2 i _ e'
    exact ⟨v, h1, k R H v (Ext.refl _) rh h2⟩
  · cases e
theorem Gb {w : W} {v : V} (r : ∀ R, Rw X.K R w v) {σ : L2.St} {H : Hp} {Q : VK} (q : tI X.K (mC w) σ H Q) : tC v σ H Q := by
  obtain ⟨R, σi, h, w', h', rh, st, e, k⟩ := q
  cases e
  exact k R H v (Ext.refl _) rh (r R)
theorem Qj {i j pos} : PM X (.Constant (.int i) j pos) (mC (.int i)) := QO Qbz fun _ _ _ => Gb fun _ => Rw.int _
theorem WG {b j pos} : PM X (.Constant (.bool b) j pos) (mC (.bl b)) := QO Qd9 fun _ _ _ => Gb fun _ => Rw.bl _
theorem QaC {x : Str} {w : W} {v : V} {u : Value} {pos : Pos} (hg : Gl X x) (hm : X.mg x = none) (hv : bootBuiltins x = some u) (r : RelV v u) (rw : ∀ R, Rw X.K R w v) (hn : x ≠ "__name__" := by decide) (hd : (x == ("__debug__" : Str)) = false := by decide) : PM X (.Name x pos) (mC w) :=
  QO (QaD hg hm hv r hn hd) fun _ _ _ => Gb rw
theorem GU {x j pos} : PM X (.Constant (.str x) j pos) (mC (.str x)) := QO QbO fun _ _ _ => Gb fun _ => Rw.str _
end

noncomputable def Ql (f : W → W → MH → Option (W × MH)) (ma mb : ME) : ME := fun σ h => (ma σ h).bind fun p => (mb σ p.2).bind fun q => f p.1 q.1 q.2
noncomputable def F2 (K : PySem.W.Frag) (f : W → W → MH → Option (W × MH)) (x y : V) (H : Hp) (Q : VK) : Prop := ∃ R h a b w h', Rh K R h H ∧ Rw K R a x ∧ Rw K R b y ∧ f a b h = some (w, h') ∧ After K R w h' Q
noncomputable def Fs (K : PySem.W.Frag) (f : List W → MH → Option (W × MH)) (xs : List V) (H : Hp) (Q : VK) : Prop := ∃ R h ws w h', Rh K R h H ∧ Rws K R ws xs ∧ f ws h = some (w, h') ∧ After K R w h' Q
noncomputable def mFn (f : List W → MH → Option (W × MH)) (ma : MA) : ME := fun σ h => (ma σ h).bind fun p => f p.1 p.2
section
variable {K : PySem.W.Frag} {σ : L2.St} {H : Hp} {Q : VK}
theorem Qda {f : W → W → MH → Option (W × MH)} {ma mb : ME} (q : tI K (Ql f ma mb) σ H Q) : tI K ma σ H fun x H1 => tI K mb σ H1 fun y H2 => F2 K f x y H2 Q := by
  obtain ⟨R, σi, h, w, h', rh, st, e, k⟩ := q
  obtain ⟨⟨a, h1⟩, ea, e2⟩ := Option.bind_eq_some_iff.mp e
  obtain ⟨⟨b, h2⟩, eb, e3⟩ := Option.bind_eq_some_iff.mp e2
  exact ⟨R, σi, h, a, h1, rh, st, ea, fun R1 H1 x x1 rh1 rx => ⟨R1, σi, h1, b, h2, rh1, st.mono x1, eb, fun R2 H2 y x2 rh2 ry =>
    ⟨R2, h2, a, b, w, h', rh2, Rw.mono x2 _ _ rx, ry, e3, k.ext (x1.trans x2)⟩⟩⟩
theorem YF {f : List W → MH → Option (W × MH)} {ma : MA} (q : tI K (mFn f ma) σ H Q) : tIA K ma σ H fun xs H1 => Fs K f xs H1 Q := by
  obtain ⟨R, σi, h, w, h', rh, st, e, k⟩ := q
  obtain ⟨⟨a, h1⟩, ea, e2⟩ := Option.bind_eq_some_iff.mp e
  exact ⟨R, σi, h, a, h1, rh, st, ea, fun R1 H1 x x1 rh1 rx => ⟨R1, h1, a, w, h', rh1, rx, e2, k.ext x1⟩⟩
end
noncomputable def ZG : Expr → Bool
  | .Starred .. => true
  | _ => false
noncomputable def Z1 (es : List Expr) : Bool := es.all fun e => !ZG e
theorem QH {e : Expr} {es : List Expr} {env : Env} (h : ZG e = false) : starEach (e :: es) env = (false, eval e env) :: starEach es env := by
  cases e <;> first | rfl | cases h
theorem ZA {es : List Expr} {env : Env} {pos : Pos} (h : Z1 es = true) : (backTo pos (starEach es env)).any (·.1) = false := by
  induction es with
  | nil => rfl
  | cons e es ih =>
    unfold Z1 at h ih
    rw [List.all_cons, Bool.and_eq_true] at h
    have he : ZG e = false := by simpa using h.1
    rw [QH he]
    have := ih h.2
    unfold backTo at this ⊢
    rw [List.map_cons, List.any_cons, this]; rfl
theorem Uq {es : List Expr} {env : Env} {pos : Pos} (h : Z1 es = true) : (backTo pos (starEach es env)).all (fun x => !x.1) = true := by
  have := ZA (env := env) (pos := pos) h
  rw [List.all_eq_not_any_not]
  simp only [Bool.not_not]
  rw [this]; rfl
noncomputable def Qt : MA := fun _ h => some ([], h)
noncomputable def Qd (ma : ME) (mr : MA) : MA := fun σ h => (ma σ h).bind fun p => (mr σ p.2).bind fun q => some (p.1 :: q.1, q.2)
section
variable {X : Cx} {e : Expr} {es : List Expr} {m : ME} {ms : MA} {pos : Pos}
theorem Qf : PMA X [] Qt := GS QbQ <| by
  rintro σ H Q ⟨R, σi, h, ws, h', rh, st, e, k⟩
  cases e
  exact k R H [] (Ext.refl _) rh Rws.nil
theorem Qa (ha : PM X e m) (hr : PMA X es ms) (hs : ZG e = false := by rfl) : PMA X (e :: es) (Qd m ms) :=
  GS (Qbi ha hr (QH hs)) fun σ H Q ⟨R, σi, h, ws, h', rh, st, e, k⟩ => by
    obtain ⟨⟨a, h1⟩, ea, e2⟩ := Option.bind_eq_some_iff.mp e
    obtain ⟨⟨b, h2⟩, eb, e3⟩ := Option.bind_eq_some_iff.mp e2
    cases e3
    exact ⟨R, σi, h, a, h1, rh, st, ea, fun R1 H1 x x1 rh1 rx => ⟨R1, σi, h1, b, h2, rh1, st.mono x1, eb, fun R2 H2 ys x2 rh2 ry =>
      k R2 H2 (x :: ys) (x1.trans x2) rh2 (Rws.cons (Rw.mono x2 _ _ rx) ry)⟩⟩
noncomputable def Vr (ws : List W) (h : MH) : Option (W × MH) := if ws.length ≤ sizeLine then some (.tup ws, h) else none
noncomputable def Ug (ws : List W) (h : MH) : Option (W × MH) := if ws.length ≤ sizeLine then some (.lst ws, h) else none
noncomputable def Qbx (ws : List W) (h : MH) : Option (W × MH) := if ws.length ≤ sizeLine then some (.ref h.length, h ++ [.lst ws]) else none
theorem Jr {x1} (h : PMA X es ms) : PM X (.Tuple es x1 pos) (mFn Vr ms) := QO (QcI h) fun σ H Q q => by
  obtain ⟨R, σi, h0, ws, h1, rh, st, e, k⟩ := YF q
  refine ⟨R, σi, h0, ws, h1, rh, st, e, fun R1 H1 vs x1 rh1 rx => ?_⟩
  obtain ⟨R2, h2, ws2, w, h3, rh2, rx2, e2, k2⟩ := k R1 H1 vs x1 rh1 rx
  unfold Vr at e2
  split at e2
  · rename_i hl
    cases e2
    refine ⟨by rw [← rx2.length]; exact hl, fun p hp => ?_⟩
    obtain ⟨R3, x3, rh3, rw3⟩ := rh2.tup hp rx2
    exact k2 R3 _ _ x3 rh3 rw3
  · cases e2
theorem YW (h : PMA X es ms) : PM X (.List es pos) (mFn Ug ms) := QO (GV h) fun σ H Q q => by
  obtain ⟨R, σi, h0, ws, h1, rh, st, e, k⟩ := YF q
  refine ⟨R, σi, h0, ws, h1, rh, st, e, fun R1 H1 vs x1 rh1 rx => ?_⟩
  obtain ⟨R2, h2, ws2, w, h3, rh2, rx2, e2, k2⟩ := k R1 H1 vs x1 rh1 rx
  unfold Ug at e2
  split at e2
  · rename_i hl
    cases e2
    refine ⟨by rw [← rx2.length]; exact hl, fun p hp => ?_⟩
    obtain ⟨R3, x3, rh3, rw3⟩ := rh2.lstI hp rx2
    exact k2 R3 _ _ x3 rh3 rw3
  · cases e2
theorem WZ (h : PMA X es ms) : PM X (.List es pos) (mFn Qbx ms) := QO (GV h) fun σ H Q q => by
  obtain ⟨R, σi, h0, ws, h1, rh, st, e, k⟩ := YF q
  refine ⟨R, σi, h0, ws, h1, rh, st, e, fun R1 H1 vs x1 rh1 rx => ?_⟩
  obtain ⟨R2, h2, ws2, w, h3, rh2, rx2, e2, k2⟩ := k R1 H1 vs x1 rh1 rx
  unfold Qbx at e2
  split at e2
  · rename_i hl
    cases e2
    refine ⟨by rw [← rx2.length]; exact hl, fun p hp => ?_⟩
    obtain ⟨R3, x3, rh3, rw3⟩ := rh2.new (mo := .lst ws2) (o := .lst vs) hp fun R' x' => ⟨vs, rfl, Rws.mono x' _ _ rx2⟩
    exact k2 R3 _ _ x3 rh3 rw3
  · cases e2
end
noncomputable def OpM (K : PySem.W.Frag) (r : R2) (f : W → W → MH → Option (W × MH)) : Prop := ∀ x y H Q, F2 K f x y H Q → r x y H Q
noncomputable def Qaa (K : PySem.W.Frag) (r : List V → Hp → VK → Prop) (f : List W → MH → Option (W × MH)) : Prop := ∀ xs H Q, Fs K f xs H Q → r xs H Q
section
variable {X : Cx} {a b c : Expr} {ma mb mc : ME} {pos : Pos}
theorem ZJ {K : PySem.W.Frag} {m : ME} {σ : L2.St} {H : Hp} {Q Q' : VK} (h : tI K m σ H Q) (i : ∀ v H, Q v H → Q' v H) : tI K m σ H Q' := by
  obtain ⟨R, σi, h, w, h', rh, st, e, k⟩ := h
  exact ⟨R, σi, h, w, h', rh, st, e, fun R' H' v a b c => i _ _ (k R' H' v a b c)⟩
theorem VF {K : PySem.W.Frag} {m : MA} {σ : L2.St} {H : Hp} {Q Q' : List V → Hp → Prop} (h : tIA K m σ H Q) (i : ∀ v H, Q v H → Q' v H) : tIA K m σ H Q' := by
  obtain ⟨R, σi, h, w, h', rh, st, e, k⟩ := h
  exact ⟨R, σi, h, w, h', rh, st, e, fun R' H' v a b c => i _ _ (k R' H' v a b c)⟩
theorem QA {op : Operator} {r : R2} {f : W → W → MH → Option (W × MH)} (ho : OpR X (binaryOp op) r) (hf : OpM X.K r f) (ha : PM X a ma) (hb : PM X b mb) : PM X (.BinOp a op b pos) (Ql f ma mb) :=
  QO (Qdt ho ha hb) fun _ _ _ q => ZJ (Qda q) fun _ _ q1 => ZJ q1 fun _ _ q2 => hf _ _ _ _ q2
theorem JQ {op : CmpOp} {r : R2} {f : W → W → MH → Option (W × MH)} (ho : OpR X (compareOp op) r) (hf : OpM X.K r f) (ha : PM X a ma) (hb : PM X b mb) (hm : behindInMarks op b = false := by rfl) : PM X (.Compare a [op] [b] pos) (Ql f ma mb) :=
  QO (QaR ho ha hb hm) fun _ _ _ q => ZJ (Qda q) fun _ _ q1 => ZJ q1 fun _ _ q2 => hf _ _ _ _ q2
noncomputable def Q4 (m : ME) : MT := fun σ h => (m σ h).bind fun p => match p.1 with | .bl b => some (b, p.2) | _ => none
theorem Ur {K : PySem.W.Frag} {m : ME} {σ : L2.St} {H : Hp} {Q : Bool → Hp → Prop} (q : tIT K (Q4 m) σ H Q) : tI K m σ H fun x H' => ∃ k, x = .bl k ∧ Q k H' := by
  obtain ⟨R, σi, h, b, h', rh, st, e, k⟩ := q
  obtain ⟨⟨w, h1⟩, ew, e2⟩ := Option.bind_eq_some_iff.mp e
  cases w <;> simp only at e2 <;> first | (cases e2; exact ⟨R, σi, h, _, _, rh, st, ew, fun R' H' v x rh' rv => ⟨_, rv.bl_eq, k R' H' x rh'⟩⟩) | (cases e2)
theorem Zd {op : CmpOp} {r : R2} {f : W → W → MH → Option (W × MH)} (ho : OpR X (compareOp op) r) (hf : OpM X.K r f) (ha : PM X a ma) (hb : PM X b mb) (hm : behindInMarks op b = false := by rfl) : PMT X (.Compare a [op] [b] pos) (Q4 (Ql f ma mb)) :=
  Ws (Qam ho ha hb hm) fun _ _ _ q => ZJ (Qda (Ur q)) fun _ _ q1 => ZJ q1 fun _ _ q2 => hf _ _ _ _ q2
noncomputable def XY (ma mb : MT) : MT := fun σ h => (ma σ h).bind fun p => match p.1 with | true => mb σ p.2 | false => some (false, p.2)
noncomputable def U6 (ma mb : MT) : MT := fun σ h => (ma σ h).bind fun p => match p.1 with | true => some (true, p.2) | false => mb σ p.2
noncomputable def XZ (ma : MT) : MT := fun σ h => (ma σ h).bind fun p => some (!p.1, p.2)
variable {rest : List Expr} {ta tb : MT}
noncomputable def PMW (X : Cx) (e : Expr) (m : MT) : Prop := PW X e (tIT X.K m)
theorem PMW.pt {e : Expr} {m : MT} (h : PMW X e m) : PMT X e m := PW.pt h
theorem Qbd {K : PySem.W.Frag} {σ : L2.St} {H : Hp} {Q : Bool → Hp → Prop} (q : tIT K (XY ta tb) σ H Q) : QeO (tIT K ta) (tIT K tb) σ H Q := by
  obtain ⟨R, σi, h, w, h', rh, st, e, k⟩ := q
  obtain ⟨⟨a, h1⟩, ea, e2⟩ := Option.bind_eq_some_iff.mp e
  refine ⟨R, σi, h, a, h1, rh, st, ea, fun R1 H1 x1 rh1 => ?_⟩
  cases a with
  | true => exact Qc5 ⟨R1, σi, h1, w, h', rh1, st.mono x1, e2, fun R2 H2 x2 => k R2 H2 (x1.trans x2)⟩
  | false => cases e2; exact Qc8 (k R1 H1 x1 rh1)
theorem QcW {K : PySem.W.Frag} {σ : L2.St} {H : Hp} {Q : Bool → Hp → Prop} (q : tIT K (U6 ta tb) σ H Q) : tOr (tIT K ta) (tIT K tb) σ H Q := by
  obtain ⟨R, σi, h, w, h', rh, st, e, k⟩ := q
  obtain ⟨⟨a, h1⟩, ea, e2⟩ := Option.bind_eq_some_iff.mp e
  refine ⟨R, σi, h, a, h1, rh, st, ea, fun R1 H1 x1 rh1 => ?_⟩
  cases a with
  | true => cases e2; exact Qc5 (k R1 H1 x1 rh1)
  | false => exact Qc8 ⟨R1, σi, h1, w, h', rh1, st.mono x1, e2, fun R2 H2 x2 => k R2 H2 (x1.trans x2)⟩
theorem UE (ha : PMT X a ta) : PMW X (.BoolOp .And [a] pos) ta := Qbc ha
theorem XW (ha : PMT X a ta) : PMW X (.BoolOp .Or [a] pos) ta := Qb9 ha
theorem QaP (ha : PMT X a ta) (hb : PMW X (.BoolOp .And (b :: rest) pos) tb) : PMW X (.BoolOp .And (a :: b :: rest) pos) (XY ta tb) := Gw (Qc0 ha hb) fun _ _ _ => Qbd
theorem Xa (ha : PMT X a ta) (hb : PMW X (.BoolOp .Or (b :: rest) pos) tb) : PMW X (.BoolOp .Or (a :: b :: rest) pos) (U6 ta tb) := Gw (Qdr ha hb) fun _ _ _ => QcW
theorem VU (ha : PMT X a ta) : PMT X (.UnaryOp .Not a pos) (XZ ta) := Ws (Qcp ha) <| by
  rintro σ H Q ⟨R, σi, h, w, h', rh, st, e, k⟩
  obtain ⟨⟨a, h1⟩, ea, e2⟩ := Option.bind_eq_some_iff.mp e
  cases e2
  exact ⟨R, σi, h, a, h1, rh, st, ea, fun R1 H1 x1 rh1 => k R1 H1 x1 rh1⟩
noncomputable def Qbw (h : MH) : W → Option Bool
  | .non => some false
  | .bl b => some b
  | .int i => some (i != 0)
  | .str x => if x.length ≤ sizeLine then some ((x.length : Int) != 0) else none
  | .tup ws => some (!ws.isEmpty)
  | .lst ws => some (!ws.isEmpty)
  | .frz ws => some (!ws.isEmpty)
  | .ref n => match h[n]? with | some (.lst ws) => some (!ws.isEmpty) | some (.dic kvs) => some (!kvs.isEmpty) | _ => none
  | .ty _ => none
noncomputable def QaJ (m : ME) : MT := fun σ h => (m σ h).bind fun p => (Qbw p.2 p.1).map fun b => (b, p.2)
theorem Rws.isEmpty {K : PySem.W.Frag} {R : Rn} {ws : List W} {vs : List V} (r : Rws K R ws vs) : ws.isEmpty = vs.isEmpty := by
  have := r.length
  cases ws <;> cases vs <;> simp at this ⊢
theorem QcK {K : PySem.W.Frag} {R : Rn} {h : MH} {H : Hp} {w : W} {v : V} {b : Bool} (rh : Rh K R h H) (r : Rw K R w v) (e : Qbw h w = some b) : QdC K v H b := by
  cases w with
  | non => rw [r.non_eq]; cases e; rfl
  | bl b => rw [r.bl_eq]; cases e; rfl
  | int i => rw [r.int_eq]; cases e; rfl
  | str x =>
    rw [r.str_eq]
    simp only [Qbw] at e
    split at e
    · rename_i hl; cases e; exact ⟨hl, rfl⟩
    · cases e
  | tup ws =>
    obtain ⟨a, xs, rfl, h1, h2⟩ := rh.tupAt r
    cases e
    exact .inr (.inl ⟨xs, h1, by rw [h2.isEmpty]⟩)
  | lst ws =>
    obtain ⟨a, xs, rfl, h1, h2⟩ := rh.lstAt r
    cases e
    exact .inl ⟨xs, SqL.of h1, by rw [h2.isEmpty]⟩
  | frz ws =>
    obtain ⟨a, xs, rfl, h1, h2⟩ := rh.frzAt r
    cases e
    exact .inl ⟨xs, h1, by rw [h2.isEmpty]⟩
  | ref n =>
    simp only [Qbw] at e
    split at e
    · rename_i ws hn
      cases e
      obtain ⟨_, rfl, xs, h1, h2⟩ := rh.refAt r hn
      exact .inl ⟨xs, SqL.of h1, by rw [h2.isEmpty]⟩
    · rename_i kvs hn
      cases e
      unfold Rw at r
      obtain ⟨kx, h1, h2⟩ := rh.obj n _ hn
      rw [r.2]
      refine .inr (.inr ⟨kx, h1, ?_⟩)
      have := Paired.length h2
      cases kvs <;> cases kx <;> simp at this ⊢
    · cases e
  | ty _ => cases e
theorem VA (ha : PM X a ma) (he : ∀ whole, isTrue a X.env whole = (do let v ← whole; standAt a.pos; holding [v] (truthy v)) := by intro _; rfl) : PMT X a (QaJ ma) :=
  Ws (Uu ha he) fun σ H Q ⟨R, σi, h, w, h', rh, st, e, k⟩ => by
    obtain ⟨⟨a, h1⟩, ea, e2⟩ := Option.bind_eq_some_iff.mp e
    obtain ⟨b, eb, e3⟩ := Option.map_eq_some_iff.mp e2
    cases e3
    exact ⟨R, σi, h, a, _, rh, st, ea, fun R1 H1 x x1 rh1 rx => ⟨_, QcK rh1 rx eb, k R1 H1 x1 rh1⟩⟩
end
end Mi

namespace Mi
open PySem PySem.Spec PyProof.Rows L2

noncomputable def KZ : Expr → Bool
  | .ListComp .. => true
  | .SetComp .. => true
  | .DictComp .. => true
  | _ => false
theorem VD {e : Expr} {t : Option Expr} {l : Nat} {env : Env} (h : KZ e = false) : swapsWith e t l env = pure false := by
  cases e <;> first | rfl | cases h
noncomputable def XM : SM := fun σ h => some (.nx σ h)
noncomputable def ZI (a b : SM) : SM := fun σ h => (a σ h).bind fun r => match r with | .nx σ' h' => b σ' h' | r => some r
noncomputable def Ko (m : ME) : SM := fun σ h => (m σ h).map fun p => .rt p.1 p.2
noncomputable def Um (t : MT) (a b : SM) : SM := fun σ h => (t σ h).bind fun p => match p.1 with | true => a σ p.2 | false => b σ p.2
noncomputable def Yi (m : ME) : SM := fun σ h => (m σ h).map fun p => .nx σ p.2
noncomputable def Jv (i : Nat) (m : ME) : SM := fun σ h => (m σ h).map fun p => .nx (σ.set i (some p.1)) p.2
noncomputable def Qf4 (i : Nat) (f : W → W → MH → Option (W × MH)) (m : ME) : SM := fun σ h => match σ[i]? with
  | some (some x) => (m σ h).bind fun p => (f x p.1 p.2).map fun q => .nx (σ.set i (some q.1)) q.2
  | _ => none
section
variable {X : Cx} {st : Stmt} {rest : List Stmt} {a b : SM} {e : Expr} {m : ME} {pos : Pos}
theorem JR : UX X [] XM := WC Qbr <| by
  rintro D σ H ⟨R, σi, h, r, rh, s, e, k⟩
  cases e
  exact k R H σ (Ext.refl _) rh s
theorem QcZ {K : PySem.W.Frag} {D : L2.Ends} {σ : L2.St} {H : Hp} (q : tS K (ZI a b) D σ H) : Qen (tS K a) (tS K b) D σ H := by
  obtain ⟨R, σi, h, r, rh, s, e, k⟩ := q
  obtain ⟨r1, e1, e2⟩ := Option.bind_eq_some_iff.mp e
  refine ⟨R, σi, h, r1, rh, s, e1, ?_⟩
  cases r1 with
  | nx σ1 h1 => exact fun R1 H1 σ' x1 rh1 s1 => ⟨R1, σ1, h1, r, rh1, s1, e2, Ends.ext k x1⟩
  | rt w h1 => cases e2; exact k
  | bk σ1 h1 => cases e2; exact k
  | ct σ1 h1 => cases e2; exact k
theorem Qk (h1 : PMS X st a) (h2 : UX X rest b) : UX X (st :: rest) (ZI a b) := WC (UM h1 h2) fun _ _ _ => QcZ
theorem Qv (h1 : PMS X st a) : UX X [st] a := QaW h1
theorem JL (he : PM X e m) (hs : KZ e = false := by rfl) : PMS X (.Expr e pos) (Yi m) := Z0 (QaE he (VD hs)) <| by
  rintro D σ H ⟨R, σi, h, r, rh, s, e, k⟩
  obtain ⟨⟨w, h1⟩, e1, e2⟩ := Option.map_eq_some_iff.mp e
  cases e2
  exact ⟨R, σi, h, w, h1, rh, s, e1, fun R1 H1 v x1 rh1 _ => k R1 H1 σ x1 rh1 (s.mono x1)⟩
theorem Q1 (he : PM X e m) : PMS X (.Return (some e) pos) (Ko m) := Z0 (Qcq he) <| by
  rintro D σ H ⟨R, σi, h, r, rh, s, e, k⟩
  obtain ⟨⟨w, h1⟩, e1, e2⟩ := Option.map_eq_some_iff.mp e
  cases e2
  exact ⟨R, σi, h, w, h1, rh, s, e1, k⟩
theorem Vs {c : Expr} {sa sb : List Stmt} {t : MT} (hc : PMT X c t) (ha : UX X sa a) (hb : UX X sb b) : PMS X (.If c sa sb pos) (Um t a b) := Z0 (Qdh hc ha hb) <| by
  rintro D σ H ⟨R, σi, h, r, rh, s, e, k⟩
  obtain ⟨⟨z, h1⟩, e1, e2⟩ := Option.bind_eq_some_iff.mp e
  refine ⟨R, σi, h, z, h1, rh, s, e1, fun R1 H1 x1 rh1 => ?_⟩
  cases z with
  | true => exact Qc5 ⟨R1, σi, h1, r, rh1, s.mono x1, e2, Ends.ext k x1⟩
  | false => exact Qc8 ⟨R1, σi, h1, r, rh1, s.mono x1, e2, Ends.ext k x1⟩
theorem QB {i : Nat} {x : Str} {pos' : Pos} (hN : X.N.Nodup) (hi : X.N[i]? = some x) (hx : Loc X.env.scope x) (he : PM X e m) (hs : KZ e = false := by rfl) (hf : X.fn x = true ∨ X.env.scope.names.lookup x = some .local := by first | exact .inl rfl | exact .inr rfl | assumption) :
    PMS X (.Assign [.Name x pos'] e pos) (Jv i m) := Z0 (G7 hN hi hx he (VD hs) hf) <| by
  rintro D σ H ⟨R, σi, h, r, rh, s, e, k⟩
  obtain ⟨⟨w, h1⟩, e1, e2⟩ := Option.map_eq_some_iff.mp e
  cases e2
  exact ⟨R, σi, h, w, h1, rh, s, e1, fun R1 H1 v x1 rh1 rv => k R1 H1 _ x1 rh1 ((s.mono x1).set rv)⟩
end

noncomputable def QdM (r : Option MF) : Option (W × MH) := match r with | some (.rt w h) => some (w, h) | some (.nx _ h) => some (.non, h) | _ => none
noncomputable def Vj (more : Nat) (m : SM) : FM := fun ws h => QdM (m (ws.map some ++ List.replicate more none) h)
theorem Rst.start {K : PySem.W.Frag} {R : Rn} {ws : List W} {vs : List V} {N : List Str} (r : Rws K R ws vs) (k : Nat) (hk : N.length = ws.length + k) : Rst K R (ws.map some ++ List.replicate k none) (start N vs) := by
  have hl := r.length
  unfold L2.start
  refine ⟨by simp [hk, hl], fun i w e => ?_⟩
  by_cases hi : i < ws.length
  · rw [List.getElem?_append_left (by simpa using hi)] at e
    rw [List.getElem?_append_left (by simpa [← hl] using hi)]
    rw [List.getElem?_map] at e ⊢
    obtain ⟨w', hw', e'⟩ := Option.map_eq_some_iff.mp e
    cases e'
    obtain ⟨v, h1, h2⟩ := r.get hw'
    exact ⟨v, by rw [h1]; rfl, h2⟩
  · rw [List.getElem?_append_right (by simpa using hi)] at e
    rw [List.getElem?_replicate] at e
    split at e <;> cases e
section
variable {P : Program} {w : World} {K : PySem.W.Frag} {mg : Str → Option Value} {base : Heap}
theorem Qec {x qual : Str} {st : Stmt} {f : Addr} {fd : FuncData} {N ps : List Str} {k more : Nat} {m : SM} (F : Fun K x qual st f fd) (S : FnScope N ps (Qm st)) (hN : N.length = ps.length + more)
    (hbody : ∀ (cdv : Value) (A : Around) (outer : List Env) (s : Shared) (H : Hp) (E : XK), Room k (A.deeper (envOfC qual (Qm st) s.heap.objs.size f cdv)) → UX (GF CX0 P w K mg base N qual (Qm st) f cdv A outer s H E).nox (Zl st) m) :
    FnOk P w K mg base CX0 (k + 1) f fd ps (spM K ps.length (Vj more m)) := by
  refine F.ok S (fun vs H Q E q => ?_) (fun cdv A outer s H vs Q E hr q => ?_)
  · obtain ⟨R, ws, h, w, h', hl, rh, rws, _⟩ := q
    rw [← rws.length]; exact hl
  · refine ⟨_, hbody cdv A outer s H E hr, ?_⟩
    obtain ⟨R, ws, h, w, h', hl, rh, rws, e, kk⟩ := q
    have st := Rst.start (N := N) rws more (by rw [hN, hl])
    unfold Vj QdM at e
    split at e
    · rename_i w' h1 e1
      cases e
      exact ⟨R, _, h, _, rh, st, e1, kk⟩
    · rename_i σ1 h1 e1
      cases e
      exact ⟨R, _, h, _, rh, st, e1, fun R1 H1 σ' x1 rh1 _ => kk R1 H1 .non x1 rh1 Rw.non⟩
    · cases e
end
section
variable {X : Cx} {CX : CXT} {k : Nat} {f : Addr} {fd : FuncData} {ps : List Str} {g : FM} {E : XK} {x : Str} {p pos : Pos} {e : Expr} {es : List Expr} {ms : MA}
noncomputable def Zw (n : Nat) (g : FM) (ms : MA) : ME := mFn (fun ws h => if ws.length = n then g ws h else none) ms
theorem Qbj {K : PySem.W.Frag} {n : Nat} {σ : L2.St} {H : Hp} {Q : VK} (q : tI K (Zw n g ms) σ H Q) : Qcz (spM K n g) [] E (tIA K ms) σ H Q := by
  refine VF (YF q) fun vs H1 ⟨R, h, ws, w, h', rh, rws, e, k⟩ => ?_
  dsimp only at e
  split at e
  · rename_i hl
    exact ⟨R, ws, h, w, h', hl, rh, by rw [List.append_nil]; exact rws, e, k⟩
  · cases e
theorem Qaj (F : FnOk X.prog X.w X.K X.mg X.base CX k f fd ps (spM X.K ps.length g)) (hr : Room k X.A) (hg : Gl X x) (hm : X.mg x = some (.ref f)) (hk : PySem.W.keepIn X.K (.ref f) = true) (hb : Binds X.K fd ps []) (hx : KL CX X E)
    (ha : PMA X (e :: es) ms) (hdb : (x == ("__debug__" : Str)) = false := by decide) (he : ZG e = false := by rfl) (hpl : Z1 es = true := by rfl) :
    PM X (.Call (.Name x p) (e :: es) [] pos) (Zw ps.length g ms) := QO (QaK F hr hg hm hk hb .nil hx ha hdb (QH he) (ZA hpl)) fun _ _ _ => Qbj
end
section
variable {X : Cx} {x : Str} {p pos : Pos} {e : Expr} {es : List Expr} {ms : MA} {id T : String} {r : List V → Hp → VK → Prop} {f : List W → MH → Option (W × MH)}
theorem QN (hc : CallR X (.builtin id) r) (hf : Qaa X.K r f) (hg : Gl X x) (hm : X.mg x = none) (hv : bootBuiltins x = some (.builtin id)) (ha : PMA X (e :: es) ms) (hn : x ≠ "__name__" := by decide) (hdb : (x == ("__debug__" : Str)) = false := by decide)
    (he : ZG e = false := by rfl) (hpl : Z1 es = true := by rfl) : PM X (.Call (.Name x p) (e :: es) [] pos) (mFn f ms) :=
  QO (UW hc hg hm hv ha hn hdb (QH he) (ZA hpl)) fun _ _ _ q => VF (YF q) fun _ _ q1 => hf _ _ _ q1
theorem ZL (hc : CallR X (.type T) r) (hf : Qaa X.K r f) (hg : Gl X x) (hm : X.mg x = none) (hv : bootBuiltins x = some (.type T)) (ha : PMA X (e :: es) ms) (hn : x ≠ "__name__" := by decide) (hdb : (x == ("__debug__" : Str)) = false := by decide)
    (he : ZG e = false := by rfl) (hpl : Z1 es = true := by rfl) : PM X (.Call (.Name x p) (e :: es) [] pos) (mFn f ms) :=
  QO (WY hc hg hm hv ha hn hdb (QH he) (ZA hpl)) fun _ _ _ q => VF (YF q) fun _ _ q1 => hf _ _ _ q1
end
inductive Src where
  | l (n : Nat)
  | d (n : Nat)
noncomputable def Src.ok (items : List W) (h : MH) : Src → Prop
  | .l n => h[n]? = some (.lst items)
  | .d n => ∃ kvs, h[n]? = some (.dct kvs) ∧ kvs.map (·.1) = items
noncomputable def live (src : Option Src) (items : List W) (h : MH) : Prop := ∀ n, src = some n → n.ok items h
noncomputable abbrev MI := MSt → MH → Option (List W × Option Src × MH)
structure ItOk (K : PySem.W.Frag) (R : Rn) (J : It) (items : List W) (src : Option Src) : Prop where
  go : ∀ i w R' h H, Ext R R' → Rh K R' h H → live src items h → items[i]? = some w → J.go i H
  yld : ∀ i w R' h H x H', Ext R R' → Rh K R' h H → live src items h → items[i]? = some w → J.yld i H x H' → ∃ R'', Ext R' R'' ∧ Rh K R'' h H' ∧ Rw K R'' w x
  stop : ∀ i R' h H, Ext R R' → Rh K R' h H → live src items h → items.length ≤ i → J.stop i H
noncomputable def tII (K : PySem.W.Frag) (m : MI) : TI := fun σ H C => ∃ R σi h items src h', Rh K R h H ∧ Rst K R σi σ ∧ m σi h = some (items, src, h') ∧ ∀ R' H' J, Ext R R' → Rh K R' h' H' → ItOk K R' J items src → C J H'
noncomputable def PMI (X : Cx) (tg iter : Expr) (m : MI) : Prop := PI X tg iter (tII X.K m)
theorem GE {X : Cx} {tg iter : Expr} {t t' : TI} (h : PI X tg iter t) (i : ∀ σ H C, t' σ H C → t σ H C) : PI X tg iter t' := fun pins s σ H C I q => h pins s σ H C I (i _ _ _ q)
noncomputable abbrev MG := W → MSt → MH → Option MSt
noncomputable def tIG (K : PySem.W.Frag) (b : MG) : TG := fun v σ H C => ∃ R σi h w σ1, Rh K R h H ∧ Rst K R σi σ ∧ Rw K R w v ∧ b w σi h = some σ1 ∧ ∀ R' H' σ', Ext R R' → Rh K R' h H' → Rst K R' σ1 σ' → C σ' H'
noncomputable def PMG (X : Cx) (tg : Expr) (b : MG) : Prop := PG X tg (tIG X.K b)
theorem Gr {X : Cx} {tg : Expr} {t t' : TG} (h : PG X tg t) (i : ∀ v σ H C, t' v σ H C → t v σ H C) : PG X tg t' := fun pins s σ H v u C I r q => h pins s σ H v u C I r (i _ _ _ _ q)
noncomputable def Jd (i : Nat) : MG := fun w σ _ => some (σ.set i (some w))
theorem Zi {X : Cx} {i : Nat} {x : Str} {pos : Pos} (hN : X.N.Nodup) (hi : X.N[i]? = some x) (hx : Loc X.env.scope x) (hf : X.fn x = true ∨ X.env.scope.names.lookup x = some .local := by first | exact .inl rfl | exact .inr rfl | assumption) :
    PMG X (.Name x pos) (Jd i) := Gr (Wk hN hi hx hf) <| by
  rintro v σ H C ⟨R, σi, h, w, σ1, rh, st, rw, e, k⟩
  cases e
  exact k R H _ (Ext.refl _) rh (st.set rw)
open Classical in
noncomputable def Jl (items : List W) (src : Option Src) (b : MG) (body : SM) : List W → SM
  | [], σ, h => if live src items h then some (.nx σ h) else none
  | w :: r, σ, h => if live src items h then (b w σ h).bind fun σ1 => (body σ1 h).bind fun z => match z with
      | .nx σ2 h2 => Jl items src b body r σ2 h2
      | .ct σ2 h2 => Jl items src b body r σ2 h2
      | .bk σ2 h2 => some (.nx σ2 h2)
      | .rt v h2 => some (.rt v h2)
    else none
noncomputable def JM (mi : MI) (b : MG) (body : SM) : SM := fun σ h => (mi σ h).bind fun p => Jl p.1 p.2.1 b body p.1 σ p.2.2
section
variable {X : Cx} {tg iter : Expr} {body : List Stmt} {mi : MI} {b : MG} {m : SM} {pos : Pos}
theorem QcA {K : PySem.W.Frag} {D : L2.Ends} {σ : L2.St} {H : Hp} (q : tS K (JM mi b m) D σ H) : QeM (tII K mi) (tIG K b) (tS K m) D σ H := by
  obtain ⟨R, σi, h, r, rh, s, e, k⟩ := q
  obtain ⟨⟨items, src, h1⟩, e1, e2⟩ := Option.bind_eq_some_iff.mp e
  refine ⟨R, σi, h, items, src, h1, rh, s, e1, fun R1 H1 J x1 rh1 it => ?_⟩
  refine ⟨fun i n σ H => i + n = items.length ∧ ∃ R2 σ2 h2, Ext R1 R2 ∧ Rh K R2 h2 H ∧ Rst K R2 σ2 σ ∧ ∃ r, Jl items src b m (items.drop i) σ2 h2 = some r ∧ Ends K R2 D r, ⟨items.length, by simp, R1, σi, h1, Ext.refl _, rh1, s.mono x1, r, by simpa using e2, Ends.ext k x1⟩, ?_⟩
  rintro i n σ2' H2 ⟨hin, R2, σ2, h2, x2, rh2, s2, r2, e3, k2⟩
  by_cases hi : i < items.length
  · obtain ⟨w, hw⟩ : ∃ w, items[i]? = some w := ⟨items[i], List.getElem?_eq_getElem hi⟩
    have hd : items.drop i = w :: items.drop (i + 1) := by
      rw [List.drop_eq_getElem_cons hi]
      rw [List.getElem?_eq_getElem hi] at hw
      cases hw; rfl
    rw [hd] at e3
    unfold Jl at e3
    split at e3
    · rename_i hl
      obtain ⟨σ3, e4, e5⟩ := Option.bind_eq_some_iff.mp e3
      obtain ⟨z, e6, e7⟩ := Option.bind_eq_some_iff.mp e5
      refine .inr ⟨it.go i w R2 h2 H2 x2 rh2 hl hw, fun σ' H' => ∃ R3 σ4 h4, Ext R1 R3 ∧ Rh K R3 h4 H' ∧ Rst K R3 σ4 σ' ∧ ∃ r, Jl items src b m (items.drop (i + 1)) σ4 h4 = some r ∧ Ends K R3 D r, fun σ' H' hn => ⟨n - 1, by omega, by omega, hn⟩, fun x H' hy => ?_⟩
      obtain ⟨R3, x3, rh3, rw3⟩ := it.yld i w R2 h2 H2 x H' x2 rh2 hl hw hy
      refine ⟨R3, σ2, h2, w, σ3, rh3, s2.mono x3, rw3, e4, fun R4 H4 σ4' x4 rh4 s4 => ?_⟩
      refine ⟨R4, σ3, h2, z, rh4, s4, e6, ?_⟩
      cases z with
      | nx σ5 h5 => exact fun R5 H5 σ5' x5 rh5 s5 => ⟨R5, σ5, h5, x2.trans (x3.trans (x4.trans x5)), rh5, s5, r2, e7, Ends.ext k2 (x3.trans (x4.trans x5))⟩
      | ct σ5 h5 => exact fun R5 H5 σ5' x5 rh5 s5 => ⟨R5, σ5, h5, x2.trans (x3.trans (x4.trans x5)), rh5, s5, r2, e7, Ends.ext k2 (x3.trans (x4.trans x5))⟩
      | bk σ5 h5 => cases e7; exact fun R5 H5 σ5' x5 rh5 s5 => k2 R5 H5 σ5' (x3.trans (x4.trans x5)) rh5 s5
      | rt v h5 => cases e7; exact After.ext k2 (x3.trans x4)
    · cases e3
  · have hd : items.drop i = [] := List.drop_eq_nil_of_le (by omega)
    rw [hd] at e3
    unfold Jl at e3
    split at e3
    · rename_i hl
      cases e3
      exact .inl ⟨it.stop i R2 h2 H2 x2 rh2 hl (by omega), k2 R2 H2 σ2' (Ext.refl _) rh2 s2⟩
    · cases e3
theorem Z6 (hp : PassesOwn (model X.prog X.w) X.A X.env X.xe) (hc : X.calm = true) (hi : PMI X tg iter mi) (hg : PMG X tg b) (hb : UX X body m)
    (hs : ∀ x, foldedSetIterable iter X.env x = pure x := by intro _; rfl) : PMS X (.For tg iter body [] pos) (JM mi b m) := Z0 (QbH hp hc hi hg hb hs) fun _ _ _ => QcA
end
section
variable {X : Cx} {c : Expr} {body : List Stmt} {t : MT} {m : SM} {pos : Pos}
end
end Mi

namespace Mi
open PySem PySem.Spec PyProof.Rows L2

section
variable {prog : Program} {w : World} {A : Around} {E : Value → Shared → Prop} {R : Result → Shared → Prop} {s : Shared}
theorem Ka {elt target iter : Expr} {ifs : List Expr} {scope : Scope} {pos : Pos} {it acc : Value} {env : Env} (I : Nat → Shared → Prop)
    (turn : ∀ n s, I n s → wpAny (model prog w) A (pyNext it) (fun r s₁ => match r with
      | none => R (.ok .next) s₁
      | some v => wpAny (model prog w) A (letOwnedTupleGo target it v) (fun _ s₁' => wpAny (model prog w) A (assign target env v) (fun _ s₂ =>
          wpAny (model prog w) A (forIn ifs true fun c r => if r = true then do let ok ← isTrue c env (eval c env); pure (ForInStep.yield ok) else pure (ForInStep.yield r)) (fun ok s₃ =>
            if ok = true then wpAny (model prog w) A (eval elt env) (fun x s₄ =>
              wpAny (model prog w) A (call (.builtin "list.append") [acc, x]) (fun _ s₅ => ∃ m, m < n ∧ I m s₅) (fun _ _ => False) s₄) (fun _ _ => False) s₃
            else ∃ m, m < n ∧ I m s₃) (fun _ _ => False) s₂) (fun _ _ => False) s₁') (fun _ _ => False) s₁) (fun _ _ => False) s)
    (n : Nat) (h : I n s) :
    codeAny (model prog w) A (.compLoop (.ListComp elt [⟨target, iter, ifs, 0⟩] scope pos) 0 it acc env) R s := by
  refine codeAny_loop rfl I (fun n s hI => ?_) n h
  show wpAny _ A ((compTurn (.ListComp elt [⟨target, iter, ifs, 0⟩] scope pos) 0 it acc env).onRaise (fun x => do noteFrame x env; theTreesLotGoes x)) _ _ s
  refine wpAny_noted ?_
  rw [compTurn_list]
  refine wpAny_bind (wpAny_standAt (wpAny_bind (wpAny_mono (turn n s hI) (fun r s₁ h₁ => ?_) fun _ _ h' => h'.elim)))
  cases r with
  | none => exact wpAny_pure h₁
  | some v =>
    refine wpAny_bind (wpAny_mono h₁ (fun _ s₁' h₁' => ?_) fun _ _ h' => h'.elim)
    refine wpAny_bind (wpAny_mono h₁' (fun _ s₂ h₂ => wpAny_bind (wpAny_mono h₂ (fun ok s₃ h₃ => ?_) fun _ _ h' => h'.elim)) fun _ _ h' => h'.elim)
    cases ok with
    | false => exact wpAny_pure ⟨rfl, h₃⟩
    | true =>
      exact wpAny_bind (wpAny_bind (wpAny_mono h₃ (fun x s₄ h₄ => wpAny_bind (wpAny_mono h₄ (fun _ s₅ h₅ => wpAny_pure (wpAny_pure ⟨rfl, h₅⟩)) fun _ _ h' => h'.elim)) fun _ _ h' => h'.elim))
end

theorem sz {h : Heap} {b : Addr} {o : Obj} {n : Nat} (e : h.get? b = some o) (hn : h.objs.size ≤ n) : ¬ b = n := fun z => by
  have h1 : @LT.lt Nat instLTNat b h.objs.size := Heap.lt_size e
  subst z
  exact Nat.lt_irrefl _ (Nat.lt_of_lt_of_le h1 hn)
noncomputable abbrev blk (X : Cx) (scope : Scope) (cl : List (Str × Addr)) (Nb : List Str) (s₀ : Shared) (H₀ : Hp) (C : Addr) (ex : List Addr) (pn : List (Addr × Obj)) : Cx :=
  { X with N := Nb, s₀ := s₀, H₀ := H₀, env := compEnvC scope cl C X.env, outer := X.stack, stack := X.stack, ex := ex, fn := fun _ => false, pn := pn, xe := fun _ _ => False }

structure BlkOk (X : Cx) (scope : Scope) (cl : List (Str × Addr)) (Nb : List Str) (cp : List (Option Nat)) : Prop where
  clos : closureFor scope X.env = pure cl
  cell : ∀ y ∈ scope.names, y.2 ≠ .cell
  kind : scope.kind = .function
  names : ∀ y ∈ scope.names, y.2 = .local → scope.names.lookup y.1 = some .local
  sub : ∀ x c, cl.lookup x = some c → X.env.cells.lookup x = some c
  has : ∀ x, ((relabel scope X.env).names.lookup x = some .cell ∨ (relabel scope X.env).names.lookup x = some .free) → ∃ c, cl.lookup x = some c
  len : cp.length = Nb.length
  cap : ∀ (i j : Nat) (x : Str), cp[i]? = some (some j) → Nb[i]? = some x → X.N[j]? = some x ∧ Vis X.env.scope x ∧ (X.env.kindOf x = some .cell ∨ X.env.kindOf x = some .free) ∧ ((relabel scope X.env).names.lookup x = some .cell ∨ (relabel scope X.env).names.lookup x = some .free)

noncomputable def Xp (cp : List (Option Nat)) (σ : L2.St) : L2.St := cp.map fun o => match o with | none => none | some j => match σ[j]? with | some v => v | none => none

noncomputable def Gh (wi : TI) (cp : List (Option Nat)) (g : TG) (tt : TT) (te : TE) : TE := fun σ H Q => wi σ H fun J H1 => ∃ W : Nat → Nat → List V → L2.St → Hp → Prop, (∃ m, W 0 m [] (Xp cp σ) H1) ∧ ∀ i m acc τ H, W i m acc τ H →
  (J.stop i H ∧ ∀ D, H D = none → Q (.ref D) (upd H D (.lst acc))) ∨
  (J.go i H ∧ ∀ x H', J.yld i H x H' → g x τ H' fun τ2 H2 => tt τ2 H2 fun b H3 => if b = true then te τ2 H3 fun v H4 => acc.length < sizeLine ∧ ∃ m', m' < m ∧ W (i + 1) m' (acc ++ [v]) τ2 H4 else ∃ m', m' < m ∧ W (i + 1) m' acc τ2 H3)

theorem Inv.track {X : Cx} {pins : List (Addr × Obj)} {σ : L2.St} {H : Hp} {s : Shared} {D : Addr} {o : HO} (I : Inv X pins σ H s) (hn : H D = none) (h0 : X.s₀.heap.objs.size ≤ D) (hL : X.env.locals ≠ D) (hc : ∀ x c, X.env.cells.lookup x = some c → c ≠ D)
    (hp : ∀ p ∈ X.pn ++ pins, p.1 ≠ D) (ob : ObjOk X.prog X.w (upd H D o) s.heap D o) : Inv X pins σ (upd H D o) s where
  ok := I.ok
  os := I.os
  bare := I.bare
  base := {
    keep := I.base.keep
    slot := I.base.slot
    free := fun b q e n nx => by
      have : b ≠ D := sz e h0
      rw [Qp this]; exact I.base.free b q e n nx
    there := I.base.there
    tups := fun b xs e => by
      have q := I.base.tups b xs e
      rw [Qp (fun z => by rw [z, hn] at q; cases q)]; exact q
    frzs := fun b q u e => by
      have z := I.base.frzs b q u e
      rw [Qp (fun y => by rw [y, hn] at z; cases z)]; exact z
    tbls := fun b ps e => by
      obtain ⟨more, q⟩ := I.base.tbls b ps e
      exact ⟨more, by rw [Qp (fun z => by rw [z, hn] at q; cases q)]; exact q⟩ }
  loc := I.loc
  cell := I.cell
  free := by rw [Qp hL]; exact I.free
  freeC := fun x c e => by rw [Qp (hc x c e)]; exact I.freeC x c e
  pin := fun p hp' => by
    obtain ⟨a, b, c⟩ := I.pin p hp'
    exact ⟨a, by rw [Qp (hp p hp')]; exact b, c⟩
  hok := fun a u e => by
    by_cases z : a = D
    · subst z
      rw [Zh] at e; cases e
      exact ob
    · rw [Qp z] at e
      refine (I.hok a u e).stay (fun _ _ _ q => q) (fun b q => ?_) (fun b xs q => ?_)
      · rw [Qp (fun y => by rw [y, hn] at q; cases q)]; exact q
      · rw [Qp (fun y => by rw [y, hn] at q; cases q)]; exact q
  len := I.len

section
variable {X : Cx} {elt tg iter : Expr} {ifs : List Expr} {scope : Scope} {pos : Pos} {cl : List (Str × Addr)} {Nb : List Str} {cp : List (Option Nat)} {wi : TI} {g : TG} {tt : TT} {te : TE}

theorem Cx.Ok.blk {pins : List (Addr × Obj)} {σ : L2.St} {H : Hp} {s : Shared} {C : Addr} {fp : List Addr} {pn : List (Addr × Obj)} (B : BlkOk X scope cl Nb cp) (I : Inv X pins σ H s) (hf : ∀ b ∈ fp, Uh X pins H b) (hfs : ∀ b ∈ fp, b < s.heap.objs.size) (hC : s.heap.objs.size ≤ C) :
    (blk X scope cl Nb s H C fp pn).Ok where
  mod := I.ok.mod
  kind := B.kind
  glob := I.ok.glob
  blt := I.ok.blt
  above := hC
  inj := fun x y c h1 h2 => I.ok.inj x y c (B.sub x c h1) (B.sub y c h2)
  has := fun x h => B.has x h
  cab := fun x c h => absurd h (by simp)
  hd := I.ok.hd
  frames := I.ok.frames
  stk := .inl rfl
  exf := fun b hb => ⟨fun z => by have := hfs b hb; rw [z] at this; exact absurd hC (Nat.not_le.mpr this), fun x c e => (hf b hb).2.2.2.2.1 x c (B.sub x c e)⟩
  bs := I.bs
  bsz := Nat.le_trans I.ok.bsz I.sz
  noex := fun b o e hb => by
    rcases (hf b hb).2.2.2.1 with z | z
    · exact I.ok.noex b o e z
    · exact sz e (Nat.le_trans I.ok.bsz z) rfl
  exfs := fun b hb z => by
    have := I.stkSub b z
    rcases List.mem_cons.mp this with q | q
    · exact (hf b hb).2.1 q
    · exact (hf b hb).2.2.1 q
  funs := I.stack
  frf := fun b hb => I.stkFree b hb

theorem YK {cp : List (Option Nat)} {σ : L2.St} {i : Nat} {v : V} (e : (Xp cp σ)[i]? = some (some v)) : ∃ j, cp[i]? = some (some j) ∧ σ[j]? = some (some v) := by
  unfold Xp at e
  rw [List.getElem?_map] at e
  obtain ⟨o, h1, h2⟩ := Option.map_eq_some_iff.mp e
  cases o with
  | none => cases h2
  | some j =>
    refine ⟨j, h1, ?_⟩
    simp only at h2
    split at h2
    · rename_i u hu; rw [hu, h2]
    · cases h2

theorem Inv.blk {pins : List (Addr × Obj)} {σ : L2.St} {H : Hp} {s : Shared} {C : Addr} {fp : List Addr} {h' : Heap} {m : Str → Option Value} {tk : Nat} (B : BlkOk X scope cl Nb cp) (I : Inv X pins σ H s) (hf : ∀ b ∈ fp, Uh X pins H b) (hfs : ∀ b ∈ fp, b < s.heap.objs.size)
    (hC : s.heap.objs.size ≤ C) (hns : h'.Ns C m) (hk : ∀ b o, s.heap.get? b = some o → h'.get? b = some o) : Inv (Mi.blk X scope cl Nb s H C fp (X.pn ++ pins)) [] (Xp cp σ) H { s with heap := h', toks := tk } where
  ok := Cx.Ok.blk B I hf hfs hC
  os := rfl
  bare := I.bare
  base := Un.kept hk
  loc := by
    refine ⟨m, hns, fun i x v hN e hv => ?_⟩
    obtain ⟨j, h1, h2⟩ := YK e
    obtain ⟨hX, hvis, hkd, hkb⟩ := B.cap i j x h1 hN
    obtain ⟨m0, n0, lk⟩ := I.loc
    obtain ⟨u, r, l⟩ := lk j x v hX h2 hvis
    refine ⟨u, r, ?_⟩
    rcases l with ⟨h, _⟩ | ⟨_, c, hc, hcell⟩
    · rcases hkd with z | z <;> rw [z] at h <;> cases h
    · refine .inr ⟨hkb, ?_⟩
      obtain ⟨c', hc'⟩ := B.has x hkb
      have := B.sub x c' hc'
      rw [hc] at this; cases this
      exact ⟨c, hc', by
        obtain ⟨o, h3, h4⟩ := hcell
        exact ⟨o, hk _ _ h3, h4⟩⟩
  cell := fun x c e => by
    obtain ⟨v, o, h3, h4⟩ := I.cell x c (B.sub x c e)
    exact ⟨v, o, hk _ _ h3, h4⟩
  free := I.hok.fresh hC
  freeC := fun x c e => I.freeC x c (B.sub x c e)
  pin := fun p hp => by
    rw [List.append_nil] at hp
    obtain ⟨a, b, c, d, e⟩ := I.pin p hp
    refine ⟨hk _ _ a, b, fun z => ?_, fun z => ?_, e⟩
    · have := Heap.lt_size a; rw [z] at this; exact absurd hC (Nat.not_le.mpr this)
    · rcases List.mem_cons.mp (I.stkSub _ z) with q | q
      · exact c q
      · exact d q
  hok := I.hok.kept hk
  len := by unfold Xp; rw [List.length_map]; exact B.len

noncomputable def QdY (X : Cx) (pins : List (Addr × Obj)) (σ : L2.St) (use : Option (Value → Sem Unit)) (Q : VK) (Q' : Value → Shared → Prop) : Prop :=
  ∀ (D C : Addr) (H' : Hp) (s' : Shared) (m : Str → Option Value), Inv X pins σ H' s' → s'.heap.Ns C m → H' C = none → ¬ C = X.env.locals → X.s₀.heap.objs.size ≤ C → (∀ x c, X.env.cells.lookup x = some c → c ≠ C) → (∀ p ∈ X.pn ++ pins, p.1 ≠ C) → Q (.ref D) H' →
    compPost (model X.prog X.w) X.A X.xe use Q' (.ref D) C (.ok .next) s'
theorem KQ {use : Option (Value → Sem Unit)} {Q' : Value → Shared → Prop} {pins : List (Addr × Obj)} {s : Shared} {σ : L2.St} {H : Hp} {Q : VK} {newp : Pos} (hc : X.calm = true) (B : BlkOk X scope cl Nb cp) (hi : PI X tg iter wi) (hg : ∀ s₀ H₀ C ex pn, PG (Mi.blk X scope cl Nb s₀ H₀ C ex pn) tg g)
    (ht : ∀ s₀ H₀ C ex pn, ∀ (pins : List (Addr × Obj)) (s : Shared) (τ : L2.St) (H : Hp) (Q : Bool → Hp → Prop), Inv (Mi.blk X scope cl Nb s₀ H₀ C ex pn) pins τ H s → tt τ H Q →
      wpAny (model X.prog X.w) X.A (forIn ifs true fun c r => if r = true then do let ok ← isTrue c (compEnvC scope cl C X.env) (eval c (compEnvC scope cl C X.env)); pure (ForInStep.yield ok) else pure (ForInStep.yield r)) (TP (Mi.blk X scope cl Nb s₀ H₀ C ex pn) pins τ Q) (fun _ _ => False) s)
    (he : ∀ s₀ H₀ C ex pn, PE (Mi.blk X scope cl Nb s₀ H₀ C ex pn) elt te) (hs : ∀ x, foldedSetIterable iter X.env x = pure x)
    (I : Inv X pins σ H s) (h : Gh wi cp g tt te σ H Q) (hfin : QdY X pins σ use Q Q') :
    wpAny (model X.prog X.w) X.A (comprehension (.ListComp elt [⟨tg, iter, ifs, 0⟩] scope pos) scope X.env newp (newList []) false (eval iter X.env) use) Q' X.xe s := by
  refine wpAny_comprehension_free (use := use) rfl hs B.clos B.kind B.names (wpAny_mono (hi pins s σ H _ I h) (fun xv s₁ h₁ => wpAny_mono h₁ (fun itv s₂ h₂ => ?_) fun _ _ e => e) fun _ _ e => e)
  obtain ⟨it, fp, tn, J, H2, rfl, I2, T, st2, f2, W, ⟨m0, w0⟩, turn⟩ := h₂
  have hfs : ∀ b ∈ fp, b < s₂.heap.objs.size := fun b hb => by
    obtain ⟨o, e, _⟩ := T.obj _ _ st2 b hb
    exact Heap.lt_size e
  refine wpAny_newObj_type (wpAny_newFunctionEnv B.cell (by intro y hy; simp at hy) (fun h₁ hns₁ hsb₁ => ?_) B.kind)
  dsimp only at hns₁ hsb₁ ⊢
  generalize hH2 : s₂.heap.push { cls := .type "list", dict := none, data := .seq ([] : List Value).toArray } = G2 at hns₁ hsb₁ ⊢
  have hCz : G2.objs.size = s₂.heap.objs.size + 1 := by rw [← hH2, Heap.size_push]
  generalize hCC : G2.objs.size = C at hns₁ hsb₁ ⊢
  rw [hCC] at hCz
  have hCle : s₂.heap.objs.size ≤ C := by omega
  have hDC : s₂.heap.objs.size ≠ C := by omega
  have old : ∀ b o, s₂.heap.get? b = some o → h₁.get? b = some o := fun b o e => hsb₁.extBut b o (sz e hCle) (Heap.get?_push_of_some _ (hH2 ▸ Heap.get?_push_of_some _ e))
  have hacc : h₁.get? s₂.heap.objs.size = some { cls := .type "list", data := .seq ([] : List Value).toArray } := hsb₁.extBut _ _ hDC (Heap.get?_push_of_some _ (hH2 ▸ Heap.get?_push_size _ rfl))
  generalize hD : s₂.heap.objs.size = D at hacc hDC hCle hCz ⊢
  have hDle : s₂.heap.objs.size ≤ D := Nat.le_of_eq hD
  have hCle2 : s₂.heap.objs.size ≤ C := Nat.le_trans hDle hCle
  -- the block's context
  have I3 := Inv.blk (tk := s₂.toks + ([] : List (Str × Value)).length) B I2 f2 hfs (C := C) (Nat.le_trans (Nat.le_of_eq hD) hCle) hns₁ old
  have hDfp : D ∉ fp := fun z => Nat.lt_irrefl _ (Nat.lt_of_lt_of_le (hfs D z) hDle)
  have hCfp : C ∉ fp := fun z => Nat.lt_irrefl _ (Nat.lt_of_lt_of_le (hfs C z) hCle2)
  -- D in the block: not a frame's, not a cell's, not pinned
  have dcell : ∀ x c, cl.lookup x = some c → c ≠ D := fun x c e z => by
    obtain ⟨v, o, h3, _⟩ := I2.cell x c (B.sub x c e)
    exact sz h3 hDle z
  have dpin : ∀ p ∈ X.pn ++ pins, p.1 ≠ D := fun p hp z => sz (I2.pin p hp).1 hDle z
  have cpin : ∀ p ∈ X.pn ++ pins, p.1 ≠ C := fun p hp z => sz (I2.pin p hp).1 hCle2 z
  have dfs : D ∉ frs X.stack := fun z => by
    rcases List.mem_cons.mp (I2.stkSub _ z) with q | q
    · exact Nat.lt_irrefl _ (Nat.lt_of_lt_of_le (q ▸ I2.lt : D < s₂.heap.objs.size) hDle)
    · exact I2.nofs hDle q
  have fpst : ∀ {H' : Hp} {pl : List (Addr × Obj)}, (∀ b ∈ fp, H' b = none) → (∀ p ∈ pl, p.1 = D) → ∀ b ∈ fp, Uh (Mi.blk X scope cl Nb s₂ H2 C fp (X.pn ++ pins)) pl H' b := fun {H' pl} hn hpl b hb =>
    ⟨hn b hb, fun (z : b = C) => hCfp (z ▸ hb), fun z => by
      rcases List.mem_cons.mp (I2.stkSub _ z) with q | q
      · exact (f2 b hb).2.1 q
      · exact (f2 b hb).2.2.1 q, .inl hb, fun x c e => (f2 b hb).2.2.2.2.1 x c (B.sub x c e), fun p hp z => by
      rcases List.mem_append.mp hp with q | q
      · exact (f2 b hb).2.2.2.2.2 p q z
      · rw [hpl p q] at z; exact hDfp (z ▸ hb)⟩
  have fp0 : ∀ {H' : Hp}, (∀ b ∈ fp, H' b = none) → ∀ b ∈ fp, Uh X pins H' b := fun hn b hb => ⟨hn b hb, (f2 b hb).2⟩
  -- the end
  have fin : ∀ {τ : L2.St} {H' : Hp} {s' : Shared} {acc : List V} {its : List Value} {n : Nat} {mC : Str → Option Value}, Inv (Mi.blk X scope cl Nb s₂ H2 C fp (X.pn ++ pins)) [] τ H' s' → H' D = none → s'.heap.get? D = some { cls := .type "list", data := .seq its.toArray n } → Vals acc its → acc.length ≤ sizeLine → s'.heap.Ns C mC →
      (∀ D, H' D = none → Q (.ref D) (upd H' D (.lst acc))) → compPost (model X.prog X.w) X.A X.xe use Q' (.ref D) C (.ok .next) s' := by
    intro τ H' s' acc its n mC Ib hDH hDo r hz hns q
    have Ie : Inv X pins σ H' s' := I2.call' (ch := fp) (Ib.os) Ib.base Ib.hok Ib.bare fun b hb => ⟨(f2 b hb).2.2.2.1, (f2 b hb).2.1, (f2 b hb).2.2.2.2.1, (f2 b hb).2.2.2.2.2⟩
    have hsz : X.s₀.heap.objs.size ≤ s₂.heap.objs.size := I2.sz
    have It : Inv X pins σ (upd H' D (.lst acc)) s' := Inv.track Ie hDH (Nat.le_trans hsz hDle) (fun z => Nat.lt_irrefl _ (Nat.lt_of_lt_of_le (z ▸ I2.lt : D < s₂.heap.objs.size) hDle)) (fun x c e z => by
      obtain ⟨v, o, h3, _⟩ := I2.cell x c e
      exact sz h3 hDle z) dpin ⟨hz, its, n, r, hDo⟩
    exact hfin D C _ s' mC It hns (by rw [Qp (Ne.symm hDC)]; exact Ib.free) (fun z => Nat.lt_irrefl _ (Nat.lt_of_lt_of_le (z ▸ I2.lt : C < s₂.heap.objs.size) hCle2)) (Nat.le_trans hsz hCle2) (fun x c e z => by
      obtain ⟨v, o, h3, _⟩ := I2.cell x c e
      exact sz h3 hCle2 z) cpin (q D hDH)
  have loop : ∀ s₃ : Shared, s₃ = { s₂ with heap := h₁, toks := s₂.toks + ([] : List (Str × Value)).length } →
      codeAny (model X.prog X.w) X.A (.compLoop (.ListComp elt [⟨tg, iter, ifs, 0⟩] scope pos) 0 (.ref it) (.ref D) (compEnvC scope cl C X.env))
        (compPost (model X.prog X.w) X.A X.xe use Q' (.ref D) C) s₃ := by
    rintro s₃ rfl
    refine Ka (fun n s' => ∃ i τ H' acc its k, Inv (Mi.blk X scope cl Nb s₂ H2 C fp (X.pn ++ pins)) [] τ H' s' ∧ tn i s'.heap ∧ (∀ b ∈ fp, H' b = none) ∧ H' D = none ∧ s'.heap.get? D = some { cls := .type "list", data := .seq (its : List Value).toArray k } ∧ Vals acc its ∧ acc.length ≤ sizeLine ∧ W i n acc τ H') ?_ m0
      ⟨0, Xp cp σ, H2, [], [], _, I3, T.keep _ _ _ st2 (fun b hb o e => old b o e), fun b hb => (f2 b hb).1, I2.hok.fresh hDle, hacc, .nil, Nat.zero_le _, w0⟩
    rintro n s3 ⟨i, τ, H3, acc, its, k, Ib, st3, fr3, hDH, hDo, r3, hz3, w3⟩
    have pinD : ∀ {τ' : L2.St} {H' : Hp} {s' : Shared}, Inv (Mi.blk X scope cl Nb s₂ H2 C fp (X.pn ++ pins)) [] τ' H' s' → H' D = none → s'.heap.get? D = some { cls := .type "list", data := .seq its.toArray k } →
        Inv (Mi.blk X scope cl Nb s₂ H2 C fp (X.pn ++ pins)) [(D, { cls := .type "list", data := .seq its.toArray k })] τ' H' s' := fun {τ' H' s'} I' hn ho => I'.pins_of fun p hp => by
      rw [List.mem_singleton] at hp; subst hp
      exact ⟨ho, hn, hDC, dfs, by intro v; simp⟩
    have IbD := pinD Ib hDH hDo
    have onlyD : ∀ p ∈ [(D, ({ cls := .type "list", data := .seq its.toArray k } : Obj))], p.1 = D := fun p hp => by rw [List.mem_singleton] at hp; subst hp; rfl
    have ofD : ∀ {τ' : L2.St} {H' : Hp} {s' : Shared}, Inv (Mi.blk X scope cl Nb s₂ H2 C fp (X.pn ++ pins)) [(D, { cls := .type "list", data := .seq its.toArray k })] τ' H' s' → s'.heap.get? D = some { cls := .type "list", data := .seq its.toArray k } ∧ H' D = none := fun I' => by
      obtain ⟨a, b, _⟩ := I'.pin (D, _) (List.mem_append_right _ (List.mem_singleton.mpr rfl))
      exact ⟨a, b⟩
    rcases turn i n acc τ H3 w3 with ⟨stop, qn⟩ | ⟨go, step⟩
    · refine wpAny_mono (T.done (Mi.blk X scope cl Nb s₂ H2 C fp (X.pn ++ pins)) rfl rfl rfl hc i _ s3 τ H3 (fun _ _ => False) IbD (fpst fr3 onlyD) st3 stop) (fun r s4 ⟨hr, I4⟩ => ?_) fun _ _ z => z.elim
      subst hr
      obtain ⟨o4, n4⟩ := ofD I4
      obtain ⟨m4, ns4, _⟩ := I4.loc
      have I4' : Inv (Mi.blk X scope cl Nb s₂ H2 C fp (X.pn ++ pins)) [] τ H3 s4 := I4.pins_of fun p hp => by cases hp
      exact fin I4' n4 o4 r3 hz3 ns4 qn
    · refine wpAny_mono (T.item (Mi.blk X scope cl Nb s₂ H2 C fp (X.pn ++ pins)) rfl rfl rfl hc i _ s3 τ H3 (fun _ _ => False) IbD (fpst fr3 onlyD) st3 go) (fun r s4 ⟨u, hr, h4⟩ => ?_) fun _ _ z => z.elim
      subst hr
      refine wpAny_mono h4 (fun _ s5 ⟨x, H5, I5, r5, y5, st5, fr5⟩ => ?_) fun _ _ z => z.elim
      have I5' := I5.pinned (fpst fr5 onlyD) (T.obj _ _ st5)
      refine wpAny_mono (hg s₂ H2 C fp (X.pn ++ pins) _ s5 τ H5 x u _ I5' r5 (step x H5 y5)) (fun _ s6 ⟨τ6, H6, I6, q6⟩ => ?_) fun _ _ z => z.elim
      refine wpAny_mono (ht s₂ H2 C fp (X.pn ++ pins) _ s6 τ6 H6 _ I6 q6) (fun ok s7 ⟨H7, I7, q7⟩ => ?_) fun _ _ z => z.elim
      have keepT : ∀ {τ' : L2.St} {H' : Hp} {s' : Shared}, Inv (Mi.blk X scope cl Nb s₂ H2 C fp (X.pn ++ pins)) ([(D, { cls := .type "list", data := .seq its.toArray k })] ++ XJ fp s5.heap) τ' H' s' → tn (i + 1) s'.heap ∧ (∀ b ∈ fp, H' b = none) ∧ s'.heap.get? D = some { cls := .type "list", data := .seq its.toArray k } ∧ H' D = none := fun {τ' H' s'} I' => by
        refine ⟨T.keep _ _ _ st5 fun b hb o e => (I'.pin (b, o) (List.mem_append_right _ (List.mem_append_right _ (ZQ hb e)))).1, fun b hb => ?_, ?_⟩
        · obtain ⟨o, e, d⟩ := T.obj _ _ st5 b hb
          exact (I'.pin (b, o) (List.mem_append_right _ (List.mem_append_right _ (ZQ hb e)))).2.1
        · obtain ⟨a, b, _⟩ := I'.pin (D, { cls := .type "list", data := .seq its.toArray k }) (List.mem_append_right _ (List.mem_append_left _ (List.mem_singleton.mpr rfl)))
          exact ⟨a, b⟩
      cases ok with
      | false =>
        rw [if_neg Bool.false_ne_true] at q7 ⊢
        obtain ⟨m', hm, w7⟩ := q7
        obtain ⟨t7, f7, o7, n7⟩ := keepT I7
        exact ⟨m', hm, i + 1, τ6, H7, acc, its, k, I7.pins_of (fun p hp => by cases hp), t7, f7, n7, o7, r3, hz3, w7⟩
      | true =>
        rw [if_pos rfl] at q7 ⊢
        refine wpAny_mono (he s₂ H2 C fp (X.pn ++ pins) _ s7 τ6 H7 _ I7 q7) (fun y s8 ⟨v8, H8, I8, r8, hlt, m', hm, w8⟩ => ?_) fun _ _ z => z.elim
        obtain ⟨t8, f8, o8, n8⟩ := keepT I8
        have hlen := r3.length
        refine call_meets F.slot_list_append ⟨_, o8, rfl⟩ F.entry_list_append (F.args_list_append_2 _ _) (PySem.list_append D its.toArray k y (by rw [List.size_toArray]; omega)) ⟨o8, ?_⟩
        have q := PySem.IsL.update o8 (·.push y)
        have hf : its.toArray.push y = (its ++ [y]).toArray := by simp
        rw [hf] at q
        have I8' : Inv (Mi.blk X scope cl Nb s₂ H2 C fp (X.pn ++ pins)) [] τ6 H8 s8 := I8.pins_of fun p hp => by cases hp
        have I9 : Inv (Mi.blk X scope cl Nb s₂ H2 C fp (X.pn ++ pins)) [] τ6 H8 { s8 with heap := s8.heap.update D (Obj.mapSeq (·.push y)), toks := s8.toks } :=
          I8'.turned (it := D) (fun b o hb e => (Heap.get?_update_other s8.heap (Obj.mapSeq (·.push y)) (Ne.symm hb)).trans e) n8 hDC (.inr hDle) (fun x c e => dcell x c e) fun p hp => by
            rw [List.append_nil] at hp; exact dpin p hp
        refine ⟨m', hm, i + 1, τ6, H8, acc ++ [v8], its ++ [y], _, I9, T.keep _ _ _ t8 (fun b hb o e => (Heap.get?_update_other s8.heap (Obj.mapSeq (·.push y)) (fun (z : D = b) => hDfp (z ▸ hb))).trans e), f8, n8, q, r3.append (.cons r8 .nil), by rw [List.length_append, List.length_singleton]; omega, w8⟩
  exact codeAny_compStart_list (loop _ rfl) (T.self _ 0 _ _ _ (T.keep _ _ _ st2 (fun b hb o e => old b o e)) (loop _ rfl))
theorem Wl (hc : X.calm = true) (B : BlkOk X scope cl Nb cp) (hi : PI X tg iter wi) (hg : ∀ s₀ H₀ C ex pn, PG (Mi.blk X scope cl Nb s₀ H₀ C ex pn) tg g)
    (ht : ∀ s₀ H₀ C ex pn, ∀ (pins : List (Addr × Obj)) (s : Shared) (τ : L2.St) (H : Hp) (Q : Bool → Hp → Prop), Inv (Mi.blk X scope cl Nb s₀ H₀ C ex pn) pins τ H s → tt τ H Q →
      wpAny (model X.prog X.w) X.A (forIn ifs true fun c r => if r = true then do let ok ← isTrue c (compEnvC scope cl C X.env) (eval c (compEnvC scope cl C X.env)); pure (ForInStep.yield ok) else pure (ForInStep.yield r)) (TP (Mi.blk X scope cl Nb s₀ H₀ C ex pn) pins τ Q) (fun _ _ => False) s)
    (he : ∀ s₀ H₀ C ex pn, PE (Mi.blk X scope cl Nb s₀ H₀ C ex pn) elt te) (hs : ∀ x, foldedSetIterable iter X.env x = pure x := by intro _; rfl) :
    PE X (.ListComp elt [⟨tg, iter, ifs, 0⟩] scope pos) (Gh wi cp g tt te) := by
  intro pins s σ H Q I h
  rw [eval_ListComp]
  refine KQ hc B hi hg ht he hs I h fun D C H' s' m I' hns hn hL h0 hcell hp q => ⟨m, hns, fun h'' sb => ?_⟩
  exact ⟨.ref D, H', I'.turned (t' := s'.toks) (it := C) (fun b o hb e => sb.extBut b o hb e) hn hL (.inr h0) hcell hp, rfl, q⟩
theorem WM {i : Nat} {x : Str} {pos' spos : Pos} (hN : X.N.Nodup) (hix : X.N[i]? = some x) (hx : Loc X.env.scope x) (hf : X.fn x = true ∨ X.env.scope.names.lookup x = some .local) (hsw : swapsWith (.ListComp elt [⟨tg, iter, ifs, 0⟩] scope pos) (some (.Name x pos')) spos.line X.env = pure true)
    (hc : X.calm = true) (B : BlkOk X scope cl Nb cp) (hi : PI X tg iter wi) (hg : ∀ s₀ H₀ C ex pn, PG (Mi.blk X scope cl Nb s₀ H₀ C ex pn) tg g)
    (ht : ∀ s₀ H₀ C ex pn, ∀ (pins : List (Addr × Obj)) (s : Shared) (τ : L2.St) (H : Hp) (Q : Bool → Hp → Prop), Inv (Mi.blk X scope cl Nb s₀ H₀ C ex pn) pins τ H s → tt τ H Q →
      wpAny (model X.prog X.w) X.A (forIn ifs true fun c r => if r = true then do let ok ← isTrue c (compEnvC scope cl C X.env) (eval c (compEnvC scope cl C X.env)); pure (ForInStep.yield ok) else pure (ForInStep.yield r)) (TP (Mi.blk X scope cl Nb s₀ H₀ C ex pn) pins τ Q) (fun _ _ => False) s)
    (he : ∀ s₀ H₀ C ex pn, PE (Mi.blk X scope cl Nb s₀ H₀ C ex pn) elt te) (hs : ∀ x, foldedSetIterable iter X.env x = pure x := by intro _; rfl) :
    PS X (.Assign [.Name x pos'] (.ListComp elt [⟨tg, iter, ifs, 0⟩] scope pos) spos) (Qd5 (Gh wi cp g tt te) (Wq i)) := by
  intro pins s σ H D I h
  rw [exec_Assign_Name_used _ _ _ _ hsw]
  refine wpAny_bind (wpAny_standAt (wpAny_bind ?_))
  show wpAny _ X.A (do let _ ← comprehension (.ListComp elt [⟨tg, iter, ifs, 0⟩] scope pos) scope X.env _ (newList []) false (eval iter X.env) (some (assign (.Name x pos') X.env))) _ _ s
  refine wpAny_bind (wpAny_mono (KQ (use := some (assign (.Name x pos') X.env)) (Q' := fun _ s' => SP X pins D .next s') hc B hi hg ht he hs I h fun D' C H' s' m I' hns hn hL h0 hcell hp q => ?_) (fun _ s' hq => wpAny_pure (wpAny_pure hq)) fun _ _ e => e)
  show wpAny _ X.A (assign (.Name x pos') X.env (.ref D')) _ _ s'
  refine wpAny_assign_Name (Xw (v := .ref D') I' hN hix hx rfl (fun s5 I5 ⟨a, sb, ha⟩ => ?_) hf)
  have hne : C ≠ a := fun z => by
    rcases ha with ha | ha
    · exact hL (z.trans ha)
    · exact hcell x a ha z.symm
  exact ⟨m, hns.sameBut sb hne, fun h'' sb2 => ⟨_, H', I5.turned (t' := s5.toks) (it := C) (fun b o hb e => sb2.extBut b o hb e) hn hL (.inr h0) hcell hp, q⟩⟩
end
end Mi

namespace Mi
open PySem PySem.Spec PyProof.Rows L2

noncomputable def IterR (X : Cx) (tg : Expr) (r : V → Hp → (It → Hp → Prop) → Prop) : Prop :=
  ∀ (pins : List (Addr × Obj)) (s : Shared) (σ : L2.St) (H : Hp) (x : V) (v : Value) (C : It → Hp → Prop), Inv X pins σ H s → RelV x v → r x H C → wpAny (model X.prog X.w) X.A (pyIter v) (PIE X pins σ tg C) X.xe s
section
variable {X : Cx} {tg : Expr}
theorem IterR.or {r r' : V → Hp → (It → Hp → Prop) → Prop} (h : IterR X tg r) (h' : IterR X tg r') : IterR X tg (fun x H C => r x H C ∨ r' x H C) := fun pins s σ H x v C I rx q => by
  rcases q with q | q
  · exact h pins s σ H x v C I rx q
  · exact h' pins s σ H x v C I rx q
theorem it_list : IterR X tg (fun x H C => ∃ a, x = .ref a ∧ (∃ xs, SqL X.K H a xs) ∧ C (Itl X.K a) H) := by
  intro pins s1 σ H1 x v C I1 r1 q1
  obtain ⟨a, e, ⟨xs, hq⟩, q⟩ := q1
  subst e
  cases r1
  obtain ⟨its, rv, p, hz⟩ := I1.list hq
  refine wpAny_pyIter_list p.isList ?_
  refine ⟨s1.heap.objs.size, [s1.heap.objs.size], _, _, H1, rfl, I1.kept (t' := s1.toks) fun b o e => Heap.get?_push_of_some _ e, Wo a _, ⟨_, Heap.get?_push_size _ rfl, rfl, rfl⟩, fun b hb => ?_, q⟩
  have e : b = s1.heap.objs.size := by simpa using hb
  subst e
  exact I1.fpOk (Nat.le_refl _) (I1.hok.fresh (Nat.le_refl _))
theorem Qb7 : IterR X tg (fun x H C => ∃ a, x = .ref a ∧ (∃ xs, SqT X.K H a xs) ∧ C (Itt X.K a) H) := by
  intro pins s1 σ H1 x v C I1 r1 q1
  obtain ⟨a, e, ⟨xs, hq⟩, q⟩ := q1
  subst e
  cases r1
  obtain ⟨its, rv, p, hz⟩ := I1.tuple hq
  refine wpAny_pyIter_tuple (show s1.heap.IsTuple a its.toArray from p) ?_
  refine ⟨s1.heap.objs.size, [s1.heap.objs.size], _, _, H1, rfl, I1.kept (t' := s1.toks) fun b o e => Heap.get?_push_of_some _ e, Yy a _, ⟨_, Heap.get?_push_size _ rfl, rfl, rfl⟩, fun b hb => ?_, q⟩
  have e : b = s1.heap.objs.size := by simpa using hb
  subst e
  exact I1.fpOk (Nat.le_refl _) (I1.hok.fresh (Nat.le_refl _))
noncomputable def Its (x : Str) : It := ⟨fun i _ => i < x.cps.size, fun i H v H' => H' = H ∧ ∃ c, x.cps[i]? = some c ∧ v = .str ⟨#[c]⟩, fun i _ => x.cps.size ≤ i⟩
noncomputable def XG (x : Str) : List W := x.cps.toList.map fun c => .str ⟨#[c]⟩
theorem UU {P : Program} {w : World} {K : PySem.W.Frag} {tg : Expr} (it : Addr) (x : Str) (ty : String) (t : Tok) (hty : ty = "str_ascii_iterator" ∨ ty = "str_iterator") :
    Turn P w K tg (Its x) [it] it (fun i h => i ≤ x.cps.size ∧ h.IsStrIter it ty x t i) where
  mem := by simp
  obj := fun i h st b hb => by
    have e : b = it := by simpa using hb
    subst e
    obtain ⟨_, o, e, c, d⟩ := st
    exact ⟨o, e, fun v z => by rw [d] at z; cases z⟩
  keep := fun i h h' st k => ⟨st.1, let ⟨o, ho, r⟩ := st.2; ⟨o, k it (by simp) o ho, r⟩⟩
  item := by
    intro X hP hw hK hc i pins s σ H E I hf st hg
    subst hP hw hK
    obtain ⟨hi, st⟩ := st
    obtain ⟨f0, f1, f2, f3, f4, f5⟩ := hf it (by simp)
    have hg' : i < x.cps.size := hg
    have hx : x.cps[i]? = some (x.cps[i]'hg') := Array.getElem?_eq_getElem hg'
    have fin : ∀ h' : Heap, h'.IsStrIter it ty x t (i + 1) → Heap.SameBut it s.heap h' → ∃ u, some (Value.str ⟨#[x.cps[i]'hg']⟩ s.toks) = some u ∧ wpAny (model X.prog X.w) X.A (letOwnedTupleGo tg (.ref it) u) (fun _ s2 => ∃ y H', Inv X pins σ H' s2 ∧ RelV y u ∧ (Its x).yld i H y H' ∧ (i + 1 ≤ x.cps.size ∧ s2.heap.IsStrIter it ty x t (i + 1)) ∧ ∀ b ∈ [it], H' b = none) E { s with heap := h', toks := s.toks + 1 } := fun h' st' sb => by
      have I1 : Inv X pins σ H { s with heap := h', toks := s.toks + 1 } := I.turned (fun b o hb e => (sb.2 b hb).trans e) f0 f1 f3 f4 f5
      obtain ⟨o, e, c, d⟩ := id st'
      refine ⟨_, rfl, Yo (s := { s with heap := h', toks := s.toks + 1 }) e c d (by rcases hty with z | z <;> rw [z] <;> decide) ⟨.str ⟨#[x.cps[i]'hg']⟩, H, I1, ⟨_, rfl⟩, ⟨rfl, _, hx, rfl⟩, ⟨hg, st'⟩, fun b hb => (hf b hb).1⟩⟩
    rcases hty with z | z
    · subst z
      exact wpAny_pyNext_ascii_item st hx fin
    · subst z
      exact wpAny_pyNext_wide_item st hx fin
  done := by
    intro X hP hw hK hc i pins s σ H E I hf st hg
    subst hP hw hK
    obtain ⟨hi, st⟩ := st
    obtain ⟨f0, f1, f2, f3, f4, f5⟩ := hf it (by simp)
    have hx : x.cps[i]? = none := by have : x.cps.size ≤ i := hg; simp; omega
    rcases hty with z | z
    · subst z
      exact wpAny_pyNext_ascii_end (I.ok.hd hc) st hx fun h' eb => ⟨rfl, I.turned (t' := s.toks) (fun b o hb e => eb b o hb e) f0 f1 f3 f4 f5⟩
    · subst z
      exact wpAny_pyNext_wide_end (I.ok.hd hc) st hx fun h' eb => ⟨rfl, I.turned (t' := s.toks) (fun b o hb e => eb b o hb e) f0 f1 f3 f4 f5⟩
  self := fun _ _ _ _ _ st h => by
    rcases hty with z | z
    · subst z; exact wpAny_pyIter_striter_ascii st.2 h
    · subst z; exact wpAny_pyIter_striter_wide st.2 h
theorem QbC : IterR X tg (fun x H C => ∃ y, x = .str y ∧ C (Its y) H) := by
  intro pins s1 σ H1 x v C I1 r1 q1
  obtain ⟨y, rfl, q⟩ := q1
  obtain ⟨t, rfl⟩ := r1
  have fin : ∀ ty, (ty = "str_ascii_iterator" ∨ ty = "str_iterator") → PIE X pins σ tg C (.ref s1.heap.objs.size) { s1 with heap := s1.heap.push { cls := .type ty, data := .fields #[.str y t, .int 0 0] } } := fun ty hty => by
    refine ⟨s1.heap.objs.size, [s1.heap.objs.size], _, _, H1, rfl, I1.kept (t' := s1.toks) fun b o e => Heap.get?_push_of_some _ e, UU _ y ty t hty, ⟨Nat.zero_le _, _, Heap.get?_push_size _ rfl, rfl, rfl⟩, fun b hb => ?_, q⟩
    have e : b = s1.heap.objs.size := by simpa using hb
    subst e
    exact I1.fpOk (Nat.le_refl _) (I1.hok.fresh (Nat.le_refl _))
  cases ha : y.cps.all (· < 128)
  · exact wpAny_pyIter_wide ha (fin _ (.inr rfl))
  · exact wpAny_pyIter_ascii ha (fin _ (.inl rfl))
end
noncomputable def G6 (h : MH) : W → Option (List W × Option Src)
  | .tup ws => some (ws, none)
  | .lst ws => some (ws, none)
  | .frz ws => some (ws, none)
  | .str x => some (XG x, none)
  | .ref n => match h[n]? with | some (.lst ws) => some (ws, some (.l n)) | _ => none
  | _ => none
noncomputable def QZ (m : ME) : MI := fun σ h => (m σ h).bind fun p => (G6 p.2 p.1).map fun q => (q.1, q.2, p.2)
section
variable {K : PySem.W.Frag} {R : Rn}
theorem Xy {a : Addr} {xs : List V} {ws : List W} (hq : SqL K R.F a xs) (r : Rws K R ws xs) : ItOk K R (Itl K a) ws none where
  go := fun i w R' h H x rh _ e => by
    obtain ⟨v, h1, _⟩ := r.get e
    exact ⟨xs, v, QS (fun b o z => rh.sub b o (x.f b o z)) hq, h1⟩
  yld := fun i w R' h H x H' e rh _ ew hy => by
    obtain ⟨rfl, hx⟩ := hy
    obtain ⟨v, h1, h2⟩ := r.get ew
    have := hx xs (QS (fun b o z => rh.sub b o (e.f b o z)) hq)
    rw [h1] at this; cases this
    exact ⟨R', Ext.refl _, rh, Rw.mono e _ _ h2⟩
  stop := fun i R' h H x rh _ hl => ⟨xs, QS (fun b o z => rh.sub b o (x.f b o z)) hq, by rw [← r.length]; exact hl⟩
theorem Gn {a : Addr} {xs : List V} {ws : List W} (hq : SqT K R.F a xs) (r : Rws K R ws xs) : ItOk K R (Itt K a) ws none where
  go := fun i w R' h H x rh _ e => by
    obtain ⟨v, h1, _⟩ := r.get e
    exact ⟨xs, v, Zz (fun b o z => rh.sub b o (x.f b o z)) hq, h1⟩
  yld := fun i w R' h H x H' e rh _ ew hy => by
    obtain ⟨rfl, hx⟩ := hy
    obtain ⟨v, h1, h2⟩ := r.get ew
    have := hx xs (Zz (fun b o z => rh.sub b o (e.f b o z)) hq)
    rw [h1] at this; cases this
    exact ⟨R', Ext.refl _, rh, Rw.mono e _ _ h2⟩
  stop := fun i R' h H x rh _ hl => ⟨xs, Zz (fun b o z => rh.sub b o (x.f b o z)) hq, by rw [← r.length]; exact hl⟩
theorem Ul {n : Nat} {ws : List W} (hn : n < R.N) : ItOk K R (Itl K (R.ρ n)) ws (some (.l n)) where
  go := fun i w R' h H x rh hl e => by
    obtain ⟨xs, h1, h2⟩ := rh.obj n _ (hl (.l n) rfl)
    obtain ⟨v, h3, _⟩ := h2.get e
    rw [x.ρ n hn] at h1
    exact ⟨xs, v, SqL.of h1, h3⟩
  yld := fun i w R' h H x H' e rh hl ew hy => by
    obtain ⟨rfl, hx⟩ := hy
    obtain ⟨xs, h1, h2⟩ := rh.obj n _ (hl (.l n) rfl)
    obtain ⟨v, h3, h4⟩ := h2.get ew
    rw [e.ρ n hn] at h1
    have := hx xs (SqL.of h1)
    rw [h3] at this; cases this
    exact ⟨R', Ext.refl _, rh, h4⟩
  stop := fun i R' h H x rh hl hle => by
    obtain ⟨xs, h1, h2⟩ := rh.obj n _ (hl (.l n) rfl)
    rw [x.ρ n hn] at h1
    exact ⟨xs, SqL.of h1, by rw [← h2.length]; exact hle⟩
theorem Ga {x : Str} : ItOk K R (Its x) (XG x) none where
  go := fun i w R' h H _ _ _ e => by
    have := (List.getElem?_eq_some_iff.mp e).1
    show i < x.cps.size
    simpa [XG] using this
  yld := fun i w R' h H v H' e rh _ ew hy => by
    obtain ⟨rfl, c, hc, rfl⟩ := hy
    unfold XG at ew
    rw [List.getElem?_map, Array.getElem?_toList, hc] at ew
    cases ew
    exact ⟨R', Ext.refl _, rh, Rw.str _⟩
  stop := fun i R' h H _ _ _ hl => by
    show x.cps.size ≤ i
    simpa [XG] using hl
theorem Ye {lo : Int} {n : Nat} : ItOk K R (Itr lo n) ((List.range n).map fun (i : Nat) => W.int (lo + (i : Int))) none where
  go := fun i w R' h H _ _ _ e => by
    have := (List.getElem?_eq_some_iff.mp e).1
    show i < n
    simpa using this
  yld := fun i w R' h H v H' e rh _ ew hy => by
    obtain ⟨rfl, rfl⟩ := hy
    rw [List.getElem?_map] at ew
    obtain ⟨j, hj, e2⟩ := Option.map_eq_some_iff.mp ew
    rw [List.getElem?_range (by have := (List.getElem?_eq_some_iff.mp hj).1; simpa using this)] at hj
    cases hj
    cases e2
    exact ⟨R', Ext.refl _, rh, Rw.int _⟩
  stop := fun i R' h H _ _ _ hl => by
    show n ≤ i
    simpa using hl
end
section
variable {X : Cx} {tg a b c : Expr} {ma : ME} {ms : MA} {pos p : Pos}
theorem Z7 (ha : PM X a ma) : PMI X tg a (QZ ma) := by
  intro pins s σ H C I q
  obtain ⟨R, σi, h, items, src, h', rh, st, e, k⟩ := q
  obtain ⟨⟨w, h1⟩, e1, e2⟩ := Option.bind_eq_some_iff.mp e
  obtain ⟨⟨its, sr⟩, e3, e4⟩ := Option.map_eq_some_iff.mp e2
  cases e4
  refine thn (ha pins s σ H _ I ⟨R, σi, h, w, h1, rh, st, e1, fun R1 H1 v x1 rh1 rv => ?_⟩) fun v s1 ⟨x, H1, I1, r1, q1⟩ => ((it_list.or Qb7).or QbC) pins s1 σ H1 x v C I1 r1 q1
  cases w with
  | tup ws =>
    cases e3
    obtain ⟨ad, xs, rfl, h2, h3⟩ := rh1.tupAt rv
    unfold Rw at rv
    obtain ⟨ad', xs', e5, e6, e7⟩ := rv
    cases e5
    exact .inl (.inr ⟨_, rfl, ⟨xs, h2⟩, k R1 H1 _ x1 rh1 (Gn e6 e7)⟩)
  | lst ws =>
    cases e3
    unfold Rw at rv
    obtain ⟨ad', xs', rfl, e6, e7⟩ := rv
    exact .inl (.inl ⟨_, rfl, ⟨xs', SqL.of (rh1.sub _ _ e6)⟩, k R1 H1 _ x1 rh1 (Xy (SqL.of e6) e7)⟩)
  | frz ws =>
    cases e3
    unfold Rw at rv
    obtain ⟨ad', xs', rfl, e6, e7⟩ := rv
    exact .inl (.inl ⟨_, rfl, ⟨xs', QS rh1.sub e6⟩, k R1 H1 _ x1 rh1 (Xy e6 e7)⟩)
  | str y =>
    cases e3
    rw [rv.str_eq]
    exact .inr ⟨y, rfl, k R1 H1 _ x1 rh1 Ga⟩
  | ref n =>
    simp only [G6] at e3
    split at e3
    · rename_i ws hn
      cases e3
      obtain ⟨hlt, rfl, xs, h2, h3⟩ := rh1.refAt rv hn
      exact .inl (.inl ⟨_, rfl, ⟨xs, SqL.of h2⟩, k R1 H1 _ x1 rh1 (Ul hlt)⟩)
    · cases e3
  | _ => cases e3
noncomputable def Q2 (lo : Int) (n : Nat) : List W := (List.range n).map fun (i : Nat) => W.int (lo + (i : Int))
noncomputable def Yd (ms : MA) : MI := fun σ h => (ms σ h).bind fun p => match p.1 with
  | [.int j] => if -(2 ^ 62) ≤ j ∧ j < 2 ^ 62 then some (Q2 0 j.toNat, none, p.2) else none
  | _ => none
theorem Ud (hg : Gl X "range") (hm : X.mg "range" = none) (ha : PMA X [a] ms) (hs : starEach [a] X.env = [(false, eval a X.env)] := by rfl) : PMI X tg (.Call (.Name "range" p) [a] [] pos) (Yd ms) :=
  GE (WL hg hm ha hs) fun σ H C ⟨R, σi, h, items, src, h', rh, st, e, k⟩ => by
    obtain ⟨⟨ws, h1⟩, e1, e2⟩ := Option.bind_eq_some_iff.mp e
    refine ⟨R, σi, h, ws, h1, rh, st, e1, fun R1 H1 vs x1 rh1 rv => ?_⟩
    split at e2
    · rename_i j hj
      simp only at hj
      subst hj
      split at e2
      · rename_i hb
        cases e2
        rw [Rws.cons_iff] at rv
        obtain ⟨v, vs', rfl, r1, r2⟩ := rv
        rw [Rws.nil_iff] at r2
        subst r2
        rw [r1.int_eq]
        exact ⟨j, rfl, hb.1, hb.2, k R1 H1 _ x1 rh1 Ye⟩
      · cases e2
    · cases e2
end
noncomputable def GC (cp : List (Option Nat)) (σ : MSt) : MSt := cp.map fun o => match o with | none => none | some j => match σ[j]? with | some v => v | none => none
theorem Rst.cap {K : PySem.W.Frag} {R : Rn} {σi : MSt} {σ : L2.St} (s : Rst K R σi σ) (cp : List (Option Nat)) : Rst K R (GC cp σi) (Xp cp σ) := by
  unfold GC Xp
  refine ⟨by simp, fun i w e => ?_⟩
  rw [List.getElem?_map] at e ⊢
  obtain ⟨o, h1, h2⟩ := Option.map_eq_some_iff.mp e
  rw [h1]
  cases o with
  | none => cases h2
  | some j =>
    simp only at h2
    split at h2
    · rename_i u hu
      subst h2
      obtain ⟨v, h3, h4⟩ := s.2 j w hu
      exact ⟨v, by simp [h3], h4⟩
    · cases h2
open Classical in
noncomputable def ZC (fin : List W → MH → Option (W × MH)) (items : List W) (src : Option Src) (b : MG) (mt : MT) (me : ME) : List W → List W → MSt → MH → Option (W × MH)
  | [], acc, _, h => if live src items h then fin acc h else none
  | w :: r, acc, τ, h => if live src items h then (b w τ h).bind fun τ1 => (mt τ1 h).bind fun q => match q.1 with
      | true => (me τ1 q.2).bind fun v => if acc.length < sizeLine then ZC fin items src b mt me r (acc ++ [v.1]) τ1 v.2 else none
      | false => ZC fin items src b mt me r acc τ1 q.2
    else none
noncomputable def Zf (fin : List W → MH → Option (W × MH)) (mi : MI) (cp : List (Option Nat)) (b : MG) (mt : MT) (me : ME) : ME := fun σ h => (mi σ h).bind fun p => ZC fin p.1 p.2.1 b mt me p.1 [] (GC cp σ) p.2.2
noncomputable def W0 : MT := fun _ h => some (true, h)
noncomputable def V1 (acc : List W) (h : MH) : Option (W × MH) := some (.lst acc, h)
noncomputable def Yl (K : PySem.W.Frag) (fin : List W → MH → Option (W × MH)) : Prop := ∀ R h H acc accV w h' D, Rh K R h H → Rws K R acc accV → fin acc h = some (w, h') → H D = none → ∃ R', Ext R R' ∧ Rh K R' h' (upd H D (.lst accV)) ∧ Rw K R' w (.ref D)
theorem JP {K : PySem.W.Frag} : Yl K V1 := fun R h H acc accV w h' D rh r e hD => by
  cases e
  exact rh.lstI hD r
section
variable {X : Cx} {elt tg iter c : Expr} {scope : Scope} {pos : Pos} {cl : List (Str × Addr)} {Nb : List Str} {cp : List (Option Nat)} {mi : MI} {b : MG} {mt : MT} {me : ME} {fin : List W → MH → Option (W × MH)}
theorem VL {K : PySem.W.Frag} (hf : Yl K fin) {σ : L2.St} {H : Hp} {Q : VK} (q : tI K (Zf fin mi cp b mt me) σ H Q) : Gh (tII K mi) cp (tIG K b) (tIT K mt) (tI K me) σ H Q := by
  obtain ⟨R, σi, h, w, h', rh, s, e, k⟩ := q
  obtain ⟨⟨items, src, h1⟩, e1, e2⟩ := Option.bind_eq_some_iff.mp e
  refine ⟨R, σi, h, items, src, h1, rh, s, e1, fun R1 H1 J x1 rh1 it => ?_⟩
  refine ⟨fun i n acc τ H => i + n = items.length ∧ ∃ R2 σ2 h2 accW, Ext R1 R2 ∧ Rh K R2 h2 H ∧ Rst K R2 σ2 τ ∧ Rws K R2 accW acc ∧ ZC fin items src b mt me (items.drop i) accW σ2 h2 = some (w, h') ∧ After K R2 w h' Q, ⟨items.length, by simp, R1, GC cp σi, h1, [], Ext.refl _, rh1, (s.mono x1).cap cp, Rws.nil, by simpa using e2, k.ext x1⟩, ?_⟩
  rintro i n acc τ H2 ⟨hin, R2, σ2, h2, accW, x2, rh2, s2, ra, e3, k2⟩
  by_cases hi : i < items.length
  · obtain ⟨y, hy⟩ : ∃ y, items[i]? = some y := ⟨items[i], List.getElem?_eq_getElem hi⟩
    have hd : items.drop i = y :: items.drop (i + 1) := by
      rw [List.drop_eq_getElem_cons hi]
      rw [List.getElem?_eq_getElem hi] at hy
      cases hy; rfl
    rw [hd] at e3
    unfold ZC at e3
    split at e3
    · rename_i hl
      obtain ⟨σ3, e4, e5⟩ := Option.bind_eq_some_iff.mp e3
      obtain ⟨⟨t, h3⟩, e6, e7⟩ := Option.bind_eq_some_iff.mp e5
      refine .inr ⟨it.go i y R2 h2 H2 x2 rh2 hl hy, fun x H' hyl => ?_⟩
      obtain ⟨R3, x3, rh3, rw3⟩ := it.yld i y R2 h2 H2 x H' x2 rh2 hl hy hyl
      refine ⟨R3, σ2, h2, y, σ3, rh3, s2.mono x3, rw3, e4, fun R4 H4 τ4 x4 rh4 s4 => ?_⟩
      refine ⟨R4, σ3, h2, t, h3, rh4, s4, e6, fun R5 H5 x5 rh5 => ?_⟩
      cases t with
      | true =>
        obtain ⟨⟨v, h4⟩, e8, e9⟩ := Option.bind_eq_some_iff.mp e7
        dsimp only at e9
        split at e9
        · rename_i hz
          refine Qc5 ⟨R5, σ3, h3, v, h4, rh5, s4.mono x5, e8, fun R6 H6 u x6 rh6 rv => ⟨by rw [← ra.length]; exact hz, n - 1, by omega, by omega, R6, σ3, h4, accW ++ [v], x2.trans (x3.trans (x4.trans (x5.trans x6))), rh6, s4.mono (x5.trans x6), ?_, e9, k2.ext (x3.trans (x4.trans (x5.trans x6)))⟩⟩
          exact Rws.append (Rws.mono (x3.trans (x4.trans (x5.trans x6))) _ _ ra) (Rws.cons rv Rws.nil)
        · cases e9
      | false =>
        exact Qc8 ⟨n - 1, by omega, by omega, R5, σ3, h3, accW, x2.trans (x3.trans (x4.trans x5)), rh5, s4.mono x5, Rws.mono (x3.trans (x4.trans x5)) _ _ ra, e7, k2.ext (x3.trans (x4.trans x5))⟩
    · cases e3
  · have hd : items.drop i = [] := List.drop_eq_nil_of_le (by omega)
    rw [hd] at e3
    unfold ZC at e3
    split at e3
    · rename_i hl
      refine .inl ⟨it.stop i R2 h2 H2 x2 rh2 hl (by omega), fun D hD => ?_⟩
      obtain ⟨R3, x3, rh3, rw3⟩ := hf R2 h2 H2 accW acc w h' D rh2 ra e3 hD
      exact k2 R3 _ _ x3 rh3 rw3
    · cases e3
theorem UF (hf : Yl X.K fin) (hc : X.calm = true) (B : BlkOk X scope cl Nb cp) (hi : PMI X tg iter mi) (hg : ∀ s₀ H₀ C ex pn, PMG (Mi.blk X scope cl Nb s₀ H₀ C ex pn) tg b)
    (he : ∀ s₀ H₀ C ex pn, PM (Mi.blk X scope cl Nb s₀ H₀ C ex pn) elt me) (hs : ∀ x, foldedSetIterable iter X.env x = pure x := by intro _; rfl) :
    PM X (.ListComp elt [⟨tg, iter, [], 0⟩] scope pos) (Zf fin mi cp b W0 me) :=
  QO (Wl (g := tIG X.K b) (te := tI X.K me) (tt := tIT X.K W0) hc B hi hg (fun s₀ H₀ C ex pn pins s τ H Q I q => wpAny_tests_nil (by
    obtain ⟨R, σi, h, t, h', rh, st, e, k⟩ := q
    cases e
    exact ⟨H, I, k R H (Ext.refl _) rh⟩)) he hs) fun _ _ _ q => VL hf q
theorem KY (hf : Yl X.K fin) (hc : X.calm = true) (B : BlkOk X scope cl Nb cp) (hi : PMI X tg iter mi) (hg : ∀ s₀ H₀ C ex pn, PMG (Mi.blk X scope cl Nb s₀ H₀ C ex pn) tg b)
    (ht : ∀ s₀ H₀ C ex pn, PMT (Mi.blk X scope cl Nb s₀ H₀ C ex pn) c mt)
    (he : ∀ s₀ H₀ C ex pn, PM (Mi.blk X scope cl Nb s₀ H₀ C ex pn) elt me) (hs : ∀ x, foldedSetIterable iter X.env x = pure x := by intro _; rfl) :
    PM X (.ListComp elt [⟨tg, iter, [c], 0⟩] scope pos) (Zf fin mi cp b mt me) :=
  QO (Wl (g := tIG X.K b) (te := tI X.K me) (tt := tIT X.K mt) hc B hi hg (fun s₀ H₀ C ex pn pins s τ H Q I q => wpAny_tests_one (ht s₀ H₀ C ex pn pins s τ H Q I q)) he hs) fun _ _ _ q => VL hf q
end
end Mi

namespace Mi
open PySem PySem.Spec PyProof.Rows L2 PySem.SeqAt

mutual
noncomputable def eqW : W → W → Bool
  | .non, .non => true
  | .bl a, .bl b => a == b
  | .bl a, .int b => (if a then 1 else 0) == b
  | .int a, .bl b => a == (if b then 1 else 0)
  | .int a, .int b => a == b
  | .str a, .str b => a == b
  | .tup a, .tup b => Vi a b
  | .lst a, .lst b => Vi a b
  | _, _ => false
noncomputable def Vi : List W → List W → Bool
  | [], [] => true
  | x :: xs, y :: ys => eqW x y && Vi xs ys
  | _, _ => false
end
noncomputable def Q6 {α β : Type} (f : α → Option β) : List α → Option (List β)
  | [] => some []
  | x :: xs => (f x).bind fun y => (Q6 f xs).map (y :: ·)
noncomputable def drf (h : MH) : Nat → W → Option W
  | 0, _ => none
  | n + 1, w => match w with
    | .tup ws => (Q6 (drf h n) ws).map .tup
    | .lst ws => (Q6 (drf h n) ws).map .lst
    | .frz ws => (Q6 (drf h n) ws).map .lst
    | .ref k => match h[k]? with | some (.lst ws) => (Q6 (drf h n) ws).map .lst | _ => none
    | .ty _ => none
    | .non => some .non
    | .bl b => some (.bl b)
    | .int i => some (.int i)
    | .str x => some (.str x)
theorem Qr {α β : Type} {f : α → Option β} : ∀ {xs : List α} {ys : List β}, Q6 f xs = some ys → xs.length = ys.length ∧ ∀ (i : Nat) x, xs[i]? = some x → ∃ y, ys[i]? = some y ∧ f x = some y
  | [], ys, e => by cases e; exact ⟨rfl, fun i x h => by simp at h⟩
  | x :: xs, ys, e => by
    obtain ⟨y, h1, h2⟩ := Option.bind_eq_some_iff.mp e
    obtain ⟨zs, h3, h4⟩ := Option.map_eq_some_iff.mp h2
    subst h4
    obtain ⟨l, q⟩ := Qr h3
    refine ⟨by simp [l], fun i z hz => ?_⟩
    cases i with
    | zero => simp at hz; subst hz; exact ⟨y, by simp, h1⟩
    | succ i => simp at hz; obtain ⟨u, h5, h6⟩ := q i z hz; exact ⟨u, by simp [h5], h6⟩
theorem Jt : ∀ {a b : List W}, a.length ≠ b.length → Vi a b = false
  | [], [], h => absurd rfl h
  | [], _ :: _, _ => by unfold Vi; rfl
  | _ :: _, [], _ => by unfold Vi; rfl
  | x :: xs, y :: ys, h => by
    unfold Vi
    rw [Jt (a := xs) (b := ys) (fun z => h (by simp [z])), Bool.and_false]
theorem Jp : ∀ {a b : List W}, a.length = b.length → Vi a b = (List.range a.length).all fun j => match a[j]?, b[j]? with | some x, some y => eqW x y | _, _ => false
  | [], [], _ => by unfold Vi; rfl
  | x :: xs, y :: ys, h => by
    have ih := Jp (a := xs) (b := ys) (by simpa using h)
    unfold Vi
    rw [ih, List.length_cons, List.range_succ_eq_map, List.all_cons, List.all_map]
    simp [Function.comp_def]
inductive Kd (K : PySem.W.Frag) (R : Rn) (h : MH) (H : Hp) (n : Nat) (v : V) : W → Prop where
  | flat {a : W} (f : Qbu v = true) (e : (v = .non ∧ a = .non) ∨ (∃ b, v = .bl b ∧ a = .bl b) ∨ (∃ i, v = .int i ∧ a = .int i) ∨ ∃ x, v = .str x ∧ a = .str x) : Kd K R h H n v a
  | lst {ad : Addr} {xs : List V} {ws as : List W} (e : v = .ref ad) (q : SqL K H ad xs) (r : Rws K R ws xs) (m : Q6 (drf h n) ws = some as) : Kd K R h H n v (.lst as)
  | tup {ad : Addr} {xs : List V} {ws as : List W} (e : v = .ref ad) (q : SqT K H ad xs) (r : Rws K R ws xs) (m : Q6 (drf h n) ws = some as) : Kd K R h H n v (.tup as)
theorem ZZ {K : PySem.W.Frag} {R : Rn} {h : MH} {H : Hp} {n : Nat} {w a : W} {v : V} (rh : Rh K R h H) (r : Rw K R w v) (e : drf h (n + 1) w = some a) : Kd K R h H n v a := by
  cases w with
  | non => rw [r.non_eq]; cases e; exact .flat rfl (.inl ⟨rfl, rfl⟩)
  | bl b => rw [r.bl_eq]; cases e; exact .flat rfl (.inr (.inl ⟨b, rfl, rfl⟩))
  | int i => rw [r.int_eq]; cases e; exact .flat rfl (.inr (.inr (.inl ⟨i, rfl, rfl⟩)))
  | str x => rw [r.str_eq]; cases e; exact .flat rfl (.inr (.inr (.inr ⟨x, rfl, rfl⟩)))
  | tup ws =>
    obtain ⟨ad, xs, e1, q, r1⟩ := rh.tupAt r
    obtain ⟨as, m, e2⟩ := Option.map_eq_some_iff.mp e
    subst e2
    exact .tup e1 q r1 m
  | lst ws =>
    obtain ⟨ad, xs, e1, q, r1⟩ := rh.lstAt r
    obtain ⟨as, m, e2⟩ := Option.map_eq_some_iff.mp e
    subst e2
    exact .lst e1 (SqL.of q) r1 m
  | frz ws =>
    obtain ⟨ad, xs, e1, q, r1⟩ := rh.frzAt r
    obtain ⟨as, m, e2⟩ := Option.map_eq_some_iff.mp e
    subst e2
    exact .lst e1 q r1 m
  | ref k =>
    simp only [drf] at e
    split at e
    · rename_i ws hk
      obtain ⟨as, m, e2⟩ := Option.map_eq_some_iff.mp e
      subst e2
      obtain ⟨_, e1, xs, q, r1⟩ := rh.refAt r hk
      exact .lst e1 (SqL.of q) r1 m
    · cases e
  | ty _ => cases e
section
variable {X : Cx} {pins : List (Addr × Obj)} {σ : L2.St} {H : Hp} {s : Shared} {R : Rn} {h : MH}
theorem JV {K : PySem.W.Frag} {n : Nat} (ih : ∀ w1 w2 v a b, Rw K R w1 v → Rw K R w2 v → drf h n w1 = some a → drf h n w2 = some b → a = b) :
    ∀ {ws1 ws2 : List W} {xs : List V} {a b : List W}, Rws K R ws1 xs → Rws K R ws2 xs → Q6 (drf h n) ws1 = some a → Q6 (drf h n) ws2 = some b → a = b
  | [], ws2, xs, a, b, r1, r2, m1, m2 => by
    rw [Rws.nil_iff] at r1; subst r1
    cases ws2 with
    | nil => cases m1; cases m2; rfl
    | cons w ws => rw [Rws.cons_iff] at r2; obtain ⟨_, _, z, _⟩ := r2; cases z
  | w :: ws1, ws2, xs, a, b, r1, r2, m1, m2 => by
    rw [Rws.cons_iff] at r1
    obtain ⟨v, xs', rfl, p1, p2⟩ := r1
    cases ws2 with
    | nil => rw [Rws.nil_iff] at r2; cases r2
    | cons w' ws2 =>
      rw [Rws.cons_iff] at r2
      obtain ⟨_, _, z, q1, q2⟩ := r2
      cases z
      obtain ⟨y, h1, h2⟩ := Option.bind_eq_some_iff.mp m1
      obtain ⟨zs, h3, h4⟩ := Option.map_eq_some_iff.mp h2
      obtain ⟨y', h1', h2'⟩ := Option.bind_eq_some_iff.mp m2
      obtain ⟨zs', h3', h4'⟩ := Option.map_eq_some_iff.mp h2'
      subst h4 h4'
      rw [ih w w' v y y' p1 q1 h1 h1', JV ih p2 q2 h3 h3']
theorem JF (I : Inv X pins σ H s) {a : Addr} {xs ys : List V} (q : SqL X.K H a xs) (q' : SqT X.K H a ys) : False := by
  obtain ⟨its, _, p, _⟩ := I.list q
  obtain ⟨its', _, p', _⟩ := I.tuple q'
  obtain ⟨o, n, h1, h2, _⟩ := p
  obtain ⟨o', h1', h2', _⟩ := p'
  rw [h1] at h1'; cases h1'
  rw [h2] at h2'
  exact absurd h2' (by simp)
theorem JJ (I : Inv X pins σ H s) (rh : Rh X.K R h H) : ∀ (n : Nat) (w1 w2 : W) (v : V) (a b : W), Rw X.K R w1 v → Rw X.K R w2 v → drf h n w1 = some a → drf h n w2 = some b → a = b
  | 0, _, _, _, _, _, _, _, e, _ => by cases e
  | n + 1, w1, w2, v, a, b, r1, r2, e1, e2 => by
    have ih := JJ I rh n
    cases ZZ rh r1 e1 with
    | flat f z =>
      cases ZZ rh r2 e2 with
      | flat f' z' =>
        rcases z with ⟨rfl, rfl⟩ | ⟨_, rfl, rfl⟩ | ⟨_, rfl, rfl⟩ | ⟨_, rfl, rfl⟩ <;> rcases z' with ⟨z1, rfl⟩ | ⟨_, z1, rfl⟩ | ⟨_, z1, rfl⟩ | ⟨_, z1, rfl⟩ <;> cases z1 <;> rfl
      | lst e => subst e; cases f
      | tup e => subst e; cases f
    | lst e q r m =>
      subst e
      cases ZZ rh r2 e2 with
      | flat f => cases f
      | lst e' q' r' m' => cases e'; have := I.list_inj q q'; subst this; rw [JV ih r r' m m']
      | tup e' q' => cases e'; exact (JF I q q').elim
    | tup e q r m =>
      subst e
      cases ZZ rh r2 e2 with
      | flat f => cases f
      | lst e' q' => cases e'; exact (JF I q' q).elim
      | tup e' q' r' m' => cases e'; have := I.tuple_inj q q'; subst this; rw [JV ih r r' m m']
mutual
theorem VG : ∀ (n : Nat) (w a : W), drf h n w = some a → eqW a a = true
  | 0, _, _, e => by cases e
  | n + 1, w, a, e => by
    cases w with
    | non => cases e; unfold eqW; rfl
    | bl b => cases e; unfold eqW; simp
    | int i => cases e; unfold eqW; simp
    | str x => cases e; unfold eqW; simp
    | tup ws => obtain ⟨as, m, e2⟩ := Option.map_eq_some_iff.mp e; subst e2; unfold eqW; exact ZK n ws as m
    | lst ws => obtain ⟨as, m, e2⟩ := Option.map_eq_some_iff.mp e; subst e2; unfold eqW; exact ZK n ws as m
    | frz ws => obtain ⟨as, m, e2⟩ := Option.map_eq_some_iff.mp e; subst e2; unfold eqW; exact ZK n ws as m
    | ref k =>
      simp only [drf] at e
      split at e
      · rename_i ws hk
        obtain ⟨as, m, e2⟩ := Option.map_eq_some_iff.mp e; subst e2; unfold eqW; exact ZK n ws as m
      · cases e
    | ty _ => cases e
theorem ZK : ∀ (n : Nat) (ws as : List W), Q6 (drf h n) ws = some as → Vi as as = true
  | n, [], _, m => by cases m; unfold Vi; rfl
  | n, w :: ws, _, m => by
    obtain ⟨y, h1, h2⟩ := Option.bind_eq_some_iff.mp m
    obtain ⟨zs, h3, h4⟩ := Option.map_eq_some_iff.mp h2
    subst h4
    unfold Vi
    rw [VG n w y h1, ZK n ws zs h3]; rfl
end
theorem ZX {n : Nat} {A : Around} (ih : ∀ w1 w2 v1 v2 u1 u2 a b, Rw X.K R w1 v1 → Rw X.K R w2 v2 → RelV v1 u1 → RelV v2 u2 → drf h n w1 = some a → drf h n w2 = some b → EqAt A s u1 u2 (eqW a b))
    {ws1 ws2 as bs : List W} {xs ys : List V} {its its2 : List Value} (r1 : Rws X.K R ws1 xs) (r2 : Rws X.K R ws2 ys) (v1 : Vals xs its) (v2 : Vals ys its2) (m1 : Q6 (drf h n) ws1 = some as) (m2 : Q6 (drf h n) ws2 = some bs)
    (j : Nat) (h1 : j < its.toArray.size) (h2 : j < its2.toArray.size) : EqAt A s its.toArray[j] its2.toArray[j] (match as[j]?, bs[j]? with | some x, some y => eqW x y | _, _ => false) := by
  have l1 := r1.length; have l2 := v1.length; have l3 := r2.length; have l4 := v2.length
  rw [List.size_toArray] at h1 h2
  obtain ⟨w1, hw1⟩ : ∃ w, ws1[j]? = some w := ⟨ws1[j]'(by omega), List.getElem?_eq_getElem _⟩
  obtain ⟨w2, hw2⟩ : ∃ w, ws2[j]? = some w := ⟨ws2[j]'(by omega), List.getElem?_eq_getElem _⟩
  obtain ⟨x, hx, rx⟩ := r1.get hw1
  obtain ⟨y, hy, ry⟩ := r2.get hw2
  obtain ⟨u, hu, ru⟩ := v1.get hx
  obtain ⟨t, ht, rt⟩ := v2.get hy
  obtain ⟨a, ha, ea⟩ := (Qr m1).2 j w1 hw1
  obtain ⟨b, hb, eb⟩ := (Qr m2).2 j w2 hw2
  rw [ha, hb]
  have e1 : its.toArray[j] = u := by
    have := hu; rw [List.getElem?_eq_getElem h1] at this; simpa using this
  have e2 : its2.toArray[j] = t := by
    have := ht; rw [List.getElem?_eq_getElem h2] at this; simpa using this
  rw [e1, e2]
  exact ih w1 w2 x y u t a b rx ry ru rt ea eb
theorem Kw (I : Inv X pins σ H s) {n : Nat} {A : Around} (hu : A.units < cLine) (ih : ∀ w1 w2 v1 v2 u1 u2 a b, Rw X.K R w1 v1 → Rw X.K R w2 v2 → RelV v1 u1 → RelV v2 u2 → drf h n w1 = some a → drf h n w2 = some b → EqAt A.in1 s u1 u2 (eqW a b))
    {ad bd : Addr} {ws1 ws2 as bs : List W} {xs ys : List V} (q1 : SqL X.K H ad xs) (q2 : SqL X.K H bd ys) (r1 : Rws X.K R ws1 xs) (r2 : Rws X.K R ws2 ys) (m1 : Q6 (drf h n) ws1 = some as) (m2 : Q6 (drf h n) ws2 = some bs) : RcAt A s (.ref ad) (.ref bd) (Vi as bs) := by
  obtain ⟨its, v1, p1, _⟩ := I.list q1
  obtain ⟨its2, v2, p2, _⟩ := I.list q2
  have l1 := r1.length; have l2 := v1.length; have l3 := r2.length; have l4 := v2.length
  have l5 := (Qr m1).1; have l6 := (Qr m2).1
  by_cases hl : as.length = bs.length
  · rw [Jp hl]
    have := RcAt.lists (A := A) p1.isList p2.isList (by rw [List.size_toArray, List.size_toArray]; omega) hu (fun j h1 h2 => ZX ih r1 r2 v1 v2 m1 m2 j h1 h2)
    rw [List.size_toArray] at this
    rw [show as.length = its.length by omega]
    exact this
  · rw [Jt hl]
    exact RcAt.lists_lengths p1.isList p2.isList (by rw [List.size_toArray, List.size_toArray]; simp; omega) hu
theorem Y8 (I : Inv X pins σ H s) {n : Nat} {A : Around} (hu : A.units < cLine) (ih : ∀ w1 w2 v1 v2 u1 u2 a b, Rw X.K R w1 v1 → Rw X.K R w2 v2 → RelV v1 u1 → RelV v2 u2 → drf h n w1 = some a → drf h n w2 = some b → EqAt A.in1 s u1 u2 (eqW a b))
    {ad bd : Addr} {ws1 ws2 as bs : List W} {xs ys : List V} (q1 : SqT X.K H ad xs) (q2 : SqT X.K H bd ys) (r1 : Rws X.K R ws1 xs) (r2 : Rws X.K R ws2 ys) (m1 : Q6 (drf h n) ws1 = some as) (m2 : Q6 (drf h n) ws2 = some bs) : RcAt A s (.ref ad) (.ref bd) (Vi as bs) := by
  obtain ⟨its, v1, p1, _⟩ := I.tuple q1
  obtain ⟨its2, v2, p2, _⟩ := I.tuple q2
  have l1 := r1.length; have l2 := v1.length; have l3 := r2.length; have l4 := v2.length
  have l5 := (Qr m1).1; have l6 := (Qr m2).1
  have := RcAt.tuples (A := A) (show s.heap.IsTuple ad its.toArray from p1) (show s.heap.IsTuple bd its2.toArray from p2) hu (fun j h1 h2 => ZX ih r1 r2 v1 v2 m1 m2 j h1 h2)
  rw [List.size_toArray, List.size_toArray] at this
  by_cases hl : as.length = bs.length
  · rw [Jp hl]
    rw [show min its.length its2.length = as.length by omega, show (its.length == its2.length) = true by simp; omega, Bool.and_true] at this
    exact this
  · rw [Jt hl]
    rw [show (its.length == its2.length) = false by simp; omega, Bool.and_false] at this
    exact this
theorem Kl (I : Inv X pins σ H s) (rh : Rh X.K R h H) : ∀ (n : Nat) (A : Around), A.units + n < cLine → ∀ (w1 w2 : W) (v1 v2 : V) (u1 u2 : Value) (a b : W), Rw X.K R w1 v1 → Rw X.K R w2 v2 → RelV v1 u1 → RelV v2 u2 → drf h n w1 = some a → drf h n w2 = some b → EqAt A s u1 u2 (eqW a b)
  | 0, _, _, _, _, _, _, _, _, _, _, _, _, _, _, e, _ => by cases e
  | n + 1, A, hu, w1, w2, v1, v2, u1, u2, a, b, r1, r2, t1, t2, e1, e2 => by
    have hu0 : A.units < cLine := by omega
    have ih := Kl I rh n A.in1 (by show A.units + 1 + n < cLine; omega)
    have isl : ∀ {ad : Addr} {xs : List V}, SqL X.K H ad xs → ∃ its : Array Value, s.heap.IsList ad its := fun q => by
      obtain ⟨its, _, p, _⟩ := I.list q; exact ⟨_, p.isList⟩
    have ist : ∀ {ad : Addr} {xs : List V}, SqT X.K H ad xs → ∃ its : Array Value, s.heap.IsTuple ad its := fun q => by
      obtain ⟨its, _, p, _⟩ := I.tuple q; exact ⟨_, p⟩
    cases ZZ rh r1 e1 with
    | flat f z =>
      cases ZZ rh r2 e2 with
      | flat f' z' =>
        have := QcS (A := A) (s := s) t1 t2 f f'
        rcases z with ⟨rfl, rfl⟩ | ⟨_, rfl, rfl⟩ | ⟨_, rfl, rfl⟩ | ⟨_, rfl, rfl⟩ <;> rcases z' with ⟨rfl, rfl⟩ | ⟨_, rfl, rfl⟩ | ⟨_, rfl, rfl⟩ | ⟨_, rfl, rfl⟩ <;> (unfold eqW; exact this)
      | lst e q =>
        subst e
        cases t2
        obtain ⟨its, p⟩ := isl q
        rcases z with ⟨rfl, rfl⟩ | ⟨_, rfl, rfl⟩ | ⟨_, rfl, rfl⟩ | ⟨_, rfl, rfl⟩
        · cases t1; unfold eqW; exact EqAt.none_list p hu0
        · cases t1; unfold eqW; exact EqAt.bool_list _ p hu0
        · obtain ⟨t, rfl⟩ := t1; unfold eqW; exact EqAt.int_list _ t p hu0
        · obtain ⟨t, rfl⟩ := t1; unfold eqW; exact EqAt.str_list _ t p hu0
      | tup e q =>
        subst e
        cases t2
        obtain ⟨its, p⟩ := ist q
        rcases z with ⟨rfl, rfl⟩ | ⟨_, rfl, rfl⟩ | ⟨_, rfl, rfl⟩ | ⟨_, rfl, rfl⟩
        · cases t1; unfold eqW; exact EqAt.none_tuple p hu0
        · cases t1; unfold eqW; exact EqAt.bool_tuple _ p hu0
        · obtain ⟨t, rfl⟩ := t1; unfold eqW; exact EqAt.int_tuple _ t p hu0
        · obtain ⟨t, rfl⟩ := t1; unfold eqW; exact EqAt.str_tuple _ t p hu0
    | @lst ad1 _ _ _ e q r m =>
      subst e
      cases t1
      obtain ⟨its, p⟩ := isl q
      have k2 := ZZ rh r2 e2
      cases k2 with
      | flat f' z' =>
        rcases z' with ⟨rfl, rfl⟩ | ⟨_, rfl, rfl⟩ | ⟨_, rfl, rfl⟩ | ⟨_, rfl, rfl⟩
        · cases t2; unfold eqW; exact EqAt.list_none p hu0
        · cases t2; unfold eqW; exact EqAt.list_bool _ p hu0
        · obtain ⟨t, rfl⟩ := t2; unfold eqW; exact EqAt.list_int _ t p hu0
        · obtain ⟨t, rfl⟩ := t2; unfold eqW; exact EqAt.list_str _ t p hu0
      | @lst ad2 _ _ _ e' q' r' m' =>
        subst e'
        cases t2
        by_cases hab : ad1 = ad2
        · subst hab
          have := JJ I rh (n + 1) w1 w2 _ _ _ r1 r2 e1 e2
          rw [this, VG (n + 1) w2 _ e2]
          exact EqAt.same _
        · unfold eqW
          exact EqAt.of_refs hab (Kw I hu0 ih q q' r r' m m')
      | tup e' q' =>
        subst e'
        cases t2
        obtain ⟨its', p'⟩ := ist q'
        unfold eqW; exact EqAt.list_tuple p p' hu0
    | @tup ad1 _ _ _ e q r m =>
      subst e
      cases t1
      obtain ⟨its, p⟩ := ist q
      have k2 := ZZ rh r2 e2
      cases k2 with
      | flat f' z' =>
        rcases z' with ⟨rfl, rfl⟩ | ⟨_, rfl, rfl⟩ | ⟨_, rfl, rfl⟩ | ⟨_, rfl, rfl⟩
        · cases t2; unfold eqW; exact EqAt.tuple_none p hu0
        · cases t2; unfold eqW; exact EqAt.tuple_bool _ p hu0
        · obtain ⟨t, rfl⟩ := t2; unfold eqW; exact EqAt.tuple_int _ t p hu0
        · obtain ⟨t, rfl⟩ := t2; unfold eqW; exact EqAt.tuple_str _ t p hu0
      | lst e' q' =>
        subst e'
        cases t2
        obtain ⟨its', p'⟩ := isl q'
        unfold eqW; exact EqAt.tuple_list p p' hu0
      | @tup ad2 _ _ _ e' q' r' m' =>
        subst e'
        cases t2
        by_cases hab : ad1 = ad2
        · subst hab
          have := JJ I rh (n + 1) w1 w2 _ _ _ r1 r2 e1 e2
          rw [this, VG (n + 1) w2 _ e2]
          exact EqAt.same _
        · unfold eqW
          exact EqAt.of_refs hab (Y8 I hu0 ih q q' r r' m m')
end
end Mi

namespace Mi
open PySem PySem.Spec PyProof.Rows L2 PySem.SeqAt
section
variable {X : Cx} {pins : List (Addr × Obj)} {σ : L2.St} {H : Hp} {s : Shared} {R : Rn} {h : MH}
theorem Yv (I : Inv X pins σ H s) {n : Nat} {A : Around} (hu : A.units < cLine) (ih : ∀ w1 w2 v1 v2 u1 u2 a b, Rw X.K R w1 v1 → Rw X.K R w2 v2 → RelV v1 u1 → RelV v2 u2 → drf h n w1 = some a → drf h n w2 = some b → EqAt A.in1 s u1 u2 (eqW a b))
    {ad bd : Addr} {ws1 ws2 as bs : List W} {xs ys : List V} (q1 : SqL X.K H ad xs) (q2 : SqL X.K H bd ys) (r1 : Rws X.K R ws1 xs) (r2 : Rws X.K R ws2 ys) (m1 : Q6 (drf h n) ws1 = some as) (m2 : Q6 (drf h n) ws2 = some bs) : RcNeAt A s (.ref ad) (.ref bd) (!Vi as bs) := by
  obtain ⟨its, v1, p1, _⟩ := I.list q1
  obtain ⟨its2, v2, p2, _⟩ := I.list q2
  have l1 := r1.length; have l2 := v1.length; have l3 := r2.length; have l4 := v2.length
  have l5 := (Qr m1).1; have l6 := (Qr m2).1
  by_cases hl : as.length = bs.length
  · rw [Jp hl]
    have := RcNeAt.lists (A := A) p1.isList p2.isList (by rw [List.size_toArray, List.size_toArray]; omega) hu (fun j h1 h2 => ZX ih r1 r2 v1 v2 m1 m2 j h1 h2)
    rw [List.size_toArray] at this
    rw [show as.length = its.length by omega]
    exact this
  · rw [Jt hl]
    exact RcNeAt.lists_lengths p1.isList p2.isList (by rw [List.size_toArray, List.size_toArray]; simp; omega) hu
theorem WE (I : Inv X pins σ H s) {n : Nat} {A : Around} (hu : A.units < cLine) (ih : ∀ w1 w2 v1 v2 u1 u2 a b, Rw X.K R w1 v1 → Rw X.K R w2 v2 → RelV v1 u1 → RelV v2 u2 → drf h n w1 = some a → drf h n w2 = some b → EqAt A.in1 s u1 u2 (eqW a b))
    {ad bd : Addr} {ws1 ws2 as bs : List W} {xs ys : List V} (q1 : SqT X.K H ad xs) (q2 : SqT X.K H bd ys) (r1 : Rws X.K R ws1 xs) (r2 : Rws X.K R ws2 ys) (m1 : Q6 (drf h n) ws1 = some as) (m2 : Q6 (drf h n) ws2 = some bs) : RcNeAt A s (.ref ad) (.ref bd) (!Vi as bs) := by
  obtain ⟨its, v1, p1, _⟩ := I.tuple q1
  obtain ⟨its2, v2, p2, _⟩ := I.tuple q2
  have l1 := r1.length; have l2 := v1.length; have l3 := r2.length; have l4 := v2.length
  have l5 := (Qr m1).1; have l6 := (Qr m2).1
  have := RcNeAt.tuples (A := A) (show s.heap.IsTuple ad its.toArray from p1) (show s.heap.IsTuple bd its2.toArray from p2) hu (fun j h1 h2 => ZX ih r1 r2 v1 v2 m1 m2 j h1 h2)
  rw [List.size_toArray, List.size_toArray] at this
  by_cases hl : as.length = bs.length
  · rw [Jp hl]
    rw [show min its.length its2.length = as.length by omega, show (its.length == its2.length) = true by simp; omega, Bool.and_true] at this
    exact this
  · rw [Jt hl]
    rw [show (its.length == its2.length) = false by simp; omega, Bool.and_false] at this
    exact this
theorem QbF (I : Inv X pins σ H s) (rh : Rh X.K R h H) (n : Nat) (A : Around) (hu : A.units + n < cLine) (w1 w2 : W) (v1 v2 : V) (u1 u2 : Value) (a b : W) (r1 : Rw X.K R w1 v1) (r2 : Rw X.K R w2 v2) (t1 : RelV v1 u1) (t2 : RelV v2 u2) (e1 : drf h n w1 = some a) (e2 : drf h n w2 = some b) : RcAt A s u1 u2 (eqW a b) := by
  cases n with
  | zero => cases e1
  | succ n =>
    have hu0 : A.units < cLine := by omega
    have ih := Kl I rh n A.in1 (by show A.units + 1 + n < cLine; omega)
    have isl : ∀ {ad : Addr} {xs : List V}, SqL X.K H ad xs → ∃ its : Array Value, s.heap.IsList ad its := fun q => by
      obtain ⟨its, _, p, _⟩ := I.list q; exact ⟨_, p.isList⟩
    have ist : ∀ {ad : Addr} {xs : List V}, SqT X.K H ad xs → ∃ its : Array Value, s.heap.IsTuple ad its := fun q => by
      obtain ⟨its, _, p, _⟩ := I.tuple q; exact ⟨_, p⟩
    cases ZZ rh r1 e1 with
    | flat f z =>
      cases ZZ rh r2 e2 with
      | flat f' z' =>
        rcases z with ⟨rfl, rfl⟩ | ⟨_, rfl, rfl⟩ | ⟨_, rfl, rfl⟩ | ⟨_, rfl, rfl⟩ <;> rcases z' with ⟨rfl, rfl⟩ | ⟨_, rfl, rfl⟩ | ⟨_, rfl, rfl⟩ | ⟨_, rfl, rfl⟩ <;> first | (obtain ⟨t1', rfl⟩ := t1) | cases t1
        · first | (obtain ⟨t2', rfl⟩ := t2) | cases t2
          unfold eqW; exact RcAt.none_none
        · first | (obtain ⟨t2', rfl⟩ := t2) | cases t2
          unfold eqW; exact RcAt.none_bool _
        · first | (obtain ⟨t2', rfl⟩ := t2) | cases t2
          unfold eqW; exact RcAt.none_int _ _
        · first | (obtain ⟨t2', rfl⟩ := t2) | cases t2
          unfold eqW; exact RcAt.none_str _ _
        · first | (obtain ⟨t2', rfl⟩ := t2) | cases t2
          unfold eqW; exact RcAt.bool_none _
        · first | (obtain ⟨t2', rfl⟩ := t2) | cases t2
          unfold eqW; exact RcAt.bool_bool _ _
        · first | (obtain ⟨t2', rfl⟩ := t2) | cases t2
          unfold eqW; exact RcAt.bool_int _ _ _
        · first | (obtain ⟨t2', rfl⟩ := t2) | cases t2
          unfold eqW; exact RcAt.bool_str _ _ _
        · first | (obtain ⟨t2', rfl⟩ := t2) | cases t2
          unfold eqW; exact RcAt.int_none _ _
        · first | (obtain ⟨t2', rfl⟩ := t2) | cases t2
          unfold eqW; exact RcAt.int_bool _ _ _
        · first | (obtain ⟨t2', rfl⟩ := t2) | cases t2
          unfold eqW; exact RcAt.int_int _ _ _ _
        · first | (obtain ⟨t2', rfl⟩ := t2) | cases t2
          unfold eqW; exact RcAt.int_str _ _ _ _
        · first | (obtain ⟨t2', rfl⟩ := t2) | cases t2
          unfold eqW; exact RcAt.str_none _ _
        · first | (obtain ⟨t2', rfl⟩ := t2) | cases t2
          unfold eqW; exact RcAt.str_bool _ _ _
        · first | (obtain ⟨t2', rfl⟩ := t2) | cases t2
          unfold eqW; exact RcAt.str_int _ _ _ _
        · first | (obtain ⟨t2', rfl⟩ := t2) | cases t2
          unfold eqW; exact RcAt.str_str _ _ _ _
      | lst e q =>
        subst e
        cases t2
        obtain ⟨its, p⟩ := isl q
        rcases z with ⟨rfl, rfl⟩ | ⟨_, rfl, rfl⟩ | ⟨_, rfl, rfl⟩ | ⟨_, rfl, rfl⟩
        · cases t1; unfold eqW; exact RcAt.none_list p hu0
        · cases t1; unfold eqW; exact RcAt.bool_list _ p hu0
        · obtain ⟨t, rfl⟩ := t1; unfold eqW; exact RcAt.int_list _ t p hu0
        · obtain ⟨t, rfl⟩ := t1; unfold eqW; exact RcAt.str_list _ t p hu0
      | tup e q =>
        subst e
        cases t2
        obtain ⟨its, p⟩ := ist q
        rcases z with ⟨rfl, rfl⟩ | ⟨_, rfl, rfl⟩ | ⟨_, rfl, rfl⟩ | ⟨_, rfl, rfl⟩
        · cases t1; unfold eqW; exact RcAt.none_tuple p hu0
        · cases t1; unfold eqW; exact RcAt.bool_tuple _ p hu0
        · obtain ⟨t, rfl⟩ := t1; unfold eqW; exact RcAt.int_tuple _ t p hu0
        · obtain ⟨t, rfl⟩ := t1; unfold eqW; exact RcAt.str_tuple _ t p hu0
    | @lst ad1 _ _ _ e q r m =>
      subst e
      cases t1
      obtain ⟨its, p⟩ := isl q
      have k2 := ZZ rh r2 e2
      cases k2 with
      | flat f' z' =>
        rcases z' with ⟨rfl, rfl⟩ | ⟨_, rfl, rfl⟩ | ⟨_, rfl, rfl⟩ | ⟨_, rfl, rfl⟩
        · cases t2; unfold eqW; exact RcAt.list_none p hu0
        · cases t2; unfold eqW; exact RcAt.list_bool _ p hu0
        · obtain ⟨t, rfl⟩ := t2; unfold eqW; exact RcAt.list_int _ t p hu0
        · obtain ⟨t, rfl⟩ := t2; unfold eqW; exact RcAt.list_str _ t p hu0
      | tup e' q' =>
        subst e'
        cases t2
        obtain ⟨its', p'⟩ := ist q'
        unfold eqW; exact RcAt.list_tuple p p' hu0
      | lst e' q' r' m' =>
        subst e'
        cases t2
        unfold eqW
        exact Kw I hu0 ih q q' r r' m m'
    | @tup ad1 _ _ _ e q r m =>
      subst e
      cases t1
      obtain ⟨its, p⟩ := ist q
      have k2 := ZZ rh r2 e2
      cases k2 with
      | flat f' z' =>
        rcases z' with ⟨rfl, rfl⟩ | ⟨_, rfl, rfl⟩ | ⟨_, rfl, rfl⟩ | ⟨_, rfl, rfl⟩
        · cases t2; unfold eqW; exact RcAt.tuple_none p hu0
        · cases t2; unfold eqW; exact RcAt.tuple_bool _ p hu0
        · obtain ⟨t, rfl⟩ := t2; unfold eqW; exact RcAt.tuple_int _ t p hu0
        · obtain ⟨t, rfl⟩ := t2; unfold eqW; exact RcAt.tuple_str _ t p hu0
      | lst e' q' =>
        subst e'
        cases t2
        obtain ⟨its', p'⟩ := isl q'
        unfold eqW; exact RcAt.tuple_list p p' hu0
      | tup e' q' r' m' =>
        subst e'
        cases t2
        unfold eqW
        exact Y8 I hu0 ih q q' r r' m m'
theorem U9 (I : Inv X pins σ H s) (rh : Rh X.K R h H) (n : Nat) (A : Around) (hu : A.units + n < cLine) (w1 w2 : W) (v1 v2 : V) (u1 u2 : Value) (a b : W) (r1 : Rw X.K R w1 v1) (r2 : Rw X.K R w2 v2) (t1 : RelV v1 u1) (t2 : RelV v2 u2) (e1 : drf h n w1 = some a) (e2 : drf h n w2 = some b) : RcNeAt A s u1 u2 (!eqW a b) := by
  cases n with
  | zero => cases e1
  | succ n =>
    have hu0 : A.units < cLine := by omega
    have ih := Kl I rh n A.in1 (by show A.units + 1 + n < cLine; omega)
    have isl : ∀ {ad : Addr} {xs : List V}, SqL X.K H ad xs → ∃ its : Array Value, s.heap.IsList ad its := fun q => by
      obtain ⟨its, _, p, _⟩ := I.list q; exact ⟨_, p.isList⟩
    have ist : ∀ {ad : Addr} {xs : List V}, SqT X.K H ad xs → ∃ its : Array Value, s.heap.IsTuple ad its := fun q => by
      obtain ⟨its, _, p, _⟩ := I.tuple q; exact ⟨_, p⟩
    cases ZZ rh r1 e1 with
    | flat f z =>
      cases ZZ rh r2 e2 with
      | flat f' z' =>
        rcases z with ⟨rfl, rfl⟩ | ⟨_, rfl, rfl⟩ | ⟨_, rfl, rfl⟩ | ⟨_, rfl, rfl⟩ <;> rcases z' with ⟨rfl, rfl⟩ | ⟨_, rfl, rfl⟩ | ⟨_, rfl, rfl⟩ | ⟨_, rfl, rfl⟩ <;> first | (obtain ⟨t1', rfl⟩ := t1) | cases t1
        · first | (obtain ⟨t2', rfl⟩ := t2) | cases t2
          unfold eqW; exact RcNeAt.none_none
        · first | (obtain ⟨t2', rfl⟩ := t2) | cases t2
          unfold eqW; exact RcNeAt.none_bool _
        · first | (obtain ⟨t2', rfl⟩ := t2) | cases t2
          unfold eqW; exact RcNeAt.none_int _ _
        · first | (obtain ⟨t2', rfl⟩ := t2) | cases t2
          unfold eqW; exact RcNeAt.none_str _ _
        · first | (obtain ⟨t2', rfl⟩ := t2) | cases t2
          unfold eqW; exact RcNeAt.bool_none _
        · first | (obtain ⟨t2', rfl⟩ := t2) | cases t2
          unfold eqW; exact RcNeAt.bool_bool _ _
        · first | (obtain ⟨t2', rfl⟩ := t2) | cases t2
          unfold eqW; exact RcNeAt.bool_int _ _ _
        · first | (obtain ⟨t2', rfl⟩ := t2) | cases t2
          unfold eqW; exact RcNeAt.bool_str _ _ _
        · first | (obtain ⟨t2', rfl⟩ := t2) | cases t2
          unfold eqW; exact RcNeAt.int_none _ _
        · first | (obtain ⟨t2', rfl⟩ := t2) | cases t2
          unfold eqW; exact RcNeAt.int_bool _ _ _
        · first | (obtain ⟨t2', rfl⟩ := t2) | cases t2
          unfold eqW; exact RcNeAt.int_int _ _ _ _
        · first | (obtain ⟨t2', rfl⟩ := t2) | cases t2
          unfold eqW; exact RcNeAt.int_str _ _ _ _
        · first | (obtain ⟨t2', rfl⟩ := t2) | cases t2
          unfold eqW; exact RcNeAt.str_none _ _
        · first | (obtain ⟨t2', rfl⟩ := t2) | cases t2
          unfold eqW; exact RcNeAt.str_bool _ _ _
        · first | (obtain ⟨t2', rfl⟩ := t2) | cases t2
          unfold eqW; exact RcNeAt.str_int _ _ _ _
        · first | (obtain ⟨t2', rfl⟩ := t2) | cases t2
          unfold eqW; exact RcNeAt.str_str _ _ _ _
      | lst e q =>
        subst e
        cases t2
        obtain ⟨its, p⟩ := isl q
        rcases z with ⟨rfl, rfl⟩ | ⟨_, rfl, rfl⟩ | ⟨_, rfl, rfl⟩ | ⟨_, rfl, rfl⟩
        · cases t1; unfold eqW; exact RcNeAt.none_list p hu0
        · cases t1; unfold eqW; exact RcNeAt.bool_list _ p hu0
        · obtain ⟨t, rfl⟩ := t1; unfold eqW; exact RcNeAt.int_list _ t p hu0
        · obtain ⟨t, rfl⟩ := t1; unfold eqW; exact RcNeAt.str_list _ t p hu0
      | tup e q =>
        subst e
        cases t2
        obtain ⟨its, p⟩ := ist q
        rcases z with ⟨rfl, rfl⟩ | ⟨_, rfl, rfl⟩ | ⟨_, rfl, rfl⟩ | ⟨_, rfl, rfl⟩
        · cases t1; unfold eqW; exact RcNeAt.none_tuple p hu0
        · cases t1; unfold eqW; exact RcNeAt.bool_tuple _ p hu0
        · obtain ⟨t, rfl⟩ := t1; unfold eqW; exact RcNeAt.int_tuple _ t p hu0
        · obtain ⟨t, rfl⟩ := t1; unfold eqW; exact RcNeAt.str_tuple _ t p hu0
    | @lst ad1 _ _ _ e q r m =>
      subst e
      cases t1
      obtain ⟨its, p⟩ := isl q
      have k2 := ZZ rh r2 e2
      cases k2 with
      | flat f' z' =>
        rcases z' with ⟨rfl, rfl⟩ | ⟨_, rfl, rfl⟩ | ⟨_, rfl, rfl⟩ | ⟨_, rfl, rfl⟩
        · cases t2; unfold eqW; exact RcNeAt.list_none p hu0
        · cases t2; unfold eqW; exact RcNeAt.list_bool _ p hu0
        · obtain ⟨t, rfl⟩ := t2; unfold eqW; exact RcNeAt.list_int _ t p hu0
        · obtain ⟨t, rfl⟩ := t2; unfold eqW; exact RcNeAt.list_str _ t p hu0
      | tup e' q' =>
        subst e'
        cases t2
        obtain ⟨its', p'⟩ := ist q'
        unfold eqW; exact RcNeAt.list_tuple p p' hu0
      | lst e' q' r' m' =>
        subst e'
        cases t2
        unfold eqW
        exact Yv I hu0 ih q q' r r' m m'
    | @tup ad1 _ _ _ e q r m =>
      subst e
      cases t1
      obtain ⟨its, p⟩ := ist q
      have k2 := ZZ rh r2 e2
      cases k2 with
      | flat f' z' =>
        rcases z' with ⟨rfl, rfl⟩ | ⟨_, rfl, rfl⟩ | ⟨_, rfl, rfl⟩ | ⟨_, rfl, rfl⟩
        · cases t2; unfold eqW; exact RcNeAt.tuple_none p hu0
        · cases t2; unfold eqW; exact RcNeAt.tuple_bool _ p hu0
        · obtain ⟨t, rfl⟩ := t2; unfold eqW; exact RcNeAt.tuple_int _ t p hu0
        · obtain ⟨t, rfl⟩ := t2; unfold eqW; exact RcNeAt.tuple_str _ t p hu0
      | lst e' q' =>
        subst e'
        cases t2
        obtain ⟨its', p'⟩ := isl q'
        unfold eqW; exact RcNeAt.tuple_list p p' hu0
      | tup e' q' r' m' =>
        subst e'
        cases t2
        unfold eqW
        exact WE I hu0 ih q q' r r' m m'
end
noncomputable def wEq (a b : W) (h : MH) : Option (W × MH) := (drf h 40 a).bind fun x => (drf h 40 b).map fun y => (.bl (eqW x y), h)
noncomputable def wNe (a b : W) (h : MH) : Option (W × MH) := (drf h 40 a).bind fun x => (drf h 40 b).map fun y => (.bl (!eqW x y), h)
theorem Qi {K : PySem.W.Frag} {f : W → W → MH → Option (W × MH)} : OpM K (F2 K f) f := fun _ _ _ _ q => q
section
variable {X : Cx}
theorem Vo (hu : X.A.units + 64 < cLine) : OpR X (compareOp .Eq) (F2 X.K wEq) := by
  intro pins s σ H x y v u Q I rx ry q
  obtain ⟨R, h, a, b, w, h', rh, ra, rb, e, k⟩ := q
  obtain ⟨a', e1, e2⟩ := Option.bind_eq_some_iff.mp e
  obtain ⟨b', e3, e4⟩ := Option.map_eq_some_iff.mp e2
  cases e4
  exact QbF I rh 40 X.A (by omega) a b x y v u a' b' ra rb rx ry e1 e3 _ _ _ _ ⟨.bl _, H, I, rfl, k R H _ (Ext.refl _) rh (Rw.bl _)⟩
theorem K2 (hu : X.A.units + 64 < cLine) : OpR X (compareOp .NotEq) (F2 X.K wNe) := by
  intro pins s σ H x y v u Q I rx ry q
  obtain ⟨R, h, a, b, w, h', rh, ra, rb, e, k⟩ := q
  obtain ⟨a', e1, e2⟩ := Option.bind_eq_some_iff.mp e
  obtain ⟨b', e3, e4⟩ := Option.map_eq_some_iff.mp e2
  cases e4
  exact U9 I rh 40 X.A (by omega) a b x y v u a' b' ra rb rx ry e1 e3 _ _ _ _ ⟨.bl _, H, I, rfl, k R H _ (Ext.refl _) rh (Rw.bl _)⟩
noncomputable def inW (x : W) (xs : List W) : Bool := xs.any fun y => eqW y x
noncomputable def wIn (neg : Bool) (a b : W) (h : MH) : Option (W × MH) := match b with
  | .tup ys => (drf h 40 a).bind fun x => (Q6 (drf h 40) ys).map fun zs => (.bl (if neg then !inW x zs else inW x zs), h)
  | b => (lsW h b).bind fun ys => (drf h 40 a).bind fun x => (Q6 (drf h 40) ys).map fun zs => (.bl (if neg then !inW x zs else inW x zs), h)
open Classical in
noncomputable def Qaz (K : PySem.W.Frag) (R : Rn) (h : MH) (x : W) (u : Value) : Bool := decide (∃ w v a, Rw K R w v ∧ RelV v u ∧ drf h 40 w = some a ∧ eqW a x = true)
open Classical in
theorem WP {pins : List (Addr × Obj)} {σ : L2.St} {H : Hp} {s : Shared} {R : Rn} {h : MH} (I : Inv X pins σ H s) (rh : Rh X.K R h H) {x w a : W} {v : V} {u : Value} (r : Rw X.K R w v) (t : RelV v u) (e : drf h 40 w = some a) : Qaz X.K R h x u = eqW a x := by
  unfold Qaz
  by_cases q : eqW a x = true
  · rw [q]; exact decide_eq_true ⟨w, v, a, r, t, e, q⟩
  · have q' : eqW a x = false := by simpa using q
    rw [q']
    refine decide_eq_false fun ⟨w', v', a', r', t', e', z⟩ => ?_
    have := t.inj t'
    subst this
    rw [JJ I rh 40 w w' v a a' r r' e e', z] at q'
    cases q'
theorem Uc {pins : List (Addr × Obj)} {σ : L2.St} {H : Hp} {s : Shared} {R : Rn} {h : MH} (I : Inv X pins σ H s) (rh : Rh X.K R h H) {x : W} : ∀ {ws as : List W} {xs : List V} {us : List Value}, Rws X.K R ws xs → Vals xs us → Q6 (drf h 40) ws = some as → us.any (Qaz X.K R h x) = inW x as
  | [], _, _, _, r, t, m => by
    rw [Rws.nil_iff] at r; subst r; cases t; cases m; rfl
  | w :: ws, _, _, _, r, t, m => by
    rw [Rws.cons_iff] at r
    obtain ⟨v, xs', rfl, r1, r2⟩ := r
    cases t with
    | cons t1 t2 =>
      obtain ⟨y, h1, h2⟩ := Option.bind_eq_some_iff.mp m
      obtain ⟨zs, h3, h4⟩ := Option.map_eq_some_iff.mp h2
      subst h4
      have ih := Uc I rh (x := x) r2 t2 h3
      unfold inW at ih ⊢
      rw [List.any_cons, List.any_cons, WP I rh r1 t1 h1, ih]
theorem K9 {pins : List (Addr × Obj)} {σ : L2.St} {H : Hp} {s : Shared} {R : Rn} {h : MH} (I : Inv X pins σ H s) (rh : Rh X.K R h H) {A : Around} (hu : A.units + 40 < cLine) {a x : W} {v : V} {u : Value} (ra : Rw X.K R a v) (ta : RelV v u) (ea : drf h 40 a = some x) {ws as : List W} {xs : List V} {us : List Value}
    (r : Rws X.K R ws xs) (t : Vals xs us) (m : Q6 (drf h 40) ws = some as) : ∀ y ∈ us, EqAt A s y u (Qaz X.K R h x y) := by
  intro y hy
  obtain ⟨i, hi, e⟩ := List.mem_iff_getElem.mp hy
  have l1 := r.length; have l2 := t.length
  obtain ⟨w, hw⟩ : ∃ w, ws[i]? = some w := ⟨ws[i]'(by omega), List.getElem?_eq_getElem _⟩
  obtain ⟨v', hv, rv⟩ := r.get hw
  obtain ⟨u', hu', ru⟩ := t.get hv
  rw [List.getElem?_eq_getElem hi, e] at hu'
  cases hu'
  obtain ⟨b, hb, eb⟩ := (Qr m).2 i w hw
  rw [WP I rh rv ru eb]
  exact Kl I rh 40 A hu w a v' v y u b x rv ra ru ta eb ea
theorem Kp (hu : X.A.units + 64 < cLine) : OpR X (compareOp .In) (F2 X.K (wIn false)) := by
  intro pins s σ H x y v u Q I rx ry q
  obtain ⟨R, h, a, b, w, h', rh, ra, rb, e, k⟩ := q
  have hu' : X.A.in1.units + 40 < cLine := by show X.A.units + 1 + 40 < cLine; omega
  have main : ∀ ys, ((drf h 40 a).bind fun x => (Q6 (drf h 40) ys).map fun zs => ((W.bl (if false then !inW x zs else inW x zs), h) : W × MH)) = some (w, h') → ∃ x' zs, drf h 40 a = some x' ∧ Q6 (drf h 40) ys = some zs ∧ w = .bl (inW x' zs) ∧ h' = h := fun ys e => by
    obtain ⟨x', e1, e2⟩ := Option.bind_eq_some_iff.mp e
    obtain ⟨zs, e3, e4⟩ := Option.map_eq_some_iff.mp e2
    cases e4
    exact ⟨x', zs, e1, e3, rfl, rfl⟩
  have fin : ∀ {x' : W} {zs ws : List W} {xs : List V} {its : List Value}, Rws X.K R ws xs → Vals xs its → drf h 40 a = some x' → Q6 (drf h 40) ws = some zs → w = .bl (inW x' zs) → h' = h → EP X pins σ Q (.bool (its.toArray.any (Qaz X.K R h x'))) s := fun {x' zs ws xs its} r t ea em ew eh => by
    subst ew eh
    rw [List.any_toArray, Uc I rh r t em]
    exact ⟨.bl _, H, I, rfl, k R H _ (Ext.refl _) rh (Rw.bl _)⟩
  unfold wIn at e
  split at e
  · rename_i ys
    obtain ⟨x', zs, e1, e3, ew, eh⟩ := main ys e
    obtain ⟨ad, xs, rfl, q1, r1⟩ := rh.tupAt rb
    cases ry
    obtain ⟨its, t1, p1, _⟩ := I.tuple q1
    exact in_tupleAt (Qaz X.K R h x') (show s.heap.IsTuple ad its.toArray from p1) (fun z hz => K9 I rh hu' ra rx e1 r1 t1 e3 z (by simpa using hz)) (fin r1 t1 e1 e3 ew eh)
  · obtain ⟨ys, e0, e⟩ := Option.bind_eq_some_iff.mp e
    obtain ⟨x', zs, e1, e3, ew, eh⟩ := main ys e
    obtain ⟨ad, xs, rfl, q1, r1⟩ := rh.lsAt rb e0
    cases ry
    obtain ⟨its, t1, p1, _⟩ := I.list q1
    exact in_listAt (Qaz X.K R h x') p1.isList (fun z hz => K9 I rh hu' ra rx e1 r1 t1 e3 z (by simpa using hz)) (fin r1 t1 e1 e3 ew eh)
end
end Mi

namespace Mi
open PySem PySem.Spec PyProof.Rows L2

noncomputable def Xc (a b : W) (h : MH) : Option (W × MH) := match a, b with
  | .int i, .int j => some (.int (i + j), h)
  | .str x, .str y => if x.length + y.length ≤ sizeLine then some (.str (x ++ y), h) else none
  | .tup xs, .tup ys => if xs.length + ys.length ≤ sizeLine then some (.tup (xs ++ ys), h) else none
  | a, b => (loW h a).bind fun xs => (loW h b).bind fun ys => if xs.length + ys.length ≤ sizeLine then some (.lst (xs ++ ys), h) else none
noncomputable def Qgd (a b : W) (h : MH) : Option (W × MH) := match a, b with | .int i, .int j => some (.int (i - j), h) | _, _ => none
noncomputable def Qb3 (a b : W) (h : MH) : Option (W × MH) := match a, b with | .int i, .int j => if (-(2 ^ 64) < i ∧ i < 2 ^ 64) ∨ (-(2 ^ 64) < j ∧ j < 2 ^ 64) then some (.int (i * j), h) else none | _, _ => none
noncomputable def JN (a b : W) (h : MH) : Option (W × MH) := match a, b with | .int i, .int j => if 0 < j ∧ j < 1073741824 then some (.int (i / j), h) else none | _, _ => none
noncomputable def Ju (a b : W) (h : MH) : Option (W × MH) := match a, b with | .int i, .int j => if 0 < j then some (.int (i % j), h) else none | _, _ => none
noncomputable def Qas (a b : W) (h : MH) : Option (W × MH) := match a, b with | .int i, .int j => if 0 ≤ j ∧ j ≤ 1000000 ∧ i.natAbs < 2 ^ 64 then some (.int (i ^ j.toNat), h) else none | _, _ => none
noncomputable def wLt (a b : W) (h : MH) : Option (W × MH) := match a, b with | .int i, .int j => some (.bl (decide (i < j)), h) | .str x, .str y => some (.bl (decide (x.cps.toList < y.cps.toList)), h) | _, _ => none
noncomputable def wGt (a b : W) (h : MH) : Option (W × MH) := match a, b with | .int i, .int j => some (.bl (decide (j < i)), h) | _, _ => none
section
variable {X : Cx}
noncomputable def QdW (K : PySem.W.Frag) : R2 := fun x y H Q => ∃ a b xs ys, x = .ref a ∧ y = .ref b ∧ SqT K H a xs ∧ SqT K H b ys ∧ xs.length + ys.length ≤ sizeLine ∧
  (xs = [] → Q (.ref b) H) ∧ (xs ≠ [] → ys = [] → Q (.ref a) H) ∧ (xs ≠ [] → ys ≠ [] → ∀ p, H p = none → Q (.ref p) (upd H p (.tup (xs ++ ys))))
theorem op_catA : OpR X (binaryOp .Add) (QdW X.K) := by
  intro pins s σ H x y v u Q I rx ry h
  obtain ⟨a, b, xs, ys, rfl, rfl, ha, hb, hz, q0, q1, q2⟩ := h
  by_cases hx : xs = []
  · subst hx
    cases rx
    cases ry
    obtain ⟨its, r1, p1, _⟩ := I.tuple ha
    obtain ⟨its2, r2, p2, _⟩ := I.tuple hb
    cases r1
    obtain ⟨⟨cls, dd, data, sl⟩, ho, hc, n, hd⟩ := id p1
    obtain ⟨⟨cls2, dd2, data2, sl2⟩, ho2, hc2, n2, hd2⟩ := id p2
    simp only at hc hd hc2 hd2
    subst hc hd hc2 hd2
    exact concat_meets ⟨_, ho, rfl⟩ ⟨_, ho2, rfl⟩ noFill_tuple_add seq_tuple_add PySem.F.slot_tuple_add PySem.F.entry_tuple_add (PySem.F.args_tuple_add_2 _ _)
      (tuple_addW0 a b #[] its2.toArray n n2 dd dd2 sl sl2 (by simp)) ⟨ho, ho2, ⟨.ref b, H, I, rfl, q0 rfl⟩⟩
  · exact Qbf pins s σ H _ _ v u Q I rx ry ⟨a, b, xs, ys, rfl, rfl, ha, hb, hx, hz, q1 hx, q2 hx⟩
theorem ZM : OpR X (binaryOp .Add) (F2 X.K Xc) := by
  intro pins s σ H x y v u Q I rx ry q
  refine (op_add.or (op_add_str.or (op_catA.or Qcb))) pins s σ H x y v u Q I rx ry ?_
  obtain ⟨R, h, a, b, w, h', rh, ra, rb, e, k⟩ := q
  unfold Xc at e
  split at e
  · cases e
    exact .inl ⟨_, _, ra.int_eq, rb.int_eq, k R H _ (Ext.refl _) rh (Rw.int _)⟩
  · split at e
    · rename_i hl
      cases e
      exact .inr (.inl ⟨_, _, ra.str_eq, rb.str_eq, hl, k R H _ (Ext.refl _) rh (Rw.str _)⟩)
    · cases e
  · split at e
    · rename_i xs ys hl
      cases e
      obtain ⟨ad, xv, e1, q1, r1⟩ := rh.tupAt ra
      obtain ⟨bd, yv, e2, q2, r2⟩ := rh.tupAt rb
      have l1 := r1.length; have l2 := r2.length
      refine .inr (.inr (.inl ⟨ad, bd, xv, yv, e1, e2, q1, q2, by omega, fun z => ?_, fun _ z => ?_, fun _ _ p hp => ?_⟩))
      · subst z
        have : xs = [] := List.length_eq_zero_iff.mp l1
        subst this
        exact k R H _ (Ext.refl _) rh (e2 ▸ rb)
      · subst z
        have : ys = [] := List.length_eq_zero_iff.mp l2
        subst this
        rw [List.append_nil] at k
        exact k R H _ (Ext.refl _) rh (e1 ▸ ra)
      · obtain ⟨R3, x3, rh3, rw3⟩ := rh.tup hp (Rws.append r1 r2)
        exact k R3 _ _ x3 rh3 rw3
    · cases e
  · obtain ⟨xs, e1, e⟩ := Option.bind_eq_some_iff.mp e
    obtain ⟨ys, e2, e⟩ := Option.bind_eq_some_iff.mp e
    split at e
    · rename_i hl
      cases e
      obtain ⟨ad, xv, f1, q1, r1⟩ := rh.loAt ra e1
      obtain ⟨bd, yv, f2, q2, r2⟩ := rh.loAt rb e2
      have l1 := r1.length; have l2 := r2.length
      refine .inr (.inr (.inr ⟨ad, bd, xv, yv, f1, f2, q1, q2, by omega, fun p hp => ?_⟩))
      obtain ⟨R3, x3, rh3, rw3⟩ := rh.lstI hp (Rws.append r1 r2)
      exact k R3 _ _ x3 rh3 rw3
    · cases e
theorem Qal : OpR X (binaryOp .Mult) (F2 X.K Qb3) := by
  intro pins s σ H x y v u Q I rx ry q
  refine Qb1 pins s σ H x y v u Q I rx ry ?_
  obtain ⟨R, h, a, b, w, h', rh, ra, rb, e, k⟩ := q
  unfold Qb3 at e
  split at e
  · split at e
    · rename_i hl
      cases e
      exact ⟨_, _, ra.int_eq, rb.int_eq, hl, k R H _ (Ext.refl _) rh (Rw.int _)⟩
    · cases e
  · cases e
theorem Za : OpR X (binaryOp .FloorDiv) (F2 X.K JN) := by
  intro pins s σ H x y v u Q I rx ry q
  refine Qat pins s σ H x y v u Q I rx ry ?_
  obtain ⟨R, h, a, b, w, h', rh, ra, rb, e, k⟩ := q
  unfold JN at e
  split at e
  · split at e
    · rename_i hl
      cases e
      exact ⟨_, _, ra.int_eq, rb.int_eq, hl, k R H _ (Ext.refl _) rh (Rw.int _)⟩
    · cases e
  · cases e
theorem QL : OpR X (binaryOp .Mod) (F2 X.K Ju) := by
  intro pins s σ H x y v u Q I rx ry q
  refine QcJ pins s σ H x y v u Q I rx ry ?_
  obtain ⟨R, h, a, b, w, h', rh, ra, rb, e, k⟩ := q
  unfold Ju at e
  split at e
  · split at e
    · rename_i hl
      cases e
      exact ⟨_, _, ra.int_eq, rb.int_eq, hl, k R H _ (Ext.refl _) rh (Rw.int _)⟩
    · cases e
  · cases e
theorem Qbl : OpR X (binaryOp .Pow) (F2 X.K Qas) := by
  intro pins s σ H x y v u Q I rx ry q
  refine Qca pins s σ H x y v u Q I rx ry ?_
  obtain ⟨R, h, a, b, w, h', rh, ra, rb, e, k⟩ := q
  unfold Qas at e
  split at e
  · split at e
    · rename_i hl
      cases e
      exact ⟨_, _, ra.int_eq, rb.int_eq, hl, k R H _ (Ext.refl _) rh (Rw.int _)⟩
    · cases e
  · cases e
theorem QbI : OpR X (compareOp .Lt) (F2 X.K wLt) := by
  intro pins s σ H x y v u Q I rx ry q
  refine (op_lt.or Ww) pins s σ H x y v u Q I rx ry ?_
  obtain ⟨R, h, a, b, w, h', rh, ra, rb, e, k⟩ := q
  unfold wLt at e
  split at e
  · cases e
    exact .inl ⟨_, _, ra.int_eq, rb.int_eq, k R H _ (Ext.refl _) rh (Rw.bl _)⟩
  · cases e
    exact .inr ⟨_, _, ra.str_eq, rb.str_eq, k R H _ (Ext.refl _) rh (Rw.bl _)⟩
  · cases e
theorem Gy : OpR X (compareOp .Gt) (F2 X.K wGt) := by
  intro pins s σ H x y v u Q I rx ry q
  refine Qd3 pins s σ H x y v u Q I rx ry ?_
  obtain ⟨R, h, a, b, w, h', rh, ra, rb, e, k⟩ := q
  unfold wGt at e
  split at e
  · cases e
    exact ⟨_, _, ra.int_eq, rb.int_eq, k R H _ (Ext.refl _) rh (Rw.bl _)⟩
  · cases e
noncomputable def Qf9 (a : W) (h : MH) : Option (W × MH) := match a with | .int i => some (.int (-i), h) | _ => none
noncomputable def wIx (a b : W) (h : MH) : Option (W × MH) := match b with
  | .int i => match a with
    | .tup ws => (atI ws i).map fun w => (w, h)
    | .str x => if x.length ≤ sizeLine then (atI x.cps.toList i).map fun c => (.str ⟨#[c]⟩, h) else none
    | a => (lsW h a).bind fun ws => (atI ws i).map fun w => (w, h)
  | _ => none
theorem YH {K : PySem.W.Frag} {R : Rn} {ws : List W} {xs : List V} (r : Rws K R ws xs) {i : Int} {w : W} (e : atI ws i = some w) : ∃ v, atI xs i = some v ∧ Rw K R w v := by
  unfold atI at e ⊢
  rw [← r.length]
  obtain ⟨j, e1, e2⟩ := Option.bind_eq_some_iff.mp e
  obtain ⟨v, e3, e4⟩ := r.get e2
  exact ⟨v, by rw [e1]; exact e3, e4⟩
theorem Qa7 : IxR X (F2 X.K wIx) := by
  intro value slice pins s σ H x y v u Q I rx ry q hs
  refine QbD value slice pins s σ H x y v u Q I rx ry ?_ hs
  obtain ⟨R, h, a, b, w, h', rh, ra, rb, e, k⟩ := q
  unfold wIx at e
  split at e
  · rename_i i
    split at e
    · rename_i ws
      obtain ⟨w1, e1, e2⟩ := Option.map_eq_some_iff.mp e
      cases e2
      obtain ⟨ad, xs, rfl, q1, r1⟩ := rh.tupAt ra
      obtain ⟨v1, e3, r3⟩ := YH r1 e1
      exact .inr (.inl ⟨ad, xs, i, v1, rfl, rb.int_eq, q1, e3, k R H _ (Ext.refl _) rh r3⟩)
    · split at e
      · rename_i hl
        obtain ⟨c, e1, e2⟩ := Option.map_eq_some_iff.mp e
        cases e2
        exact .inr (.inr ⟨_, i, c, ra.str_eq, rb.int_eq, hl, e1, k R H _ (Ext.refl _) rh (Rw.str _)⟩)
      · cases e
    · obtain ⟨ws, e0, e⟩ := Option.bind_eq_some_iff.mp e
      obtain ⟨w1, e1, e2⟩ := Option.map_eq_some_iff.mp e
      cases e2
      obtain ⟨ad, xs, rfl, q1, r1⟩ := rh.lsAt ra e0
      obtain ⟨v1, e3, r3⟩ := YH r1 e1
      exact .inl ⟨ad, xs, i, v1, rfl, rb.int_eq, q1, e3, k R H _ (Ext.refl _) rh r3⟩
  · cases e
theorem Jo {a b : Expr} {ma mb : ME} {pos : Pos} (ha : PM X a ma) (hb : PM X b mb) (hs : W2 b := by intro _ _; rfl) : PM X (.Subscript a b pos) (Ql wIx ma mb) :=
  QO (QdZ Qa7 ha hb hs) fun _ _ _ q => ZJ (Qda q) fun _ _ q1 => ZJ q1 fun _ _ q2 => q2
noncomputable def G5 (ws : List W) (h : MH) : Option (W × MH) := match ws with
  | [.str x] => if x.length ≤ sizeLine then some (.int x.length, h) else none
  | [.tup ws] => some (.int ws.length, h)
  | [a] => (lsW h a).map fun ws => (.int ws.length, h)
  | _ => none
theorem Qy {K : PySem.W.Frag} {f : List W → MH → Option (W × MH)} : Qaa K (Fs K f) f := fun _ _ _ q => q
theorem YG {K : PySem.W.Frag} {R : Rn} {a : W} {xs : List V} (r : Rws K R [a] xs) : ∃ v, xs = [v] ∧ Rw K R a v := by
  rw [Rws.cons_iff] at r
  obtain ⟨v, vs, rfl, r1, r2⟩ := r
  rw [Rws.nil_iff] at r2
  subst r2
  exact ⟨v, rfl, r1⟩
theorem Qdw {K : PySem.W.Frag} {R : Rn} {a b : W} {xs : List V} (r : Rws K R [a, b] xs) : ∃ v u, xs = [v, u] ∧ Rw K R a v ∧ Rw K R b u := by
  rw [Rws.cons_iff] at r
  obtain ⟨v, vs, rfl, r1, r2⟩ := r
  obtain ⟨u, rfl, r3⟩ := YG r2
  exact ⟨v, u, rfl, r1, r3⟩
theorem Jq : CallR X (.builtin "len") (Fs X.K G5) := by
  intro pins s σ H xs us Q I r q
  refine (call_len_seq.or Xl) pins s σ H xs us Q I r ?_
  obtain ⟨R, h, ws, w, h', rh, rw, e, k⟩ := q
  unfold G5 at e
  split at e
  · split at e
    · rename_i hl
      cases e
      obtain ⟨v, rfl, r1⟩ := YG rw
      exact .inr ⟨_, by rw [r1.str_eq], hl, k R H _ (Ext.refl _) rh (Rw.int _)⟩
    · cases e
  · cases e
    obtain ⟨v, rfl, r1⟩ := YG rw
    obtain ⟨ad, xs, rfl, q1, r2⟩ := rh.tupAt r1
    exact .inl ⟨ad, xs, rfl, .inr q1, by rw [← r2.length]; exact k R H _ (Ext.refl _) rh (Rw.int _)⟩
  · obtain ⟨ys, e1, e2⟩ := Option.map_eq_some_iff.mp e
    cases e2
    obtain ⟨v, rfl, r1⟩ := YG rw
    obtain ⟨ad, xs, rfl, q1, r2⟩ := rh.lsAt r1 e1
    exact .inl ⟨ad, xs, rfl, .inl q1, by rw [← r2.length]; exact k R H _ (Ext.refl _) rh (Rw.int _)⟩
  · cases e
noncomputable def Qeu (ws : List W) (h : MH) : Option (W × MH) := match ws with
  | [.tup ws] => some (.tup ws, h)
  | [a] => (lsW h a).map fun ws => (.tup ws, h)
  | _ => none
noncomputable def JS (ws : List W) (h : MH) : Option (W × MH) := match ws with
  | [.tup ws] => some (.lst ws, h)
  | [a] => (lsW h a).map fun ws => (.lst ws, h)
  | _ => none
theorem JD : CallR X (.type "list") (Fs X.K JS) := by
  intro pins s σ H xs us Q I r q
  refine Xe pins s σ H xs us Q I r ?_
  obtain ⟨R, h, ws, w, h', rh, rw, e, k⟩ := q
  unfold JS at e
  split at e
  · cases e
    obtain ⟨v, rfl, r1⟩ := YG rw
    obtain ⟨ad, xs, rfl, q1, r2⟩ := rh.tupAt r1
    refine ⟨ad, xs, rfl, .inr q1, fun p hp => ?_⟩
    obtain ⟨R3, x3, rh3, rw3⟩ := rh.lstI hp r2
    exact k R3 _ _ x3 rh3 rw3
  · obtain ⟨ys, e1, e2⟩ := Option.map_eq_some_iff.mp e
    cases e2
    obtain ⟨v, rfl, r1⟩ := YG rw
    obtain ⟨ad, xs, rfl, q1, r2⟩ := rh.lsAt r1 e1
    refine ⟨ad, xs, rfl, .inl q1, fun p hp => ?_⟩
    obtain ⟨R3, x3, rh3, rw3⟩ := rh.lstI hp r2
    exact k R3 _ _ x3 rh3 rw3
  · cases e
noncomputable def Qbk : List W → Option (List Bool)
  | [] => some []
  | .bl b :: r => (Qbk r).map (b :: ·)
  | _ => none
theorem Wi {K : PySem.W.Frag} {R : Rn} : ∀ {ws : List W} {xs : List V} {bs : List Bool}, Rws K R ws xs → Qbk ws = some bs → xs = bs.map V.bl
  | [], xs, bs, r, e => by rw [Rws.nil_iff] at r; subst r; cases e; rfl
  | w :: ws, xs, bs, r, e => by
    rw [Rws.cons_iff] at r
    obtain ⟨v, vs, rfl, r1, r2⟩ := r
    cases w <;> simp only [Qbk] at e <;> first | cases e | skip
    obtain ⟨cs, e1, e2⟩ := Option.map_eq_some_iff.mp e
    subst e2
    rw [r1.bl_eq, Wi r2 e1]; rfl
theorem K0 : ∀ {bs : List Bool} {us : List Value}, Vals (bs.map V.bl) us → us = bs.map Value.bool
  | [], us, r => by cases r; rfl
  | b :: bs, us, r => by
    cases r with
    | cons r1 r2 => cases r1; rw [K0 r2]; rfl
end
end Mi

namespace Mi
open PySem PySem.Spec PyProof.Rows L2

section
variable {prog : Program} {w : World} {A : Around} {E : Value → Shared → Prop} {s : Shared}
end
section
variable {X : Cx}
end
noncomputable def Qc4 (X : Cx) (id : String) (f : W → List W → MH → Option (W × MH)) : Prop :=
  MtR X id (fun x xs H Q => ∃ R h a ws w h', Rh X.K R h H ∧ Rw X.K R a x ∧ Rws X.K R ws xs ∧ f a ws h = some (w, h') ∧ After X.K R w h' Q)
noncomputable def tyW (h : MH) (T : String) : W → Bool
  | .str _ => T == "str"
  | .int _ => T == "int"
  | .lst _ => T == "list"
  | .frz _ => T == "list"
  | .ref n => match h[n]? with | some (.lst _) => T == "list" | some (.dic _) => T == "dict" | some (.dct _) => T == "dict" | none => false
  | _ => false
noncomputable def mMt (T : String) (f : W → List W → MH → Option (W × MH)) (mo : ME) (ms : MA) : ME := fun σ h => (mo σ h).bind fun p => if tyW p.2 T p.1 = true then (ms σ p.2).bind fun q => f p.1 q.1 q.2 else none
theorem Qcm {K : PySem.W.Frag} {R : Rn} {h : MH} {H : Hp} {T : String} {a : W} {x : V} (rh : Rh K R h H) (r : Rw K R a x) (e : tyW h T a = true) : tyV K T x H := by
  cases a with
  | str _ => rw [r.str_eq]; exact eq_of_beq e
  | int _ => rw [r.int_eq]; exact eq_of_beq e
  | lst _ =>
    obtain ⟨ad, xs, rfl, q, _⟩ := rh.lstAt r
    exact .inl ⟨eq_of_beq e, xs, SqL.of q⟩
  | frz _ =>
    obtain ⟨ad, xs, rfl, q, _⟩ := rh.frzAt r
    exact .inl ⟨eq_of_beq e, xs, q⟩
  | ref n =>
    simp only [tyW] at e
    split at e
    · rename_i ws hn
      obtain ⟨_, rfl, xs, h1, _⟩ := rh.refAt r hn
      exact .inl ⟨eq_of_beq e, xs, SqL.of h1⟩
    · rename_i kvs hn
      unfold Rw at r
      obtain ⟨kx, h1, _⟩ := rh.obj n _ hn
      rw [r.2]
      exact .inr (.inr (.inl ⟨eq_of_beq e, .inl ⟨kx, h1⟩⟩))
    · rename_i kvs hn
      unfold Rw at r
      obtain ⟨kx, h1, _⟩ := rh.obj n _ hn
      rw [r.2]
      exact .inr (.inr (.inl ⟨eq_of_beq e, .inr ⟨kx, h1⟩⟩))
    · cases e
  | _ => cases e
section
variable {X : Cx} {o e : Expr} {es : List Expr} {mo : ME} {ms : MA} {name : Str} {apos cpos : Pos} {T id : String} {f : W → List W → MH → Option (W × MH)}
theorem QbY {X : Cx} {e : Expr} {es : List Expr} {cpos : Pos} (hfew : decide ((e :: es).length < 30) = true) (hs : ZG e = false) (hp : Z1 es = true) :
    ((backTo cpos (starEach (e :: es) X.env)).all (fun x => !x.1) && (backToKw cpos (keywordEach [] X.env)).all (fun x => x.1.isSome)
      && decide ((e :: es).length + ([] : List Keyword).length + (if ([] : List Keyword).isEmpty then 0 else 1) < 30)) = true := by
  rw [Uq (by unfold Z1 at hp ⊢; rw [List.all_cons, hs, hp]; rfl)]
  exact hfew
theorem YA (pa : PlainAttrs T) (slot : Slot T name id) (hty : typeOf (.builtin id) = pure (.type "method_descriptor")) (hm : Qc4 X id f) (ho : PM X o mo) (ha : PMA X (e :: es) ms)
    (hbase : attributeBase o name X.env (eval o X.env) = eval o X.env := by rfl) (hfew : decide ((e :: es).length < 30) = true := by rfl)
    (hline : (apos.endLine == cpos.line) = true := by rfl) (hs : ZG e = false := by rfl) (hplain : Z1 es = true := by rfl) :
    PM X (.Call (.Attribute o name apos) (e :: es) [] cpos) (mMt T f mo ms) :=
  QO (QdL pa slot hty hm ho ha hbase (QbY hfew hs hplain) hline (QH hs) (ZA hplain)) fun σ H Q ⟨R, σi, h, w, h', rh, st, e, k⟩ => by
    obtain ⟨⟨a, h1⟩, ea, e2⟩ := Option.bind_eq_some_iff.mp e
    dsimp only at e2
    split at e2
    · rename_i ht
      obtain ⟨⟨ws, h2⟩, es, e3⟩ := Option.bind_eq_some_iff.mp e2
      exact ⟨R, σi, h, a, h1, rh, st, ea, fun R1 H1 x x1 rh1 rx => ⟨Qcm rh1 rx ht, R1, σi, h1, ws, h2, rh1, st.mono x1, es, fun R2 H2 xs x2 rh2 rxs => ⟨R2, h2, a, ws, w, h', rh2, Rw.mono x2 _ _ rx, rxs, e3, k.ext (x1.trans x2)⟩⟩⟩
    · cases e2
end
noncomputable def Jb (a : W) (ws : List W) (h : MH) : Option (W × MH) := match a, ws with
  | .ref n, [w] => match h[n]? with | some (.lst xs) => if xs.length < sizeLine then some (.non, h.set n (.lst (xs ++ [w]))) else none | _ => none
  | _, _ => none
section
variable {X : Cx}
theorem Rws.dropLast {K : PySem.W.Frag} {R : Rn} {ws : List W} {vs : List V} (r : Rws K R ws vs) : Rws K R ws.dropLast vs.dropLast := by
  rw [List.dropLast_eq_take, List.dropLast_eq_take, r.length]
  exact r.take _
theorem ZU : Qc4 X "list.append" Jb := by
  intro pins s σ H x xs v us Q I rx rv q
  refine YO pins s σ H x xs v us Q I rx rv ?_
  obtain ⟨R, h, a, ws, w, h', rh, ra, rws, e, k⟩ := q
  unfold Jb at e
  split at e
  · rename_i n w1
    split at e
    · rename_i ys hn
      split at e
      · rename_i hl
        cases e
        obtain ⟨hlt, rfl, xv, h1, r1⟩ := rh.refAt ra hn
        obtain ⟨y, rfl, ry⟩ := YG rws
        refine ⟨_, xv, y, rfl, rfl, h1, by rw [← r1.length]; exact hl, ?_⟩
        exact k R _ _ (Ext.refl _) (rh.put hlt ⟨_, rfl, Rws.append r1 (Rws.cons ry Rws.nil)⟩) Rw.non
      · cases e
    · cases e
  · cases e
end
noncomputable def Gf (h : MH) : W → Option String
  | .non => some "NoneType"
  | .bl _ => some "bool"
  | .int _ => some "int"
  | .str _ => some "str"
  | .tup _ => some "tuple"
  | .lst _ => some "list"
  | .frz _ => some "list"
  | .ref n => match h[n]? with | some (.lst _) => some "list" | some (.dic _) => some "dict" | some (.dct _) => some "dict" | none => none
  | .ty _ => none
noncomputable def JX (k T : String) : Bool := k == T || (k == "bool" && T == "int")
noncomputable def Va (T : String) : Bool := T == "str" || T == "int" || T == "bool" || T == "list" || T == "tuple" || T == "dict"
noncomputable def QaV (ws : List W) (h : MH) : Option (W × MH) := match ws with
  | [a, .ty T] => if Va T = true then (Gf h a).map fun k => (.bl (JX k T), h) else none
  | _ => none
theorem JW {K : PySem.W.Frag} {k T : String} (hk : k = "NoneType" ∨ k = "bool" ∨ k = "int" ∨ k = "str" ∨ k = "tuple" ∨ k = "list" ∨ k = "dict") (hT : Va T = true) : PySem.W.kitOne K (.type k) (.type T) = some (JX k T) := by
  have hT' : T = "str" ∨ T = "int" ∨ T = "bool" ∨ T = "list" ∨ T = "tuple" ∨ T = "dict" := by
    unfold Va at hT
    simp only [Bool.or_eq_true, beq_iff_eq] at hT
    rcases hT with ((((h | h) | h) | h) | h) | h <;> simp [h]
  rcases hk with rfl | rfl | rfl | rfl | rfl | rfl | rfl <;> rcases hT' with rfl | rfl | rfl | rfl | rfl | rfl <;> first | rfl | decide +kernel
section
variable {X : Cx}
theorem Jk : CallR X (.builtin "isinstance") (Fs X.K QaV) := by
  intro pins s σ H xs us Q I r q
  obtain ⟨R, h, ws, w, h', rh, rws, e, k⟩ := q
  unfold QaV at e
  split at e
  · rename_i a T
    split at e
    · rename_i hT
      obtain ⟨kd, e1, e2⟩ := Option.map_eq_some_iff.mp e
      cases e2
      obtain ⟨x, y, rfl, ra, rb⟩ := Qdw rws
      obtain ⟨u, u2, rfl, ru, ru2⟩ := Qba r
      rw [rb.ty_eq] at ru2
      cases ru2
      have fin : ∀ tk, EP X pins σ Q (.bool (JX kd T)) { s with toks := tk } := fun tk => ⟨.bl _, H, I.tok _, rfl, k R H _ (Ext.refl _) rh (Rw.bl _)⟩
      have one : ∀ {t : String}, TyOf X.K H x (.type t) → kd = t → (t = "NoneType" ∨ t = "bool" ∨ t = "int" ∨ t = "str" ∨ t = "tuple" ∨ t = "list" ∨ t = "dict") → wpAny (model X.prog X.w) X.A (call (.builtin "isinstance") [u, .type T]) (EP X pins σ Q) X.xe s := fun {t} ty et ht => by
        subst et
        exact WF I ru ty (JW ht hT) fin
      cases a with
      | non => cases e1; rw [ra.non_eq] at one; exact one .non rfl (by simp)
      | bl b => cases e1; rw [ra.bl_eq] at one; exact one (.bl b) rfl (by simp)
      | int i => cases e1; rw [ra.int_eq] at one; exact one (.int i) rfl (by simp)
      | str z => cases e1; rw [ra.str_eq] at one; exact one (.str z) rfl (by simp)
      | tup ys =>
        cases e1
        obtain ⟨ad, yv, rfl, q1, _⟩ := rh.tupAt ra
        cases ru
        obtain ⟨its, _, p, _⟩ := I.tuple q1
        obtain ⟨o, h1, h2, _⟩ := p
        exact PySem.W.kia_one PySem.W.kitx_tuple I.kIn ⟨o, h1, h2⟩ (JW (by simp) hT) (fun z => nomatch z) fin
      | lst ys =>
        cases e1
        obtain ⟨ad, yv, rfl, q1, _⟩ := rh.lstAt ra
        exact one (.lst q1) rfl (by simp)
      | frz ys =>
        cases e1
        obtain ⟨ad, yv, rfl, q1, _⟩ := rh.frzAt ra
        cases ru
        obtain ⟨its, _, p, _⟩ := I.list q1
        obtain ⟨o, n, h1, h2, _⟩ := p
        exact PySem.W.kia_one PySem.W.kitx_list I.kIn ⟨o, h1, h2⟩ (JW (by simp) hT) (fun z => nomatch z) fin
      | ref n =>
        simp only [Gf] at e1
        split at e1
        · rename_i ys hn
          cases e1
          obtain ⟨_, rfl, yv, h1, _⟩ := rh.refAt ra hn
          exact one (.lst h1) rfl (by simp)
        · rename_i kvs hn
          cases e1
          unfold Rw at ra
          obtain ⟨kx, h1, _⟩ := rh.obj n _ hn
          rw [ra.2] at one
          exact one (.dK h1) rfl (by simp)
        · rename_i kvs hn
          cases e1
          unfold Rw at ra
          obtain ⟨kx, h1, _⟩ := rh.obj n _ hn
          rw [ra.2] at one
          exact one (.dT h1) rfl (by simp)
        · cases e1
      | ty _ => cases e1
    · cases e
  · cases e
end
end Mi

namespace Mi
open PySem PySem.Spec PyProof.Rows L2

structure Cal (P : Program) (w : World) (K : PySem.W.Frag) (mg : Str → Option Value) (base : Heap) (k : Nat) (x : Str) (ps : List Str) (g : FM) : Prop where
  ex : ∃ (f : Addr) (fd : FuncData), FnOk P w K mg base CX0 k f fd ps (spM K ps.length g) ∧ mg x = some (.ref f) ∧ PySem.W.keepIn K (.ref f) = true ∧ Binds K fd ps [] ∧ ∃ (oc : Value) (od : Option Addr) (osl : Array (Option Value)), K.lookup f = some ⟨oc, od, .func fd, osl⟩
structure DefAt (K : PySem.W.Frag) (mg : Str → Option Value) (x : Str) (st : Stmt) (ps : List Str) : Prop where
  ex : ∃ (f : Addr) (fd : FuncData), Fun K x x st f fd ∧ mg x = some (.ref f) ∧ Binds K fd ps []
theorem Zj {K : PySem.W.Frag} {h : Heap} {mg : Str → Option Value} {x : Str} {st : Stmt} {ps : List Str} {f : Addr} {oc : Value} {od an : Option Addr} {sl : Array (Option Value)} {kV doc pm cd ct : Value} (X : K.In h) (G : h.Ns mainGlobals mg)
    (a : PySem.W.nsIn K mainGlobals x = some (some (.ref f))) (l : K.lookup f = some ⟨oc, od, .func (PySem.W.fnOf x x (Z5 st) (Zl st) (Qm st) .none kV doc pm an cd ct), sl⟩) (c : PySem.W.codeIn K cd x = true) (k : PySem.W.keepIn K (.ref f) = true)
    (b : ∀ (kV doc pm : Value) (an : Option Addr) (cdv ct : Value) (us : List Value), us.length = ps.length → bindArgs (PySem.W.fnOf x x (Z5 st) (Zl st) (Qm st) .none kV doc pm an cdv ct) ⟨us, []⟩ = pure (ps.zip us)) : DefAt K mg x st ps :=
  ⟨f, _, G0 l c k, PySem.W.mg_of X G a, (G0 l c k).binds b⟩
structure Glob (K : PySem.W.Frag) (mg : Str → Option Value) (x : Str) (w : W) : Prop where
  ex : ∃ (v : V) (u : Value), mg x = some u ∧ RelV v u ∧ ∀ R, Rw K R w v
theorem Qde {K : PySem.W.Frag} {h : Heap} {mg : Str → Option Value} {x : Str} {i : Int} {t : Tok} (X : K.In h) (G : h.Ns mainGlobals mg) (a : PySem.W.nsIn K mainGlobals x = some (some (.int i t))) : Glob K mg x (.int i) :=
  ⟨.int i, _, PySem.W.mg_of X G a, ⟨t, rfl⟩, fun _ => Rw.int i⟩
noncomputable def QcX : List Str → List W := List.map W.str
theorem KD {K : PySem.W.Frag} {R : Rn} : ∀ (ys : List Str), Rws K R (QcX ys) (ys.map V.str)
  | [] => Rws.nil
  | y :: ys => Rws.cons (Rw.str y) (KD ys)
theorem V3 : ∀ {its : List Value} {ys : List Str}, StrsAre its ys → Vals (ys.map V.str) its
  | _, _, .nil => .nil
  | _, _, .cons y t r => .cons ⟨t, rfl⟩ (V3 r)
theorem QbN {K : PySem.W.Frag} {h : Heap} {mg : Str → Option Value} {x : Str} {c : Addr} {dd : Option Addr} {its : Array Value} {n : Nat} {sl : Array (Option Value)} {ys : List Str} (X : K.In h) (G : h.Ns mainGlobals mg) (a : PySem.W.nsIn K mainGlobals x = some (some (.ref c)))
    (l : K.lookup c = some ⟨.type "tuple", dd, .seq its n, sl⟩) (hz : its.size ≤ sizeLine) (hs : StrsAre its.toList ys) : Glob K mg x (.tup (QcX ys)) :=
  ⟨.ref c, _, PySem.W.mg_of X G a, rfl, fun R => by
    unfold Rw
    exact ⟨c, _, rfl, .inr ⟨_, its, n, l, rfl, rfl, hz, V3 hs⟩, KD ys⟩⟩
section
variable {X : Cx} {k n : Nat} {g : FM} {x : Str} {ps : List Str} {p pos : Pos} {e : Expr} {es : List Expr} {ms : MA}
theorem QG (C : Cal X.prog X.w X.K X.mg X.base k x ps g) (hr : Room k X.A) (hg : Gl X x) (ha : PMA X (e :: es) ms) (hn : ps.length = n := by rfl)
    (hdb : (x == ("__debug__" : Str)) = false := by decide) (he : ZG e = false := by rfl) (hpl : Z1 es = true := by rfl) :
    PM X (.Call (.Name x p) (e :: es) [] pos) (Zw n g ms) := by
  obtain ⟨f, fd, F, hm, hk, hb, _⟩ := C.ex
  subst hn
  exact Qaj F hr hg hm hk hb Qdn ha hdb he hpl
theorem U5 {T : String} (hg : Gl X x) (hm : X.mg x = none) (hv : bootBuiltins x = some (.type T)) (hn : x ≠ "__name__" := by decide) (hd : (x == ("__debug__" : Str)) = false := by decide) : PM X (.Name x pos) (mC (.ty T)) :=
  QaC hg hm hv (v := .ty T) rfl (fun _ => Rw.ty _) hn hd
end
section
variable {P : Program} {w : World} {K : PySem.W.Frag} {mg : Str → Option Value} {base : Heap}
theorem JE {x : Str} {st : Stmt} {N ps : List Str} {k more : Nat} {m : SM} (d : DefAt K mg x st ps) (S : FnScope N ps (Qm st)) (hN : N.length = ps.length + more)
    (hbody : ∀ (f : Addr) (cdv : Value) (A : Around) (outer : List Env) (s : Shared) (H : Hp) (E : XK), Room k (A.deeper (envOfC x (Qm st) s.heap.objs.size f cdv)) → UX (GF CX0 P w K mg base N x (Qm st) f cdv A outer s H E).nox (Zl st) m) :
    Cal P w K mg base (k + 1) x ps (Vj more m) := by
  obtain ⟨f, fd, F, hm, hb⟩ := d.ex
  obtain ⟨oc, od, kV, doc, pm, an, cdv, ct, osl, e, lk, hcd⟩ := F.ex
  exact ⟨f, fd, Qec F S hN (fun cdv A outer s H E hr => hbody f cdv A outer s H E hr), hm, F.kp, hb, oc, od, osl, lk⟩
theorem Cal.imp {x : Str} {ps : List Str} {k : Nat} {g g' : FM} (C : Cal P w K mg base k x ps g) (h : ∀ vs H Q E, spM K ps.length g' vs H Q E → spM K ps.length g vs H Q E) : Cal P w K mg base k x ps g' := by
  obtain ⟨f, fd, F, r⟩ := C.ex
  exact ⟨f, fd, F.imp h, r⟩
theorem Cal.eq {x : Str} {ps : List Str} {k : Nat} {g g' : FM} (C : Cal P w K mg base k x ps g) (h : ∀ ws hp r, ws.length = ps.length → g' ws hp = some r → g ws hp = some r) : Cal P w K mg base k x ps g' :=
  C.imp fun _ _ _ _ ⟨R, ws, hp, w, h', hl, rh, rws, e, k⟩ => ⟨R, ws, hp, w, h', hl, rh, rws, h ws hp _ hl e, k⟩
end
theorem KW {K : PySem.W.Frag} {R : Rn} : ∀ (ns : List Int), Rws K R (ns.map W.int) (ns.map V.int)
  | [] => Rws.nil
  | n :: ns => Rws.cons (Rw.int n) (KW ns)
theorem QdS {l : PySem.W.OpenLaw} {q : Program} {loose : List Str} {XP : (Str → Option Value) → Heap → Prop} {YP : World → Heap → Prop} {d : DefRec} {K : Params → PySem.W.Frag} {st : Stmt} {sem : FM} {k : Nat} (hn : l.most = some 63) (hdf : d.params.defaults = []) (hr : Room k callerA) (hdn : d.name = "law")
    (hY : ∀ (w : World) (h : Heap), YP w h → (K w.params).In h)
    (hb : ∀ (kV doc pm : Value) (an : Option Addr) (cdv ct : Value) (s : Shared) (u : Value), BindsTo s (PySem.W.fnOf "law" "law" (Z5 st) (Zl st) (Qm st) .none kV doc pm an cdv ct) ⟨[u], []⟩ [("script", u)])
    (F : ∀ (w : World) (mg : Str → Option Value) (h : Heap), (K w.params).In h → h.Ns mainGlobals mg →
      DefAt (K w.params) mg "law" st ["script"] ∧ ∀ base : Heap, (K w.params).In base → base.Ns mainGlobals mg → Cal l.prog w (K w.params) mg base k "law" ["script"] sem)
    (main : ∀ ns : List Int, ns.length ≤ 63 → ∃ h', sem [.frz (ns.map W.int)] [] = some (.bl true, h')) :
    PySem.W.WalkO q loose XP YP l.row.toRowW d [] (fun f vs => PySem.call f vs) := by
  refine L2.Qbo (n := 63) (k := k) (x := "script") (CX := fun _ => CX0) (sp := fun w => spM (K w.params) 1 sem) hn (by decide) hdf hr hY ?_ ?_ fun _ _ _ _ _ z => z
  · intro w mg fa h KX G hmg
    obtain ⟨D, Fn⟩ := F w mg h KX G
    obtain ⟨f, fd, Fu, hm, _⟩ := D.ex
    rw [hdn] at hmg
    rw [hm] at hmg
    cases hmg
    obtain ⟨oc, od, kV, doc, pm, an, cdv, ct, osl, e, lk, hcd⟩ := Fu.ex
    refine ⟨fd, fun s u => ?_, fun base kb nb => ?_⟩
    rotate_left
    · obtain ⟨f', fd', F', hm', _, _, oc', od', osl', lk'⟩ := (Fn base kb nb).ex
      rw [hm] at hm'
      cases hm'
      rw [lk] at lk'
      cases lk'
      exact F'
    rw [e]
    exact hb kV doc pm an cdv ct s u
  · intro w H a ns hl hO hS
    obtain ⟨h', e⟩ := main ns hl
    refine ⟨⟨fun _ => 0, 0, H, fun _ => none⟩, [.frz (ns.map W.int)], [], .bl true, h', rfl, ⟨rfl, fun _ _ z => z, fun n hn => absurd hn (Nat.not_lt_zero _), fun m n hm => absurd hm (Nat.not_lt_zero _), (fun n o z => by simp at z), (fun _ _ z => by cases z), (fun _ _ => rfl), (fun _ _ z => by cases z)⟩, ?_, e, fun R' H' v _ _ rv => rv.bl_eq⟩
    refine Rws.cons ?_ Rws.nil
    unfold Rw
    exact ⟨a, _, rfl, hS, KW ns⟩
end Mi

namespace Mi
open PySem PySem.Spec PyProof.Rows L2

noncomputable def Qaf (scope : Scope) : Bool := scope.names.all fun y => y.2 != .cell && (y.2 != .local || scope.names.lookup y.1 == some .local)
noncomputable def QdB (N : List Str) (xs scope : Scope) (cp : List (Option Nat)) (Nb : List Str) : Bool := (cp.zip Nb).all fun p => match p.1 with
  | none => true
  | some j => N[j]? == some p.2 && (xs.names.lookup p.2 == some .cell || xs.names.lookup p.2 == some .free) && scope.names.lookup p.2 == some .free
noncomputable def Qcd (scope : Scope) (ks : List Str) : Bool := scope.names.all fun y => y.2 != .free || ks.contains y.1
theorem Zc {env : Env} : ∀ {names : List (Str × NameKind)} {x : Str}, names.lookup x = some .free →
    (names.map fun (n, k) => if (k == NameKind.free && env.scope.kind == .function && env.kindOf n == some .cell) then (n, NameKind.cell) else (n, k)).lookup x = some .cell ∨
    (names.map fun (n, k) => if (k == NameKind.free && env.scope.kind == .function && env.kindOf n == some .cell) then (n, NameKind.cell) else (n, k)).lookup x = some .free
  | [], _, h => by simp at h
  | (n, k) :: r, x, h => by
    have ih := @Zc env r x
    rw [List.map_cons]
    dsimp only
    cases hx : x == n with
    | true =>
      simp only [List.lookup_cons, hx] at h
      cases h
      by_cases hc : (NameKind.free == NameKind.free && env.scope.kind == .function && env.kindOf n == some .cell) = true
      · rw [if_pos hc]; exact .inl (by simp [List.lookup_cons, hx])
      · rw [if_neg hc]; exact .inr (by simp [List.lookup_cons, hx])
    | false =>
      simp only [List.lookup_cons, hx] at h
      by_cases hc : (k == NameKind.free && env.scope.kind == .function && env.kindOf n == some .cell) = true
      · rw [if_pos hc]; simp only [List.lookup_cons, hx]; exact ih h
      · rw [if_neg hc]; simp only [List.lookup_cons, hx]; exact ih h
theorem Zm {env : Env} : ∀ {names : List (Str × NameKind)} {x : Str} {k' : NameKind}, (∀ y ∈ names, y.2 ≠ .cell) → (k' = .cell ∨ k' = .free) →
    (names.map fun (n, k) => if (k == NameKind.free && env.scope.kind == .function && env.kindOf n == some .cell) then (n, NameKind.cell) else (n, k)).lookup x = some k' → (x, NameKind.free) ∈ names
  | [], _, _, _, _, h => by simp at h
  | (n, k) :: r, x, k', hn, hk, h => by
    rw [List.map_cons] at h
    dsimp only at h
    have ih := @Zm env r x k' (fun y hy => hn y (List.mem_cons_of_mem _ hy)) hk
    cases hx : x == n with
    | true =>
      have : x = n := eq_of_beq hx
      subst this
      by_cases hc : (k == NameKind.free && env.scope.kind == .function && env.kindOf x == some .cell) = true
      · have : k = .free := by
          simp only [Bool.and_eq_true, beq_iff_eq] at hc; exact hc.1.1
        subst this
        exact List.mem_cons_self
      · rw [if_neg hc] at h
        simp [List.lookup_cons] at h
        subst h
        rcases hk with z | z
        · exact absurd z (hn (x, k) List.mem_cons_self)
        · subst z; exact List.mem_cons_self
    | false =>
      refine List.mem_cons_of_mem _ (ih ?_)
      by_cases hc : (k == NameKind.free && env.scope.kind == .function && env.kindOf n == some .cell) = true
      · rw [if_pos hc] at h; simpa only [List.lookup_cons, hx] using h
      · rw [if_neg hc] at h; simpa only [List.lookup_cons, hx] using h
theorem YB {cl : List (Str × Addr)} {x : Str} {c : Addr} (h : cl.lookup x = some c) : (x, c) ∈ cl := by
  induction cl with
  | nil => simp at h
  | cons p r ih =>
    obtain ⟨n, a⟩ := p
    cases hx : x == n with
    | true =>
      simp only [List.lookup_cons, hx] at h
      cases h
      rw [eq_of_beq hx]; exact List.mem_cons_self
    | false =>
      simp only [List.lookup_cons, hx] at h
      exact List.mem_cons_of_mem _ (ih h)
theorem Vx {cl : List (Str × Addr)} {x : Str} (h : x ∈ cl.map (·.1)) : ∃ c, cl.lookup x = some c := by
  induction cl with
  | nil => simp at h
  | cons p r ih =>
    obtain ⟨n, a⟩ := p
    cases hx : x == n with
    | true => exact ⟨a, by simp only [List.lookup_cons, hx]⟩
    | false =>
      rcases List.mem_cons.mp h with z | z
      · dsimp only at z; rw [z, beq_self_eq_true] at hx; cases hx
      · obtain ⟨c, hc⟩ := ih z
        exact ⟨c, by simp only [List.lookup_cons, hx]; exact hc⟩
theorem Xo {X : Cx} {scope xs : Scope} {cl : List (Str × Addr)} {N Nb ks : List Str} {cp : List (Option Nat)} (clos : closureFor scope X.env = pure cl) (kind : scope.kind = .function) (hs : Qaf scope = true) (hk : cl.map (·.1) = ks) (hks : Qcd scope ks = true)
    (hsub : ∀ p ∈ cl, X.env.cells.lookup p.1 = some p.2) (hN : X.N = N) (hx : X.env.scope = xs) (hl : cp.length = Nb.length) (hc : QdB N xs scope cp Nb = true) : BlkOk X scope cl Nb cp := by
  have hcell : ∀ y ∈ scope.names, y.2 ≠ .cell := fun y hy => by
    have := List.all_eq_true.mp hs y hy
    simp only [Bool.and_eq_true, bne_iff_ne] at this
    exact this.1
  refine ⟨clos, hcell, kind, fun y hy hl => ?_, fun x c h => hsub _ (YB h), fun x h => ?_, hl, fun i j x h1 h2 => ?_⟩
  · have := List.all_eq_true.mp hs y hy
    simp only [Bool.and_eq_true, Bool.or_eq_true, bne_iff_ne, beq_iff_eq] at this
    rcases this.2 with z | z
    · exact absurd hl z
    · exact z
  · have hm : (x, NameKind.free) ∈ scope.names := by
      rcases h with h | h
      · exact Zm hcell (.inl rfl) h
      · exact Zm hcell (.inr rfl) h
    have := List.all_eq_true.mp hks _ hm
    simp only [Bool.or_eq_true, bne_iff_ne, ne_eq, not_true_eq_false, false_or, List.contains_iff_mem] at this
    exact Vx (by rw [hk]; exact this)
  · have hz : (cp.zip Nb)[i]? = some (some j, x) := by rw [List.getElem?_zip_eq_some]; exact ⟨h1, h2⟩
    have := List.all_eq_true.mp hc _ (List.mem_of_getElem? hz)
    simp only [Bool.and_eq_true, Bool.or_eq_true, beq_iff_eq] at this
    obtain ⟨⟨a, b⟩, c⟩ := this
    refine ⟨by rw [hN]; exact a, ?_, ?_, Zc c⟩
    · rw [hx]
      rcases b with b | b
      · exact .inr (.inl b)
      · exact .inr (.inr b)
    · unfold Env.kindOf
      rw [hx]; exact b
end Mi

namespace Mi
open PySem PySem.Spec PyProof.Rows L2
theorem Zp (items : List W) (h : MH) : live none items h := fun _ z => by cases z
theorem Jz {fin : List W → MH → Option (W × MH)} {items : List W} {mt : MT} {me : ME} {caps : MSt} {h : MH} {f : W → W} {p : W → Bool} : ∀ (rest acc : List W) (o : Option W),
    (∀ w ∈ rest, mt (some w :: caps) h = some (p w, h)) → (∀ w ∈ rest, p w = true → me (some w :: caps) h = some (f w, h)) → acc.length + rest.length ≤ sizeLine →
    ZC fin items none (Jd 0) mt me rest acc (o :: caps) h = fin (acc ++ (rest.filter p).map f) h
  | [], acc, o, _, _, _ => by
    unfold ZC
    rw [if_pos (Zp _ _)]; simp
  | w :: rest, acc, o, ht, he, hl => by
    unfold ZC
    rw [if_pos (Zp _ _)]
    have h1 : Jd 0 w (o :: caps) h = some (some w :: caps) := rfl
    rw [h1, Option.bind_some, ht w List.mem_cons_self, Option.bind_some]
    have hl' : acc.length + (rest.length + 1) ≤ sizeLine := by simpa using hl
    cases hp : p w with
    | true =>
      simp only [hp]
      rw [he w List.mem_cons_self hp, Option.bind_some, if_pos (by omega)]
      rw [Jz rest (acc ++ [f w]) (some w) (fun x hx => ht x (List.mem_cons_of_mem _ hx)) (fun x hx => he x (List.mem_cons_of_mem _ hx)) (by simp; omega)]
      simp [List.filter_cons, hp]
    | false =>
      simp only [hp]
      rw [Jz rest acc (some w) (fun x hx => ht x (List.mem_cons_of_mem _ hx)) (fun x hx => he x (List.mem_cons_of_mem _ hx)) (by omega)]
      simp [List.filter_cons, hp]
theorem UH {items : List W} {b : MG} {body : SM} {σ : MSt} {h : MH} : Jl items none b body [] σ h = some (.nx σ h) := by
  rw [Jl, if_pos (Zp _ _)]
end Mi

namespace Mi
open PySem PySem.Spec PyProof.Rows L2
section
variable {σ σ1 : MSt} {h h1 h2 h3 : MH} {a b c w : W} {ws : List W} {ma mb mc : ME} {ms : MA} {mt mu : MT} {s1 s2 : SM} {f f' : W → W → MH → Option (W × MH)} {g : List W → MH → Option (W × MH)} {z : MF}
theorem Qdo : Qt σ h = some ([], h) := rfl
theorem QbZ (e1 : ma σ h = some (a, h1)) (e2 : ms σ h1 = some (ws, h2)) : Qd ma ms σ h = some (a :: ws, h2) := by unfold Qd; rw [e1, Option.bind_some, e2]; rfl
theorem Qb5 (e1 : ma σ h = some (a, h1)) (e2 : mb σ h1 = some (b, h2)) : Ql f ma mb σ h = f a b h2 := by unfold Ql; rw [e1, Option.bind_some, e2]; rfl
end
theorem Y0 {i j : Int} {h : MH} (c : (-(2 ^ 64) < i ∧ i < 2 ^ 64) ∨ (-(2 ^ 64) < j ∧ j < 2 ^ 64)) : Qb3 (.int i) (.int j) h = some (.int (i * j), h) := by unfold Qb3; exact if_pos c
theorem QaY {i j : Int} {h : MH} (c : 0 < j ∧ j < 1073741824) : JN (.int i) (.int j) h = some (.int (i / j), h) := by unfold JN; exact if_pos c
theorem Qa2 {i j : Int} {h : MH} (c : 0 < j) : Ju (.int i) (.int j) h = some (.int (i % j), h) := by unfold Ju; exact if_pos c
theorem Y2 {i j : Int} {h : MH} (c : 0 ≤ j ∧ j ≤ 1000000 ∧ i.natAbs < 2 ^ 64) : Qas (.int i) (.int j) h = some (.int (i ^ j.toNat), h) := by unfold Qas; exact if_pos c
theorem G1 {α : Type} {xs : List α} {i : Int} (h0 : 0 ≤ i) (h1 : i < xs.length) : ∃ x ∈ xs, atI xs i = some x := by
  have hn : i.toNat < xs.length := by omega
  refine ⟨xs[i.toNat], List.getElem_mem hn, ?_⟩
  obtain ⟨n, rfl⟩ : ∃ n : Nat, i = n := ⟨i.toNat, by omega⟩
  exact Wv (List.getElem?_eq_getElem hn)
end Mi

namespace Mi
open PySem PySem.Spec PyProof.Rows L2
section
variable {X : Cx} {o i e : Expr} {mo mi mv : ME} {pos pos' : Pos}
end
section
variable {X : Cx} {o i e : Expr} {mo mi mv : ME} {pos pos' : Pos}
end
end Mi

namespace Mi
open PySem PySem.Spec PyProof.Rows L2
end Mi

namespace Mi
open PySem PySem.Spec PyProof.Rows L2 PySem.SeqAt
end Mi

namespace Mi
open PySem PySem.Spec PyProof.Rows L2
inductive TabIs : List DictEntry → List (Str × Int) → Prop where
  | nil : TabIs [] []
  | cons {e : DictEntry} {x : Str} {i : Int} {t t' : Tok} {es : List DictEntry} {tab : List (Str × Int)} (hk : e.key = .str x t) (hv : e.val = .int i t') (r : TabIs es tab) : TabIs (e :: es) ((x, i) :: tab)
structure GTab (w : World) (K : PySem.W.Frag) (mg : Str → Option Value) (x : Str) (tab : List (Str × Int)) : Prop where
  ex : ∃ (a : Addr) (es : List DictEntry) (n : Nat), mg x = some (.ref a) ∧ K.lookup a = some ⟨.type "dict", none, .dict es.toArray n, #[]⟩ ∧ PySem.W.KeysLit w.params es ∧ (a == sysModules) = false ∧ TabIs es tab
theorem Qdy {w : World} {K : PySem.W.Frag} {h : Heap} {mg : Str → Option Value} {x : Str} {c : Addr} {es : List DictEntry} {n : Nat} {tab : List (Str × Int)} (X : K.In h) (G : h.Ns mainGlobals mg) (a : PySem.W.nsIn K mainGlobals x = some (some (.ref c)))
    (l : K.lookup c = some ⟨.type "dict", none, .dict es.toArray n, #[]⟩) (k : PySem.W.KeysLit w.params es) (s : (c == sysModules) = false) (t : TabIs es tab) : GTab w K mg x tab :=
  ⟨c, es, n, PySem.W.mg_of X G a, l, k, s, t⟩
section
variable {X : Cx} {c : Addr} {es : List DictEntry} {n : Nat} {tab : List (Str × Int)}
variable {a : Expr} {ma : ME} {x : Str} {pos pos' : Pos}
end
end Mi

namespace Mi
open PySem PySem.Spec PyProof.Rows L2
theorem QaM (a b : Int) (h : MH) : wEq (.int a) (.int b) h = some (.bl (a == b), h) := by unfold wEq; simp [drf, eqW]
theorem Qa9 (a b : Int) (h : MH) : wNe (.int a) (.int b) h = some (.bl (!(a == b)), h) := by unfold wNe; simp [drf, eqW]
end Mi

namespace Mi
open PySem PySem.Spec PyProof.Rows L2
end Mi

namespace Mi
open PySem PySem.Spec PyProof.Rows L2
section
variable {X : Cx} {tg : Expr}
end
section
variable {K : PySem.W.Frag} {R : Rn}
end
section
variable {X : Cx} {tg a b d : Expr} {ms : MA} {p pos : Pos}
end
end Mi

namespace Mi
open PySem PySem.Spec PyProof.Rows L2
section
variable {K : PySem.W.Frag} {R : Rn}
noncomputable abbrev DicR (K : PySem.W.Frag) (R : Rn) : List (Key × W) → List (Key × V) → Prop := Paired fun p q => p.1 = q.1 ∧ Rw K R p.2 q.2
end
section
variable {X : Cx} {o i e a b : Expr} {mo mi mv ma mb : ME} {pos pos' : Pos}
end
end Mi

namespace Mi
open PySem PySem.Spec PyProof.Rows L2
end Mi

namespace Mi
open PySem PySem.Spec PyProof.Rows L2
mutual
noncomputable def pur : W → Bool
  | .tup ws => Zs ws
  | .lst ws => Zs ws
  | .frz ws => Zs ws
  | .ref _ => false
  | _ => true
noncomputable def Zs : List W → Bool
  | [] => true
  | w :: ws => pur w && Zs ws
end
noncomputable def Qc9 : MO → Bool
  | .lst ws => Zs ws
  | .dic kvs => Zs (kvs.map (·.2))
  | .dct kvs => Zs (kvs.map (·.2))
mutual
noncomputable def th (f : Nat → Option W) : W → Option W
  | .tup ws => (ths f ws).map .tup
  | .lst ws => (ths f ws).map .lst
  | .frz ws => (ths f ws).map .frz
  | .ref j => f j
  | w => some w
noncomputable def ths (f : Nat → Option W) : List W → Option (List W)
  | [] => some []
  | w :: ws => (th f w).bind fun x => (ths f ws).map (x :: ·)
end
noncomputable def thO (f : Nat → Option W) : MO → Option MO
  | .lst ws => (ths f ws).map .lst
  | .dic kvs => (ths f (kvs.map (·.2))).map fun vs => .dic ((kvs.map (·.1)).zip vs)
  | .dct kvs => (ths f (kvs.map (·.2))).map fun vs => .dct ((kvs.map (·.1)).zip vs)
noncomputable def res (kp : Nat → Option Nat) (g : MH) : Nat → Nat → Option W
  | 0, j => (kp j).map .ref
  | d + 1, j => match kp j with
    | some n => some (.ref n)
    | none => match g[j]? with
      | some (.lst ws) => (ths (res kp g d) ws).map .lst
      | _ => none
noncomputable def Vg (ns js : List Nat) (N j : Nat) : Option Nat := match ns[j]? with
  | some n => some n
  | none => (js.findIdx? (· == j)).map (N + ·)
noncomputable def XF : Nat → List W → Option (List W × List Nat)
  | _, [] => some ([], [])
  | k, .ref n :: ws => (XF (k + 1) ws).map fun p => (.ref k :: p.1, n :: p.2)
  | k, w :: ws => if pur w then (XF k ws).map fun p => (w :: p.1, p.2) else none
noncomputable def QC : List Nat → List MO → MH → MH
  | n :: ns, o :: os, h => QC ns os (h.set n o)
  | _, _, h => h
noncomputable def Qdb (h : MH) (n : Nat) : Option MO := match h[n]? with | some o => if Qc9 o then some o else none | none => none
noncomputable def Qby (fr : W → List Nat) (m : FM) (as : List W) (ns : List Nat) (h : MH) : Option (W × MH) :=
  if ns.Nodup then (Q6 (Qdb h) ns).bind fun h0 => (m as h0).bind fun p =>
    if (fr p.1).Nodup ∧ (∀ j ∈ fr p.1, ns.length ≤ j) then
      (th (res (Vg ns (fr p.1) h.length) p.2 3) p.1).bind fun w =>
      (Q6 (fun j => (p.2[j]?).bind (thO (res (Vg ns (fr p.1) h.length) p.2 3))) (List.range ns.length)).bind fun os =>
      (Q6 (fun j => (p.2[j]?).bind (thO (res (Vg ns (fr p.1) h.length) p.2 3))) (fr p.1)).map fun us =>
      (w, QC ns os h ++ us)
    else none
  else none
noncomputable def box (fr : W → List Nat) (m : FM) : FM := fun ws h => (XF 0 ws).bind fun a => Qby fr m a.1 a.2 h
section
variable {K : PySem.W.Frag} {R R' : Rn}
mutual
theorem Rw.pur_mono (hf : ∀ a o, R.F a = some o → R'.F a = some o) : ∀ (w : W) (v : V), pur w = true → Rw K R w v → Rw K R' w v
  | .non, _, _, h => by unfold Rw at h ⊢; exact h
  | .bl _, _, _, h => by unfold Rw at h ⊢; exact h
  | .int _, _, _, h => by unfold Rw at h ⊢; exact h
  | .str _, _, _, h => by unfold Rw at h ⊢; exact h
  | .ty _, _, _, h => by unfold Rw at h ⊢; exact h
  | .tup ws, _, p, h => by
    unfold Rw at h ⊢
    obtain ⟨a, xs, e1, e2, e3⟩ := h
    exact ⟨a, xs, e1, Zz hf e2, Rws.pur_mono hf ws xs (by unfold pur at p; exact p) e3⟩
  | .lst ws, _, p, h => by
    unfold Rw at h ⊢
    obtain ⟨a, xs, e1, e2, e3⟩ := h
    exact ⟨a, xs, e1, hf a _ e2, Rws.pur_mono hf ws xs (by unfold pur at p; exact p) e3⟩
  | .frz ws, _, p, h => by
    unfold Rw at h ⊢
    obtain ⟨a, xs, e1, e2, e3⟩ := h
    exact ⟨a, xs, e1, QS hf e2, Rws.pur_mono hf ws xs (by unfold pur at p; exact p) e3⟩
  | .ref n, _, p, h => by unfold pur at p; cases p
theorem Rws.pur_mono (hf : ∀ a o, R.F a = some o → R'.F a = some o) : ∀ (ws : List W) (vs : List V), Zs ws = true → Rws K R ws vs → Rws K R' ws vs
  | [], _, _, h => by unfold Rws at h ⊢; exact h
  | w :: ws, _, p, h => by
    unfold Rws at h ⊢
    obtain ⟨v, vs', e1, e2, e3⟩ := h
    unfold Zs at p
    rw [Bool.and_eq_true] at p
    exact ⟨v, vs', e1, Rw.pur_mono hf w v p.1 e2, Rws.pur_mono hf ws vs' p.2 e3⟩
end
mutual
theorem Rw.th_ok {f : Nat → Option W} (hf : ∀ a o, R.F a = some o → R'.F a = some o) (hr : ∀ j v w, Rw K R (.ref j) v → f j = some w → Rw K R' w v) : ∀ (w : W) (v : V) (w' : W), th f w = some w' → Rw K R w v → Rw K R' w' v
  | .non, _, _, e, h => by unfold th at e; cases e; unfold Rw at h ⊢; exact h
  | .bl _, _, _, e, h => by unfold th at e; cases e; unfold Rw at h ⊢; exact h
  | .int _, _, _, e, h => by unfold th at e; cases e; unfold Rw at h ⊢; exact h
  | .str _, _, _, e, h => by unfold th at e; cases e; unfold Rw at h ⊢; exact h
  | .ty _, _, _, e, h => by unfold th at e; cases e; unfold Rw at h ⊢; exact h
  | .tup ws, _, _, e, h => by
    unfold th at e
    obtain ⟨us, h1, h2⟩ := Option.map_eq_some_iff.mp e
    subst h2
    unfold Rw at h ⊢
    obtain ⟨a, xs, e1, e2, e3⟩ := h
    exact ⟨a, xs, e1, Zz hf e2, Rws.th_ok hf hr ws xs us h1 e3⟩
  | .lst ws, _, _, e, h => by
    unfold th at e
    obtain ⟨us, h1, h2⟩ := Option.map_eq_some_iff.mp e
    subst h2
    unfold Rw at h ⊢
    obtain ⟨a, xs, e1, e2, e3⟩ := h
    exact ⟨a, xs, e1, hf a _ e2, Rws.th_ok hf hr ws xs us h1 e3⟩
  | .frz ws, _, _, e, h => by
    unfold th at e
    obtain ⟨us, h1, h2⟩ := Option.map_eq_some_iff.mp e
    subst h2
    unfold Rw at h ⊢
    obtain ⟨a, xs, e1, e2, e3⟩ := h
    exact ⟨a, xs, e1, QS hf e2, Rws.th_ok hf hr ws xs us h1 e3⟩
  | .ref n, v, w', e, h => by unfold th at e; exact hr n v w' h e
theorem Rws.th_ok {f : Nat → Option W} (hf : ∀ a o, R.F a = some o → R'.F a = some o) (hr : ∀ j v w, Rw K R (.ref j) v → f j = some w → Rw K R' w v) : ∀ (ws : List W) (vs : List V) (ws' : List W), ths f ws = some ws' → Rws K R ws vs → Rws K R' ws' vs
  | [], _, _, e, h => by unfold ths at e; cases e; unfold Rws at h ⊢; exact h
  | w :: ws, _, _, e, h => by
    unfold ths at e
    obtain ⟨x, h1, h2⟩ := Option.bind_eq_some_iff.mp e
    obtain ⟨us, h3, h4⟩ := Option.map_eq_some_iff.mp h2
    subst h4
    unfold Rws at h
    obtain ⟨v, vs', e1, e2, e3⟩ := h
    subst e1
    exact Rws.cons (Rw.th_ok hf hr w v x h1 e2) (Rws.th_ok hf hr ws vs' us h3 e3)
end
theorem DicR.vals : ∀ {kvs : List (Key × W)} {kx : List (Key × V)}, Paired (fun p q => p.1 = q.1 ∧ Rw K R p.2 q.2) kvs kx → Rws K R (kvs.map (·.2)) (kx.map (·.2)) ∧ kvs.map (·.1) = kx.map (·.1)
  | _, _, .nil => ⟨Rws.nil, rfl⟩
  | _, _, .cons h t => by
    obtain ⟨a, b⟩ := DicR.vals t
    exact ⟨Rws.cons h.2 a, by rw [List.map_cons, List.map_cons, b, h.1]⟩
theorem DicR.zip : ∀ {ks : List Key} {kx : List (Key × V)} {us : List W}, ks = kx.map (·.1) → Rws K R us (kx.map (·.2)) → Paired (fun p q => p.1 = q.1 ∧ Rw K R p.2 q.2) (ks.zip us) kx
  | _, [], us, e, h => by
    subst e
    exact .nil
  | _, q :: kx, us, e, h => by
    subst e
    rw [List.map_cons] at h
    cases us with
    | nil => rw [Rws.nil_iff] at h; cases h
    | cons u us =>
      rw [Rws.cons_iff] at h
      obtain ⟨v, vs, e1, e2, e3⟩ := h
      cases e1
      exact .cons ⟨rfl, e2⟩ (DicR.zip rfl e3)
theorem KB : ∀ (n : Nat) (w : W) (k : Tr), VY n w = some k → pur w = true
  | 0, _, _, e => by simp [VY] at e
  | n + 1, w, k, e => by
    cases w with
    | tup ws =>
      simp only [VY] at e
      obtain ⟨ks, e1, hk⟩ := Option.map_eq_some_iff.mp e
      unfold pur
      clear e hk
      induction ws generalizing ks with
      | nil => rfl
      | cons x ws ih =>
        rw [List.mapM_cons] at e1
        obtain ⟨k1, h1, e2⟩ := Option.bind_eq_some_iff.mp e1
        obtain ⟨ks1, h2, _⟩ := Option.bind_eq_some_iff.mp e2
        unfold Zs
        rw [KB n x k1 h1, ih ks1 h2]; rfl
    | lst ws => simp [VY] at e
    | frz ws => simp [VY] at e
    | ref j => simp [VY] at e
    | _ => rfl
theorem WX {w : W} {k : Tr} (e : nrm w = some k) : pur w = true := by
  cases w with
  | tup ws => exact KB 8 _ k e
  | _ => cases e
theorem DctR.vals : ∀ {kvs : List (W × W)} {kx : List (Tr × Addr × V)}, Paired (fun p q => Rw K R p.1 (.ref q.2.1) ∧ nrm p.1 = some q.1 ∧ Rw K R p.2 q.2.2) kvs kx → Rws K R (kvs.map (·.2)) (kx.map (·.2.2)) ∧ Paired (fun p q => Rw K R p (.ref q.2.1) ∧ nrm p = some q.1) (kvs.map (·.1)) kx
  | _, _, .nil => ⟨Rws.nil, .nil⟩
  | _, _, .cons h t => by
    obtain ⟨a, b⟩ := DctR.vals t
    exact ⟨Rws.cons h.2.2 a, .cons ⟨h.1, h.2.1⟩ b⟩
theorem DctR.zip : ∀ {ks : List W} {kx : List (Tr × Addr × V)} {us : List W}, Paired (fun p q => Rw K R p (.ref q.2.1) ∧ nrm p = some q.1) ks kx → Rws K R us (kx.map (·.2.2)) → Paired (fun p q => Rw K R p.1 (.ref q.2.1) ∧ nrm p.1 = some q.1 ∧ Rw K R p.2 q.2.2) (ks.zip us) kx
  | _, [], us, .nil, h => .nil
  | _, q :: kx, us, .cons e t, h => by
    rw [List.map_cons] at h
    cases us with
    | nil => rw [Rws.nil_iff] at h; cases h
    | cons u us =>
      rw [Rws.cons_iff] at h
      obtain ⟨v, vs, e1, e2, e3⟩ := h
      cases e1
      exact .cons ⟨e.1, e.2, e2⟩ (DctR.zip t e3)
theorem Kz {f : Nat → Option W} (hf : ∀ a o, R.F a = some o → R'.F a = some o) (hr : ∀ j v w, Rw K R (.ref j) v → f j = some w → Rw K R' w v) {o o' : MO} {u : Option HO} (e : thO f o = some o') (h : Ro K R o u) : Ro K R' o' u := by
  cases o with
  | lst ws =>
    unfold thO at e
    obtain ⟨us, h1, h2⟩ := Option.map_eq_some_iff.mp e
    subst h2
    obtain ⟨xs, e1, e2⟩ := h
    exact ⟨xs, e1, Rws.th_ok hf hr ws xs us h1 e2⟩
  | dic kvs =>
    unfold thO at e
    obtain ⟨us, h1, h2⟩ := Option.map_eq_some_iff.mp e
    subst h2
    obtain ⟨kx, e1, e2⟩ := h
    obtain ⟨a, b⟩ := DicR.vals e2
    exact ⟨kx, e1, DicR.zip b (Rws.th_ok hf hr _ _ us h1 a)⟩
  | dct kvs =>
    unfold thO at e
    obtain ⟨us, h1, h2⟩ := Option.map_eq_some_iff.mp e
    subst h2
    obtain ⟨kx, e1, e2⟩ := h
    obtain ⟨a, b⟩ := DctR.vals e2
    exact ⟨kx, e1, DctR.zip (Paired.mapP b fun p q z => ⟨Rw.pur_mono hf _ _ (WX z.2) z.1, z.2⟩) (Rws.th_ok hf hr _ _ us h1 a)⟩
theorem X7 (hf : ∀ a o, R.F a = some o → R'.F a = some o) {o : MO} {u : Option HO} (p : Qc9 o = true) (h : Ro K R o u) : Ro K R' o u := by
  cases o with
  | lst ws =>
    obtain ⟨xs, e1, e2⟩ := h
    exact ⟨xs, e1, Rws.pur_mono hf ws xs p e2⟩
  | dic kvs =>
    obtain ⟨kx, e1, e2⟩ := h
    refine ⟨kx, e1, ?_⟩
    have p' : Zs (kvs.map (·.2)) = true := p
    clear p e1
    revert p'
    induction e2 with
    | nil => exact fun _ => .nil
    | cons h t ih =>
      intro p'
      rw [List.map_cons] at p'
      unfold Zs at p'
      rw [Bool.and_eq_true] at p'
      exact .cons ⟨h.1, Rw.pur_mono hf _ _ p'.1 h.2⟩ (ih p'.2)
  | dct kvs =>
    obtain ⟨kx, e1, e2⟩ := h
    refine ⟨kx, e1, ?_⟩
    have p' : Zs (kvs.map (·.2)) = true := p
    clear p e1
    revert p'
    induction e2 with
    | nil => exact fun _ => .nil
    | cons h t ih =>
      intro p'
      rw [List.map_cons] at p'
      unfold Zs at p'
      rw [Bool.and_eq_true] at p'
      exact .cons ⟨Rw.pur_mono hf _ _ (WX h.2.1) h.1, h.2.1, Rw.pur_mono hf _ _ p'.1 h.2.2⟩ (ih p'.2)
theorem XS {R0 : Rn} (hf : ∀ a o, R.F a = some o → R0.F a = some o) {all : List Nat} (hρ : ∀ (i n : Nat), all[i]? = some n → i < R0.N ∧ R0.ρ i = R.ρ n) : ∀ {ws : List W} {vs : List V} {pre : List Nat} {as : List W} {ns : List Nat}, XF pre.length ws = some (as, ns) → all = pre ++ ns → Rws K R ws vs → Rws K R0 as vs
  | [], vs, pre, as, ns, e, ha, h => by
    unfold XF at e; cases e
    rw [Rws.nil_iff] at h; subst h
    exact Rws.nil
  | w :: ws, vs, pre, as, ns, e, ha, h => by
    rw [Rws.cons_iff] at h
    obtain ⟨v, vs', rfl, h1, h2⟩ := h
    by_cases hw : ∃ n, w = .ref n
    · obtain ⟨n, rfl⟩ := hw
      unfold XF at e
      obtain ⟨⟨as', ns'⟩, e1, e2⟩ := Option.map_eq_some_iff.mp e
      cases e2
      refine Rws.cons ?_ (XS hf hρ (pre := pre ++ [n]) (ns := ns') (by rw [List.length_append]; exact e1) (by rw [ha]; simp) h2)
      obtain ⟨z1, z2⟩ := hρ pre.length n (by rw [ha]; simp)
      unfold Rw at h1 ⊢
      exact ⟨z1, by rw [z2]; exact h1.2⟩
    · have e' : (if pur w then (XF pre.length ws).map fun p => (w :: p.1, p.2) else none) = some (as, ns) := by
        rw [← e]
        cases w <;> first | (exact absurd ⟨_, rfl⟩ hw) | (conv => rhs; unfold XF)
      split at e'
      · rename_i hp
        obtain ⟨⟨as', ns'⟩, e1, e2⟩ := Option.map_eq_some_iff.mp e'
        cases e2
        exact Rws.cons (Rw.pur_mono hf w v hp h1) (XS hf hρ e1 ha h2)
      · cases e'
theorem QP : ∀ (ns : List Nat) (os : List MO) (h : MH), (QC ns os h).length = h.length
  | [], _, h => by unfold QC; rfl
  | _ :: _, [], h => by unfold QC; rfl
  | n :: ns, o :: os, h => by unfold QC; rw [QP ns os, List.length_set]
theorem Z2 : ∀ (ns : List Nat) (os : List MO) (h : MH) (n : Nat), n ∉ ns → (QC ns os h)[n]? = h[n]?
  | [], _, h, n, _ => by unfold QC; rfl
  | _ :: _, [], h, n, _ => by unfold QC; rfl
  | m :: ns, o :: os, h, n, hn => by
    unfold QC
    rw [Z2 ns os _ n (fun z => hn (List.mem_cons_of_mem _ z)), List.getElem?_set_ne (fun z => hn (by rw [z]; exact List.mem_cons_self))]
theorem Vt : ∀ (ns : List Nat) (os : List MO) (h : MH) (i n : Nat), ns.Nodup → ns.length = os.length → ns[i]? = some n → n < h.length → (QC ns os h)[n]? = os[i]?
  | [], _, h, i, n, _, _, e, _ => by simp at e
  | m :: ns, [], h, i, n, _, hl, _, _ => by simp at hl
  | m :: ns, o :: os, h, 0, n, hd, hl, e, hn => by
    simp at e; subst e
    unfold QC
    rw [Z2 ns os _ m (List.nodup_cons.mp hd).1, List.getElem?_set_self hn]; rfl
  | m :: ns, o :: os, h, i + 1, n, hd, hl, e, hn => by
    unfold QC
    rw [Vt ns os (h.set m o) i n (List.nodup_cons.mp hd).2 (by simpa using hl) (by simpa using e) (by rw [List.length_set]; exact hn)]
    simp
end
end Mi

namespace Mi
open PySem PySem.Spec PyProof.Rows L2
theorem VS : ∀ {ws : List W} {k : Nat} {as : List W} {ns : List Nat}, XF k ws = some (as, ns) → as.length = ws.length
  | [], k, as, ns, e => by unfold XF at e; cases e; rfl
  | w :: ws, k, as, ns, e => by
    cases w <;> unfold XF at e <;> first
      | (obtain ⟨⟨as', ns'⟩, e1, e2⟩ := Option.map_eq_some_iff.mp e
         cases e2
         simp [VS e1])
      | (split at e
         · obtain ⟨⟨as', ns'⟩, e1, e2⟩ := Option.map_eq_some_iff.mp e
           cases e2
           simp [VS e1]
         · cases e)
theorem V6 {js : List Nat} {j i : Nat} (e : js.findIdx? (· == j) = some i) : js[i]? = some j := by
  rw [List.findIdx?_eq_some_iff_getElem] at e
  obtain ⟨h, h1, _⟩ := e
  rw [List.getElem?_eq_getElem h]
  simp at h1
  rw [h1]
theorem Xf {js : List Nat} {j : Nat} (e : js.findIdx? (· == j) = none) : j ∉ js := by
  rw [List.findIdx?_eq_none_iff] at e
  intro z
  have := e j z
  simp at this
theorem Ue {h : MH} {n : Nat} {o : MO} (e : Qdb h n = some o) : h[n]? = some o ∧ Qc9 o = true := by
  unfold Qdb at e
  split at e
  · rename_i o' h'
    split at e
    · rename_i hp; cases e; exact ⟨h', hp⟩
    · cases e
  · cases e
theorem Xu {js : List Nat} (h : js.Nodup) {i i' j : Nat} (e : js[i]? = some j) (e' : js[i']? = some j) : i = i' :=
  (List.getElem?_inj (List.getElem?_eq_some_iff.mp e).1 h).mp (e.trans e'.symm)
section
variable {K : PySem.W.Frag}
open Classical in
theorem QcB {n : Nat} {fr : W → List Nat} {m : FM} {vs : List V} {H : Hp} {Q : VK} {E : XK} (q : spM K n (box fr m) vs H Q E) : spM K n m vs H Q E := by
  obtain ⟨R, ws, h, wx, h2, hl, rh, rws, e, k⟩ := q
  unfold box at e
  obtain ⟨⟨as, ns⟩, e1, e2⟩ := Option.bind_eq_some_iff.mp e
  unfold Qby at e2
  split at e2
  case isFalse => cases e2
  rename_i hd
  obtain ⟨h0, e3, e4⟩ := Option.bind_eq_some_iff.mp e2
  obtain ⟨⟨w, g⟩, e5, e6⟩ := Option.bind_eq_some_iff.mp e4
  dsimp only at e6
  split at e6
  case isFalse => cases e6
  rename_i hj
  obtain ⟨hjd, hjk⟩ := hj
  obtain ⟨wy, e7, e8⟩ := Option.bind_eq_some_iff.mp e6
  obtain ⟨os, e9, e10⟩ := Option.bind_eq_some_iff.mp e8
  obtain ⟨us, e11, e12⟩ := Option.map_eq_some_iff.mp e10
  cases e12
  generalize hjs : fr w = js at *
  have hns : ∀ (i x : Nat), ns[i]? = some x → x < R.N ∧ ∃ o, h[x]? = some o ∧ h0[i]? = some o ∧ Qc9 o = true := fun i x hx => by
    obtain ⟨o, z1, z2⟩ := (Qr e3).2 i x hx
    obtain ⟨z3, z4⟩ := Ue z2
    exact ⟨by rw [rh.len]; exact (List.getElem?_eq_some_iff.mp z3).1, o, z3, z1, z4⟩
  have hmem : ∀ x, x ∈ ns → ∃ i : Nat, ns[i]? = some x := fun x hx => List.mem_iff_getElem?.mp hx
  let R0 : Rn := { ρ := fun i => R.ρ (ns.getD i 0), N := ns.length, F := R.F, G := fun a => if ∃ x, x < R.N ∧ x ∉ ns ∧ R.ρ x = a then H a else R.G a }
  have hρ : ∀ (i x : Nat), ns[i]? = some x → i < R0.N ∧ R0.ρ i = R.ρ x := fun i x hx => by
    refine ⟨(List.getElem?_eq_some_iff.mp hx).1, ?_⟩
    show R.ρ (ns.getD i 0) = _
    rw [List.getD_eq_getElem?_getD, hx]; rfl
  have hat : ∀ i : Nat, i < ns.length → ∃ x, ns[i]? = some x := fun i hi => ⟨ns[i], List.getElem?_eq_getElem hi⟩
  have hGo : ∀ x, x < R.N → x ∉ ns → R0.G (R.ρ x) = H (R.ρ x) := fun x hx hn => if_pos ⟨x, hx, hn, rfl⟩
  have hGs : ∀ a o, R.G a = some o → R0.G a = some o := fun a o z => by
    show (if ∃ x, x < R.N ∧ x ∉ ns ∧ R.ρ x = a then H a else R.G a) = some o
    split
    · exact rh.gsub a o z
    · exact z
  have rh0 : Rh K R0 h0 H := by
    refine ⟨(Qr e3).1, rh.sub, fun i hi => ?_, fun i j hi hj ee => ?_, fun i o hi => ?_, fun a o ha => ?_, fun i hi => ?_, fun a o ha => ?_⟩
    · obtain ⟨x, hx⟩ := hat i hi
      rw [(hρ i x hx).2]
      exact rh.sep x (hns i x hx).1
    · obtain ⟨x, hx⟩ := hat i hi
      obtain ⟨y, hy⟩ := hat j hj
      rw [(hρ i x hx).2, (hρ j y hy).2] at ee
      have := rh.inj x y (hns i x hx).1 (hns j y hy).1 ee
      subst this
      exact Xu hd hx hy
    · have hi' : i < ns.length := by rw [(Qr e3).1]; exact (List.getElem?_eq_some_iff.mp hi).1
      obtain ⟨x, hx⟩ := hat i hi'
      obtain ⟨_, o', z1, z2, z3⟩ := hns i x hx
      rw [hi] at z2; cases z2
      rw [(hρ i x hx).2]
      exact X7 (R := R) (R' := R0) (fun _ _ z => z) z3 (rh.obj x o z1)
    · have ha' : (if ∃ x, x < R.N ∧ x ∉ ns ∧ R.ρ x = a then H a else R.G a) = some o := ha
      split at ha'
      · exact ha'
      · exact rh.gsub a o ha'
    · obtain ⟨x, hx⟩ := hat i hi
      rw [(hρ i x hx).2]
      show (if ∃ y, y < R.N ∧ y ∉ ns ∧ R.ρ y = R.ρ x then H (R.ρ x) else R.G (R.ρ x)) = none
      rw [if_neg]
      · exact rh.gsep x (hns i x hx).1
      · rintro ⟨y, hy, hyn, ey⟩
        have := rh.inj y x hy (hns i x hx).1 ey
        subst this
        exact hyn (List.mem_iff_getElem?.mpr ⟨i, hx⟩)
    · have ha' : (if ∃ x, x < R.N ∧ x ∉ ns ∧ R.ρ x = a then H a else R.G a) = some o := ha
      split at ha'
      · rename_i hx
        obtain ⟨x, hx, _, rfl⟩ := hx
        exact rh.sep x hx
      · exact rh.gf a o ha'
  refine ⟨R0, as, h0, w, g, (VS e1).trans hl, rh0, XS (R := R) (R0 := R0) (pre := []) (fun _ _ z => z) hρ e1 rfl rws, e5, fun R1 H1 v x1 rh1 rv => ?_⟩
  have hG1 : R1.G = R0.G := x1.g
  have hρ1 : ∀ (i x : Nat), ns[i]? = some x → i < R1.N ∧ R1.ρ i = R.ρ x := fun i x hx => by
    obtain ⟨z1, z2⟩ := hρ i x hx
    exact ⟨Nat.lt_of_lt_of_le z1 x1.n, (x1.ρ i z1).trans z2⟩
  have hj1 : ∀ (i j : Nat), js[i]? = some j → ns.length ≤ j ∧ j < R1.N ∧ ∃ o u, us[i]? = some u ∧ g[j]? = some o ∧ thO (res (Vg ns js h.length) g 3) o = some u := fun i j hij => by
    obtain ⟨u, z1, z2⟩ := (Qr e11).2 i j hij
    obtain ⟨o, z3, z4⟩ := Option.bind_eq_some_iff.mp z2
    exact ⟨hjk j (List.mem_iff_getElem?.mpr ⟨i, hij⟩), by rw [rh1.len]; exact (List.getElem?_eq_some_iff.mp z3).1, o, u, z1, z3, z4⟩
  have hapart : ∀ x, x < R.N → ∀ j, ns.length ≤ j → j < R1.N → R1.ρ j ≠ R.ρ x := fun x hx j hj hjn ee => by
    by_cases hm : x ∈ ns
    · obtain ⟨i, hi⟩ := hmem x hm
      obtain ⟨z1, z2⟩ := hρ1 i x hi
      have := rh1.inj j i hjn z1 (ee.trans z2.symm)
      have := (List.getElem?_eq_some_iff.mp hi).1
      omega
    · have z := rh1.gsep j hjn
      rw [hG1, ee, hGo x hx hm] at z
      obtain ⟨_, u, _, hu⟩ := rh.there hx
      rw [hu] at z; cases z
  let R2 : Rn := { ρ := fun n => if n < R.N then R.ρ n else R1.ρ (js.getD (n - R.N) 0), N := R.N + js.length, F := fun a => match R1.F a with | some o => some o | none => if ∃ j, ns.length ≤ j ∧ j < R1.N ∧ j ∉ js ∧ R1.ρ j = a then H1 a else none, G := R.G }
  have r2lo : ∀ x, x < R.N → R2.ρ x = R.ρ x := fun x hx => if_pos hx
  have r2hi : ∀ (i j : Nat), js[i]? = some j → R2.ρ (R.N + i) = R1.ρ j := fun i j hij => by
    show (if R.N + i < R.N then R.ρ (R.N + i) else R1.ρ (js.getD (R.N + i - R.N) 0)) = _
    rw [if_neg (by omega), Nat.add_sub_cancel_left, List.getD_eq_getElem?_getD, hij]; rfl
  have f1 : ∀ a o, R1.F a = some o → R2.F a = some o := fun a o z => by
    show (match R1.F a with | some o => some o | none => if ∃ j, ns.length ≤ j ∧ j < R1.N ∧ j ∉ js ∧ R1.ρ j = a then H1 a else none) = some o
    rw [z]
  have fnone : ∀ a, R1.F a = none → (¬ ∃ j, ns.length ≤ j ∧ j < R1.N ∧ j ∉ js ∧ R1.ρ j = a) → R2.F a = none := fun a z1 z2 => by
    show (match R1.F a with | some o => some o | none => if ∃ j, ns.length ≤ j ∧ j < R1.N ∧ j ∉ js ∧ R1.ρ j = a then H1 a else none) = none
    rw [z1]; exact if_neg z2
  have fnew : ∀ j, ns.length ≤ j → j < R1.N → j ∉ js → R2.F (R1.ρ j) = H1 (R1.ρ j) := fun j a b c => by
    show (match R1.F (R1.ρ j) with | some o => some o | none => if ∃ j', ns.length ≤ j' ∧ j' < R1.N ∧ j' ∉ js ∧ R1.ρ j' = R1.ρ j then H1 (R1.ρ j) else none) = _
    rw [rh1.sep j b]; exact if_pos ⟨j, a, b, c, rfl⟩
  have hx2 : Ext R R2 := ⟨Nat.le_add_right _ _, fun x hx => r2lo x hx, fun a o z => f1 a o (x1.f a o z), rfl⟩
  have split2 : ∀ x, x < R2.N → x < R.N ∨ ∃ i j : Nat, x = R.N + i ∧ js[i]? = some j := fun x hx => by
    have hx' : x < R.N + js.length := hx
    by_cases z : x < R.N
    · exact .inl z
    · exact .inr ⟨x - R.N, js[x - R.N]'(by omega), by omega, List.getElem?_eq_getElem (by omega)⟩
  have hr : ∀ d j v w, Rw K R1 (.ref j) v → res (Vg ns js h.length) g d j = some w → Rw K R2 w v := by
    have kp_ok : ∀ j v x, Rw K R1 (.ref j) v → Vg ns js h.length j = some x → Rw K R2 (.ref x) v := fun j v x r z => by
      unfold Rw at r ⊢
      unfold Vg at z
      split at z
      · rename_i y hy
        cases z
        obtain ⟨z1, z2⟩ := hρ1 j x hy
        have hxn := (hns j x hy).1
        exact ⟨Nat.lt_of_lt_of_le hxn hx2.n, by rw [r2lo x hxn, ← z2]; exact r.2⟩
      · obtain ⟨i, z1, z2⟩ := Option.map_eq_some_iff.mp z
        have hij := V6 z1
        subst z2
        rw [← rh.len, r2hi i j hij]
        exact ⟨Nat.add_lt_add_left (List.getElem?_eq_some_iff.mp hij).1 _, r.2⟩
    intro d
    induction d with
    | zero =>
      intro j v w r z
      unfold res at z
      obtain ⟨x, z1, z2⟩ := Option.map_eq_some_iff.mp z
      subst z2
      exact kp_ok j v x r z1
    | succ d ih =>
      intro j v w r z
      unfold res at z
      split at z
      · rename_i x hx
        cases z
        exact kp_ok j v x r hx
      · rename_i hnone
        split at z
        · rename_i ws' hg
          obtain ⟨us', z1, z2⟩ := Option.map_eq_some_iff.mp z
          subst z2
          obtain ⟨xs, o1, o2⟩ := rh1.obj j _ hg
          have hr1 : j < R1.N ∧ v = .ref (R1.ρ j) := by unfold Rw at r; exact r
          unfold Vg at hnone
          split at hnone
          · cases hnone
          · rename_i hnj
            have hnj' : j ∉ js := Xf (by simpa using hnone)
            unfold Rw
            refine ⟨R1.ρ j, xs, hr1.2, ?_, Rws.th_ok f1 ih ws' xs us' z1 o2⟩
            rw [fnew j (List.getElem?_eq_none_iff.mp hnj) hr1.1 hnj']
            exact o1
        · cases z
  refine k R2 H1 v hx2 ⟨?_, fun a o ha => ?_, fun x hx => ?_, fun x y hx hy ee => ?_, fun x o hx => ?_, fun a o ha => ?_, fun x hx => ?_, fun a o ha => ?_⟩ (Rw.th_ok f1 (hr 3) w v _ e7 rv)
  · show R.N + js.length = _
    rw [List.length_append, QP, ← (Qr e11).1, rh.len]
  · have ha' : (match R1.F a with | some o => some o | none => if ∃ j, ns.length ≤ j ∧ j < R1.N ∧ j ∉ js ∧ R1.ρ j = a then H1 a else none) = some o := ha
    split at ha'
    · rename_i o' ho'
      cases ha'
      exact rh1.sub a _ ho'
    · split at ha'
      · exact ha'
      · cases ha'
  · rcases split2 x hx with hx | ⟨i, j, rfl, hij⟩
    · rw [r2lo x hx]
      refine fnone _ ?_ (fun ⟨j, a, b, _, c⟩ => hapart x hx j a b c)
      by_cases hm : x ∈ ns
      · obtain ⟨i, hi⟩ := hmem x hm
        obtain ⟨z1, z2⟩ := hρ1 i x hi
        rw [← z2]; exact rh1.sep i z1
      · obtain ⟨_, u, _, hu⟩ := rh.there hx
        exact rh1.gf _ u (by rw [hG1, hGo x hx hm]; exact hu)
    · obtain ⟨z1, z2, _⟩ := hj1 i j hij
      rw [r2hi i j hij]
      refine fnone _ (rh1.sep j z2) (fun ⟨j', a, b, c, d⟩ => ?_)
      have := rh1.inj j' j b z2 d
      subst this
      exact c (List.mem_iff_getElem?.mpr ⟨i, hij⟩)
  · rcases split2 x hx with hx | ⟨i, j, rfl, hij⟩ <;> rcases split2 y hy with hy | ⟨i', j', rfl, hij'⟩
    · rw [r2lo x hx, r2lo y hy] at ee; exact rh.inj x y hx hy ee
    · rw [r2lo x hx, r2hi i' j' hij'] at ee
      obtain ⟨z1, z2, _⟩ := hj1 i' j' hij'
      exact absurd ee.symm (hapart x hx j' z1 z2)
    · rw [r2lo y hy, r2hi i j hij] at ee
      obtain ⟨z1, z2, _⟩ := hj1 i j hij
      exact absurd ee (hapart y hy j z1 z2)
    · rw [r2hi i j hij, r2hi i' j' hij'] at ee
      obtain ⟨_, z2, _⟩ := hj1 i j hij
      obtain ⟨_, z2', _⟩ := hj1 i' j' hij'
      have := rh1.inj j j' z2 z2' ee
      subst this
      rw [Xu hjd hij hij']
  · have hx' : x < R2.N := by
      have := (List.getElem?_eq_some_iff.mp hx).1
      rw [List.length_append, QP, ← (Qr e11).1, ← rh.len] at this
      exact this
    rcases split2 x hx' with hn | ⟨i, j, rfl, hij⟩
    · rw [List.getElem?_append_left (by rw [QP, ← rh.len]; exact hn)] at hx
      rw [r2lo x hn]
      by_cases hm : x ∈ ns
      · obtain ⟨i, hi⟩ := hmem x hm
        obtain ⟨z1, z2⟩ := hρ1 i x hi
        have hil := (List.getElem?_eq_some_iff.mp hi).1
        rw [Vt ns os h i x hd (by rw [← (Qr e9).1, List.length_range]) hi (by rw [← rh.len]; exact hn)] at hx
        obtain ⟨u, y1, y2⟩ := (Qr e9).2 i i (by rw [List.getElem?_range hil])
        rw [hx] at y1; cases y1
        obtain ⟨o', y3, y4⟩ := Option.bind_eq_some_iff.mp y2
        rw [← z2]
        exact Kz f1 (hr 3) y4 (rh1.obj i o' y3)
      · rw [Z2 ns os h x hm] at hx
        obtain ⟨_, u, _, hu⟩ := rh.there hn
        have hu1 : H1 (R.ρ x) = some u := rh1.gsub _ u (by rw [hG1, hGo x hn hm]; exact hu)
        have := rh.obj x o hx
        rw [hu] at this
        rw [hu1]
        exact this.mono hx2
    · obtain ⟨z1, z2, o', u, y1, y2, y3⟩ := hj1 i j hij
      rw [List.getElem?_append_right (by rw [QP, ← rh.len]; omega), QP, ← rh.len, Nat.add_sub_cancel_left, y1] at hx
      cases hx
      rw [r2hi i j hij]
      exact Kz f1 (hr 3) y3 (rh1.obj j o' y2)
  · exact rh1.gsub a o (by rw [hG1]; exact hGs a o ha)
  · rcases split2 x hx with hx | ⟨i, j, rfl, hij⟩
    · rw [r2lo x hx]; exact rh.gsep x hx
    · rw [r2hi i j hij]
      obtain ⟨_, z2, _⟩ := hj1 i j hij
      cases z : R2.G (R1.ρ j) with
      | none => rfl
      | some u =>
        have z3 := rh1.gsep j z2
        rw [hG1, hGs _ u z] at z3; cases z3
  · have hg : R1.G a = some o := by rw [hG1]; exact hGs a o ha
    refine fnone a (rh1.gf a o hg) (fun ⟨j, _, b, _, d⟩ => ?_)
    have z3 := rh1.gsep j b
    rw [d, hg] at z3; cases z3
theorem Cal.box {P : Program} {w : World} {mg : Str → Option Value} {base : Heap} {x : Str} {ps : List Str} {k : Nat} {g : FM} (fr : W → List Nat) (C : Cal P w K mg base k x ps g) : Cal P w K mg base k x ps (Mi.box fr g) :=
  C.imp fun _ _ _ _ q => QcB q
end
noncomputable def frN : W → List Nat := fun _ => []
noncomputable def frR : W → List Nat
  | .ref j => [j]
  | _ => []
noncomputable def Yq : List W → List Nat
  | [] => []
  | .ref j :: ws => j :: Yq ws
  | _ :: ws => Yq ws
noncomputable def frT : W → List Nat
  | .tup ws => Yq ws
  | .ref j => [j]
  | _ => []
end Mi

namespace Mi
open PySem PySem.Spec PyProof.Rows L2
noncomputable def UB : List Nat → List W → MSt → Option MSt
  | [], [], σ => some σ
  | i :: is, w :: ws, σ => UB is ws (σ.set i (some w))
  | _, _, _ => none
noncomputable def Z8 (is : List Nat) : MG := fun w σ _ => match w with | .tup ws => UB is ws σ | _ => none
noncomputable def Yk : List Nat → TGs
  | [] => Qev
  | i :: is => QcN (Wq i) (Yk is)
theorem Ji {X : Cx} : PGs X [] (Yk []) := Qa8
theorem Qw {X : Cx} {i : Nat} {x : Str} {pos : Pos} {es : List Expr} {is : List Nat} (hN : X.N.Nodup) (hi : X.N[i]? = some x) (hx : Loc X.env.scope x) (h : PGs X es (Yk is)) (hf : X.fn x = true ∨ X.env.scope.names.lookup x = some .local)
    : PGs X (.Name x pos :: es) (Yk (i :: is)) := Gg (Wk hN hi hx hf) h
theorem K1 {K : PySem.W.Frag} {R : Rn} {H : Hp} {C : L2.St → Hp → Prop} : ∀ {is : List Nat} {ws : List W} {xs : List V} {σi σ1 : MSt} {σ : L2.St}, UB is ws σi = some σ1 → Rws K R ws xs → Rst K R σi σ → (∀ σ', Rst K R σ1 σ' → C σ' H) → Yk is xs σ H C
  | [], [], xs, σi, σ1, σ, e, r, s, k => by
    cases e
    rw [Rws.nil_iff] at r
    exact ⟨r, k σ s⟩
  | i :: is, w :: ws, xs, σi, σ1, σ, e, r, s, k => by
    rw [Rws.cons_iff] at r
    obtain ⟨v, vs, rfl, r1, r2⟩ := r
    exact ⟨v, vs, rfl, K1 (is := is) e r2 (s.set r1) k⟩
  | [], _ :: _, _, _, _, _, e, _, _, _ => by cases e
  | _ :: _, [], _, _, _, _, e, _, _, _ => by cases e
theorem Xx : ∀ {is : List Nat} {ws : List W} {σ σ1 : MSt}, UB is ws σ = some σ1 → ws.length = is.length
  | [], [], _, _, _ => rfl
  | i :: is, w :: ws, σ, σ1, e => by
    have := Xx (is := is) (ws := ws) e
    simp [this]
  | [], _ :: _, _, _, e => by cases e
  | _ :: _, [], _, _, e => by cases e
theorem Js {X : Cx} {es : List Expr} {is : List Nat} {k : Nat} {pos : Pos} (hc : X.calm = true) (h : PGs X es (Yk is)) (hn : (assignEach es X.env).length = is.length) (hs : (assignEach es X.env).findIdx? (·.1) = none) : PMG X (.Tuple es k pos) (Z8 is) :=
  Gr (QcE hc h hn hs) fun v σ H C ⟨R, σi, h, w, σ1, rh, st, rw, e, q⟩ => by
    unfold Z8 at e
    split at e
    · rename_i ws
      obtain ⟨ad, xs, rfl, q1, r1⟩ := rh.tupAt rw
      exact ⟨ad, xs, rfl, q1, by rw [← r1.length]; exact Xx e, K1 e r1 st fun σ' s' => q R H σ' (Ext.refl _) rh s'⟩
    · cases e
noncomputable def Qds (g : MG) (m : ME) : SM := fun σ h => (m σ h).bind fun p => (g p.1 σ p.2).map fun σ1 => .nx σ1 p.2
theorem Qap {X : Cx} {tg e : Expr} {g : MG} {m : ME} {pos : Pos} (he : PM X e m) (hg : PMG X tg g) (hs : swapsWithSole [tg] e pos.line X.env = pure false) (hw : swappedStores [tg] e X.env = pure none) (h1 : (assignEach [tg] X.env).map (·.2) = [assign tg X.env]) :
    PMS X (.Assign [tg] e pos) (Qds g m) := Z0 (Qb6 he hg hs hw h1) <| by
  rintro D σ H ⟨R, σi, h, r, rh, s, e, k⟩
  obtain ⟨⟨w, h1⟩, e1, e2⟩ := Option.bind_eq_some_iff.mp e
  obtain ⟨σ1, e3, e4⟩ := Option.map_eq_some_iff.mp e2
  cases e4
  exact ⟨R, σi, h, w, h1, rh, s, e1, fun R1 H1 v x1 rh1 rv => ⟨R1, σi, h1, w, σ1, rh1, s.mono x1, rv, e3, fun R' H' σ' x' rh' s' => k R' H' σ' (x1.trans x') rh' s'⟩⟩
noncomputable def Qgf (ws : List W) (h : MH) : Option (W × MH) := match ws with
  | [.int i, .int j] => some (.int (if j > i then j else i), h)
  | _ => none
noncomputable def WA (ws : List W) (h : MH) : Option (W × MH) := match ws with
  | [.int i] => some (.int i, h)
  | [.bl b] => some (.int (if b then 1 else 0), h)
  | _ => none
section
variable {X : Cx}
theorem Xb : CallR X (.type "int") (Fs X.K WA) := by
  intro pins s σ H xs us Q I r q
  refine YS pins s σ H xs us Q I r ?_
  obtain ⟨R, h, ws, w, h', rh, rw, e, k⟩ := q
  unfold WA at e
  split at e
  · cases e
    obtain ⟨v, rfl, r1⟩ := YG rw
    exact .inl ⟨_, by rw [r1.int_eq], k R H _ (Ext.refl _) rh (Rw.int _)⟩
  · cases e
    obtain ⟨v, rfl, r1⟩ := YG rw
    exact .inr ⟨_, by rw [r1.bl_eq], k R H _ (Ext.refl _) rh (Rw.int _)⟩
  · cases e
noncomputable def rep (x : Str) (n : Int) : Str := ⟨((List.replicate n.toNat x.cps.toList).flatten).toArray⟩
theorem V8 : ∀ (l : List (Array Nat)) (a : Array Nat), l.foldl (· ++ ·) a = (a.toList ++ (l.map Array.toList).flatten).toArray
  | [], a => by simp
  | b :: l, a => by rw [List.foldl_cons, V8 l]; simp
theorem GK (x : Str) (n : Int) : (⟨(List.replicate n.toNat x.cps).foldl (· ++ ·) #[]⟩ : Str) = rep x n := by
  unfold rep
  rw [V8]
  simp
theorem Uv (x : Str) {n : Int} (h : n < 1) : Str.empty = rep x n := by
  unfold rep
  rw [show n.toNat = 0 by omega]; rfl
theorem Qa0 (x : Str) : x = rep x 1 := by
  unfold rep
  simp
theorem QaH {x : Str} (n : Int) (h : (x.length == 0) = true) : x = rep x n := by
  unfold rep
  have : x.cps = #[] := by
    have : x.cps.size = 0 := by simpa [Str.length] using h
    exact Array.eq_empty_of_size_eq_zero this
  obtain ⟨c⟩ := x
  simp at this
  subst this
  simp
noncomputable def Jg (a b : W) (h : MH) : Option (W × MH) := match a, b with
  | .str x, .int n => if n < 1000 ∧ -1000 < n ∧ x.length < 1000 then some (.str (rep x n), h) else none
  | a, b => Qb3 a b h
theorem Qbm : OpR X (binaryOp .Mult) (fun x y H Q => ∃ z n, x = .str z ∧ y = .int n ∧ (n < 1000 ∧ -1000 < n ∧ z.length < 1000) ∧ Q (.str (rep z n)) H) := by
  intro pins s σ H x y v u Q I rx ry ⟨z, n, e1, e2, ⟨h1, h2, h3⟩, q⟩
  subst e1 e2
  obtain ⟨t, rfl⟩ := rx
  obtain ⟨t', rfl⟩ := ry
  have hm : z.length * n.toNat < 1000000 := by
    calc z.length * n.toNat ≤ 999 * 999 := Nat.mul_le_mul (by omega) (by omega)
      _ < 1000000 := by decide
  refine PySem.P.mul_str (by rw [decide_eq_false (by omega), decide_eq_false (by omega)]; rfl) (fun a _ => ?_) (fun a _ => ?_) ?_
  · have : (2 ^ 63 - 1) / n ≥ 1000 := by
      rw [ge_iff_le, Int.le_ediv_iff_mul_le (by omega)]; omega
    omega
  · unfold Builtin.Str.tooLong
    exact decide_eq_false (by show ¬ _; have : sizeLine = 16777216 := by decide
                              omega)
  · have done : ∀ (y : Str) (tk : Tok) (s' : Shared), y = rep z n → Inv X pins σ H s' → EP X pins σ Q (.str y tk) s' := fun y tk s' ey I' => ⟨.str y, H, I', ⟨_, rfl⟩, by rw [ey]; exact q⟩
    split
    · rename_i hn
      exact ⟨by decide, done _ _ _ (Uv z hn) (I.tok _)⟩
    · split
      · rename_i hn ho
        rw [Bool.or_eq_true] at ho
        refine done _ _ _ ?_ I
        rcases ho with ho | ho
        · have : n = 1 := by simpa using ho
          subst this; exact Qa0 z
        · exact QaH n ho
      · refine ⟨?_, done _ _ _ (GK z n) (I.tok _)⟩
        rw [GK]
        have hl : (rep z n).length = n.toNat * z.length := by
          unfold rep Str.length
          simp
        rw [hl, Nat.mul_comm]
        have : sizeLine = 16777216 := by decide
        omega
theorem ZV : OpR X (binaryOp .Mult) (F2 X.K Jg) := by
  intro pins s σ H x y v u Q I rx ry q
  obtain ⟨R, h, a, b, w, h', rh, ra, rb, e, k⟩ := q
  unfold Jg at e
  split at e
  · split at e
    · rename_i hl
      cases e
      exact Qbm pins s σ H x y v u Q I rx ry ⟨_, _, ra.str_eq, rb.int_eq, hl, k R H _ (Ext.refl _) rh (Rw.str _)⟩
    · cases e
  · exact Qal pins s σ H x y v u Q I rx ry ⟨R, h, a, b, w, h', rh, ra, rb, e, k⟩
end
section
variable {X : Cx} {elt tg iter c : Expr} {scope : Scope} {pos pos' spos : Pos} {cl : List (Str × Addr)} {Nb : List Str} {cp : List (Option Nat)} {mi : MI} {b : MG} {mt : MT} {me m : ME} {fin : List W → MH → Option (W × MH)} {i : Nat} {x : Str} {e : Expr}
theorem Ke {K : PySem.W.Frag} {D : L2.Ends} {σ : L2.St} {H : Hp} (q : tS K (Jv i m) D σ H) : tI K m σ H fun v H1 => Wq i v σ H1 D.nx := by
  obtain ⟨R, σi, h, r, rh, s, e, k⟩ := q
  obtain ⟨⟨w, h1⟩, e1, e2⟩ := Option.map_eq_some_iff.mp e
  cases e2
  exact ⟨R, σi, h, w, h1, rh, s, e1, fun R1 H1 v x1 rh1 rv => k R1 H1 _ x1 rh1 ((s.mono x1).set rv)⟩
theorem Uw (hN : X.N.Nodup) (hi : X.N[i]? = some x) (hx : Loc X.env.scope x) (he : PM X e m) (hs : swapsWith e (some (.Name x pos')) pos.line X.env = pure false) (hf : X.fn x = true ∨ X.env.scope.names.lookup x = some .local) :
    PMS X (.Assign [.Name x pos'] e pos) (Jv i m) := Z0 (G7 hN hi hx he hs hf) fun _ _ _ q => Ke q
theorem WS (hN : X.N.Nodup) (hix : X.N[i]? = some x) (hx : Loc X.env.scope x) (hfn : X.fn x = true ∨ X.env.scope.names.lookup x = some .local) (hf : Yl X.K fin) (hc : X.calm = true) (B : BlkOk X scope cl Nb cp) (hi : PMI X tg iter mi) (hg : ∀ s₀ H₀ C ex pn, PMG (Mi.blk X scope cl Nb s₀ H₀ C ex pn) tg b)
    (he : ∀ s₀ H₀ C ex pn, PM (Mi.blk X scope cl Nb s₀ H₀ C ex pn) elt me) (hs : ∀ x, foldedSetIterable iter X.env x = pure x) (hsw : swapsWith (.ListComp elt [⟨tg, iter, [], 0⟩] scope pos) (some (.Name x pos')) spos.line X.env = pure true) :
    PMS X (.Assign [.Name x pos'] (.ListComp elt [⟨tg, iter, [], 0⟩] scope pos) spos) (Jv i (Zf fin mi cp b W0 me)) :=
  Z0 (WM (g := tIG X.K b) (te := tI X.K me) (tt := tIT X.K W0) hN hix hx hfn hsw hc B hi hg (fun s₀ H₀ C ex pn pins s τ H Q I q => wpAny_tests_nil (by
    obtain ⟨R, σi, h, t, h', rh, st, e, k⟩ := q
    cases e
    exact ⟨H, I, k R H (Ext.refl _) rh⟩)) he hs) fun _ _ _ q => VL hf (Ke q)
theorem W5 (hN : X.N.Nodup) (hix : X.N[i]? = some x) (hx : Loc X.env.scope x) (hfn : X.fn x = true ∨ X.env.scope.names.lookup x = some .local) (hf : Yl X.K fin) (hc : X.calm = true) (B : BlkOk X scope cl Nb cp) (hi : PMI X tg iter mi) (hg : ∀ s₀ H₀ C ex pn, PMG (Mi.blk X scope cl Nb s₀ H₀ C ex pn) tg b)
    (ht : ∀ s₀ H₀ C ex pn, PMT (Mi.blk X scope cl Nb s₀ H₀ C ex pn) c mt)
    (he : ∀ s₀ H₀ C ex pn, PM (Mi.blk X scope cl Nb s₀ H₀ C ex pn) elt me) (hs : ∀ x, foldedSetIterable iter X.env x = pure x) (hsw : swapsWith (.ListComp elt [⟨tg, iter, [c], 0⟩] scope pos) (some (.Name x pos')) spos.line X.env = pure true) :
    PMS X (.Assign [.Name x pos'] (.ListComp elt [⟨tg, iter, [c], 0⟩] scope pos) spos) (Jv i (Zf fin mi cp b mt me)) :=
  Z0 (WM (g := tIG X.K b) (te := tI X.K me) (tt := tIT X.K mt) hN hix hx hfn hsw hc B hi hg (fun s₀ H₀ C ex pn pins s τ H Q I q => wpAny_tests_one (ht s₀ H₀ C ex pn pins s τ H Q I q)) he hs) fun _ _ _ q => VL hf (Ke q)
end
end Mi

namespace Mi
open PySem PySem.Spec PyProof.Rows L2
set_option checkBinderAnnotations false in
noncomputable def ob {α β : Type} [f : α → Option β] (x : Option α) : Option β := x.bind f
set_option checkBinderAnnotations false in
noncomputable def om {α β : Type} [f : α → β] (x : Option α) : Option β := x.map f
@[simp] theorem QdG {α β : Type} {a : α} {f : α → Option β} : @ob _ _ f (some a) = f a := id rfl
@[simp] theorem QdO {α β : Type} {a : α} {f : α → β} : @om _ _ f (some a) = some (f a) := id rfl
noncomputable def QdJ (b : SM) : MF → Option MF
  | .nx σ h => b σ h
  | r => some r
section
variable {σ σ' : MSt} {h h' : MH} {a b : SM} {m ma mb mc : ME} {t u : MT} {ms : MA} {w x y : W} {ws : List W}
@[simp] theorem QdI : QdJ b (.nx σ h) = b σ h := id rfl
@[simp] theorem Qd0 : QdJ b (.rt w h) = some (.rt w h) := id rfl
@[simp] theorem QfM : ZI a b σ h = @ob _ _ (QdJ b) (a σ h) := by
  unfold ZI
  refine congrArg (fun f_ => @ob _ _ f_ (a σ h)) (funext fun r => ?_)
  cases r <;> rfl
@[simp] theorem Qeg : XM σ h = some (.nx σ h) := id rfl
@[simp] theorem QfV : Ko m σ h = @om _ _ (fun p => .rt p.1 p.2) (m σ h) := id rfl
noncomputable def onB (a b : SM) (σ : MSt) (p : Bool × MH) : Option MF := if p.1 = true then a σ p.2 else b σ p.2
@[simp] theorem QdV (c : Bool) : onB a b σ (c, h) = if c = true then a σ h else b σ h := id rfl
@[simp] theorem Qf0 : Um t a b σ h = @ob _ _ (onB a b σ) (t σ h) := by
  unfold Um
  refine congrArg (fun f_ => @ob _ _ f_ (t σ h)) (funext fun p => ?_)
  obtain ⟨c, h⟩ := p
  cases c <;> rfl
@[simp] theorem Qeq : Yi m σ h = @om _ _ (fun p => .nx σ p.2) (m σ h) := id rfl
@[simp 500] theorem QfG {i : Nat} : Jv i m σ h = @om _ _ (fun p => .nx (σ.set i (some p.1)) p.2) (m σ h) := id rfl
@[simp 1100] theorem QfC {v0 v1 x : Option W} {r : MSt} : List.set (v0 :: v1 :: r) 1 x = v0 :: x :: r := id rfl
@[simp 1100] theorem Qe7 {v0 v1 v2 x : Option W} {r : MSt} : List.set (v0 :: v1 :: v2 :: r) 2 x = v0 :: v1 :: x :: r := id rfl
@[simp 1100] theorem Qfq {v0 v1 v2 v3 x : Option W} {r : MSt} : List.set (v0 :: v1 :: v2 :: v3 :: r) 3 x = v0 :: v1 :: v2 :: x :: r := id rfl
@[simp 1100] theorem QfO {v0 v1 v2 v3 v4 x : Option W} {r : MSt} : List.set (v0 :: v1 :: v2 :: v3 :: v4 :: r) 4 x = v0 :: v1 :: v2 :: v3 :: x :: r := id rfl
@[simp 1100] theorem Qfg {v0 v1 v2 v3 v4 v5 x : Option W} {r : MSt} : List.set (v0 :: v1 :: v2 :: v3 :: v4 :: v5 :: r) 5 x = v0 :: v1 :: v2 :: v3 :: v4 :: x :: r := id rfl
@[simp 1100] theorem QfU {v0 v1 v2 v3 v4 v5 v6 x : Option W} {r : MSt} : List.set (v0 :: v1 :: v2 :: v3 :: v4 :: v5 :: v6 :: r) 6 x = v0 :: v1 :: v2 :: v3 :: v4 :: v5 :: x :: r := id rfl
@[simp 1100] theorem QfN {v0 v1 v2 v3 v4 v5 v6 v7 x : Option W} {r : MSt} : List.set (v0 :: v1 :: v2 :: v3 :: v4 :: v5 :: v6 :: v7 :: r) 7 x = v0 :: v1 :: v2 :: v3 :: v4 :: v5 :: v6 :: x :: r := id rfl
@[simp 1100] theorem Qfm {v0 v1 v2 v3 v4 v5 v6 v7 v8 x : Option W} {r : MSt} : List.set (v0 :: v1 :: v2 :: v3 :: v4 :: v5 :: v6 :: v7 :: v8 :: r) 8 x = v0 :: v1 :: v2 :: v3 :: v4 :: v5 :: v6 :: v7 :: x :: r := id rfl
@[simp 1100] theorem Qfl {v0 v1 v2 v3 v4 v5 v6 v7 v8 v9 x : Option W} {r : MSt} : List.set (v0 :: v1 :: v2 :: v3 :: v4 :: v5 :: v6 :: v7 :: v8 :: v9 :: r) 9 x = v0 :: v1 :: v2 :: v3 :: v4 :: v5 :: v6 :: v7 :: v8 :: x :: r := id rfl
@[simp] theorem Qfi {g : MG} : Qds g m σ h = @ob _ _ (fun p => @om _ _ (fun σ1 => .nx σ1 p.2) (g p.1 σ p.2)) (m σ h) := id rfl
@[simp] theorem Qe2 {o : W} {r : MSt} : Qg 0 (some o :: r) h = some (o, h) := id rfl
@[simp] theorem Qeh {v0 : Option W} {o : W} {r : MSt} : Qg 1 (v0 :: some o :: r) h = some (o, h) := id rfl
@[simp] theorem QeT {v0 v1 : Option W} {o : W} {r : MSt} : Qg 2 (v0 :: v1 :: some o :: r) h = some (o, h) := id rfl
@[simp] theorem QeY {v0 v1 v2 : Option W} {o : W} {r : MSt} : Qg 3 (v0 :: v1 :: v2 :: some o :: r) h = some (o, h) := id rfl
@[simp] theorem QeZ {v0 v1 v2 v3 : Option W} {o : W} {r : MSt} : Qg 4 (v0 :: v1 :: v2 :: v3 :: some o :: r) h = some (o, h) := id rfl
@[simp] theorem QeS {v0 v1 v2 v3 v4 : Option W} {o : W} {r : MSt} : Qg 5 (v0 :: v1 :: v2 :: v3 :: v4 :: some o :: r) h = some (o, h) := id rfl
@[simp] theorem Qer {v0 v1 v2 v3 v4 v5 : Option W} {o : W} {r : MSt} : Qg 6 (v0 :: v1 :: v2 :: v3 :: v4 :: v5 :: some o :: r) h = some (o, h) := id rfl
@[simp] theorem QeL {v0 v1 v2 v3 v4 v5 v6 : Option W} {o : W} {r : MSt} : Qg 7 (v0 :: v1 :: v2 :: v3 :: v4 :: v5 :: v6 :: some o :: r) h = some (o, h) := id rfl
@[simp] theorem Qej {v0 v1 v2 v3 v4 v5 v6 v7 : Option W} {o : W} {r : MSt} : Qg 8 (v0 :: v1 :: v2 :: v3 :: v4 :: v5 :: v6 :: v7 :: some o :: r) h = some (o, h) := id rfl
@[simp] theorem QeH {v0 v1 v2 v3 v4 v5 v6 v7 v8 : Option W} {o : W} {r : MSt} : Qg 9 (v0 :: v1 :: v2 :: v3 :: v4 :: v5 :: v6 :: v7 :: v8 :: some o :: r) h = some (o, h) := id rfl
@[simp 400] theorem QeF {i : Nat} {o : Option W} {r : MSt} : Qg (i + 1) (o :: r) h = Qg i r h := by
  unfold Qg; rw [List.getElem?_cons_succ]
@[simp] theorem s_c : mC w σ h = some (w, h) := id rfl
@[simp 500] theorem QfP {f : W → W → MH → Option (W × MH)} : Ql f ma mb σ h = @ob _ _ (fun p => @ob _ _ (fun q => f p.1 q.1 q.2) (mb σ p.2)) (ma σ h) := id rfl
@[simp] theorem Qgc {f : List W → MH → Option (W × MH)} : mFn f ms σ h = @ob _ _ (fun p => f p.1 p.2) (ms σ h) := id rfl
@[simp] theorem QeA {n : Nat} {g : FM} : Zw n g ms σ h = @ob _ _ (fun p => if p.1.length = n then g p.1 p.2 else none) (ms σ h) := id rfl
@[simp] theorem Qfn : Qt σ h = some ([], h) := id rfl
@[simp 600] theorem QeP {f : W → W → MH → Option (W × MH)} : Ql f ma (mC w) σ h = @ob _ _ (fun p => f p.1 w p.2) (ma σ h) := id rfl
@[simp 600] theorem Qdm : Qd (mC w) ms σ h = @ob _ _ (fun q => some (w :: q.1, q.2)) (ms σ h) := id rfl
@[simp 610] theorem Qd2 : Qd m Qt σ h = @ob _ _ (fun p => some ([p.1], p.2)) (m σ h) := id rfl
@[simp 620] theorem Qc6 : Qd (mC w) Qt σ h = some ([w], h) := id rfl
@[simp 500] theorem Qem : Qd m ms σ h = @ob _ _ (fun p => @ob _ _ (fun q => some (p.1 :: q.1, q.2)) (ms σ p.2)) (m σ h) := id rfl
noncomputable def asB (p : W × MH) : Option (Bool × MH) := match p.1 with | .bl b => some (b, p.2) | _ => none
@[simp] theorem QeI (c : Bool) : asB (.bl c, h) = some (c, h) := id rfl
@[simp 500] theorem QeW : Q4 m σ h = @ob _ _ asB (m σ h) := id rfl
@[simp] theorem Qel : XZ t σ h = @om _ _ (fun p => (!p.1, p.2)) (t σ h) := by
  unfold XZ
  first | rfl | (cases t σ h <;> rfl)
noncomputable def Qcv (u : MT) (σ : MSt) (p : Bool × MH) : Option (Bool × MH) := if p.1 = true then u σ p.2 else some (false, p.2)
noncomputable def QeR (u : MT) (σ : MSt) (p : Bool × MH) : Option (Bool × MH) := if p.1 = true then some (true, p.2) else u σ p.2
@[simp] theorem QbW (c : Bool) : Qcv u σ (c, h) = if c = true then u σ h else some (false, h) := id rfl
@[simp] theorem Qdf (c : Bool) : QeR u σ (c, h) = if c = true then some (true, h) else u σ h := id rfl
@[simp 500] theorem Qei : XY t u σ h = @ob _ _ (Qcv u σ) (t σ h) := by
  unfold XY
  refine congrArg (fun f_ => @ob _ _ f_ (t σ h)) (funext fun p => ?_)
  obtain ⟨c, h⟩ := p
  cases c <;> rfl
@[simp 500] theorem Qfc : U6 t u σ h = @ob _ _ (QeR u σ) (t σ h) := by
  unfold U6
  refine congrArg (fun f_ => @ob _ _ f_ (t σ h)) (funext fun p => ?_)
  obtain ⟨c, h⟩ := p
  cases c <;> rfl
@[simp] theorem Qfu : QaJ m σ h = @ob _ _ (fun p => @om _ _ (fun b => (b, p.2)) (Qbw p.2 p.1)) (m σ h) := by
  unfold QaJ
  rfl
@[simp] theorem Qgb {T : String} {f : W → List W → MH → Option (W × MH)} : mMt T f m ms σ h = @ob _ _ (fun p => if tyW p.2 T p.1 = true then @ob _ _ (fun q => f p.1 q.1 q.2) (ms σ p.2) else none) (m σ h) := id rfl
end
section
variable {h : MH} {i j : Int} {x y : Str} {ws us : List W} {w : W}
@[simp] theorem Qfv : Xc (.int i) (.int j) h = some (.int (i + j), h) := id rfl
@[simp] theorem Qge : wLt (.int i) (.int j) h = some (.bl (decide (i < j)), h) := id rfl
@[simp] theorem Qf7 : wGt (.int i) (.int j) h = some (.bl (decide (j < i)), h) := id rfl
@[simp] theorem QfF (c : 0 < j) : Ju (.int i) (.int j) h = some (.int (i % j), h) := Qa2 c
@[simp] theorem QfQ (c : 0 < j) (c' : j < 1073741824) : JN (.int i) (.int j) h = some (.int (i / j), h) := QaY ⟨c, c'⟩
@[simp] theorem Qe0 (c : -18446744073709551616 < j) (c' : j < 18446744073709551616) : Jg (.int i) (.int j) h = some (.int (i * j), h) := Y0 (.inr ⟨c, c'⟩)
@[simp] theorem Qes (c : -18446744073709551616 < i) (c' : i < 18446744073709551616) : Jg (.int i) (.int j) h = some (.int (i * j), h) := Y0 (.inl ⟨c, c'⟩)
@[simp] theorem Qff (c : 0 ≤ j) (c' : j ≤ 1000000) (c'' : i.natAbs < 18446744073709551616) : Qas (.int i) (.int j) h = some (.int (i ^ j.toNat), h) := Y2 ⟨c, c', c''⟩
@[simp] theorem QfI : Vr ws h = if ws.length ≤ sizeLine then some (.tup ws, h) else none := id rfl
@[simp] theorem QfE : Ug ws h = if ws.length ≤ sizeLine then some (.lst ws, h) else none := id rfl
@[simp] theorem Qfe : Qbx ws h = if ws.length ≤ sizeLine then some (.ref h.length, h ++ [.lst ws]) else none := id rfl
@[simp] theorem Qfd : wIx (.lst ws) (.int i) h = @om _ _ (fun w => (w, h)) (atI ws i) := id rfl
@[simp] theorem Qfa : wIx (.frz ws) (.int i) h = @om _ _ (fun w => (w, h)) (atI ws i) := id rfl
@[simp] theorem QfR {n : Nat} : wIx (.ref n) (.int i) h = @ob _ _ (fun (ws : List W) => @om _ _ (fun w => (w, h)) (atI ws i)) (match h[n]? with | some (.lst ws) => some ws | _ => none) := id rfl
@[simp] theorem QeJ : G5 [.tup ws] h = some (.int ws.length, h) := id rfl
@[simp] theorem QeK : G5 [.frz ws] h = some (.int ws.length, h) := id rfl
theorem KS {α : Type} {xs : List α} {n : Nat} : atI xs (n : Int) = xs[n]? := by
  cases e : xs[n]? with
  | some x => exact Wv e
  | none =>
    unfold atI ixN
    have : xs.length ≤ n := List.getElem?_eq_none_iff.mp e
    rw [if_pos (by omega)]
    rw [if_neg (by omega)]
    rfl
@[simp] theorem Qf5 {α : Type} {xs : List α} : atI xs 0 = xs[0]? := KS (n := 0)
@[simp] theorem Qga {α : Type} {xs : List α} : atI xs 1 = xs[1]? := KS (n := 1)
noncomputable def putAt (o i v : W) (σ : MSt) (h : MH) : Option MF := match o, i with
  | .ref n, .int k => match h[n]? with
    | some (.lst xs) => @om _ _ (fun j => .nx σ (h.set n (.lst (xs.set j v)))) (ixN xs.length k)
    | _ => none
  | _, _ => none
@[simp] theorem QeV {w : W} : QdM (some (.rt w h)) = some (w, h) := id rfl
@[simp] theorem Qc1 {n : Nat} {w : W} : Jb (.ref n) [w] h = match h[n]? with | some (.lst xs) => if xs.length < sizeLine then some (.non, h.set n (.lst (xs ++ [w]))) else none | _ => none := id rfl
@[simp] theorem QeC {b : Bool} : Qbw h (.bl b) = some b := id rfl
@[simp] theorem QfW {a : W} {T : String} : QaV [a, .ty T] h = if Va T = true then @om _ _ (fun k => (.bl (JX k T), h)) (Gf h a) else none := id rfl
@[simp] theorem Qf6 : Va "bool" = true := by decide
@[simp] theorem Qf3 : Va "list" = true := by decide
@[simp] theorem Qf8 : Va "tuple" = true := by decide
end
mutual
noncomputable def pln : W → Bool
  | .tup ws => VQ ws
  | .lst ws => VQ ws
  | .frz _ => false
  | .ref _ => false
  | .ty _ => false
  | _ => true
noncomputable def VQ : List W → Bool
  | [] => true
  | w :: ws => pln w && VQ ws
end
mutual
noncomputable def dep : W → Nat
  | .tup ws => KO ws + 1
  | .lst ws => KO ws + 1
  | _ => 1
noncomputable def KO : List W → Nat
  | [] => 0
  | w :: ws => max (dep w) (KO ws)
end
mutual
theorem Jw (h : MH) : ∀ (w : W) (n : Nat), pln w = true → dep w ≤ n → drf h n w = some w
  | .non, n + 1, _, _ => rfl
  | .bl _, n + 1, _, _ => rfl
  | .int _, n + 1, _, _ => rfl
  | .str _, n + 1, _, _ => rfl
  | .tup ws, n + 1, p, d => by
    unfold pln at p
    unfold dep at d
    show (Q6 (drf h n) ws).map W.tup = _
    rw [ZP h ws n p (by omega)]; rfl
  | .lst ws, n + 1, p, d => by
    unfold pln at p
    unfold dep at d
    show (Q6 (drf h n) ws).map W.lst = _
    rw [ZP h ws n p (by omega)]; rfl
  | .frz _, _, p, _ => by unfold pln at p; cases p
  | .ref _, _, p, _ => by unfold pln at p; cases p
  | .ty _, _, p, _ => by unfold pln at p; cases p
  | .non, 0, _, d => by unfold dep at d; omega
  | .bl _, 0, _, d => by unfold dep at d; omega
  | .int _, 0, _, d => by unfold dep at d; omega
  | .str _, 0, _, d => by unfold dep at d; omega
  | .tup _, 0, _, d => by unfold dep at d; omega
  | .lst _, 0, _, d => by unfold dep at d; omega
theorem ZP (h : MH) : ∀ (ws : List W) (n : Nat), VQ ws = true → KO ws ≤ n → Q6 (drf h n) ws = some ws
  | [], _, _, _ => rfl
  | w :: ws, n, p, d => by
    unfold VQ at p
    unfold KO at d
    rw [Bool.and_eq_true] at p
    rw [Q6, Jw h w n p.1 (by omega), Option.bind_some, ZP h ws n p.2 (by omega)]; rfl
end
mutual
theorem VH : ∀ (w : W), pln w = true → eqW w w = true
  | .non, _ => by unfold eqW; rfl
  | .bl _, _ => by unfold eqW; simp
  | .int _, _ => by unfold eqW; simp
  | .str _, _ => by unfold eqW; simp
  | .tup ws, p => by unfold pln at p; unfold eqW; exact JY ws p
  | .lst ws, p => by unfold pln at p; unfold eqW; exact JY ws p
  | .frz _, p => by unfold pln at p; cases p
  | .ref _, p => by unfold pln at p; cases p
  | .ty _, p => by unfold pln at p; cases p
theorem JY : ∀ (ws : List W), VQ ws = true → Vi ws ws = true
  | [], _ => by unfold Vi; rfl
  | w :: ws, p => by
    unfold VQ at p
    rw [Bool.and_eq_true] at p
    unfold Vi
    rw [VH w p.1, JY ws p.2]; rfl
end
theorem Qex {a b : W} {h : MH} (pa : pln a = true) (pb : pln b = true) (da : dep a ≤ 40) (db : dep b ≤ 40) : wEq a b h = some (.bl (eqW a b), h) := by
  unfold wEq; rw [Jw h a 40 pa da, Jw h b 40 pb db]; rfl
theorem Qfj {a b : W} {h : MH} (pa : pln a = true) (pb : pln b = true) (da : dep a ≤ 40) (db : dep b ≤ 40) : wNe a b h = some (.bl (!eqW a b), h) := by
  unfold wNe; rw [Jw h a 40 pa da, Jw h b 40 pb db]; rfl
@[simp] theorem QdF {i j : Int} {h : MH} : wEq (.int i) (.int j) h = some (.bl (i == j), h) := QaM i j h
@[simp] theorem Qfo {i j : Int} {h : MH} : wNe (.int i) (.int j) h = some (.bl (!(i == j)), h) := Qa9 i j h
mutual
theorem Qag : ∀ (w : W), pln w = true → pur w = true
  | .non, _ => rfl
  | .bl _, _ => rfl
  | .int _, _ => rfl
  | .str _, _ => rfl
  | .tup ws, p => by unfold pln at p; unfold pur; exact J8 ws p
  | .lst ws, p => by unfold pln at p; unfold pur; exact J8 ws p
  | .frz _, p => by unfold pln at p; cases p
  | .ref _, p => by unfold pln at p; cases p
  | .ty _, p => by unfold pln at p; cases p
theorem J8 : ∀ (ws : List W), VQ ws = true → Zs ws = true
  | [], _ => rfl
  | w :: ws, p => by
    unfold VQ at p
    rw [Bool.and_eq_true] at p
    unfold Zs
    rw [Qag w p.1, J8 ws p.2]; rfl
end
mutual
theorem G8 (f : Nat → Option W) : ∀ (w : W), pur w = true → th f w = some w
  | .non, _ => rfl
  | .bl _, _ => rfl
  | .int _, _ => rfl
  | .str _, _ => rfl
  | .ty _, _ => rfl
  | .tup ws, p => by unfold pur at p; unfold th; rw [Zu f ws p]; rfl
  | .lst ws, p => by unfold pur at p; unfold th; rw [Zu f ws p]; rfl
  | .frz ws, p => by unfold pur at p; unfold th; rw [Zu f ws p]; rfl
  | .ref _, p => by unfold pur at p; cases p
theorem Zu (f : Nat → Option W) : ∀ (ws : List W), Zs ws = true → ths f ws = some ws
  | [], _ => rfl
  | w :: ws, p => by
    unfold Zs at p
    rw [Bool.and_eq_true] at p
    unfold ths
    rw [G8 f w p.1, Zu f ws p.2]; rfl
end
theorem ZS {m : FM} {ws : List W} {w : W} {g h : MH} (hp : Zs ws = true) (e : m ws [] = some (w, g)) (hw : pur w = true) : box frN m ws h = some (w, h) := by
  have hr : XF 0 ws = some (ws, []) := by
    generalize 0 = k
    clear e
    induction ws with
    | nil => rfl
    | cons a r ih =>
      unfold Zs at hp
      rw [Bool.and_eq_true] at hp
      have := ih hp.2
      cases a <;> first | (unfold pur at hp; cases hp.1; done) | (unfold XF; rw [if_pos hp.1, this]; rfl)
  unfold box
  rw [hr, Option.bind_some]
  unfold Qby
  rw [if_pos List.nodup_nil]
  simp only [Q6, Option.bind_some, e, frN, List.length_nil, List.range_zero]
  rw [if_pos ⟨List.nodup_nil, by simp⟩, G8 _ w hw]
  simp [QC]
theorem Qac {m : FM} {args as : List W} {ns : List Nat} {os os' : List MO} {g h : MH} {w w' : W} (hr : XF 0 args = some (as, ns)) (hd : ns.Nodup) (ho : Q6 (Qdb h) ns = some os) (e : m as os = some (w, os' ++ g)) (hl : os'.length = ns.length)
    (hos : ∀ o ∈ os', ∃ us, o = .lst us ∧ Zs us = true) (hw : th (res (Vg ns [] h.length) (os' ++ g) 3) w = some w') : box frN m args h = some (w', QC ns os' h) := by
  unfold box
  rw [hr, Option.bind_some]
  unfold Qby
  rw [if_pos hd, ho]
  simp only [Option.bind_some, e]
  rw [if_pos (show (frN w).Nodup ∧ ∀ j ∈ frN w, ns.length ≤ j from ⟨List.nodup_nil, fun j hj => by simp [frN] at hj⟩)]
  show (th (res (Vg ns [] h.length) (os' ++ g) 3) w).bind _ = _
  rw [hw, Option.bind_some]
  show (Q6 (fun j => ((os' ++ g)[j]?).bind (thO (res (Vg ns [] h.length) (os' ++ g) 3))) (List.range ns.length)).bind (fun os => (Q6 (fun j => ((os' ++ g)[j]?).bind (thO (res (Vg ns [] h.length) (os' ++ g) 3))) []).map fun us => (w', QC ns os h ++ us)) = _
  have : Q6 (fun j => ((os' ++ g)[j]?).bind (thO (res (Vg ns [] h.length) (os' ++ g) 3))) (List.range ns.length) = some os' := by
    rw [← hl]
    have key : ∀ (k : Nat) (xs : List MO), (∀ i o, xs[i]? = some o → (os' ++ g)[k + i]? = some o) → (∀ o ∈ xs, ∃ us, o = .lst us ∧ Zs us = true) → Q6 (fun j => ((os' ++ g)[j]?).bind (thO (res (Vg ns [] h.length) (os' ++ g) 3))) (List.range' k xs.length) = some xs := by
      intro k xs
      induction xs generalizing k with
      | nil => intro _ _; rfl
      | cons x xs ih =>
        intro h1 h2
        obtain ⟨us, hu, hp⟩ := h2 x List.mem_cons_self
        rw [List.length_cons, List.range'_succ]
        unfold Q6
        have h0 := h1 0 x rfl
        rw [Nat.add_zero] at h0
        rw [h0, Option.bind_some, ih (k + 1) (fun i o hi => by have := h1 (i + 1) o (by simpa using hi); rw [show k + 1 + i = k + (i + 1) by omega]; exact this) fun o hx => h2 o (List.mem_cons_of_mem _ hx), hu]
        show ((ths _ us).map MO.lst).bind _ = _
        rw [Zu _ us hp]; rfl
    rw [List.range_eq_range']
    exact key 0 os' (fun i o hi => by rw [Nat.zero_add, List.getElem?_append_left (List.getElem?_eq_some_iff.mp hi).1]; exact hi) hos
  rw [this]
  simp [Q6]
theorem Kr {fin : List W → MH → Option (W × MH)} {mi : MI} {cp : List (Option Nat)} {me : ME} {σ caps : MSt} {h : MH} {items : List W} (f : W → W) (hi : mi σ h = some (items, none, h)) (hc : ∃ o, GC cp σ = o :: caps) (he : ∀ w ∈ items, me (some w :: caps) h = some (f w, h)) (hl : items.length ≤ sizeLine) :
    Zf fin mi cp (Jd 0) W0 me σ h = fin (items.map f) h := by
  obtain ⟨o, hc⟩ := hc
  unfold Zf
  rw [hi, Option.bind_some]
  simp only [hc]
  rw [Jz (p := fun _ => true) (f := f) items [] o (fun _ _ => rfl) (fun w hw _ => he w hw) (by simpa using hl), List.filter_eq_self.mpr (fun _ _ => rfl)]
  rfl
theorem Z9 {items : List W} {b : MG} {body : SM} (P : Nat → MSt → MH → Prop) : ∀ (r : List W) (n : Nat) (σ : MSt) (h : MH), P n σ h →
    (∀ (j : Nat) (w : W), r[j]? = some w → ∀ σ h, P (n + j) σ h → ∃ σ1, b w σ h = some σ1 ∧ ∃ σ2 h2, (body σ1 h = some (.nx σ2 h2) ∨ body σ1 h = some (.ct σ2 h2)) ∧ P (n + j + 1) σ2 h2) →
    ∃ σ' h', Jl items none b body r σ h = some (.nx σ' h') ∧ P (n + r.length) σ' h'
  | [], n, σ, h, hp, _ => ⟨σ, h, UH, hp⟩
  | w :: r, n, σ, h, hp, hs => by
    obtain ⟨σ1, e1, σ2, h2, e2, p2⟩ := hs 0 w rfl σ h hp
    obtain ⟨σ', h', e3, p3⟩ := Z9 (items := items) (b := b) (body := body) P r (n + 1) σ2 h2 p2 fun j x hx σ h hp => by
      have := hs (j + 1) x (by simpa using hx) σ h (by rw [show n + (j + 1) = n + 1 + j by omega]; exact hp)
      rw [show n + (j + 1) + 1 = n + 1 + j + 1 by omega] at this
      exact this
    refine ⟨σ', h', ?_, by rw [List.length_cons, show n + (r.length + 1) = n + 1 + r.length by omega]; exact p3⟩
    rw [Jl, if_pos (Zp _ _), e1, Option.bind_some]
    rcases e2 with e2 | e2 <;> rw [e2] <;> exact e3
noncomputable def eqN (j : Int) (p : W × MH) : Option (Bool × MH) := @ob _ _ asB (wEq p.1 (.int j) p.2)
@[simp 650] theorem QeB {ma : ME} {σ : MSt} {h : MH} {j : Int} : Q4 (Ql wEq ma (mC (.int j))) σ h = @ob _ _ (eqN j) (ma σ h) := by
  unfold Q4 Ql mC eqN ob
  cases ma σ h <;> rfl
@[simp] theorem Qd7 {i j : Int} {h : MH} : eqN j (.int i, h) = some (i == j, h) := by unfold eqN; rw [QdF]; rfl
end Mi

namespace Mi
open PySem PySem.Spec PyProof.Rows L2
section
variable {X : Cx}
end
end Mi
namespace Mi
open PySem PySem.Spec PyProof.Rows L2
end Mi
namespace Mi
open PySem PySem.Spec PyProof.Rows L2
section
open PySem.AutoSeq1
end
section
variable {X : Cx}
end
end Mi

namespace L2
open PySem PySem.Spec PyProof.Rows
noncomputable def RawD (h : Heap) (d : Addr) (es : Array DictEntry) (ep : Nat) : Prop := ∃ o, h.get? d = some o ∧ o.ExactDict ∧ o.data = .dict es ep
theorem RawD.typeIs {s : Shared} {d : Addr} {es : Array DictEntry} {ep : Nat} (m : RawD s.heap d es ep) : s.TypeIs (.ref d) "dict" := let ⟨o, ho, hc, _⟩ := m; ⟨o, ho, hc.1⟩
theorem RawD.lt {h : Heap} {d : Addr} {es : Array DictEntry} {ep : Nat} (m : RawD h d es ep) : d < h.objs.size := let ⟨_, ho, _⟩ := m; Heap.lt_size ho
theorem RawD.at {h h' : Heap} {d : Addr} {es : Array DictEntry} {ep : Nat} (m : RawD h d es ep) (k : ∀ o, h.get? d = some o → h'.get? d = some o) : RawD h' d es ep := let ⟨o, ho, r⟩ := m; ⟨o, k o ho, r⟩
section
variable {prog : Program} {w : World} {A : Around} {E : Value → Shared → Prop} {s : Shared} {it d : Addr} {es : Array DictEntry} {i ep : Nat}
theorem UG {Q : Value → Shared → Prop} (hd : (d == sysModules) = false) (m : RawD s.heap d es ep)
    (q : Q (.ref s.heap.objs.size) { s with heap := s.heap.push { cls := .type "dict_keyiterator", data := .fields #[.ref d, .int 0 0, .int es.size 0, .int ep 0] } }) : wpAny (model prog w) A (pyIter (.ref d)) Q E s := by
  have hT := m.typeIs
  obtain ⟨o, ho, hc, hx⟩ := m
  refine wpAny_pyIter_slot hT PySem.F.slot_dict_iter (wpAny_call_entry PySem.F.slot_dict_iter hT PySem.F.entry_dict_iter ?_ (PySem.F.args_dict_iter_1 _))
  unfold Builtin.«dict.__iter__» Builtin.Dict.dictSlotNone
  refine wpAny_bind (wpAny_bind (wpAny_notOrdered_dict hT ?_))
  refine (show wpAny _ _ (pure (Value.ref d)) _ _ s from wpAny_pure ?_)
  refine (show wpAny _ _ (Builtin.Dict.showsAll d >>= _) _ _ s from ?_)
  unfold Builtin.Dict.showsAll
  rw [if_neg (by rw [hd]; exact Bool.false_ne_true)]
  refine wpAny_bind (wpAny_pure (wpAny_bind (wpAny_dictEntries ho hx (wpAny_bind (wpAny_dictEpoch ho hx ?_)))))
  refine wpAny_bind (wpAny_newObj_type (wpAny_pure ⟨_, rfl, "dict_keyiterator", _, ⟨_, Heap.get?_push_size _ rfl, rfl⟩, PySem.F.slot_dict_keyiterator_next.lookup, ?_⟩))
  simpa [rawInt] using q
theorem UN {Q : Option Value → Shared → Prop} (hit : s.heap.IsKeyIter it d i es.size ep) (m : RawD s.heap d es ep) (hlt : i < es.size)
    (hQ : ∀ h', h'.IsKeyIter it d (i + 1) es.size ep → Heap.SameBut it s.heap h' → Q (some es[i].key) { s with heap := h' }) : wpAny (model prog w) A (pyNext (.ref it)) Q E s := by
  obtain ⟨o, ho, hc, hd⟩ := id hit
  obtain ⟨od, hod, hcd, hdd⟩ := id m
  unfold pyNext
  refine wpAny_bind (wpAny_attempt (wpAny_callSpecial?_slot (name := Str.ofString "__next__") hit.typeIs PySem.F.slot_dict_keyiterator_next (wpAny_call_entry PySem.F.slot_dict_keyiterator_next hit.typeIs PySem.F.entry_dict_keyiterator_next ?_ (PySem.F.args_dict_keyiterator_next_1 _))))
  refine wpAny_bind (wpAny_pure (wpAny_bind (wpAny_bind ?_)))
  first | refine wpAny_bind (wpAny_typeNameOfWhole_keyiter hit.typeIs (wpAny_pure (wpAny_bind (wpAny_fieldsOf ho hd ?_)))) | refine wpAny_bind (wpAny_typeNameOf_keyiter hit.typeIs (wpAny_pure (wpAny_bind (wpAny_fieldsOf ho hd ?_))))
  simp only [show Builtin.Dict_items.ownsTuple "dict_keyiterator" = false by decide, Bool.false_eq_true, if_false]
  refine (show wpAny _ _ (if (Value.ref d == Value.none) = true then _ else _) _ _ s from ?_)
  rw [if_neg (show ¬ ((Value.ref d == Value.none) = true) from Bool.false_ne_true)]
  refine wpAny_bind (wpAny_pure (wpAny_bind (wpAny_dictEntries hod hdd ?_)))
  rw [if_neg (by simp)]
  refine wpAny_bind (wpAny_pure (wpAny_bind (wpAny_dictEpoch hod hdd ?_)))
  rw [if_neg (by simp)]
  refine wpAny_pure ?_
  simp only [show ¬ ((i : Int) < 0) from by omega, if_false, Int.toNat_natCast, Array.getElem?_eq_getElem hlt]
  refine wpAny_bind ?_
  first | refine wpAny_bind (wpAny_typeNameOfWhole_keyiter hit.typeIs (wpAny_pure (wpAny_bind (wpAny_isOneOf_keyiter hit.typeIs ?_)))) | refine wpAny_bind (wpAny_typeNameOf_keyiter hit.typeIs (wpAny_pure (wpAny_bind (wpAny_isOneOf_keyiter hit.typeIs ?_))))
  refine (show wpAny _ _ (setField (.ref it) 1 (rawInt ((i : Int) + 1)) >>= _) _ _ s from wpAny_bind (wpAny_setField ho hd (by simp) ?_))
  have hit' : (s.heap.update it (Obj.mapFields (·.setIfInBounds 1 (rawInt ((i : Int) + 1))))).IsKeyIter it d (i + 1) es.size ep :=
    ⟨_, Heap.get?_update_self _ ho (Obj.isFreed_of_fields (Obj.data_mapFields hd _)), (Obj.cls_mapFields ..).trans hc, by rw [Obj.data_mapFields hd]; simp [rawInt]⟩
  refine wpAny_bind (wpAny_holding (wpAny_bind (wpAny_isOneOf_keyiter (s := { s with heap := s.heap.update it (Obj.mapFields (·.setIfInBounds 1 (rawInt ((i : Int) + 1)))) }) hit'.typeIs ?_)))
  refine (show wpAny _ _ (pure es[i].key) _ _ _ from ?_)
  exact wpAny_pure (wpAny_pure ⟨_, rfl, wpAny_pure (hQ _ hit' (Heap.SameBut.update ..))⟩)
theorem Qae {Q : Option Value → Shared → Prop} (hh : A.handled = none) (hit : s.heap.IsKeyIter it d es.size es.size ep) (m : RawD s.heap d es ep)
    (hQ : ∀ h', Heap.ExtBut it s.heap h' → Q none { s with heap := h' }) : wpAny (model prog w) A (pyNext (.ref it)) Q E s := by
  obtain ⟨o, ho, hc, hd⟩ := id hit
  obtain ⟨od, hod, hcd, hdd⟩ := id m
  unfold pyNext
  refine wpAny_bind (wpAny_attempt (wpAny_callSpecial?_slot (name := Str.ofString "__next__") hit.typeIs PySem.F.slot_dict_keyiterator_next (wpAny_call_entry PySem.F.slot_dict_keyiterator_next hit.typeIs PySem.F.entry_dict_keyiterator_next ?_ (PySem.F.args_dict_keyiterator_next_1 _))))
  refine wpAny_bind (wpAny_pure (wpAny_bind (wpAny_bind ?_)))
  first | refine wpAny_bind (wpAny_typeNameOfWhole_keyiter hit.typeIs (wpAny_pure (wpAny_bind (wpAny_fieldsOf ho hd ?_)))) | refine wpAny_bind (wpAny_typeNameOf_keyiter hit.typeIs (wpAny_pure (wpAny_bind (wpAny_fieldsOf ho hd ?_))))
  simp only [show Builtin.Dict_items.ownsTuple "dict_keyiterator" = false by decide, Bool.false_eq_true, if_false]
  refine (show wpAny _ _ (if (Value.ref d == Value.none) = true then _ else _) _ _ s from ?_)
  rw [if_neg (show ¬ ((Value.ref d == Value.none) = true) from Bool.false_ne_true)]
  refine wpAny_bind (wpAny_pure (wpAny_bind (wpAny_dictEntries hod hdd ?_)))
  rw [if_neg (by simp)]
  refine wpAny_bind (wpAny_pure (wpAny_bind (wpAny_dictEpoch hod hdd ?_)))
  rw [if_neg (by simp)]
  refine wpAny_pure ?_
  simp only [show ¬ ((es.size : Int) < 0) from by omega, if_false, Int.toNat_natCast, Array.getElem?_eq_none (Nat.le_refl es.size)]
  refine wpAny_bind ?_
  first | refine wpAny_bind (wpAny_typeNameOfWhole_keyiter hit.typeIs (wpAny_pure ?_)) | refine wpAny_bind (wpAny_typeNameOf_keyiter hit.typeIs (wpAny_pure ?_))
  refine (show wpAny _ _ (setField (.ref it) 0 .none >>= _) _ _ s from wpAny_bind (wpAny_setField ho hd (by simp) ?_))
  refine (show wpAny _ _ (newExc (.type "StopIteration") [] >>= _) _ _ _ from wpAny_bind ?_)
  simp only [newExc, newTuple]
  refine wpAny_bind (wpAny_newObj_type ?_ (by size_fits))
  refine wpAny_bind (m := firstArgMember _ _) (wpAny_of_eq (a := Value.none) (by first | rfl | (simp only [firstArgMember]; rfl)) ?_)
  refine wpAny_newObj_type ?_ (by size_fits)
  simp only [raiseNew]
  refine wpAny_bind (wpAny_handled ?_)
  rw [show A.in1.handled = none from hh]
  refine wpAny_bind (wpAny_pure (wpAny_throw ?_))
  refine wpAny_bind (wpAny_isInstance (b := true) (T := "StopIteration") ⟨_, Heap.get?_push_size _ rfl, rfl⟩ isSubtype_stop ?_)
  exact wpAny_pure (hQ _ (((Heap.SameBut.update ..).extBut.push _).push _))
end
end L2

namespace Mi
open PySem PySem.Spec PyProof.Rows L2
noncomputable def TrH (K : PySem.W.Frag) (H : Hp) : Nat → Tr → V → Prop
  | 0, _, _ => False
  | _ + 1, .i k, v => v = .int k ∨ ∃ b : Bool, v = .bl b ∧ k = if b then 1 else 0
  | _ + 1, .s x, v => v = .str x
  | n + 1, .t ks, v => ∃ a xs, v = .ref a ∧ SqT K H a xs ∧ Paired (TrH K H n) ks xs
theorem WO {α β γ : Type} {F : α → β → Prop} {G : β → γ → Prop} {M : α → γ → Prop} (f : ∀ a b c, F a b → G b c → M a c) : ∀ {l₁ : List α} {l₂ : List β} {l₃ : List γ}, Paired F l₁ l₂ → Paired G l₂ l₃ → Paired M l₁ l₃
  | _, _, _, .nil, .nil => .nil
  | _, _, _, .cons a s, .cons b t => .cons (f _ _ _ a b) (WO f s t)
section
variable {X : Cx} {pins : List (Addr × Obj)} {σ : L2.St} {H : Hp} {s : Shared}
theorem Qaq (I : Inv X pins σ H s) : ∀ {n : Nat} (k : Tr) (v : V) (u : Value), TrH X.K H n k v → RelV v u → IsT s.heap n k u
  | 0, _, _, _, x, _ => x.elim
  | n + 1, .i k, v, u, x, r => by
    rcases x with rfl | ⟨b, rfl, hk⟩
    · exact .inl r
    · exact .inr ⟨b, r, hk⟩
  | n + 1, .s y, v, u, x, r => by
    cases (show v = .str y from x)
    exact r
  | n + 1, .t ks, v, u, x, r => by
    obtain ⟨a, xs, rfl, q, p⟩ := x
    obtain ⟨its, r', pl, _⟩ := I.tuple q
    cases (show u = Value.ref a from r)
    exact ⟨a, its.toArray, rfl, pl, by simpa using WO (fun k v u h1 h2 => Qaq I k v u h1 h2) p r'⟩
end
section
variable {K : PySem.W.Frag} {R : Rn} {h : MH} {H : Hp}
theorem QbJ (rh : Rh K R h H) : ∀ (n : Nat) (w : W) (v : V) (k : Tr), Rw K R w v → VY n w = some k → TrH K H n k v
  | 0, _, _, _, _, e => by simp [VY] at e
  | n + 1, w, v, k, r, e => by
    cases w with
    | int i => simp only [VY] at e; cases e; exact .inl r.int_eq
    | bl b => simp only [VY] at e; cases e; exact .inr ⟨b, r.bl_eq, rfl⟩
    | str x => simp only [VY] at e; cases e; exact r.str_eq
    | tup ws =>
      simp only [VY] at e
      obtain ⟨ks, e1, e2⟩ := Option.map_eq_some_iff.mp e
      subst e2
      obtain ⟨a, xs, rfl, q, r1⟩ := rh.tupAt r
      refine ⟨a, xs, rfl, q, ?_⟩
      clear e r q
      induction ws generalizing ks xs with
      | nil =>
        rw [Rws.nil_iff] at r1; subst r1
        rw [List.mapM_nil] at e1
        cases (show some [] = some ks from e1)
        exact .nil
      | cons x ws ih =>
        rw [List.mapM_cons] at e1
        obtain ⟨k1, h1, e2⟩ := Option.bind_eq_some_iff.mp e1
        obtain ⟨ks1, h2, e3⟩ := Option.bind_eq_some_iff.mp e2
        cases (show some (k1 :: ks1) = some ks from e3)
        rw [Rws.cons_iff] at r1
        obtain ⟨y, ys, rfl, p1, p2⟩ := r1
        exact .cons (QbJ rh n x y k1 p1 h1) (ih ks1 h2 ys p2)
    | _ => simp [VY] at e
theorem YN (rh : Rh K R h H) {w : W} {v : V} {k : Tr} (r : Rw K R w v) (e : nrm w = some k) : TrH K H 8 k v := by
  cases w with
  | tup ws => exact QbJ rh 8 _ v k r e
  | _ => cases e
theorem QaF (rh : Rh K R h H) {w : W} {v : V} {k : Tr} (r : Rw K R w v) (e : nrm w = some k) : ∃ a, v = .ref a := by
  cases w with
  | tup ws => obtain ⟨a, xs, rfl, _⟩ := rh.tupAt r; exact ⟨a, rfl⟩
  | _ => cases e
end
noncomputable def Vf (kvs : List (W × W)) (k : Tr) : Option W := (kvs.find? fun p => decide (nrm p.1 = some k)).map (·.2)
noncomputable def Go (kvs : List (W × W)) (k : Tr) (kw v : W) : List (W × W) := if (Vf kvs k).isSome = true then kvs.map (fun p => if nrm p.1 = some k then (p.1, v) else p) else kvs ++ [(kw, v)]
noncomputable def X4 (kx : List (Tr × Addr × V)) (k : Tr) : Option V := (kx.find? fun p => decide (p.1 = k)).map (·.2.2)
noncomputable def Uk (kx : List (Tr × Addr × V)) (k : Tr) (b : Addr) (v : V) : List (Tr × Addr × V) := if (X4 kx k).isSome = true then kx.map (fun p => if p.1 = k then (p.1, p.2.1, v) else p) else kx ++ [(k, b, v)]
noncomputable abbrev DctR (K : PySem.W.Frag) (R : Rn) : List (W × W) → List (Tr × Addr × V) → Prop := Paired fun p q => Rw K R p.1 (.ref q.2.1) ∧ nrm p.1 = some q.1 ∧ Rw K R p.2 q.2.2
noncomputable abbrev Qan : List (Tr × Addr × V) → List (Tr × Addr × Value) → Prop := Paired fun p q => p.1 = q.1 ∧ p.2.1 = q.2.1 ∧ RelV p.2.2 q.2.2
section
variable {K : PySem.W.Frag} {R : Rn}
theorem J3 {k : Tr} : ∀ {kvs : List (W × W)} {kx : List (Tr × Addr × V)}, DctR K R kvs kx → (Vf kvs k = none ∧ X4 kx k = none) ∨ ∃ w v, Vf kvs k = some w ∧ X4 kx k = some v ∧ Rw K R w v
  | _, _, .nil => .inl ⟨rfl, rfl⟩
  | p :: ps, q :: qs, .cons h t => by
    by_cases e : q.1 = k
    · have e' : nrm p.1 = some k := by rw [h.2.1, e]
      exact .inr ⟨p.2, q.2.2, by simp [Vf, List.find?_cons, e'], by simp [X4, List.find?_cons, e], h.2.2⟩
    · have e' : ¬ nrm p.1 = some k := by rw [h.2.1]; exact fun z => e (Option.some.inj z)
      have h1 : Vf (p :: ps) k = Vf ps k := by simp only [Vf, List.find?_cons, e', decide_false]
      have h2 : X4 (q :: qs) k = X4 qs k := by simp only [X4, List.find?_cons, e, decide_false]
      rcases J3 (k := k) t with z | ⟨w, v, z1, z2, z3⟩
      · exact .inl ⟨h1.trans z.1, h2.trans z.2⟩
      · exact .inr ⟨w, v, h1.trans z1, h2.trans z2, z3⟩
theorem KU {k : Tr} {kvs : List (W × W)} {kx : List (Tr × Addr × V)} (d : DctR K R kvs kx) : (Vf kvs k).isSome = (X4 kx k).isSome := by
  rcases J3 (k := k) d with z | ⟨w, v, z1, z2, _⟩
  · rw [z.1, z.2]; rfl
  · rw [z1, z2]; rfl
theorem Kg {k : Tr} {kw w : W} {b : Addr} {v : V} {kvs : List (W × W)} {kx : List (Tr × Addr × V)} (d : DctR K R kvs kx) (rk : Rw K R kw (.ref b)) (hk : nrm kw = some k) (r : Rw K R w v) : DctR K R (Go kvs k kw w) (Uk kx k b v) := by
  unfold Go Uk
  rw [KU d]
  split
  · rename_i hz
    clear hz rk hk
    induction d with
    | nil => exact .nil
    | @cons p q ps qs h t ih =>
      rw [List.map_cons, List.map_cons]
      refine .cons ?_ ih
      by_cases e : q.1 = k
      · rw [if_pos e, if_pos (by rw [h.2.1, e])]; exact ⟨h.1, h.2.1, r⟩
      · rw [if_neg e, if_neg (by rw [h.2.1]; exact fun z => e (Option.some.inj z))]; exact h
  · exact Paired.snoc d ⟨rk, hk, r⟩
theorem VN {k : Tr} : ∀ {kx : List (Tr × Addr × V)} {xs : List (Tr × Addr × Value)}, Qan kx xs → RelO (X4 kx k) ((atKey xs k).map (·.2))
  | _, _, .nil => True.intro
  | p :: ps, q :: qs, .cons h t => by
    have ih := VN (k := k) t
    by_cases e : p.1 = k
    · have e' : q.1 = k := h.1.symm.trans e
      have a1 : X4 (p :: ps) k = some p.2.2 := by simp [X4, List.find?_cons, e]
      have a2 : atKey (q :: qs) k = some q.2 := by simp [atKey, List.find?_cons, e']
      rw [a1, a2]; exact h.2.2
    · have e' : ¬ q.1 = k := fun z => e (h.1.trans z)
      have a1 : X4 (p :: ps) k = X4 ps k := by simp only [X4, List.find?_cons, e, decide_false]
      have a2 : atKey (q :: qs) k = atKey qs k := by simp [atKey, List.find?_cons, e']
      rw [a1, a2]; exact ih
theorem KP {k : Tr} {kx : List (Tr × Addr × V)} {xs : List (Tr × Addr × Value)} (d : Qan kx xs) : (X4 kx k).isSome = (atKey xs k).isSome := by
  have := (VN (k := k) d).isSome_eq
  rwa [Option.isSome_map] at this
theorem XU {k : Tr} {b : Addr} {v : V} {u : Value} {kx : List (Tr × Addr × V)} {xs : List (Tr × Addr × Value)} (d : Qan kx xs) (r : RelV v u) : Qan (Uk kx k b v) (storedH xs k b u) := by
  unfold Uk storedH
  rw [KP d]
  split
  · rename_i hz
    clear hz
    induction d with
    | nil => exact .nil
    | @cons p q ps qs h t ih =>
      rw [List.map_cons, List.map_cons]
      refine .cons ?_ ih
      unfold PySem.putAt
      by_cases e : p.1 = k
      · rw [if_pos e, if_pos (h.1.symm.trans e)]; exact ⟨h.1, h.2.1, r⟩
      · rw [if_neg e, if_neg (fun z => e (h.1.trans z))]; exact h
  · exact Paired.snoc d ⟨rfl, rfl, r⟩
theorem VB {kx : List (Tr × Addr × V)} {k : Tr} {b : Addr} {v : V} : (Uk kx k b v).length ≤ kx.length + 1 := by
  unfold Uk
  split
  · rw [List.length_map]; omega
  · rw [List.length_append]; simp
end
section
variable {X : Cx} {pins : List (Addr × Obj)} {σ : L2.St} {H : Hp} {s : Shared} {R : Rn} {h : MH}
theorem YV (I : Inv X pins σ H s) (rh : Rh X.K R h H) {n : Nat} {kvs : List (W × W)} (hn : h[n]? = some (.dct kvs)) :
    ∃ kx xs, H (R.ρ n) = some (.dT kx) ∧ DctR X.K R kvs kx ∧ kx.length ≤ sizeLine ∧ (R.ρ n == sysModules) = false ∧ Qan kx xs ∧ s.heap.DictOfH (Qh X.prog X.w) (R.ρ n) xs := by
  obtain ⟨kx, e1, e2⟩ := rh.obj n _ hn
  obtain ⟨z, y, xs, r, o, es, ep, h1, h2, h3, h4, h5, _⟩ := I.hok _ _ e1
  refine ⟨kx, xs, e1, e2, z, y, r, o, es, ep, h1, h2, h3, h4, ?_, h5⟩
  clear h4 h5 z e1 hn
  induction r generalizing kvs with
  | nil => intro x hx; exact nomatch hx
  | @cons p q ps qs hq t ih =>
    cases e2 with
    | cons d1 d2 =>
      intro x hx
      rcases List.mem_cons.mp hx with e | hx
      · subst e
        have := Qaq I _ _ _ (YN rh d1.1 d1.2.1) (show RelV (.ref p.2.1) (Value.ref p.2.1) from rfl)
        rw [hq.1, hq.2.1] at this
        exact this
      · exact ih d2 x hx
noncomputable def DctE (prog : Program) (w : World) (h : Heap) (d : Addr) (xs : List (Tr × Addr × Value)) : Prop :=
  ∃ o es ep, h.get? d = some o ∧ o.ExactDict ∧ o.data = .dict es ep ∧ es.toList = xs.map (entryOfKey (Qh prog w)) ∧ (∀ x ∈ xs, (Qh prog w).is h x.1 x.2.1) ∧ (xs.map (·.1)).Nodup ∧ ep = es.size
theorem DctE.of {prog : Program} {w : World} {h : Heap} {d : Addr} {xs : List (Tr × Addr × Value)} : DctE prog w h d xs → h.DictOfH (Qh prog w) d xs := fun ⟨o, es, ep, h1, h2, h3, h4, h5, h6, _⟩ => ⟨o, es, ep, h1, h2, h3, h4, h5, h6⟩
theorem XR (I : Inv X pins σ H s) (rh : Rh X.K R h H) {n : Nat} {kvs : List (W × W)} (hn : h[n]? = some (.dct kvs)) :
    ∃ kx xs, H (R.ρ n) = some (.dT kx) ∧ DctR X.K R kvs kx ∧ kx.length ≤ sizeLine ∧ (R.ρ n == sysModules) = false ∧ Qan kx xs ∧ DctE X.prog X.w s.heap (R.ρ n) xs := by
  obtain ⟨kx, xs, a1, a2, a3, a4, a5, o, es, ep, b1, b2, b3, b4, b5, b6⟩ := YV I rh hn
  obtain ⟨_, _, xs', r, o', es', ep', c1, c2, c3, c4, c5, c6⟩ := I.hok _ _ a1
  rw [b1] at c1; cases c1
  rw [b3] at c3; cases c3
  exact ⟨kx, xs, a1, a2, a3, a4, a5, o, es, ep, b1, b2, b3, b4, b5, b6, c6⟩
theorem XH (I : Inv X pins σ H s) (rh : Rh X.K R h H) {w : W} {v : V} {u : Value} {k : Tr} (r : Rw X.K R w v) (ru : RelV v u) (e : nrm w = some k) : ∃ b, v = .ref b ∧ u = .ref b ∧ (Qh X.prog X.w).is s.heap k b := by
  obtain ⟨b, rfl⟩ := QaF rh r e
  cases (show u = Value.ref b from ru)
  exact ⟨b, rfl, rfl, Qaq I _ _ _ (YN rh r e) (show RelV (.ref b) (Value.ref b) from rfl)⟩
theorem J7 {h' : Heap} {t' : Nat} {a : Addr} {kx kx' : List (Tr × Addr × V)} {xs' : List (Tr × Addr × Value)} (I : Inv X pins σ H s) (e : H a = some (.dT kx)) (z : kx'.length ≤ sizeLine) (lo : (a == sysModules) = false) (r : Qan kx' xs')
    (hs : Heap.SameBut a s.heap h') (dd : DctE X.prog X.w h' a xs') : Inv X pins σ (upd H a (.dT kx')) { s with heap := h', toks := t' } := by
  obtain ⟨o, es, ep, h1, h2, h3, h4, _, h5, h6⟩ := dd
  exact QaO I (by rw [e]; exact True.intro) hs ⟨o, h1⟩ ⟨z, lo, xs', r, o, es, ep, h1, h2, h3, h4, h5, h6⟩
end
noncomputable def Uj (h : MH) : W → Option (List (W × W))
  | .ref n => match h[n]? with | some (.dct kvs) => some kvs | _ => none
  | _ => none
theorem Vw {h : MH} {a : W} {kvs : List (W × W)} (e : Uj h a = some kvs) : ∃ n, a = .ref n ∧ h[n]? = some (.dct kvs) := by
  cases a with
  | ref n =>
    simp only [Uj] at e
    split at e
    · rename_i us hn
      cases e
      exact ⟨n, rfl, hn⟩
    · cases e
  | _ => cases e
noncomputable def Wz : ME := fun _ h => some (.ref h.length, h ++ [.dct []])
noncomputable def GT (neg : Bool) (b a : W) (h : MH) : Option (W × MH) := (Uj h a).bind fun kvs => (nrm b).map fun k => (.bl (if neg then !(Vf kvs k).isSome else (Vf kvs k).isSome), h)
noncomputable def JH (a b v : W) (h : MH) : Option MH := match a with
  | .ref n => match h[n]? with
    | some (.dct kvs) => (nrm b).bind fun k => if kvs.length < sizeLine then some (h.set n (.dct (Go kvs k b v))) else none
    | _ => none
  | _ => none
noncomputable def QaA (mo mi mv : ME) : SM := fun σ h => (mv σ h).bind fun v => (mo σ v.2).bind fun o => (mi σ o.2).bind fun i => (JH o.1 i.1 v.1 i.2).map fun h' => .nx σ h'
noncomputable def Qav (a : W) (ws : List W) (h : MH) : Option (W × MH) := match ws with
  | [b, v] => (Uj h a).bind fun kvs => (nrm b).bind fun k => match Vf kvs k with
    | some x => some (x, h)
    | none => (JH a b v h).map fun h' => (v, h')
  | _ => none
noncomputable def XT (a : W) (ws : List W) (h : MH) : Option (W × MH) := match ws with
  | [b, v] => (Uj h a).bind fun kvs => (nrm b).map fun k => ((Vf kvs k).getD v, h)
  | _ => none
section
variable {prog : Program} {w : World} {A : Around} {E : Value → Shared → Prop} {s : Shared} {d a : Addr} {k : Tr} {xs : List (Tr × Addr × Value)}
theorem Qbb {dflt : Value} {Q : Value → Shared → Prop} (hu : (Qh prog w).room A) (hkey : (Qh prog w).is s.heap k a) (hm : DctE prog w s.heap d xs) (hsz : xs.length ≤ sizeLine)
    (h1 : ∀ p, atKey xs k = some p → Q p.2 { s with toks := s.toks + (Qh prog w).draws k })
    (h2 : atKey xs k = none → ∀ h', DctE prog w h' d (storedH xs k a dflt) → Heap.SameBut d s.heap h' → Q dflt { s with heap := h', toks := s.toks + (Qh prog w).draws k }) : wpAny (model prog w) A (dictSetDefault d (.ref a) dflt) Q E s := by
  obtain ⟨o, es, ep, ho, hc, hd, he, his, hn, hq⟩ := hm
  unfold dictSetDefault
  refine wpAny_holding (wpAny_bind ((Qh prog w).pyHash hu hkey (wpAny_bind (wpAny_dictFind_heap (s := { s with toks := s.toks + (Qh prog w).draws k }) hu hkey ho hd he his hn ?_ ?_))))
  · intro hno
    have hnot : k ∉ xs.map (·.1) := not_mem_keys_of_get hno
    have en := atKey_none_of_get hno
    refine wpAny_bind (wpAny_rule (wpAny_bind (wpAny_updateDictKeys (hz := by have e := size_of_entries he; omega) (s := { s with toks := s.toks + (Qh prog w).draws k }) ho hd (wpAny_pure (h2 en _ ⟨_, _, ep + 1, Heap.get?_update_self _ ho (Obj.isFreed_of_dict (Obj.data_mapDictKeys hd _)), hc.mapDictKeys _, Obj.data_mapDictKeys hd _, ?_, ?_, ?_, by rw [hq]; simp⟩ (Heap.SameBut.update ..))))))
    · rw [storedH_new en]
      simp [he, entryOfKey]
    · rw [storedH_new en]
      intro x hx
      rcases List.mem_append.mp hx with hx | hx
      · exact (Qh prog w).keeps (his x hx) ho hd (Heap.SameBut.update ..)
      · cases List.mem_singleton.mp hx
        exact (Qh prog w).keeps hkey ho hd (Heap.SameBut.update ..)
    · rw [storedH_new en, List.map_append, List.nodup_append]
      exact ⟨hn, by simp, fun x hx y hy e => hnot (by rw [List.map_cons, List.map_nil, List.mem_singleton] at hy; rw [e, hy] at hx; exact hx)⟩
  · intro j p hj
    refine wpAny_bind (wpAny_dictEntries (s := { s with toks := s.toks + (Qh prog w).draws k }) ho hd ?_)
    rw [entry_at he j, hj]
    exact wpAny_bind (wpAny_rule (wpAny_pure (h1 p (atKey_of_get hn hj))))
theorem V4 {v : Value} {Q : Unit → Shared → Prop} (hu : (Qh prog w).room A) (hkey : (Qh prog w).is s.heap k a) (hm : DctE prog w s.heap d xs) (hsz : xs.length ≤ sizeLine)
    (h : ∀ h', DctE prog w h' d (storedH xs k a v) → Heap.SameBut d s.heap h' → Q () { s with heap := h', toks := s.toks + (Qh prog w).draws k }) : wpAny (model prog w) A (dictSet d (.ref a) v) Q E s := by
  obtain ⟨o, es, ep, ho, hc, hd, he, his, hn, hq⟩ := hm
  unfold dictSet
  refine wpAny_holding (wpAny_bind ((Qh prog w).pyHash hu hkey ?_))
  unfold dictSetHashed
  refine wpAny_holding (wpAny_bind (wpAny_dictFind_heap (s := { s with toks := s.toks + (Qh prog w).draws k }) hu hkey ho hd he his hn ?_ ?_))
  · intro hno
    have hnot : k ∉ xs.map (·.1) := not_mem_keys_of_get hno
    have en := atKey_none_of_get hno
    refine wpAny_bind (wpAny_rule (wpAny_updateDictKeys (hz := by have e := size_of_entries he; omega) (s := { s with toks := s.toks + (Qh prog w).draws k }) ho hd (h _ ⟨_, _, ep + 1, Heap.get?_update_self _ ho (Obj.isFreed_of_dict (Obj.data_mapDictKeys hd _)), hc.mapDictKeys _, Obj.data_mapDictKeys hd _, ?_, ?_, ?_, by rw [hq]; simp⟩ (Heap.SameBut.update ..))))
    · rw [storedH_new en]; simp [he, entryOfKey]
    · rw [storedH_new en]; intro x hx
      rcases List.mem_append.mp hx with hx | hx
      · exact (Qh prog w).keeps (his x hx) ho hd (Heap.SameBut.update ..)
      · cases List.mem_singleton.mp hx; exact (Qh prog w).keeps hkey ho hd (Heap.SameBut.update ..)
    · rw [storedH_new en, List.map_append, List.nodup_append]
      exact ⟨hn, by simp, fun x hx y hy e => hnot (by rw [List.map_cons, List.map_nil, List.mem_singleton] at hy; rw [e, hy] at hx; exact hx)⟩
  · intro j p hj
    have eo := atKey_of_get hn hj
    refine wpAny_bind (wpAny_rule (wpAny_bind (wpAny_updateDict (s := { s with toks := s.toks + (Qh prog w).draws k }) ho hd (wpAny_point (h _ ⟨_, _, ep, Heap.get?_update_self _ ho (Obj.isFreed_of_dict (Obj.data_mapDict hd _)), hc.mapDict _, Obj.data_mapDict hd _, ?_, ?_, ?_, by rw [hq]; simp⟩ (Heap.SameBut.update ..))))))
    · rw [storedH_old eo]
      have := modify_map_putAt (entryOfKey (Qh prog w)) (fun e : DictEntry => { e with val := v }) k v (fun _ _ => rfl) hn hj
      rw [← he] at this; obtain ⟨l⟩ := es; simpa using this
    · rw [storedH_old eo]; intro x hx
      obtain ⟨y, hy, rfl⟩ := List.mem_map.mp hx
      simp only [PySem.putAt]; split <;> exact (Qh prog w).keeps (his y hy) ho hd (Heap.SameBut.update ..)
    · rw [storedH_old eo, keys_map_putAt]; exact hn
theorem WJ {v : Value} {Q : Unit → Shared → Prop} (hu : (Qh prog w).room A.in1) (hkey : (Qh prog w).is s.heap k a) (hm : DctE prog w s.heap d xs) (hsz : xs.length ≤ sizeLine)
    (h : ∀ h', DctE prog w h' d (storedH xs k a v) → Heap.SameBut d s.heap h' → Q () { s with heap := h', toks := s.toks + (Qh prog w).draws k }) : wpAny (model prog w) A (setItem (.ref d) (.ref a) v) Q E s := by
  have ty := hm.of.typeIs
  unfold setItem
  refine wpAny_holding (wpAny_bind (wpAny_sequenceKey ty (by decide) (wpAny_bind (wpAny_callSpecial?_slot (name := Str.ofString "__setitem__") ty slot_dict_setitem (wpAny_call_entry slot_dict_setitem ty entry_dict_setitem ?_ (args_dict_setitem _ _ _))))))
  refine (show wpAny _ _ (Builtin.Dict.notOrdered "__setitem__" ⟨[.ref d, .ref a, v], []⟩ >>= _) _ _ s from wpAny_bind (wpAny_notOrdered_dict ty ?_))
  exact (show wpAny _ _ (dictSet d (.ref a) v >>= _) _ _ s from wpAny_bind (V4 hu hkey hm hsz fun h' m s' => wpAny_pure ⟨.none, rfl, wpAny_pure (h h' m s')⟩))
end
section
variable {X : Cx} {o i e a b : Expr} {mo mi mv ma mb : ME} {pos pos' : Pos}
theorem Wg : PM X (.Dict [] [] pos) Wz := QO UT fun σ H Q q => by
  obtain ⟨R, σi, h, w, h', rh, st, e, k⟩ := q
  cases e
  intro p hp
  obtain ⟨R3, x3, rh3, rw3⟩ := rh.new (mo := .dct []) (o := .dT []) hp fun R' x' => ⟨[], rfl, .nil⟩
  exact k R3 _ _ x3 rh3 rw3
theorem UY (hu : X.A.units + 64 < cLine) : (Qh X.prog X.w).room X.A.in1 := by show X.A.units + 1 + 8 < cLine; omega
theorem Qay (hu : X.A.units + 64 < cLine) : OpR X (compareOp .In) (F2 X.K (GT false)) := by
  intro pins s σ H x y v u Q I rx ry ⟨R, h, a, b, w, h', rh, ra, rb, e, k⟩
  unfold GT at e
  obtain ⟨kvs, e1, e2⟩ := Option.bind_eq_some_iff.mp e
  obtain ⟨kk, e3, e4⟩ := Option.map_eq_some_iff.mp e2
  cases e4
  obtain ⟨n, rfl, hn⟩ := Vw e1
  obtain ⟨kx, xs, hx, dr, z, lo, rr, dd⟩ := YV I rh hn
  obtain ⟨c, rfl, rfl, hk⟩ := XH I rh ra rx e3
  unfold Rw at rb
  obtain ⟨_, rfl⟩ := rb
  obtain rfl : u = Value.ref (R.ρ n) := ry
  refine wpAny_in_heap (UY hu) hk lo dd ?_
  rw [← KP rr, ← KU dr]
  exact ⟨.bl _, H, I.tok _, rfl, k R H _ (Ext.refl _) rh (Rw.bl _)⟩
theorem VV {h h' : MH} {a b v : W} (e : JH a b v h = some h') : ∃ n kvs k, a = .ref n ∧ h[n]? = some (.dct kvs) ∧ nrm b = some k ∧ kvs.length < sizeLine ∧ h' = h.set n (.dct (Go kvs k b v)) := by
  unfold JH at e
  split at e
  · rename_i n
    split at e
    · rename_i kvs hn
      obtain ⟨k, e1, e2⟩ := Option.bind_eq_some_iff.mp e
      split at e2
      · rename_i hl
        cases e2
        exact ⟨n, kvs, k, rfl, hn, e1, hl, rfl⟩
      · cases e2
    · cases e
  · cases e
noncomputable def Qdl (K : PySem.W.Frag) (mo mi mv : ME) : TS := fun D σ H => tI K mv σ H fun v H1 => tI K mo σ H1 fun x H2 => tI K mi σ H2 fun y H3 =>
  ∃ R h a b w h', Rh K R h H3 ∧ Rw K R a x ∧ Rw K R b y ∧ Rw K R w v ∧ JH a b w h = some h' ∧ ∀ R' H', Ext R R' → Rh K R' h' H' → D.nx σ H'
theorem QfB {pins : List (Addr × Obj)} {σ : L2.St} {H : Hp} {s : Shared} {R : Rn} {h h' : MH} {a b w : W} {x y v : V} {ux uy uv : Value} {Q : Unit → Shared → Prop} (hu : X.A.units + 64 < cLine) (I : Inv X pins σ H s) (rh : Rh X.K R h H) (ra : Rw X.K R a x) (rb : Rw X.K R b y) (rw : Rw X.K R w v)
    (rx : RelV x ux) (ry : RelV y uy) (rv : RelV v uv) (e : JH a b w h = some h') (q : ∀ s' H', Inv X pins σ H' s' → Rh X.K R h' H' → Q () s') : wpAny (model X.prog X.w) X.A (setItem ux uy uv) Q X.xe s := by
  obtain ⟨n, kvs, k, rfl, hn, hk, hl, rfl⟩ := VV e
  obtain ⟨kx, xs, hx, dr, z, lo, rr, dd⟩ := XR I rh hn
  obtain ⟨c, rfl, rfl, hkey⟩ := XH I rh rb ry hk
  unfold Rw at ra
  obtain ⟨hlt, rfl⟩ := ra
  obtain rfl : ux = Value.ref (R.ρ n) := rx
  have hlen := Paired.length dr
  have hlen2 := Paired.length rr
  refine WJ (UY hu) hkey dd (by omega) fun h' dd' hs => ?_
  have hz : (Uk kx k c v).length ≤ sizeLine := by have := VB (kx := kx) (k := k) (b := c) (v := v); omega
  exact q _ _ (J7 I hx hz lo (XU rr rv) hs dd') (rh.put hlt ⟨_, rfl, Kg dr rb hk rw⟩)
theorem U4 (hu : X.A.units + 64 < cLine) (ho : PM X o mo) (hi : PM X i mi) (he : PM X e mv) (hs : KZ e = false := by rfl) : PMS X (.Assign [.Subscript o i pos'] e pos) (QaA mo mi mv) := by
  refine Z0 (t := Qdl X.K mo mi mv) (fun pins s σ H D I h => ?_) fun D σ H q => ?_
  · refine wpAny_Assign_Subscript (thn (he pins s σ H _ I h) fun r s1 ⟨v, H1, I1, rv, q1⟩ => thn (ho pins s1 σ H1 _ I1 q1) fun u s2 ⟨x, H2, I2, rx, q2⟩ => thn (hi pins s2 σ H2 _ I2 q2) fun iv s3 ⟨y, H3, I3, ry, R, h, a, b, w, h', rh, ra, rb, rw, e, k⟩ => ?_) (show swapsWith e (some (.Subscript o i pos')) pos.line X.env = pure false from VD hs)
    exact QfB hu I3 rh ra rb rw rx ry rv e fun s4 H4 I4 rh4 => ⟨σ, H4, I4, k R H4 (Ext.refl _) rh4⟩
  · obtain ⟨R, σi, h, r, rh, s, e, k⟩ := q
    obtain ⟨⟨v, h1⟩, e1, e2⟩ := Option.bind_eq_some_iff.mp e
    obtain ⟨⟨ob, h2⟩, e3, e4⟩ := Option.bind_eq_some_iff.mp e2
    obtain ⟨⟨ix, h3⟩, e5, e6⟩ := Option.bind_eq_some_iff.mp e4
    obtain ⟨h', e7, e8⟩ := Option.map_eq_some_iff.mp e6
    subst e8
    refine ⟨R, σi, h, v, h1, rh, s, e1, fun R1 H1 x x1 rh1 rx => ⟨R1, σi, h1, ob, h2, rh1, s.mono x1, e3, fun R2 H2 y x2 rh2 ry => ⟨R2, σi, h2, ix, h3, rh2, s.mono (x1.trans x2), e5, fun R3 H3 z x3 rh3 rz => ?_⟩⟩⟩
    exact ⟨R3, h3, ob, ix, v, h', rh3, Rw.mono x3 _ _ ry, rz, Rw.mono (x2.trans x3) _ _ rx, e7, fun R4 H4 x4 rh4 => k R4 H4 σ (x1.trans (x2.trans (x3.trans x4))) rh4 (s.mono (x1.trans (x2.trans (x3.trans x4))))⟩
end
theorem WV {prog : Program} {w : World} (d a : Addr) (lo : (d == sysModules) = false) (dflt : Value) :
    MeetsIn prog w (Builtin.«dict.setdefault» ⟨[.ref d, .ref a, dflt], []⟩) (fun A R s => (Qh prog w).room A.in1 ∧ ∃ k xs, (Qh prog w).is s.heap k a ∧ DctE prog w s.heap d xs ∧ xs.length ≤ sizeLine ∧
      (∀ p, atKey xs k = some p → R (.ok (.ret p.2)) { s with toks := s.toks + (Qh prog w).draws k }) ∧
      (atKey xs k = none → ∀ h', DctE prog w h' d (storedH xs k a dflt) → Heap.SameBut d s.heap h' → R (.ok (.ret dflt)) { s with heap := h', toks := s.toks + (Qh prog w).draws k })) :=
  .of_wp fun A R s ⟨hu, k, xs, hkey, hm, hz, h1, h2⟩ => by
    unfold Builtin.«dict.setdefault» Builtin.Dict.keyAndDefault
    refine wpAny_bind (wpAny_bind (wpAny_notOrdered_dict hm.of.typeIs ?_))
    refine (show wpAny _ _ (pure (d, Value.ref a, some dflt)) _ _ s from wpAny_pure ?_)
    refine (show wpAny _ _ (if (d == sysModules) = true then _ else (dictSetDefault d (.ref a) dflt >>= _)) _ _ s from ?_)
    rw [if_neg (by rw [lo]; exact Bool.false_ne_true)]
    exact wpAny_bind (Qbb hu hkey hm hz (fun p hp => wpAny_pure ⟨p.2, rfl, h1 p hp⟩) fun hn h' hm' hs' => wpAny_pure ⟨dflt, rfl, h2 hn h' hm' hs'⟩)
section
variable {X : Cx}
theorem QaG (hu : X.A.units + 64 < cLine) : Qc4 X "dict.setdefault" Qav := by
  intro pins s σ H x xs v us Q I rx rv q
  obtain ⟨R, h, a, ws, w, h', rh, ra, rws, e, k⟩ := q
  unfold Qav at e
  split at e
  · rename_i b dv
    obtain ⟨kvs, e1, e2⟩ := Option.bind_eq_some_iff.mp e
    obtain ⟨kk, e3, e4⟩ := Option.bind_eq_some_iff.mp e2
    obtain ⟨n, rfl, hn⟩ := Vw e1
    obtain ⟨y, dz, rfl, rb, rd⟩ := Qdw rws
    obtain ⟨uy, uz, rfl, ry, rz⟩ := Qba rv
    obtain ⟨kx, xs, hx, dr, zl, lo, rr, dd⟩ := XR I rh hn
    obtain ⟨c, rfl, rfl, hkey⟩ := XH I rh rb ry e3
    have ra' := ra
    unfold Rw at ra'
    obtain ⟨hlt, rfl⟩ := ra'
    obtain rfl : v = Value.ref (R.ρ n) := rx
    have hlen := Paired.length dr
    have hlen2 := Paired.length rr
    have he := VN (k := kk) rr
    refine call_meetsIn PySem.F.slot_dict_setdefault dd.of.typeIs PySem.F.entry_dict_setdefault (PySem.F.args_dict_setdefault_3 _ _ _) (WV _ c lo uz) ⟨UY hu, kk, xs, hkey, dd, by omega, fun p hp => ?_, fun hno h'' dd' hs => ?_⟩
    · rw [hp] at he
      rcases J3 (k := kk) dr with z | ⟨w', v', z1, z2, z3⟩
      · rw [z.2] at he; exact he.elim
      · rw [z1] at e4
        cases e4
        rw [z2] at he
        exact ⟨v', H, I.tok _, he, k R H _ (Ext.refl _) rh z3⟩
    · rw [hno] at he
      rcases J3 (k := kk) dr with z | ⟨w', v', z1, z2, z3⟩
      · rw [z.1] at e4
        obtain ⟨h3, e5, e6⟩ := Option.map_eq_some_iff.mp e4
        cases e6
        obtain ⟨n', kvs', k', en, hn', hk', hl, rfl⟩ := VV e5
        cases en
        rw [hn] at hn'; cases hn'
        rw [e3] at hk'; cases hk'
        have hz : (Uk kx kk c dz).length ≤ sizeLine := by have := VB (kx := kx) (k := kk) (b := c) (v := dz); omega
        exact ⟨dz, _, J7 I hx hz lo (XU rr rz) hs dd', rz, k R _ _ (Ext.refl _) (rh.put hlt ⟨_, rfl, Kg dr rb e3 rd⟩) rd⟩
      · rw [z2] at he; exact he.elim
  · cases e
theorem Ut (hu : X.A.units + 64 < cLine) : Qc4 X "dict.get" XT := by
  intro pins s σ H x xs v us Q I rx rv q
  obtain ⟨R, h, a, ws, w, h', rh, ra, rws, e, k⟩ := q
  unfold XT at e
  split at e
  · rename_i b dv
    obtain ⟨kvs, e1, e2⟩ := Option.bind_eq_some_iff.mp e
    obtain ⟨kk, e3, e4⟩ := Option.map_eq_some_iff.mp e2
    cases e4
    obtain ⟨n, rfl, hn⟩ := Vw e1
    obtain ⟨y, z, rfl, rb, rd⟩ := Qdw rws
    obtain ⟨uy, uz, rfl, ry, rz⟩ := Qba rv
    obtain ⟨kx, xs, hx, dr, zl, lo, rr, dd⟩ := YV I rh hn
    obtain ⟨c, rfl, rfl, hkey⟩ := XH I rh rb ry e3
    unfold Rw at ra
    obtain ⟨hlt, rfl⟩ := ra
    obtain rfl : v = Value.ref (R.ρ n) := rx
    have he := VN (k := kk) rr
    refine call_meetsIn PySem.F.slot_dict_get dd.typeIs PySem.F.entry_dict_get (PySem.F.args_dict_get_3 _ _ _) (meetsH_dict_get_default (Qh X.prog X.w) (R.ρ n) c lo uz) ⟨UY hu, kk, xs, hkey, dd, ?_⟩
    rcases J3 (k := kk) dr with z | ⟨w', v', z1, z2, z3⟩
    · rw [z.2] at he
      rw [RelO.none_of he]
      rw [z.1] at k
      exact ⟨_, H, I.tok _, rz, k R H _ (Ext.refl _) rh rd⟩
    · rw [z2] at he
      obtain ⟨u, hu1, hu2⟩ := RelO.some_of he
      rw [hu1]
      rw [z1] at k
      exact ⟨v', H, I.tok _, hu2, k R H _ (Ext.refl _) rh z3⟩
  · cases e
end
end Mi

namespace L2
open PySem PySem.Spec PyProof.Rows
section
variable {X : Cx} {pins : List (Addr × Obj)} {σ : St} {H : Hp} {s : Shared} {h' : Heap} {t' : Nat} {ch : List Addr}
end
noncomputable def Itv (K : PySem.W.Frag) (a : Addr) (n : Nat) : It := ⟨fun i H => i < n ∧ ∃ xs, SqL K H a xs ∧ xs.length = n, fun i H x H' => H' = H ∧ ∀ xs, SqL K H a xs → xs[n - 1 - i]? = some x, fun i _ => n ≤ i⟩
theorem U0 {P : Program} {w : World} {K : PySem.W.Frag} {tg : Expr} (a it : Addr) (n : Nat) : Turn P w K tg (Itv K a n) [it] it (fun i h => i ≤ n ∧ h.IsRevIter it a ((n : Int) - 1 - (i : Int))) where
  mem := by simp
  obj := fun i h st b hb => by
    have e : b = it := by simpa using hb
    subst e
    obtain ⟨_, o, e, c, d⟩ := st
    exact ⟨o, e, fun v z => by rw [d] at z; cases z⟩
  keep := fun i h h' st k => ⟨st.1, st.2.at fun o e => k it (by simp) o e⟩
  item := by
    intro X hP hw hK hc i pins s σ H E I hf st hg
    subst hP hw hK
    obtain ⟨hi, xs, hq, hl⟩ := hg
    obtain ⟨its, rv, p, hz⟩ := I.list hq
    obtain ⟨x, hx⟩ : ∃ x, xs[n - 1 - i]? = some x := ⟨xs[n - 1 - i]'(by omega), List.getElem?_eq_getElem _⟩
    obtain ⟨u, hu, ru⟩ := rv.get hx
    obtain ⟨f0, f1, f2, f3, f4, f5⟩ := hf it (by simp)
    have e : (n : Int) - 1 - (i : Int) = ((n - 1 - i : Nat) : Int) := by omega
    have hit := st.2
    rw [e] at hit
    refine wpAny_pyNext_rev_item hit p.isList (x := u) (by simpa using hu) fun h' st' sb => ?_
    have e2 : ((n - 1 - i : Nat) : Int) - 1 = (n : Int) - 1 - ((i + 1 : Nat) : Int) := by omega
    rw [e2] at st'
    have I1 : Inv X pins σ H { s with heap := h' } := I.turned (t' := s.toks) (fun b o hb e => (sb.2 b hb).trans e) f0 f1 f3 f4 f5
    obtain ⟨o, e, c, d⟩ := id st'
    exact ⟨u, rfl, Yo (s := { s with heap := h' }) e c d (by decide) ⟨x, H, I1, ru, ⟨rfl, fun ys hy => by rw [I.list_inj hy hq]; exact hx⟩, ⟨hi, st'⟩, fun b hb => (hf b hb).1⟩⟩
  done := by
    intro X hP hw hK hc i pins s σ H E I hf st hg
    subst hP hw hK
    obtain ⟨f0, f1, f2, f3, f4, f5⟩ := hf it (by simp)
    have hin : n ≤ i := hg
    have e : (n : Int) - 1 - (i : Int) = -1 := by have := st.1; omega
    have hit := st.2
    rw [e] at hit
    exact wpAny_pyNext_rev_end (I.ok.hd hc) hit fun h' eb => ⟨rfl, I.turned (t' := s.toks) (fun b o hb e => eb b o hb e) f0 f1 f3 f4 f5⟩
  self := fun _ _ _ _ _ st h => wpAny_pyIter_revIter st.2 h
noncomputable def QfT (K : PySem.W.Frag) (ta : TA) : TI := fun σ H R => ta σ H fun vs H1 => ∃ a xs, vs = [.ref a] ∧ SqL K H1 a xs ∧ R (Itv K a xs.length) H1
theorem QbV {X : Cx} {tg a : Expr} {ta : TA} {p pos : Pos} (hg : Gl X "reversed") (hm : X.mg "reversed" = none) (ha : PA X [a] ta) (hs : starEach [a] X.env = [(false, eval a X.env)] := by rfl) : PI X tg (.Call (.Name "reversed" p) [a] [] pos) (QfT X.K ta) := by
  intro pins s σ H R I h
  refine Call_ (JT I hg hm boot_reversed (PyProof.Rows.callWith_type1 (thn (ha pos pins s σ H _ I h) fun us s1 ⟨vs, H1, I1, r1, q1⟩ => ?_) hs rfl))
  obtain ⟨ad, xs, e, hq, q⟩ := q1
  subst e
  obtain ⟨u, rfl, ru⟩ := Xq r1
  cases ru
  obtain ⟨its, rv, pl, hz⟩ := I1.list hq
  have hl := rv.length
  refine call_reversed_list pl.isList ?_
  refine wpAny_pyIter_revIter (l := ad) (i := (its.toArray.size : Int) - 1) ⟨_, Heap.get?_push_size _ rfl, rfl, rfl⟩ ?_
  refine ⟨s1.heap.objs.size, [s1.heap.objs.size], _, _, H1, rfl, I1.kept (t' := s1.toks) fun b o e => Heap.get?_push_of_some _ e, U0 ad _ xs.length, ⟨Nat.zero_le _, ?_⟩, fun b hb => ?_, q⟩
  · refine ⟨_, Heap.get?_push_size _ rfl, rfl, ?_⟩
    have : ((its.toArray.size : Nat) : Int) - 1 = (xs.length : Int) - 1 - ((0 : Nat) : Int) := by rw [List.size_toArray, hl]; simp
    rw [← this]
    rfl
  · have e : b = s1.heap.objs.size := by simpa using hb
    subst e
    exact I1.fpOk (Nat.le_refl _) (I1.hok.fresh (Nat.le_refl _))
end L2
namespace Mi
open PySem PySem.Spec PyProof.Rows L2
noncomputable def Wn (ms : MA) : MI := fun σ h => (ms σ h).bind fun p => match p.1 with
  | [.lst ws] => some (ws.reverse, none, p.2)
  | _ => none
section
variable {K : PySem.W.Frag} {R : Rn}
theorem UI {a : Addr} {xs : List V} {ws : List W} (hq : SqL K R.F a xs) (r : Rws K R ws xs) : ItOk K R (Itv K a xs.length) ws.reverse none where
  go := fun i w R' h H x rh _ e => by
    have hl := (List.getElem?_eq_some_iff.mp e).1
    rw [List.length_reverse, r.length] at hl
    exact ⟨hl, xs, QS (fun b o z => rh.sub b o (x.f b o z)) hq, rfl⟩
  yld := fun i w R' h H x H' e rh _ ew hy => by
    obtain ⟨rfl, hx⟩ := hy
    have hl := (List.getElem?_eq_some_iff.mp ew).1
    rw [List.length_reverse] at hl
    rw [List.getElem?_reverse hl] at ew
    obtain ⟨v, h1, h2⟩ := r.get ew
    have := hx xs (QS (fun b o z => rh.sub b o (e.f b o z)) hq)
    rw [← r.length, h1] at this; cases this
    exact ⟨R', Ext.refl _, rh, Rw.mono e _ _ h2⟩
  stop := fun i R' h H x rh _ hl => by rw [List.length_reverse, r.length] at hl; exact hl
end
section
variable {X : Cx} {tg a b : Expr} {ms : MA} {p pos tpos : Pos} {elts : List Expr} {kk : Nat}
theorem G9 (hg : Gl X "reversed") (hm : X.mg "reversed" = none) (ha : PMA X [a] ms) (hs : starEach [a] X.env = [(false, eval a X.env)] := by rfl) : PMI X tg (.Call (.Name "reversed" p) [a] [] pos) (Wn ms) :=
  GE (QbV hg hm ha hs) fun σ H C ⟨R, σi, h, items, src, h', rh, st, e, k⟩ => by
    obtain ⟨⟨ws, h1⟩, e1, e2⟩ := Option.bind_eq_some_iff.mp e
    refine ⟨R, σi, h, ws, h1, rh, st, e1, fun R1 H1 vs x1 rh1 rv => ?_⟩
    split at e2
    · rename_i us hj
      simp only at hj
      subst hj
      cases e2
      obtain ⟨v, rfl, r1⟩ := YG rv
      have r1' := r1
      unfold Rw at r1'
      obtain ⟨ad, xs, rfl, hF, rr⟩ := r1'
      exact ⟨ad, xs, rfl, SqL.of (rh1.sub _ _ hF), k R1 H1 _ x1 rh1 (UI (SqL.of hF) rr)⟩
    · cases e2
end
end Mi

namespace Mi
open PySem PySem.Spec PyProof.Rows L2
noncomputable def Y7 (mk mv : ME) : ME := fun σ h => (mk σ (h ++ [.dct []])).bind fun p => (mv σ p.2).bind fun q => (JH (.ref h.length) p.1 q.1 q.2).map fun h' => (.ref h.length, h')
section
variable {prog : Program} {w : World} {A : Around} {E : Value → Shared → Prop} {s : Shared}
theorem Gj {km vm : Sem Value} {Q : Addr → Shared → Prop} (h : wpAny (model prog w) A km (fun kv s1 => wpAny (model prog w) A vm (fun vv s2 => wpAny (model prog w) A (dictSet s.heap.objs.size kv vv) (fun _ s3 => Q s.heap.objs.size s3) E s2) E s1) E { s with heap := s.heap.push { cls := .type "dict", data := .dict #[] } }) :
    wpAny (model prog w) A (subDict [(km, vm)]) Q E s := by
  unfold subDict
  refine wpAny_bind (wpAny_alloc (wpAny_bind (wpAny_holding ?_)))
  rw [if_pos (by simp)]
  refine wpAny_bind (evalPairs_cons (wpAny_mono h (fun kv s1 h1 => wpAny_mono h1 (fun vv s2 h2 => evalPairs_nil ?_) fun _ _ x => x) fun _ _ x => x))
  refine wpAny_holding ?_
  rw [List.forIn_cons]
  refine wpAny_bind (wpAny_bind (show wpAny (model prog w) A (dictSet s.heap.objs.size kv vv >>= fun _ => pure (ForInStep.yield PUnit.unit)) _ _ s2 from wpAny_bind (wpAny_mono h2 (fun _ s3 h3 => wpAny_pure ?_) fun _ _ x => x)))
  show wpAny (model prog w) A (forIn [] PUnit.unit _) _ _ s3
  rw [List.forIn_nil]
  exact wpAny_pure (wpAny_pure (wpAny_pure h3))
end
section
variable {X : Cx} {k v : Expr} {mk mv : ME} {pos : Pos}
theorem U2 (hu : X.A.units + 64 < cLine) (hk : PM X k mk) (hv : PM X v mv) : PM X (.Dict [some k] [v] pos) (Y7 mk mv) := by
  intro pins s σ H Q I ⟨R, σi, h, w, h', rh, st, e, kk⟩
  obtain ⟨⟨kw, h1⟩, e1, e2⟩ := Option.bind_eq_some_iff.mp e
  obtain ⟨⟨vw, h2⟩, e3, e4⟩ := Option.bind_eq_some_iff.mp e2
  obtain ⟨h3, e5, e6⟩ := Option.map_eq_some_iff.mp e4
  cases e6
  have hn := I.hok.fresh (Nat.le_refl s.heap.objs.size)
  have I1 := I.laid (a := s.heap.objs.size) (o := .dT []) (h' := s.heap.push { cls := .type "dict", data := .dict #[] }) (t' := s.toks) (fun _ _ q => Heap.get?_push_of_some _ q) (Nat.le_refl _) (KC s.heap I.big)
  obtain ⟨R1, x1, rh1, rw1⟩ := rh.new (mo := .dct []) (o := .dT []) hn fun R' x' => ⟨[], rfl, .nil⟩
  rw [arm_eval_Dict, zip_pairTrees [some k] [v] X.env pos rfl rfl, dictDisplay_pairs _ (by simp [pairTrees]) (by simp [pairTrees])]
  refine wpAny_bind (wpAny_standAt (wpAny_bind (Gj ?_)))
  refine thn (hk pins _ σ _ (fun kv H2 => ∃ R2, Ext R1 R2 ∧ Rh X.K R2 h1 H2 ∧ Rw X.K R2 kw kv) I1 ⟨R1, σi, h ++ [.dct []], kw, h1, rh1, st.mono x1, e1, fun R2 H2 kv x2 rh2 rk => ⟨R2, x2, rh2, rk⟩⟩) fun ku s2 ⟨kv, H2, I2, rku, R2, x2, rh2, rk⟩ => ?_
  refine wpAny_bind (thn (hv pins s2 σ H2 (fun vv H3 => ∃ R3, Ext R2 R3 ∧ Rh X.K R3 h2 H3 ∧ Rw X.K R3 vw vv) I2 ⟨R2, σi, h1, vw, h2, rh2, st.mono (x1.trans x2), e3, fun R3 H3 vv x3 rh3 rv => ⟨R3, x3, rh3, rv⟩⟩) fun vu s3 ⟨vv, H3, I3, rvu, R3, x3, rh3, rv⟩ => wpAny_bind (wpAny_standAt (wpAny_pure ?_)))
  obtain ⟨n, kvs, kt, en, hn', hkt, hl, rfl⟩ := VV e5
  cases en
  obtain ⟨kx, xs, hx, dr, z, lo, rr, dd⟩ := XR I3 rh3 hn'
  obtain ⟨c, rfl, rfl, hkey⟩ := XH I3 rh3 (Rw.mono x3 _ _ rk) rku hkt
  have r3 := Rw.mono (x2.trans x3) _ _ rw1
  have r3' := r3
  unfold Rw at r3'
  obtain ⟨hlt, er⟩ := r3'
  have er' : R3.ρ h.length = s.heap.objs.size := by injection er with q; exact q.symm
  rw [er'] at hx lo dd
  have hlen := Paired.length dr
  have hlen2 := Paired.length rr
  refine V4 (show X.A.units + 8 < cLine by omega) hkey dd (by omega) fun h4 dd' hs => wpAny_pure ?_
  have hz : (Uk kx kt c vv).length ≤ sizeLine := by have := VB (kx := kx) (k := kt) (b := c) (v := vv); omega
  have I4 := J7 (t' := s3.toks + (Qh X.prog X.w).draws kt) I3 hx hz lo (XU rr rvu) hs dd'
  have rh4 := rh3.put (n := h.length) (o := .dT (Uk kx kt c vv)) (mo := .dct (Go kvs kt kw vw)) hlt ⟨_, rfl, Kg dr (Rw.mono x3 _ _ rk) hkt rv⟩
  rw [er'] at rh4
  exact ⟨.ref s.heap.objs.size, _, I4, rfl, kk R3 _ _ (x1.trans (x2.trans x3)) rh4 r3⟩
end
end Mi

namespace St
open PySem PySem.Spec PyProof.Rows
section
variable {prog : Program} {w : World} {A : Around} {E : Value → Shared → Prop} {s : Shared}
noncomputable def SetL (prog : Program) (w : World) (h : Heap) (a : Addr) (ks : List Str) (led : Bool) : Prop :=
  ∃ o es ep t, h.get? a = some o ∧ o.ExactSet ∧ o.data = .set es ep t ∧ ElemsOf (strKind prog w) es.toList ∧ es.size < scanBound ∧ t.fits es.size = true ∧ t.led = led ∧ (es.size = 0 ∨ t.plain = false) ∧ ks.Nodup ∧ es.size = ks.length ∧ ∀ k, k ∈ ks ↔ ∃ e ∈ es.toList, (strKind prog w).is k e.2 = true
theorem SetL.at {h h' : Heap} {a : Addr} {ks : List Str} {led : Bool} (x : SetL prog w h a ks led) (e : ∀ o, h.get? a = some o → h'.get? a = some o) : SetL prog w h' a ks led := let ⟨o, es, ep, t, ho, r⟩ := x; ⟨o, es, ep, t, e _ ho, r⟩
theorem SetL.lt {h : Heap} {a : Addr} {ks : List Str} {led : Bool} (x : SetL prog w h a ks led) : a < h.objs.size := let ⟨_, _, _, _, ho, _⟩ := x; Heap.lt_size ho
theorem SetL.typeIs {a : Addr} {ks : List Str} {led : Bool} (x : SetL prog w s.heap a ks led) : s.TypeIs (.ref a) "set" := let ⟨o, _, _, _, ho, hx, _⟩ := x; ⟨o, ho, hx.1⟩
theorem stored {h : Heap} {a : Addr} {o : Obj} {es es' : Array (Int × Value)} {ep : Nat} {t t' : SetTable} {ks : List Str} (ho : h.get? a = some o) (hx : o.ExactSet) (hd : o.data = .set es ep t) (h1 : ElemsOf (strKind prog w) es'.toList) (h2 : es'.size < scanBound) (h3 : t'.fits es'.size = true) (h5 : es'.size = 0 ∨ t'.plain = false) (h6 : ks.Nodup) (h7 : es'.size = ks.length) (h8 : ∀ k, k ∈ ks ↔ ∃ e ∈ es'.toList, (strKind prog w).is k e.2 = true) :
    (h.update a (Obj.putSet es' t')).get? a = some (Obj.putSet es' t' o) ∧ (Obj.putSet es' t' o).ExactSet ∧ (∃ ep', (Obj.putSet es' t' o).data = .set es' ep' t') ∧ SetL prog w (h.update a (Obj.putSet es' t')) a ks t'.led := by
  have g1 : (h.update a (Obj.putSet es' t')).get? a = some (Obj.putSet es' t' o) := Heap.get?_update_self _ ho (by rw [putSet_of es' t' hd]; rfl)
  have g2 : (Obj.putSet es' t' o).ExactSet := by rw [putSet_of es' t' hd]; exact hx
  have g3 : ∃ ep', (Obj.putSet es' t' o).data = .set es' ep' t' := by rw [putSet_of es' t' hd]; exact ⟨_, rfl⟩
  obtain ⟨ep', g4⟩ := g3
  exact ⟨g1, g2, ⟨ep', g4⟩, _, es', ep', t', g1, g2, g4, h1, h2, h3, rfl, h5, h6, h7, h8⟩
end
end St

namespace St
open PySem PySem.Spec PyProof.Rows
noncomputable def QeG (l : List Str) : List Str := l.foldl (fun u x => if x ∈ u then u else u ++ [x]) []
section
variable {prog : Program} {w : World} {A : Around} {R : Result → Shared → Prop} {I : Addr} {fp wr : List Addr} {G : Array GenState → Array GenState → Prop} {n : Nat} {P : Nat → Value → Prop} {St' : Nat → Shared → Prop}
end
end St

namespace St
open PySem PySem.Spec PyProof.Rows
section
variable {prog : Program} {w : World} {A : Around} {E : Value → Shared → Prop} {s : Shared}
noncomputable abbrev ledW (w : World) : Bool := !(w.params.followText "set-order")
noncomputable abbrev emptySet (b : Bool) : Obj := { cls := .type "set", dict := none, data := .set #[] 0 (.fresh 0 0 b) }
theorem newL (a : Value) {Q₁ : Value → Shared → Prop} (h : Q₁ (.ref s.heap.objs.size) { s with heap := s.heap.push (emptySet (ledW w)) }) :
    codeAny (model prog w) A (.call (.builtin "set.__new__") ⟨[.type "set", a], []⟩) (wants Q₁ E) s := by
  refine codeAny_of_tree (show wpAny _ A.in1 (do checkBuiltinCall "set.__new__" ⟨[.type "set", a], []⟩; again (.builtin "set.__new__" ⟨[.type "set", a], []⟩)) _ _ s from ?_)
  refine wpAny_bind (wpAny_of_eq (F.newCall_set_1 a) (wpAny_pure ⟨plainId_quiet F.plain_set_new _, codeAny_builtin (F.entry_set_new) ?_⟩))
  rw [Around.under_plainId F.plain_set_new _]; unfold Builtin.«set.__new__» Builtin.Frozenset.newClass
  have hsub := sub_set_self
  obtain ⟨hp, g, d, tk, os⟩ := s
  dsimp only
  wp_walk
  refine wpAny_askSetting (wpAny_pure ?_)
  dsimp only
  simp only [newObj]
  exact wpAny_bind (wpAny_alloc (wpAny_pure (wpAny_pure h)))
end
end St

namespace St
open PySem PySem.Spec PyProof.Rows
theorem slotN : Slot "set_iterator" "__next__" "set_iterator.__next__" := .of (owner := "set_iterator") (n := "__next__") (by rw [typeLookup_type, builtinLookup_eq_fast]; kernel_rfl) (by decide +kernel) (by decide +kernel) (by decide +kernel) (by first | exact .inl (by decide +kernel) | exact .inr (by decide +kernel)) (by rw [isSubtype_type]; kernel_rfl)
theorem entryN : entryFor table "set_iterator.__next__" = some Builtin.«set_iterator.__next__» := entryFor_of_tree (by kernel_rfl)
theorem argsN (a : Value) : argsOk "set_iterator.__next__" ⟨[a], []⟩ := by unfold argsOk; kernel_rfl
theorem entryI : entryFor table "set.__iter__" = some Builtin.«frozenset.__iter__» := entryFor_alias (id' := "frozenset.__iter__") (by kernel_rfl) rfl (by decide +kernel) (by kernel_rfl)
theorem Vn {α : Type} {l : List α} {j : Nat} (lt : j < l.length) : List.Perm (l[j] :: l.eraseIdx j) l := by
  rw [List.eraseIdx_eq_take_drop_succ]
  have e : l = l.take j ++ l[j] :: l.drop (j + 1) := by rw [← List.drop_eq_getElem_cons lt, List.take_append_drop]
  conv => rhs; rw [e]
  exact List.perm_middle.symm
theorem WQ {α : Type} (nx : Nat → Nat) : ∀ (f k : Nat) (l : List α) (o : Array α), f = l.length → List.Perm (pickOrder.go nx f k l o).toList (o.toList ++ l)
  | 0, k, l, o, h => by
    rw [List.length_eq_zero_iff.mp h.symm, List.append_nil]; exact .rfl
  | f + 1, k, l, o, h => by
    unfold pickOrder.go
    have lt : nx k % l.length < l.length := Nat.mod_lt _ (by omega)
    generalize nx k % l.length = j at lt
    rw [List.getElem?_eq_getElem lt]
    refine (WQ nx f (k + 1) (l.eraseIdx j) (o.push l[j]) (by rw [List.length_eraseIdx_of_lt lt]; omega)).trans ?_
    rw [Array.toList_push, List.append_assoc, List.singleton_append]
    exact List.Perm.append_left _ (Vn lt)
theorem pick_perm {α : Type} (nx : Nat → Nat) (xs : Array α) : List.Perm (pickOrder nx xs).toList xs.toList := by
  have := WQ nx xs.size 0 xs.toList #[] (by simp)
  simpa [pickOrder] using this
section
variable {prog : Program} {w : World} {A : Around} {E : Value → Shared → Prop} {s : Shared}
theorem QcT {M : Model} {src : Source} {n : Nat} {Q : Nat → Shared → Prop} (hn : n ≠ 0) (h : ∀ j d, j < n → Q j { s with drawn := d }) : wpAny M A (choose src n) Q E s := fun Γ p _ => by
  show Sem.wp M Γ (.choose src n fun i => pure i) _ _ p s
  rw [Sem.wp_choose]
  exact ⟨hn, h _ _ (Nat.mod_lt _ (Nat.pos_of_ne_zero hn))⟩
theorem draw_perm {α : Type} : ∀ (n : Nat) (xs : List α) (s : Shared) (Q : List α → Shared → Prop), n = xs.length → (∀ ys d, List.Perm ys xs → Q ys { s with drawn := d }) → wpAny (model prog w) A (drawOrder n xs) Q E s
  | 0, xs, s, Q, hn, h => by
    have e := List.length_eq_zero_iff.mp hn.symm
    subst e
    exact wpAny_pure (h [] s.drawn .rfl)
  | n + 1, [], s, Q, hn, h => by cases hn
  | n + 1, x :: xs, s, Q, hn, h => by
    unfold drawOrder
    refine wpAny_bind (QcT (by simp) fun j d0 lt => ?_)
    rw [List.getElem?_eq_getElem lt]
    refine wpAny_bind (draw_perm n _ _ _ (by rw [List.length_eraseIdx_of_lt lt]; simp at hn ⊢; omega) fun ys d p => wpAny_pure (h _ d ?_))
    exact (p.cons _).trans (Vn lt)
end
end St

namespace St
open PySem PySem.Spec PyProof.Rows
section
variable {prog : Program} {w : World} {A : Around} {E : Value → Shared → Prop} {s : Shared}
noncomputable abbrev itObj (f : Value) (i : Nat) (S : Addr) (n ep : Nat) : Obj := { cls := .type "set_iterator", data := .fields #[f, .int i 0, .ref S, .int n 0, .int ep 0] }
inductive How (w : World) (S T : Addr) (h : Heap) (es : Array (Int × Value)) (ep : Nat) (t : SetTable) (vs : List Value) : Nat → Value → Prop where
  | tup {i : Nat} {ps : List Nat} (hT : h.get? T = some { cls := .type "tuple", data := .seq (ps.map fun (p : Nat) => rawInt p).toArray 0 }) (hl : ps.length = vs.length) (hp : ∀ (j p : Nat), ps[j]? = some p → ∃ e, es[p]? = some e ∧ vs[j]? = some e.2) : How w S T h es ep t vs i (.ref T)
  | text {i : Nat} (c : Nat) (hb : w.params.followText "set-order" = true) (hv : vs = (pickOrder (w.params.setOrder S ep) es).toList.map (·.2)) : How w S T h es ep t vs i (.int c 0)
  | few {i : Nat} (c : Nat) (hb : w.params.followText "set-order" = false) (hled : t.led = true) (hs : es.size ≤ 1) (hpl : t.place.size = es.size) (hv : vs = es.toList.map (·.2)) (hc : (i = 0 ∧ c = 0) ∨ (∃ j, t.place = #[j] ∧ i = 1 ∧ c = j + 1)) : How w S T h es ep t vs i (.int c 0)
noncomputable def ItS (w : World) (I S T : Addr) (vs : List Value) (i : Nat) (h : Heap) : Prop :=
  ∃ f o es ep t, h.get? I = some (itObj f i S vs.length ep) ∧ h.get? S = some o ∧ o.data = .set es ep t ∧ t.fits es.size = true ∧ es.size = vs.length ∧ How w S T h es ep t vs i f
theorem How.keep {S T : Addr} {h h' : Heap} {es : Array (Int × Value)} {ep : Nat} {t : SetTable} {vs : List Value} {i : Nat} {f : Value} (x : How w S T h es ep t vs i f) (k : ∀ o, h.get? T = some o → h'.get? T = some o) : How w S T h' es ep t vs i f := by
  cases x with
  | tup hT hl hp => exact .tup (k _ hT) hl hp
  | text c hb hv => exact .text c hb hv
  | few c hb hled hs hpl hv hc => exact .few c hb hled hs hpl hv hc
theorem raw_int (k : Nat) : rawInt (k : Int) = Value.int k 0 := rfl
theorem Qfw {f x a b c d : Value} : (#[f, a, b, c, d] : Array Value).setIfInBounds 0 x = #[x, a, b, c, d] := by rfl
theorem fld1 {f x a b c d : Value} : (#[f, a, b, c, d] : Array Value).setIfInBounds 1 x = #[f, x, b, c, d] := by rfl
theorem put_it {h : Heap} {I S : Addr} {f : Value} {i n ep : Nat} (e : h.get? I = some (itObj f i S n ep)) (k : Nat) (x : Value) : (h.update I (Obj.mapFields (·.setIfInBounds k x))).get? I = some { cls := .type "set_iterator", data := .fields ((#[f, .int i 0, .ref S, .int n 0, .int ep 0] : Array Value).setIfInBounds k x) } := Heap.get?_update_self _ e rfl
theorem QbP (j : Nat) : SetTable.below #[j] 0 = 0 := by simp [SetTable.below, SetTable.below.go]
theorem Qcu (j : Nat) : SetTable.below #[j] (j + 1) = 1 := by simp [SetTable.below, SetTable.below.go]
theorem upd2 {h : Heap} {I S : Addr} {f x y : Value} {i n ep : Nat} (e : h.get? I = some (itObj f i S n ep)) : ((h.update I (Obj.mapFields (·.setIfInBounds 0 x))).update I (Obj.mapFields (·.setIfInBounds 1 y))).get? I = some { cls := .type "set_iterator", data := .fields #[x, y, .ref S, .int n 0, .int ep 0] } := by
  have g1 := put_it e 0 x
  rw [Qfw] at g1
  exact Heap.get?_update_self (Obj.mapFields (·.setIfInBounds 1 y)) g1 rfl
theorem setNext_text {S : Addr} {o : Obj} {es : Array (Int × Value)} {ep c i : Nat} {t : SetTable} {Q : Option (Value × Nat) → Shared → Prop} (e2 : s.heap.get? S = some o) (e3 : o.data = .set es ep t) (ft : t.fits es.size = true) (hb : w.params.followText "set-order" = true)
    (h : Q (((pickOrder (w.params.setOrder S ep) es)[i]?).map fun e => (e.2, c)) s) : wpAny (model prog w) A (setNext S c i ep) Q E s := by
  unfold setNext
  refine wpAny_bind (wpAny_setState_of e2 e3 ft ?_)
  dsimp only
  unfold setsByText
  refine wpAny_bind (wpAny_bind (wpAny_askSetting (wpAny_pure ?_)))
  show wpAny _ _ (if (w.params.followText "set-order") = true then _ else _) _ _ _
  rw [if_pos hb]
  rw [if_neg (by simp)]
  refine wpAny_bind ?_
  unfold setWalk
  refine wpAny_bind (wpAny_setState_of e2 e3 ft ?_)
  dsimp only
  unfold setsByText
  refine wpAny_bind (wpAny_bind (wpAny_askSetting (wpAny_pure ?_)))
  show wpAny _ _ (if (w.params.followText "set-order") = true then _ else _) _ _ _
  rw [if_pos hb]
  refine wpAny_bind (wpAny_askSetting (wpAny_pure ?_))
  exact wpAny_pure h
theorem JZ {S : Addr} {o : Obj} {es : Array (Int × Value)} {ep c i : Nat} {t : SetTable} {Q : Option (Value × Nat) → Shared → Prop} (e2 : s.heap.get? S = some o) (e3 : o.data = .set es ep t) (ft : t.fits es.size = true) (hb : w.params.followText "set-order" = false) (hled : t.led = true) (hs : es.size ≤ 1)
    (h : Q (match es[SetTable.below t.place c]?, t.place[SetTable.below t.place c]? with | some (_, x), some j => some (x, j + 1) | _, _ => none) s) : wpAny (model prog w) A (setNext S c i ep) Q E s := by
  unfold setNext
  refine wpAny_bind (wpAny_setState_of e2 e3 ft ?_)
  dsimp only
  unfold setsByText
  refine wpAny_bind (wpAny_bind (wpAny_askSetting (wpAny_pure ?_)))
  show wpAny _ _ (if (w.params.followText "set-order") = true then _ else _) _ _ _
  rw [if_neg (by rw [hb]; simp)]
  show wpAny _ _ (if (!t.plain && decide (es.size > 1)) = true then _ else _) _ _ _
  rw [if_neg (by have : ¬ es.size > 1 := by omega
                 simp [this])]
  show wpAny _ _ ((if (!t.led && !es.isEmpty) = true then unsupported "set:maker-not-led" else pure ()) >>= _) _ _ _
  rw [if_neg (by rw [hled]; simp)]
  exact wpAny_bind (wpAny_pure (wpAny_pure h))
theorem setNext_drawn {S : Addr} {o : Obj} {es : Array (Int × Value)} {ep p : Nat} {t : SetTable} {e : Int × Value} {Q : Value → Shared → Prop} (e2 : s.heap.get? S = some o) (e3 : o.data = .set es ep t) (ft : t.fits es.size = true) (hp : es[p]? = some e) (h : Q e.2 s) : wpAny (model prog w) A (setNextDrawn S p ep) Q E s := by
  unfold setNextDrawn
  refine wpAny_bind (wpAny_setState_of e2 e3 ft ?_)
  dsimp only
  rw [if_neg (by simp), hp]
  exact wpAny_pure h
theorem Xg {I S T : Addr} {vs : List Value} {i : Nat} {Q : Option Value → Shared → Prop} (hIS : S ≠ I) (hIT : T ≠ I) (st : ItS w I S T vs i s.heap) (hi : i < vs.length)
    (hQ : ∀ v h', vs[i]? = some v → ItS w I S T vs (i + 1) h' → Heap.SameBut I s.heap h' → Q (some v) { s with heap := h' }) : wpAny (model prog w) A (pyNext (.ref I)) Q E s := by
  obtain ⟨f, o, es, ep, t, e1, e2, e3, ft, hsz, hw⟩ := st
  have hT : s.TypeIs (.ref I) "set_iterator" := ⟨_, e1, rfl⟩
  unfold pyNext
  refine wpAny_bind (wpAny_attempt (wpAny_callSpecial?_slot (name := Str.ofString "__next__") hT slotN (wpAny_call_entry slotN hT entryN ?_ (argsN _))))
  unfold Builtin.«set_iterator.__next__»
  refine wpAny_bind (wpAny_pure (wpAny_bind (wpAny_fieldsOf e1 rfl ?_)))
  dsimp only
  refine wpAny_bind (wpAny_setEntries_of e2 e3 ft ?_)
  rw [if_neg (by simp [hsz])]
  have two : ∀ (x y : Value), Heap.SameBut I s.heap ((s.heap.update I (Obj.mapFields (·.setIfInBounds 0 x))).update I (Obj.mapFields (·.setIfInBounds 1 y))) := fun x y => (Heap.SameBut.update ..).trans (Heap.SameBut.update ..)
  have on : ∀ (x : Value) (nx : Nat), vs[i]? = some x → How w S T s.heap es ep t vs (i + 1) (.int nx 0) → wpAny (model prog w) A.in1 (do
      setField (Value.ref I) 0 (rawInt (nx : Int))
      setField (Value.ref I) 1 (rawInt ((i : Int) + 1))
      ret x) (fun fin s' => ∃ v, fin = Fin.done (Flow.ret v) ∧ wpAny (model prog w) A (pure (some v)) Q E s') (fun e s' => wpAny (model prog w) A (do if (← isInstance e (Value.type "StopIteration")) = true then pure none else throw e) Q E s') s := by
    intro x nx hx hw'
    refine wpAny_bind (wpAny_setField e1 rfl (by simp) (wpAny_bind (wpAny_setField (put_it e1 0 _) rfl (by simp) (wpAny_pure ⟨x, rfl, wpAny_pure (hQ x _ hx ?_ (two _ _))⟩))))
    refine ⟨.int nx 0, o, es, ep, t, upd2 e1, ?_, e3, ft, hsz, hw'.keep fun o' e => ?_⟩
    · rw [(two _ _).2 S hIS]; exact e2
    · rw [(two _ _).2 T hIT]; exact e
  cases hw with
  | @tup ps hTT hl hp =>
    simp only [Int.toNat_natCast]
    refine wpAny_bind (wpAny_seqItems hTT rfl ?_)
    dsimp only
    have hpi : ps[i]? = some ps[i] := List.getElem?_eq_getElem (by omega)
    generalize ps[i] = q at hpi
    obtain ⟨e, he, hv⟩ := hp i q hpi
    have : ((ps.map fun (p : Nat) => rawInt p).toArray)[i]? = some (Value.int (q : Int) 0) := by simp [hpi, raw_int]
    rw [this]
    dsimp only
    refine wpAny_bind (setNext_drawn e2 e3 ft (p := q) he (wpAny_bind (wpAny_setField e1 rfl (by simp) (wpAny_pure ⟨e.2, rfl, wpAny_pure (hQ e.2 _ hv ?_ (Heap.SameBut.update ..))⟩))))
    have sb : Heap.SameBut I s.heap (s.heap.update I (Obj.mapFields (·.setIfInBounds 1 (rawInt ((i : Int) + 1))))) := Heap.SameBut.update ..
    refine ⟨.ref T, o, es, ep, t, ?_, by rw [sb.2 S hIS]; exact e2, e3, ft, hsz, How.keep (.tup hTT hl hp) fun o' e => by rw [sb.2 T hIT]; exact e⟩
    have g := put_it e1 1 (rawInt ((i : Int) + 1))
    rw [fld1] at g
    exact g
  | text c hb hv =>
    simp only [Int.toNat_natCast]
    refine wpAny_bind (setNext_text e2 e3 ft (i := i) (c := c) hb ?_)
    subst hv
    have hlt : i < (pickOrder (w.params.setOrder S ep) es).size := by simpa using hi
    rw [Array.getElem?_eq_getElem hlt]
    exact on _ c (by rw [List.getElem?_map, Array.getElem?_toList, Array.getElem?_eq_getElem hlt]; rfl) (.text c hb rfl)
  | few c hb hled hs hpl hv hc =>
    simp only [Int.toNat_natCast]
    refine wpAny_bind (JZ e2 e3 ft (i := i) (c := c) hb hled hs ?_)
    subst hv
    have h1 : es.size = 1 := by rw [List.length_map, Array.length_toList] at hi; omega
    have i0 : i = 0 := by rw [List.length_map, Array.length_toList] at hi; omega
    subst i0
    rcases hc with ⟨_, rfl⟩ | ⟨j, _, z, _⟩
    · obtain ⟨j, hj⟩ : ∃ j, t.place = #[j] := by
        have hz : t.place.toList.length = 1 := by rw [Array.length_toList]; omega
        obtain ⟨j, hj⟩ := List.length_eq_one_iff.mp hz
        exact ⟨j, Array.toList_inj.mp hj⟩
      obtain ⟨e, he⟩ : ∃ e, es[0]? = some e := ⟨es[0], Array.getElem?_eq_getElem (by omega)⟩
      rw [hj, QbP, he]
      exact on e.2 (j + 1) (by rw [List.getElem?_map, Array.getElem?_toList, he]; rfl) (.few (j + 1) hb hled hs hpl rfl (.inr ⟨j, hj, rfl, rfl⟩))
    · omega
end
end St

namespace St
open PySem PySem.Spec PyProof.Rows
section
variable {prog : Program} {w : World} {A : Around} {E : Value → Shared → Prop} {s : Shared}
theorem stop_end {B : Around} {Q : Option Value → Shared → Prop} (hh : B.handled = none) (hQ : ∀ h', (∀ b o, s.heap.get? b = some o → h'.get? b = some o) → Q none { s with heap := h' }) :
    wpAny (model prog w) B (newExc (.type "StopIteration") [] >>= raiseNew) (fun (fin : Fin) s' => ∃ v, fin = Fin.done (Flow.ret v) ∧ wpAny (model prog w) A (pure (some v)) Q E s') (fun e s' => wpAny (model prog w) A (do if (← isInstance e (Value.type "StopIteration")) = true then pure none else throw e) Q E s') s := by
  refine wpAny_bind ?_
  simp only [newExc, newTuple]
  refine wpAny_bind (wpAny_newObj_type ?_ (by size_fits))
  refine wpAny_bind (m := firstArgMember _ _) (wpAny_of_eq (a := Value.none) (by first | rfl | (simp only [firstArgMember]; rfl)) (wpAny_newObj_type ?_ (by size_fits)))
  simp only [raiseNew]
  refine wpAny_bind (wpAny_handled ?_)
  rw [hh]
  refine wpAny_bind (wpAny_pure (wpAny_throw ?_)); refine wpAny_bind (wpAny_isInstance (T := "StopIteration") (b := true) ⟨_, Heap.get?_push_size _ rfl, rfl⟩ isSubtype_stop ?_)
  refine wpAny_pure (hQ _ ?_)
  exact fun b o e => Heap.get?_push_of_some _ (Heap.get?_push_of_some _ e)
theorem Kn {I S T : Addr} {vs : List Value} {Q : Option Value → Shared → Prop} (hh : A.handled = none) (hIS : S ≠ I) (hIT : T ≠ I) (st : ItS w I S T vs vs.length s.heap)
    (hQ : ∀ h', Heap.ExtBut I s.heap h' → Q none { s with heap := h' }) : wpAny (model prog w) A (pyNext (.ref I)) Q E s := by
  obtain ⟨f, o, es, ep, t, e1, e2, e3, ft, hsz, hw⟩ := st
  have hT : s.TypeIs (.ref I) "set_iterator" := ⟨_, e1, rfl⟩
  unfold pyNext
  refine wpAny_bind (wpAny_attempt (wpAny_callSpecial?_slot (name := Str.ofString "__next__") hT slotN (wpAny_call_entry slotN hT entryN ?_ (argsN _))))
  unfold Builtin.«set_iterator.__next__»
  refine wpAny_bind (wpAny_pure (wpAny_bind (wpAny_fieldsOf e1 rfl ?_)))
  dsimp only
  refine wpAny_bind (wpAny_setEntries_of e2 e3 ft ?_)
  rw [if_neg (by simp [hsz])]
  have hA : A.in1.handled = none := hh
  have one : wpAny (model prog w) A.in1 (do
      setField (Value.ref I) 2 Value.none
      raiseNew (← newExc (Value.type "StopIteration") [])) (fun (fin : Fin) s' => ∃ v, fin = Fin.done (Flow.ret v) ∧ wpAny (model prog w) A (pure (some v)) Q E s') (fun e s' => wpAny (model prog w) A (do if (← isInstance e (Value.type "StopIteration")) = true then pure none else throw e) Q E s') s := by
    refine wpAny_bind (wpAny_setField e1 rfl (by simp) (stop_end hA fun h' k => hQ h' fun b o' hb e => k b o' ?_))
    rw [(Heap.SameBut.update ..).2 b hb]; exact e
  cases hw with
  | @tup ps hTT hl hp =>
    simp only [Int.toNat_natCast]
    refine wpAny_bind (wpAny_seqItems hTT rfl ?_)
    dsimp only
    rw [show ((ps.map fun (p : Nat) => rawInt p).toArray)[vs.length]? = none by simp [hl]]
    refine wpAny_bind (wpAny_setField e1 rfl (by simp) (wpAny_bind (wpAny_setField (put_it e1 0 _) rfl (by simp) (stop_end hA fun h' k => hQ h' fun b o' hb e => k b o' ?_))))
    rw [((Heap.SameBut.update s.heap I _).trans (Heap.SameBut.update ..)).2 b hb]; exact e
  | text c hb hv =>
    simp only [Int.toNat_natCast]
    refine wpAny_bind (setNext_text e2 e3 ft (i := vs.length) (c := c) hb ?_)
    rw [show (pickOrder (w.params.setOrder S ep) es)[vs.length]? = none by rw [hv]; simp]
    exact one
  | few c hb hled hs hpl hv hc =>
    simp only [Int.toNat_natCast]
    refine wpAny_bind (JZ e2 e3 ft (i := vs.length) (c := c) hb hled hs ?_)
    rcases hc with ⟨z, rfl⟩ | ⟨j, hj, z, rfl⟩
    · have h0 : es = #[] := Array.size_eq_zero_iff.mp (by omega)
      subst h0
      exact one
    · rw [hj, Qcu, show es[1]? = none from Array.getElem?_eq_none (by omega)]
      exact one
end
end St

namespace St
open PySem PySem.Spec PyProof.Rows
theorem slotII : Slot "set_iterator" "__iter__" "set_iterator.__iter__" := .of (owner := "set_iterator") (n := "__iter__") (by rw [typeLookup_type, builtinLookup_eq_fast]; kernel_rfl) (by decide +kernel) (by decide +kernel) (by decide +kernel) (by first | exact .inl (by decide +kernel) | exact .inr (by decide +kernel)) (by rw [isSubtype_type]; kernel_rfl)
theorem entryII : entryFor table "set_iterator.__iter__" = some Builtin.«dict_keyiterator.__iter__» := entryFor_alias (id' := "dict_keyiterator.__iter__") (by kernel_rfl) rfl (by decide +kernel) (by kernel_rfl)
theorem argsII (a : Value) : argsOk "set_iterator.__iter__" ⟨[a], []⟩ := by unfold argsOk; kernel_rfl
section
variable {prog : Program} {w : World} {A : Around} {E : Value → Shared → Prop} {s : Shared}
theorem Qcl {I S T : Addr} {vs : List Value} {i : Nat} {Q : Value → Shared → Prop} (st : ItS w I S T vs i s.heap) (h : Q (.ref I) s) : wpAny (model prog w) A (pyIter (.ref I)) Q E s := by
  obtain ⟨f, o, es, ep, t, e1, _⟩ := st
  have hT : s.TypeIs (.ref I) "set_iterator" := ⟨_, e1, rfl⟩
  refine wpAny_pyIter_slot hT slotII (wpAny_call_entry slotII hT entryII ?_ (argsII _))
  exact wpAny_pure ⟨_, rfl, "set_iterator", _, hT, slotN.lookup, h⟩
noncomputable abbrev atP (es : Array (Int × Value)) (i : Nat) : Value := (es.getD i (0, .none)).2
theorem get_places {es : Array (Int × Value)} {ps : List Nat} (p : ps.Perm (List.range es.size)) : (ps.map (atP es)).Perm (es.toList.map (·.2)) ∧ ∀ (j q : Nat), ps[j]? = some q → ∃ e, es[q]? = some e ∧ (ps.map (atP es))[j]? = some e.2 := by
  constructor
  · refine (p.map _).trans ?_
    have : (List.range es.size).map (atP es) = es.toList.map (·.2) := by
      apply List.ext_getElem?
      intro j
      rw [List.getElem?_map, List.getElem?_map]
      by_cases lt : j < es.size
      · simp [atP, Array.getD, lt]
      · rw [List.getElem?_eq_none (by simpa using lt), List.getElem?_eq_none (by simpa using lt)]
        rfl
    rw [this]
  · intro j q hq
    have lt : q < es.size := List.mem_range.mp (p.mem_iff.mp (List.mem_iff_getElem?.mpr ⟨j, hq⟩))
    refine ⟨es[q], Array.getElem?_eq_getElem lt, ?_⟩
    rw [List.getElem?_map, hq]
    simp [atP, Array.getD, lt]
end
end St

namespace St
open PySem PySem.Spec PyProof.Rows
section
variable {prog : Program} {w : World} {A : Around} {E : Value → Shared → Prop} {s : Shared}
theorem hintS {S : Addr} {Q : Bool → Shared → Prop} (hT : s.TypeIs (.ref S) "set") (h : Q false s) : wpAny (model prog w) A (Builtin.List.listLengthHint (.ref S)) Q E s := by
  unfold Builtin.List.listLengthHint
  refine wpAny_bind (wpAny_specialOf hT F.slot_set_len.lookup ?_)
  generalize hid : ("set.__len__" : String) = id1
  wp_delta
  rw [show splitId id1 = some ("set", "__len__") from by subst hid; decide +kernel]
  subst hid
  refine wpAny_bind (wpAny_isInstance (T := "set") (b := true) hT (by rw [isSubtype_type]; kernel_rfl) ?_)
  refine wpAny_ite_split (fun z => absurd z (by decide)) (fun _ => wpAny_ite_split (fun _ => ?_) (fun z => absurd (by decide +kernel) z))
  exact wpAny_bind (wpAny_typeOf hT (wpAny_pure h))
noncomputable abbrev lsO (xs : Array Value) (c : Nat) : Obj := { cls := .type "list", dict := none, data := .seq xs c, slots := #[] }
end
end St

namespace St
open PySem PySem.Spec PyProof.Rows
section
variable {prog : Program} {w : World} {A : Around} {E : Value → Shared → Prop} {s : Shared}
end
end St

namespace St
open PySem PySem.Spec PyProof.Rows
theorem le_of_lt {a b : Str} : ltCps b.cps.toList a.cps.toList = false ↔ a.cps.toList ≤ b.cps.toList := by
  rw [ltCps_eq, decide_eq_false_iff_not]
  exact Iff.rfl
theorem Jy : ∀ (x : Str) (r : List Str), risingS x r = true → ∀ z ∈ r, x.cps.toList ≤ z.cps.toList
  | x, [], _, z, hz => by cases hz
  | x, y :: r, h, z, hz => by
    have h' : (!ltCps y.cps.toList x.cps.toList && risingS y r) = true := h
    rw [Bool.and_eq_true, Bool.not_eq_true'] at h'
    have xy := le_of_lt.mp h'.1
    rcases List.mem_cons.mp hz with rfl | hz
    · exact xy
    · exact List.le_trans xy (Jy y r h'.2 z hz)
theorem J9 {x : Str} {r : List Str} (h : sortedS (x :: r) = true) : sortedS r = true := by
  cases r with
  | nil => rfl
  | cons y r =>
    have h' : (!ltCps y.cps.toList x.cps.toList && risingS y r) = true := h
    rw [Bool.and_eq_true] at h'
    exact h'.2
theorem str_eq {a b : Str} (h : a.cps.toList = b.cps.toList) : a = b := by
  obtain ⟨a⟩ := a
  obtain ⟨b⟩ := b
  congr 1
  exact Array.toList_inj.mp h
theorem ZN : ∀ (a b : List Str), a.Perm b → sortedS a = true → sortedS b = true → a = b
  | [], b, p, _, _ => (List.nil_perm.mp p).symm
  | x :: r, [], p, _, _ => by cases List.perm_nil.mp p
  | x :: r, y :: t, p, ha, hb => by
    have hx : x = y := by
      have h1 : y ∈ x :: r := p.mem_iff.mpr List.mem_cons_self
      have h2 : x ∈ y :: t := p.mem_iff.mp List.mem_cons_self
      rcases List.mem_cons.mp h1 with z | z
      · exact z.symm
      · rcases List.mem_cons.mp h2 with q | q
        · exact q
        · exact str_eq (List.le_antisymm (Jy x r ha y z) (Jy y t hb x q))
    subst hx
    rw [ZN r t (List.Perm.cons_inv p) (J9 ha) (J9 hb)]
end St
namespace Mi
open PySem PySem.Spec PyProof.Rows L2
section
variable {X : Cx}
theorem Inv.drew {pins : List (Addr × Obj)} {σ : L2.St} {H : Hp} {s : Shared} (I : Inv X pins σ H s) (d : Drawn) : Inv X pins σ H { s with drawn := d } := ⟨I.ok, I.os, I.bare, I.base, I.loc, I.cell, I.free, I.freeC, I.pin, I.hok, I.len⟩
end
end Mi

namespace St
open PySem PySem.Spec PyProof.Rows
open AutoSeq1 (wpAny_loadPart')
section
variable {prog : Program} {w : World} {A : Around} {E : Value → Shared → Prop} {s : Shared}
end
end St

namespace L2
open PySem PySem.Spec PyProof.Rows
end L2
namespace Mi
open PySem PySem.Spec PyProof.Rows L2
section
variable {K : PySem.W.Frag} {R : Rn}
end
section
variable {X : Cx} {tg a : Expr} {ms : MA} {p pos tpos : Pos} {elts : List Expr} {kk : Nat}
end
end Mi

namespace Dc
open PySem PySem.Spec PyProof.Rows
section
variable {prog : Program} {w : World} {A : Around} {E : Value → Shared → Prop} {s : Shared}
end
end Dc

namespace Dc
open PySem PySem.Spec PyProof.Rows
section
variable {prog : Program} {w : World} {K : Type} [DecidableEq K] {knd : KeyKind prog w K} {A : Around} {E : Value → Shared → Prop} {s : Shared}
noncomputable def PairAt (knd : KeyKind prog w K) (h : Heap) (v : Value) (p : K × Value) : Prop := ∃ a o n key, v = .ref a ∧ h.get? a = some o ∧ o.cls = .type "tuple" ∧ o.data = .seq #[key, p.2] n ∧ knd.is p.1 key = true
theorem PairAt.keep {h h' : Heap} {v : Value} {p : K × Value} (x : PairAt knd h v p) (k : ∀ a o, v = .ref a → h.get? a = some o → h'.get? a = some o) : PairAt knd h' v p := by
  obtain ⟨a, o, n, key, rfl, h1, h2, h3, h4⟩ := x
  exact ⟨a, o, n, key, rfl, k a o rfl h1, h2, h3, h4⟩
end
end Dc

namespace Dc
open PySem PySem.Spec PyProof.Rows PySem.W
section
variable {prog : Program} {w : World} {A : Around} {E : Value → Shared → Prop} {s : Shared}
end
end Dc

namespace Dc
open PySem PySem.Spec PyProof.Rows PySem.W
section
variable {prog : Program} {w : World} {A : Around} {E : Value → Shared → Prop} {s : Shared}
theorem XO {h : Heap} : ∀ (as : List Addr), (∀ a ∈ as, ∃ x t u, h.get? a = some { cls := .type "tuple", data := .seq #[.str x t, u] }) → ∃ fs, KatTups h (as.map Value.ref) fs ∧ fs.length = as.length ∧ ∀ f ∈ fs, ∃ x t, f = Value.str x t
  | [], _ => ⟨[], trivial, rfl, fun _ hf => nomatch hf⟩
  | a :: as, hp => by
    obtain ⟨x, t, u, e⟩ := hp a List.mem_cons_self
    obtain ⟨fs, h1, h2, h3⟩ := XO as fun b hb => hp b (List.mem_cons_of_mem _ hb)
    refine ⟨.str x t :: fs, KatTups.cons e rfl rfl (by simp) h1, by simp [h2], fun f hf => ?_⟩
    rcases List.mem_cons.mp hf with rfl | hf
    · exact ⟨x, t, rfl⟩
    · exact h3 f hf
end
end Dc

namespace Dc
open PySem PySem.Spec PyProof.Rows PySem.W
section
variable {prog : Program} {w : World} {A : Around} {E : Value → Shared → Prop} {s : Shared}
end
end Dc

namespace Mi
open PySem PySem.Spec PyProof.Rows L2
section
variable {X : Cx} {pins : List (Addr × Obj)} {σ : L2.St} {H H' : Hp} {s : Shared} {h' : Heap}
end
section
variable {K : PySem.W.Frag} {h : MH}
end
end Mi

namespace Mi
open PySem PySem.Spec PyProof.Rows L2
section
variable {X : Cx}
end
end Mi

namespace Mi
open PySem PySem.Spec PyProof.Rows L2
end Mi

namespace Mi
open PySem PySem.Spec PyProof.Rows L2
section
variable {X : Cx}
end
end Mi

namespace Mi
open PySem PySem.Spec PyProof.Rows L2
section
variable {X : Cx}
end
end Mi

namespace Mi
open PySem PySem.Spec PyProof.Rows L2 PySem.W
section
variable {prog : Program} {w : World} {A : Around} {E : Value → Shared → Prop} {s : Shared} {T : String} {r d : Addr} {n : Nat} {P : Nat → Value → Prop} {OK : Heap → Prop} {Q : Value → Shared → Prop}
end
section
variable {X : Cx}
end
end Mi

namespace L2
open PySem PySem.Spec PyProof.Rows
end L2
namespace Mi
open PySem PySem.Spec PyProof.Rows L2
section
variable {K : PySem.W.Frag} {R : Rn}
end
section
variable {X : Cx} {tg a : Expr} {ms : MA} {p pos tpos : Pos} {elts : List Expr} {kk : Nat}
end
end Mi

namespace L2
open PySem PySem.Spec PyProof.Rows PySem.SeqAt
section
variable {prog : Program} {w : World} {A : Around} {E : Value → Shared → Prop} {s : Shared}
end
end L2

namespace L2
open PySem PySem.Spec PyProof.Rows PySem.SeqAt
end L2
namespace Mi
open PySem PySem.Spec PyProof.Rows L2
end Mi

namespace Sb
open PySem SetTable
noncomputable abbrev At (xs : Array Nat) (i : Nat) : Nat := xs.getD i 0
noncomputable def Up (xs : Array Nat) : Prop := ∀ i j, i < j → j < xs.size → At xs i < At xs j
theorem VZ {xs : Array Nat} {j : Nat} (up : Up xs) : ∀ (f lo hi : Nat), hi - lo ≤ f → lo ≤ hi → hi ≤ xs.size → (∀ i, i < lo → At xs i < j) → (∀ i, hi ≤ i → i < xs.size → j ≤ At xs i) →
    below.go xs j f lo hi ≤ xs.size ∧ (∀ i, i < below.go xs j f lo hi → At xs i < j) ∧ ∀ i, below.go xs j f lo hi ≤ i → i < xs.size → j ≤ At xs i
  | 0, lo, hi, h1, h2, h3, h4, h5 => by
    have : lo = hi := by omega
    subst this
    exact ⟨h3, h4, h5⟩
  | f + 1, lo, hi, h1, h2, h3, h4, h5 => by
    unfold below.go
    by_cases hlt : lo < hi
    · rw [if_pos hlt]
      have hm : (lo + hi) / 2 < xs.size := by omega
      have e : xs.getD ((lo + hi) / 2) j = At xs ((lo + hi) / 2) := by simp [Array.getD, hm]
      have rel : ∀ a b, a ≤ b → b < xs.size → At xs a ≤ At xs b := fun a b z1 z2 => by
        rcases Nat.lt_or_ge a b with z | z
        · exact Nat.le_of_lt (up a b z z2)
        · rw [show a = b by omega]; exact Nat.le_refl _
      dsimp only
      rw [e]
      by_cases hc : At xs ((lo + hi) / 2) < j
      · rw [if_pos hc]
        exact VZ up f _ hi (by omega) (by omega) h3 (fun i hi' => Nat.lt_of_le_of_lt (rel i _ (by omega) hm) hc) h5
      · rw [if_neg hc]
        exact VZ up f lo _ (by omega) (by omega) (by omega) h4 (fun i z1 z2 => Nat.le_trans (by omega) (rel _ i z1 z2))
    · rw [if_neg hlt]
      have : lo = hi := by omega
      subst this
      exact ⟨h3, h4, h5⟩
theorem Jm {xs : Array Nat} (up : Up xs) (j : Nat) : below xs j ≤ xs.size ∧ (∀ i, i < below xs j → At xs i < j) ∧ ∀ i, below xs j ≤ i → i < xs.size → j ≤ At xs i :=
  VZ up xs.size 0 xs.size (by omega) (Nat.zero_le _) (Nat.le_refl _) (fun i h => absurd h (Nat.not_lt_zero _)) (fun i h1 h2 => by omega)
theorem UZ {xs : Array Nat} (up : Up xs) {i : Nat} (hi : i < xs.size) : below xs (At xs i) = i := by
  obtain ⟨h1, h2, h3⟩ := Jm up (At xs i)
  rcases Nat.lt_trichotomy (below xs (At xs i)) i with z | z | z
  · have := h3 _ (Nat.le_refl _) (by omega)
    have := up _ _ z hi
    omega
  · exact z
  · exact absurd (h2 i z) (Nat.lt_irrefl _)
theorem Yf {xs : Array Nat} (up : Up xs) {i : Nat} (hi : i < xs.size) : below xs (At xs i + 1) = i + 1 := by
  obtain ⟨h1, h2, h3⟩ := Jm up (At xs i + 1)
  rcases Nat.lt_trichotomy (below xs (At xs i + 1)) (i + 1) with z | z | z
  · have := h3 i (by omega) hi
    omega
  · exact z
  · have := h2 (i + 1) z
    have := up i (i + 1) (by omega) (by omega)
    omega
theorem Yj {xs : Array Nat} (up : Up xs) : below xs 0 = 0 := by
  obtain ⟨h1, h2, h3⟩ := Jm up 0
  rcases Nat.eq_zero_or_pos (below xs 0) with z | z
  · exact z
  · exact absurd (h2 0 z) (Nat.not_lt_zero _)
theorem J1 {xs : Array Nat} {i : Nat} (hi : i < xs.size) : xs[i]? = some (At xs i) := by simp [Array.getD, hi]
theorem mem_at {xs : Array Nat} {j : Nat} : j ∈ xs.toList ↔ ∃ i, i < xs.size ∧ At xs i = j := by
  rw [List.mem_iff_getElem?]
  constructor
  · rintro ⟨i, hi⟩
    rw [Array.getElem?_toList] at hi
    have hs : i < xs.size := (Array.getElem?_eq_some_iff.mp hi).1
    rw [J1 hs] at hi
    exact ⟨i, hs, Option.some.inj hi⟩
  · rintro ⟨i, hi, e⟩
    exact ⟨i, by rw [Array.getElem?_toList, J1 hi, e]⟩
theorem XD {t : SetTable} (up : Up t.place) {i : Nat} (hi : i < t.place.size) : t.slot (At t.place i) = .live i := by
  unfold slot
  dsimp only
  rw [UZ up hi, J1 hi]
  simp
theorem Yp {t : SetTable} (hd : t.dummies = #[]) {j : Nat} (hj : j ∉ t.place.toList) : t.slot j = .empty := by
  unfold slot
  dsimp only
  have : (t.place[below t.place j]? == some j) = false := by
    rw [beq_eq_false_iff_ne]
    intro z
    refine hj (List.mem_iff_getElem?.mpr ⟨below t.place j, ?_⟩)
    rw [Array.getElem?_toList]
    exact z
  rw [this, hd]
  rfl
noncomputable def adv (m : Nat) (p : Probe) : Probe :=
  if p.more > 0 then { p with j := p.j + 1, more := p.more - 1 } else
  let (i, perturb) := leap m p.i p.perturb
  { p with j := i, more := runEnd m i - i, i, perturb }
theorem Ys (t : SetTable) (p : Probe) : t.advance p = adv t.mask p := rfl
noncomputable def sq (m : Nat) (h : Int) : Nat → Probe
  | 0 => { j := bits h % (m + 1), more := runEnd m (bits h % (m + 1)) - bits h % (m + 1), i := bits h % (m + 1), perturb := bits h, dummy := none }
  | n + 1 => adv m (sq m h n)
noncomputable abbrev sj (m : Nat) (h : Int) (n : Nat) : Nat := (sq m h n).j
noncomputable def bk (m : Nat) (h : Int) : Nat → Nat × Nat
  | 0 => (bits h % (m + 1), bits h)
  | k + 1 => leap m (bk m h k).1 (bk m h k).2
noncomputable def ps (m : Nat) (h : Int) : Nat → Nat
  | 0 => 0
  | k + 1 => ps m h k + (runEnd m (bk m h k).1 - (bk m h k).1) + 1
theorem WR (m : Nat) (h : Int) (n i pe : Nat) (e : sq m h n = { j := i, more := runEnd m i - i, i := i, perturb := pe, dummy := none }) : ∀ c, c ≤ runEnd m i - i → sq m h (n + c) = { j := i + c, more := runEnd m i - i - c, i := i, perturb := pe, dummy := none }
  | 0, _ => e
  | c + 1, hc => by
    rw [show n + (c + 1) = (n + c) + 1 from rfl]
    show adv m (sq m h (n + c)) = _
    rw [WR m h n i pe e c (by omega)]
    unfold adv
    rw [if_pos (by show runEnd m i - i - c > 0; omega)]
    rfl
theorem QbG (m : Nat) (h : Int) : ∀ k, sq m h (ps m h k) = { j := (bk m h k).1, more := runEnd m (bk m h k).1 - (bk m h k).1, i := (bk m h k).1, perturb := (bk m h k).2, dummy := none }
  | 0 => rfl
  | k + 1 => by
    show adv m (sq m h (ps m h k + (runEnd m (bk m h k).1 - (bk m h k).1))) = _
    rw [WR m h _ _ _ (QbG m h k) _ (Nat.le_refl _)]
    unfold adv
    rw [if_neg (by show ¬ (runEnd m (bk m h k).1 - (bk m h k).1 - (runEnd m (bk m h k).1 - (bk m h k).1) > 0); omega)]
    rfl
theorem UD (m : Nat) (h : Int) (k c : Nat) (hc : c ≤ runEnd m (bk m h k).1 - (bk m h k).1) : sj m h (ps m h k + c) = (bk m h k).1 + c := by
  show (sq m h (ps m h k + c)).j = _
  rw [WR m h _ _ _ (QbG m h k) c hc]
theorem VI (m : Nat) (h : Int) : ∀ n, (sq m h n).dummy = none
  | 0 => rfl
  | n + 1 => by
    show (adv m (sq m h n)).dummy = none
    unfold adv
    split
    · exact VI m h n
    · exact VI m h n
theorem Qcn (m i : Nat) : runEnd m i - i ≤ 9 := by unfold runEnd; split <;> omega
theorem KI (m i : Nat) : i ≤ runEnd m i := by unfold runEnd; split <;> omega
theorem W8 {m i : Nat} (hi : i ≤ m) : runEnd m i ≤ m := by unfold runEnd; split <;> omega
theorem Qck (m : Nat) (h : Int) : ∀ k, ps m h k ≤ 10 * k
  | 0 => Nat.le_refl _
  | k + 1 => by
    have := Qck m h k
    have := Qcn m (bk m h k).1
    show ps m h k + (runEnd m (bk m h k).1 - (bk m h k).1) + 1 ≤ _
    omega
theorem Qbh (m : Nat) (h : Int) : ∀ k, (bk m h k).1 ≤ m
  | 0 => Nat.le_of_lt_succ (Nat.mod_lt _ (Nat.succ_pos _))
  | k + 1 => Nat.le_of_lt_succ (Nat.mod_lt _ (Nat.succ_pos _))
theorem QcV (m : Nat) (h : Int) : ∀ k, (bk m h k).2 = bits h / 32 ^ k
  | 0 => (Nat.div_one _).symm
  | k + 1 => by
    show (bk m h k).2 / 32 = _
    rw [QcV m h k, Nat.div_div_eq_div_mul, Nat.pow_succ]
theorem QaT (h : Int) : bits h < 2 ^ 64 := by
  unfold bits
  have := Int.emod_lt_of_pos h (show (0 : Int) < 2 ^ 64 by decide)
  have := Int.emod_nonneg h (show ((2 : Int) ^ 64) ≠ 0 by decide)
  omega
theorem QbB (m : Nat) (h : Int) {k : Nat} (hk : 13 ≤ k) : (bk m h k).2 = 0 := by
  rw [QcV]
  apply Nat.div_eq_of_lt
  have := QaT h
  have h2 : 32 ^ 13 ≤ 32 ^ k := Nat.pow_le_pow_right (by decide) hk
  have h3 : (2 : Nat) ^ 64 ≤ 32 ^ 13 := by decide
  omega
noncomputable def lcg (m : Nat) : Nat → Nat → Nat
  | 0, i => i
  | r + 1, i => (lcg m r i * 5 + 1) % (m + 1)
theorem GO (m : Nat) (h : Int) : ∀ r, (bk m h (12 + r)).1 = lcg m r (bk m h 12).1
  | 0 => rfl
  | r + 1 => by
    show ((bk m h (12 + r)).1 * 5 + 1 + (bk m h (12 + r)).2 / 32) % (m + 1) = _
    rw [GO m h r]
    have : (bk m h (12 + r)).2 / 32 = 0 := QbB m h (k := 12 + r + 1) (by omega)
    rw [this]
    rfl
theorem J6 (m : Nat) (a i : Nat) : ∀ b, lcg m (a + b) i = lcg m b (lcg m a i)
  | 0 => rfl
  | b + 1 => by
    show (lcg m (a + b) i * 5 + 1) % (m + 1) = _
    rw [J6 m a i b]
    rfl
noncomputable def orb (m : Nat) : Nat → Nat → List Nat
  | 0, _ => []
  | r + 1, i => i :: orb m r ((i * 5 + 1) % (m + 1))
theorem Qbp (m i : Nat) : lcg m 1 i = (i * 5 + 1) % (m + 1) := rfl
theorem Wy (m : Nat) : ∀ (r i x : Nat), x ∈ orb m r i → ∃ b, b < r ∧ lcg m b i = x
  | 0, _, _, h => nomatch h
  | r + 1, i, x, h => by
    rcases List.mem_cons.mp h with rfl | h
    · exact ⟨0, by omega, rfl⟩
    · obtain ⟨b, hb, e⟩ := Wy m r _ x h
      refine ⟨1 + b, by omega, ?_⟩
      rw [J6, Qbp]
      exact e
noncomputable def Xj (m : Nat) : Prop := (List.range (m + 1)).all (fun x => (orb m (m + 1) 0).contains x) = true ∧ lcg m (m + 1) 0 = 0
theorem QdU : Xj 7 := by unfold Xj; decide +kernel
theorem GB : Xj 31 := by unfold Xj; decide +kernel
theorem Wh : Xj 127 := by unfold Xj; decide +kernel
theorem Ki {m : Nat} (F : Xj m) {x : Nat} (hx : x ≤ m) : ∃ b, b < m + 1 ∧ lcg m b 0 = x := by
  have := List.all_eq_true.mp F.1 x (List.mem_range.mpr (by omega))
  rw [List.contains_iff_mem] at this
  exact Wy m _ _ _ this
theorem Qa6 {m : Nat} (F : Xj m) {i x : Nat} (hi : i ≤ m) (hx : x ≤ m) : ∃ r, r < m + 1 ∧ lcg m r i = x := by
  obtain ⟨a, ha, rfl⟩ := Ki F hi
  obtain ⟨b, hb, rfl⟩ := Ki F hx
  by_cases h : a ≤ b
  · exact ⟨b - a, by omega, by rw [← J6]; congr 1; omega⟩
  · refine ⟨m + 1 - a + b, by omega, ?_⟩
    rw [← J6, show a + (m + 1 - a + b) = (m + 1) + b by omega, J6, F.2]
theorem Wj {m : Nat} (F : Xj m) (h : Int) {x : Nat} (hx : x ≤ m) : ∃ k, k ≤ m + 12 ∧ (bk m h k).1 = x := by
  obtain ⟨r, hr, e⟩ := Qa6 F (Qbh m h 12) hx
  exact ⟨12 + r, by omega, (GO m h r).trans e⟩
theorem len_sub {α : Type} [BEq α] [LawfulBEq α] : ∀ (l k : List α), l.Nodup → (∀ x ∈ l, x ∈ k) → l.length ≤ k.length
  | [], _, _, _ => Nat.zero_le _
  | x :: l, k, nd, c => by
    rw [List.nodup_cons] at nd
    have hk := c x List.mem_cons_self
    have := len_sub l (k.erase x) nd.2 fun y hy => (List.mem_erase_of_ne (fun z => nd.1 (by rw [← z]; exact hy))).mpr (c y (List.mem_cons_of_mem _ hy))
    rw [List.length_erase_of_mem hk] at this
    have : 0 < k.length := List.length_pos_of_mem hk
    simp only [List.length_cons]
    omega
theorem Gv {m : Nat} {l : List Nat} (hl : l.length ≤ m) : ∃ x, x ≤ m ∧ x ∉ l := by
  refine Classical.byContradiction fun z => ?_
  have := len_sub (List.range (m + 1)) l List.nodup_range fun x hx => Classical.byContradiction fun y => z ⟨x, by have := List.mem_range.mp hx; omega, y⟩
  rw [List.length_range] at this
  omega
theorem Yx {m : Nat} (F : Xj m) (h : Int) {l : List Nat} (hl : l.length ≤ m) : ∃ N, N ≤ 10 * (m + 12) ∧ sj m h N ∉ l ∧ ∀ n, n < N → sj m h n ∈ l := by
  obtain ⟨x, hx, hn⟩ := Gv hl
  obtain ⟨k, hk, e⟩ := Wj F h hx
  have h0 : sj m h (ps m h k) ∉ l := by
    have := UD m h k 0 (Nat.zero_le _)
    rw [Nat.add_zero, Nat.add_zero, e] at this
    rw [this]; exact hn
  have hb := Qck m h k
  have : ∀ n, sj m h n ∉ l → ∃ N, N ≤ n ∧ sj m h N ∉ l ∧ ∀ n, n < N → sj m h n ∈ l := by
    intro n
    induction n using Nat.strongRecOn with
    | ind n ih =>
      intro hn
      by_cases c : ∃ n', n' < n ∧ sj m h n' ∉ l
      · obtain ⟨n', h1, h2⟩ := c
        obtain ⟨N, q1, q2, q3⟩ := ih n' h1 h2
        exact ⟨N, by omega, q2, q3⟩
      · exact ⟨n, Nat.le_refl _, hn, fun n' hn' => Classical.byContradiction fun z => c ⟨n', hn', z⟩⟩
  obtain ⟨N, q1, q2, q3⟩ := this _ h0
  exact ⟨N, by omega, q2, q3⟩
end Sb

namespace Sb
open PySem SetTable
noncomputable abbrev pz (t : SetTable) (es : Array (Int × Value)) : List (Nat × (Int × Value)) := t.place.toList.zip es.toList
structure Tab (t : SetTable) (es : Array (Int × Value)) : Prop where
  up : Up t.place
  dum : t.dummies = #[]
  len : t.place.size = es.size
  le : ∀ j ∈ t.place.toList, j ≤ t.mask
  own : ∀ q ∈ pz t es, ∃ n, sj t.mask q.2.1 n = q.1 ∧ ∀ k, k < n → sj t.mask q.2.1 k ∈ t.place.toList
theorem Tab.fill {t : SetTable} {es : Array (Int × Value)} (T : Tab t es) : t.fill = es.size := by
  unfold SetTable.fill
  rw [T.dum, T.len]; rfl
theorem Tab.fits {t : SetTable} {es : Array (Int × Value)} (T : Tab t es) (h : es.size ≤ t.mask) : t.fits es.size = true := by
  unfold SetTable.fits
  rw [T.fill, T.len]
  simp [h]
theorem Qch {t : SetTable} {es : Array (Int × Value)} (T : Tab t es) {i : Nat} (hi : i < es.size) : (At t.place i, es[i]) ∈ pz t es := by
  rw [List.mem_iff_getElem?]
  refine ⟨i, ?_⟩
  unfold pz
  have h1 : t.place.toList[i]? = some (At t.place i) := by rw [Array.getElem?_toList]; exact J1 (by rw [T.len]; exact hi)
  have h2 : es.toList[i]? = some es[i] := by rw [Array.getElem?_toList]; exact Array.getElem?_eq_getElem hi
  rw [List.getElem?_zip_eq_some]
  exact ⟨h1, h2⟩
theorem Kx {t : SetTable} {es : Array (Int × Value)} (T : Tab t es) {hashAt : Nat → Int} {h : Int} {N : Nat} (hN : sj t.mask h N ∉ t.place.toList) (hb : ∀ n, n < N → sj t.mask h n ∈ t.place.toList) :
    ∀ (f n : Nat), n ≤ N → N - n < f → (∃ n' i, n ≤ n' ∧ n' < N ∧ i < es.size ∧ At t.place i = sj t.mask h n' ∧ hashAt i = h ∧ (∀ k i', n ≤ k → k < n' → i' < es.size → At t.place i' = sj t.mask h k → hashAt i' ≠ h) ∧ probe.go t hashAt h f (sq t.mask h n) = some (.candidate (sj t.mask h n') i (sq t.mask h (n' + 1)))) ∨
      ((∀ k i', n ≤ k → k < N → i' < es.size → At t.place i' = sj t.mask h k → hashAt i' ≠ h) ∧ probe.go t hashAt h f (sq t.mask h n) = some (.empty (sj t.mask h N) none))
  | 0, n, h1, h2 => absurd h2 (Nat.not_lt_zero _)
  | f + 1, n, h1, h2 => by
    unfold probe.go
    rcases Nat.lt_or_ge n N with lt | ge
    · obtain ⟨i, hi, e⟩ := mem_at.mp (hb n lt)
      have hs : t.slot (sq t.mask h n).j = .live i := by
        have := XD T.up hi
        rw [e] at this
        exact this
      rw [hs]
      dsimp only
      have QeG : ∀ i', i' < es.size → At t.place i' = sj t.mask h n → i' = i := fun i' h3 h4 => by
        rcases Nat.lt_trichotomy i' i with z | z | z
        · have := T.up i' i z hi; omega
        · exact z
        · have := T.up i i' z (by rw [T.len]; exact h3); omega
      by_cases c : hashAt i = h
      · left
        refine ⟨n, i, Nat.le_refl _, lt, by rw [← T.len]; exact hi, e, c, fun k i' z1 z2 => by omega, ?_⟩
        rw [if_pos (by rw [c]; exact beq_self_eq_true h)]
        rfl
      · rw [if_neg (by rw [beq_iff_eq]; exact c), Ys]
        have step : ∀ k i', k = n → i' < es.size → At t.place i' = sj t.mask h k → hashAt i' ≠ h := fun k i' z1 z2 z3 => by
          subst z1
          rw [QeG i' z2 z3]; exact c
        rcases Kx T (hashAt := hashAt) hN hb f (n + 1) lt (by omega) with ⟨n', i', q1, q2, q3, q4, q5, q6, q7⟩ | ⟨q6, q7⟩
        · left
          refine ⟨n', i', by omega, q2, q3, q4, q5, fun k i2 z1 z2 z3 z4 => ?_, q7⟩
          rcases Nat.lt_or_ge n k with y | y
          · exact q6 k i2 y z2 z3 z4
          · exact step k i2 (by omega) z3 z4
        · right
          refine ⟨fun k i2 z1 z2 z3 z4 => ?_, q7⟩
          rcases Nat.lt_or_ge n k with y | y
          · exact q6 k i2 y z2 z3 z4
          · exact step k i2 (by omega) z3 z4
    · have : n = N := by omega
      subst this
      right
      refine ⟨fun k i' z1 z2 => by omega, ?_⟩
      have hs : t.slot (sq t.mask h n).j = .empty := Yp T.dum hN
      rw [hs]
      dsimp only
      rw [VI]
theorem KJ {α : Type} (xs : Array α) (p : Nat) (x : α) (hp : p ≤ xs.size) : (insertAt xs p x).toList = xs.toList.take p ++ x :: xs.toList.drop p := by
  unfold insertAt
  simp [List.take_of_length_le]
theorem W6 {α β : Type} (x : α) (y : β) : ∀ {l : List α} {k : List β} (_ : l.length = k.length) (p : Nat), (l.take p ++ x :: l.drop p).zip (k.take p ++ y :: k.drop p) = (l.zip k).take p ++ (x, y) :: (l.zip k).drop p
  | [], [], _, p => by simp
  | a :: l, b :: k, _, 0 => rfl
  | a :: l, b :: k, h, p + 1 => by
    have := W6 x y (l := l) (k := k) (by simpa using h) p
    simpa using this
theorem ins_mem {α : Type} {l : List α} {p : Nat} {x y : α} : y ∈ l.take p ++ x :: l.drop p ↔ y = x ∨ y ∈ l := by
  rw [List.mem_append, List.mem_cons]
  conv => rhs; rw [← List.take_append_drop p l, List.mem_append]
  constructor
  · rintro (h | h | h)
    · exact .inr (.inl h)
    · exact .inl h
    · exact .inr (.inr h)
  · rintro (h | h | h)
    · exact .inr (.inl h)
    · exact .inl h
    · exact .inr (.inr h)
theorem up_list {xs : Array Nat} : Up xs ↔ xs.toList.Pairwise (· < ·) := by
  rw [List.pairwise_iff_getElem]
  constructor
  · intro up i j hi hj hij
    have hj' : j < xs.size := by rwa [Array.length_toList] at hj
    have := up i j hij hj'
    simpa [At, Array.getD, hj', show i < xs.size by omega] using this
  · intro h i j hij hj
    have := h i j (by rw [Array.length_toList]; omega) (by rw [Array.length_toList]; exact hj) hij
    simpa [At, Array.getD, hj, show i < xs.size by omega] using this
theorem YD {xs : Array Nat} (up : Up xs) (j : Nat) : (∀ x ∈ xs.toList.take (below xs j), x < j) ∧ ∀ x ∈ xs.toList.drop (below xs j), j ≤ x := by
  obtain ⟨h1, h2, h3⟩ := Jm up j
  constructor
  · intro x hx
    obtain ⟨i, hi⟩ := List.mem_iff_getElem?.mp hx
    rw [List.getElem?_take] at hi
    split at hi
    · rename_i lt
      rw [Array.getElem?_toList, J1 (by omega)] at hi
      cases hi
      exact h2 i lt
    · cases hi
  · intro x hx
    obtain ⟨i, hi⟩ := List.mem_iff_getElem?.mp hx
    rw [List.getElem?_drop, Array.getElem?_toList] at hi
    have lt : below xs j + i < xs.size := (Array.getElem?_eq_some_iff.mp hi).1
    rw [J1 lt] at hi
    cases hi
    exact h3 _ (by omega) lt
theorem Qcr {t : SetTable} {es : Array (Int × Value)} (T : Tab t es) {h : Int} {x : Value} {N : Nat} (hm : sj t.mask h N ≤ t.mask) (hN : sj t.mask h N ∉ t.place.toList) (hb : ∀ n, n < N → sj t.mask h n ∈ t.place.toList) :
    (t.put (sj t.mask h N)).1.mask = t.mask ∧ (t.put (sj t.mask h N)).1.led = t.led ∧ (t.put (sj t.mask h N)).1.moves = t.moves ∧ Tab (t.put (sj t.mask h N)).1 (insertAt es (t.put (sj t.mask h N)).2 (h, x)) ∧ (insertAt es (t.put (sj t.mask h N)).2 (h, x)).toList.Perm ((h, x) :: es.toList) := by
  obtain ⟨b1, b2, b3⟩ := Jm T.up (sj t.mask h N)
  have hpl : (t.put (sj t.mask h N)).1.place.toList = t.place.toList.take (below t.place (sj t.mask h N)) ++ sj t.mask h N :: t.place.toList.drop (below t.place (sj t.mask h N)) := KJ _ _ _ b1
  have hel : (insertAt es (t.put (sj t.mask h N)).2 (h, x)).toList = es.toList.take (below t.place (sj t.mask h N)) ++ (h, x) :: es.toList.drop (below t.place (sj t.mask h N)) := KJ _ _ _ (by rw [← T.len]; exact b1)
  have hll : t.place.toList.length = es.toList.length := by rw [Array.length_toList, Array.length_toList, T.len]
  refine ⟨rfl, rfl, rfl, ⟨?_, ?_, ?_, ?_, ?_⟩, ?_⟩
  · rw [up_list, hpl, List.pairwise_append]
    obtain ⟨c1, c2⟩ := YD T.up (sj t.mask h N)
    have pw := up_list.mp T.up
    have hd : ∀ y ∈ t.place.toList.drop (below t.place (sj t.mask h N)), sj t.mask h N < y := fun y hy => by
      have h1 := c2 y hy
      have h2 : y ≠ sj t.mask h N := fun z => hN (by rw [← z]; exact List.mem_of_mem_drop hy)
      omega
    refine ⟨pw.take, ?_, ?_⟩
    · rw [List.pairwise_cons]
      exact ⟨hd, pw.drop⟩
    · intro a ha b hb'
      have h1 := c1 a ha
      rcases List.mem_cons.mp hb' with rfl | hb'
      · exact h1
      · have := hd b hb'
        omega
  · show (if has t.dummies (sj t.mask h N) then _ else t.dummies) = #[]
    rw [T.dum]
    rfl
  · rw [← Array.length_toList, ← Array.length_toList, hpl, hel]
    simp [T.len]
  · intro j hj
    rw [hpl, ins_mem] at hj
    rcases hj with rfl | hj
    · exact hm
    · exact T.le j hj
  · intro q hq
    have hq' : q ∈ (t.place.toList.take (below t.place (sj t.mask h N)) ++ sj t.mask h N :: t.place.toList.drop (below t.place (sj t.mask h N))).zip (es.toList.take (below t.place (sj t.mask h N)) ++ (h, x) :: es.toList.drop (below t.place (sj t.mask h N))) := by
      rw [← hpl, ← hel]; exact hq
    rw [W6 _ _ hll, ins_mem] at hq'
    rw [hpl]
    rcases hq' with rfl | hq'
    · exact ⟨N, rfl, fun k hk => ins_mem.mpr (.inr (hb k hk))⟩
    · obtain ⟨n, n1, n2⟩ := T.own q hq'
      exact ⟨n, n1, fun k hk => ins_mem.mpr (.inr (n2 k hk))⟩
  · rw [hel]
    refine List.perm_middle.trans (List.Perm.cons _ ?_)
    rw [List.take_append_drop]
theorem UK (m : Nat) (h : Int) : ∀ n, sj m h n ≤ m ∧ (sq m h n).j + (sq m h n).more ≤ m
  | 0 => by
    have h1 := Qbh m h 0
    have h2 := W8 h1
    have h3 := KI m (bk m h 0).1
    exact ⟨h1, show (bk m h 0).1 + (runEnd m (bk m h 0).1 - (bk m h 0).1) ≤ m by omega⟩
  | n + 1 => by
    obtain ⟨h1, h2⟩ := UK m h n
    show (adv m (sq m h n)).j ≤ m ∧ (adv m (sq m h n)).j + (adv m (sq m h n)).more ≤ m
    unfold adv
    split
    · rename_i hc
      exact ⟨by show (sq m h n).j + 1 ≤ m; omega, by show (sq m h n).j + 1 + ((sq m h n).more - 1) ≤ m; omega⟩
    · have h3 : (leap m (sq m h n).i (sq m h n).perturb).1 ≤ m := Nat.le_of_lt_succ (Nat.mod_lt _ (Nat.succ_pos _))
      have h4 := W8 h3
      have h5 := KI m (leap m (sq m h n).i (sq m h n).perturb).1
      exact ⟨h3, show (leap m (sq m h n).i (sq m h n).perturb).1 + (runEnd m (leap m (sq m h n).i (sq m h n).perturb).1 - (leap m (sq m h n).i (sq m h n).perturb).1) ≤ m by omega⟩
end Sb

namespace Sb
open PySem SetTable
noncomputable abbrev Ow (o : Array (Option Nat)) (j : Nat) : Option Nat := o.getD j none
structure Lay (m : Nat) (hs : List Int) (o : Array (Option Nat)) : Prop where
  size : o.size = m + 1
  own : ∀ j k, Ow o j = some k → ∃ h, hs[k]? = some h ∧ ∃ n, sj m h n = j ∧ ∀ i, i < n → (Ow o (sj m h i)).isSome = true
  all : ∀ k, k < hs.length → ∃ j, Ow o j = some k
  one : ∀ j j' k, Ow o j = some k → Ow o j' = some k → j = j'
theorem Qdx {o : Array (Option Nat)} {j k : Nat} (h : Ow o j = some k) : j < o.size := by
  rcases Nat.lt_or_ge j o.size with z | z
  · exact z
  · simp [Ow, Array.getD, Nat.not_lt.mpr z] at h
theorem Qah {m : Nat} {hs : List Int} {o : Array (Option Nat)} (L : Lay m hs o) (hl : hs.length ≤ m) : ∃ x, x ≤ m ∧ Ow o x = none := by
  obtain ⟨x, hx, hn⟩ := Gv (m := m) (l := (List.range hs.length).map fun k => if h : k < hs.length then Classical.choose (L.all k h) else 0) (by simp; exact hl)
  refine ⟨x, hx, ?_⟩
  cases e : Ow o x with
  | none => rfl
  | some k =>
    exfalso
    obtain ⟨h, hk, _⟩ := L.own x k e
    have lt : k < hs.length := (List.getElem?_eq_some_iff.mp hk).1
    refine hn (List.mem_map.mpr ⟨k, List.mem_range.mpr lt, ?_⟩)
    rw [dif_pos lt]
    exact L.one _ _ k (Classical.choose_spec (L.all k lt)) e
theorem YL {m : Nat} (h : Int) {o : Array (Option Nat)} (hs : o.size = m + 1) {K : Nat} (hK : Ow o (bk m h K).1 = none) : ∀ (f k : Nat), k ≤ K → K < k + f → (∀ n, n < ps m h k → (Ow o (sj m h n)).isSome = true) →
    ∃ n, layClean.free m o f (bk m h k).1 (bk m h k).2 = some (sj m h n) ∧ Ow o (sj m h n) = none ∧ ∀ i, i < n → (Ow o (sj m h i)).isSome = true
  | 0, k, h1, h2, _ => by omega
  | f + 1, k, h1, h2, h3 => by
    unfold layClean.free
    have hin : ∀ c, c ≤ runEnd m (bk m h k).1 - (bk m h k).1 → (bk m h k).1 + c < o.size := fun c hc => by
      have := W8 (Qbh m h k)
      have := KI m (bk m h k).1
      omega
    have get : ∀ c, c ≤ runEnd m (bk m h k).1 - (bk m h k).1 → o.getD ((bk m h k).1 + c) (some 0) = Ow o (sj m h (ps m h k + c)) := fun c hc => by
      rw [UD m h k c hc]
      simp [Ow, Array.getD, hin c hc]
    have hr : runEnd m (bk m h k).1 + 1 - (bk m h k).1 = runEnd m (bk m h k).1 - (bk m h k).1 + 1 := by
      have := KI m (bk m h k).1
      omega
    rw [hr]
    split
    · rename_i c hc
      rw [List.find?_range_eq_some] at hc
      obtain ⟨c1, c2, c3⟩ := hc
      rw [List.mem_range] at c2
      rw [get c (by omega)] at c1
      refine ⟨ps m h k + c, by rw [UD m h k c (by omega)], by simpa using c1, fun i hi => ?_⟩
      rcases Nat.lt_or_ge i (ps m h k) with z | z
      · exact h3 i z
      · have c4 := c3 (i - ps m h k) (by omega)
        rw [get _ (by omega), show ps m h k + (i - ps m h k) = i by omega] at c4
        revert c4
        cases Ow o (sj m h i) <;> simp
    · rename_i hc
      have hall : ∀ n, n < ps m h (k + 1) → (Ow o (sj m h n)).isSome = true := by
        intro n hn
        rcases Nat.lt_or_ge n (ps m h k) with z | z
        · exact h3 n z
        · have e : ps m h (k + 1) = ps m h k + (runEnd m (bk m h k).1 - (bk m h k).1) + 1 := rfl
          rw [List.find?_eq_none] at hc
          have := hc (n - ps m h k) (List.mem_range.mpr (by omega))
          rw [get _ (by omega), show ps m h k + (n - ps m h k) = n by omega] at this
          revert this
          cases Ow o (sj m h n) <;> simp
      have hlt : k < K := by
        rcases Nat.lt_or_ge k K with z | z
        · exact z
        · have : k = K := by omega
          subst this
          have := hall (ps m h k + 0) (by show _ < ps m h k + _ + 1; omega)
          rw [UD m h k 0 (Nat.zero_le _), Nat.add_zero, hK] at this
          cases this
      exact YL h hs hK f (k + 1) hlt (by omega) hall
theorem Vp {o : Array (Option Nat)} {j k i : Nat} (hj : j < o.size) : Ow (o.setIfInBounds j (some k)) i = if i = j then some k else Ow o i := by
  by_cases c : i = j
  · subst c
    simp [Ow, Array.getD, hj]
  · rw [if_neg c]
    unfold Ow
    rw [Array.getD_eq_getD_getElem?, Array.getD_eq_getD_getElem?, Array.getElem?_setIfInBounds_ne (Ne.symm c)]
theorem Qaw {m : Nat} (F : Xj m) {hs : List Int} {o : Array (Option Nat)} (L : Lay m hs o) (hl : hs.length ≤ m) (h : Int) :
    ∃ j, layClean.free m o (turns m) (bits h % (m + 1)) (bits h) = some j ∧ Lay m (hs ++ [h]) (o.setIfInBounds j (some hs.length)) := by
  obtain ⟨x, hx, hn⟩ := Qah L hl
  obtain ⟨K, hK, e⟩ := Wj F h hx
  obtain ⟨n, n1, n2, n3⟩ := YL h L.size (K := K) (by rw [e]; exact hn) (turns m) 0 (Nat.zero_le _) (by unfold turns; omega) (fun n hn => absurd hn (Nat.not_lt_zero _))
  have hj : sj m h n < o.size := by
    have := (UK m h n).1
    rw [L.size]; omega
  refine ⟨sj m h n, n1, ?_, ?_, ?_, ?_⟩
  · rw [Array.size_setIfInBounds]; exact L.size
  · intro j k hk
    rw [Vp hj] at hk
    split at hk
    · rename_i z
      cases hk
      refine ⟨h, by simp, n, z.symm, fun i hi => ?_⟩
      rw [Vp hj]
      split
      · rfl
      · exact n3 i hi
    · obtain ⟨h', q1, n', q2, q3⟩ := L.own j k hk
      refine ⟨h', ?_, n', q2, fun i hi => ?_⟩
      · rw [List.getElem?_append_left (List.getElem?_eq_some_iff.mp q1).1]; exact q1
      · rw [Vp hj]
        split
        · rfl
        · exact q3 i hi
  · intro k hk
    rw [List.length_append, List.length_singleton] at hk
    rcases Nat.lt_or_ge k hs.length with z | z
    · obtain ⟨j, hj'⟩ := L.all k z
      refine ⟨j, ?_⟩
      rw [Vp hj, if_neg]
      · exact hj'
      · rintro rfl
        rw [n2] at hj'; cases hj'
    · refine ⟨sj m h n, ?_⟩
      rw [Vp hj, if_pos rfl]
      congr 1; omega
  · have nol : ∀ j, Ow o j ≠ some hs.length := fun j z => by
      obtain ⟨h', q1, _⟩ := L.own j _ z
      have := (List.getElem?_eq_some_iff.mp q1).1
      omega
    intro j j' k h1 h2
    rw [Vp hj] at h1 h2
    split at h1
    · cases h1
      split at h2
      · rename_i a b; rw [a, b]
      · exact absurd h2 (nol _)
    · split at h2
      · cases h2
        exact absurd h1 (nol _)
      · exact L.one j j' k h1 h2
theorem Kv {m : Nat} (F : Xj m) : ∀ (rest hs : List Int) (o : Array (Option Nat)), Lay m hs o → hs.length + rest.length ≤ m →
    ∃ o', (rest.foldl (init := some (o, hs.length)) fun acc h => do
      let (owner, k) ← acc
      let j ← layClean.free m owner (turns m) (bits h % (m + 1)) (bits h)
      pure (owner.setIfInBounds j (some k), k + 1)) = some (o', hs.length + rest.length) ∧ Lay m (hs ++ rest) o'
  | [], hs, o, L, _ => ⟨o, by simp, by simpa using L⟩
  | h :: rest, hs, o, L, hl => by
    rw [List.length_cons] at hl
    obtain ⟨j, j1, j2⟩ := Qaw F L (by omega) h
    obtain ⟨o', q1, q2⟩ := Kv F rest (hs ++ [h]) _ j2 (by rw [List.length_append, List.length_singleton]; omega)
    refine ⟨o', ?_, by simpa using q2⟩
    rw [List.foldl_cons]
    have e : ((some (o, hs.length) : Option (Array (Option Nat) × Nat)) >>= fun p => layClean.free m p.1 (turns m) (bits h % (m + 1)) (bits h) >>= fun j => pure (p.1.setIfInBounds j (some p.2), p.2 + 1)) = some (o.setIfInBounds j (some hs.length), (hs ++ [h]).length) := by
      show (layClean.free m o (turns m) (bits h % (m + 1)) (bits h) >>= fun j => pure (o.setIfInBounds j (some hs.length), hs.length + 1)) = _
      rw [j1, List.length_append]
      rfl
    refine (congrArg (fun z => List.foldl _ z rest) e).trans (q1.trans ?_)
    simp; omega
theorem Qak (m : Nat) : Lay m [] (Array.replicate (m + 1) none) := by
  have e : ∀ j, Ow (Array.replicate (m + 1) none) j = none := fun j => by
    unfold Ow
    rw [Array.getD_eq_getD_getElem?, Array.getElem?_replicate]
    split <;> rfl
  refine ⟨Array.size_replicate, fun j k h => ?_, fun k h => absurd h (Nat.not_lt_zero _), fun j j' k h => ?_⟩
  · rw [e] at h; cases h
  · rw [e] at h; cases h
theorem X5 {m : Nat} (F : Xj m) (hs : Array Int) (hl : hs.size ≤ m) : ∃ o, layClean m hs = some o ∧ Lay m hs.toList o := by
  obtain ⟨o, h1, h2⟩ := Kv F hs.toList [] _ (Qak m) (by simpa using hl)
  refine ⟨o, ?_, by simpa using h2⟩
  unfold layClean
  rw [← Array.foldl_toList]
  exact congrArg (fun z => Option.map (·.1) z) h1
end Sb

namespace Sb
open PySem SetTable
theorem VT {α β : Type} (f : α → Option β) : ∀ (l : List α), ((l.filterMap fun j => (f j).map (j, ·)).map (·.1)).Sublist l
  | [] => .slnil
  | a :: l => by
    rw [List.filterMap_cons]
    cases f a with
    | none => exact (VT f l).cons a
    | some b => exact (VT f l).cons_cons a
theorem U1 {α β : Type} {f : α → Option β} {l : List α} {p : α × β} : p ∈ (l.filterMap fun j => (f j).map (j, ·)) ↔ p.1 ∈ l ∧ f p.1 = some p.2 := by
  rw [List.mem_filterMap]
  constructor
  · rintro ⟨a, ha, e⟩
    obtain ⟨b, hb, rfl⟩ := Option.map_eq_some_iff.mp e
    exact ⟨ha, hb⟩
  · rintro ⟨h1, h2⟩
    exact ⟨p.1, h1, by rw [h2]; rfl⟩
theorem Wt {α β γ : Type} (f : α → β) (g : α → γ) : ∀ l : List α, (l.map f).zip (l.map g) = l.map fun x => (f x, g x)
  | [] => rfl
  | a :: l => by simp [Wt f g l]
theorem GW {α β : Type} {f : α → Option β} {g : α → β} : ∀ (l : List α), (∀ a ∈ l, f a = some (g a)) → l.filterMap f = l.map g
  | [], _ => rfl
  | a :: l, h => by
    rw [List.filterMap_cons, h a List.mem_cons_self, List.map_cons, GW l fun b hb => h b (List.mem_cons_of_mem _ hb)]
theorem Xm {α : Type} [BEq α] [LawfulBEq α] : ∀ (l k : List α), l.Nodup → k.Nodup → (∀ x, x ∈ l ↔ x ∈ k) → l.Perm k
  | [], k, _, _, h => by
    have : k = [] := List.eq_nil_iff_forall_not_mem.mpr fun x hx => nomatch (h x).mpr hx
    rw [this]
  | a :: l, k, n1, n2, h => by
    have ha := (h a).mp List.mem_cons_self
    rw [List.nodup_cons] at n1
    refine (List.Perm.cons a (Xm l (k.erase a) n1.2 (n2.erase a) fun x => ?_)).trans (List.perm_cons_erase ha).symm
    rw [n2.mem_erase_iff]
    constructor
    · exact fun hx => ⟨fun z => n1.1 (by rw [← z]; exact hx), (h x).mp (List.mem_cons_of_mem _ hx)⟩
    · rintro ⟨z, hx⟩
      rcases List.mem_cons.mp ((h x).mpr hx) with y | y
      · exact absurd y z
      · exact y
theorem Qbq {m : Nat} (F : Xj m) (es : Array (Int × Value)) (hl : es.size ≤ m) (fi mv : Nat) (led pl : Bool) :
    ∃ t' od, laid m fi mv led pl (es.map (·.1)) = some (t', od) ∧ t'.mask = m ∧ t'.led = led ∧ t'.plain = pl ∧ Tab t' (od.filterMap (es[·]?)) ∧ (od.filterMap (es[·]?)).toList.Perm es.toList := by
  obtain ⟨o, o1, L⟩ := X5 F (es.map (·.1)) (by simpa using hl)
  have hlen : (es.map (·.1)).toList.length = es.size := by simp
  let live := (List.range (m + 1)).filterMap fun j => (o.getD j none).map (j, ·)
  let g : Nat → Int × Value := fun k => es.getD k (0, .none)
  have lm : ∀ p, p ∈ live ↔ p.1 < m + 1 ∧ Ow o p.1 = some p.2 := fun p => by
    show p ∈ (List.range (m + 1)).filterMap (fun j => (o.getD j none).map (j, ·)) ↔ _
    rw [U1 (f := fun j => o.getD j none), List.mem_range]
  have lk : ∀ p ∈ live, p.2 < es.size := fun p hp => by
    obtain ⟨h, q, _⟩ := L.own p.1 p.2 ((lm p).mp hp).2
    have := (List.getElem?_eq_some_iff.mp q).1
    rwa [hlen] at this
  have lt : (live.map (·.1)).Pairwise (· < ·) := List.Pairwise.sublist (VT (fun j => o.getD j none) (List.range (m + 1))) List.pairwise_lt_range
  have hg : ∀ k, k < es.size → es[k]? = some (g k) := fun k hk => by simp [g, Array.getD, hk]
  have he : (((live.map (·.2)).toArray).filterMap (es[·]?)).toList = live.map fun p => g p.2 := by
    rw [Array.toList_filterMap, List.toList_toArray, GW (f := fun k => es[k]?) (g := g), List.map_map]
    · rfl
    · intro k hk
      obtain ⟨p, hp, rfl⟩ := List.mem_map.mp hk
      exact hg _ (lk p hp)
  refine ⟨{ mask := m, place := (live.map (·.1)).toArray, dummies := #[], finger := fi, led := led, moves := mv, plain := pl }, (live.map (·.2)).toArray, ?_, rfl, rfl, rfl, ⟨?_, rfl, ?_, ?_, ?_⟩, ?_⟩
  · unfold laid
    rw [o1]
    rfl
  · rw [up_list]
    show ((live.map (·.1)).toArray).toList.Pairwise _
    rw [List.toList_toArray]
    exact lt
  · have := congrArg List.length he
    rw [Array.length_toList, List.length_map] at this
    rw [this]
    simp
  · intro j hj
    have hj' : j ∈ live.map (·.1) := by simpa using hj
    obtain ⟨p, hp, rfl⟩ := List.mem_map.mp hj'
    have := ((lm p).mp hp).1
    show p.1 ≤ m
    omega
  · intro q hq
    unfold pz at hq
    rw [he] at hq
    have hq' : q ∈ (live.map (·.1)).zip (live.map fun p => g p.2) := by simpa using hq
    rw [Wt] at hq'
    obtain ⟨p, hp, rfl⟩ := List.mem_map.mp hq'
    obtain ⟨h, q1, n, q2, q3⟩ := L.own p.1 p.2 ((lm p).mp hp).2
    have eh : (g p.2).1 = h := by
      have e1 := hg p.2 (lk p hp)
      rw [Array.getElem?_toList, Array.getElem?_map, e1] at q1
      exact Option.some.inj q1
    refine ⟨n, ?_, fun k hk => ?_⟩
    · show sj m (g p.2).1 n = p.1
      rw [eh]; exact q2
    · show sj m (g p.2).1 k ∈ ((live.map (·.1)).toArray).toList
      rw [eh, List.toList_toArray]
      have := q3 k hk
      obtain ⟨k', hk'⟩ := Option.isSome_iff_exists.mp this
      exact List.mem_map.mpr ⟨(sj m h k, k'), (lm _).mpr ⟨by have := (UK m h k).1; show sj m h k < m + 1; omega, hk'⟩, rfl⟩
  · rw [he]
    have p1 : (live.map (·.2)).Perm (List.range es.size) := by
      refine Xm _ _ ?_ List.nodup_range fun k => ?_
      · unfold List.Nodup
        rw [List.pairwise_map]
        rw [List.pairwise_map] at lt
        refine List.Pairwise.imp_of_mem ?_ lt
        intro p q hp hq hlt z
        have := L.one p.1 q.1 p.2 ((lm p).mp hp).2 (by rw [z]; exact ((lm q).mp hq).2)
        omega
      · rw [List.mem_range]
        constructor
        · intro hk
          obtain ⟨p, hp, rfl⟩ := List.mem_map.mp hk
          exact lk p hp
        · intro hk
          obtain ⟨j, hj⟩ := L.all k (by rw [hlen]; exact hk)
          have := Qdx hj
          rw [L.size] at this
          exact List.mem_map.mpr ⟨(j, k), (lm _).mpr ⟨this, hj⟩, rfl⟩
    have p2 : (live.map fun p => g p.2).Perm ((List.range es.size).map g) := by
      have := p1.map g
      rwa [List.map_map] at this
    refine p2.trans ?_
    have : (List.range es.size).map g = es.toList := by
      apply List.ext_getElem?
      intro i
      rw [List.getElem?_map]
      by_cases c : i < es.size
      · rw [List.getElem?_range c]
        exact (hg i c).symm.trans (Array.getElem?_toList ..).symm
      · rw [List.getElem?_eq_none (by simpa using c), List.getElem?_eq_none (by simpa using c)]; rfl
    rw [this]
end Sb

namespace Sb
open PySem PySem.Spec PyProof.Rows SetTable L2
section
variable {prog : Program} {w : World} {A : Around} {E : Value → Shared → Prop} {s : Shared}
theorem Qao : ∀ (n m : Nat) (k : Tr) (v : Value) (Q : Bool → Shared → Prop), L2.IsT s.heap n k v → n ≤ m → Q false s → wpAny (model prog w) A (ofAClassStatement m v) Q E s
  | 0, _, _, _, _, x, _, _ => x.elim
  | n + 1, m, .i k, v, Q, x, _, h => by
    rcases x with ⟨t, rfl⟩ | ⟨b, rfl, rfl⟩ <;> (unfold ofAClassStatement; exact wpAny_pure h)
  | n + 1, m, .s k, v, Q, x, _, h => by
    obtain ⟨t, rfl⟩ := x
    unfold ofAClassStatement; exact wpAny_pure h
  | n + 1, 0, .t ks, v, Q, x, hm, h => by omega
  | n + 1, m + 1, .t ks, v, Q, x, hm, h => by
    obtain ⟨a, its, rfl, ⟨o, ho, hc, l, hd⟩, q⟩ := x
    have hT : s.TypeIs (.ref a) "tuple" := ⟨o, ho, hc⟩
    unfold ofAClassStatement
    refine wpAny_bind (wpAny_typeOf hT ?_)
    dsimp only
    rw [if_pos (by decide)]
    refine wpAny_bind (wpAny_pure ?_)
    simp only [Bool.not_true, Bool.false_eq_true, if_false]
    refine wpAny_bind (wpAny_seqItems ho hd ?_)
    dsimp only
    refine wpAny_bind ?_
    rw [← Array.forIn_toList]
    refine wpAny_forIn_list _ (fun rest (r : Option Bool × Unit) s' => r.1 = none ∧ s' = s ∧ ∃ ks', Paired (L2.IsT s.heap n) ks' rest) _ ?_ ?_ _ _ ⟨rfl, rfl, ks, q⟩
    · rintro v rest r s' ⟨hr, hs', ks', q'⟩
      have hs' := hs'.symm
      subst hs'
      cases q' with
      | cons q1 q2 =>
        refine wpAny_bind (Qao n m _ _ _ q1 (by omega) ?_)
        simp only [Bool.false_eq_true, if_false]
        exact wpAny_pure ⟨rfl, rfl, _, q2⟩
    · rintro ⟨r1, r2⟩ s' ⟨hr, rfl, _⟩
      simp only at hr
      subst hr
      exact wpAny_pure h
theorem QbX : ∀ (n m : Nat) (k : Tr) (v : Value) (Q : Bool → Shared → Prop), L2.IsT s.heap n k v → (∀ b, Q b s) → wpAny (model prog w) A (hashByValue m v) Q E s
  | 0, _, _, _, _, x, _ => x.elim
  | n + 1, m, .i k, v, Q, x, h => by
    rcases x with ⟨t, rfl⟩ | ⟨b, rfl, rfl⟩ <;> (unfold hashByValue; exact wpAny_pure (h _))
  | n + 1, m, .s k, v, Q, x, h => by
    obtain ⟨t, rfl⟩ := x
    unfold hashByValue; exact wpAny_pure (h _)
  | n + 1, 0, .t ks, v, Q, x, h => by
    obtain ⟨a, its, rfl, _⟩ := x
    unfold hashByValue; exact wpAny_pure (h _)
  | n + 1, m + 1, .t ks, v, Q, x, h => by
    obtain ⟨a, its, rfl, ⟨o, ho, hc, l, hd⟩, q⟩ := x
    have hT : s.TypeIs (.ref a) "tuple" := ⟨o, ho, hc⟩
    unfold hashByValue
    refine wpAny_bind (wpAny_specialOf hT F.slot_tuple_hash.lookup ?_)
    dsimp only
    refine wpAny_bind (wpAny_seqItems ho hd ?_)
    refine wpAny_bind ?_
    show wpAny _ _ (forIn its _ _) _ _ s
    rw [← Array.forIn_toList]
    refine wpAny_forIn_list _ (fun rest (r : Option Bool × Unit) s' => (r.1 = none ∨ ∃ b, r.1 = some b) ∧ s' = s ∧ ∃ ks', Paired (L2.IsT s.heap n) ks' rest) _ ?_ ?_ _ _ ⟨.inl rfl, rfl, ks, q⟩
    · rintro v rest r s' ⟨hr, hs', ks', q'⟩
      have hs' := hs'.symm
      subst hs'
      cases q' with
      | cons q1 q2 =>
        refine wpAny_bind (QbX n m _ _ _ q1 fun b => ?_)
        cases b with
        | true =>
          simp only [Bool.not_true, Bool.false_eq_true, if_false]
          exact wpAny_pure ⟨.inl rfl, rfl, _, q2⟩
        | false =>
          simp only [Bool.not_false, if_true]
          exact wpAny_pure (wpAny_pure (h _))
    · rintro ⟨r1, r2⟩ s' ⟨hr, rfl, _⟩
      simp only at hr
      rcases hr with hr | ⟨b, hr⟩ <;> (subst hr; exact wpAny_pure (h _))
theorem QbR {k : Tr} {a : Addr} {Q : Bool → Shared → Prop} (hx : L2.IsT s.heap 8 k (.ref a)) : ∀ (stored : List Value), (∀ v ∈ stored, ∃ k' b, v = .ref b ∧ L2.IsT s.heap 8 k' (.ref b)) → Q false s → wpAny (model prog w) A (searchCouldBeSeen (.ref a) stored) Q E s := by
  intro stored hs h
  unfold searchCouldBeSeen
  refine wpAny_bind ?_
  refine wpAny_forIn_list _ (fun rest (r : Option Bool × Unit) s' => r.1 = none ∧ s' = s ∧ ∀ v ∈ rest, ∃ k' b, v = .ref b ∧ L2.IsT s.heap 8 k' (.ref b)) _ ?_ ?_ _ _ ⟨rfl, rfl, hs⟩
  · rintro v rest r s' ⟨hr, rfl, hv⟩
    obtain ⟨k', b, rfl, hb⟩ := hv v List.mem_cons_self
    have nx : ∀ v ∈ rest, ∃ k' b, v = .ref b ∧ L2.IsT s'.heap 8 k' (.ref b) := fun v hv' => hv v (List.mem_cons_of_mem _ hv')
    dsimp only
    refine wpAny_ite_split (fun _ => wpAny_pure ⟨rfl, rfl, nx⟩) (fun _ => ?_)
    refine wpAny_bind (VM 8 8 _ _ _ hx (Nat.le_refl _) ?_)
    simp only [Bool.not_true, Bool.false_eq_true, if_false]
    refine wpAny_bind (VM 8 8 _ _ _ hb (Nat.le_refl _) ?_)
    simp only [Bool.not_true, Bool.false_eq_true, if_false]
    refine wpAny_bind (Qao 8 8 _ _ _ hx (Nat.le_refl _) ?_)
    simp only [Bool.false_eq_true, if_false]
    refine wpAny_bind (Qao 8 8 _ _ _ hb (Nat.le_refl _) ?_)
    simp only [Bool.false_eq_true, if_false]
    exact wpAny_pure ⟨rfl, rfl, nx⟩
  · rintro ⟨r1, r2⟩ s' ⟨hr, rfl, _⟩
    simp only at hr
    subst hr
    exact wpAny_pure h
end
end Sb

namespace Sb
open PySem PySem.Spec PyProof.Rows SetTable L2
noncomputable def Szs (t : SetTable) (n : Nat) : Prop := (t.mask = 7 ∧ n ≤ 4) ∨ (t.mask = 31 ∧ n ≤ 18) ∨ (t.mask = 127 ∧ n ≤ 76)
theorem Szs.full {t : SetTable} {n : Nat} (h : Szs t n) : Xj t.mask := by
  rcases h with ⟨e, _⟩ | ⟨e, _⟩ | ⟨e, _⟩ <;> rw [e]
  · exact QdU
  · exact GB
  · exact Wh
theorem Szs.lt {t : SetTable} {n : Nat} (h : Szs t n) : n < t.mask ∧ t.mask ≤ 127 ∧ t.gaveWay = false := by
  unfold gaveWay
  rcases h with ⟨e, _⟩ | ⟨e, _⟩ | ⟨e, _⟩ <;> rw [e] <;> exact ⟨by omega, by decide, by decide⟩
section
variable {prog : Program} {w : World} {A : Around} {E : Value → Shared → Prop} {s : Shared}
noncomputable def Els (w : World) (h : Heap) (es : Array (Int × Value)) : Prop := ∀ e ∈ es.toList, ∃ k b, e.2 = .ref b ∧ L2.IsT h 8 k (.ref b) ∧ e.1 = hN w 8 k
theorem XA {es : Array (Int × Value)} {i : Nat} (hi : i < es.size) : ((es[i]?.map (·.1)).getD 0 : Int) = es[i].1 := by rw [Array.getElem?_eq_getElem hi]; rfl
theorem XC {S x : Addr} {o : Obj} {es : Array (Int × Value)} {ep : Nat} {t : SetTable} {k : Tr} {N : Nat} {Q : SetFound → Shared → Prop} (hu : A.units + 8 < cLine)
    (ho : s.heap.get? S = some o) (hd : o.data = .set es ep t) (T : Tab t es) (Z : Szs t es.size) (el : Els w s.heap es) (hx : L2.IsT s.heap 8 k (.ref x))
    (hN : sj t.mask (hN w 8 k) N ∉ t.place.toList) (hb : ∀ n, n < N → sj t.mask (L2.hN w 8 k) n ∈ t.place.toList) (hNb : N ≤ 10 * (t.mask + 12))
    (q1 : (∃ e ∈ es.toList, L2.IsT s.heap 8 k e.2) → Q (.there none) s) (q2 : (∀ e ∈ es.toList, ¬ L2.IsT s.heap 8 k e.2) → Q (.free (sj t.mask (L2.hN w 8 k) N) false) s) :
    ∀ (f n : Nat) (stand : Option Probe), stand.getD (t.probeStart (L2.hN w 8 k)) = sq t.mask (L2.hN w 8 k) n → n ≤ N → N - n < f → (∀ n' i (hi : i < es.size), n' < n → At t.place i = sj t.mask (L2.hN w 8 k) n' → ¬ L2.IsT s.heap 8 k es[i].2) →
      wpAny (model prog w) A (setSearchFrom S (.ref x) (L2.hN w 8 k) true f stand) Q E s
  | 0, n, stand, _, _, z, _ => absurd z (Nat.not_lt_zero _)
  | f + 1, n, stand, hst, hn, hf, hpre => by
    obtain ⟨zl, zm, zg⟩ := Z.lt
    unfold setSearchFrom
    refine wpAny_bind (wpAny_setState_of ho hd (T.fits (Nat.le_of_lt zl)) ?_)
    dsimp only
    rw [zg, if_neg (by simp), hst]
    have go := Kx T (hashAt := fun i => (es[i]?.map (·.1)).getD 0) hN hb (10 * turns t.mask) n hn (by unfold turns; omega)
    have pe : t.probe (fun i => (es[i]?.map (·.1)).getD 0) (L2.hN w 8 k) (sq t.mask (L2.hN w 8 k) n) = probe.go t (fun i => (es[i]?.map (·.1)).getD 0) (L2.hN w 8 k) (10 * turns t.mask) (sq t.mask (L2.hN w 8 k) n) := rfl
    show wpAny _ _ (match t.probe (fun i => (es[i]?.map (·.1)).getD 0) (L2.hN w 8 k) (sq t.mask (L2.hN w 8 k) n) with | some met => _ | x => _) _ _ _
    rw [pe]
    -- an entry with this key has this hash
    have hash : ∀ i (hi : i < es.size), L2.IsT s.heap 8 k es[i].2 → es[i].1 = L2.hN w 8 k := fun i hi z => by
      obtain ⟨k', b, e1, e2, e3⟩ := el es[i] (by simp)
      rw [e1] at z
      rw [e3, Zk _ _ _ e2 z]
    rcases go with ⟨n', i, g1, g2, g3, g4, g5, g6, g7⟩ | ⟨g6, g7⟩
    · rw [g7]
      dsimp only
      obtain ⟨k', b, e1, e2, e3⟩ := el es[i] (by simp)
      have hy : es[i]? = some (es[i].1, .ref b) := by rw [Array.getElem?_eq_getElem g3, ← e1]
      have rest : wpAny (model prog w) A (do
          let some (_, y) := es[i]? | unsupported "internal:set-entry"
          let equal ← holding [y] (eqBool y (.ref x))
          let (es', _, t') ← setState S
          if true && equal then return .there none
          let some same := t'.sameMemory t.moves t.mask | unsupported "set.changed-during-lookup:is-the-new-block-at-the-old-address"
          let still ← match (if same then t'.slot (sj t.mask (L2.hN w 8 k) n') else .empty) with
            | .live i' => match es'[i']? with
              | some (_, y') => do pure (if ← isSame y' y then some i' else none)
              | none => pure none
            | _ => pure none
          match still with
          | none => rule "set.search.anew"; setSearchFrom S (.ref x) (L2.hN w 8 k) true f none
          | some i' => if equal then return .there (some i') else setSearchFrom S (.ref x) (L2.hN w 8 k) true f (some (sq t.mask (L2.hN w 8 k) (n' + 1)))) Q E s := by
        rw [hy]
        dsimp only
        refine wpAny_bind (wpAny_holding (Qbv 8 A hu _ _ _ _ e2 hx _ _ _ _ ?_))
        refine wpAny_bind (wpAny_setState_of ho hd (T.fits (Nat.le_of_lt zl)) ?_)
        dsimp only
        by_cases c : k' = k
        · subst c
          rw [decide_eq_true rfl]
          simp only [Bool.and_self, if_true]
          exact wpAny_pure (q1 ⟨es[i], by simp, by rw [e1]; exact e2⟩)
        · rw [decide_eq_false c]
          simp only [Bool.and_false, Bool.false_eq_true, if_false]
          have sm : t.sameMemory t.moves t.mask = some true := by unfold sameMemory; rw [if_pos (beq_self_eq_true _)]
          rw [sm]
          dsimp only
          rw [if_pos rfl, ← g4, XD T.up (by rw [T.len]; exact g3)]
          dsimp only
          rw [hy]
          dsimp only
          refine wpAny_bind ?_
          unfold isSame
          dsimp only
          rw [if_pos (beq_self_eq_true _)]
          refine wpAny_pure (wpAny_bind (wpAny_pure ?_))
          rw [if_pos rfl]
          dsimp only
          refine XC hu ho hd T Z el hx hN hb hNb q1 q2 f (n' + 1) _ rfl g2 (by omega) fun m i2 hi2 hm he => ?_
          rcases Nat.lt_or_ge m n with z | z
          · exact hpre m i2 hi2 z he
          · rcases Nat.lt_or_ge m n' with y | y
            · intro hk
              refine g6 m i2 z y hi2 he ?_
              rw [XA hi2]
              exact hash i2 hi2 hk
            · have : m = n' := by omega
              subst this
              have e : i2 = i := by
                rcases Nat.lt_trichotomy i2 i with u | u | u
                · have := T.up i2 i u (by rw [T.len]; exact g3); omega
                · exact u
                · have := T.up i i2 u (by rw [T.len]; exact hi2); omega
              subst e
              intro hk
              rw [e1] at hk
              exact c (Zk _ _ _ e2 hk)
      cases hl : t.led with
      | true =>
        simp only [Bool.not_true, Bool.false_eq_true, if_false]
        exact rest
      | false =>
        simp only [Bool.not_false, if_true]
        refine wpAny_bind (QbR hx _ (fun v hv => ?_) ?_)
        · obtain ⟨e, he, rfl⟩ := List.mem_map.mp hv
          have he' : e ∈ es.toList := by
            have := Array.mem_toList_iff.mp he
            exact Array.mem_toList_iff.mpr (Array.mem_filter.mp this).1
          obtain ⟨k'', b'', z1, z2, _⟩ := el e he'
          exact ⟨k'', b'', z1, z2⟩
        · simp only [Bool.false_eq_true, if_false]
          exact rest
    · rw [g7]
      dsimp only
      refine wpAny_pure (q2 fun e he hk => ?_)
      obtain ⟨i, hi, rfl⟩ : ∃ i, ∃ hi : i < es.size, es[i] = e := by
        obtain ⟨i, hi, z⟩ := Array.mem_iff_getElem.mp (Array.mem_toList_iff.mp he)
        exact ⟨i, hi, z⟩
      obtain ⟨n0, h1, h2⟩ := T.own _ (Qch T hi)
      dsimp only at h1 h2
      rw [hash i hi hk] at h1 h2
      have lt : n0 < N := by
        rcases Nat.lt_or_ge n0 N with z | z
        · exact z
        · exfalso
          rcases Nat.lt_or_ge N n0 with y | y
          · exact hN (h2 N y)
          · have : n0 = N := by omega
            subst this
            exact hN (by rw [h1]; exact mem_at.mpr ⟨i, by rw [T.len]; exact hi, rfl⟩)
      rcases Nat.lt_or_ge n0 n with z | z
      · exact hpre n0 i hi z h1.symm hk
      · refine g6 n0 i z lt hi h1.symm ?_
        rw [XA hi]
        exact hash i hi hk
end
end Sb

namespace Sb
open PySem PySem.Spec PyProof.Rows SetTable L2
noncomputable abbrev Ex (h h' : Heap) : Prop := ∀ b o, h.get? b = some o → h'.get? b = some o
theorem KA {h h' : Heap} (e : Ex h h') {a : Addr} {its : Array Value} (x : h.IsTuple a its) : h'.IsTuple a its := let ⟨o, ho, r⟩ := x; ⟨o, e _ _ ho, r⟩
theorem Zv {h h' : Heap} (e : Ex h h') : ∀ {n : Nat} (k : Tr) (v : Value), L2.IsT h n k v → L2.IsT h' n k v
  | 0, _, _, x => x.elim
  | n + 1, .i k, v, x => x
  | n + 1, .s k, v, x => x
  | n + 1, .t ks, v, ⟨a, its, q, p, r⟩ => ⟨a, its, q, KA e p, Zn (fun k v => Zv e k v) r⟩
section
variable {prog : Program} {w : World} {A : Around} {E : Value → Shared → Prop} {s : Shared} {h₀ : Heap} {G : Value → Prop}
noncomputable def SetT (w : World) (G : Value → Prop) (h₀ h : Heap) (a : Addr) (ks : List Tr) (led : Bool) : Prop :=
  ∃ o es ep t, h.get? a = some o ∧ o.ExactSet ∧ o.data = .set es ep t ∧ Tab t es ∧ Szs t es.size ∧ t.led = led ∧ Els w h₀ es ∧ ks.Nodup ∧ es.size = ks.length ∧ (∀ k, k ∈ ks ↔ ∃ e ∈ es.toList, L2.IsT h₀ 8 k e.2) ∧ ∀ e ∈ es.toList, G e.2
theorem SetT.at {h h' : Heap} {a : Addr} {ks : List Tr} {led : Bool} (x : SetT w G h₀ h a ks led) (e : ∀ o, h.get? a = some o → h'.get? a = some o) : SetT w G h₀ h' a ks led := let ⟨o, es, ep, t, ho, r⟩ := x; ⟨o, es, ep, t, e _ ho, r⟩
theorem SetT.lt {h : Heap} {a : Addr} {ks : List Tr} {led : Bool} (x : SetT w G h₀ h a ks led) : a < h.objs.size := let ⟨_, _, _, _, ho, _⟩ := x; Heap.lt_size ho
theorem SetT.typeIs {a : Addr} {ks : List Tr} {led : Bool} (x : SetT w G h₀ s.heap a ks led) : s.TypeIs (.ref a) "set" := let ⟨o, _, _, _, ho, hx, _⟩ := x; ⟨o, ho, hx.1⟩
theorem Els.mono {h h' : Heap} (e : Ex h h') {es : Array (Int × Value)} (x : Els w h es) : Els w h' es := fun q hq => let ⟨k, b, z1, z2, z3⟩ := x q hq; ⟨k, b, z1, Zv e _ _ z2, z3⟩
theorem SetT.store {h : Heap} {a : Addr} {o : Obj} {es es' : Array (Int × Value)} {ep : Nat} {t t' : SetTable} (ho : h.get? a = some o) (hx : o.ExactSet) (hd : o.data = .set es ep t) :
    ∃ ep', (h.update a (Obj.putSet es' t')).get? a = some (Obj.putSet es' t' o) ∧ (Obj.putSet es' t' o).ExactSet ∧ (Obj.putSet es' t' o).data = .set es' ep' t' := by
  have g1 : (h.update a (Obj.putSet es' t')).get? a = some (Obj.putSet es' t' o) := Heap.get?_update_self _ ho (by rw [putSet_of es' t' hd]; rfl)
  have g2 : (Obj.putSet es' t' o).ExactSet := by rw [putSet_of es' t' hd]; exact hx
  have g3 : ∃ ep', (Obj.putSet es' t' o).data = .set es' ep' t' := by rw [putSet_of es' t' hd]; exact ⟨_, rfl⟩
  obtain ⟨ep', g4⟩ := g3
  exact ⟨ep', g1, g2, g4⟩
theorem YX {t : SetTable} {es : Array (Int × Value)} {b : Bool} (T : Tab t es) : Tab { t with plain := b } es := ⟨T.up, T.dum, T.len, T.le, T.own⟩
theorem UJ {S : Addr} {o : Obj} {es : Array (Int × Value)} {ep : Nat} {t : SetTable} {wn m : Nat} {Q : Unit → Shared → Prop} (ho : s.heap.get? S = some o) (hx : o.ExactSet) (hd : o.data = .set es ep t) (T : Tab t es) (hl : es.size ≤ t.mask) (hm : sizeAbove wn = m + 1) (F : Xj m) (hle : es.size ≤ m) (hmm : m ≤ 127)
    (h : ∀ h' o' es' ep' t', Heap.SameBut S s.heap h' → h'.get? S = some o' → o'.ExactSet → o'.data = .set es' ep' t' → Tab t' es' → t'.mask = m → t'.led = t.led → es'.toList.Perm es.toList → Q () { s with heap := h' }) :
    wpAny (model prog w) A (setRelay S wn) Q E s := by
  unfold setRelay
  refine wpAny_bind (wpAny_setState_of ho hd (T.fits hl) ?_)
  dsimp only
  have big : ¬ sizeAbove wn > sizeLine := by rw [hm, sizeLine_eq]; omega
  rw [if_neg big]
  obtain ⟨t', od, l1, l2, l3, l4, l5, l6⟩ := Qbq F es hle t.finger (t.movedTo m) t.led t.plain
  have rel : t.relaid (es.map (·.1)) wn = some (t', od) := by
    unfold relaid
    rw [hm]
    exact l1
  rw [rel]
  refine wpAny_bind ?_
  have hsz : (od.filterMap (es[·]?)).size = es.size := by rw [← Array.length_toList, l6.length_eq, Array.length_toList]
  show wpAny _ _ (do
    if (od.filterMap (es[·]?)).size != es.size then unsupported "internal:set-table-lost-an-element"
    pure (od.filterMap (es[·]?), t')) _ _ _
  rw [if_neg (by rw [hsz]; simp)]
  refine wpAny_bind (wpAny_pure (wpAny_pure ?_))
  dsimp only
  refine wpAny_storeSet_of ho hd ?_ (by rw [hsz, sizeLine_eq]; omega)
  obtain ⟨ep', g1, g2, g3⟩ := SetT.store (es' := od.filterMap (es[·]?)) (t' := t') ho hx hd
  exact h _ _ _ ep' t' (Heap.SameBut.update ..) g1 g2 g3 l5 l2 l3 l6
end
end Sb

namespace Sb
open PySem PySem.Spec PyProof.Rows SetTable L2
section
variable {prog : Program} {w : World} {A : Around} {E : Value → Shared → Prop} {s : Shared} {h₀ : Heap} {G : Value → Prop}
theorem GY {es es' : Array (Int × Value)} {g : Int} {x : Value} (e : ∀ e ∈ es.toList, G e.2) (hx : G x) (p : es'.toList.Perm ((g, x) :: es.toList)) : ∀ e ∈ es'.toList, G e.2 := fun q hq => by
  rcases List.mem_cons.mp (p.mem_iff.mp hq) with rfl | z
  · exact hx
  · exact e q z
theorem Ks {es es' : Array (Int × Value)} {k : Tr} {x : Addr} (e : Els w h₀ es) (hx : L2.IsT h₀ 8 k (.ref x)) (p : es'.toList.Perm ((L2.hN w 8 k, .ref x) :: es.toList)) : Els w h₀ es' := fun q hq => by
  rcases List.mem_cons.mp (p.mem_iff.mp hq) with rfl | z
  · exact ⟨k, x, rfl, hx, rfl⟩
  · exact e q z
theorem Qe9 {S x : Addr} {ks : List Tr} {led : Bool} {k : Tr} {Q : Bool → Shared → Prop} (hu : A.units + 8 < cLine) (ext : Ex h₀ s.heap) (hS : SetT w G h₀ s.heap S ks led) (hx : L2.IsT h₀ 8 k (.ref x)) (hG : G (.ref x)) (room : ks.length + 1 ≤ 76)
    (h : ∀ b h', Heap.SameBut S s.heap h' → SetT w G h₀ h' S (if k ∈ ks then ks else ks ++ [k]) led → Q b { s with heap := h' }) :
    wpAny (model prog w) A (setAddHashed S (.ref x) (L2.hN w 8 k)) Q E s := by
  obtain ⟨o, es, ep, t, ho, hxs, hd, T, Z, hled, el, hnd, hn, hmem, hg⟩ := id hS
  obtain ⟨zl, zm, zg⟩ := Z.lt
  have hf := T.fits (Nat.le_of_lt zl)
  obtain ⟨N, N1, N2, N3⟩ := Yx Z.full (L2.hN w 8 k) (l := t.place.toList) (by rw [Array.length_toList, T.len]; omega)
  have back : ∀ {j : Tr} {v : Value}, (∃ b, v = .ref b ∧ ∃ k', L2.IsT h₀ 8 k' (.ref b)) → L2.IsT s.heap 8 j v → L2.IsT h₀ 8 j v := by
    rintro j v ⟨b, rfl, k', hk'⟩ hj
    rw [Zk _ _ _ hj (Zv ext _ _ hk')]
    exact hk'
  have isr : ∀ e ∈ es.toList, ∃ b, e.2 = .ref b ∧ ∃ k', L2.IsT h₀ 8 k' (.ref b) := fun e he => by
    obtain ⟨k', b, z1, z2, _⟩ := el e he
    exact ⟨b, z1, k', z2⟩
  unfold setAddHashed setAddHashedIn
  refine wpAny_holding (wpAny_bind (wpAny_setState_of ho hd hf ?_))
  dsimp only
  rw [if_neg (show ¬ byScan (.ref x) es = true from by unfold byScan; simp [Value.scannable])]
  refine wpAny_bind ?_
  unfold setSearch
  refine XC hu ho hd T Z (el.mono ext) (Zv ext _ _ hx) N2 N3 N1 ?_ ?_ 100000 0 none rfl (Nat.zero_le _) (by omega) (fun n' i hi z => absurd z (Nat.not_lt_zero _))
  · rintro ⟨e, he, hk⟩
    have hin : k ∈ ks := (hmem k).mpr ⟨e, he, back (isr e he) hk⟩
    refine wpAny_pure ?_
    have q := h false s.heap (Heap.SameBut.refl S s.heap) (by rw [if_pos hin]; exact hS)
    exact q
  · intro hno
    have hin : k ∉ ks := fun hin => by
      obtain ⟨e, he, hk⟩ := (hmem k).mp hin
      exact hno e he (Zv ext _ _ hk)
    rw [if_neg hin] at h
    dsimp only
    refine wpAny_bind (wpAny_setState_of ho hd hf ?_)
    dsimp only
    obtain ⟨p1, p2, p3, p4, p5⟩ := Qcr T (h := L2.hN w 8 k) (x := .ref x) (UK t.mask _ N).1 N2 N3
    generalize t.put (sj t.mask (L2.hN w 8 k) N) = pt at p1 p2 p3 p4 p5
    obtain ⟨t1, p⟩ := pt
    dsimp only at p1 p2 p3 p4 p5 ⊢
    have sz1 : (insertAt es p (L2.hN w 8 k, .ref x)).size = es.size + 1 := by
      rw [← Array.length_toList, p5.length_eq]; simp
    have el1 : Els w h₀ (insertAt es p (L2.hN w 8 k, .ref x)) := Ks el hx p5
    have nd1 : (ks ++ [k]).Nodup := by
      rw [List.nodup_append]
      exact ⟨hnd, by simp, fun u hu v hv e => hin (by rw [List.mem_singleton.mp hv] at e; rw [← e]; exact hu)⟩
    have mem1 : ∀ {es' : Array (Int × Value)}, es'.toList.Perm ((L2.hN w 8 k, .ref x) :: es.toList) → ∀ j, j ∈ ks ++ [k] ↔ ∃ e ∈ es'.toList, L2.IsT h₀ 8 j e.2 := fun pm j => by
      rw [List.mem_append, List.mem_singleton, hmem j]
      constructor
      · rintro (⟨e, he, q⟩ | rfl)
        · exact ⟨e, pm.mem_iff.mpr (List.mem_cons_of_mem _ he), q⟩
        · exact ⟨_, pm.mem_iff.mpr List.mem_cons_self, hx⟩
      · rintro ⟨e, he, q⟩
        rcases List.mem_cons.mp (pm.mem_iff.mp he) with rfl | z
        · exact .inr (Zk _ _ _ q hx)
        · exact .inl ⟨e, z, q⟩
    generalize insertAt es p (L2.hN w 8 k, .ref x) = es1 at p4 p5 sz1 el1 ⊢
    have fin : ∀ t2 : SetTable, Tab t2 es1 → t2.mask = t.mask → t2.led = t.led → wpAny (model prog w) A (do
        storeSet S es1 t2
        if (!false && t2.tooFull) = true then do
          setRelay S (SetTable.grown (es.size + 1))
          pure true
        else pure true) Q E s := by
      intro t2 T2 m2 l2
      refine wpAny_bind (wpAny_storeSet_of ho hd ?_ (by rw [sz1, sizeLine_eq]; omega))
      obtain ⟨ep', g1, g2, g3⟩ := SetT.store (es' := es1) (t' := t2) ho hxs hd
      have sb := Heap.SameBut.update s.heap S (Obj.putSet es1 t2)
      have tf : t2.tooFull = decide ((es.size + 1) * 5 ≥ t.mask * 3) := by
        unfold tooFull
        rw [T2.fill, m2, sz1]
      rw [tf]
      have plain : Szs t2 (es.size + 1) → SetT w G h₀ (s.heap.update S (Obj.putSet es1 t2)) S (ks ++ [k]) led := fun z =>
        ⟨_, es1, ep', t2, g1, g2, g3, T2, by rw [sz1]; exact z, l2.trans hled, el1, nd1, by rw [sz1, List.length_append, hn]; rfl, mem1 p5, GY hg hG p5⟩
      have again : ∀ m, sizeAbove (SetTable.grown (es.size + 1)) = m + 1 → Xj m → es.size + 1 ≤ m → m ≤ 127 → (∀ t' : SetTable, t'.mask = m → Szs t' (es.size + 1)) →
          wpAny (model prog w) A (do setRelay S (SetTable.grown (es.size + 1)); pure true) Q E { s with heap := s.heap.update S (Obj.putSet es1 t2) } := by
        intro m a1 a2 a3 a4 a5
        refine wpAny_bind (UJ (s := { s with heap := s.heap.update S (Obj.putSet es1 t2) }) g1 g2 g3 T2 (by rw [sz1, m2]; omega) a1 a2 (by rw [sz1]; exact a3) a4 fun h' o' es' ep2 t' c1 c2 c3 c4 c5 c6 c7 c8 => wpAny_pure ?_)
        refine h true h' (sb.trans c1) ⟨o', es', ep2, t', c2, c3, c4, c5, ?_, c7.trans (l2.trans hled), Ks el hx (c8.trans p5), nd1, ?_, mem1 (c8.trans p5), GY hg hG (c8.trans p5)⟩
        · have : es'.size = es.size + 1 := by rw [← Array.length_toList, c8.length_eq, Array.length_toList, sz1]
          rw [this]; exact a5 t' c6
        · rw [← Array.length_toList, c8.length_eq, Array.length_toList, sz1, List.length_append, hn]; rfl
      rcases Z with ⟨z1, z2⟩ | ⟨z1, z2⟩ | ⟨z1, z2⟩
      · rw [z1] at m2 ⊢
        by_cases c : es.size = 4
        · rw [c] at again ⊢
          rw [if_pos (by decide)]
          exact again 31 (by decide) GB (by decide) (by decide) fun t' e => .inr (.inl ⟨e, by omega⟩)
        · rw [if_neg (by simp; omega)]
          exact wpAny_pure (h true _ sb (plain (.inl ⟨m2, by omega⟩)))
      · rw [z1] at m2 ⊢
        by_cases c : es.size = 18
        · rw [c] at again ⊢
          rw [if_pos (by decide)]
          exact again 127 (by decide) Wh (by decide) (by decide) fun t' e => .inr (.inr ⟨e, by omega⟩)
        · rw [if_neg (by simp; omega)]
          exact wpAny_pure (h true _ sb (plain (.inr (.inl ⟨m2, by omega⟩))))
      · rw [z1] at m2 ⊢
        rw [if_neg (by simp; omega)]
        exact wpAny_pure (h true _ sb (plain (.inr (.inr ⟨m2, by omega⟩))))
    cases hp : t1.plain with
    | true =>
      rw [if_pos rfl]
      refine wpAny_bind (QbX 8 8 _ _ _ (Zv ext _ _ hx) fun b => ?_)
      cases b with
      | true =>
        rw [if_pos rfl]
        exact fin t1 p4 p1 p2
      | false =>
        rw [if_neg (by simp)]
        exact fin { t1 with plain := false } (YX p4) p1 p2
    | false =>
      rw [if_neg (by simp)]
      refine wpAny_bind (wpAny_pure ?_)
      rw [if_pos rfl]
      exact fin t1 p4 p1 p2
end
end Sb

namespace Sb
open PySem PySem.Spec PyProof.Rows SetTable L2
noncomputable def uq {α : Type} [DecidableEq α] (l : List α) : List α := l.foldl (fun u x => if x ∈ u then u else u ++ [x]) []
section
variable {α : Type} [DecidableEq α]
theorem XX (l : List α) (x : α) : uq (l ++ [x]) = if x ∈ uq l then uq l else uq l ++ [x] := by unfold uq; rw [List.foldl_append]; rfl
theorem KM {P : List α → Prop} (h0 : P []) (h1 : ∀ l x, P l → P (l ++ [x])) (l : List α) : P l := by
  have : ∀ (n : Nat) (l : List α), l.length = n → P l := by
    intro n
    induction n with
    | zero => intro l h; rw [List.length_eq_zero_iff.mp h]; exact h0
    | succ n ih =>
      intro l h
      obtain ⟨u, x, rfl⟩ : ∃ u x, l = u ++ [x] := ⟨l.dropLast, l.getLast (fun z => by rw [z] at h; cases h), (List.dropLast_concat_getLast _).symm⟩
      exact h1 u x (ih u (by simp at h; exact h))
  exact this _ l rfl
theorem uq_len (l : List α) : (uq l).length ≤ l.length := by
  induction l using KM with
  | h0 => exact Nat.le_refl _
  | h1 l x ih =>
    rw [XX, List.length_append, List.length_singleton]
    split
    · omega
    · rw [List.length_append, List.length_singleton]; omega
theorem uq_mem (l : List α) : ∀ y, y ∈ uq l ↔ y ∈ l := by
  induction l using KM with
  | h0 => exact fun y => Iff.rfl
  | h1 l x ih =>
    intro y
    rw [XX, List.mem_append, List.mem_singleton]
    split
    · rename_i hx
      rw [ih y]
      exact ⟨.inl, fun z => z.elim id fun e => by rw [e]; exact (ih x).mp hx⟩
    · rw [List.mem_append, List.mem_singleton, ih y]
end
section
variable {prog : Program} {w : World} {A : Around} {R : Result → Shared → Prop} {I : Addr} {fp wr : List Addr} {G : Array GenState → Array GenState → Prop} {n : Nat} {P : Nat → Value → Prop} {St' : Nat → Shared → Prop} {h₀ : Heap} {G₁ : Value → Prop}
theorem QdD (hu : A.in1.units + 8 < cLine) (W : WalksS prog w A.in1 I fp wr G n P St') (S : Addr) (hSf : S ∉ fp) (hS0 : h₀.objs.size ≤ S) (hw0 : ∀ b ∈ wr, h₀.objs.size ≤ b) (led : Bool) (l : List Tr) (hl : l.length = n) (hv : ∀ i v, P i v → ∃ k x, l[i]? = some k ∧ v = .ref x ∧ L2.IsT h₀ 8 k (.ref x) ∧ G₁ (.ref x)) (hb : n + 1 ≤ 76) :
    ∀ (k i : Nat) (s : Shared), n - i = k → i ≤ n → St' i s → Ex h₀ s.heap → SetT w G₁ h₀ s.heap S (uq (l.take i)) led →
      (∀ s', Moved (S :: wr) G s s' → SetT w G₁ h₀ s'.heap S (uq l) led → R (.ok (.ret .none)) s') →
      codeAny (model prog w) A (.builtin "set.update.loop" ⟨[.ref S, .ref I], []⟩) R s := by
  have nw : S ∉ wr := fun z => hSf (W.sub _ z)
  have sub : ∀ b ∈ wr, b ∈ S :: wr := fun b z => List.mem_cons_of_mem _ z
  intro k
  induction k with
  | zero =>
    intro i s hk hi st ext hS hR
    obtain rfl : i = n := by omega
    refine codeAny_builtin F.entry_set_update_loop ?_
    rw [Around.under_plainId F.plain_set_update_loop _]; show wpAny _ A.in1 (pyNext (.ref I) >>= _) _ _ s
    refine wpAny_bind (W.done s _ _ st fun s' hm => wpAny_pure (hR s' (hm.mono sub) ?_))
    rw [List.take_of_length_le (by omega)] at hS
    exact hS.at fun o e => hm.heap S _ nw e
  | succ k ih =>
    intro i s hk hi st ext hS hR
    have lt : i < n := by omega
    refine codeAny_builtin F.entry_set_update_loop ?_
    rw [Around.under_plainId F.plain_set_update_loop _]; show wpAny _ A.in1 (pyNext (.ref I) >>= _) _ _ s
    refine wpAny_bind (W.item i s _ _ lt st fun v s' hP st' hm => ?_)
    obtain ⟨k1, x, hx, rfl, ht, hg⟩ := hv i v hP
    have hS' : SetT w G₁ h₀ s'.heap S (uq (l.take i)) led := hS.at fun o e => hm.heap S _ nw e
    have ext' : Ex h₀ s'.heap := fun b o e => hm.heap b o (fun z => absurd (hw0 b z) (Nat.not_le.mpr (Heap.lt_size e))) (ext b o e)
    show wpAny _ A.in1 (holding [Value.ref x] (setAdd S (.ref x)) >>= _) _ _ s'
    refine wpAny_bind (wpAny_holding ?_)
    unfold setAdd
    refine wpAny_holding (wpAny_bind (WI 8 A.in1 hu _ _ _ _ (Zv ext' _ _ ht) ?_))
    have room : (uq (l.take i)).length + 1 ≤ 76 := by
      have := uq_len (l.take i)
      rw [List.length_take] at this
      omega
    refine Qe9 (s := { s' with toks := s'.toks + dN 8 k1 }) hu ext' hS' ht hg room fun b h' sb hS2 => ?_
    have hS3 : SetT w G₁ h₀ h' S (uq (l.take (i + 1))) led := by
      rw [List.take_add_one, hx, Option.toList_some, XX]; exact hS2
    have ext2 : Ex h₀ h' := fun b o e => (sb.2 b (fun z => absurd hS0 (by rw [← z]; exact Nat.not_le.mpr (Heap.lt_size e)))).trans (ext' b o e)
    refine wpAny_pure ⟨plainId_quiet F.plain_set_update_loop _, ih (i + 1) _ (by omega) lt (W.frame _ s' _ _ st' (Nat.le_add_right ..) fun b z o e => ?_) ext2 hS3 fun s'' hm2 q => ?_⟩
    · exact (sb.2 b (fun e' : b = S => hSf (by rw [← e']; exact z))).trans e
    · refine hR s'' (Moved.trans W.gtrans ((hm.mono sub).then_heap (Nat.le_add_right ..) fun b o z e => ?_) hm2) q
      exact (sb.2 b (fun e' : b = S => z (by rw [e']; exact List.mem_cons_self))).trans e
end
section
variable {prog : Program} {w : World} {A : Around} {E : Value → Shared → Prop} {s : Shared} {G₁ : Value → Prop}
theorem Yw {h₀ h : Heap} {a : Addr} {b : Bool} (e : h.get? a = some (St.emptySet b)) : SetT w G₁ h₀ h a [] b :=
  ⟨_, #[], 0, _, e, ⟨rfl, rfl, rfl⟩, rfl, ⟨fun i j h1 h2 => absurd h2 (Nat.not_lt_zero _), rfl, rfl, fun j hj => (nomatch hj), fun q hq => (nomatch hq)⟩, .inl ⟨rfl, by decide⟩, rfl, fun x hx => (nomatch hx), List.nodup_nil, rfl, fun k => ⟨fun z => (nomatch z), fun ⟨_, z, _⟩ => (nomatch z)⟩, fun x hx => (nomatch hx)⟩
noncomputable def Ui (h : Heap) (items : Array Value) (ts : List Tr) : Prop := ts.length = items.size ∧ ∀ (i : Nat) (v : Value), items[i]? = some v → ∃ (k : Tr) (x : Addr), ts[i]? = some k ∧ v = Value.ref x ∧ L2.IsT h 8 k (Value.ref x)
theorem Qdp {l : Addr} {items : Array Value} {ts : List Tr} {Q : Value → Shared → Prop} (hu : A.units + 9 < cLine) (hh : A.handled = none) (hl : s.heap.IsList l items) (hi : Ui s.heap items ts) (hG : ∀ v ∈ items.toList, G₁ v) (hb : items.size + 1 ≤ 76)
    (h : ∀ (h' : Heap) (tk : Nat), SetT w G₁ s.heap h' s.heap.objs.size (uq ts) (St.ledW w) → Ex s.heap h' → Q (.ref s.heap.objs.size) { s with heap := h', toks := tk }) :
    wpAny (model prog w) A (Builtin.«set.__init__» ⟨[.ref s.heap.objs.size, .ref l], []⟩) (fun fin s' => fin = .done (.ret .none) ∧ Q (.ref s.heap.objs.size) s') E { s with heap := s.heap.push (St.emptySet (St.ledW w)) } := by
  have hS : (s.heap.push (St.emptySet (St.ledW w))).get? s.heap.objs.size = some (St.emptySet (St.ledW w)) := Heap.get?_push_size _ rfl
  have hT : Shared.TypeIs { s with heap := s.heap.push (St.emptySet (St.ledW w)) } (.ref s.heap.objs.size) "set" := ⟨_, hS, rfl⟩
  obtain ⟨ol, hol, hcl, nl, hdl⟩ := hl
  obtain ⟨ocls, odict, odata, oslots⟩ := ol
  simp only at hcl hdl
  subst hcl hdl
  have hol' : (s.heap.push (St.emptySet (St.ledW w))).get? l = some { cls := .type "list", dict := odict, data := .seq items nl, slots := oslots } := Heap.get?_push_of_some _ hol
  have hl1 : (s.heap.push (St.emptySet (St.ledW w))).IsList l items := ⟨_, hol', rfl, nl, rfl⟩
  have n1 := F.sub_list_set
  have n2 := F.sub_list_frozenset
  have n3 : (Value.type "list" == Value.type "dict") = false := by decide
  unfold Builtin.«set.__init__» noKeywords Builtin.Frozenset.updateFrom
  generalize hPI : pyIter = PI
  wp_walk
  subst hPI
  refine wpAny_pyIter_list hl1 (wpAny_bind (wpAny_runValue ?_))
  have hlS : l < s.heap.objs.size := Heap.lt_size hol
  have szp : (s.heap.push (St.emptySet (St.ledW w))).objs.size = s.heap.objs.size + 1 := Heap.size_push _ _
  have ne1 : l ≠ (s.heap.push (St.emptySet (St.ledW w))).objs.size := by rw [szp]; exact Nat.ne_of_lt (Nat.lt_succ_of_lt hlS)
  have nf : s.heap.objs.size ∉ [(s.heap.push (St.emptySet (St.ledW w))).objs.size, l] := by
    rw [szp]
    simp only [List.mem_cons, List.not_mem_nil, or_false, not_or]
    exact ⟨Nat.ne_of_lt (Nat.lt_succ_self _), Nat.ne_of_gt hlS⟩
  refine QdD (h₀ := s.heap) (by show A.units + 1 + 8 < cLine; omega) ((Walks.list (show A.in1.handled = none by simp [hh]) _ l ne1 items).toS) s.heap.objs.size nf (Nat.le_refl _) (fun b hb => by rw [List.mem_singleton.mp hb, szp]; exact Nat.le_succ _) (St.ledW w) ts hi.1 (fun i v e => let ⟨k, x, a1, a2, a3⟩ := hi.2 i v e; ⟨k, x, a1, a2, a3, by rw [← a2]; exact hG v (List.mem_iff_getElem?.mpr ⟨i, by rw [Array.getElem?_toList]; exact e⟩)⟩) hb (items.size - 0) 0 _ (by omega) (Nat.zero_le _) ⟨⟨_, Heap.get?_push_size _ rfl, rfl, rfl⟩, hl1.push _⟩ (fun b o e => Heap.get?_push_of_some _ (Heap.get?_push_of_some _ e)) (Yw (Heap.get?_push_of_some _ hS)) fun s' hm hS' => ?_
  obtain ⟨h', g', d', tk', os'⟩ := s'
  have eg : g' = s.gens := hm.gens
  have ed : d' = s.drawn := hm.drawn
  have eo : os' = s.os := hm.os
  subst eg ed eo
  refine wpAny_pure (wpAny_pure ⟨rfl, h h' tk' hS' fun b o e => ?_⟩)
  have lt : b < s.heap.objs.size := Heap.lt_size e
  refine hm.heap b o ?_ (Heap.get?_push_of_some _ (Heap.get?_push_of_some _ e))
  simp only [List.mem_cons, List.not_mem_nil, or_false, not_or]
  exact ⟨Nat.ne_of_lt lt, by rw [szp]; exact Nat.ne_of_lt (Nat.lt_succ_of_lt lt)⟩
theorem set_tups {l : Addr} {items : Array Value} {ts : List Tr} {Q : Value → Shared → Prop} (hu : A.units + 12 < cLine) (hh : A.handled = none) (hl : s.heap.IsList l items) (hi : Ui s.heap items ts) (hG : ∀ v ∈ items.toList, G₁ v) (hb : items.size + 1 ≤ 76)
    (h : ∀ (h' : Heap) (tk : Nat), SetT w G₁ s.heap h' s.heap.objs.size (uq ts) (St.ledW w) → Ex s.heap h' → Q (.ref s.heap.objs.size) { s with heap := h', toks := tk }) :
    wpAny (model prog w) A (call (.type "set") [.ref l]) Q E s := by
  have body : ∀ (A' : Around), A'.handled = none → A'.units + 9 < cLine → wpAny (model prog w) A' (Builtin.«set.__init__» ⟨[.ref s.heap.objs.size, .ref l], []⟩) (fun fin s' => fin = .done (.ret .none) ∧ Q (.ref s.heap.objs.size) s') E { s with heap := s.heap.push (St.emptySet (St.ledW w)) } := by
    intro A' hA hu'
    exact Qdp hu' hA hl hi hG hb h
  obtain ⟨c, tl, hmro⟩ := F.called_set.mro
  have m1 := F.called_set.made
  have m2 := F.called_set.sub
  refine wpAny_call (codeAny_of_tree (show wpAny _ _ (callAny (.type "set") _) _ _ _ from ?_))
  refine wpAny_pure ⟨Code.quiet_builtin _ (by decide +kernel), codeAny_builtin (F.entry_type_call) ?_⟩
  rw [Around.under_plain (weight_type_call_type "set" [Value.ref l] []) rfl]
  have m3 := F.called_set.notType
  have m4 := F.called_set.canCreate
  have m5 := F.typeCall_set_1 (Value.ref l)
  repeat (any_goals (first | assumption | wp_step))
  refine codeAny_mono (St.newL (Value.ref l) (E := E) (Q₁ := fun obj s₁ => obj = .ref s.heap.objs.size ∧ s₁ = { s with heap := s.heap.push (St.emptySet (St.ledW w)) }) ⟨rfl, rfl⟩) fun r s₁ hr => ?_
  cases r with
  | error e => exact hr
  | ok fl =>
    cases fl with
    | ret obj =>
      obtain ⟨rfl, rfl⟩ := hr
      have hS : (s.heap.push (St.emptySet (St.ledW w))).get? s.heap.objs.size = some (St.emptySet (St.ledW w)) := Heap.get?_push_size _ rfl
      have hT : Shared.TypeIs { s with heap := s.heap.push (St.emptySet (St.ledW w)) } (.ref s.heap.objs.size) "set" := ⟨_, hS, rfl⟩
      have m6 := F.called_set.init.lookup
      have m7 := F.called_set.init.bind (.ref s.heap.objs.size)
      repeat (any_goals (first | assumption | wp_step))
      refine codeAny_mono (codeAny_call_builtin (R := wants (fun r s₂ => r = .none ∧ Q (.ref s.heap.objs.size) s₂) E) F.called_set.init.plain F.entry_set_init (check_set_init_1 hT (wpAny_mono (body _ (by simp [hh]) (by first | (show A.units + 1 + 9 < cLine; omega) | (show A.units + 1 + 1 + 9 < cLine; omega) | (show A.units + 1 + 1 + 1 + 9 < cLine; omega))) (fun fin s' q => ?_) fun _ _ q => q))) fun r₂ s₂ hr₂ => ?_
      · obtain ⟨rfl, q⟩ := q
        exact ⟨rfl, q⟩
      · cases r₂ with
        | error e => exact hr₂
        | ok fl₂ =>
          cases fl₂ with
          | ret r =>
            obtain ⟨rfl, q⟩ := hr₂
            repeat (any_goals (first | assumption | wp_step))
          | _ => exact hr₂.elim
    | _ => exact hr.elim
end
end Sb

namespace Sb
open PySem PySem.Spec PyProof.Rows L2
section
variable {prog : Program} {w : World} {A : Around} {E : Value → Shared → Prop} {s : Shared}
inductive How (w : World) (S T : Addr) (h : Heap) (es : Array (Int × Value)) (ep : Nat) (t : SetTable) (vs : List Value) : Nat → Value → Prop where
  | tup {i : Nat} {ps : List Nat} (hT : h.get? T = some { cls := .type "tuple", data := .seq (ps.map fun (p : Nat) => rawInt p).toArray 0 }) (hl : ps.length = vs.length) (hp : ∀ (j p : Nat), ps[j]? = some p → ∃ e, es[p]? = some e ∧ vs[j]? = some e.2) : How w S T h es ep t vs i (.ref T)
  | text {i : Nat} (c : Nat) (hb : w.params.followText "set-order" = true) (hv : vs = (pickOrder (w.params.setOrder S ep) es).toList.map (·.2)) : How w S T h es ep t vs i (.int c 0)
  | slots {i : Nat} (c : Nat) (hb : w.params.followText "set-order" = false) (hled : t.led = true) (hs : t.plain = true ∨ es.size ≤ 1) (hv : vs = es.toList.map (·.2)) (hc : SetTable.below t.place c = i) : How w S T h es ep t vs i (.int c 0)
noncomputable def ItT (w : World) (I S T : Addr) (vs : List Value) (i : Nat) (h : Heap) : Prop :=
  ∃ f o es ep t, h.get? I = some (St.itObj f i S vs.length ep) ∧ h.get? S = some o ∧ o.data = .set es ep t ∧ Tab t es ∧ es.size ≤ t.mask ∧ es.size = vs.length ∧ How w S T h es ep t vs i f
theorem How.keep {S T : Addr} {h h' : Heap} {es : Array (Int × Value)} {ep : Nat} {t : SetTable} {vs : List Value} {i : Nat} {f : Value} (x : How w S T h es ep t vs i f) (k : ∀ o, h.get? T = some o → h'.get? T = some o) : How w S T h' es ep t vs i f := by
  cases x with
  | tup hT hl hp => exact .tup (k _ hT) hl hp
  | text c hb hv => exact .text c hb hv
  | slots c hb hled hs hv hc => exact .slots c hb hled hs hv hc
theorem Jn {S : Addr} {o : Obj} {es : Array (Int × Value)} {ep c i : Nat} {t : SetTable} {Q : Option (Value × Nat) → Shared → Prop} (e2 : s.heap.get? S = some o) (e3 : o.data = .set es ep t) (ft : t.fits es.size = true) (hb : w.params.followText "set-order" = false) (hled : t.led = true) (hs : t.plain = true ∨ es.size ≤ 1)
    (h : Q (match es[SetTable.below t.place c]?, t.place[SetTable.below t.place c]? with | some (_, x), some j => some (x, j + 1) | _, _ => none) s) : wpAny (model prog w) A (setNext S c i ep) Q E s := by
  unfold setNext
  refine wpAny_bind (wpAny_setState_of e2 e3 ft ?_)
  dsimp only
  unfold setsByText
  refine wpAny_bind (wpAny_bind (wpAny_askSetting (wpAny_pure ?_)))
  show wpAny _ _ (if (w.params.followText "set-order") = true then _ else _) _ _ _
  rw [if_neg (by rw [hb]; simp)]
  show wpAny _ _ (if (!t.plain && decide (es.size > 1)) = true then _ else _) _ _ _
  rw [if_neg (by
    rcases hs with z | z
    · rw [z]; simp
    · have : ¬ es.size > 1 := by omega
      simp [this])]
  show wpAny _ _ ((if (!t.led && !es.isEmpty) = true then unsupported "set:maker-not-led" else pure ()) >>= _) _ _ _
  rw [if_neg (by rw [hled]; simp)]
  exact wpAny_bind (wpAny_pure (wpAny_pure h))
theorem Xg {I S T : Addr} {vs : List Value} {i : Nat} {Q : Option Value → Shared → Prop} (hIS : S ≠ I) (hIT : T ≠ I) (st : ItT w I S T vs i s.heap) (hi : i < vs.length)
    (hQ : ∀ v h', vs[i]? = some v → ItT w I S T vs (i + 1) h' → Heap.SameBut I s.heap h' → Q (some v) { s with heap := h' }) : wpAny (model prog w) A (pyNext (.ref I)) Q E s := by
  obtain ⟨f, o, es, ep, t, e1, e2, e3, T0, hm, hsz, hw⟩ := st
  have ft := T0.fits hm
  have hT : s.TypeIs (.ref I) "set_iterator" := ⟨_, e1, rfl⟩
  unfold pyNext
  refine wpAny_bind (wpAny_attempt (wpAny_callSpecial?_slot (name := Str.ofString "__next__") hT St.slotN (wpAny_call_entry St.slotN hT St.entryN ?_ (St.argsN _))))
  unfold Builtin.«set_iterator.__next__»
  refine wpAny_bind (wpAny_pure (wpAny_bind (wpAny_fieldsOf e1 rfl ?_)))
  dsimp only
  refine wpAny_bind (wpAny_setEntries_of e2 e3 ft ?_)
  rw [if_neg (by simp [hsz])]
  have two : ∀ (x y : Value), Heap.SameBut I s.heap ((s.heap.update I (Obj.mapFields (·.setIfInBounds 0 x))).update I (Obj.mapFields (·.setIfInBounds 1 y))) := fun x y => (Heap.SameBut.update ..).trans (Heap.SameBut.update ..)
  have on : ∀ (x : Value) (nx : Nat), vs[i]? = some x → How w S T s.heap es ep t vs (i + 1) (.int nx 0) → wpAny (model prog w) A.in1 (do
      setField (Value.ref I) 0 (rawInt (nx : Int))
      setField (Value.ref I) 1 (rawInt ((i : Int) + 1))
      ret x) (fun fin s' => ∃ v, fin = Fin.done (Flow.ret v) ∧ wpAny (model prog w) A (pure (some v)) Q E s') (fun e s' => wpAny (model prog w) A (do if (← isInstance e (Value.type "StopIteration")) = true then pure none else throw e) Q E s') s := by
    intro x nx hx hw'
    refine wpAny_bind (wpAny_setField e1 rfl (by simp) (wpAny_bind (wpAny_setField (St.put_it e1 0 _) rfl (by simp) (wpAny_pure ⟨x, rfl, wpAny_pure (hQ x _ hx ?_ (two _ _))⟩))))
    refine ⟨.int nx 0, o, es, ep, t, St.upd2 e1, ?_, e3, T0, hm, hsz, hw'.keep fun o' e => ?_⟩
    · rw [(two _ _).2 S hIS]; exact e2
    · rw [(two _ _).2 T hIT]; exact e
  cases hw with
  | @tup ps hTT hl hp =>
    simp only [Int.toNat_natCast]
    refine wpAny_bind (wpAny_seqItems hTT rfl ?_)
    dsimp only
    have hpi : ps[i]? = some ps[i] := List.getElem?_eq_getElem (by omega)
    generalize ps[i] = q at hpi
    obtain ⟨e, he, hv⟩ := hp i q hpi
    have : ((ps.map fun (p : Nat) => rawInt p).toArray)[i]? = some (Value.int (q : Int) 0) := by simp [hpi, St.raw_int]
    rw [this]
    dsimp only
    refine wpAny_bind (St.setNext_drawn e2 e3 ft (p := q) he (wpAny_bind (wpAny_setField e1 rfl (by simp) (wpAny_pure ⟨e.2, rfl, wpAny_pure (hQ e.2 _ hv ?_ (Heap.SameBut.update ..))⟩))))
    have sb : Heap.SameBut I s.heap (s.heap.update I (Obj.mapFields (·.setIfInBounds 1 (rawInt ((i : Int) + 1))))) := Heap.SameBut.update ..
    refine ⟨.ref T, o, es, ep, t, ?_, by rw [sb.2 S hIS]; exact e2, e3, T0, hm, hsz, How.keep (.tup hTT hl hp) fun o' e => by rw [sb.2 T hIT]; exact e⟩
    have g := St.put_it e1 1 (rawInt ((i : Int) + 1))
    rw [St.fld1] at g
    exact g
  | text c hb hv =>
    simp only [Int.toNat_natCast]
    refine wpAny_bind (St.setNext_text e2 e3 ft (i := i) (c := c) hb ?_)
    subst hv
    have hlt : i < (pickOrder (w.params.setOrder S ep) es).size := by simpa using hi
    rw [Array.getElem?_eq_getElem hlt]
    exact on _ c (by rw [List.getElem?_map, Array.getElem?_toList, Array.getElem?_eq_getElem hlt]; rfl) (.text c hb rfl)
  | slots c hb hled hs hv hc =>
    simp only [Int.toNat_natCast]
    refine wpAny_bind (Jn e2 e3 ft (i := i) (c := c) hb hled hs ?_)
    subst hv
    have hlt : i < es.size := by simpa using hi
    have hlp : i < t.place.size := by rw [T0.len]; exact hlt
    rw [hc, Array.getElem?_eq_getElem hlt, J1 hlp]
    exact on es[i].2 (At t.place i + 1) (by rw [List.getElem?_map, Array.getElem?_toList, Array.getElem?_eq_getElem hlt]; rfl) (.slots _ hb hled hs rfl (Yf T0.up hlp))
theorem Kn {I S T : Addr} {vs : List Value} {Q : Option Value → Shared → Prop} (hh : A.handled = none) (hIS : S ≠ I) (hIT : T ≠ I) (st : ItT w I S T vs vs.length s.heap)
    (hQ : ∀ h', Heap.ExtBut I s.heap h' → Q none { s with heap := h' }) : wpAny (model prog w) A (pyNext (.ref I)) Q E s := by
  obtain ⟨f, o, es, ep, t, e1, e2, e3, T0, hm, hsz, hw⟩ := st
  have ft := T0.fits hm
  have hT : s.TypeIs (.ref I) "set_iterator" := ⟨_, e1, rfl⟩
  unfold pyNext
  refine wpAny_bind (wpAny_attempt (wpAny_callSpecial?_slot (name := Str.ofString "__next__") hT St.slotN (wpAny_call_entry St.slotN hT St.entryN ?_ (St.argsN _))))
  unfold Builtin.«set_iterator.__next__»
  refine wpAny_bind (wpAny_pure (wpAny_bind (wpAny_fieldsOf e1 rfl ?_)))
  dsimp only
  refine wpAny_bind (wpAny_setEntries_of e2 e3 ft ?_)
  rw [if_neg (by simp [hsz])]
  have hA : A.in1.handled = none := hh
  have one : wpAny (model prog w) A.in1 (do
      setField (Value.ref I) 2 Value.none
      raiseNew (← newExc (Value.type "StopIteration") [])) (fun (fin : Fin) s' => ∃ v, fin = Fin.done (Flow.ret v) ∧ wpAny (model prog w) A (pure (some v)) Q E s') (fun e s' => wpAny (model prog w) A (do if (← isInstance e (Value.type "StopIteration")) = true then pure none else throw e) Q E s') s := by
    refine wpAny_bind (wpAny_setField e1 rfl (by simp) (St.stop_end hA fun h' k => hQ h' fun b o' hb e => k b o' ?_))
    rw [(Heap.SameBut.update ..).2 b hb]; exact e
  cases hw with
  | @tup ps hTT hl hp =>
    simp only [Int.toNat_natCast]
    refine wpAny_bind (wpAny_seqItems hTT rfl ?_)
    dsimp only
    rw [show ((ps.map fun (p : Nat) => rawInt p).toArray)[vs.length]? = none by simp [hl]]
    refine wpAny_bind (wpAny_setField e1 rfl (by simp) (wpAny_bind (wpAny_setField (St.put_it e1 0 _) rfl (by simp) (St.stop_end hA fun h' k => hQ h' fun b o' hb e => k b o' ?_))))
    rw [((Heap.SameBut.update s.heap I _).trans (Heap.SameBut.update ..)).2 b hb]; exact e
  | text c hb hv =>
    simp only [Int.toNat_natCast]
    refine wpAny_bind (St.setNext_text e2 e3 ft (i := vs.length) (c := c) hb ?_)
    rw [show (pickOrder (w.params.setOrder S ep) es)[vs.length]? = none by rw [hv]; simp]
    exact one
  | slots c hb hled hs hv hc =>
    simp only [Int.toNat_natCast]
    refine wpAny_bind (Jn e2 e3 ft (i := vs.length) (c := c) hb hled hs ?_)
    rw [hc, show es[vs.length]? = none from Array.getElem?_eq_none (by omega)]
    exact one
theorem Qcl {I S T : Addr} {vs : List Value} {i : Nat} {Q : Value → Shared → Prop} (st : ItT w I S T vs i s.heap) (h : Q (.ref I) s) : wpAny (model prog w) A (pyIter (.ref I)) Q E s := by
  obtain ⟨f, o, es, ep, t, e1, _⟩ := st
  have hT : s.TypeIs (.ref I) "set_iterator" := ⟨_, e1, rfl⟩
  refine wpAny_pyIter_slot hT St.slotII (wpAny_call_entry St.slotII hT St.entryII ?_ (St.argsII _))
  exact wpAny_pure ⟨_, rfl, "set_iterator", _, hT, St.slotN.lookup, h⟩
theorem Qci (hh : A.handled = none) (I S T : Addr) (hIS : S ≠ I) (hIT : T ≠ I) (vs : List Value) :
    Walks prog w A I [I, S, T] [I] vs.length (fun i v => vs[i]? = some v) (fun i h => ItT w I S T vs i h) where
  sub := fun b hb => by simp at hb; simp [hb]
  frame := fun i h h' ⟨f, o, es, ep, t, e1, e2, e3, T0, hm, hsz, hw⟩ k => ⟨f, o, es, ep, t, k I (by simp) _ e1, k S (by simp) _ e2, e3, T0, hm, hsz, hw.keep fun o e => k T (by simp) o e⟩
  item := fun i s Q E hi st hQ => Xg hIS hIT st hi fun v h' hv st' sb => hQ v h' s.toks hv st' fun b o hb e => by rw [sb.2 b (fun z => hb (by simp [z]))]; exact e
  done := fun s Q E st hQ => Kn hh hIS hIT st fun h' x => hQ h' s.toks fun b o hb e => x b o (fun z => hb (by simp [z])) e
  self := fun i s Q E st q => Qcl st q
end
end Sb

namespace Sb
open PySem PySem.Spec PyProof.Rows L2
theorem Kj {α : Type} [DecidableEq α] : ∀ (ks ks' : List α), ks.Nodup → (∀ k ∈ ks, k ∈ ks') → ks'.length = ks.length → ks'.Perm ks
  | [], ks', _, _, h => by rw [List.length_eq_zero_iff.mp h]
  | k :: r, ks', nd, c, h => by
    have hk := c k List.mem_cons_self
    rw [List.nodup_cons] at nd
    refine (List.perm_cons_erase hk).trans (List.Perm.cons k (Kj r (ks'.erase k) nd.2 (fun x hx => ?_) ?_))
    · exact (List.mem_erase_of_ne (fun z => nd.1 (by rw [← z]; exact hx))).mpr (c x (List.mem_cons_of_mem _ hx))
    · rw [List.length_erase_of_mem hk, h]; rfl
section
variable {prog : Program} {w : World} {A : Around} {E : Value → Shared → Prop} {s : Shared} {h₀ : Heap} {G : Value → Prop}
theorem XO {ks : List Tr} {es : Array (Int × Value)} {vs : List Value} (h1 : Els w h₀ es) (h6 : ks.Nodup) (h7 : es.size = ks.length) (h8 : ∀ k, k ∈ ks ↔ ∃ e ∈ es.toList, L2.IsT h₀ 8 k e.2) (h9 : ∀ e ∈ es.toList, G e.2) (p : vs.Perm (es.toList.map (·.2))) : ∃ ts, Ui h₀ vs.toArray ts ∧ ts.Perm ks ∧ ∀ v ∈ vs, G v := by
  have hv : ∀ v ∈ vs, ∃ k x, v = .ref x ∧ L2.IsT h₀ 8 k (.ref x) := fun v hv => by
    obtain ⟨e, he, rfl⟩ := List.mem_map.mp (p.mem_iff.mp hv)
    obtain ⟨k, b, e1, e2, _⟩ := h1 e he
    exact ⟨k, b, e1, e2⟩
  letI : ∀ p : Prop, Decidable p := fun p => Classical.propDecidable p
  let f : Value → Tr := fun v => if h : ∃ k x, v = .ref x ∧ L2.IsT h₀ 8 k (.ref x) then Classical.choose h else .i 0
  have hf : ∀ v ∈ vs, ∃ x, v = .ref x ∧ L2.IsT h₀ 8 (f v) (.ref x) := fun v h => by
    have := hv v h
    show ∃ x, v = .ref x ∧ L2.IsT h₀ 8 (if h : ∃ k x, v = .ref x ∧ L2.IsT h₀ 8 k (.ref x) then Classical.choose h else .i 0) (.ref x)
    rw [dif_pos this]
    exact Classical.choose_spec this
  refine ⟨vs.map f, ⟨by simp, fun i v e => ?_⟩, Kj ks _ h6 (fun k hk => ?_) ?_, fun v hv => by
    obtain ⟨e, he, rfl⟩ := List.mem_map.mp (p.mem_iff.mp hv)
    exact h9 e he⟩
  · have e' : vs[i]? = some v := by simpa using e
    obtain ⟨x, x1, x2⟩ := hf v (List.mem_of_getElem? e')
    exact ⟨f v, x, by rw [List.getElem?_map, e']; rfl, x1, x2⟩
  · obtain ⟨e, he, hke⟩ := (h8 k).mp hk
    have m : e.2 ∈ vs := p.mem_iff.mpr (List.mem_map.mpr ⟨e, he, rfl⟩)
    obtain ⟨x, x1, x2⟩ := hf _ m
    refine List.mem_map.mpr ⟨e.2, m, ?_⟩
    rw [x1] at hke
    exact Zk _ _ _ x2 hke
  · rw [List.length_map, p.length_eq, List.length_map, Array.length_toList, h7]
theorem QdQ {S : Addr} {ks : List Tr} {Q : Value → Shared → Prop} (hS : SetT w G h₀ s.heap S ks (St.ledW w))
    (h : ∀ h' d I T (vs : List Value), Ex s.heap h' → s.heap.objs.size ≤ I → (T = S ∨ s.heap.objs.size ≤ T) → S ≠ I → T ≠ I → (∃ ts, Ui h₀ vs.toArray ts ∧ ts.Perm ks ∧ ∀ v ∈ vs, G v) → vs.length = ks.length → ItT w I S T vs 0 h' → Q (.ref I) { s with heap := h', drawn := d }) :
    wpAny (model prog w) A (pyIter (.ref S)) Q E s := by
  have hT := hS.typeIs
  obtain ⟨o, es, ep, t, e2, hx, e3, T0, Z, hled, el, hnd, hn, hmem, hg⟩ := hS
  obtain ⟨zl, zm, _⟩ := Z.lt
  have hm : es.size ≤ t.mask := Nat.le_of_lt zl
  have ft := T0.fits hm
  have str : ∀ {vs : List Value}, vs.Perm (es.toList.map (·.2)) → ∃ ts, Ui h₀ vs.toArray ts ∧ ts.Perm ks ∧ ∀ v ∈ vs, G v := fun p => XO el hnd hn hmem hg p
  have hlt := Heap.lt_size e2
  refine wpAny_pyIter_slot hT F.slot_set_iter (wpAny_call_entry F.slot_set_iter hT St.entryI ?_ (F.args_set_iter_1 _))
  unfold Builtin.«frozenset.__iter__» Builtin.Frozenset.slot0
  refine wpAny_bind (wpAny_bind (wpAny_pure (wpAny_pure ?_)))
  unfold Builtin.Frozenset.sizeOf
  refine wpAny_bind (wpAny_bind (wpAny_setEntries_of e2 e3 ft (wpAny_pure ?_)))
  refine wpAny_bind (wpAny_bind (wpAny_setState_of e2 e3 ft ?_))
  dsimp only
  unfold setsByText
  refine wpAny_bind (wpAny_bind (wpAny_askSetting (wpAny_pure (wpAny_pure ?_))))
  show wpAny _ _ (if (!(w.params.followText "set-order") && (!t.plain && decide (es.size > 1))) = true then _ else _) _ _ _
  have made : ∀ (c : Int) (vs : List Value), c = 0 → vs.Perm (es.toList.map (·.2)) → How w S S (s.heap.push (St.itObj (.int (0 : Nat) 0) 0 S es.size ep)) es ep t vs 0 (.int (0 : Nat) 0) → wpAny (model prog w) A.in1 (do
      let first ← pure (rawInt c)
      ret (← newFields "set_iterator" [first, rawInt 0, Value.ref S, rawInt (es.size : Int), rawInt ((← setEpoch S) : Int)])) (fun fin s' => ∃ v, fin = Fin.done (Flow.ret v) ∧ ∃ T' r, s'.TypeIs v T' ∧ typeLookup (Value.type T') (Str.ofString "__next__") = pure (some r) ∧ Q v s') E s := by
    intro c vs hc p hw
    subst hc
    refine wpAny_bind (wpAny_pure (wpAny_bind (wpAny_setEpoch_of e2 e3 ft (wpAny_bind (wpAny_newObj_type (wpAny_pure ⟨_, rfl, "set_iterator", _, ⟨_, Heap.get?_push_size _ rfl, rfl⟩, St.slotN.lookup, ?_⟩))))))
    have hvl : es.size = vs.length := by rw [p.length_eq, List.length_map, Array.length_toList]
    refine h _ s.drawn s.heap.objs.size S vs (fun b o' e => Heap.get?_push_of_some _ e) (Nat.le_refl _) (.inl rfl) (Nat.ne_of_lt hlt) (Nat.ne_of_lt hlt) (str p) (by rw [← hvl, hn]) ?_
    exact ⟨.int (0 : Nat) 0, o, es, ep, t, by rw [← hvl]; exact Heap.get?_push_size _ rfl, Heap.get?_push_of_some _ e2, e3, T0, hm, hvl, hw⟩
  cases hbt : w.params.followText "set-order" with
  | true =>
    rw [if_neg (by simp)]
    exact made 0 ((pickOrder (w.params.setOrder S ep) es).toList.map (·.2)) rfl ((St.pick_perm _ es).map _) (.text 0 hbt rfl)
  | false =>
    have hledt : t.led = true := by rw [hled]; simp [St.ledW, hbt]
    by_cases hs : t.plain = false ∧ es.size > 1
    · rw [if_pos (by simp [hs.1, hs.2])]
      refine wpAny_bind (St.draw_perm es.size (List.range es.size) s _ (by simp) fun ps d p => ?_)
      have pl : ps.length = es.size := by rw [p.length_eq, List.length_range]
      refine wpAny_bind (wpAny_newTuple ?_ (by rw [List.length_map, pl, sizeLine_eq]; omega))
      refine wpAny_bind (wpAny_setEpoch_of (s := { s with drawn := d, heap := s.heap.push { cls := .type "tuple", data := .seq (ps.map fun (i : Nat) => rawInt i).toArray } }) (Heap.get?_push_of_some _ e2) e3 ft ?_)
      refine wpAny_bind (wpAny_newObj_type (wpAny_pure ⟨_, rfl, "set_iterator", _, ⟨_, Heap.get?_push_size _ rfl, rfl⟩, St.slotN.lookup, ?_⟩))
      obtain ⟨q1, q2⟩ := St.get_places p
      have hvl : es.size = (ps.map (St.atP es)).length := by rw [List.length_map, pl]
      have szp : (s.heap.push { cls := .type "tuple", data := .seq (ps.map fun (i : Nat) => rawInt i).toArray }).objs.size = s.heap.objs.size + 1 := Heap.size_push _ _
      refine h _ d _ s.heap.objs.size (ps.map (St.atP es)) (fun b o' e => Heap.get?_push_of_some _ (Heap.get?_push_of_some _ e)) (by show s.heap.objs.size ≤ (s.heap.push _).objs.size; rw [szp]; omega) (.inr (Nat.le_refl _)) (by show S ≠ (s.heap.push _).objs.size; rw [szp]; exact Nat.ne_of_lt (Nat.lt_succ_of_lt hlt)) (by show s.heap.objs.size ≠ (s.heap.push _).objs.size; rw [szp]; exact Nat.ne_of_lt (Nat.lt_succ_self _)) (str q1) (by rw [← hvl, hn]) ?_
      refine ⟨.ref s.heap.objs.size, o, es, ep, t, by rw [← hvl]; exact Heap.get?_push_size _ rfl, Heap.get?_push_of_some _ (Heap.get?_push_of_some _ e2), e3, T0, hm, hvl, .tup (ps := ps) (Heap.get?_push_of_some _ (Heap.get?_push_size _ rfl)) (by rw [← hvl, pl]) q2⟩
    · have hs' : t.plain = true ∨ es.size ≤ 1 := by
        cases hp : t.plain with
        | true => exact .inl rfl
        | false =>
          right
          rcases Nat.lt_or_ge 1 es.size with z | z
          · exact absurd ⟨hp, z⟩ hs
          · exact z
      rw [if_neg (by
        rcases hs' with z | z
        · rw [z]; simp
        · have : ¬ es.size > 1 := by omega
          simp [this])]
      exact made 0 (es.toList.map (·.2)) rfl .rfl (.slots 0 hbt hledt hs' rfl (Yj T0.up))
theorem Qax {R : Result → Shared → Prop} {S N : Addr} {ks : List Tr} (hh : A.handled = none) (hS : SetT w G h₀ s.heap S ks (St.ledW w)) (hNS : N ≠ S) (res : Value) (c₀ : Nat) (hN : s.heap.get? N = some (St.lsO #[] c₀)) (hz : ks.length ≤ sizeLine)
    (hR : ∀ h' d tk (vs : List Value) c', (∃ ts, Ui h₀ vs.toArray ts ∧ ts.Perm ks ∧ ∀ v ∈ vs, G v) → (∀ b o, b ≠ N → s.heap.get? b = some o → h'.get? b = some o) → h'.get? N = some (St.lsO vs.toArray c') → R (.ok (.ret res)) { s with heap := h', drawn := d, toks := tk }) :
    wpAny (model prog w) A.in1 (Builtin.List.listExtendWith (.ref N) (.ref S) res) (fun fin s' => match fin with | .done f => R (.ok f) s' | .again c' => c'.quiet = true ∧ codeAny (model prog w) A c' R s') (fun e s' => R (.error e) s') s := by
  unfold Builtin.List.listExtendWith
  refine wpAny_bind (wpAny_typeOf (T := "set") hS.typeIs ?_)
  have n1 : Builtin.List.listSameRef (.ref N) (.ref S) = false := by simp [Builtin.List.listSameRef, hNS]
  have n2 : (Value.type "set" == Value.type "list") = false := by decide
  have n3 : (Value.type "set" == Value.type "tuple") = false := by decide
  simp only [n1, n2, n3, Bool.or_false, Bool.false_eq_true, if_false]
  refine wpAny_bind (QdQ hS fun h1 d I T vs k1 hI hTT hSI hTI str hvl st => ?_)
  have hN1 := k1 _ _ hN
  have nlt : N < s.heap.objs.size := Heap.lt_size hN
  have hNI : N ≠ I := fun z => absurd hI (by rw [← z]; exact Nat.not_le.mpr nlt)
  have hNT : N ≠ T := by
    rcases hTT with z | z
    · rw [z]; exact hNS
    · exact fun e => absurd z (by rw [← e]; exact Nat.not_le.mpr nlt)
  have nf : N ∉ [I, S, T] := by
    simp only [List.mem_cons, List.not_mem_nil, or_false, not_or]
    exact ⟨hNI, hNS, hNT⟩
  have W := Qci (prog := prog) (w := w) (A := A.in1.in1) (by simp [hh]) I S T hSI hTI vs
  have key : ∀ (h2 : Heap) (c₁ : Nat), ItT w I S T vs 0 h2 → (∀ b o, b ≠ N → s.heap.get? b = some o → h2.get? b = some o) → h2.get? N = some (St.lsO #[] c₁) → codeAny (model prog w) A (.builtin "list.extend.loop" ⟨[.ref N, .ref I, res], []⟩) R { s with heap := h2, drawn := d } := by
    intro h2 c₁ st2 k2 hN2
    refine codeAny_extend_loopS (Walks.of_in1 W).toS (by rw [hvl]; exact hz) N nf res vs.length 0 _ #[] c₁ rfl (Nat.zero_le _) st2 hN2 (ItemsOf.nil _) fun s' acc c' hm hN' hacc => ?_
    rw [Moved.eq_with hm]
    have ea : acc = vs.toArray := by
      apply Array.ext_getElem?
      intro j
      by_cases hj : j < acc.size
      · have q := hacc.2 j acc[j] (Array.getElem?_eq_getElem hj)
        rw [Array.getElem?_eq_getElem hj, List.getElem?_toArray, q]
      · rw [Array.getElem?_eq_none (by omega), List.getElem?_toArray, List.getElem?_eq_none (by have := hacc.1; omega)]
    rw [ea] at hN'
    refine hR s'.heap d s'.toks vs c' str (fun b o hb e => hm.heap b o (fun hmem => ?_) (k2 b o hb e)) hN'
    rcases List.mem_cons.mp hmem with z | z
    · exact hb z
    · rw [List.mem_singleton.mp z] at e
      exact absurd (Heap.lt_size e) (Nat.not_lt.mpr hI)
  refine wpAny_bind (wpAny_holding (St.hintS (hS.at fun o e => k1 _ _ e).typeIs ?_))
  refine wpAny_ite_split (fun _ => ?_) (fun _ => wpAny_pure ⟨plainId_quiet F.plain_extend_loop _, key h1 c₀ st (fun b o _ e => k1 b o e) hN1⟩)
  refine wpAny_bind (wpAny_rule (wpAny_bind ?_))
  show wpAny _ _ (updateSeq N (·.push .none) >>= fun _ => updateSeq N (·.pop)) _ _ _
  refine wpAny_bind (wpAny_updateSeq hN1 rfl ?_)
  have hN2 := Heap.get?_update_self (Obj.mapSeq (·.push Value.none)) hN1 rfl
  refine wpAny_updateSeq (hz := by seq_fits) hN2 rfl ?_
  have hN3 := Heap.get?_update_self (Obj.mapSeq (·.pop)) hN2 rfl
  have oth : ∀ b o, b ≠ N → h1.get? b = some o → ((h1.update N (Obj.mapSeq (·.push Value.none))).update N (Obj.mapSeq (·.pop))).get? b = some o := fun b o hb e => (Heap.get?_update_other _ _ (Ne.symm hb)).trans ((Heap.get?_update_other _ _ (Ne.symm hb)).trans e)
  refine wpAny_pure ⟨plainId_quiet F.plain_extend_loop _, key _ _ (W.frame 0 _ _ st fun b hb o e => oth b o (fun z => nf (by rw [← z]; exact hb)) e) (fun b o hb e => oth b o hb (k1 b o e)) hN3⟩
theorem Gc {S : Addr} {ks : List Tr} {Q : List Value → Shared → Prop} (hh : A.handled = none) (hS : SetT w G h₀ s.heap S ks (St.ledW w)) (hz : ks.length ≤ sizeLine)
    (h : ∀ h' d tk (vs : List Value), (∃ ts, Ui h₀ vs.toArray ts ∧ ts.Perm ks ∧ ∀ v ∈ vs, G v) → Ex s.heap h' → s.heap.objs.size ≤ h'.objs.size → Q vs { s with heap := h', drawn := d, toks := tk }) : wpAny (model prog w) A (collect (.ref S)) Q E s := by
  unfold collect
  refine wpAny_bind (wpAny_runValue (codeAny_builtin entry_proto_collect' (show wpAny _ _ (do again (.builtin "list.__iadd__" ⟨[← newList [], .ref S], []⟩)) _ _ s from ?_)))
  refine wpAny_bind (wpAny_newList (wpAny_pure ⟨Code.quiet_builtin _ (by decide +kernel), codeAny_builtin (entry_list_iadd') ?_⟩))
  have hlt := hS.lt
  rw [Around.under_plainId F.plain_list_iadd _]
  have fin : ∀ (r : Result) (s' : Shared), (r = .ok (.ret (.ref s.heap.objs.size)) ∧ ∃ h' d tk, ∃ vs : List Value, ∃ c', (∃ ts, Ui h₀ vs.toArray ts ∧ ts.Perm ks ∧ ∀ v ∈ vs, G v) ∧ Ex s.heap h' ∧ h'.get? s.heap.objs.size = some (St.lsO vs.toArray c') ∧ s' = { s with heap := h', drawn := d, toks := tk }) → (match r with
      | .ok (.ret v) => wpAny (model prog w) A (match v with
        | .ref a => do
          match (← load a).data with
          | .seq xs _ => pure xs.toList
          | _ => unsupported "internal:collect"
        | _ => unsupported "internal:collect") Q E s'
      | .ok _ => False
      | .error e => E e s') := by
    rintro r s' ⟨rfl, h', d, tk, vs, c', str, k, hN, rfl⟩
    refine wpAny_bind (wpAny_load hN ?_)
    show wpAny _ _ (pure vs.toArray.toList) Q E _
    rw [List.toList_toArray]
    exact wpAny_pure (h h' d tk vs str k (Nat.le_of_lt (Heap.lt_size hN)))
  refine wpAny_mono (Qax (A := A) (s := { s with heap := s.heap.push (St.lsO #[] 0) }) (R := fun r s' => r = .ok (.ret (.ref s.heap.objs.size)) ∧ ∃ h' d tk, ∃ vs : List Value, ∃ c', (∃ ts, Ui h₀ vs.toArray ts ∧ ts.Perm ks ∧ ∀ v ∈ vs, G v) ∧ Ex s.heap h' ∧ h'.get? s.heap.objs.size = some (St.lsO vs.toArray c') ∧ s' = { s with heap := h', drawn := d, toks := tk }) hh (hS.at fun o e => Heap.get?_push_of_some _ e) (Nat.ne_of_gt hlt) (.ref s.heap.objs.size) 0 (Heap.get?_push_size _ rfl) hz fun h' d tk vs c' str k hN => ⟨rfl, h', d, tk, vs, c', str, fun b o e => k b o (Nat.ne_of_lt (Heap.lt_size e)) (Heap.get?_push_of_some _ e), hN, rfl⟩) ?_ ?_
  · intro f s' q
    cases f with
    | done f => exact fin _ _ q
    | again c' => exact ⟨q.1, codeAny_mono q.2 fun r s₁ hr => fin r s₁ hr⟩
  · intro e s' q
    exact fin _ _ q
end
end Sb

namespace Sb
open PySem PySem.Spec PyProof.Rows L2
inductive Sh where
  | i
  | s
  | t (l : List Sh)
noncomputable def Wf : Nat → Sh → Tr → Prop
  | 0, _, _ => False
  | _ + 1, .i, k => ∃ n, k = .i n
  | _ + 1, .s, k => ∃ x, k = .s x
  | n + 1, .t l, k => ∃ ks, k = .t ks ∧ Paired (Wf n) l ks
noncomputable def lex (lt : Tr → Tr → Bool) : List Tr → List Tr → Bool
  | k :: ks, l :: ls => if k = l then lex lt ks ls else lt k l
  | _, _ => false
noncomputable def ltN : Nat → Tr → Tr → Bool
  | 0, _, _ => false
  | _ + 1, .i a, .i b => decide (a < b)
  | _ + 1, .s a, .s b => decide (a.cps.toList < b.cps.toList)
  | n + 1, .t ks, .t ls => lex (ltN n) ks ls
  | _ + 1, _, _ => false
theorem QbU {a b : Str} (h : a.cps.toList = b.cps.toList) : a = b := by
  obtain ⟨a⟩ := a
  obtain ⟨b⟩ := b
  congr 1
  exact Array.toList_inj.mp h
theorem W4 {n : Nat} (ih : ∀ sh a b, Wf n sh a → Wf n sh b → a ≠ b → ltN n a b = true ∨ ltN n b a = true) : ∀ {l : List Sh} {ks ls : List Tr}, Paired (Wf n) l ks → Paired (Wf n) l ls → ks ≠ ls → lex (ltN n) ks ls = true ∨ lex (ltN n) ls ks = true
  | _, _, _, .nil, .nil, h => absurd rfl h
  | _, k :: ks, m :: ms, .cons p1 p2, .cons q1 q2, h => by
    by_cases c : k = m
    · subst c
      simp only [lex, if_true]
      exact W4 ih p2 q2 fun z => h (by rw [z])
    · have c' : ¬ m = k := fun z => c z.symm
      simp only [lex, c, c', if_false]
      exact ih _ k m p1 q1 c
theorem XV : ∀ (n : Nat) (sh : Sh) (a b : Tr), Wf n sh a → Wf n sh b → a ≠ b → ltN n a b = true ∨ ltN n b a = true
  | 0, _, _, _, h, _, _ => h.elim
  | n + 1, .i, _, _, ⟨x, rfl⟩, ⟨y, rfl⟩, h => by
    have : x ≠ y := fun z => h (by rw [z])
    simp only [ltN, decide_eq_true_eq]
    omega
  | n + 1, .s, _, _, ⟨x, rfl⟩, ⟨y, rfl⟩, h => by
    simp only [ltN, decide_eq_true_eq]
    by_cases c : x.cps.toList < y.cps.toList
    · exact .inl c
    · right
      refine Classical.byContradiction fun c' => h ?_
      rw [QbU (List.le_antisymm (List.not_lt.mp c') (List.not_lt.mp c))]
  | n + 1, .t l, _, _, ⟨ks, rfl, p⟩, ⟨ls, rfl, q⟩, h => by
    simp only [ltN]
    exact W4 (XV n) p q fun z => h (by rw [z])
theorem WU : ∀ (n : Nat) (a : Tr), ltN n a a = false
  | 0, _ => rfl
  | n + 1, .i x => by simp [ltN]
  | n + 1, .s x => by simp only [ltN, decide_eq_false_iff_not]; exact List.lt_irrefl _
  | n + 1, .t ks => by
    simp only [ltN]
    induction ks with
    | nil => rfl
    | cons k ks ih => simp only [lex, if_true]; exact ih
theorem Xn {n : Nat} (ih : ∀ sh a b c, Wf n sh a → Wf n sh b → Wf n sh c → ltN n a b = true → ltN n b c = true → ltN n a c = true) : ∀ {l : List Sh} {ks ls ms : List Tr}, Paired (Wf n) l ks → Paired (Wf n) l ls → Paired (Wf n) l ms → lex (ltN n) ks ls = true → lex (ltN n) ls ms = true → lex (ltN n) ks ms = true
  | _, _, _, _, .nil, .nil, .nil, h, _ => h
  | _, k :: ks, m :: ls, o :: ms, .cons p1 p2, .cons q1 q2, .cons r1 r2, h1, h2 => by
    simp only [lex] at h1 h2 ⊢
    by_cases c1 : k = m
    · subst c1
      rw [if_pos rfl] at h1
      by_cases c2 : k = o
      · subst c2
        rw [if_pos rfl] at h2 ⊢
        exact Xn ih p2 q2 r2 h1 h2
      · rw [if_neg c2] at h2 ⊢
        exact h2
    · rw [if_neg c1] at h1
      by_cases c2 : m = o
      · subst c2
        rw [if_neg c1]
        exact h1
      · rw [if_neg c2] at h2
        have := ih _ k m o p1 q1 r1 h1 h2
        by_cases c3 : k = o
        · subst c3
          rw [WU] at this
          cases this
        · rw [if_neg c3]
          exact this
theorem J5 : ∀ (n : Nat) (sh : Sh) (a b c : Tr), Wf n sh a → Wf n sh b → Wf n sh c → ltN n a b = true → ltN n b c = true → ltN n a c = true
  | 0, _, _, _, _, h, _, _, _, _ => h.elim
  | n + 1, .i, _, _, _, ⟨x, rfl⟩, ⟨y, rfl⟩, ⟨z, rfl⟩, h1, h2 => by
    simp only [ltN, decide_eq_true_eq] at *
    omega
  | n + 1, .s, _, _, _, ⟨x, rfl⟩, ⟨y, rfl⟩, ⟨z, rfl⟩, h1, h2 => by
    simp only [ltN, decide_eq_true_eq] at *
    exact List.lt_trans h1 h2
  | n + 1, .t l, _, _, _, ⟨ks, rfl, p⟩, ⟨ls, rfl, q⟩, ⟨ms, rfl, r⟩, h1, h2 => by
    simp only [ltN] at *
    exact Xn (J5 n) p q r h1 h2
theorem ZN {sh : Sh} : ∀ (a b : List Tr), (∀ t ∈ a, Wf 8 sh t) → a.Perm b → (a.Pairwise fun x y => ltN 8 y x = false) → (b.Pairwise fun x y => ltN 8 y x = false) → a = b
  | [], b, _, p, _, _ => (List.nil_perm.mp p).symm
  | x :: r, [], _, p, _, _ => by cases List.perm_nil.mp p
  | x :: r, y :: t, w, p, ha, hb => by
    rw [List.pairwise_cons] at ha hb
    have hx : x = y := by
      have h1 : y ∈ x :: r := p.mem_iff.mpr List.mem_cons_self
      have h2 : x ∈ y :: t := p.mem_iff.mp List.mem_cons_self
      rcases List.mem_cons.mp h1 with z | z
      · exact z.symm
      · rcases List.mem_cons.mp h2 with q | q
        · exact q
        · refine Classical.byContradiction fun ne => ?_
          rcases XV 8 sh x y (w x List.mem_cons_self) (w y h1) ne with u | u
          · rw [hb.1 x q] at u; cases u
          · rw [ha.1 y z] at u; cases u
    subst hx
    rw [ZN r t (fun t ht => w t (List.mem_cons_of_mem _ ht)) (List.Perm.cons_inv p) ha.2 hb.2]
open Classical in
noncomputable def srtT (ks : List Tr) : List Tr := if h : ∃ ss : List Tr, ss.Perm ks ∧ ss.Pairwise fun x y => ltN 8 y x = false then h.choose else []
theorem Wx {sh : Sh} {ss ks : List Tr} (w : ∀ t ∈ ks, Wf 8 sh t) (p : ss.Perm ks) (h : ss.Pairwise fun x y => ltN 8 y x = false) : srtT ks = ss := by
  have hx : ∃ ss : List Tr, ss.Perm ks ∧ ss.Pairwise fun x y => ltN 8 y x = false := ⟨ss, p, h⟩
  unfold srtT
  rw [dif_pos hx]
  exact ZN (sh := sh) _ _ (fun t ht => w t (hx.choose_spec.1.mem_iff.mp ht)) (hx.choose_spec.1.trans p.symm) hx.choose_spec.2 h
noncomputable def rk (ts : List Tr) (t : Tr) : Nat := ts.countP fun u => ltN 8 u t
theorem K4 {α : Type} {p q : α → Bool} : ∀ {l : List α}, (∀ x ∈ l, p x = true → q x = true) → (∃ x ∈ l, q x = true ∧ p x = false) → l.countP p < l.countP q
  | [], _, ⟨_, h, _⟩ => nomatch h
  | a :: l, h1, ⟨x, hx, h2, h3⟩ => by
    have le : l.countP p ≤ l.countP q := List.countP_mono_left fun y hy => h1 y (List.mem_cons_of_mem _ hy)
    rw [List.countP_cons, List.countP_cons]
    rcases List.mem_cons.mp hx with rfl | hx
    · rw [if_neg (by rw [h3]; simp), if_pos h2]; omega
    · have ih := K4 (l := l) (fun y hy => h1 y (List.mem_cons_of_mem _ hy)) ⟨x, hx, h2, h3⟩
      have := h1 a List.mem_cons_self
      by_cases c : p a = true
      · rw [if_pos c, if_pos (this c)]; omega
      · rw [if_neg c]
        split <;> omega
theorem Qee {sh : Sh} {ts : List Tr} (w : ∀ t ∈ ts, Wf 8 sh t) {a b : Tr} (ha : a ∈ ts) (hb : b ∈ ts) : (rk ts a < rk ts b) ↔ ltN 8 a b = true := by
  constructor
  · intro h
    cases c : ltN 8 a b with
    | true => rfl
    | false =>
      exfalso
      have : rk ts b ≤ rk ts a := by
        unfold rk
        refine List.countP_mono_left fun u hu z => ?_
        by_cases e : a = b
        · rw [e]; exact z
        · rcases XV 8 sh a b (w a ha) (w b hb) e with y | y
          · rw [c] at y; cases y
          · exact J5 8 sh u b a (w u hu) (w b hb) (w a ha) z y
      omega
  · intro h
    unfold rk
    exact K4 (fun u hu z => J5 8 sh u a b (w u hu) (w a ha) (w b hb) z h) ⟨a, ha, h, WU 8 a⟩
end Sb

namespace Sb
open PySem PySem.Spec PyProof.Rows L2 PySem.W SeqAt
noncomputable def LtAt (A : Around) (s : Shared) (p q : Value) (b : Bool) : Prop := ∀ (prog : Program) (w : World) (E : Value → Shared → Prop) (Q : Value → Shared → Prop), Q (.bool b) s → wpAny (model prog w) A (richCompare .Lt p q) Q E s
inductive LexAt (A : Around) (s : Shared) (fin : Bool) : List (Value × Value) → Bool → Prop where
  | nil : LexAt A s fin [] fin
  | same {p q : Value} {r : List (Value × Value)} {b : Bool} : EqAt A s p q true → LexAt A s fin r b → LexAt A s fin ((p, q) :: r) b
  | diff {p q : Value} {r : List (Value × Value)} {b : Bool} : EqAt A s p q false → LtAt A s p q b → LexAt A s fin ((p, q) :: r) b
theorem Yt (l b : Addr) (items items2 : Array Value) (n n2 : Nat) (dd dd2 : Option Addr) (sl sl2 : Array (Option Value)) (c : Bool) :
    Meets (Builtin.«tuple.__lt__» ⟨[.ref l, .ref b], []⟩)
      (fun A R s => s.heap.get? l = some { cls := .type "tuple", dict := dd, data := .seq items n, slots := sl } ∧ s.heap.get? b = some { cls := .type "tuple", dict := dd2, data := .seq items2 n2, slots := sl2 } ∧
        LexAt A.in1 s (decide (items.size < items2.size)) (items.toList.zip items2.toList) c ∧ R (.ok (.ret (.bool c))) s) :=
  .of_wp fun prog w A R s h => by
    obtain ⟨hp, g, d, tk, os⟩ := s; obtain ⟨hl, hb, he, h⟩ := h
    have f2 := AutoSeq1.sub_tuple_tuple
    wp_walk using wpAny_loadPart' hl, wpAny_loadPart' hb, wpAny_forIn_list _ (fun rest b s' => b.1 = none ∧ s' = ⟨hp, g, d, tk, os⟩ ∧ LexAt A.in1 ⟨hp, g, d, tk, os⟩ (decide (items.size < items2.size)) rest c) _
    case turn =>
      rintro ⟨y, x⟩ rest b s' ⟨hb', hs', hz⟩
      subst hs'
      cases hz with
      | same h1 h2 =>
        refine wpAny_bind (h1 prog w _ _ ?_)
        wp_walk
        exact ⟨rfl, rfl, h2⟩
      | diff h1 h2 =>
        refine wpAny_bind (h1 prog w _ _ ?_)
        simp only [Bool.not_false, if_true]
        refine wpAny_bind (wpAny_rule (wpAny_bind (h2 prog w _ _ ?_)))
        wp_walk
        exact ⟨_, rfl, h⟩
    case fin =>
      rintro ⟨b1, b2⟩ s' ⟨hb', rfl, hz⟩
      simp only at hb'
      subst hb'
      cases hz
      wp_walk
      exact ⟨_, rfl, by simpa [Builtin.Tuple.tupleCompareSizes] using h⟩
    case h =>
      exact ⟨rfl, rfl, he⟩
section
variable {A : Around} {s : Shared}
theorem LtAt.tuples {l b : Addr} {items items2 : Array Value} {c : Bool} (hl : s.heap.IsTuple l items) (hb : s.heap.IsTuple b items2) (hu : A.units < cLine)
    (he : LexAt A.in1 s (decide (items.size < items2.size)) (items.toList.zip items2.toList) c) : LtAt A s (.ref l) (.ref b) c := fun prog w E Q h => by
  obtain ⟨⟨cls, dd, data, sl⟩, ho, hc, n, hd⟩ := id hl
  obtain ⟨⟨cls2, dd2, data2, sl2⟩, ho2, hc2, n2, hd2⟩ := id hb
  simp only at hc hd hc2 hd2
  subst hc hd hc2 hd2
  exact richCompare_meets_room (op := .Lt) ⟨_, ho, rfl⟩ ⟨_, ho2, rfl⟩ F.slot_tuple_lt F.entry_tuple_lt (F.args_tuple_lt_2 _ _) (Yt l b items items2 n n2 dd dd2 sl sl2 c)
    ⟨ho, ho2, he, show Value.bool c ≠ Value.notImplemented ∧ Q (.bool c) s from ⟨(fun x => nomatch x), h⟩⟩ hu
noncomputable def IsQ (h : Heap) : Nat → Tr → Value → Prop
  | 0, _, _ => False
  | _ + 1, .i k, v => ∃ t, v = .int k t
  | _ + 1, .s x, v => ∃ t, v = .str x t
  | n + 1, .t ks, v => ∃ a its, v = .ref a ∧ h.IsTuple a its ∧ Paired (IsQ h n) ks its.toList
theorem Ve {h : Heap} : ∀ {n : Nat} (k : Tr) (v : Value), IsQ h n k v → L2.IsT h n k v
  | 0, _, _, x => x.elim
  | n + 1, .i k, v, x => .inl x
  | n + 1, .s y, v, x => x
  | n + 1, .t ks, v, ⟨a, its, e, p, q⟩ => ⟨a, its, e, p, Zn (fun k v => Ve k v) q⟩
theorem Zy {h h' : Heap} (e : Ex h h') : ∀ {n : Nat} (k : Tr) (v : Value), IsQ h n k v → IsQ h' n k v
  | 0, _, _, x => x.elim
  | n + 1, .i k, v, x => x
  | n + 1, .s k, v, x => x
  | n + 1, .t ks, v, ⟨a, its, q, p, r⟩ => ⟨a, its, q, KA e p, Zn (fun k v => Zy e k v) r⟩
theorem GQ {n : Nat} (A : Around) (hu : A.units + n < cLine) (ih : ∀ sh x y u v, Wf n sh x → Wf n sh y → IsQ s.heap n x u → IsQ s.heap n y v → LtAt A s u v (ltN n x y)) :
    ∀ {l : List Sh} {ks ls : List Tr} {us vs : List Value}, Paired (Wf n) l ks → Paired (Wf n) l ls → Paired (IsQ s.heap n) ks us → Paired (IsQ s.heap n) ls vs → LexAt A s false (us.zip vs) (lex (ltN n) ks ls)
  | _, _, _, _, _, .nil, .nil, .nil, .nil => .nil
  | _, k :: ks, m :: ms, u :: us, v :: vs, .cons p1 p2, .cons q1 q2, .cons r1 r2, .cons s1 s2 => by
    have e := Qbv n A hu k m u v (Ve _ _ r1) (Ve _ _ s1)
    rw [List.zip_cons_cons]
    unfold lex
    by_cases c : k = m
    · rw [if_pos c]
      rw [decide_eq_true c] at e
      exact .same e (GQ A hu ih p2 q2 r2 s2)
    · rw [if_neg c]
      rw [decide_eq_false c] at e
      exact .diff e (ih _ k m u v p1 q1 r1 s1)
theorem GG {h : Heap} {n : Nat} {l : List Sh} {ks ls : List Tr} {us vs : Array Value} (p : Paired (Wf n) l ks) (q : Paired (Wf n) l ls) (r : Paired (IsQ h n) ks us.toList) (t : Paired (IsQ h n) ls vs.toList) : us.size = vs.size := by
  have h1 := Paired.length p
  have h2 := Paired.length q
  have h3 := Paired.length r
  have h4 := Paired.length t
  have h5 : us.toList.length = us.size := Array.length_toList ..
  have h6 : vs.toList.length = vs.size := Array.length_toList ..
  omega
theorem QdR : ∀ (n : Nat) (A : Around), A.units + n < cLine → ∀ sh x y u v, Wf n sh x → Wf n sh y → IsQ s.heap n x u → IsQ s.heap n y v → LtAt A s u v (ltN n x y)
  | 0, _, _, _, _, _, _, _, h, _, _, _ => h.elim
  | n + 1, A, hu, .i, _, _, _, _, ⟨x, rfl⟩, ⟨y, rfl⟩, ⟨t, rfl⟩, ⟨t', rfl⟩ => fun prog w E Q h => by
    show wpAny _ _ (compareOp .Lt _ _) _ _ _
    refine PyProof.Rows.lt_int ?_
    simpa only [ltN] using h
  | n + 1, A, hu, .s, _, _, _, _, ⟨x, rfl⟩, ⟨y, rfl⟩, ⟨t, rfl⟩, ⟨t', rfl⟩ => fun prog w E Q h => by
    show wpAny _ _ (compareOp .Lt _ _) _ _ _
    refine PyProof.Rows.lt_str ?_
    simpa only [ltN] using h
  | n + 1, A, hu, .t l, _, _, _, _, ⟨ks, rfl, p⟩, ⟨ls, rfl, q⟩, ⟨a, its, rfl, h1, r1⟩, ⟨b, its', rfl, h2, r2⟩ => by
    refine LtAt.tuples h1 h2 (by omega) ?_
    rw [GG p q r1 r2]
    simp only [Nat.lt_irrefl, decide_false, ltN]
    exact GQ A.in1 (by show A.units + 1 + n < cLine; omega) (QdR n A.in1 (by show A.units + 1 + n < cLine; omega)) p q r1 r2
end
end Sb

namespace Ts
open PySem PySem.Spec PyProof.Rows PySem.W
set_option autoImplicit false
noncomputable def Q0 : Bool → Keyed → Array Keyed → Nat → Nat → Nat → StateT SortSt Sem (Option Nat) := sortPriv% PySem.Builtin.gallop
section
variable {prog : Program} {w : World} {A : Around} {E : Value → Shared → Prop} {s : Shared}
noncomputable def T (prog : Program) (w : World) (A : Around) (E : Value → Shared → Prop) (s : Shared) {α : Type} (m : StateT SortSt Sem α) (P : α → SortSt → Prop) (st : SortSt) : Prop :=
  ∀ tk, kasC (model prog w) A E m (fun a st' s' => (∃ t, s' = { s with toks := t }) ∧ P a st') st { s with toks := tk }
theorem Qe {α : Type} {a : α} {P : α → SortSt → Prop} {st : SortSt} (h : P a st) : T prog w A E s (pure a) P st := fun tk => kasC_pure ⟨⟨tk, rfl⟩, h⟩
theorem Qc {α β : Type} {m : StateT SortSt Sem α} {g : α → StateT SortSt Sem β} {P : β → SortSt → Prop} {st : SortSt}
    (h : T prog w A E s m (fun a st' => T prog w A E s (g a) P st') st) : T prog w A E s (m >>= g) P st := fun tk => by
  refine kasC_bind (wpAny_mono (h tk) (fun r s' h' => ?_) fun _ _ e => e)
  obtain ⟨⟨t, rfl⟩, h2⟩ := h'
  exact h2 t
theorem Qz {α : Type} {m : StateT SortSt Sem α} {P P' : α → SortSt → Prop} {st : SortSt} (h : T prog w A E s m P st) (hp : ∀ a st', P a st' → P' a st') : T prog w A E s m P' st :=
  fun tk => wpAny_mono (h tk) (fun _ _ h' => ⟨h'.1, hp _ _ h'.2⟩) fun _ _ e => e
theorem Vh {P : SortSt → SortSt → Prop} {st : SortSt} (h : P st st) : T prog w A E s get P st := fun tk => kasC_get ⟨⟨tk, rfl⟩, h⟩
theorem QT {g : SortSt → SortSt} {P : PUnit → SortSt → Prop} {st : SortSt} (h : P ⟨⟩ (g st)) : T prog w A E s (modify g) P st := fun tk => kasC_modify ⟨⟨tk, rfl⟩, h⟩
theorem QdK {st' : SortSt} {P : PUnit → SortSt → Prop} {st : SortSt} (h : P ⟨⟩ st') : T prog w A E s (set st') P st := fun tk => by
  unfold kasC; rw [StateT.run_set]; exact wpAny_pure ⟨⟨tk, rfl⟩, h⟩
theorem Vm {x : String} {P : Unit → SortSt → Prop} {st : SortSt} (h : P () st) : T prog w A E s (liftM (rule x) : StateT SortSt Sem Unit) P st := fun tk => kasC_lift (wpAny_rule ⟨⟨tk, rfl⟩, h⟩)
theorem Gz {β : Type} (g : Nat → β → StateT SortSt Sem (ForInStep β)) (I : List Nat → β → SortSt → Prop) (Q : β → SortSt → Prop)
    (hstep : ∀ x rest b st, I (x :: rest) b st → T prog w A E s (g x b) (fun r st' => match r with | .done b' => Q b' st' | .yield b' => I rest b' st') st)
    (hend : ∀ b st, I [] b st → Q b st) : ∀ (l : List Nat) (b : β) (st : SortSt), I l b st → T prog w A E s (forIn l b g) Q st
  | [], b, st, h => by rw [List.forIn_nil]; exact Qe (hend _ _ h)
  | x :: rest, b, st, h => by
    rw [List.forIn_cons]
    refine Qc (Qz (hstep x rest b st h) fun r st' h' => ?_)
    cases r with
    | done b' => exact Qe h'
    | yield b' => exact Gz g I Q hstep hend rest b' st' h'
theorem ZY {β : Type} {a b : Nat} {g : Nat → β → StateT SortSt Sem (ForInStep β)} (I : Nat → β → SortSt → Prop) {Q : β → SortSt → Prop}
    (hstep : ∀ i c st, a ≤ i → i < b → I i c st → T prog w A E s (g i c) (fun r st' => match r with | .done c' => Q c' st' | .yield c' => I (i + 1) c' st') st)
    (hend : ∀ c st, I (max a b) c st → Q c st) {c : β} {st : SortSt} (h : I a c st) : T prog w A E s (forIn [a:b] c g) Q st := by
  rw [Std.Legacy.Range.forIn_eq_forIn_range']
  have hsz : ([a:b] : Std.Legacy.Range).size = b - a := by simp [Std.Legacy.Range.size]
  show T prog w A E s (forIn (List.range' a ([a:b] : Std.Legacy.Range).size 1) c g) Q st
  rw [hsz]
  refine Gz g (fun l c st => ∃ i, a ≤ i ∧ i ≤ max a b ∧ l = List.range' i (max a b - i) 1 ∧ I i c st) Q ?_ ?_ _ c st ⟨a, Nat.le_refl _, by omega, by congr 1; omega, h⟩
  · rintro x rest c st ⟨i, hai, hib, hl, hI⟩
    have hlt : i < max a b := by
      rcases Nat.lt_or_ge i (max a b) with h' | h'
      · exact h'
      · rw [show max a b - i = 0 by omega] at hl; simp at hl
    obtain ⟨n, hn⟩ : ∃ n, max a b - i = n + 1 := ⟨max a b - i - 1, by omega⟩
    rw [hn, List.range'_succ] at hl
    obtain ⟨rfl, rfl⟩ := List.cons.inj hl
    refine Qz (hstep x c st hai (by omega) hI) fun r st' h' => ?_
    cases r with
    | done c' => exact h'
    | yield c' => exact ⟨x + 1, by omega, by omega, by congr 1; omega, h'⟩
  · rintro c st ⟨i, hai, hib, hl, hI⟩
    have : i = max a b := by
      rcases Nat.lt_or_ge i (max a b) with h' | h'
      · obtain ⟨n, hn⟩ : ∃ n, max a b - i = n + 1 := ⟨max a b - i - 1, by omega⟩
        rw [hn, List.range'_succ] at hl; simp at hl
      · omega
    subst this; exact hend _ _ hI
noncomputable def Cmp (prog : Program) (w : World) (A : Around) (s : Shared) (κ : SortKind) (M : Keyed → Prop) (f : Keyed → Int) : Prop :=
  ∀ x y, M x → M y → ∀ (tk : Nat) (C : Bool → Shared → Prop), (∀ t, C (decide (f x < f y)) { s with toks := t }) → wpAny (model prog w) A (keyLt' κ x.1 y.1) C (fun _ _ => False) { s with toks := tk }
variable {κ : SortKind} {M : Keyed → Prop} {f : Keyed → Int}
theorem QcY {x y : Keyed} {P : Option Bool → SortSt → Prop} {st : SortSt} (hc : Cmp prog w A s κ M f) (hk : kindOf st = κ) (hx : M x) (hy : M y) (h : P (some (decide (f x < f y))) st) : T prog w A E s (lt' x y) P st := by
  rw [lt'_eq]
  refine Qc (Vh ?_)
  refine Qc (m := liftM (keyLt' (kindOf st) x.1 y.1).attempt) fun tk => kasC_lift (wpAny_attempt ?_)
  rw [hk]
  refine wpAny_mono (hc x y hx hy tk _ fun t => (?_ : (∃ t', ({ s with toks := t } : Shared) = { s with toks := t' }) ∧ _)) (fun _ _ h => h) fun _ _ h => h.elim
  exact ⟨⟨t, rfl⟩, Qe h⟩
theorem QF {xs : Array Keyed} {i : Nat} {P : Keyed → SortSt → Prop} {st : SortSt} (hi : i < xs.size) (h : P xs[i] st) : T prog w A E s (elem' xs i) P st := by
  rw [elem'_eq, getElem?_pos xs i hi]
  exact Qe h
end
theorem Yh (left : Bool) (key : Keyed) (arr : Array Keyed) (base n hint : Nat) : Q0 left key arr base n hint = (do
  let beyond (i : Nat) : StateT SortSt Sem (Option Bool) := do
    let x ← elem' arr (base + i)
    if left then lt' x key else return (← lt' key x).map (!·)
  let mut lastofs := 0
  let mut ofs := 1
  let mut lo := 0
  let mut hi := 0
  let some right ← beyond hint | return none
  if right then
    let maxofs := n - hint
    for _ in [0:n] do
      if ofs ≥ maxofs then break
      let some more ← beyond (hint + ofs) | return none
      if !more then break
      lastofs := ofs
      ofs := 2 * ofs + 1
    lo := hint + lastofs + 1
    hi := hint + min ofs maxofs
  else
    let maxofs := hint + 1
    for _ in [0:n] do
      if ofs ≥ maxofs then break
      let some found ← beyond (hint - ofs) | return none
      if found then break
      lastofs := ofs
      ofs := 2 * ofs + 1
    lo := hint + 1 - min ofs maxofs
    hi := hint - lastofs
  for _ in [0:n] do
    if lo ≥ hi then break
    let m := lo + (hi - lo) / 2
    let some more ← beyond m | return none
    if more then lo := m + 1 else hi := m
  return some hi) := rfl
end Ts

namespace Ts
open PySem PySem.Spec PyProof.Rows PySem.W
set_option autoImplicit false
section
variable {prog : Program} {w : World} {A : Around} {E : Value → Shared → Prop} {s : Shared} {κ : SortKind} {M : Keyed → Prop} {f : Keyed → Int}
noncomputable def bey (f : Keyed → Int) (left : Bool) (key x : Keyed) : Bool := if left = true then decide (f x < f key) else !decide (f key < f x)
theorem UR {left : Bool} {key : Keyed} {arr : Array Keyed} {i : Nat} {P : Option Bool → SortSt → Prop} {st : SortSt} (hc : Cmp prog w A s κ M f) (hk : kindOf st = κ) (hkey : M key) (hi : i < arr.size) (hm : M arr[i]) (h : P (some (bey f left key arr[i])) st) :
    T prog w A E s (do
      let x ← elem' arr i
      if left then lt' x key else return (← lt' key x).map (!·)) P st := by
  refine Qc (QF hi ?_)
  cases left with
  | true => exact QcY hc hk hm hkey h
  | false => exact Qc (QcY hc hk hkey hm (Qe h))
noncomputable def QeX (left : Bool) (key : Keyed) (arr : Array Keyed) (base n lo hi : Nat) : StateT SortSt Sem (Option Nat) := do
  let mut lo := lo
  let mut hi := hi
  for _ in [0:n] do
    if lo ≥ hi then break
    let m := lo + (hi - lo) / 2
    let some more ← (do
      let x ← elem' arr (base + m)
      if left then lt' x key else return (← lt' key x).map (!·)) | return none
    if more then lo := m + 1 else hi := m
  return some hi
theorem QcF {left : Bool} {key : Keyed} {arr : Array Keyed} {base n lo hi : Nat} {P : Option Nat → SortSt → Prop} {st : SortSt} (hc : Cmp prog w A s κ M f) (hk : kindOf st = κ) (hkey : M key)
    (hn : base + n ≤ arr.size) (hm : ∀ i (h : i < arr.size), M arr[i]) (mono : ∀ i j (hi : base + i < arr.size) (hj : base + j < arr.size), i ≤ j → j < n → bey f left key arr[base + j] = true → bey f left key arr[base + i] = true)
    (hlh : lo ≤ hi) (hhn : hi ≤ n) (bl : ∀ i (h : base + i < arr.size), i < lo → bey f left key arr[base + i] = true) (bh : ∀ i (h : base + i < arr.size), hi ≤ i → i < n → bey f left key arr[base + i] = false)
    (h : ∀ k, k ≤ n → (∀ i (hi : base + i < arr.size), i < k → bey f left key arr[base + i] = true) → (∀ i (hi : base + i < arr.size), k ≤ i → i < n → bey f left key arr[base + i] = false) → P (some k) st) :
    T prog w A E s (QeX left key arr base n lo hi) P st := by
  unfold QeX
  refine Qc (Qz (ZY (I := fun x c st' => st' = st ∧ ∃ l r, c = (none, l, r) ∧ l ≤ r ∧ r ≤ n ∧ r - l ≤ n - x ∧ (∀ i (h : base + i < arr.size), i < l → bey f left key arr[base + i] = true) ∧ (∀ i (h : base + i < arr.size), r ≤ i → i < n → bey f left key arr[base + i] = false))
    (Q := fun c st' => st' = st ∧ ∃ l r, c = (none, l, r) ∧ r ≤ n ∧ l = r ∧ (∀ i (h : base + i < arr.size), i < l → bey f left key arr[base + i] = true) ∧ (∀ i (h : base + i < arr.size), r ≤ i → i < n → bey f left key arr[base + i] = false)) ?_ ?_ ⟨rfl, lo, hi, rfl, hlh, hhn, by omega, bl, bh⟩) ?_)
  · rintro i c st' _ hin ⟨rfl, l, r, rfl, h1, h2, h3, h4, h5⟩
    dsimp only
    by_cases hge : l ≥ r
    · rw [if_pos hge]
      exact Qe ⟨rfl, l, r, rfl, h2, by omega, h4, h5⟩
    · rw [if_neg hge]
      refine Qc (UR hc hk hkey (by omega) (hm _ _) ?_)
      cases hb : bey f left key arr[base + (l + (r - l) / 2)] with
      | true =>
        refine Qe ⟨rfl, l + (r - l) / 2 + 1, r, rfl, by omega, h2, by omega, fun i h hi => mono i (l + (r - l) / 2) _ (by omega) (by omega) (by omega) hb, h5⟩
      | false =>
        refine Qe ⟨rfl, l, l + (r - l) / 2, rfl, by omega, by omega, by omega, h4, fun i h hi hin => ?_⟩
        cases e : bey f left key arr[base + i] with
        | false => rfl
        | true => rw [mono (l + (r - l) / 2) i (by omega) h hi hin e] at hb; exact absurd hb (by simp)
  · rintro c st' ⟨rfl, l, r, rfl, h1, h2, h3, h4, h5⟩
    exact ⟨rfl, l, r, rfl, h2, by omega, h4, h5⟩
  · rintro c st' ⟨rfl, l, r, rfl, h2, rfl, h4, h5⟩
    exact Qe (h l h2 h4 h5)
theorem ZO {left : Bool} {key : Keyed} {arr : Array Keyed} {base n hint : Nat} {P : Option Nat → SortSt → Prop} {st : SortSt} (hc : Cmp prog w A s κ M f) (hk : kindOf st = κ) (hkey : M key)
    (hn : base + n ≤ arr.size) (hh : hint < n) (hm : ∀ i (h : i < arr.size), M arr[i]) (hs : ∀ i j (hi : i < arr.size) (hj : j < arr.size), base ≤ i → i ≤ j → j < base + n → f arr[i] ≤ f arr[j])
    (h : ∀ k, k ≤ n → (∀ i (hi : base + i < arr.size), i < k → bey f left key arr[base + i] = true) → (∀ i (hi : base + i < arr.size), k ≤ i → i < n → bey f left key arr[base + i] = false) → P (some k) st) :
    T prog w A E s (Q0 left key arr base n hint) P st := by
  rw [Yh]
  have mono : ∀ i j (hi : base + i < arr.size) (hj : base + j < arr.size), i ≤ j → j < n → bey f left key arr[base + j] = true → bey f left key arr[base + i] = true := by
    intro i j hi hj hij hjn
    have := hs (base + i) (base + j) hi hj (by omega) (by omega) (by omega)
    unfold bey
    cases left <;> simp <;> omega
  have monf : ∀ i j (hi : base + i < arr.size) (hj : base + j < arr.size), i ≤ j → j < n → bey f left key arr[base + i] = false → bey f left key arr[base + j] = false := by
    intro i j hi hj hij hjn e
    cases e2 : bey f left key arr[base + j] with
    | false => rfl
    | true => rw [mono i j hi hj hij hjn e2] at e; exact absurd e (by simp)
  dsimp only
  refine Qc (UR hc hk hkey (by omega) (hm _ _) ?_)
  cases hr : bey f left key arr[base + hint] with
  | true =>
    dsimp only
    rw [if_pos rfl]
    refine Qc (Qz (ZY (I := fun x c st' => st' = st ∧ ∃ l o, c = (none, l, o) ∧ l < o ∧ x + 1 ≤ o ∧ hint + l < n ∧ (∀ (h : base + (hint + l) < arr.size), bey f left key arr[base + (hint + l)] = true))
      (Q := fun c st' => st' = st ∧ ∃ l o, c = (none, l, o) ∧ l < o ∧ hint + l < n ∧ (∀ (h : base + (hint + l) < arr.size), bey f left key arr[base + (hint + l)] = true) ∧ (∀ (h : base + (hint + o) < arr.size), hint + o < n → bey f left key arr[base + (hint + o)] = false)) ?_ ?_ ⟨rfl, 0, 1, rfl, by omega, by omega, by omega, fun _ => hr⟩) ?_)
    · rintro i c st' _ hin ⟨rfl, l, o, rfl, h1, h2, h3, h4⟩
      dsimp only
      by_cases hge : o ≥ n - hint
      · rw [if_pos hge]
        exact Qe ⟨rfl, l, o, rfl, h1, h3, h4, fun _ h => by omega⟩
      · rw [if_neg hge]
        refine Qc (UR hc hk hkey (by omega) (hm _ _) ?_)
        cases hb : bey f left key arr[base + (hint + o)] with
        | true => exact Qe ⟨rfl, o, 2 * o + 1, rfl, by omega, by omega, by omega, fun _ => hb⟩
        | false => exact Qe ⟨rfl, l, o, rfl, h1, h3, h4, fun _ _ => hb⟩
    · rintro c st' ⟨rfl, l, o, rfl, h1, h2, h3, h4⟩
      exact ⟨rfl, l, o, rfl, h1, h3, h4, fun _ h => by omega⟩
    · rintro c st' ⟨rfl, l, o, rfl, h1, h3, h4, h5⟩
      refine QcF (lo := hint + l + 1) (hi := hint + min o (n - hint)) hc hk hkey hn hm mono (by omega) (by omega) (fun i h hi => mono i (hint + l) h (by omega) (by omega) h3 (h4 (by omega))) (fun i h hi hin => monf (hint + o) i (by omega) h (by omega) hin (h5 (by omega) (by omega))) h
  | false =>
    dsimp only
    rw [if_neg (by simp)]
    refine Qc (Qz (ZY (I := fun x c st' => st' = st ∧ ∃ l o, c = (none, l, o) ∧ l < o ∧ x + 1 ≤ o ∧ l ≤ hint ∧ (∀ (h : base + (hint - l) < arr.size), bey f left key arr[base + (hint - l)] = false))
      (Q := fun c st' => st' = st ∧ ∃ l o, c = (none, l, o) ∧ l < o ∧ l ≤ hint ∧ (∀ (h : base + (hint - l) < arr.size), bey f left key arr[base + (hint - l)] = false) ∧ (∀ (h : base + (hint - o) < arr.size), o ≤ hint → bey f left key arr[base + (hint - o)] = true)) ?_ ?_ ⟨rfl, 0, 1, rfl, by omega, by omega, by omega, fun _ => hr⟩) ?_)
    · rintro i c st' _ hin ⟨rfl, l, o, rfl, h1, h2, h3, h4⟩
      dsimp only
      by_cases hge : o ≥ hint + 1
      · rw [if_pos hge]
        exact Qe ⟨rfl, l, o, rfl, h1, h3, h4, fun _ h => by omega⟩
      · rw [if_neg hge]
        refine Qc (UR hc hk hkey (by omega) (hm _ _) ?_)
        cases hb : bey f left key arr[base + (hint - o)] with
        | true => exact Qe ⟨rfl, l, o, rfl, h1, h3, h4, fun _ _ => hb⟩
        | false => exact Qe ⟨rfl, o, 2 * o + 1, rfl, by omega, by omega, by omega, fun _ => hb⟩
    · rintro c st' ⟨rfl, l, o, rfl, h1, h2, h3, h4⟩
      exact ⟨rfl, l, o, rfl, h1, h3, h4, fun _ h => by omega⟩
    · rintro c st' ⟨rfl, l, o, rfl, h1, h3, h4, h5⟩
      refine QcF (lo := hint + 1 - min o (hint + 1)) (hi := hint - l) hc hk hkey hn hm mono (by omega) (by omega) (fun i h hi => mono i (hint - o) h (by omega) (by omega) (by omega) (h5 (by omega) (by omega))) (fun i h hi hin => monf (hint - l) i (by omega) h (by omega) hin (h4 (by omega))) h
end
end Ts

namespace Ts
open PySem PySem.Spec PyProof.Rows PySem.W
set_option autoImplicit false
noncomputable def JK : Array Keyed → Array Keyed → StateT SortSt Sem (Array Keyed) := sortPriv% PySem.Builtin.mergeLo
noncomputable def JI : Array Keyed → Array Keyed → StateT SortSt Sem (Array Keyed) := sortPriv% PySem.Builtin.mergeHi
noncomputable def VX (g : Nat) (st : SortSt) : SortSt := SortSt.mk' (kindOf st) (arrOf st) (pendingOf st) g (failedOf st)
theorem Kc (a b : Array Keyed) : JK a b = (do
  rule "list.sort.merge-lo"
  let total := a.size + b.size
  let done (out : Array Keyed) (ia ib : Nat) := out ++ a.extract ia a.size ++ b.extract ib b.size
  let lastOfA (out : Array Keyed) (ia ib : Nat) := out ++ b.extract ib b.size ++ a.extract ia a.size
  let mut out : Array Keyed := #[← elem' b 0]
  let mut ia := 0
  let mut ib := 1
  if ib == b.size then return done out ia ib
  if ia + 1 == a.size then return lastOfA out ia ib
  let mut minGallop := gallopOf (← get)
  for _ in [0:total] do
    let mut acount := 0
    let mut bcount := 0
    for _ in [0:total] do
      let some bWins ← lt' (← elem' b ib) (← elem' a ia) | return done out ia ib
      if bWins then
        out := out.push (← elem' b ib); ib := ib + 1; bcount := bcount + 1; acount := 0
        if ib == b.size then return done out ia ib
        if bcount ≥ minGallop then break
      else
        out := out.push (← elem' a ia); ia := ia + 1; acount := acount + 1; bcount := 0
        if ia + 1 == a.size then return lastOfA out ia ib
        if acount ≥ minGallop then break
    rule "list.sort.gallop"
    minGallop := minGallop + 1
    for _ in [0:total] do
      if minGallop > 1 then minGallop := minGallop - 1
      modify (VX minGallop)
      let some k ← Q0 false (← elem' b ib) a ia (a.size - ia) 0 | return done out ia ib
      acount := k
      if k > 0 then
        out := out ++ a.extract ia (ia + k); ia := ia + k
        if ia + 1 == a.size then return lastOfA out ia ib
        if ia == a.size then return done out ia ib
      out := out.push (← elem' b ib); ib := ib + 1
      if ib == b.size then return done out ia ib
      let some k ← Q0 true (← elem' a ia) b ib (b.size - ib) 0 | return done out ia ib
      bcount := k
      if k > 0 then
        out := out ++ b.extract ib (ib + k); ib := ib + k
        if ib == b.size then return done out ia ib
      out := out.push (← elem' a ia); ia := ia + 1
      if ia + 1 == a.size then return lastOfA out ia ib
      if acount < 7 && bcount < 7 then break
    minGallop := minGallop + 1
    modify (VX minGallop)
  unsupported "internal:list.sort.merge-bound") := rfl
theorem Kf (a b : Array Keyed) : JI a b = (do
  rule "list.sort.merge-hi"
  let total := a.size + b.size
  let done (out : Array Keyed) (na nb : Nat) := a.extract 0 na ++ b.extract 0 nb ++ out.reverse
  let firstOfB (out : Array Keyed) (na nb : Nat) := b.extract 0 nb ++ a.extract 0 na ++ out.reverse
  let mut na := a.size - 1
  let mut nb := b.size
  let mut out : Array Keyed := #[← elem' a na]
  if na == 0 then return done out na nb
  if nb == 1 then return firstOfB out na nb
  let mut minGallop := gallopOf (← get)
  for _ in [0:total] do
    let mut acount := 0
    let mut bcount := 0
    for _ in [0:total] do
      let some aWins ← lt' (← elem' b (nb - 1)) (← elem' a (na - 1)) | return done out na nb
      if aWins then
        na := na - 1; out := out.push (← elem' a na); acount := acount + 1; bcount := 0
        if na == 0 then return done out na nb
        if acount ≥ minGallop then break
      else
        nb := nb - 1; out := out.push (← elem' b nb); bcount := bcount + 1; acount := 0
        if nb == 1 then return firstOfB out na nb
        if bcount ≥ minGallop then break
    rule "list.sort.gallop"
    minGallop := minGallop + 1
    for _ in [0:total] do
      if minGallop > 1 then minGallop := minGallop - 1
      modify (VX minGallop)
      let some at_ ← Q0 false (← elem' b (nb - 1)) a 0 na (na - 1) | return done out na nb
      let k := na - at_
      acount := k
      if k > 0 then
        out := out ++ (a.extract at_ na).reverse; na := at_
        if na == 0 then return done out na nb
      nb := nb - 1; out := out.push (← elem' b nb)
      if nb == 1 then return firstOfB out na nb
      let some at_ ← Q0 true (← elem' a (na - 1)) b 0 nb (nb - 1) | return done out na nb
      let k := nb - at_
      bcount := k
      if k > 0 then
        out := out ++ (b.extract at_ nb).reverse; nb := at_
        if nb == 1 then return firstOfB out na nb
        if nb == 0 then return done out na nb
      na := na - 1; out := out.push (← elem' a na)
      if na == 0 then return done out na nb
      if acount < 7 && bcount < 7 then break
    minGallop := minGallop + 1
    modify (VX minGallop)
  unsupported "internal:list.sort.merge-bound") := rfl
structure J (f : Keyed → Int) (la lb o : List Keyed) (ia ib : Nat) : Prop where
  pm : (o ++ (la.drop ia ++ lb.drop ib)).Perm (la ++ lb)
  so : o.Pairwise fun x y => f x ≤ f y
  ua : ∀ x ∈ o, ∀ y ∈ la.drop ia, f x ≤ f y
  ub : ∀ x ∈ o, ∀ y ∈ lb.drop ib, f x ≤ f y
variable {f : Keyed → Int} {la lb o : List Keyed} {ia ib : Nat}
theorem J.swap (h : J f la lb o ia ib) : J f lb la o ib ia := ⟨(List.Perm.append_left o List.perm_append_comm).trans (h.pm.trans List.perm_append_comm), h.so, h.ub, h.ua⟩
theorem J.chunk (h : J f la lb o ia ib) (sa : la.Pairwise fun x y => f x ≤ f y) (k : Nat) (hc : ∀ x ∈ (la.drop ia).take k, ∀ y ∈ lb.drop ib, f x ≤ f y) : J f la lb (o ++ (la.drop ia).take k) (ia + k) ib := by
  have e : la.drop ia = (la.drop ia).take k ++ la.drop (ia + k) := by rw [← List.drop_drop, List.take_append_drop]
  have sd := List.Pairwise.sublist (List.drop_sublist ia la) sa
  rw [e, List.pairwise_append] at sd
  refine ⟨?_, ?_, ?_, ?_⟩
  · have := h.pm
    rw [e] at this
    simpa [List.append_assoc] using this
  · rw [List.pairwise_append]
    refine ⟨h.so, sd.1, fun x hx y hy => h.ua x hx y ?_⟩
    rw [e]; exact List.mem_append_left _ hy
  · intro x hx y hy
    rcases List.mem_append.mp hx with hx | hx
    · exact h.ua x hx y (by rw [e]; exact List.mem_append_right _ hy)
    · exact sd.2.2 x hx y hy
  · intro x hx y hy
    rcases List.mem_append.mp hx with hx | hx
    · exact h.ub x hx y hy
    · exact hc x hx y hy
theorem Ya {l : List Keyed} {i : Nat} (hi : i < l.length) : (l.drop i).take 1 = [l[i]] := by
  rw [List.drop_eq_getElem_cons hi]; rfl
theorem J.one (h : J f la lb o ia ib) (sa : la.Pairwise fun x y => f x ≤ f y) (hi : ia < la.length) (hc : ∀ y ∈ lb.drop ib, f la[ia] ≤ f y) : J f la lb (o ++ [la[ia]]) (ia + 1) ib := by
  have := h.chunk sa 1
  rw [Ya hi] at this
  exact this fun x hx y hy => by rw [List.mem_singleton.mp hx]; exact hc y hy
noncomputable def Out (f : Keyed → Int) (la lb r : List Keyed) : Prop := r.Perm (la ++ lb) ∧ r.Pairwise fun x y => f x ≤ f y
theorem J.endB (h : J f la lb o ia ib) (sa : la.Pairwise fun x y => f x ≤ f y) (hb : lb.length ≤ ib) : Out f la lb (o ++ la.drop ia ++ lb.drop ib) := by
  have e : lb.drop ib = [] := List.drop_eq_nil_of_le hb
  refine ⟨by rw [List.append_assoc]; exact h.pm, ?_⟩
  rw [e, List.append_nil, List.pairwise_append]
  exact ⟨h.so, List.Pairwise.sublist (List.drop_sublist ia la) sa, h.ua⟩
theorem J.endA (h : J f la lb o ia ib) (sb : lb.Pairwise fun x y => f x ≤ f y) (ha : la.length ≤ ia) : Out f la lb (o ++ la.drop ia ++ lb.drop ib) := by
  have e : la.drop ia = [] := List.drop_eq_nil_of_le ha
  refine ⟨by rw [List.append_assoc]; exact h.pm, ?_⟩
  rw [e, List.append_nil, List.pairwise_append]
  exact ⟨h.so, List.Pairwise.sublist (List.drop_sublist ib lb) sb, h.ub⟩
theorem J.lastA (h : J f la lb o ia ib) (sa : la.Pairwise fun x y => f x ≤ f y) (sb : lb.Pairwise fun x y => f x ≤ f y) (hab : ∀ x ∈ lb.drop ib, ∀ y ∈ la.drop ia, f x ≤ f y) : Out f la lb (o ++ lb.drop ib ++ la.drop ia) := by
  refine ⟨by rw [List.append_assoc]; exact (List.Perm.append_left o List.perm_append_comm).trans h.pm, ?_⟩
  rw [List.append_assoc, List.pairwise_append, List.pairwise_append]
  refine ⟨h.so, ⟨List.Pairwise.sublist (List.drop_sublist ib lb) sb, List.Pairwise.sublist (List.drop_sublist ia la) sa, hab⟩, fun x hx y hy => ?_⟩
  rcases List.mem_append.mp hy with hy | hy
  · exact h.ub x hx y hy
  · exact h.ua x hx y hy
end Ts

namespace Ts
open PySem PySem.Spec PyProof.Rows PySem.W
set_option autoImplicit false
noncomputable abbrev LoS := Option (Array Keyed) × Array Keyed × Nat × Nat × Nat
noncomputable abbrev InS := Option (Array Keyed) × Array Keyed × Nat × Nat × Nat × Nat
noncomputable abbrev GaS := Option (Array Keyed) × Array Keyed × Nat × Nat × Nat × Nat × Nat
theorem Qx {α : Type} {c : Prop} [Decidable c] {a b a' b' : α} (h1 : a = a') (h2 : b = b') : ite c a b = ite c a' b' := by rw [h1, h2]
theorem Qo {α β : Type} {m : StateT SortSt Sem α} {g g' : α → StateT SortSt Sem β} (h : ∀ x, g x = g' x) : (m >>= g) = (m >>= g') := by rw [funext h]
theorem QJ {α β : Type} {m : StateT SortSt Sem (Option α)} {g g' : Option α → StateT SortSt Sem β} (h0 : g none = g' none) (h1 : ∀ x, g (some x) = g' (some x)) : (m >>= g) = (m >>= g') := Qo fun x => by cases x; exact h0; exact h1 _
section
variable (a b : Array Keyed)
noncomputable def Qdd (mg : Nat) (_ : Nat) (s : InS) : StateT SortSt Sem (ForInStep InS) := do
  let y ← elem' b s.2.2.2.1
  let x ← elem' a s.2.2.1
  match ← lt' y x with
  | some bWins =>
    if bWins = true then do
      let y ← elem' b s.2.2.2.1
      if (s.2.2.2.1 + 1 == b.size) = true then pure (.done (some (s.2.1.push y ++ a.extract s.2.2.1 a.size ++ b.extract (s.2.2.2.1 + 1) b.size), s.2.1.push y, s.2.2.1, s.2.2.2.1 + 1, 0, s.2.2.2.2.2 + 1))
      else if s.2.2.2.2.2 + 1 ≥ mg then pure (.done (none, s.2.1.push y, s.2.2.1, s.2.2.2.1 + 1, 0, s.2.2.2.2.2 + 1))
      else pure (.yield (none, s.2.1.push y, s.2.2.1, s.2.2.2.1 + 1, 0, s.2.2.2.2.2 + 1))
    else do
      let x ← elem' a s.2.2.1
      if (s.2.2.1 + 1 + 1 == a.size) = true then pure (.done (some (s.2.1.push x ++ b.extract s.2.2.2.1 b.size ++ a.extract (s.2.2.1 + 1) a.size), s.2.1.push x, s.2.2.1 + 1, s.2.2.2.1, s.2.2.2.2.1 + 1, 0))
      else if s.2.2.2.2.1 + 1 ≥ mg then pure (.done (none, s.2.1.push x, s.2.2.1 + 1, s.2.2.2.1, s.2.2.2.2.1 + 1, 0))
      else pure (.yield (none, s.2.1.push x, s.2.2.1 + 1, s.2.2.2.1, s.2.2.2.2.1 + 1, 0))
  | _ => pure (.done (some (s.2.1 ++ a.extract s.2.2.1 a.size ++ b.extract s.2.2.2.1 b.size), s.2.1, s.2.2.1, s.2.2.2.1, s.2.2.2.2.1, s.2.2.2.2.2))
noncomputable def QbA (out : Array Keyed) (ia ib mg ac bc : Nat) : StateT SortSt Sem (ForInStep GaS) := do
  let x ← elem' a ia
  if (ia + 1 + 1 == a.size) = true then pure (.done (some (out.push x ++ b.extract ib b.size ++ a.extract (ia + 1) a.size), out.push x, ia + 1, ib, mg, ac, bc))
  else if (decide (ac < 7) && decide (bc < 7)) = true then pure (.done (none, out.push x, ia + 1, ib, mg, ac, bc))
  else pure (.yield (none, out.push x, ia + 1, ib, mg, ac, bc))
noncomputable def Qb8 (out : Array Keyed) (ia ib mg ac bc : Nat) : StateT SortSt Sem (ForInStep GaS) := do
  let y ← elem' b ib
  if (ib + 1 == b.size) = true then pure (.done (some (out.push y ++ a.extract ia a.size ++ b.extract (ib + 1) b.size), out.push y, ia, ib + 1, mg, ac, bc))
  else do
    let x ← elem' a ia
    match ← Q0 true x b (ib + 1) (b.size - (ib + 1)) 0 with
    | some k =>
      if k > 0 then
        if (ib + 1 + k == b.size) = true then pure (.done (some (out.push y ++ b.extract (ib + 1) (ib + 1 + k) ++ a.extract ia a.size ++ b.extract (ib + 1 + k) b.size), out.push y ++ b.extract (ib + 1) (ib + 1 + k), ia, ib + 1 + k, mg, ac, k))
        else QbA a b (out.push y ++ b.extract (ib + 1) (ib + 1 + k)) ia (ib + 1 + k) mg ac k
      else QbA a b (out.push y) ia (ib + 1) mg ac k
    | _ => pure (.done (some (out.push y ++ a.extract ia a.size ++ b.extract (ib + 1) b.size), out.push y, ia, ib + 1, mg, ac, bc))
noncomputable def QbK (out : Array Keyed) (ia ib mg ac bc : Nat) : StateT SortSt Sem (ForInStep GaS) := do
  modify (VX mg)
  let y ← elem' b ib
  match ← Q0 false y a ia (a.size - ia) 0 with
  | some k =>
    if k > 0 then
      if (ia + k + 1 == a.size) = true then pure (.done (some (out ++ a.extract ia (ia + k) ++ b.extract ib b.size ++ a.extract (ia + k) a.size), out ++ a.extract ia (ia + k), ia + k, ib, mg, k, bc))
      else if (ia + k == a.size) = true then pure (.done (some (out ++ a.extract ia (ia + k) ++ a.extract (ia + k) a.size ++ b.extract ib b.size), out ++ a.extract ia (ia + k), ia + k, ib, mg, k, bc))
      else Qb8 a b (out ++ a.extract ia (ia + k)) (ia + k) ib mg k bc
    else Qb8 a b out ia ib mg k bc
  | _ => pure (.done (some (out ++ a.extract ia a.size ++ b.extract ib b.size), out, ia, ib, mg, ac, bc))
noncomputable def Qeb (_ : Nat) (s : GaS) : StateT SortSt Sem (ForInStep GaS) :=
  if s.2.2.2.2.1 > 1 then QbK a b s.2.1 s.2.2.1 s.2.2.2.1 (s.2.2.2.2.1 - 1) s.2.2.2.2.2.1 s.2.2.2.2.2.2 else QbK a b s.2.1 s.2.2.1 s.2.2.2.1 s.2.2.2.2.1 s.2.2.2.2.2.1 s.2.2.2.2.2.2
noncomputable def U3 (_ : Nat) (s : LoS) : StateT SortSt Sem (ForInStep LoS) := do
  let t ← forIn [0:a.size + b.size] ((none, s.2.1, s.2.2.1, s.2.2.2.1, 0, 0) : InS) (Qdd a b s.2.2.2.2)
  match t.1 with
  | some r => pure (.done (some r, t.2.1, t.2.2.1, t.2.2.2.1, s.2.2.2.2))
  | none => do
    rule "list.sort.gallop"
    let u ← forIn [0:a.size + b.size] ((none, t.2.1, t.2.2.1, t.2.2.2.1, s.2.2.2.2 + 1, t.2.2.2.2.1, t.2.2.2.2.2) : GaS) (Qeb a b)
    match u.1 with
    | some r => pure (.done (some r, u.2.1, u.2.2.1, u.2.2.2.1, u.2.2.2.2.1))
    | none => do
      modify (VX (u.2.2.2.2.1 + 1))
      pure (.yield (none, u.2.1, u.2.2.1, u.2.2.2.1, u.2.2.2.2.1 + 1))
set_option maxRecDepth 10000 in
set_option maxHeartbeats 400000 in
theorem Yg : JK a b = (do
  rule "list.sort.merge-lo"
  let y ← elem' b 0
  if (1 == b.size) = true then pure (#[y] ++ a.extract 0 a.size ++ b.extract 1 b.size)
  else if (0 + 1 == a.size) = true then pure (#[y] ++ b.extract 1 b.size ++ a.extract 0 a.size)
  else do
    let st ← get
    let t ← forIn [0:a.size + b.size] ((none, #[y], 0, 1, gallopOf st) : LoS) (U3 a b)
    match t.1 with
    | some r => pure r
    | none => unsupported "internal:list.sort.merge-bound") := by
  rw [Kc]
  unfold U3 Qeb QbK Qb8 QbA Qdd
  dsimp only
  refine congrArg (bind _) (funext fun _ => congrArg (bind _) (funext fun y => congrArg (ite _ _) (congrArg (ite _ _) (congrArg (bind _) (funext fun st => congr (congrArg bind ?_) ?_)))))
  · refine congrArg (forIn _ _) (funext fun _ => funext fun s => ?_)
    refine congr (congrArg bind ?_) (funext fun t => ?_)
    · refine congrArg (forIn _ _) (funext fun _ => funext fun t => ?_)
      (repeat' (first | (with_reducible rfl) | ((with_reducible refine QJ ?_ fun _ => ?_) <;> dsimp only) | (with_reducible refine Qo fun _ => ?_) | (with_reducible refine Qx ?_ ?_)))
    · obtain ⟨_ | r, t⟩ := t
      · refine congrArg (bind _) (funext fun _ => congr (congrArg bind ?_) (funext fun u => ?_))
        · refine congrArg (forIn _ _) (funext fun _ => funext fun t => ?_)
          (repeat' (first | (with_reducible rfl) | ((with_reducible refine QJ ?_ fun _ => ?_) <;> dsimp only) | (with_reducible refine Qo fun _ => ?_) | (with_reducible refine Qx ?_ ?_)))
        · obtain ⟨_ | r, u⟩ := u <;> rfl
      · rfl
  · funext t
    obtain ⟨_ | r, t⟩ := t <;> rfl
end
end Ts

namespace Ts
open PySem PySem.Spec PyProof.Rows PySem.W
set_option autoImplicit false
theorem JA (a : Array Keyed) (i : Nat) : (a.extract i a.size).toList = a.toList.drop i := by
  rw [Array.toList_extract, List.extract_eq_take_drop]
  exact List.take_of_length_le (by simp)
theorem QcD (a : Array Keyed) (i k : Nat) : (a.extract i (i + k)).toList = (a.toList.drop i).take k := by simp [List.extract_eq_take_drop]
theorem YU {f : Keyed → Int} {l : List Keyed} (h : l.Pairwise fun x y => f x ≤ f y) {i j : Nat} (hi : i < l.length) (hj : j < l.length) (hij : i ≤ j) : f l[i] ≤ f l[j] := by
  by_cases e : i = j
  · subst e; omega
  · exact List.pairwise_iff_getElem.mp h i j hi hj (by omega)
theorem QW {l : List Keyed} {i : Nat} {x : Keyed} (h : x ∈ l.drop i) : ∃ j, ∃ hj : j < l.length, i ≤ j ∧ x = l[j] := by
  obtain ⟨k, hk, e⟩ := List.mem_iff_getElem.mp h
  rw [List.length_drop] at hk
  rw [List.getElem_drop] at e
  exact ⟨i + k, by omega, by omega, e.symm⟩
theorem ZH {l : List Keyed} {i k : Nat} {x : Keyed} (h : x ∈ (l.drop i).take k) : ∃ j, ∃ hj : j < l.length, i ≤ j ∧ j < i + k ∧ x = l[j] := by
  obtain ⟨n, hn, e⟩ := List.mem_iff_getElem.mp h
  rw [List.length_take, List.length_drop] at hn
  rw [List.getElem_take, List.getElem_drop] at e
  exact ⟨i + n, by omega, by omega, by omega, e.symm⟩
section
variable {prog : Program} {w : World} {A : Around} {E : Value → Shared → Prop} {s : Shared} {κ : SortKind} {M : Keyed → Prop} {f : Keyed → Int} {a b : Array Keyed}
structure Two (f : Keyed → Int) (M : Keyed → Prop) (a b : Array Keyed) : Prop where
  ma : ∀ i (h : i < a.size), M a[i]
  mb : ∀ i (h : i < b.size), M b[i]
  sa : a.toList.Pairwise fun x y => f x ≤ f y
  sb : b.toList.Pairwise fun x y => f x ≤ f y
noncomputable def Top (f : Keyed → Int) (a b : Array Keyed) : Prop := ∀ i (h : i < a.size), i + 1 = a.size → ∀ x ∈ b.toList, f x ≤ f a[i]
noncomputable def Ja (f : Keyed → Int) (a b out : Array Keyed) (ia ib : Nat) : Prop := J f a.toList b.toList out.toList ia ib
noncomputable def Ro (f : Keyed → Int) (a b r : Array Keyed) : Prop := Out f a.toList b.toList r.toList
variable (W : Two f M a b) (hT : Top f a b)
include W in
theorem Ja.pushA {out : Array Keyed} {ia ib : Nat} (h : Ja f a b out ia ib) (hi : ia < a.size) (hc : ∀ j (hj : j < b.size), ib ≤ j → f a[ia] ≤ f b[j]) : Ja f a b (out.push a[ia]) (ia + 1) ib := by
  unfold Ja
  rw [Array.toList_push]
  refine J.one h W.sa (by simpa using hi) fun y hy => ?_
  obtain ⟨j, hj, h1, rfl⟩ := QW hy
  exact hc j (by simpa using hj) h1
include W in
theorem Ja.pushB {out : Array Keyed} {ia ib : Nat} (h : Ja f a b out ia ib) (hi : ib < b.size) (hc : ∀ j (hj : j < a.size), ia ≤ j → f b[ib] ≤ f a[j]) : Ja f a b (out.push b[ib]) ia (ib + 1) := by
  unfold Ja
  rw [Array.toList_push]
  refine (J.one (J.swap h) W.sb (by simpa using hi) fun y hy => ?_).swap
  obtain ⟨j, hj, h1, rfl⟩ := QW hy
  exact hc j (by simpa using hj) h1
include W in
theorem Ja.manyA {out : Array Keyed} {ia ib : Nat} (h : Ja f a b out ia ib) (k : Nat) (hc : ∀ i (hi : i < a.size), i < ia + k → ∀ j (hj : j < b.size), ib ≤ j → f a[i] ≤ f b[j]) : Ja f a b (out ++ a.extract ia (ia + k)) (ia + k) ib := by
  unfold Ja
  rw [Array.toList_append, QcD]
  refine J.chunk h W.sa k fun x hx y hy => ?_
  obtain ⟨i, hi, _, h1, rfl⟩ := ZH hx
  obtain ⟨j, hj, h2, rfl⟩ := QW hy
  exact hc i (by simpa using hi) h1 j (by simpa using hj) h2
include W in
theorem Ja.manyB {out : Array Keyed} {ia ib : Nat} (h : Ja f a b out ia ib) (k : Nat) (hc : ∀ i (hi : i < b.size), i < ib + k → ∀ j (hj : j < a.size), ia ≤ j → f b[i] ≤ f a[j]) : Ja f a b (out ++ b.extract ib (ib + k)) ia (ib + k) := by
  unfold Ja
  rw [Array.toList_append, QcD]
  refine (J.chunk (J.swap h) W.sb k fun x hx y hy => ?_).swap
  obtain ⟨i, hi, _, h1, rfl⟩ := ZH hx
  obtain ⟨j, hj, h2, rfl⟩ := QW hy
  exact hc i (by simpa using hi) h1 j (by simpa using hj) h2
include W in
theorem Ja.doneB {out : Array Keyed} {ia ib : Nat} (h : Ja f a b out ia ib) (hb : b.size ≤ ib) : Ro f a b (out ++ a.extract ia a.size ++ b.extract ib b.size) := by
  unfold Ro
  rw [Array.toList_append, Array.toList_append, JA, JA]
  exact J.endB h W.sa (by simpa using hb)
include W in
theorem Ja.doneA {out : Array Keyed} {ia ib : Nat} (h : Ja f a b out ia ib) (ha : a.size ≤ ia) : Ro f a b (out ++ a.extract ia a.size ++ b.extract ib b.size) := by
  unfold Ro
  rw [Array.toList_append, Array.toList_append, JA, JA]
  exact J.endA h W.sb (by simpa using ha)
include W hT in
theorem Ja.doneL {out : Array Keyed} {ia ib : Nat} (h : Ja f a b out ia ib) (ha : ia + 1 = a.size) : Ro f a b (out ++ b.extract ib b.size ++ a.extract ia a.size) := by
  unfold Ro
  rw [Array.toList_append, Array.toList_append, JA, JA]
  refine J.lastA h W.sa W.sb fun x hx y hy => ?_
  obtain ⟨j, hj, h2, rfl⟩ := QW hy
  have hj' : j < a.size := by simpa using hj
  have : j = ia := by omega
  subst this
  exact hT j hj' ha x (List.mem_of_mem_drop hx)
structure Lv (f : Keyed → Int) (a b out : Array Keyed) (ia ib : Nat) : Prop where
  j : Ja f a b out ia ib
  ia : ia + 1 < a.size
  ib : ib < b.size
noncomputable def fl (g : Nat) (st : SortSt) (st' : SortSt) : Prop := st' = VX g st
include W in
theorem aLe {i j : Nat} (hi : i < a.size) (hj : j < a.size) (h : i ≤ j) : f a[i] ≤ f a[j] := YU W.sa (i := i) (j := j) (by simpa using hi) (by simpa using hj) h
include W in
theorem bLe {i j : Nat} (hi : i < b.size) (hj : j < b.size) (h : i ≤ j) : f b[i] ≤ f b[j] := YU W.sb (i := i) (j := j) (by simpa using hi) (by simpa using hj) h
noncomputable def InP (f : Keyed → Int) (a b : Array Keyed) (n : Nat) (t : InS) : Prop := (∃ r, t.1 = some r ∧ Ro f a b r) ∨ (t.1 = none ∧ Lv f a b t.2.1 t.2.2.1 t.2.2.2.1 ∧ n ≤ t.2.2.1 + t.2.2.2.1)
include W hT in
theorem Qcj {mg i n : Nat} {t : InS} {st : SortSt} (hc : Cmp prog w A s κ M f) (hk : kindOf st = κ) (h : t.1 = none ∧ Lv f a b t.2.1 t.2.2.1 t.2.2.2.1 ∧ n ≤ t.2.2.1 + t.2.2.2.1) :
    T prog w A E s (Qdd a b mg i t) (fun r st' => st' = st ∧ match r with | .done c => InP f a b (n + 1) c | .yield c => c.1 = none ∧ Lv f a b c.2.1 c.2.2.1 c.2.2.2.1 ∧ n + 1 ≤ c.2.2.1 + c.2.2.2.1) st := by
  obtain ⟨_, out, ia, ib, ac, bc⟩ := t
  obtain ⟨rfl, L, hn⟩ := h
  dsimp only at L hn
  have h1 := L.ia
  have h2 := L.ib
  unfold Qdd
  dsimp only
  refine Qc (QF h2 (Qc (QF (by omega) (Qc (QcY hc hk (W.mb _ _) (W.ma _ _) ?_)))))
  by_cases hlt : f b[ib] < f a[ia]
  · rw [decide_eq_true hlt]
    dsimp only
    rw [if_pos rfl]
    refine Qc (QF h2 ?_)
    have J' := L.j.pushB W h2 fun j hj hij => by have := aLe W (by omega) hj hij; omega
    by_cases e : (ib + 1 == b.size) = true
    · rw [if_pos e]
      simp only [beq_iff_eq] at e
      exact Qe ⟨rfl, .inl ⟨_, rfl, J'.doneB W (by omega)⟩⟩
    · rw [if_neg e]
      simp only [beq_iff_eq] at e
      split
      · exact Qe ⟨rfl, .inr ⟨rfl, ⟨J', h1, by dsimp only; omega⟩, by dsimp only; omega⟩⟩
      · exact Qe ⟨rfl, rfl, ⟨J', h1, by dsimp only; omega⟩, by dsimp only; omega⟩
  · rw [decide_eq_false hlt]
    dsimp only
    rw [if_neg (by simp)]
    refine Qc (QF (by omega) ?_)
    have J' := L.j.pushA W (by omega) fun j hj hij => by have := bLe W h2 hj hij; omega
    by_cases e : (ia + 1 + 1 == a.size) = true
    · rw [if_pos e]
      simp only [beq_iff_eq] at e
      exact Qe ⟨rfl, .inl ⟨_, rfl, J'.doneL W hT e⟩⟩
    · rw [if_neg e]
      simp only [beq_iff_eq] at e
      split
      · exact Qe ⟨rfl, .inr ⟨rfl, ⟨J', by dsimp only; omega, h2⟩, by dsimp only; omega⟩⟩
      · exact Qe ⟨rfl, rfl, ⟨J', by dsimp only; omega, h2⟩, by dsimp only; omega⟩
end
end Ts

namespace Ts
open PySem PySem.Spec PyProof.Rows PySem.W
set_option autoImplicit false
section
variable {prog : Program} {w : World} {A : Around} {E : Value → Shared → Prop} {s : Shared} {κ : SortKind} {M : Keyed → Prop} {f : Keyed → Int} {a b : Array Keyed}
noncomputable def Sg (st st' : SortSt) : Prop := ∃ g, st' = VX g st
theorem Sg.refl (st : SortSt) : Sg st st := ⟨gallopOf st, rfl⟩
theorem Sg.kind {st st' : SortSt} (h : Sg st st') : kindOf st' = kindOf st := by obtain ⟨g, rfl⟩ := h; rfl
theorem Sg.set {st st' : SortSt} (h : Sg st st') (g : Nat) : Sg st (VX g st') := by obtain ⟨g', rfl⟩ := h; exact ⟨g, rfl⟩
noncomputable def GaL (f : Keyed → Int) (a b : Array Keyed) (n : Nat) (u : GaS) : Prop := u.1 = none ∧ Lv f a b u.2.1 u.2.2.1 u.2.2.2.1 ∧ n ≤ u.2.2.1 + u.2.2.2.1
noncomputable def GaP (f : Keyed → Int) (a b : Array Keyed) (n : Nat) (u : GaS) : Prop := (∃ r, u.1 = some r ∧ Ro f a b r) ∨ GaL f a b n u
noncomputable def GaR (f : Keyed → Int) (a b : Array Keyed) (n : Nat) (r : ForInStep GaS) : Prop := match r with | .done c => GaP f a b n c | .yield c => GaL f a b n c
variable (W : Two f M a b) (hT : Top f a b)
include W hT in
theorem GM {out : Array Keyed} {ia ib mg ac bc n : Nat} {st : SortSt} (j : Ja f a b out ia ib) (h1 : ia + 1 < a.size) (h2 : ib < b.size) (hn : n ≤ ia + ib) (hle : ∀ j (hj : j < b.size), ib ≤ j → f a[ia] ≤ f b[j]) :
    T prog w A E s (QbA a b out ia ib mg ac bc) (fun r st' => st' = st ∧ GaR f a b n r) st := by
  unfold QbA
  refine Qc (QF (by omega) ?_)
  have J' := j.pushA W (by omega) hle
  by_cases e : (ia + 1 + 1 == a.size) = true
  · rw [if_pos e]
    simp only [beq_iff_eq] at e
    exact Qe ⟨rfl, .inl ⟨_, rfl, J'.doneL W hT e⟩⟩
  · rw [if_neg e]
    simp only [beq_iff_eq] at e
    have k : GaL f a b n (none, out.push a[ia], ia + 1, ib, mg, ac, bc) := ⟨rfl, ⟨J', by dsimp only; omega, h2⟩, by dsimp only; omega⟩
    split
    · exact Qe ⟨rfl, .inr k⟩
    · exact Qe ⟨rfl, k⟩
include W hT in
theorem GI {out : Array Keyed} {ia ib mg ac bc n : Nat} {st : SortSt} (hc : Cmp prog w A s κ M f) (hk : kindOf st = κ) (j : Ja f a b out ia ib) (h1 : ia + 1 < a.size) (h2 : ib < b.size) (hn : n ≤ ia + ib) (hle : ∀ j (hj : j < a.size), ia ≤ j → f b[ib] ≤ f a[j]) :
    T prog w A E s (Qb8 a b out ia ib mg ac bc) (fun r st' => st' = st ∧ GaR f a b n r) st := by
  unfold Qb8
  refine Qc (QF h2 ?_)
  have J' := j.pushB W h2 hle
  by_cases e : (ib + 1 == b.size) = true
  · rw [if_pos e]
    simp only [beq_iff_eq] at e
    exact Qe ⟨rfl, .inl ⟨_, rfl, J'.doneB W (by omega)⟩⟩
  · rw [if_neg e]
    simp only [beq_iff_eq] at e
    refine Qc (QF (by omega) (Qc (ZO hc hk (W.ma _ _) (by omega) (by omega) W.mb (fun i j hi hj _ hij _ => bLe W hi hj hij) fun k hk1 hb1 hb2 => ?_)))
    dsimp only
    have lo : ∀ i (hi : i < b.size), i < ib + 1 + k → f b[i] ≤ f a[ia] := by
      intro i hi hik
      by_cases hib : i ≤ ib
      · have q1 := bLe W hi h2 hib
        have q2 := hle ia (by omega) (Nat.le_refl _)
        omega
      · have := hb1 (i - (ib + 1)) (by omega) (by omega)
        simp only [bey, if_true, decide_eq_true_eq, show ib + 1 + (i - (ib + 1)) = i by omega] at this
        omega
    have hi' : ∀ j (hj : j < b.size), ib + 1 + k ≤ j → f a[ia] ≤ f b[j] := by
      intro j hj hjk
      have := hb2 (j - (ib + 1)) (by omega) (by omega) (by omega)
      simp only [bey, if_true, decide_eq_false_iff_not, show ib + 1 + (j - (ib + 1)) = j by omega] at this
      omega
    by_cases hk0 : k > 0
    · rw [if_pos hk0]
      have J2 := J'.manyB W k fun i hi hik j hj hij => by have q1 := lo i hi hik; have q2 := aLe W (by omega) hj hij; omega
      by_cases e2 : (ib + 1 + k == b.size) = true
      · rw [if_pos e2]
        simp only [beq_iff_eq] at e2
        exact Qe ⟨rfl, .inl ⟨_, rfl, J2.doneB W (by omega)⟩⟩
      · rw [if_neg e2]
        simp only [beq_iff_eq] at e2
        exact GM W hT J2 h1 (by omega) (by omega) hi'
    · rw [if_neg hk0]
      have : k = 0 := by omega
      subst this
      exact GM W hT J' h1 (by omega) (by omega) hi'
include W hT in
theorem QcO {out : Array Keyed} {ia ib mg ac bc n : Nat} {st st0 : SortSt} (hc : Cmp prog w A s κ M f) (hk : kindOf st0 = κ) (hg : Sg st0 st) (L : Lv f a b out ia ib) (hn : n ≤ ia + ib) :
    T prog w A E s (QbK a b out ia ib mg ac bc) (fun r st' => Sg st0 st' ∧ GaR f a b n r) st := by
  have h1 := L.ia
  have h2 := L.ib
  unfold QbK
  refine Qc (QT (Qc (QF h2 (Qc (ZO hc ((hg.set mg).kind.trans hk) (W.mb _ _) (by omega) (by omega) W.ma (fun i j hi hj _ hij _ => aLe W hi hj hij) fun k hk1 hb1 hb2 => ?_)))))
  dsimp only
  have lo : ∀ i (hi : i < a.size), i < ia + k → 0 < k → f a[i] ≤ f b[ib] := by
    intro i hi hik hk0
    have q := hb1 (max i ia - ia) (by omega) (by omega)
    simp only [bey, Bool.false_eq_true, if_false, Bool.not_eq_true', decide_eq_false_iff_not, show ia + (max i ia - ia) = max i ia by omega] at q
    have := aLe W hi (show max i ia < a.size by omega) (by omega)
    omega
  have hi' : ∀ j (hj : j < a.size), ia + k ≤ j → f b[ib] ≤ f a[j] := by
    intro j hj hjk
    have := hb2 (j - ia) (by omega) (by omega) (by omega)
    simp only [bey, Bool.false_eq_true, if_false, Bool.not_eq_false', decide_eq_true_eq, show ia + (j - ia) = j by omega] at this
    omega
  have fin : ∀ {m : StateT SortSt Sem (ForInStep GaS)}, T prog w A E s m (fun r st' => st' = VX mg st ∧ GaR f a b n r) (VX mg st) → T prog w A E s m (fun r st' => Sg st0 st' ∧ GaR f a b n r) (VX mg st) :=
    fun h => Qz h fun r st' ⟨e, q⟩ => ⟨e ▸ hg.set mg, q⟩
  by_cases hk0 : k > 0
  · rw [if_pos hk0]
    have J2 := L.j.manyA W k fun i hi hik j hj hij => by have q1 := lo i hi hik hk0; have q2 := bLe W h2 hj hij; omega
    by_cases e2 : (ia + k + 1 == a.size) = true
    · rw [if_pos e2]
      simp only [beq_iff_eq] at e2
      exact Qe ⟨hg.set mg, .inl ⟨_, rfl, J2.doneL W hT e2⟩⟩
    · rw [if_neg e2]
      simp only [beq_iff_eq] at e2
      by_cases e3 : (ia + k == a.size) = true
      · rw [if_pos e3]
        simp only [beq_iff_eq] at e3
        exact Qe ⟨hg.set mg, .inl ⟨_, rfl, J2.doneA W (by omega)⟩⟩
      · rw [if_neg e3]
        simp only [beq_iff_eq] at e3
        exact fin (GI W hT hc ((hg.set mg).kind.trans hk) J2 (by omega) h2 (by omega) hi')
  · rw [if_neg hk0]
    have : k = 0 := by omega
    subst this
    exact fin (GI W hT hc ((hg.set mg).kind.trans hk) L.j (by omega) h2 (by omega) hi')
include W hT in
theorem QaI {i n : Nat} {t : LoS} {st st0 : SortSt} (hc : Cmp prog w A s κ M f) (hk : kindOf st0 = κ) (hg : Sg st0 st) (h : t.1 = none ∧ Lv f a b t.2.1 t.2.2.1 t.2.2.2.1 ∧ n ≤ t.2.2.1 + t.2.2.2.1) :
    T prog w A E s (U3 a b i t) (fun r st' => Sg st0 st' ∧ match r with | .done c => ∃ r, c.1 = some r ∧ Ro f a b r | .yield c => c.1 = none ∧ Lv f a b c.2.1 c.2.2.1 c.2.2.2.1 ∧ n + 1 ≤ c.2.2.1 + c.2.2.2.1) st := by
  obtain ⟨_, out, ia, ib, mg⟩ := t
  obtain ⟨rfl, L, hn⟩ := h
  dsimp only at L hn
  have h1 := L.ia
  unfold U3
  refine Qc (Qz (ZY (I := fun x c st' => st' = st ∧ c.1 = none ∧ Lv f a b c.2.1 c.2.2.1 c.2.2.2.1 ∧ n + x ≤ c.2.2.1 + c.2.2.2.1) (Q := fun c st' => st' = st ∧ InP f a b (n + 1) c) ?_ ?_ ⟨rfl, rfl, L, hn⟩) ?_)
  · rintro x c st' _ _ ⟨rfl, hI⟩
    refine Qz (Qcj W hT hc (hg.kind.trans hk) hI) ?_
    rintro (c' | c') st2 ⟨rfl, q⟩
    · refine ⟨rfl, ?_⟩
      rcases q with q | ⟨q1, q2, q3⟩
      · exact .inl q
      · exact .inr ⟨q1, q2, by omega⟩
    · exact ⟨rfl, q.1, q.2.1, by have := q.2.2; omega⟩
  · rintro c st' ⟨rfl, q1, q2, q3⟩
    exact ⟨rfl, .inr ⟨q1, q2, by omega⟩⟩
  · rintro ⟨c1, out1, ia1, ib1, ac1, bc1⟩ st' ⟨rfl, q⟩
    rcases q with ⟨r, q1, q2⟩ | ⟨q1, L1, q3⟩
    · dsimp only at q1
      subst q1
      exact Qe ⟨hg, r, rfl, q2⟩
    · dsimp only at q1 L1 q3
      subst q1
      dsimp only
      refine Qc (Vm ?_)
      refine Qc (Qz (ZY (I := fun x c st' => Sg st0 st' ∧ GaL f a b (n + 1) c) (Q := fun c st' => Sg st0 st' ∧ GaP f a b (n + 1) c) ?_ ?_ ⟨hg, rfl, L1, q3⟩) ?_)
      · rintro x c st2 _ _ ⟨hg2, hI⟩
        unfold Qeb
        split
        all_goals
          refine Qz (QcO W hT hc hk hg2 hI.2.1 hI.2.2) ?_
          rintro (c' | c') st3 q
          · exact q
          · exact q
      · exact fun c st2 q => ⟨q.1, .inr q.2⟩
      · rintro ⟨c2, out2, ia2, ib2, mg2, ac2, bc2⟩ st2 ⟨hg2, q⟩
        rcases q with ⟨r, q1, q2⟩ | ⟨q1, L2, q3⟩
        · dsimp only at q1
          subst q1
          exact Qe ⟨hg2, r, rfl, q2⟩
        · dsimp only at q1 L2 q3
          subst q1
          exact Qc (QT (Qe ⟨hg2.set _, rfl, L2, q3⟩))
include W hT in
theorem Wc {P : Array Keyed → SortSt → Prop} {st : SortSt} (hc : Cmp prog w A s κ M f) (hk : kindOf st = κ) (ha : 0 < a.size) (hb : 0 < b.size) (h0 : f b[0] ≤ f a[0])
    (h : ∀ r st', Sg st st' → Ro f a b r → P r st') : T prog w A E s (JK a b) P st := by
  rw [Yg]
  refine Qc (Vm (Qc (QF hb ?_)))
  have j0 : Ja f a b #[] 0 0 := ⟨by simp, by simp, by simp, by simp⟩
  have j1 : Ja f a b #[b[0]] 0 1 := j0.pushB W hb fun j hj _ => by have := aLe W ha hj (Nat.zero_le _); omega
  by_cases e : (1 == b.size) = true
  · rw [if_pos e]
    simp only [beq_iff_eq] at e
    exact Qe (h _ _ (Sg.refl _) (j1.doneB W (by omega)))
  · rw [if_neg e]
    simp only [beq_iff_eq] at e
    by_cases e2 : (0 + 1 == a.size) = true
    · rw [if_pos e2]
      simp only [beq_iff_eq] at e2
      exact Qe (h _ _ (Sg.refl _) (j1.doneL W hT (by omega)))
    · rw [if_neg e2]
      simp only [beq_iff_eq] at e2
      refine Qc (Vh (Qc (Qz (ZY (I := fun x c st' => Sg st st' ∧ c.1 = none ∧ Lv f a b c.2.1 c.2.2.1 c.2.2.2.1 ∧ x + 1 ≤ c.2.2.1 + c.2.2.2.1) (Q := fun c st' => Sg st st' ∧ ∃ r, c.1 = some r ∧ Ro f a b r) ?_ ?_ ⟨Sg.refl _, rfl, ⟨j1, by dsimp only; omega, by dsimp only; omega⟩, by dsimp only; omega⟩) ?_)))
      · rintro x c st' _ _ ⟨hg, hI⟩
        refine Qz (QaI W hT hc hk hg hI) ?_
        rintro (c' | c') st2 q
        · exact q
        · exact q
      · rintro c st' ⟨_, _, L, q⟩
        have := L.ia
        have := L.ib
        omega
      · rintro ⟨c1, c2⟩ st' ⟨hg, r, q1, q2⟩
        dsimp only at q1
        subst q1
        exact Qe (h _ _ hg q2)
end
end Ts

namespace Ts
open PySem PySem.Spec PyProof.Rows PySem.W
set_option autoImplicit false
noncomputable abbrev HiS := Option (Array Keyed) × Nat × Nat × Array Keyed × Nat
noncomputable abbrev HnS := Option (Array Keyed) × Nat × Nat × Array Keyed × Nat × Nat
noncomputable abbrev HgS := Option (Array Keyed) × Nat × Nat × Array Keyed × Nat × Nat × Nat
section
variable (a b : Array Keyed)
noncomputable def hD (out : Array Keyed) (na nb : Nat) : Array Keyed := a.extract 0 na ++ b.extract 0 nb ++ out.reverse
noncomputable def hF (out : Array Keyed) (na nb : Nat) : Array Keyed := b.extract 0 nb ++ a.extract 0 na ++ out.reverse
noncomputable def Qc7 (mg : Nat) (_ : Nat) (s : HnS) : StateT SortSt Sem (ForInStep HnS) := do
  let y ← elem' b (s.2.2.1 - 1)
  let x ← elem' a (s.2.1 - 1)
  match ← lt' y x with
  | some aWins =>
    if aWins = true then do
      let x ← elem' a (s.2.1 - 1)
      if (s.2.1 - 1 == 0) = true then pure (.done (some (hD a b (s.2.2.2.1.push x) (s.2.1 - 1) s.2.2.1), s.2.1 - 1, s.2.2.1, s.2.2.2.1.push x, s.2.2.2.2.1 + 1, 0))
      else if s.2.2.2.2.1 + 1 ≥ mg then pure (.done (none, s.2.1 - 1, s.2.2.1, s.2.2.2.1.push x, s.2.2.2.2.1 + 1, 0))
      else pure (.yield (none, s.2.1 - 1, s.2.2.1, s.2.2.2.1.push x, s.2.2.2.2.1 + 1, 0))
    else do
      let y ← elem' b (s.2.2.1 - 1)
      if (s.2.2.1 - 1 == 1) = true then pure (.done (some (hF a b (s.2.2.2.1.push y) s.2.1 (s.2.2.1 - 1)), s.2.1, s.2.2.1 - 1, s.2.2.2.1.push y, 0, s.2.2.2.2.2 + 1))
      else if s.2.2.2.2.2 + 1 ≥ mg then pure (.done (none, s.2.1, s.2.2.1 - 1, s.2.2.2.1.push y, 0, s.2.2.2.2.2 + 1))
      else pure (.yield (none, s.2.1, s.2.2.1 - 1, s.2.2.2.1.push y, 0, s.2.2.2.2.2 + 1))
  | _ => pure (.done (some (hD a b s.2.2.2.1 s.2.1 s.2.2.1), s.2.1, s.2.2.1, s.2.2.2.1, s.2.2.2.2.1, s.2.2.2.2.2))
noncomputable def QcC (na nb : Nat) (out : Array Keyed) (mg ac bc : Nat) : StateT SortSt Sem (ForInStep HgS) := do
  let x ← elem' a (na - 1)
  if (na - 1 == 0) = true then pure (.done (some (hD a b (out.push x) (na - 1) nb), na - 1, nb, out.push x, mg, ac, bc))
  else if (decide (ac < 7) && decide (bc < 7)) = true then pure (.done (none, na - 1, nb, out.push x, mg, ac, bc))
  else pure (.yield (none, na - 1, nb, out.push x, mg, ac, bc))
noncomputable def Qcg (na nb : Nat) (out : Array Keyed) (mg ac bc : Nat) : StateT SortSt Sem (ForInStep HgS) := do
  let y ← elem' b (nb - 1)
  if (nb - 1 == 1) = true then pure (.done (some (hF a b (out.push y) na (nb - 1)), na, nb - 1, out.push y, mg, ac, bc))
  else do
    let x ← elem' a (na - 1)
    match ← Q0 true x b 0 (nb - 1) (nb - 1 - 1) with
    | some k =>
      if nb - 1 - k > 0 then
        if (k == 1) = true then pure (.done (some (hF a b (out.push y ++ (b.extract k (nb - 1)).reverse) na k), na, k, out.push y ++ (b.extract k (nb - 1)).reverse, mg, ac, nb - 1 - k))
        else if (k == 0) = true then pure (.done (some (hD a b (out.push y ++ (b.extract k (nb - 1)).reverse) na k), na, k, out.push y ++ (b.extract k (nb - 1)).reverse, mg, ac, nb - 1 - k))
        else QcC a b na k (out.push y ++ (b.extract k (nb - 1)).reverse) mg ac (nb - 1 - k)
      else QcC a b na (nb - 1) (out.push y) mg ac (nb - 1 - k)
    | _ => pure (.done (some (hD a b (out.push y) na (nb - 1)), na, nb - 1, out.push y, mg, ac, bc))
noncomputable def QbT (na nb : Nat) (out : Array Keyed) (mg ac bc : Nat) : StateT SortSt Sem (ForInStep HgS) := do
  modify (VX mg)
  let y ← elem' b (nb - 1)
  match ← Q0 false y a 0 na (na - 1) with
  | some k =>
    if na - k > 0 then
      if (k == 0) = true then pure (.done (some (hD a b (out ++ (a.extract k na).reverse) k nb), k, nb, out ++ (a.extract k na).reverse, mg, na - k, bc))
      else Qcg a b k nb (out ++ (a.extract k na).reverse) mg (na - k) bc
    else Qcg a b na nb out mg (na - k) bc
  | _ => pure (.done (some (hD a b out na nb), na, nb, out, mg, ac, bc))
noncomputable def QdE (_ : Nat) (s : HgS) : StateT SortSt Sem (ForInStep HgS) :=
  if s.2.2.2.2.1 > 1 then QbT a b s.2.1 s.2.2.1 s.2.2.2.1 (s.2.2.2.2.1 - 1) s.2.2.2.2.2.1 s.2.2.2.2.2.2 else QbT a b s.2.1 s.2.2.1 s.2.2.2.1 s.2.2.2.2.1 s.2.2.2.2.2.1 s.2.2.2.2.2.2
noncomputable def U8 (_ : Nat) (s : HiS) : StateT SortSt Sem (ForInStep HiS) := do
  let t ← forIn [0:a.size + b.size] ((none, s.2.1, s.2.2.1, s.2.2.2.1, 0, 0) : HnS) (Qc7 a b s.2.2.2.2)
  match t.1 with
  | some r => pure (.done (some r, t.2.1, t.2.2.1, t.2.2.2.1, s.2.2.2.2))
  | none => do
    rule "list.sort.gallop"
    let u ← forIn [0:a.size + b.size] ((none, t.2.1, t.2.2.1, t.2.2.2.1, s.2.2.2.2 + 1, t.2.2.2.2.1, t.2.2.2.2.2) : HgS) (QdE a b)
    match u.1 with
    | some r => pure (.done (some r, u.2.1, u.2.2.1, u.2.2.2.1, u.2.2.2.2.1))
    | none => do
      modify (VX (u.2.2.2.2.1 + 1))
      pure (.yield (none, u.2.1, u.2.2.1, u.2.2.2.1, u.2.2.2.2.1 + 1))
set_option maxRecDepth 10000 in
set_option maxHeartbeats 400000 in
theorem YE : JI a b = (do
  rule "list.sort.merge-hi"
  let x ← elem' a (a.size - 1)
  if (a.size - 1 == 0) = true then pure (hD a b #[x] (a.size - 1) b.size)
  else if (b.size == 1) = true then pure (hF a b #[x] (a.size - 1) b.size)
  else do
    let st ← get
    let t ← forIn [0:a.size + b.size] ((none, a.size - 1, b.size, #[x], gallopOf st) : HiS) (U8 a b)
    match t.1 with
    | some r => pure r
    | none => unsupported "internal:list.sort.merge-bound") := by
  rw [Kf]
  unfold U8 QdE QbT Qcg QcC Qc7 hD hF
  dsimp only
  refine congrArg (bind _) (funext fun _ => congrArg (bind _) (funext fun y => congrArg (ite _ _) (congrArg (ite _ _) (congrArg (bind _) (funext fun st => congr (congrArg bind ?_) ?_)))))
  · refine congrArg (forIn _ _) (funext fun _ => funext fun s => ?_)
    refine congr (congrArg bind ?_) (funext fun t => ?_)
    · refine congrArg (forIn _ _) (funext fun _ => funext fun t => ?_)
      (repeat' (first | (with_reducible rfl) | ((with_reducible refine QJ ?_ fun _ => ?_) <;> dsimp only) | (with_reducible refine Qo fun _ => ?_) | (with_reducible refine Qx ?_ ?_)))
    · obtain ⟨_ | r, t⟩ := t
      · refine congrArg (bind _) (funext fun _ => congr (congrArg bind ?_) (funext fun u => ?_))
        · refine congrArg (forIn _ _) (funext fun _ => funext fun t => ?_)
          (repeat' (first | (with_reducible rfl) | ((with_reducible refine QJ ?_ fun _ => ?_) <;> dsimp only) | (with_reducible refine Qo fun _ => ?_) | (with_reducible refine Qx ?_ ?_)))
        · obtain ⟨_ | r, u⟩ := u <;> rfl
      · rfl
  · funext t
    obtain ⟨_ | r, t⟩ := t <;> rfl
end
section
variable {f : Keyed → Int} {M : Keyed → Prop} {a b : Array Keyed}
noncomputable def Jh (f : Keyed → Int) (a b out : Array Keyed) (na nb : Nat) : Prop := J (fun x => - f x) a.toList.reverse b.toList.reverse out.toList (a.size - na) (b.size - nb)
theorem XB {l : List Keyed} (h : l.Pairwise fun x y => f x ≤ f y) : l.reverse.Pairwise fun x y => (fun x => - f x) x ≤ (fun x => - f x) y := by
  rw [List.pairwise_reverse]
  exact h.imp fun {x y} q => by dsimp only; omega
theorem QU (a : Array Keyed) {n : Nat} (h : n ≤ a.size) : a.toList.reverse.drop (a.size - n) = (a.toList.take n).reverse := by
  rw [List.drop_reverse, Array.length_toList, show a.size - (a.size - n) = n by omega]
theorem YM (a : Array Keyed) {k n : Nat} (hk : k ≤ n) (h : n ≤ a.size) : (a.toList.reverse.drop (a.size - n)).take (n - k) = (a.extract k n).toList.reverse := by
  rw [QU a h, List.take_reverse, List.length_take, Array.length_toList, Nat.min_eq_left h, show n - (n - k) = k by omega, Array.toList_extract, List.extract_eq_take_drop, List.drop_take]
theorem Out.rev {la lb r : List Keyed} (h : Out (fun x => - f x) la.reverse lb.reverse r) : Out f la lb r.reverse := by
  refine ⟨(List.reverse_perm r).trans (h.1.trans ((List.reverse_perm la).append (List.reverse_perm lb))), ?_⟩
  rw [List.pairwise_reverse]
  exact h.2.imp fun {x y} q => by dsimp only at q; omega
theorem Out.comm {la lb r : List Keyed} (h : Out f la lb r) : Out f lb la r := ⟨h.1.trans List.perm_append_comm, h.2⟩
theorem Vb {l : List Keyed} {n : Nat} {x : Keyed} (h : x ∈ l.take n) : ∃ j, ∃ hj : j < l.length, j < n ∧ x = l[j] := by
  obtain ⟨k, hk, e⟩ := List.mem_iff_getElem.mp h
  rw [List.length_take] at hk
  rw [List.getElem_take] at e
  exact ⟨k, by omega, by omega, e.symm⟩
variable (W : Two f M a b)
include W in
theorem Jh.manyA {out : Array Keyed} {k na nb : Nat} (h : Jh f a b out na nb) (hk : k ≤ na) (hn : na ≤ a.size) (hb : nb ≤ b.size) (hc : ∀ i (hi : i < a.size), k ≤ i → i < na → ∀ j (hj : j < b.size), j < nb → f b[j] ≤ f a[i]) : Jh f a b (out ++ (a.extract k na).reverse) k nb := by
  unfold Jh
  have q := J.chunk h (XB W.sa) (na - k)
  rw [YM a hk hn, show a.size - na + (na - k) = a.size - k by omega] at q
  rw [Array.toList_append, Array.toList_reverse]
  refine q fun x hx y hy => ?_
  rw [List.mem_reverse, Array.toList_extract, List.extract_eq_take_drop] at hx
  rw [QU b hb, List.mem_reverse] at hy
  obtain ⟨i, hi, h1, h2, rfl⟩ := ZH hx
  obtain ⟨j, hj, h3, rfl⟩ := Vb hy
  have := hc i (by simpa using hi) h1 (by omega) j (by simpa using hj) h3
  show - f a[i] ≤ - f b[j]
  omega
include W in
theorem Jh.manyB {out : Array Keyed} {k na nb : Nat} (h : Jh f a b out na nb) (hk : k ≤ nb) (hn : na ≤ a.size) (hb : nb ≤ b.size) (hc : ∀ i (hi : i < b.size), k ≤ i → i < nb → ∀ j (hj : j < a.size), j < na → f a[j] ≤ f b[i]) : Jh f a b (out ++ (b.extract k nb).reverse) na k := by
  have W' : Two f M b a := ⟨W.mb, W.ma, W.sb, W.sa⟩
  exact J.swap (Jh.manyA (a := b) (b := a) W' (J.swap h) hk hb hn hc)
theorem YQ (a : Array Keyed) {n : Nat} (h1 : 0 < n) (h : n ≤ a.size) (out : Array Keyed) : out ++ (a.extract (n - 1) n).reverse = out.push a[n - 1] := by
  apply Array.ext'
  rw [Array.toList_append, Array.toList_reverse, Array.toList_push, Array.toList_extract, List.extract_eq_take_drop, show n - (n - 1) = 1 by omega, Ya (by simpa using by omega)]
  rfl
include W in
theorem Jh.pushA {out : Array Keyed} {na nb : Nat} (h : Jh f a b out na nb) (h1 : 0 < na) (hn : na ≤ a.size) (hb : nb ≤ b.size) (hc : ∀ j (hj : j < b.size), j < nb → f b[j] ≤ f a[na - 1]) : Jh f a b (out.push a[na - 1]) (na - 1) nb := by
  rw [← YQ a h1 hn out]
  refine h.manyA W (by omega) hn hb fun i hi h2 h3 j hj h4 => ?_
  have : i = na - 1 := by omega
  subst this
  exact hc j hj h4
include W in
theorem Jh.pushB {out : Array Keyed} {na nb : Nat} (h : Jh f a b out na nb) (h1 : 0 < nb) (hn : na ≤ a.size) (hb : nb ≤ b.size) (hc : ∀ j (hj : j < a.size), j < na → f a[j] ≤ f b[nb - 1]) : Jh f a b (out.push b[nb - 1]) na (nb - 1) := by
  rw [← YQ b h1 hb out]
  refine h.manyB W (by omega) hn hb fun i hi h2 h3 j hj h4 => ?_
  have : i = nb - 1 := by omega
  subst this
  exact hc j hj h4
theorem Yz (a : Array Keyed) (n : Nat) : (a.extract 0 n).toList = a.toList.take n := by simp [List.extract_eq_take_drop]
include W in
theorem Jh.doneA {out : Array Keyed} {na nb : Nat} (h : Jh f a b out na nb) (h0 : na = 0) (hb : nb ≤ b.size) : Ro f a b (hD a b out na nb) := by
  subst h0
  have q := (J.endA h (XB W.sb) (by simp)).rev
  rw [QU b hb, QU a (Nat.zero_le _)] at q
  unfold Ro hD
  rw [Array.toList_append, Array.toList_append, Array.toList_reverse, Yz, Yz]
  simpa using q
include W in
theorem Jh.doneB {out : Array Keyed} {na : Nat} (h : Jh f a b out na 0) (hn : na ≤ a.size) : Ro f a b (hD a b out na 0) := by
  have q := (J.endB h (XB W.sa) (by simp)).rev
  rw [QU a hn, QU b (Nat.zero_le _)] at q
  unfold Ro hD
  rw [Array.toList_append, Array.toList_append, Array.toList_reverse, Yz, Yz]
  simpa using q
noncomputable def Bot (f : Keyed → Int) (a b : Array Keyed) : Prop := ∀ i (h : i < b.size), i = 0 → ∀ x ∈ a.toList, f b[i] ≤ f x
include W in
theorem Jh.doneF {out : Array Keyed} {na nb : Nat} (hB : Bot f a b) (h : Jh f a b out na nb) (hn : na ≤ a.size) (h1 : nb = 1) (hb : nb ≤ b.size) : Ro f a b (hF a b out na nb) := by
  have q := (J.lastA (J.swap h) (XB W.sb) (XB W.sa) fun x hx y hy => ?_).comm.rev
  · rw [QU a hn, QU b hb] at q
    unfold Ro hF
    rw [Array.toList_append, Array.toList_append, Array.toList_reverse, Yz, Yz]
    simpa using q
  · rw [QU a hn, List.mem_reverse] at hx
    rw [QU b hb, List.mem_reverse] at hy
    obtain ⟨j, hj, h3, rfl⟩ := Vb hy
    have := hB j (by simpa using hj) (by omega) x (List.mem_of_mem_take hx)
    show - f x ≤ - f b[j]
    omega
end
end Ts

namespace Ts
open PySem PySem.Spec PyProof.Rows PySem.W
set_option autoImplicit false
section
variable {prog : Program} {w : World} {A : Around} {E : Value → Shared → Prop} {s : Shared} {κ : SortKind} {M : Keyed → Prop} {f : Keyed → Int} {a b : Array Keyed}
structure Lh (f : Keyed → Int) (a b : Array Keyed) (na nb : Nat) (out : Array Keyed) (n : Nat) : Prop where
  j : Jh f a b out na nb
  a1 : 0 < na
  a2 : na ≤ a.size
  b1 : 1 < nb
  b2 : nb ≤ b.size
  n : n ≤ (a.size - na) + (b.size - nb)
noncomputable def HL (f : Keyed → Int) (a b : Array Keyed) (n : Nat) (t : HnS) : Prop := t.1 = none ∧ Lh f a b t.2.1 t.2.2.1 t.2.2.2.1 n
noncomputable def HP (f : Keyed → Int) (a b : Array Keyed) (n : Nat) (t : HnS) : Prop := (∃ r, t.1 = some r ∧ Ro f a b r) ∨ HL f a b n t
noncomputable def HgL (f : Keyed → Int) (a b : Array Keyed) (n : Nat) (t : HgS) : Prop := t.1 = none ∧ Lh f a b t.2.1 t.2.2.1 t.2.2.2.1 n
noncomputable def HgP (f : Keyed → Int) (a b : Array Keyed) (n : Nat) (t : HgS) : Prop := (∃ r, t.1 = some r ∧ Ro f a b r) ∨ HgL f a b n t
noncomputable def HgR (f : Keyed → Int) (a b : Array Keyed) (n : Nat) (r : ForInStep HgS) : Prop := match r with | .done c => HgP f a b n c | .yield c => HgL f a b n c
variable (W : Two f M a b) (hB : Bot f a b)
include W hB in
theorem Qcy {mg i n : Nat} {t : HnS} {st : SortSt} (hc : Cmp prog w A s κ M f) (hk : kindOf st = κ) (h : HL f a b n t) :
    T prog w A E s (Qc7 a b mg i t) (fun r st' => st' = st ∧ match r with | .done c => HP f a b (n + 1) c | .yield c => HL f a b (n + 1) c) st := by
  obtain ⟨_, na, nb, out, ac, bc⟩ := t
  obtain ⟨rfl, L⟩ := h
  dsimp only at L
  obtain ⟨j, a1, a2, b1, b2, hn⟩ := L
  unfold Qc7
  dsimp only
  refine Qc (QF (by omega) (Qc (QF (by omega) (Qc (QcY hc hk (W.mb _ _) (W.ma _ _) ?_)))))
  by_cases hlt : f b[nb - 1] < f a[na - 1]
  · rw [decide_eq_true hlt]
    dsimp only
    rw [if_pos rfl]
    refine Qc (QF (by omega) ?_)
    have J' := j.pushA W a1 a2 b2 fun j hj hij => by have := bLe W hj (show nb - 1 < b.size by omega) (by omega); omega
    by_cases e : (na - 1 == 0) = true
    · rw [if_pos e]
      simp only [beq_iff_eq] at e
      exact Qe ⟨rfl, .inl ⟨_, rfl, J'.doneA W e b2⟩⟩
    · rw [if_neg e]
      simp only [beq_iff_eq] at e
      have k : Lh f a b (na - 1) nb (out.push a[na - 1]) (n + 1) := ⟨J', by omega, by omega, b1, b2, by omega⟩
      split
      · exact Qe ⟨rfl, .inr ⟨rfl, k⟩⟩
      · exact Qe ⟨rfl, rfl, k⟩
  · rw [decide_eq_false hlt]
    dsimp only
    rw [if_neg (by simp)]
    refine Qc (QF (by omega) ?_)
    have J' := j.pushB W (by omega) a2 b2 fun j hj hij => by have := aLe W hj (show na - 1 < a.size by omega) (by omega); omega
    by_cases e : (nb - 1 == 1) = true
    · rw [if_pos e]
      simp only [beq_iff_eq] at e
      exact Qe ⟨rfl, .inl ⟨_, rfl, J'.doneF W hB a2 e (by omega)⟩⟩
    · rw [if_neg e]
      simp only [beq_iff_eq] at e
      have k : Lh f a b na (nb - 1) (out.push b[nb - 1]) (n + 1) := ⟨J', a1, a2, by omega, by omega, by omega⟩
      split
      · exact Qe ⟨rfl, .inr ⟨rfl, k⟩⟩
      · exact Qe ⟨rfl, rfl, k⟩
include W in
theorem Gq {out : Array Keyed} {na nb mg ac bc n : Nat} {st : SortSt} (L : Lh f a b na nb out n) (ha : na - 1 < a.size) (hle : ∀ j (hj : j < b.size), j < nb → f b[j] ≤ f a[na - 1]) :
    T prog w A E s (QcC a b na nb out mg ac bc) (fun r st' => st' = st ∧ HgR f a b n r) st := by
  obtain ⟨j, a1, a2, b1, b2, hn⟩ := L
  unfold QcC
  refine Qc (QF (by omega) ?_)
  have J' := j.pushA W a1 a2 b2 hle
  by_cases e : (na - 1 == 0) = true
  · rw [if_pos e]
    simp only [beq_iff_eq] at e
    exact Qe ⟨rfl, .inl ⟨_, rfl, J'.doneA W e b2⟩⟩
  · rw [if_neg e]
    simp only [beq_iff_eq] at e
    have k : Lh f a b (na - 1) nb (out.push a[na - 1]) n := ⟨J', by omega, by omega, b1, b2, by omega⟩
    split
    · exact Qe ⟨rfl, .inr ⟨rfl, k⟩⟩
    · exact Qe ⟨rfl, rfl, k⟩
include W hB in
theorem GH {out : Array Keyed} {na nb mg ac bc n : Nat} {st : SortSt} (hc : Cmp prog w A s κ M f) (hk : kindOf st = κ) (L : Lh f a b na nb out n) (hb' : nb - 1 < b.size) (hle : ∀ j (hj : j < a.size), j < na → f a[j] ≤ f b[nb - 1]) :
    T prog w A E s (Qcg a b na nb out mg ac bc) (fun r st' => st' = st ∧ HgR f a b n r) st := by
  obtain ⟨j, a1, a2, b1, b2, hn⟩ := L
  unfold Qcg
  refine Qc (QF (by omega) ?_)
  have J' := j.pushB W (by omega) a2 b2 hle
  by_cases e : (nb - 1 == 1) = true
  · rw [if_pos e]
    simp only [beq_iff_eq] at e
    exact Qe ⟨rfl, .inl ⟨_, rfl, J'.doneF W hB a2 e (by omega)⟩⟩
  · rw [if_neg e]
    simp only [beq_iff_eq] at e
    refine Qc (QF (by omega) (Qc (ZO hc hk (W.ma _ _) (by omega) (by omega) W.mb (fun i j hi hj _ hij _ => bLe W hi hj hij) fun k hk1 hb1 hb2 => ?_)))
    dsimp only
    have lo : ∀ i (hi : i < b.size), i < k → f b[i] ≤ f a[na - 1] := by
      intro i hi hik
      have := hb1 i (by omega) hik
      simp only [bey, if_true, decide_eq_true_eq, Nat.zero_add] at this
      omega
    have hi' : ∀ j (hj : j < b.size), k ≤ j → j < nb - 1 → f a[na - 1] ≤ f b[j] := by
      intro j hj hjk hj2
      have := hb2 j (by omega) hjk hj2
      simp only [bey, if_true, decide_eq_false_iff_not, Nat.zero_add] at this
      omega
    by_cases hk0 : nb - 1 - k > 0
    · rw [if_pos hk0]
      have J2 := J'.manyB W (k := k) (by omega) a2 (by omega) fun i hi h1 h2 j hj hij => by have q1 := hi' i hi h1 h2; have q2 := aLe W hj (show na - 1 < a.size by omega) (by omega); omega
      by_cases e2 : (k == 1) = true
      · rw [if_pos e2]
        simp only [beq_iff_eq] at e2
        exact Qe ⟨rfl, .inl ⟨_, rfl, J2.doneF W hB a2 e2 (by omega)⟩⟩
      · rw [if_neg e2]
        simp only [beq_iff_eq] at e2
        by_cases e3 : (k == 0) = true
        · rw [if_pos e3]
          simp only [beq_iff_eq] at e3
          subst e3
          exact Qe ⟨rfl, .inl ⟨_, rfl, J2.doneB W a2⟩⟩
        · rw [if_neg e3]
          simp only [beq_iff_eq] at e3
          exact Gq W ⟨J2, a1, a2, by omega, by omega, by omega⟩ (by omega) fun j hj h => lo j hj h
    · rw [if_neg hk0]
      exact Gq W ⟨J', a1, a2, by omega, by omega, by omega⟩ (by omega) fun j hj h => lo j hj (by omega)
include W hB in
theorem QcR {out : Array Keyed} {na nb mg ac bc n : Nat} {st st0 : SortSt} (hc : Cmp prog w A s κ M f) (hk : kindOf st0 = κ) (hg : Sg st0 st) (L : Lh f a b na nb out n) :
    T prog w A E s (QbT a b na nb out mg ac bc) (fun r st' => Sg st0 st' ∧ HgR f a b n r) st := by
  have L' := L
  obtain ⟨j, a1, a2, b1, b2, hn⟩ := L
  unfold QbT
  refine Qc (QT (Qc (QF (by omega) (Qc (ZO hc ((hg.set mg).kind.trans hk) (W.mb _ _) (by omega) (by omega) W.ma (fun i j hi hj _ hij _ => aLe W hi hj hij) fun k hk1 hb1 hb2 => ?_)))))
  dsimp only
  have lo : ∀ i (hi : i < a.size), i < k → f a[i] ≤ f b[nb - 1] := by
    intro i hi hik
    have q := hb1 i (by omega) hik
    simp only [bey, Bool.false_eq_true, if_false, Bool.not_eq_true', decide_eq_false_iff_not, Nat.zero_add] at q
    omega
  have hi' : ∀ j (hj : j < a.size), k ≤ j → j < na → f b[nb - 1] ≤ f a[j] := by
    intro j hj hjk hjn
    have := hb2 j (by omega) hjk hjn
    simp only [bey, Bool.false_eq_true, if_false, Bool.not_eq_false', decide_eq_true_eq, Nat.zero_add] at this
    omega
  have fin : ∀ {m : StateT SortSt Sem (ForInStep HgS)}, T prog w A E s m (fun r st' => st' = VX mg st ∧ HgR f a b n r) (VX mg st) → T prog w A E s m (fun r st' => Sg st0 st' ∧ HgR f a b n r) (VX mg st) :=
    fun h => Qz h fun r st' ⟨e, q⟩ => ⟨e ▸ hg.set mg, q⟩
  by_cases hk0 : na - k > 0
  · rw [if_pos hk0]
    have J2 := j.manyA W (k := k) (by omega) a2 b2 fun i hi h1 h2 j hj hij => by have q1 := hi' i hi h1 h2; have q2 := bLe W hj (show nb - 1 < b.size by omega) (by omega); omega
    by_cases e3 : (k == 0) = true
    · rw [if_pos e3]
      simp only [beq_iff_eq] at e3
      subst e3
      exact Qe ⟨hg.set mg, .inl ⟨_, rfl, J2.doneA W rfl b2⟩⟩
    · rw [if_neg e3]
      simp only [beq_iff_eq] at e3
      exact fin (GH W hB hc ((hg.set mg).kind.trans hk) ⟨J2, by omega, by omega, b1, b2, by omega⟩ (by omega) lo)
  · rw [if_neg hk0]
    exact fin (GH W hB hc ((hg.set mg).kind.trans hk) L' (by omega) fun i hi h => lo i hi (by omega))
include W hB in
theorem Qbg {i n : Nat} {t : HiS} {st st0 : SortSt} (hc : Cmp prog w A s κ M f) (hk : kindOf st0 = κ) (hg : Sg st0 st) (h : t.1 = none ∧ Lh f a b t.2.1 t.2.2.1 t.2.2.2.1 n) :
    T prog w A E s (U8 a b i t) (fun r st' => Sg st0 st' ∧ match r with | .done c => ∃ r, c.1 = some r ∧ Ro f a b r | .yield c => c.1 = none ∧ Lh f a b c.2.1 c.2.2.1 c.2.2.2.1 (n + 1)) st := by
  obtain ⟨_, na, nb, out, mg⟩ := t
  obtain ⟨rfl, L⟩ := h
  dsimp only at L
  have h1 := L.a1
  have h2 := L.a2
  unfold U8
  have mon : ∀ {na nb : Nat} {out : Array Keyed} {p q : Nat}, q ≤ p → Lh f a b na nb out p → Lh f a b na nb out q := fun hpq L => ⟨L.j, L.a1, L.a2, L.b1, L.b2, Nat.le_trans hpq L.n⟩
  refine Qc (Qz (ZY (I := fun x c st' => st' = st ∧ HL f a b (n + x) c) (Q := fun c st' => st' = st ∧ HP f a b (n + 1) c) ?_ ?_ ⟨rfl, rfl, L⟩) ?_)
  · rintro x c st' _ _ ⟨rfl, hI⟩
    refine Qz (Qcy W hB hc (hg.kind.trans hk) hI) ?_
    rintro (c' | c') st2 ⟨rfl, q⟩
    · refine ⟨rfl, ?_⟩
      rcases q with q | ⟨q1, q2⟩
      · exact .inl q
      · exact .inr ⟨q1, mon (by omega) q2⟩
    · exact ⟨rfl, q⟩
  · rintro c st' ⟨rfl, q1, q2⟩
    exact ⟨rfl, .inr ⟨q1, mon (by omega) q2⟩⟩
  · rintro ⟨c1, na1, nb1, out1, ac1, bc1⟩ st' ⟨rfl, q⟩
    rcases q with ⟨r, q1, q2⟩ | ⟨q1, L1⟩
    · dsimp only at q1
      subst q1
      exact Qe ⟨hg, r, rfl, q2⟩
    · dsimp only at q1 L1
      subst q1
      dsimp only
      refine Qc (Vm ?_)
      refine Qc (Qz (ZY (I := fun x c st' => Sg st0 st' ∧ HgL f a b (n + 1) c) (Q := fun c st' => Sg st0 st' ∧ HgP f a b (n + 1) c) ?_ ?_ ⟨hg, rfl, L1⟩) ?_)
      · rintro x c st2 _ _ ⟨hg2, hI⟩
        unfold QdE
        split
        all_goals
          refine Qz (QcR W hB hc hk hg2 hI.2) ?_
          rintro (c' | c') st3 q
          · exact q
          · exact q
      · exact fun c st2 q => ⟨q.1, .inr q.2⟩
      · rintro ⟨c2, na2, nb2, out2, mg2, ac2, bc2⟩ st2 ⟨hg2, q⟩
        rcases q with ⟨r, q1, q2⟩ | ⟨q1, L2⟩
        · dsimp only at q1
          subst q1
          exact Qe ⟨hg2, r, rfl, q2⟩
        · dsimp only at q1 L2
          subst q1
          exact Qc (QT (Qe ⟨hg2.set _, rfl, L2⟩))
include W hB in
theorem Ua {P : Array Keyed → SortSt → Prop} {st : SortSt} (hc : Cmp prog w A s κ M f) (hk : kindOf st = κ) (ha : 0 < a.size) (hb : 0 < b.size) (hT : Top f a b)
    (h : ∀ r st', Sg st st' → Ro f a b r → P r st') : T prog w A E s (JI a b) P st := by
  rw [YE]
  refine Qc (Vm (Qc (QF (by omega) ?_)))
  have j0 : Jh f a b #[] a.size b.size := by
    unfold Jh
    rw [Nat.sub_self, Nat.sub_self]
    exact ⟨by simp, by simp, by simp, by simp⟩
  have j1 : Jh f a b #[a[a.size - 1]] (a.size - 1) b.size := j0.pushA W ha (Nat.le_refl _) (Nat.le_refl _) fun j hj _ => hT (a.size - 1) (by omega) (by omega) _ (by simp)
  by_cases e : (a.size - 1 == 0) = true
  · rw [if_pos e]
    simp only [beq_iff_eq] at e
    exact Qe (h _ _ (Sg.refl _) (j1.doneA W e (Nat.le_refl _)))
  · rw [if_neg e]
    simp only [beq_iff_eq] at e
    by_cases e2 : (b.size == 1) = true
    · rw [if_pos e2]
      simp only [beq_iff_eq] at e2
      exact Qe (h _ _ (Sg.refl _) (j1.doneF W hB (by omega) e2 (Nat.le_refl _)))
    · rw [if_neg e2]
      simp only [beq_iff_eq] at e2
      refine Qc (Vh (Qc (Qz (ZY (I := fun x c st' => Sg st st' ∧ c.1 = none ∧ Lh f a b c.2.1 c.2.2.1 c.2.2.2.1 (x + 1)) (Q := fun c st' => Sg st st' ∧ ∃ r, c.1 = some r ∧ Ro f a b r) ?_ ?_ ⟨Sg.refl _, rfl, ⟨j1, by dsimp only; omega, by dsimp only; omega, by dsimp only; omega, by dsimp only; omega, by dsimp only; omega⟩⟩) ?_)))
      · rintro x c st' _ _ ⟨hg, hI⟩
        refine Qz (Qbg W hB hc hk hg hI) ?_
        rintro (c' | c') st2 q
        · exact q
        · exact q
      · rintro c st' ⟨_, _, L⟩
        have := L.a1
        have := L.b1
        have := L.n
        omega
      · rintro ⟨c1, c2⟩ st' ⟨hg, r, q1, q2⟩
        dsimp only at q1
        subst q1
        exact Qe (h _ _ hg q2)
end
end Ts

namespace Ts
open PySem PySem.Spec PyProof.Rows PySem.W
set_option autoImplicit false
noncomputable def Qcf (lo a nrem : Nat) : StateT SortSt Sem AscSt :=
  forIn [a:nrem] ((none, a) : AscSt) fun _ __s => do
    let __x ← ltAt' (lo + __s.snd) (lo + __s.snd - 1)
    match __x with
    | some smaller => if smaller = true then pure (ForInStep.done (none, __s.snd)) else pure (ForInStep.yield (none, __s.snd + 1))
    | _ => pure (ForInStep.done (some none, __s.snd))
noncomputable def W7 (lo n nrem : Nat) : StateT SortSt Sem (Option Nat) := do
  reverseSlice' lo (lo + n)
  let __s ← Qcf lo n nrem
  match __s.fst with
  | some r => pure r
  | none => pure (some __s.snd)
noncomputable def UQ (lo n nrem : Nat) : StateT SortSt Sem DescSt :=
  forIn [n:nrem] ((none, n, 0) : DescSt) fun _ __s => do
    let __x ← ltAt' (lo + __s.snd.fst) (lo + __s.snd.fst - 1)
    match __x with
    | some smaller =>
      if smaller = true then
        if __s.snd.snd > 0 then do
          reverseSlice' (lo + __s.snd.fst - (__s.snd.snd + 1)) (lo + __s.snd.fst)
          pure (ForInStep.yield (none, __s.snd.fst + 1, 0))
        else pure (ForInStep.yield (none, __s.snd.fst + 1, 0))
      else do
        let __x ← ltAt' (lo + __s.snd.fst - 1) (lo + __s.snd.fst)
        match __x with
        | some larger =>
          if larger = true then pure (ForInStep.done (none, __s.snd.fst, __s.snd.snd))
          else pure (ForInStep.yield (none, __s.snd.fst + 1, __s.snd.snd + 1))
        | _ => pure (ForInStep.done (some none, __s.snd.fst, __s.snd.snd))
    | _ => pure (ForInStep.done (some none, __s.snd.fst, __s.snd.snd))
noncomputable def Xz (lo n nrem : Nat) : StateT SortSt Sem (Option Nat) := do
  liftM (rule "list.sort.descending-run")
  let __s ← UQ lo (n + 1) nrem
  match __s.fst with
  | some r => pure r
  | none =>
    if __s.snd.snd > 0 then do
      reverseSlice' (lo + __s.snd.fst - (__s.snd.snd + 1)) (lo + __s.snd.fst)
      W7 lo __s.snd.fst nrem
    else W7 lo __s.snd.fst nrem
theorem Ux (lo nrem : Nat) : countRun' lo nrem = (do
    let __s ← Qcf lo 1 nrem
    match __s.fst with
    | some r => pure r
    | none =>
      if (__s.snd == nrem) = true then pure (some __s.snd)
      else if __s.snd > 1 then do
        let __x ← ltAt' lo (lo + __s.snd - 1)
        match __x with
        | some rose => if rose = true then pure (some __s.snd) else do
            reverseSlice' lo (lo + __s.snd)
            Xz lo __s.snd nrem
        | _ => pure none
      else Xz lo __s.snd nrem) := by
  rw [countRun'_eq]
  unfold Xz W7 UQ Qcf
  refine congr (congrArg bind ?_) ?_
  · (focus (refine congrArg (forIn _ _) (funext fun _ => funext fun t => ?_); (repeat' (first | (with_reducible rfl) | ((with_reducible refine QJ ?_ fun _ => ?_) <;> dsimp only) | (with_reducible refine Qo fun _ => ?_) | (with_reducible refine Qx ?_ ?_)))))
  funext __s
  obtain ⟨r, n⟩ := __s
  cases r with
  | some r => rfl
  | none =>
    dsimp only
    refine Qx rfl (Qx (QJ rfl fun rose => ?_) ?_)
    · dsimp only
      refine Qx rfl (Qo fun _ => ?_)
      (refine Qo fun _ => ?_; refine congr (congrArg bind ?_) ?_; (focus (refine congrArg (forIn _ _) (funext fun _ => funext fun t => ?_); (repeat' (first | (with_reducible rfl) | ((with_reducible refine QJ ?_ fun _ => ?_) <;> dsimp only) | (with_reducible refine Qo fun _ => ?_) | (with_reducible refine Qx ?_ ?_))))); (funext s2; obtain ⟨r2, n2, q2⟩ := s2; rcases r2 with _ | r2; (dsimp only; refine Qx (Qo fun _ => ?_) ?_; (refine Qo fun _ => ?_; refine congr (congrArg bind ?_) ?_; (focus (refine congrArg (forIn _ _) (funext fun _ => funext fun t => ?_); (repeat' (first | (with_reducible rfl) | ((with_reducible refine QJ ?_ fun _ => ?_) <;> dsimp only) | (with_reducible refine Qo fun _ => ?_) | (with_reducible refine Qx ?_ ?_))))); (funext s3; obtain ⟨r3, n3⟩ := s3; cases r3 <;> rfl)); (refine Qo fun _ => ?_; refine congr (congrArg bind ?_) ?_; (focus (refine congrArg (forIn _ _) (funext fun _ => funext fun t => ?_); (repeat' (first | (with_reducible rfl) | ((with_reducible refine QJ ?_ fun _ => ?_) <;> dsimp only) | (with_reducible refine Qo fun _ => ?_) | (with_reducible refine Qx ?_ ?_))))); (funext s3; obtain ⟨r3, n3⟩ := s3; cases r3 <;> rfl))); rfl))
    · (refine Qo fun _ => ?_; refine congr (congrArg bind ?_) ?_; (focus (refine congrArg (forIn _ _) (funext fun _ => funext fun t => ?_); (repeat' (first | (with_reducible rfl) | ((with_reducible refine QJ ?_ fun _ => ?_) <;> dsimp only) | (with_reducible refine Qo fun _ => ?_) | (with_reducible refine Qx ?_ ?_))))); (funext s2; obtain ⟨r2, n2, q2⟩ := s2; rcases r2 with _ | r2; (dsimp only; refine Qx (Qo fun _ => ?_) ?_; (refine Qo fun _ => ?_; refine congr (congrArg bind ?_) ?_; (focus (refine congrArg (forIn _ _) (funext fun _ => funext fun t => ?_); (repeat' (first | (with_reducible rfl) | ((with_reducible refine QJ ?_ fun _ => ?_) <;> dsimp only) | (with_reducible refine Qo fun _ => ?_) | (with_reducible refine Qx ?_ ?_))))); (funext s3; obtain ⟨r3, n3⟩ := s3; cases r3 <;> rfl)); (refine Qo fun _ => ?_; refine congr (congrArg bind ?_) ?_; (focus (refine congrArg (forIn _ _) (funext fun _ => funext fun t => ?_); (repeat' (first | (with_reducible rfl) | ((with_reducible refine QJ ?_ fun _ => ?_) <;> dsimp only) | (with_reducible refine Qo fun _ => ?_) | (with_reducible refine Qx ?_ ?_))))); (funext s3; obtain ⟨r3, n3⟩ := s3; cases r3 <;> rfl))); rfl))
noncomputable def F (f : Keyed → Int) (xs : Array Keyed) (i : Nat) : Int := (xs[i]?.map f).getD 0
theorem Qar {f : Keyed → Int} {xs : Array Keyed} {i : Nat} (h : i < xs.size) : F f xs i = f xs[i] := by unfold F; rw [getElem?_pos xs i h]; rfl
theorem Jc {f : Keyed → Int} {xs ys : Array Keyed} {i j : Nat} (h : xs[i]? = ys[j]?) : F f xs i = F f ys j := by unfold F; rw [h]
noncomputable def So (f : Keyed → Int) (xs : Array Keyed) (i j : Nat) : Prop := ∀ k l, i ≤ k → k ≤ l → l < j → F f xs k ≤ F f xs l
noncomputable def Ni (f : Keyed → Int) (xs : Array Keyed) (i j : Nat) : Prop := ∀ k l, i ≤ k → k ≤ l → l < j → F f xs l ≤ F f xs k
structure Mv (lo hi : Nat) (xs ys : Array Keyed) : Prop where
  pm : ys.Perm xs
  out : ∀ k, k < lo ∨ hi ≤ k → ys[k]? = xs[k]?
theorem Mv.refl {lo hi : Nat} (xs : Array Keyed) : Mv lo hi xs xs := ⟨Array.Perm.refl _, fun _ _ => rfl⟩
theorem Mv.trans {lo hi : Nat} {xs ys zs : Array Keyed} (h : Mv lo hi xs ys) (h' : Mv lo hi ys zs) : Mv lo hi xs zs := ⟨h'.pm.trans h.pm, fun k hk => (h'.out k hk).trans (h.out k hk)⟩
theorem Mv.wide {lo hi lo' hi' : Nat} {xs ys : Array Keyed} (h : Mv lo hi xs ys) (h1 : lo' ≤ lo) (h2 : hi ≤ hi') : Mv lo' hi' xs ys := ⟨h.pm, fun k hk => h.out k (by omega)⟩
theorem Mv.size {lo hi : Nat} {xs ys : Array Keyed} (h : Mv lo hi xs ys) : ys.size = xs.size := by
  have := (Array.perm_iff_toList_perm.mp h.pm).length_eq
  simpa using this
theorem Jj {xs : Array Keyed} {i j : Nat} (hj : j ≤ xs.size) : Mv i j xs (mirror xs i j ((j - i) / 2)) :=
  ⟨mirror_perm _ _ _ _, fun k hk => by rw [getElem?_mirror_all hj, if_neg (by omega)]⟩
theorem Ub {xs : Array Keyed} {src d : Nat} (hs : src < xs.size) (hd : d ≤ src) : Mv (src - d) (src + 1) xs (bubble xs src d) :=
  ⟨bubble_perm _ _ _, fun k hk => by rw [getElem?_bubble hs d hd, if_neg (by omega), if_neg (by omega)]⟩
section
variable {f : Keyed → Int} {xs : Array Keyed}
theorem V0 {i j : Nat} (hj : j ≤ xs.size) (k : Nat) : F f (mirror xs i j ((j - i) / 2)) k = if i ≤ k ∧ k < j then F f xs (i + j - 1 - k) else F f xs k := by
  have e := getElem?_mirror_all (i := i) hj k
  by_cases h1 : i ≤ k ∧ k < j
  · rw [if_pos h1] at e ⊢; exact Jc e
  · rw [if_neg h1] at e ⊢; exact Jc e
theorem QR {i j : Nat} (hj : j ≤ xs.size) (heq : ∀ k, i ≤ k → k < j → F f xs k = F f xs (j - 1)) (k : Nat) : F f (mirror xs i j ((j - i) / 2)) k = F f xs k := by
  rw [V0 hj]
  split
  · rw [heq _ (by omega) (by omega), heq k (by omega) (by omega)]
  · rfl
theorem KR {src d : Nat} (hs : src < xs.size) (hd : d ≤ src) (k : Nat) : F f (bubble xs src d) k = if k = src - d then F f xs src else if src - d < k ∧ k ≤ src then F f xs (k - 1) else F f xs k := by
  have e := getElem?_bubble hs d hd k
  repeat' split
  all_goals simp_all [F]
end
section
variable {prog : Program} {w : World} {A : Around} {E : Value → Shared → Prop} {s : Shared} {κ : SortKind} {M : Keyed → Prop} {f : Keyed → Int}
noncomputable def Al (M : Keyed → Prop) (xs : Array Keyed) : Prop := ∀ x ∈ xs.toList, M x
theorem Al.at {xs : Array Keyed} (h : Al M xs) (i : Nat) (hi : i < xs.size) : M xs[i] := h _ (by simp)
theorem Al.mv {lo hi : Nat} {xs ys : Array Keyed} (h : Al M xs) (m : Mv lo hi xs ys) : Al M ys := fun x hx => h x ((Array.perm_iff_toList_perm.mp m.pm).mem_iff.mp hx)
theorem Y6 {i j : Nat} {P : Option Bool → SortSt → Prop} {st : SortSt} (hc : Cmp prog w A s κ M f) (hk : kindOf st = κ) (hm : Al M (arrOf st)) (hi : i < (arrOf st).size) (hj : j < (arrOf st).size) (h : P (some (decide (F f (arrOf st) i < F f (arrOf st) j))) st) : T prog w A E s (ltAt' i j) P st := by
  rw [ltAt'_eq]
  refine Qc (Vh (Qc (QF hi (Qc (QF hj (QcY hc hk (hm.at _ hi) (hm.at _ hj) ?_))))))
  rw [Qar hi, Qar hj] at h
  exact h
theorem Qa4 {i j : Nat} {P : Option Bool → SortSt → Prop} {st : SortSt} {ys : Array Keyed} (hc : Cmp prog w A s κ M f) (hk : kindOf st = κ) (hm : Al M ys) (hi : i < ys.size) (hj : j < ys.size) (h : P (some (decide (F f ys i < F f ys j))) (setArr st ys)) : T prog w A E s (ltAt' i j) P (setArr st ys) :=
  Y6 (st := setArr st ys) hc hk hm hi hj h
theorem Us {i j : Nat} {P : Unit → SortSt → Prop} {st : SortSt} (h : P () (setArr st (mirror (arrOf st) i j ((j - i) / 2)))) : T prog w A E s (reverseSlice' i j) P st := by
  rw [reverseSlice'_eq]; exact QT h
theorem Qco {lo a nrem : Nat} {st : SortSt} {P : AscSt → SortSt → Prop} (hc : Cmp prog w A s κ M f) (hk : kindOf st = κ) (hm : Al M (arrOf st)) (hn : lo + nrem ≤ (arrOf st).size) (ha : 1 ≤ a) (han : a ≤ nrem) (hs : So f (arrOf st) lo (lo + a))
    (h : ∀ n, a ≤ n → n ≤ nrem → So f (arrOf st) lo (lo + n) → (n = nrem ∨ F f (arrOf st) (lo + n) < F f (arrOf st) (lo + n - 1)) → P (none, n) st) : T prog w A E s (Qcf lo a nrem) P st := by
  unfold Qcf
  refine ZY (I := fun x c st' => st' = st ∧ c = (none, x) ∧ So f (arrOf st) lo (lo + x)) ?_ ?_ ⟨rfl, rfl, hs⟩
  · rintro x c st' hax hxn ⟨rfl, rfl, hs'⟩
    dsimp only
    refine Qc (Y6 hc hk hm (by omega) (by omega) ?_)
    by_cases hless : F f (arrOf st') (lo + x) < F f (arrOf st') (lo + x - 1)
    · rw [decide_eq_true hless]
      exact Qe (h x hax (by omega) hs' (.inr hless))
    · rw [decide_eq_false hless]
      refine Qe ⟨rfl, rfl, fun i j hi hij hj => ?_⟩
      by_cases hjx : j < lo + x
      · exact hs' i j hi hij hjx
      · have hj' : j = lo + x := by omega
        subst hj'
        by_cases hi' : i = lo + x
        · subst hi'; omega
        · have := hs' i (lo + x - 1) hi (by omega) (by omega)
          omega
  · rintro c st' ⟨rfl, rfl, hs'⟩
    rw [show max a nrem = nrem by omega] at hs' ⊢
    exact h nrem han (Nat.le_refl _) hs' (.inl rfl)
theorem Gp {lo n nrem : Nat} {st : SortSt} {P : Option Nat → SortSt → Prop} (hc : Cmp prog w A s κ M f) (hk : kindOf st = κ) (hm : Al M (arrOf st)) (hn : lo + nrem ≤ (arrOf st).size) (h1 : 1 ≤ n) (hnn : n ≤ nrem) (hs : Ni f (arrOf st) lo (lo + n))
    (h : ∀ m ys, 1 ≤ m → m ≤ nrem → Mv lo (lo + nrem) (arrOf st) ys → So f ys lo (lo + m) → P (some m) (setArr st ys)) : T prog w A E s (W7 lo n nrem) P st := by
  unfold W7
  have hsz : lo + n ≤ (arrOf st).size := by omega
  have mv := (Jj (i := lo) hsz).wide (Nat.le_refl lo) (show lo + n ≤ lo + nrem by omega)
  refine Qc (Us (Qc (Qco hc hk (hm.mv mv) (by rw [show arrOf (setArr st _) = _ from rfl, mv.size]; exact hn) h1 hnn ?_ fun m hm1 hm2 hsm _ => Qe (h m _ (by omega) hm2 mv hsm))))
  intro i j hi hij hj
  show F f (mirror (arrOf st) lo (lo + n) _) i ≤ F f (mirror (arrOf st) lo (lo + n) _) j
  rw [V0 hsz, V0 hsz, if_pos (by omega), if_pos (by omega)]
  exact hs _ _ (by omega) (by omega) (by omega)
theorem QcP {lo n nrem : Nat} {st : SortSt} {P : DescSt → SortSt → Prop} (hc : Cmp prog w A s κ M f) (hk : kindOf st = κ) (hm : Al M (arrOf st)) (hn : lo + nrem ≤ (arrOf st).size) (h1 : 1 ≤ n) (hnn : n ≤ nrem) (hs : Ni f (arrOf st) lo (lo + n))
    (h : ∀ m neq ys, n ≤ m → m ≤ nrem → Mv lo (lo + nrem) (arrOf st) ys → Ni f ys lo (lo + m) → neq + 1 ≤ m → (∀ i, lo + m - (neq + 1) ≤ i → i < lo + m → F f ys i = F f ys (lo + m - 1)) → P (none, m, neq) (setArr st ys)) : T prog w A E s (UQ lo n nrem) P st := by
  unfold UQ
  refine ZY (I := fun x c st' => ∃ neq ys, c = (none, x, neq) ∧ st' = setArr st ys ∧ Mv lo (lo + nrem) (arrOf st) ys ∧ Ni f ys lo (lo + x) ∧ neq + 1 ≤ x ∧ (∀ i, lo + x - (neq + 1) ≤ i → i < lo + x → F f ys i = F f ys (lo + x - 1))) ?_ ?_ ⟨0, arrOf st, rfl, rfl, Mv.refl _, hs, by omega, fun i h1 h2 => by congr 1; omega⟩
  · rintro x c st' hax hxn ⟨neq, ys, rfl, rfl, mv, hs', hq, he⟩
    dsimp only
    have hsz := mv.size
    have step1 : ∀ zs : Array Keyed, (∀ k, F f zs k = F f ys k) → F f ys (lo + x) ≤ F f ys (lo + x - 1) → Ni f zs lo (lo + (x + 1)) := by
      intro zs hk hle i j hi hij hj
      rw [hk, hk]
      by_cases hjx : j < lo + x
      · exact hs' i j hi hij hjx
      · have hj' : j = lo + x := by omega
        subst hj'
        by_cases hi' : i = lo + x
        · subst hi'; omega
        · have := hs' i (lo + x - 1) hi (by omega) (by omega)
          omega
    refine Qc (Qa4 hc hk (hm.mv mv) (by omega) (by omega) ?_)
    by_cases hless : F f ys (lo + x) < F f ys (lo + x - 1)
    · rw [decide_eq_true hless]
      dsimp only
      rw [if_pos rfl]
      by_cases hneq : neq > 0
      · rw [if_pos hneq]
        have hb : lo + x ≤ ys.size := by omega
        have me : ∀ k, F f (mirror ys (lo + x - (neq + 1)) (lo + x) ((lo + x - (lo + x - (neq + 1))) / 2)) k = F f ys k := QR hb he
        exact Qc (Us (Qe ⟨0, _, rfl, rfl, mv.trans ((Jj hb).wide (by omega) (by omega)), step1 _ me (by omega), by omega, fun i h1 h2 => by congr 1; omega⟩))
      · rw [if_neg hneq]
        exact Qe ⟨0, ys, rfl, rfl, mv, step1 _ (fun _ => rfl) (by omega), by omega, fun i h1 h2 => by congr 1; omega⟩
    · rw [decide_eq_false hless]
      dsimp only
      rw [if_neg (by simp)]
      refine Qc (Qa4 hc hk (hm.mv mv) (by omega) (by omega) ?_)
      by_cases hl : F f ys (lo + x - 1) < F f ys (lo + x)
      · rw [decide_eq_true hl]
        exact Qe (h x neq ys hax (by omega) mv hs' hq he)
      · rw [decide_eq_false hl]
        refine Qe ⟨neq + 1, ys, rfl, rfl, mv, step1 _ (fun _ => rfl) (by omega), by omega, fun i h1 h2 => ?_⟩
        rw [show lo + (x + 1) - 1 = lo + x by omega]
        by_cases hix : i = lo + x
        · subst hix; rfl
        · rw [he i (by omega) (by omega)]; omega
  · rintro c st' ⟨neq, ys, rfl, rfl, mv, hs', hq, he⟩
    rw [show max n nrem = nrem by omega] at hs' hq he ⊢
    exact h nrem neq ys hnn (Nat.le_refl _) mv hs' hq he
end
end Ts

namespace Ts
open PySem PySem.Spec PyProof.Rows PySem.W
set_option autoImplicit false
section
variable {prog : Program} {w : World} {A : Around} {E : Value → Shared → Prop} {s : Shared} {κ : SortKind} {M : Keyed → Prop} {f : Keyed → Int}
theorem Wd {lo n nrem : Nat} {st : SortSt} {P : Option Nat → SortSt → Prop} (hc : Cmp prog w A s κ M f) (hk : kindOf st = κ) (hm : Al M (arrOf st)) (hn : lo + nrem ≤ (arrOf st).size) (hnn : n + 1 ≤ nrem) (hs : Ni f (arrOf st) lo (lo + (n + 1)))
    (h : ∀ m ys, 1 ≤ m → m ≤ nrem → Mv lo (lo + nrem) (arrOf st) ys → So f ys lo (lo + m) → P (some m) (setArr st ys)) : T prog w A E s (Xz lo n nrem) P st := by
  unfold Xz
  refine Qc (Vm (Qc (QcP hc hk hm hn (by omega) hnn hs fun m neq ys hm1 hm2 mv hs' hq he => ?_)))
  dsimp only
  have hsz := mv.size
  by_cases hneq : neq > 0
  · rw [if_pos hneq]
    have hb : lo + m ≤ ys.size := by omega
    have me : ∀ k, F f (mirror ys (lo + m - (neq + 1)) (lo + m) ((lo + m - (lo + m - (neq + 1))) / 2)) k = F f ys k := QR hb he
    have mv2 : Mv lo (lo + nrem) (arrOf st) (mirror ys (lo + m - (neq + 1)) (lo + m) ((lo + m - (lo + m - (neq + 1))) / 2)) := mv.trans ((Jj hb).wide (by omega) (by omega))
    refine Qc (Us (Gp (st := setArr st (mirror ys (lo + m - (neq + 1)) (lo + m) ((lo + m - (lo + m - (neq + 1))) / 2))) hc hk (hm.mv mv2) (by show _ ≤ Array.size (mirror _ _ _ _); rw [mv2.size]; exact hn) (by omega) hm2 ?_ fun m' zs q1 q2 q3 q4 => h m' zs q1 q2 (mv2.trans q3) q4))
    intro i j hi hij hj
    show F f (mirror ys _ _ _) j ≤ F f (mirror ys _ _ _) i
    rw [me, me]
    exact hs' i j hi hij hj
  · rw [if_neg hneq]
    exact Gp (st := setArr st ys) hc hk (hm.mv mv) (by show _ ≤ ys.size; omega) (by omega) hm2 hs' fun m' zs q1 q2 q3 q4 => h m' zs q1 q2 (mv.trans q3) q4
theorem QaN {lo nrem : Nat} {st : SortSt} {P : Option Nat → SortSt → Prop} (hc : Cmp prog w A s κ M f) (hk : kindOf st = κ) (hm : Al M (arrOf st)) (hn : lo + nrem ≤ (arrOf st).size) (h1 : 1 ≤ nrem)
    (h : ∀ m ys, 1 ≤ m → m ≤ nrem → Mv lo (lo + nrem) (arrOf st) ys → So f ys lo (lo + m) → P (some m) (setArr st ys)) : T prog w A E s (countRun' lo nrem) P st := by
  rw [Ux]
  refine Qc (Qco hc hk hm hn (Nat.le_refl 1) h1 (fun i j hi hij hj => by have : i = j := (by omega); subst this; omega) fun n hn1 hn2 hsn hor => ?_)
  dsimp only
  by_cases hnn : n = nrem
  · rw [if_pos (by simpa using hnn)]
    exact Qe (h n (arrOf st) hn1 hn2 (Mv.refl _) hsn)
  · rw [if_neg (by simpa using hnn)]
    have hlt := hor.resolve_left hnn
    by_cases hgt : n > 1
    · rw [if_pos hgt]
      refine Qc (Y6 hc hk hm (by omega) (by omega) ?_)
      by_cases hr : F f (arrOf st) lo < F f (arrOf st) (lo + n - 1)
      · rw [decide_eq_true hr]
        exact Qe (h n (arrOf st) hn1 hn2 (Mv.refl _) hsn)
      · rw [decide_eq_false hr]
        dsimp only
        rw [if_neg (by simp)]
        have hsz : lo + n ≤ (arrOf st).size := by omega
        have hall : ∀ k, lo ≤ k → k < lo + n → F f (arrOf st) k = F f (arrOf st) (lo + n - 1) := by
          intro k h2 hk
          have a1 := hsn lo k (by omega) h2 hk
          have a2 := hsn k (lo + n - 1) h2 (by omega) (by omega)
          omega
        have mv := (Jj (i := lo) hsz).wide (Nat.le_refl lo) (show lo + n ≤ lo + nrem by omega)
        refine Qc (Us (Wd (st := setArr st (mirror (arrOf st) lo (lo + n) ((lo + n - lo) / 2))) hc hk (hm.mv mv) (by show _ ≤ Array.size (mirror _ _ _ _); rw [mv.size]; exact hn) (by omega) ?_ fun m' zs q1 q2 q3 q4 => h m' zs q1 q2 (mv.trans q3) q4))
        intro i j hi hij hj
        show F f (mirror (arrOf st) _ _ _) j ≤ F f (mirror (arrOf st) _ _ _) i
        rw [QR hsz hall, QR hsz hall]
        by_cases hjn : j < lo + n
        · rw [hall i hi (by omega), hall j (by omega) hjn]; omega
        · have hj' : j = lo + n := by omega
          subst hj'
          by_cases hi' : i = lo + n
          · subst hi'; omega
          · rw [hall i hi (by omega)]; omega
    · rw [if_neg hgt]
      have : n = 1 := by omega
      subst this
      refine Wd hc hk hm hn (by omega) ?_ h
      intro i j hi hij hj
      by_cases hi' : i = j
      · subst hi'; omega
      · have hi0 : i = lo := by omega
        have hj1 : j = lo + 1 := by omega
        subst hi0; subst hj1
        rw [show i + 1 - 1 = i by omega] at hlt
        omega
theorem UV {lo n ok : Nat} {st : SortSt} {P : Bool → SortSt → Prop} (hc : Cmp prog w A s κ M f) (hk : kindOf st = κ) (hm : Al M (arrOf st)) (hn : lo + n ≤ (arrOf st).size) (hok : ok ≤ n) (hs : So f (arrOf st) lo (lo + ok))
    (h : ∀ ys, Mv lo (lo + n) (arrOf st) ys → So f ys lo (lo + n) → P true (setArr st ys)) : T prog w A E s (binarySort' lo n ok) P st := by
  rw [binarySort'_eq]
  refine Qc (Qz (ZY (I := fun k c st' => c = (none, ()) ∧ ∃ ys, st' = setArr st ys ∧ Mv lo (lo + n) (arrOf st) ys ∧ So f ys lo (lo + min k n))
    (Q := fun c st' => c = (none, ()) ∧ ∃ ys, st' = setArr st ys ∧ Mv lo (lo + n) (arrOf st) ys ∧ So f ys lo (lo + n)) ?step ?fin ?init) ?post)
  case post =>
    rintro c st' ⟨rfl, ys, rfl, mv, hs'⟩
    exact Qe (h ys mv hs')
  case init =>
    refine ⟨rfl, arrOf st, rfl, Mv.refl _, fun i j hi hij hj => ?_⟩
    by_cases h1 : ok = 0
    · have : i = j := by omega
      subst this; omega
    · exact hs i j hi hij (by omega)
  case fin =>
    rintro c st' ⟨hc, ys, rfl, mv, hs'⟩
    refine ⟨hc, ys, rfl, mv, ?_⟩
    rwa [show min (max (max ok 1) n) n = n by omega] at hs'
  case step =>
    rintro k c st' hak hkn ⟨rfl, ys, rfl, mv, hs'⟩
    rw [show min k n = k by omega] at hs'
    have hsz := mv.size
    refine Qc (Qz (ZY (I := fun x c st'' => st'' = setArr st ys ∧ ∃ l r, c = (none, l, r) ∧ l ≤ r ∧ r ≤ k ∧ r - l ≤ k - x ∧
        (∀ i, lo ≤ i → i < lo + l → F f ys i ≤ F f ys (lo + k)) ∧ (∀ i, lo + r ≤ i → i < lo + k → F f ys (lo + k) < F f ys i))
      (Q := fun c st'' => st'' = setArr st ys ∧ ∃ l r, c = (none, l, r) ∧ l ≤ k ∧
        (∀ i, lo ≤ i → i < lo + l → F f ys i ≤ F f ys (lo + k)) ∧ (∀ i, lo + l ≤ i → i < lo + k → F f ys (lo + k) < F f ys i)) ?istep ?ifin ?iinit) ?ipost)
    case iinit => exact ⟨rfl, 0, k, rfl, by omega, by omega, by omega, fun i hi => by omega, fun i h1 h2 => by omega⟩
    case ifin =>
      rintro c st'' ⟨rfl, l, r, rfl, hlr, hrk, hm, hlo, hhi⟩
      have : l = r := by omega
      subst this
      exact ⟨rfl, l, l, rfl, hrk, hlo, hhi⟩
    case istep =>
      rintro x c st'' _ hxk ⟨rfl, l, r, rfl, hlr, hrk, hmx, hlo, hhi⟩
      dsimp only
      by_cases hge : l ≥ r
      · rw [if_pos hge]
        have : l = r := by omega
        subst this
        exact Qe ⟨rfl, l, l, rfl, hrk, hlo, hhi⟩
      · rw [if_neg hge]
        refine Qc (Qa4 hc hk (hm.mv mv) (by omega) (by omega) ?_)
        by_cases hless : F f ys (lo + k) < F f ys (lo + (l + r) / 2)
        · rw [decide_eq_true hless]
          refine Qe ⟨rfl, l, (l + r) / 2, rfl, by omega, by omega, by omega, hlo, fun i h1 h2 => ?_⟩
          have := hs' (lo + (l + r) / 2) i (by omega) h1 h2
          omega
        · rw [decide_eq_false hless]
          refine Qe ⟨rfl, (l + r) / 2 + 1, r, rfl, by omega, by omega, by omega, fun i h1 h2 => ?_, hhi⟩
          have := hs' i (lo + (l + r) / 2) h1 (by omega) (by omega)
          omega
    case ipost =>
      rintro c st'' ⟨rfl, l, r, rfl, hlk, hlo, hhi⟩
      show T _ _ _ _ _ (do moveDown' (lo + k) (lo + l); pure (ForInStep.yield (none, ()))) _ _
      rw [moveDown'_eq]
      have hks : lo + k < ys.size := by omega
      refine Qc (QT (Qe ⟨rfl, bubble ys (lo + k) (lo + k - (lo + l)), rfl, mv.trans ((Ub hks (by omega)).wide (by omega) (by omega)), ?_⟩))
      rw [show min (k + 1) n = k + 1 by omega]
      intro i j hi hij hj
      rw [KR hks (by omega), KR hks (by omega), show lo + k - (lo + k - (lo + l)) = lo + l by omega]
      repeat' split
      all_goals first
        | (exfalso; omega)
        | omega
        | exact hlo _ (by omega) (by omega)
        | exact Int.le_of_lt (hhi _ (by omega) (by omega))
        | exact hs' _ _ (by omega) (by omega) (by omega)
end
theorem Kt (s : Nat) : ∀ (l : List Keyed) (n : Nat) (xs : Array Keyed), s + n + l.length ≤ xs.size →
    ((l.zipIdx n).foldl (fun a (p, j) => a.setIfInBounds (s + j) p) xs).size = xs.size ∧ ∀ k, ((l.zipIdx n).foldl (fun a (p, j) => a.setIfInBounds (s + j) p) xs)[k]? = if s + n ≤ k ∧ k < s + n + l.length then l[k - (s + n)]? else xs[k]?
  | [], n, xs, _ => ⟨rfl, fun k => by rw [if_neg (by simp)]; rfl⟩
  | p :: l, n, xs, h => by
    rw [List.length_cons] at h
    have ih := Kt s l (n + 1) (xs.setIfInBounds (s + n) p) (by rw [Array.size_setIfInBounds]; omega)
    rw [List.zipIdx_cons, List.foldl_cons]
    refine ⟨ih.1.trans (Array.size_setIfInBounds ..), fun k => ?_⟩
    rw [ih.2 k, List.length_cons]
    by_cases h1 : s + (n + 1) ≤ k ∧ k < s + (n + 1) + l.length
    · rw [if_pos h1, if_pos (by omega), show k - (s + n) = (k - (s + (n + 1))) + 1 by omega, List.getElem?_cons_succ]
    · rw [if_neg h1]
      by_cases h2 : k = s + n
      · subst h2
        rw [if_pos (by omega), Nat.sub_self, List.getElem?_cons_zero, Array.getElem?_setIfInBounds, if_pos rfl, if_pos (by omega)]
      · rw [if_neg (by omega), Array.getElem?_setIfInBounds, if_neg (by omega)]
end Ts

namespace Ts
open PySem PySem.Spec PyProof.Rows PySem.W
set_option autoImplicit false
theorem Yn (i : Nat) : mergeAt' i = (do
  let s ← get
  let (some (sa, na, power), some (sb, nb, _)) := ((pendingOf s)[i]?, (pendingOf s)[i + 1]?) | unsupported "internal:list.sort.pending"
  set (setPending s (((pendingOf s).setIfInBounds i (sa, na + nb, power)).eraseIdxIfInBounds (i + 1)))
  let some k ← Q0 false (← elem' (arrOf s) sb) (arrOf s) sa na 0 | return false
  let (sa, na) := (sa + k, na - k)
  if na == 0 then return true
  let some nb ← Q0 true (← elem' (arrOf s) (sa + na - 1)) (arrOf s) sb nb (nb - 1) | return false
  if nb == 0 then return true
  let x := (arrOf s).extract sa sb
  let y := (arrOf s).extract sb (sb + nb)
  let merged ← if na ≤ nb then JK x y else JI x y
  modify fun s => setArr s (merged.toList.zipIdx.foldl (fun a (p, j) => a.setIfInBounds (sa + j) p) (arrOf s))
  return (failedOf (← get)).isNone) := rfl
section
variable {f : Keyed → Int} {M : Keyed → Prop} {xs : Array Keyed}
theorem Z4 {i j k : Nat} (hj : j ≤ xs.size) (hk : k < (xs.extract i j).size) : ∃ h : i + k < xs.size, (xs.extract i j)[k] = xs[i + k] := by
  have : k < j - i := by simpa [Nat.min_eq_left hj] using hk
  exact ⟨by omega, by simp⟩
theorem ZW {i j : Nat} (hj : j ≤ xs.size) : (xs.extract i j).size = j - i := by simp [Nat.min_eq_left hj]
theorem GJ {i j : Nat} (hj : j ≤ xs.size) (h : So f xs i j) : (xs.extract i j).toList.Pairwise fun x y => f x ≤ f y := by
  rw [List.pairwise_iff_getElem]
  intro p q hp hq hpq
  have hp' : p < (xs.extract i j).size := by rw [← Array.length_toList]; exact hp
  have hq' : q < (xs.extract i j).size := by rw [← Array.length_toList]; exact hq
  obtain ⟨p1, e1⟩ := Z4 hj hp'
  obtain ⟨q1, e2⟩ := Z4 hj hq'
  rw [ZW hj] at hp' hq'
  show f (xs.extract i j)[p] ≤ f (xs.extract i j)[q]
  rw [e1, e2, ← Qar (f := f) p1, ← Qar (f := f) q1]
  exact h _ _ (by omega) (by omega) (by omega)
theorem VJ {i j : Nat} (hj : j ≤ xs.size) {x : Keyed} (h : x ∈ (xs.extract i j).toList) : ∃ k, ∃ hk : k < xs.size, i ≤ k ∧ k < j ∧ x = xs[k] := by
  obtain ⟨p, hp, e⟩ := List.mem_iff_getElem.mp h
  have hp' : p < (xs.extract i j).size := by rw [← Array.length_toList]; exact hp
  obtain ⟨p1, e1⟩ := Z4 hj hp'
  rw [ZW hj] at hp'
  exact ⟨i + p, p1, by omega, by omega, by rw [← e, ← e1]; rfl⟩
theorem Uy {sa sb se : Nat} {m ys : Array Keyed} (h1 : sa ≤ sb) (h2 : sb ≤ se) (h3 : se ≤ xs.size) (hm : m.toList.Perm ((xs.extract sa sb).toList ++ (xs.extract sb se).toList)) (hsz : ys.size = xs.size)
    (hy : ∀ k, ys[k]? = if sa ≤ k ∧ k < sa + m.toList.length then m.toList[k - sa]? else xs[k]?) : Mv sa se xs ys ∧ m.size = se - sa := by
  have hl := hm.length_eq
  rw [List.length_append, Array.length_toList, Array.length_toList, Array.length_toList, ZW (by omega), ZW (by omega)] at hl
  refine ⟨⟨?_, fun k hk => ?_⟩, by omega⟩
  · rw [Array.perm_iff_toList_perm]
    have ey : ys.toList = xs.toList.take sa ++ (m.toList ++ xs.toList.drop se) := by
      apply List.ext_getElem?
      intro k
      rw [Array.getElem?_toList, hy k, List.getElem?_append, List.getElem?_append, List.length_take, Array.length_toList, Array.length_toList, Nat.min_eq_left (by omega), List.getElem?_take, List.getElem?_drop, Array.getElem?_toList]
      by_cases c1 : k < sa
      · rw [if_neg (by omega), if_pos c1, if_pos c1, Array.getElem?_toList]
      · rw [if_neg c1]
        by_cases c2 : k - sa < m.size
        · rw [if_pos (by omega), if_pos c2]
        · rw [if_neg (by omega), if_neg c2]
          rw [show se + (k - sa - m.size) = k by omega, Array.getElem?_toList]
    have ex : xs.toList = xs.toList.take sa ++ (((xs.extract sa sb).toList ++ (xs.extract sb se).toList) ++ xs.toList.drop se) := by
      have e1 : (xs.extract sa sb).toList ++ (xs.extract sb se).toList = (xs.toList.drop sa).take (se - sa) := by
        rw [Array.toList_extract, Array.toList_extract, List.extract_eq_take_drop, List.extract_eq_take_drop, show se - sa = (sb - sa) + (se - sb) by omega, List.take_add, List.drop_drop, show sa + (sb - sa) = sb by omega]
      rw [e1]
      have e2 : xs.toList.drop se = (xs.toList.drop sa).drop (se - sa) := by rw [List.drop_drop, show sa + (se - sa) = se by omega]
      rw [e2, List.take_append_drop, List.take_append_drop]
    rw [ey]
    conv => rhs; rw [ex]
    exact List.Perm.append_left _ (hm.append_right _)
  · rw [hy k, if_neg (by rw [Array.length_toList]; omega)]
end
section
variable {prog : Program} {w : World} {A : Around} {E : Value → Shared → Prop} {s : Shared} {κ : SortKind} {M : Keyed → Prop} {f : Keyed → Int}
set_option maxHeartbeats 1000000 in
theorem Y3 {i sa na pw sb nb pw2 : Nat} {l1 l2 : List (Nat × Nat × Nat)} {st : SortSt} {P : Bool → SortSt → Prop} (hc : Cmp prog w A s κ M f) (hk : kindOf st = κ) (hf : failedOf st = none) (hm : Al M (arrOf st))
    (hp : (pendingOf st).toList = l1 ++ (sa, na, pw) :: (sb, nb, pw2) :: l2) (hi : l1.length = i) (hsb : sb = sa + na) (h1 : 1 ≤ na) (h2 : 1 ≤ nb) (hse : sb + nb ≤ (arrOf st).size) (s1 : So f (arrOf st) sa sb) (s2 : So f (arrOf st) sb (sb + nb))
    (h : ∀ st' : SortSt, kindOf st' = κ → failedOf st' = none → (pendingOf st').toList = l1 ++ (sa, na + nb, pw) :: l2 → Mv sa (sb + nb) (arrOf st) (arrOf st') → So f (arrOf st') sa (sb + nb) → P true st') : T prog w A E s (mergeAt' i) P st := by
  rw [Yn]
  refine Qc (Vh ?_)
  have e1 : (pendingOf st)[i]? = some (sa, na, pw) := by
    rw [← Array.getElem?_toList, hp, ← hi]; simp
  have e2 : (pendingOf st)[i + 1]? = some (sb, nb, pw2) := by
    rw [← Array.getElem?_toList, hp, ← hi]; simp
  rw [e1, e2]
  dsimp only
  refine Qc (QdK ?_)
  have hp' : (((pendingOf st).setIfInBounds i (sa, na + nb, pw)).eraseIdxIfInBounds (i + 1)).toList = l1 ++ (sa, na + nb, pw) :: l2 := by
    rw [Array.toList_eraseIdxIfInBounds, Array.toList_setIfInBounds, hp, ← hi]
    simp [List.set_append, List.eraseIdx_append]
    intro hh
    omega
  generalize ((pendingOf st).setIfInBounds i (sa, na + nb, pw)).eraseIdxIfInBounds (i + 1) = pq at hp'
  have hF : ∀ k (hk : k < (arrOf st).size), F f (arrOf st) k = f (arrOf st)[k] := fun k hk => Qar hk
  refine Qc (QF (by omega) (Qc (ZO (st := setPending st pq) hc hk (hm.at _ _) (by omega) (by omega) hm.at (fun i j hi hj q1 q2 q3 => by rw [← hF, ← hF]; exact s1 i j q1 q2 (by omega)) fun k hk1 hb1 hb2 => ?_)))
  dsimp only
  have lo1 : ∀ j, sa ≤ j → j < sa + k → F f (arrOf st) j ≤ F f (arrOf st) sb := by
    intro j q1 q2
    have := hb1 (j - sa) (by omega) (by omega)
    simp only [bey, Bool.false_eq_true, if_false, Bool.not_eq_true', decide_eq_false_iff_not, show sa + (j - sa) = j by omega] at this
    rw [hF _ (by omega), hF _ (by omega)]
    omega
  have hi1 : ∀ j, sa + k ≤ j → j < sb → F f (arrOf st) sb < F f (arrOf st) j := by
    intro j q1 q2
    have := hb2 (j - sa) (by omega) (by omega) (by omega)
    simp only [bey, Bool.false_eq_true, if_false, Bool.not_eq_false', decide_eq_true_eq, show sa + (j - sa) = j by omega] at this
    rw [hF _ (by omega), hF _ (by omega)]
    omega
  by_cases hz : (na - k == 0) = true
  · rw [if_pos hz]
    simp only [beq_iff_eq] at hz
    refine Qe (h (setPending st pq) hk hf hp' (Mv.refl _) fun p q q1 q2 q3 => ?_)
    show F f (arrOf st) p ≤ F f (arrOf st) q
    by_cases c1 : q < sb
    · exact s1 p q q1 q2 c1
    · by_cases c2 : p < sb
      · have a1 := lo1 p q1 (by omega)
        have a2 := s2 sb q (Nat.le_refl _) (by omega) q3
        omega
      · exact s2 p q (by omega) q2 q3
  · rw [if_neg hz]
    simp only [beq_iff_eq] at hz
    refine Qc (QF (by omega) (Qc (ZO (st := setPending st pq) hc hk (hm.at _ _) (by omega) (by omega) hm.at (fun i j hi hj q1 q2 q3 => by rw [← hF, ← hF]; exact s2 i j q1 q2 (by omega)) fun n2 hn2 hb3 hb4 => ?_)))
    dsimp only
    have el : sa + k + (na - k) - 1 = sb - 1 := by omega
    have lo2 : ∀ j, sb ≤ j → j < sb + n2 → F f (arrOf st) j < F f (arrOf st) (sb - 1) := by
      intro j q1 q2
      have := hb3 (j - sb) (by omega) (by omega)
      simp only [bey, if_true, decide_eq_true_eq, show sb + (j - sb) = j by omega, el] at this
      rw [hF _ (by omega), hF _ (by omega)]
      exact this
    have hi2 : ∀ j, sb + n2 ≤ j → j < sb + nb → F f (arrOf st) (sb - 1) ≤ F f (arrOf st) j := by
      intro j q1 q2
      have := hb4 (j - sb) (by omega) (by omega) (by omega)
      simp only [bey, if_true, decide_eq_false_iff_not, show sb + (j - sb) = j by omega, el] at this
      rw [hF _ (by omega), hF _ (by omega)]
      omega
    by_cases hz2 : (n2 == 0) = true
    · rw [if_pos hz2]
      simp only [beq_iff_eq] at hz2
      subst hz2
      exfalso
      have a1 := hi1 (sb - 1) (by omega) (by omega)
      have a2 := hi2 sb (by omega) (by omega)
      omega
    · rw [if_neg hz2]
      simp only [beq_iff_eq] at hz2
      have z1 : ((arrOf st).extract (sa + k) sb).size = na - k := by rw [ZW (by omega)]; omega
      have z2 : ((arrOf st).extract sb (sb + n2)).size = n2 := by rw [ZW (by omega)]; omega
      have W : Two f M ((arrOf st).extract (sa + k) sb) ((arrOf st).extract sb (sb + n2)) := by
        refine ⟨fun i hi => ?_, fun i hi => ?_, GJ (by omega) fun p q q1 q2 q3 => s1 p q (by omega) q2 q3, GJ (by omega) fun p q q1 q2 q3 => s2 p q q1 q2 (by omega)⟩
        · obtain ⟨q1, q2⟩ := Z4 (xs := arrOf st) (i := sa + k) (j := sb) (by omega) hi
          rw [q2]; exact hm.at _ q1
        · obtain ⟨q1, q2⟩ := Z4 (xs := arrOf st) (i := sb) (j := sb + n2) (by omega) hi
          rw [q2]; exact hm.at _ q1
      have gA : ∀ i (hi : i < ((arrOf st).extract (sa + k) sb).size), f ((arrOf st).extract (sa + k) sb)[i] = F f (arrOf st) (sa + k + i) := by
        intro i hi
        obtain ⟨q1, q2⟩ := Z4 (xs := arrOf st) (i := sa + k) (j := sb) (by omega) hi
        rw [q2, hF _ q1]
      have gB : ∀ i (hi : i < ((arrOf st).extract sb (sb + n2)).size), f ((arrOf st).extract sb (sb + n2))[i] = F f (arrOf st) (sb + i) := by
        intro i hi
        obtain ⟨q1, q2⟩ := Z4 (xs := arrOf st) (i := sb) (j := sb + n2) (by omega) hi
        rw [q2, hF _ q1]
      have hT : Top f ((arrOf st).extract (sa + k) sb) ((arrOf st).extract sb (sb + n2)) := by
        intro i hi he x hx
        obtain ⟨j, hj, q1, q2, rfl⟩ := VJ (by omega) hx
        rw [gA i hi, show sa + k + i = sb - 1 by omega, ← hF _ hj]
        exact Int.le_of_lt (lo2 j q1 q2)
      have hB : Bot f ((arrOf st).extract (sa + k) sb) ((arrOf st).extract sb (sb + n2)) := by
        intro i hi he x hx
        obtain ⟨j, hj, q1, q2, rfl⟩ := VJ (by omega) hx
        subst he
        rw [gB 0 hi, ← hF _ hj]
        exact Int.le_of_lt (hi1 j q1 q2)
      have fin : ∀ (r : Array Keyed) (st' : SortSt), Sg (setPending st pq) st' → Ro f ((arrOf st).extract (sa + k) sb) ((arrOf st).extract sb (sb + n2)) r →
          T prog w A E s (do
            modify fun s => setArr s (r.toList.zipIdx.foldl (fun a (p, j) => a.setIfInBounds (sa + k + j) p) (arrOf s))
            return (failedOf (← get)).isNone) P st' := by
        rintro r st' ⟨g, rfl⟩ ⟨rp, rs⟩
        have hl := rp.length_eq
        rw [List.length_append, Array.length_toList, Array.length_toList, Array.length_toList, z1, z2] at hl
        obtain ⟨fs, fg⟩ := Kt (sa + k) r.toList 0 (arrOf st) (by rw [Array.length_toList]; omega)
        simp only [Nat.add_zero] at fg
        have fin2 : ∀ ys : Array Keyed, ys.size = (arrOf st).size → (∀ k_1, ys[k_1]? = if sa + k ≤ k_1 ∧ k_1 < sa + k + r.toList.length then r.toList[k_1 - (sa + k)]? else (arrOf st)[k_1]?) → P true (setArr (VX g (setPending st pq)) ys) := by
         intro ys fs fg
         obtain ⟨mv, hms⟩ := Uy (xs := arrOf st) (sa := sa + k) (sb := sb) (se := sb + n2) (by omega) (by omega) (by omega) rp fs fg
         have key : ∀ p, sa + k ≤ p → p < sb + n2 → ∃ x ∈ r.toList, F f ys p = f x ∧ ∃ j, F f (arrOf st) j = f x ∧ sa + k ≤ j ∧ j < sb + n2 := by
           intro p q1 q2
           have hlt : p - (sa + k) < r.toList.length := by rw [Array.length_toList]; omega
           refine ⟨r.toList[p - (sa + k)], List.getElem_mem _, ?_, ?_⟩
           · unfold F
             rw [fg p, if_pos (by rw [Array.length_toList]; omega), List.getElem?_eq_getElem hlt]
             rfl
           · rcases List.mem_append.mp (rp.mem_iff.mp (List.getElem_mem hlt)) with hx | hx
             · obtain ⟨j, hj, c1, c2, ex⟩ := VJ (j := sb) (by omega) hx
               exact ⟨j, by rw [hF j hj, ← ex], by omega, by omega⟩
             · obtain ⟨j, hj, c1, c2, ex⟩ := VJ (j := sb + n2) (by omega) hx
               exact ⟨j, by rw [hF j hj, ← ex], by omega, by omega⟩
         have out : ∀ p, p < sa + k ∨ sb + n2 ≤ p → F f ys p = F f (arrOf st) p := fun p hp => Jc (mv.out p hp)
         refine h (setArr (VX g (setPending st pq)) ys) hk hf hp' (mv.wide (lo' := sa) (hi' := sb + nb) (by omega) (by omega)) ?_
         show So f ys sa (sb + nb)
         intro p q q1 q2 q3
         -- where each stands
         have left : ∀ p j, sa ≤ p → p < sa + k → sa + k ≤ j → j < sb + n2 → F f (arrOf st) p ≤ F f (arrOf st) j := by
           intro p j c1 c2 c3 c4
           by_cases c5 : j < sb
           · exact s1 p j c1 (by omega) c5
           · have a1 := lo1 p c1 c2
             have a2 := s2 sb j (Nat.le_refl _) (by omega) (by omega)
             omega
         have right : ∀ j q, sa + k ≤ j → j < sb + n2 → sb + n2 ≤ q → q < sb + nb → F f (arrOf st) j ≤ F f (arrOf st) q := by
           intro j q c1 c2 c3 c4
           by_cases c5 : j < sb
           · have a1 := s1 j (sb - 1) (by omega) (by omega) (by omega)
             have a2 := hi2 q c3 c4
             omega
           · exact s2 j q (by omega) (by omega) c4
         by_cases c1 : p < sa + k
         · rw [out p (.inl c1)]
           by_cases c2 : q < sa + k
           · rw [out q (.inl c2)]
             exact s1 p q q1 q2 (by omega)
           · by_cases c3 : q < sb + n2
             · obtain ⟨x, _, ex, j, ej, j1, j2⟩ := key q (by omega) c3
               rw [ex, ← ej]
               exact left p j q1 c1 j1 j2
             · rw [out q (.inr (by omega))]
               have a1 := left p sb q1 c1 (by omega) (by omega)
               have a2 := s2 sb q (Nat.le_refl _) (by omega) q3
               omega
         · by_cases c2 : p < sb + n2
           · by_cases c3 : q < sb + n2
             · have hp2 : p - (sa + k) < r.toList.length := by rw [Array.length_toList]; omega
               have hq2 : q - (sa + k) < r.toList.length := by rw [Array.length_toList]; omega
               have ep : F f ys p = f r.toList[p - (sa + k)] := by
                 unfold F; rw [fg p, if_pos (by rw [Array.length_toList]; omega), List.getElem?_eq_getElem hp2]; rfl
               have eq : F f ys q = f r.toList[q - (sa + k)] := by
                 unfold F; rw [fg q, if_pos (by rw [Array.length_toList]; omega), List.getElem?_eq_getElem hq2]; rfl
               rw [ep, eq]
               exact YU rs hp2 hq2 (by omega)
             · obtain ⟨x, _, ex, j, ej, j1, j2⟩ := key p (by omega) c2
               rw [ex, ← ej, out q (.inr (by omega))]
               exact right j q j1 j2 (by omega) q3
           · rw [out p (.inr (by omega)), out q (.inr (by omega))]
             exact s2 p q (by omega) q2 q3
        refine Qc (QT (Qc (Vh (Qe ?_))))
        show P ((failedOf st).isNone) _
        rw [hf]
        exact fin2 _ fs fg
      split
      · refine Qc (Wc W hT hc hk (by omega) (by omega) ?_ fin)
        rw [gA 0 (by omega), gB 0 (by omega)]
        have := hi1 (sa + k + 0) (by omega) (by omega)
        rw [Nat.add_zero sb]
        omega
      · exact Qc (Ua W hB hc hk (by omega) (by omega) hT fin)
end
end Ts

namespace Ts
open PySem PySem.Spec PyProof.Rows PySem.W
set_option autoImplicit false
section
variable {f : Keyed → Int} {xs ys : Array Keyed}
noncomputable def Ch (f : Keyed → Int) (xs : Array Keyed) : List (Nat × Nat × Nat) → Nat → Nat → Prop
  | [], a, b => a = b
  | p :: r, a, b => p.1 = a ∧ 1 ≤ p.2.1 ∧ So f xs a (a + p.2.1) ∧ Ch f xs r (a + p.2.1) b
theorem Ch.le : ∀ {l : List (Nat × Nat × Nat)} {a b : Nat}, Ch f xs l a b → a + l.length ≤ b
  | [], a, b, h => by have : a = b := h; simp; omega
  | p :: r, a, b, ⟨_, h2, _, h4⟩ => by have := h4.le; rw [List.length_cons]; omega
theorem Ch.app : ∀ {l1 l2 : List (Nat × Nat × Nat)} {a b : Nat}, Ch f xs (l1 ++ l2) a b → ∃ m, Ch f xs l1 a m ∧ Ch f xs l2 m b
  | [], l2, a, b, h => ⟨a, rfl, h⟩
  | p :: r, l2, a, b, ⟨h1, h2, h3, h4⟩ => by
    obtain ⟨m, q1, q2⟩ := h4.app
    exact ⟨m, ⟨h1, h2, h3, q1⟩, q2⟩
theorem Ch.join : ∀ {l1 l2 : List (Nat × Nat × Nat)} {a m b : Nat}, Ch f xs l1 a m → Ch f xs l2 m b → Ch f xs (l1 ++ l2) a b
  | [], l2, a, m, b, h, h' => by have : a = m := h; subst this; exact h'
  | p :: r, l2, a, m, b, ⟨h1, h2, h3, h4⟩, h' => ⟨h1, h2, h3, h4.join h'⟩
theorem So.same {i j : Nat} (h : So f xs i j) (e : ∀ k, i ≤ k → k < j → F f ys k = F f xs k) : So f ys i j := fun k l q1 q2 q3 => by rw [e k q1 (by omega), e l (by omega) q3]; exact h k l q1 q2 q3
theorem Ch.same : ∀ {l : List (Nat × Nat × Nat)} {a b : Nat}, Ch f xs l a b → (∀ k, a ≤ k → k < b → F f ys k = F f xs k) → Ch f ys l a b
  | [], a, b, h, _ => h
  | p :: r, a, b, ⟨h1, h2, h3, h4⟩, e => by
    have := h4.le
    exact ⟨h1, h2, h3.same fun k q1 q2 => e k q1 (by omega), h4.same fun k q1 q2 => e k (by omega) q2⟩
theorem Ch.pow {l : List (Nat × Nat × Nat)} {p q : Nat × Nat × Nat} {a b : Nat} (h : Ch f xs (l ++ [p]) a b) (h1 : q.1 = p.1) (h2 : q.2.1 = p.2.1) : Ch f xs (l ++ [q]) a b := by
  obtain ⟨m, q1, q2⟩ := h.app
  refine q1.join ?_
  unfold Ch at q2 ⊢
  rw [h1, h2]
  exact q2
end
section
variable {prog : Program} {w : World} {A : Around} {E : Value → Shared → Prop} {s : Shared} {κ : SortKind} {M : Keyed → Prop} {f : Keyed → Int} {a₀ : Array Keyed}
structure R (κ : SortKind) (M : Keyed → Prop) (f : Keyed → Int) (a₀ : Array Keyed) (lo : Nat) (st : SortSt) : Prop where
  kind : kindOf st = κ
  failed : failedOf st = none
  al : Al M (arrOf st)
  mv : Mv 0 a₀.size a₀ (arrOf st)
  le : lo ≤ a₀.size
  ch : Ch f (arrOf st) (pendingOf st).toList 0 lo
theorem KK {i lo : Nat} {st : SortSt} (hc : Cmp prog w A s κ M f) (h : R κ M f a₀ lo st) (hi : i + 1 < (pendingOf st).size) :
    T prog w A E s (mergeAt' i) (fun b st' => b = true ∧ R κ M f a₀ lo st' ∧ (pendingOf st').size + 1 = (pendingOf st).size ∧ ∀ k, lo ≤ k → (arrOf st')[k]? = (arrOf st)[k]?) st := by
  have hl : i + 1 < (pendingOf st).toList.length := by simpa using hi
  have e : (pendingOf st).toList = (pendingOf st).toList.take i ++ (pendingOf st).toList[i] :: (pendingOf st).toList[i + 1] :: (pendingOf st).toList.drop (i + 2) := by
    rw [← List.drop_eq_getElem_cons, ← List.drop_eq_getElem_cons, List.take_append_drop]
  generalize (pendingOf st).toList[i] = p at e
  generalize (pendingOf st).toList[i + 1] = q at e
  have htk : ((pendingOf st).toList.take i).length = i := by rw [List.length_take]; omega
  generalize (pendingOf st).toList.take i = l1 at e htk
  generalize (pendingOf st).toList.drop (i + 2) = l2 at e
  have c := h.ch
  rw [e] at c
  obtain ⟨m, c1, c2, c3, c4, c5, c6, c7, c8⟩ := c.app
  obtain ⟨sa, na, pw⟩ := p
  obtain ⟨sb, nb, pw2⟩ := q
  dsimp only at c2 c3 c4 c5 c6 c7 c8
  subst c2
  have lc := c8.le
  have hlo := h.le
  have hsz := h.mv.size
  refine Y3 hc h.kind h.failed h.al e htk c5 c3 c6 (by omega) (by rw [c5]; exact c4) (by rw [c5]; exact c7) fun st' q1 q2 q3 q4 q5 => ⟨rfl, ⟨q1, q2, h.al.mv q4, h.mv.trans (q4.wide (by omega) (by omega)), hlo, ?_⟩, ?_, fun k hk => q4.out k (.inr (by omega))⟩
  · rw [q3]
    have lc1 := c1.le
    refine (c1.same fun k k1 k2 => Jc (q4.out k (.inl k2))).join ⟨rfl, by dsimp only; omega, ?_, ?_⟩
    · dsimp only
      rw [show sa + (na + nb) = sb + nb by omega]
      exact q5
    · dsimp only
      rw [← Nat.add_assoc]
      exact c8.same fun k k1 k2 => Jc (q4.out k (.inr (by omega)))
  · have z1 := congrArg List.length q3
    have z2 := congrArg List.length e
    simp only [List.length_append, List.length_cons, Array.length_toList] at z1 z2
    omega
theorem R.push {lo n : Nat} {st : SortSt} (h : R κ M f a₀ lo st) (hn : 1 ≤ n) (hl : lo + n ≤ a₀.size) (hs : So f (arrOf st) lo (lo + n)) : R κ M f a₀ (lo + n) (setPending st ((pendingOf st).push (lo, n, 0))) := by
  refine ⟨h.kind, h.failed, h.al, h.mv, hl, ?_⟩
  show Ch f (arrOf st) ((pendingOf st).push (lo, n, 0)).toList 0 (lo + n)
  rw [Array.toList_push]
  exact h.ch.join ⟨rfl, hn, hs, rfl⟩
theorem R.pow {lo pw : Nat} {st : SortSt} (h : R κ M f a₀ lo st) : R κ M f a₀ lo (setPending st ((pendingOf st).modify ((pendingOf st).size - 1) fun x => (x.1, x.2.1, pw))) := by
  refine ⟨h.kind, h.failed, h.al, h.mv, h.le, ?_⟩
  show Ch f (arrOf st) ((pendingOf st).modify ((pendingOf st).size - 1) fun x => (x.1, x.2.1, pw)).toList 0 lo
  have c := h.ch
  rw [Array.toList_modify]
  rcases List.eq_nil_or_concat (pendingOf st).toList with e | ⟨l, x, e⟩
  · rw [e] at c ⊢
    simpa using c
  · have z := congrArg List.length e
    rw [Array.length_toList, List.concat_eq_append, List.length_append, List.length_singleton] at z
    rw [e, List.concat_eq_append] at c ⊢
    rw [z, Nat.add_sub_cancel]
    have : (l ++ [x]).modify l.length (fun x => (x.1, x.2.1, pw)) = l ++ [(x.1, x.2.1, pw)] := by
      clear c z e
      induction l with
      | nil => rfl
      | cons y l ih => exact congrArg (y :: ·) ih
    rw [this]
    exact c.pow rfl rfl
end
end Ts

namespace Ts
open PySem PySem.Spec PyProof.Rows PySem.W
set_option autoImplicit false
section
variable {prog : Program} {w : World} {A : Around} {E : Value → Shared → Prop} {s : Shared} {κ : SortKind} {M : Keyed → Prop} {f : Keyed → Int} {a₀ : Array Keyed}
theorem QeD {α : Type} {m m' : StateT SortSt Sem α} {P : α → SortSt → Prop} {st : SortSt} (e : m = m') (h : T prog w A E s m' P st) : T prog w A E s m P st := e ▸ h
theorem GR {size lo n : Nat} {st : SortSt} (hc : Cmp prog w A s κ M f) (h : R κ M f a₀ lo st) (hn : 1 ≤ n) (hl : lo + n ≤ a₀.size) (hs : So f (arrOf st) lo (lo + n)) {P : ForInStep (Option Unit × Nat) → SortSt → Prop}
    (hP : ∀ st', R κ M f a₀ (lo + n) st' → P (.yield (none, lo + n)) st') : T prog w A E s (do
      let st ← get
      match (pendingOf st).back? with
      | some (s1, n1, _) => do
        let t ← forIn [0:size] ((none, ()) : Option Unit × Unit) fun _ _ => do
          let st ← get
          match (if (pendingOf st).size > 1 then (pendingOf st)[(pendingOf st).size - 2]? else none) with
          | some (_, _, older) => if older ≤ power' size (2 * s1 + n1) (2 * s1 + n1 + n1 + n) size then pure (.done (none, ())) else do
              let b ← mergeAt' ((pendingOf st).size - 2)
              if (!b) = true then pure (.done (some (), ())) else pure (.yield (none, ()))
          | _ => pure (.done (none, ()))
        match t.1 with
        | some r => pure (.done (some r, lo))
        | none => do
          modify fun s => setPending s ((pendingOf s).modify ((pendingOf s).size - 1) fun x => (x.1, x.2.1, power' size (2 * s1 + n1) (2 * s1 + n1 + n1 + n) size))
          modify fun s => setPending s ((pendingOf s).push (lo, n, 0))
          pure (.yield (none, lo + n))
      | _ => do
        modify fun s => setPending s ((pendingOf s).push (lo, n, 0))
        pure (.yield (none, lo + n))) P st := by
  refine Qc (Vh ?_)
  cases hb : (pendingOf st).back? with
  | none => exact Qc (QT (Qe (hP _ (h.push hn hl hs))))
  | some p =>
    obtain ⟨s1, n1, pw⟩ := p
    dsimp only
    refine Qc (Qz (ZY (I := fun x c st' => c = (none, ()) ∧ R κ M f a₀ lo st' ∧ So f (arrOf st') lo (lo + n)) (Q := fun c st' => c = (none, ()) ∧ R κ M f a₀ lo st' ∧ So f (arrOf st') lo (lo + n)) ?_ (fun _ _ q => q) ⟨rfl, h, hs⟩) ?_)
    · rintro x c st' _ _ ⟨rfl, q1, q2⟩
      refine Qc (Vh ?_)
      by_cases hz : (pendingOf st').size > 1
      · rw [if_pos hz]
        cases hg : (pendingOf st')[(pendingOf st').size - 2]? with
        | none => exact Qe ⟨rfl, q1, q2⟩
        | some p2 =>
          obtain ⟨s2, n2, older⟩ := p2
          dsimp only
          split
          · exact Qe ⟨rfl, q1, q2⟩
          · refine Qc (Qz (KK hc q1 (by omega)) ?_)
            rintro b st2 ⟨rfl, r1, _, r2⟩
            exact Qe ⟨rfl, r1, q2.same fun k k1 k2 => Jc (r2 k k1)⟩
      · rw [if_neg hz]
        exact Qe ⟨rfl, q1, q2⟩
    · rintro c st' ⟨rfl, q1, q2⟩
      exact Qc (QT (Qc (QT (Qe (hP _ (q1.pow.push hn hl q2))))))
theorem Yc {st : SortSt} {P : Unit → SortSt → Prop} (hc : Cmp prog w A s κ M f) (hk : kindOf st = κ) (hf : failedOf st = none) (hm : Al M a₀) (ha : arrOf st = a₀) (hp : pendingOf st = #[])
    (h : ∀ st', (arrOf st').Perm a₀ → failedOf st' = none → So f (arrOf st') 0 a₀.size → P () st') : T prog w A E s sortRuns' P st := by
  rw [sortRuns'_eq]
  refine Qc (Vh ?_)
  dsimp only
  rw [ha]
  refine Qc (Qz (ZY (I := fun x c st' => ∃ lo, c = (none, lo) ∧ R κ M f a₀ lo st' ∧ min x a₀.size ≤ lo) (Q := fun c st' => c = (none, a₀.size) ∧ R κ M f a₀ a₀.size st') ?_ ?_ ⟨0, rfl, ⟨hk, hf, ha ▸ hm, ha ▸ Mv.refl _, Nat.zero_le _, by rw [hp]; rfl⟩, by omega⟩) ?_)
  · rintro x c st' _ hx ⟨lo, rfl, q, hlo⟩
    dsimp only
    have hle := q.le
    have hsz := q.mv.size
    by_cases hge : lo ≥ a₀.size
    · rw [if_pos hge]
      have : lo = a₀.size := by omega
      subst this
      exact Qe ⟨rfl, q⟩
    · rw [if_neg hge]
      refine Qc (QaN hc q.kind q.al (by omega) (by omega) fun m ys hm1 hm2 mv hs => ?_)
      dsimp only
      have q' : ∀ {n : Nat} {zs : Array Keyed}, lo + n ≤ a₀.size → Mv lo (lo + n) (arrOf st') zs → R κ M f a₀ lo (setArr st' zs) := fun {n zs} hn mz =>
        ⟨q.kind, q.failed, q.al.mv mz, q.mv.trans (mz.wide (Nat.zero_le _) hn), hle, q.ch.same fun k k1 k2 => Jc (mz.out k (.inl k2))⟩
      by_cases hlt : m < minRun' a₀.size a₀.size 0
      · rw [if_pos hlt]
        refine Qc (Vm ?_)
        have mz := mv.size
        refine Qc (UV (st := setArr st' ys) hc q.kind (q.al.mv mv) (show lo + min (a₀.size - lo) (minRun' a₀.size a₀.size 0) ≤ ys.size by omega) (show m ≤ min (a₀.size - lo) (minRun' a₀.size a₀.size 0) by omega) hs fun zs mv2 hs2 => ?_)
        simp only [Bool.not_true, Bool.false_eq_true, if_false]
        refine QeD ?_ (GR (size := a₀.size) (n := min (a₀.size - lo) (minRun' a₀.size a₀.size 0)) hc (q' (n := a₀.size - lo) (by omega) (mv.trans (mv2.wide (Nat.le_refl _) (by omega)))) (by omega) (by omega) hs2 fun st2 r => ⟨_, rfl, r, by omega⟩)
        (refine Qo fun st => ?_; rcases (pendingOf st).back? with _ | ⟨_, _, _⟩; rfl; (dsimp only; refine congr (congrArg bind ?_) (funext fun t => ?_); (focus (refine congrArg (forIn _ _) (funext fun _ => funext fun t => ?_); rfl)); (obtain ⟨_ | r, t⟩ := t <;> rfl)))
      · rw [if_neg hlt]
        refine QeD ?_ (GR (size := a₀.size) (n := m) hc (q' (n := a₀.size - lo) (by omega) (mv.wide (Nat.le_refl _) (by omega))) hm1 (by omega) hs fun st2 r => ⟨_, rfl, r, by omega⟩)
        (refine Qo fun st => ?_; rcases (pendingOf st).back? with _ | ⟨_, _, _⟩; rfl; (dsimp only; refine congr (congrArg bind ?_) (funext fun t => ?_); (focus (refine congrArg (forIn _ _) (funext fun _ => funext fun t => ?_); rfl)); (obtain ⟨_ | r, t⟩ := t <;> rfl)))
  · rintro c st' ⟨lo, rfl, q, hlo⟩
    have hle := q.le
    have : lo = a₀.size := by omega
    subst this
    exact ⟨rfl, q⟩
  · rintro c st' ⟨rfl, q⟩
    dsimp only
    refine Qc (Qz (ZY (I := fun x c st' => c = (none, ()) ∧ R κ M f a₀ a₀.size st' ∧ (pendingOf st').size ≤ a₀.size - x) (Q := fun c st' => c = (none, ()) ∧ R κ M f a₀ a₀.size st' ∧ (pendingOf st').size ≤ 1) ?_ ?_ ⟨rfl, q, ?_⟩) ?_)
    · rintro x c st2 _ hx ⟨rfl, r, hz⟩
      refine Qc (Vh ?_)
      by_cases h1 : (pendingOf st2).size ≤ 1
      · rw [if_pos h1]
        exact Qe ⟨rfl, r, h1⟩
      · rw [if_neg h1]
        have go : ∀ i, i + 1 < (pendingOf st2).size → T prog w A E s (do
            let b ← mergeAt' i
            if (!b) = true then pure (ForInStep.done (some (), ())) else pure (ForInStep.yield (none, ()))) (fun r st' => match r with | .done c' => c' = (none, ()) ∧ R κ M f a₀ a₀.size st' ∧ (pendingOf st').size ≤ 1 | .yield c' => c' = (none, ()) ∧ R κ M f a₀ a₀.size st' ∧ (pendingOf st').size ≤ a₀.size - (x + 1)) st2 := by
          intro i hi
          refine Qc (Qz (KK hc r hi) ?_)
          rintro b st3 ⟨rfl, r1, r2, _⟩
          exact Qe ⟨rfl, r1, by omega⟩
        refine Qz (go _ ?_) ?_
        · repeat' split
          all_goals omega
        · rintro (c' | c') st3 r3
          · exact r3
          · exact r3
    · rintro c st2 ⟨rfl, r, hz⟩
      exact ⟨rfl, r, by omega⟩
    · have := q.ch.le
      simp at this
      omega
    · rintro c st2 ⟨rfl, r, hz⟩
      refine Qe (h st2 r.mv.pm r.failed ?_)
      have c := r.ch
      have hz' : (pendingOf st2).toList.length ≤ 1 := by simpa using hz
      match e : (pendingOf st2).toList, hz' with
      | [], _ =>
        rw [e] at c
        have : 0 = a₀.size := c
        intro k l q1 q2 q3
        omega
      | [p], _ =>
        rw [e] at c
        obtain ⟨c1, c2, c3, c4⟩ := c
        have c4' : 0 + p.2.1 = a₀.size := c4
        rw [c4'] at c3
        exact c3
end
end Ts

namespace Ts
open PySem PySem.Spec PyProof.Rows PySem.W
set_option autoImplicit false
section
variable {prog : Program} {w : World} {A : Around} {E : Value → Shared → Prop} {s : Shared}
theorem sort_any {a : Addr} {vs : List Value} {n : Nat} {κ : SortKind} {f : Value → Int} {P : PySem.Fin → Shared → Prop} (ho : s.heap.get? a = some (seqObj "list" vs.toArray n)) (hz : vs.length ≤ sizeLine)
    (hk : 2 ≤ vs.length → ∀ g : Heap, (∀ b o, b ≠ a → s.heap.get? b = some o → g.get? b = some o) → ∀ Q : SortKind → Shared → Prop, Q κ { s with heap := g } → wpAny (model prog w) A (keyKind' vs.toArray) Q (fun _ _ => False) { s with heap := g })
    (hc : ∀ g : Heap, (∀ b o, b ≠ a → s.heap.get? b = some o → g.get? b = some o) → ∀ x ∈ vs, ∀ y ∈ vs, ∀ (tk : Nat) (C : Bool → Shared → Prop), (∀ t, C (decide (f x < f y)) { s with heap := g, toks := t }) → wpAny (model prog w) A (keyLt' κ x y) C (fun _ _ => False) { s with heap := g, toks := tk })
    (h : ∀ (g : Heap) (tk c : Nat) (us : List Value), us.Perm vs → (us.Pairwise fun x y => f x ≤ f y) → (∀ b o, b ≠ a → s.heap.get? b = some o → g.get? b = some o) → g.get? a = some (seqObj "list" us.toArray c) → P (.done (.ret .none)) { s with heap := g, toks := tk }) :
    wpAny (model prog w) A (Builtin.«list.sort» ⟨[.ref a], []⟩) P E s := by
  have la : a < s.heap.objs.size := Heap.lt_size ho
  obtain ⟨e1, g1⟩ : ∃ e1, (s.heap.update a (Obj.mapSeq fun _ => (#[] : Array Value))).get? a = some (seqObj "list" #[] e1) := ⟨_, get?_update_seq ho fun _ => #[]⟩
  rw [list_sort_plain]
  refine wpAny_bind (listItems_at ho rfl (wpAny_bind (listUpdate_at ho rfl ?_ (by rw [List.size_toArray]; omega) (Nat.zero_le _))))
  refine wpAny_bind (seqEpoch_at g1 rfl (wpAny_bind (wpAny_newTuple ?_ (by show vs.length ≤ _; omega))))
  refine wpAny_bind (wpAny_newList (wpAny_holding ?_) (Nat.zero_le _))
  show wpAny (model prog w) A _ P E { s with heap := ((s.heap.update a (Obj.mapSeq fun _ => (#[] : Array Value))).push (seqObj "tuple" vs.toArray 0)).push (seqObj "list" #[] 0) }
  have kg : ∀ b o, b ≠ a → s.heap.get? b = some o → (((s.heap.update a (Obj.mapSeq fun _ => (#[] : Array Value))).push (seqObj "tuple" vs.toArray 0)).push (seqObj "list" #[] 0)).get? b = some o := fun b o hb e => Heap.get?_push_of_some _ (Heap.get?_push_of_some _ ((Heap.get?_update_other _ _ (Ne.symm hb)).trans e))
  have g2 : (((s.heap.update a (Obj.mapSeq fun _ => (#[] : Array Value))).push (seqObj "tuple" vs.toArray 0)).push (seqObj "list" #[] 0)).get? a = some (seqObj "list" #[] e1) := Heap.get?_push_of_some _ (Heap.get?_push_of_some _ g1)
  generalize ((s.heap.update a (Obj.mapSeq fun _ => (#[] : Array Value))).push (seqObj "tuple" vs.toArray 0)).push (seqObj "list" #[] 0) = g at kg g2
  dsimp only
  have fin : ∀ (st : SortSt) (tk : Nat) (us : List Value), us.Perm vs → (us.Pairwise fun x y => f x ≤ f y) → (arrOf st).map (·.2) = us.toArray → failedOf st = none → wpAny (model prog w) A (do
      let touched := (← seqEpoch a) != e1
      Builtin.List.listUpdate (.ref a) fun _ => (arrOf st).map (·.2)
      if let some e := failedOf st then rule "list.sort.comparison-raised"; throw e
      if touched then rule "list.sort.modified"; raiseError "ValueError" "list modified during sort"
      ret .none) P E { s with heap := g, toks := tk } := by
    intro st tk us u1 u2 q1 q2
    rw [q1, q2]
    refine wpAny_bind (seqEpoch_at g2 rfl (wpAny_bind (listUpdate_at g2 rfl ?_ (Nat.zero_le _) (by rw [List.size_toArray, u1.length_eq]; omega))))
    simp only [bne_self_eq_false, Bool.false_eq_true, if_false]
    refine wpAny_pure ?_
    exact h _ tk _ us u1 u2 (fun b o hb e => (Heap.get?_update_other _ _ (Ne.symm hb)).trans (kg b o hb e)) (get?_update_seq g2 fun _ => us.toArray)
  by_cases hs : vs.toArray.size < 2
  · rw [if_pos hs, if_pos hs]
    refine wpAny_bind (wpAny_pure ?_)
    rw [StateT.run_pure]
    have hl : vs.length < 2 := by rwa [List.size_toArray] at hs
    refine wpAny_bind (wpAny_pure (fin (SortSt.mk' general' (vs.toArray.zip vs.toArray) #[] 7 none) s.toks vs (List.Perm.refl _) ?_ ?_ rfl))
    · match vs, hl with
      | [], _ => exact List.Pairwise.nil
      | [_], _ => exact List.pairwise_singleton _ _
    · show (vs.toArray.zip vs.toArray).map (·.2) = vs.toArray
      apply Array.ext
      · simp
      · intro i h1 h2; simp
  · rw [if_neg hs, if_neg hs]
    have h2 : 2 ≤ vs.length := by rw [List.size_toArray] at hs; omega
    refine wpAny_bind (wpAny_mono (hk h2 g kg (fun κ' s' => κ' = κ ∧ s' = { s with heap := g }) ⟨rfl, rfl⟩) (fun κ' s' z => ?_) fun _ _ z => z.elim)
    obtain ⟨rfl, rfl⟩ := z
    have hC : Cmp prog w A { s with heap := g } κ' (fun p => p.1 = p.2 ∧ p.1 ∈ vs) (fun p => f p.1) := fun x y hx hy tk C q => hc g kg x.1 hx.2 y.1 hy.2 tk C q
    refine wpAny_bind (wpAny_mono (Yc (E := E) (P := fun _ st' => (arrOf st').Perm (pairsOf vs) ∧ failedOf st' = none ∧ So (fun p => f p.1) (arrOf st') 0 (pairsOf vs).size) (st := SortSt.mk' κ' (pairsOf vs) #[] 7 none) (a₀ := pairsOf vs) hC rfl rfl (fun x hx => by rw [pairsOf_toList] at hx; exact mem_zip_self hx) rfl rfl (fun st' p1 p2 p3 => ⟨p1, p2, p3⟩) s.toks) ?_ fun _ _ e => e)
    rintro ⟨⟨⟩, st'⟩ s' ⟨⟨t, rfl⟩, p1, p2, p3⟩
    have pl : (arrOf st').toList.Perm (vs.zip vs) := by rw [← pairsOf_toList]; exact Array.perm_iff_toList_perm.mp p1
    have hsz : (arrOf st').size = (pairsOf vs).size := p1.size_eq
    refine fin st' t ((arrOf st').toList.map (·.2)) ?_ ?_ ?_ p2
    · have := pl.map (·.2)
      rwa [List.map_snd_zip (Nat.le_refl _)] at this
    · rw [List.pairwise_map, List.pairwise_iff_getElem]
      intro i j hi hj hij
      rw [Array.length_toList] at hi hj
      have q := p3 i j (Nat.zero_le _) (Nat.le_of_lt hij) (by omega)
      rw [Qar hi, Qar hj] at q
      have m1 := mem_zip_self (pl.mem_iff.mp (show (arrOf st')[i] ∈ (arrOf st').toList by simp))
      have m2 := mem_zip_self (pl.mem_iff.mp (show (arrOf st')[j] ∈ (arrOf st').toList by simp))
      show f (arrOf st')[i].2 ≤ f (arrOf st')[j].2
      rw [← m1.1, ← m2.1]
      exact q
    · apply Array.ext'
      simp
theorem sorted_any {l : Addr} {vs : List Value} {κ : SortKind} {f : Value → Int} {Q : Value → Shared → Prop} (hl : s.heap.IsList l vs.toArray) (hz : vs.length ≤ sizeLine)
    (hk : 2 ≤ vs.length → ∀ (A : Around) (g : Heap), (∀ b o, s.heap.get? b = some o → g.get? b = some o) → ∀ Q : SortKind → Shared → Prop, Q κ { s with heap := g } → wpAny (model prog w) A (keyKind' vs.toArray) Q (fun _ _ => False) { s with heap := g })
    (hc : ∀ (A' : Around) (g : Heap), A' = A.in1.in1 → (∀ b o, s.heap.get? b = some o → g.get? b = some o) → ∀ x ∈ vs, ∀ y ∈ vs, ∀ (tk : Nat) (C : Bool → Shared → Prop), (∀ t, C (decide (f x < f y)) { s with heap := g, toks := t }) → wpAny (model prog w) A' (keyLt' κ x y) C (fun _ _ => False) { s with heap := g, toks := tk })
    (h : ∀ (D : Addr) (g : Heap) (tk c : Nat) (us : List Value), us.Perm vs → (us.Pairwise fun x y => f x ≤ f y) → (∀ b o, s.heap.get? b = some o → g.get? b = some o) → s.heap.objs.size ≤ D → g.get? D = some (seqObj "list" us.toArray c) → Q (.ref D) { s with heap := g, toks := tk }) :
    wpAny (model prog w) A (call (.builtin "sorted") [.ref l]) Q E s := by
  refine Calls.call_function_entry kind_sorted plain_sorted entry_sorted (args_sorted1 _) ?_
  unfold Builtin.«sorted»
  refine wpAny_bind (m := checkCount "sorted" 1 1 _) (wpAny_pure ?_)
  refine wpAny_bind (collect_list hl ?_ hz)
  refine wpAny_bind (wpAny_newList ?_ hz)
  have hsz : ((s.heap.push (seqObj "list" #[] 0)).update s.heap.objs.size (Obj.mapSeq (· ++ vs.toArray))).objs.size = s.heap.objs.size + 1 := by
    rw [Heap.size_update, size_push']
  have hoL : (((s.heap.push (seqObj "list" #[] 0)).update s.heap.objs.size (Obj.mapSeq (· ++ vs.toArray))).push (seqObj "list" vs.toArray 0)).get? (s.heap.objs.size + 1) = some (seqObj "list" vs.toArray 0) := by
    rw [← hsz]; exact Heap.get?_push_size _ rfl
  have old : ∀ b o, s.heap.get? b = some o → (((s.heap.push (seqObj "list" #[] 0)).update s.heap.objs.size (Obj.mapSeq (· ++ vs.toArray))).push (seqObj "list" vs.toArray 0)).get? b = some o := fun b o e =>
    Heap.get?_push_of_some _ ((Heap.get?_update_other _ _ (Nat.ne_of_gt (Heap.lt_size e))).trans (Heap.get?_push_of_some _ e))
  show wpAny _ _ _ _ _ { s with heap := ((s.heap.push (seqObj "list" #[] 0)).update s.heap.objs.size (Obj.mapSeq (· ++ vs.toArray))).push (seqObj "list" vs.toArray 0) }
  rw [hsz]
  have ne : ∀ b o, s.heap.get? b = some o → b ≠ s.heap.objs.size + 1 := fun b o e => Nat.ne_of_lt (Nat.lt_succ_of_lt (Heap.lt_size e))
  refine wpAny_bind (wpAny_holding (wpAny_call_entry slot_list_sort ⟨_, hoL, rfl⟩ entry_list_sort (sort_any (A := A.in1.in1) (κ := κ) (f := f) (s := { s with heap := ((s.heap.push (seqObj "list" #[] 0)).update s.heap.objs.size (Obj.mapSeq (· ++ vs.toArray))).push (seqObj "list" vs.toArray 0) }) hoL hz
    (fun h2 g kp => hk h2 _ g fun b o e => kp b o (ne b o e) (old b o e)) (fun g kp => hc _ g rfl fun b o e => kp b o (ne b o e) (old b o e)) fun g tk c us u1 u2 kp hD => ⟨_, rfl, ?_⟩) (args_list_sort _)))
  exact wpAny_pure ⟨_, rfl, h _ g tk c us u1 u2 (fun b o e => kp b o (ne b o e) (old b o e)) (Nat.le_succ _) hD⟩
end
end Ts

namespace Sb
open PySem PySem.Spec PyProof.Rows L2 PySem.W SeqAt
section
variable {prog : Program} {w : World} {A : Around} {E : Value → Shared → Prop} {s : Shared} {b : Bool} {Q : Bool → Shared → Prop}
theorem KE {n : Nat} (hu : A.units + n < cLine) : ∀ {l : List Sh} {ks ls : List Tr} {us vs : List Value} (i : Nat), (b && i == 0) = false → Paired (Wf n) l ks → Paired (Wf n) l ls → Paired (IsQ s.heap n) ks us → Paired (IsQ s.heap n) ls vs → Q (lex (ltN n) ks ls) s → KatLex prog w A b false Q (us.zip vs) i s
  | _, _, _, _, _, i, _, .nil, .nil, .nil, .nil, h => kat_nil h
  | _, k :: ks, m :: ms, u :: us, v :: vs, i, hi, .cons p1 p2, .cons q1 q2, .cons r1 r2, .cons s1 s2, h => by
    rw [List.zip_cons_cons]
    refine kat_cons (Qbv n A hu k m u v (Ve _ _ r1) (Ve _ _ s1) _ _ _ _ ?_)
    unfold lex at h
    by_cases c : k = m
    · rw [if_pos c] at h
      rw [decide_eq_true c]
      exact kat_yes (KE hu (i + 1) (by simp) p2 q2 r2 s2 h)
    · rw [if_neg c] at h
      rw [decide_eq_false c]
      refine kat_no ?_
      rw [hi]
      exact kat_one u v (QdR n A hu _ k m u v p1 q1 r1 s1 _ _ _ _ h)
noncomputable def ty0 : Sh → String
  | .i => "int"
  | .s => "str"
  | .t _ => "tuple"
theorem GP {n : Nat} (hu : A.units + (n + 1) < cLine) {sh0 : Sh} {shs : List Sh} {x y : Tr} {u v : Value} (p : Wf (n + 1) (.t (sh0 :: shs)) x) (q : Wf (n + 1) (.t (sh0 :: shs)) y) (r : IsQ s.heap (n + 1) x u) (t : IsQ s.heap (n + 1) y v) (h : Q (ltN (n + 1) x y) s) :
    wpAny (model prog w) A (keyLt' (tuples' (Value.type (ty0 sh0) != Value.type "tuple")) u v) Q E s := by
  obtain ⟨ks, rfl, p⟩ := p
  obtain ⟨ls, rfl, q⟩ := q
  obtain ⟨a, its, rfl, h1, r⟩ := r
  obtain ⟨b, its', rfl, h2, t⟩ := t
  have hz := GG p q r t
  obtain ⟨o1, a1, _, n1, a2⟩ := h1
  obtain ⟨o2, b1, _, n2, b2⟩ := h2
  refine kat_lt a1 a2 b1 b2 ?_
  rw [hz]
  simp only [Nat.lt_irrefl, decide_false]
  simp only [ltN] at h
  generalize its.toList = us at r
  generalize its'.toList = vs at t
  cases p with
  | cons p1 p2 =>
    cases q with
    | cons q1 q2 =>
      cases r with
      | cons r1 r2 =>
        cases t with
        | cons t1 t2 =>
          rename_i k ks m ms u us v vs
          rw [List.zip_cons_cons]
          refine kat_cons (Qbv n A (by omega) k m u v (Ve _ _ r1) (Ve _ _ t1) _ _ _ _ ?_)
          unfold lex at h
          by_cases c : k = m
          · rw [if_pos c] at h
            rw [decide_eq_true c]
            exact kat_yes (KE (by omega) 1 (by simp) p2 q2 r2 t2 h)
          · rw [if_neg c] at h
            rw [decide_eq_false c]
            refine kat_no ?_
            cases n with
            | zero => exact p1.elim
            | succ n =>
              cases sh0 with
              | i =>
                obtain ⟨x, rfl⟩ := p1
                obtain ⟨y, rfl⟩ := q1
                obtain ⟨t, rfl⟩ := r1
                obtain ⟨t', rfl⟩ := t1
                refine oneLt_int ?_
                simpa only [ltN] using h
              | s =>
                obtain ⟨x, rfl⟩ := p1
                obtain ⟨y, rfl⟩ := q1
                obtain ⟨t, rfl⟩ := r1
                obtain ⟨t', rfl⟩ := t1
                refine oneLt_str ?_
                simpa only [ltN] using h
              | t l => exact kat_one u v (QdR (n + 1) A (by omega) _ k m u v p1 q1 r1 t1 _ _ _ _ h)
theorem VO {h : Heap} {n : Nat} {sh0 : Sh} {shs : List Sh} : ∀ (vs : List Value), (∀ v ∈ vs, ∃ t, IsQ h (n + 2) t v ∧ Wf (n + 2) (.t (sh0 :: shs)) t) → ∃ fs, KatTups h vs fs ∧ fs.length = vs.length ∧ ∀ f ∈ fs, Looks (model prog w) h (typeOf f) (.type (ty0 sh0))
  | [], _ => ⟨[], trivial, rfl, fun _ hf => nomatch hf⟩
  | v :: vs, hp => by
    obtain ⟨t, r, p⟩ := hp v List.mem_cons_self
    obtain ⟨fs, f1, f2, f3⟩ := VO vs fun b hb => hp b (List.mem_cons_of_mem _ hb)
    obtain ⟨ks, rfl, p⟩ := p
    obtain ⟨a, its, rfl, ⟨o, ho, hc, l, hd⟩, r⟩ := r
    obtain ⟨us, rfl⟩ : ∃ us : List Value, its = us.toArray := ⟨its.toList, by simp⟩
    rw [List.toList_toArray] at r
    cases p with
    | cons p1 p2 =>
      cases r with
      | cons r1 r2 =>
        rename_i k ks u us
        refine ⟨u :: fs, KatTups.cons ho hc hd (by simp) f1, by simp [f2], fun f hf => ?_⟩
        rcases List.mem_cons.mp hf with rfl | hf
        · cases sh0 with
          | i =>
            obtain ⟨x, rfl⟩ := p1
            obtain ⟨t, rfl⟩ := r1
            exact Looks.of_pure rfl
          | s =>
            obtain ⟨x, rfl⟩ := p1
            obtain ⟨t, rfl⟩ := r1
            exact Looks.of_pure rfl
          | t l =>
            obtain ⟨x, rfl, _⟩ := p1
            obtain ⟨a', its', rfl, ⟨o', ho', hc', _⟩, _⟩ := r1
            have : Looks (model prog w) h (typeOf (.ref a')) o'.cls := (Looks.ld ho').andThen .now
            rw [hc'] at this
            exact this
        · exact f3 f hf
open Classical in
noncomputable def trV (h : Heap) (v : Value) : Tr := if x : ∃ t, IsQ h 8 t v then x.choose else .i 0
theorem JG {h : Heap} {v : Value} {t : Tr} (x : IsQ h 8 t v) : trV h v = t := by
  have hx : ∃ t, IsQ h 8 t v := ⟨t, x⟩
  unfold trV
  rw [dif_pos hx]
  exact Zk _ _ _ (Ve _ _ hx.choose_spec) (Ve _ _ x)
noncomputable abbrev X8 (h : Heap) (us : List Value) : Prop := us.Pairwise fun x y => ltN 8 (trV h y) (trV h x) = false
noncomputable abbrev Kk (h : Heap) (sh0 : Sh) (shs : List Sh) (vs : List Value) : Prop := ∀ v ∈ vs, ∃ t, IsQ h 8 t v ∧ Wf 8 (.t (sh0 :: shs)) t
theorem X9 {h : Heap} {sh0 : Sh} {shs : List Sh} {vs : List Value} (hq : Kk h sh0 shs vs) {x y : Value} (hx : x ∈ vs) (hy : y ∈ vs) : (rk (vs.map (trV h)) (trV h x) < rk (vs.map (trV h)) (trV h y)) ↔ ltN 8 (trV h x) (trV h y) = true :=
  Qee (sh := .t (sh0 :: shs)) (fun t ht => by
    obtain ⟨v, hv, rfl⟩ := List.mem_map.mp ht
    obtain ⟨t, t1, t2⟩ := hq v hv
    rw [JG t1]; exact t2) (List.mem_map_of_mem hx) (List.mem_map_of_mem hy)
theorem Yb {h : Heap} {sh0 : Sh} {shs : List Sh} {vs us : List Value} (hq : Kk h sh0 shs vs) (p : us.Perm vs) (o : us.Pairwise fun x y => (rk (vs.map (trV h)) (trV h x) : Int) ≤ rk (vs.map (trV h)) (trV h y)) : X8 h us := by
  refine List.Pairwise.imp_of_mem ?_ o
  intro x y hx hy hle
  cases c : ltN 8 (trV h y) (trV h x) with
  | false => rfl
  | true =>
    have := (X9 hq (p.mem_iff.mp hy) (p.mem_iff.mp hx)).mpr c
    omega
theorem sorted_tups {l : Addr} {vs : List Value} {sh0 : Sh} {shs : List Sh} {Q : Value → Shared → Prop} (hu : A.units + 12 < cLine) (hl : s.heap.IsList l vs.toArray) (hz : vs.length ≤ sizeLine) (hq : Kk s.heap sh0 shs vs)
    (h : ∀ (D : Addr) (g : Heap) (tk c : Nat) (us : List Value), us.Perm vs → X8 s.heap us → Ex s.heap g → s.heap.objs.size ≤ D → g.get? D = some (seqObj "list" us.toArray c) → Q (.ref D) { s with heap := g, toks := tk }) :
    wpAny (model prog w) A (call (.builtin "sorted") [.ref l]) Q E s := by
  refine Ts.sorted_any (κ := tuples' (Value.type (ty0 sh0) != Value.type "tuple")) (f := fun v => (rk (vs.map (trV s.heap)) (trV s.heap v) : Int)) hl hz ?_ ?_ fun D g tk c us p o k hD hg => h D g tk c us p (Yb hq p o) k hD hg
  · intro h2 A' g kp Q' hq'
    obtain ⟨fs, f1, f2, f3⟩ := VO (prog := prog) (w := w) (h := g) (n := 6) vs fun v hv => by
      obtain ⟨t, t1, t2⟩ := hq v hv
      exact ⟨t, Zy kp _ _ t1, t2⟩
    exact kat_kind (s := { s with heap := g }) f1 (by omega) f3 (by simp) hq'
  · rintro A' g rfl kp x hx y hy tk C hC
    obtain ⟨t1, a1, a2⟩ := hq x hx
    obtain ⟨t2, b1, b2⟩ := hq y hy
    refine GP (n := 7) (s := { s with heap := g, toks := tk }) (by show A.units + 1 + 1 + 8 < cLine; omega) a2 b2 (Zy kp _ _ a1) (Zy kp _ _ b1) ?_
    have e : decide ((rk (vs.map (trV s.heap)) (trV s.heap x) : Int) < rk (vs.map (trV s.heap)) (trV s.heap y)) = ltN 8 t1 t2 := by
      have := X9 hq hx hy
      rw [JG a1, JG b1] at this ⊢
      cases c : ltN 8 t1 t2 with
      | true => rw [decide_eq_true_eq]; have := this.mpr c; omega
      | false =>
        rw [decide_eq_false_iff_not]
        intro z
        have := this.mp (by omega)
        rw [c] at this
        cases this
    have := hC tk
    rw [e] at this
    exact this
theorem sorted_set {h₀ : Heap} {S : Addr} {ks : List Tr} {G : Value → Prop} {sh0 : Sh} {shs : List Sh} {Q : Value → Shared → Prop} (hu : A.units + 12 < cLine) (hh : A.handled = none) (ext : Ex h₀ s.heap) (hS : SetT w G h₀ s.heap S ks (St.ledW w)) (hz : ks.length ≤ 76) (hG : ∀ v, G v → ∃ t, IsQ h₀ 8 t v ∧ Wf 8 (.t (sh0 :: shs)) t)
    (h : ∀ (D : Addr) h' d tk (us : List Value) c, (∀ v ∈ us, G v) → (us.map (trV h₀)).Perm ks → X8 h₀ us → Ex s.heap h' → s.heap.objs.size ≤ D → h'.get? D = some (seqObj "list" us.toArray c) → Q (.ref D) { s with heap := h', drawn := d, toks := tk }) :
    wpAny (model prog w) A (call (.builtin "sorted") [.ref S]) Q E s := by
  refine Calls.call_function_entry kind_sorted plain_sorted entry_sorted (args_sorted1 _) ?_
  unfold Builtin.«sorted»
  refine wpAny_bind (m := checkCount "sorted" 1 1 _) (wpAny_pure (wpAny_bind (Gc (by simp [hh]) hS (by rw [sizeLine_eq]; omega) fun h1 d tk vs str k1 hle => ?_)))
  obtain ⟨ts, st, pm, hg⟩ := str
  have hvl : vs.length ≤ 76 := by
    have := st.1
    rw [List.size_toArray] at this
    rw [← this, pm.length_eq]; exact hz
  have hq : Kk h₀ sh0 shs vs := fun v hv => hG v (hg v hv)
  refine wpAny_bind (wpAny_newList ?_ (by rw [sizeLine_eq]; omega))
  have hoL : (h1.push (seqObj "list" vs.toArray 0)).get? h1.objs.size = some (seqObj "list" vs.toArray 0) := Heap.get?_push_size _ rfl
  have k2 : Ex h₀ (h1.push (seqObj "list" vs.toArray 0)) := fun b o e => Heap.get?_push_of_some _ (k1 b o (ext b o e))
  have ne : ∀ b o, h₀.get? b = some o → b ≠ h1.objs.size := fun b o e => Nat.ne_of_lt (Heap.lt_size (k1 b o (ext b o e)))
  refine wpAny_bind (wpAny_holding (wpAny_call_entry slot_list_sort ⟨_, hoL, rfl⟩ entry_list_sort (Ts.sort_any (A := A.in1.in1) (κ := tuples' (Value.type (ty0 sh0) != Value.type "tuple")) (f := fun v => (rk (vs.map (trV h₀)) (trV h₀ v) : Int)) (s := { s with heap := h1.push (seqObj "list" vs.toArray 0), drawn := d, toks := tk }) hoL (by rw [sizeLine_eq]; omega) ?_ ?_ fun g tk' c us p o k hD => ⟨_, rfl, ?_⟩) (args_list_sort _)))
  · intro h2 g kp Q' hq'
    obtain ⟨fs, f1, f2, f3⟩ := VO (prog := prog) (w := w) (h := g) (n := 6) vs fun v hv => by
      obtain ⟨t, t1, t2⟩ := hq v hv
      exact ⟨t, Zy (fun b o e => kp b o (ne b o e) (k2 b o e)) _ _ t1, t2⟩
    exact kat_kind (s := { s with heap := g, drawn := d, toks := tk }) f1 (by omega) f3 (by simp) hq'
  · intro g kp x hx y hy tk' C hC
    obtain ⟨t1, a1, a2⟩ := hq x hx
    obtain ⟨t2, b1, b2⟩ := hq y hy
    have kk : Ex h₀ g := fun b o e => kp b o (ne b o e) (k2 b o e)
    refine GP (n := 7) (s := { s with heap := g, drawn := d, toks := tk' }) (by show A.units + 1 + 1 + 8 < cLine; omega) a2 b2 (Zy kk _ _ a1) (Zy kk _ _ b1) ?_
    have e : decide ((rk (vs.map (trV h₀)) (trV h₀ x) : Int) < rk (vs.map (trV h₀)) (trV h₀ y)) = ltN 8 t1 t2 := by
      have := X9 hq hx hy
      rw [JG a1, JG b1] at this ⊢
      cases c : ltN 8 t1 t2 with
      | true => rw [decide_eq_true_eq]; have := this.mpr c; omega
      | false =>
        rw [decide_eq_false_iff_not]
        intro z
        have := this.mp (by omega)
        rw [c] at this
        cases this
    have := hC tk'
    rw [e] at this
    exact this
  · refine wpAny_pure ⟨_, rfl, h h1.objs.size g d tk' us c (fun v hv => hg v (p.mem_iff.mp hv)) ?_ (Yb hq p o) (fun b o e => k b o (Nat.ne_of_lt (Heap.lt_size (k1 b o e))) (Heap.get?_push_of_some _ (k1 b o e))) hle hD⟩
    refine (p.map _).trans (List.Perm.trans ?_ pm)
    have : vs.map (trV h₀) = ts := by
      apply List.ext_getElem?
      intro i
      rw [List.getElem?_map]
      cases e : vs[i]? with
      | none =>
        have h1 : vs.length ≤ i := List.getElem?_eq_none_iff.mp e
        have h2 := st.1
        rw [List.size_toArray] at h2
        rw [List.getElem?_eq_none (by omega)]
        rfl
      | some v =>
        obtain ⟨k', x, z1, z2, z3⟩ := st.2 i v (by simpa using e)
        obtain ⟨t, t1, _⟩ := hq v (List.mem_of_getElem? e)
        rw [z1]
        subst z2
        show some (trV h₀ _) = _
        rw [JG t1, Zk _ _ _ (Ve _ _ t1) z3]
    rw [this]
end
end Sb

namespace Mi
open PySem PySem.Spec PyProof.Rows L2 Sb
noncomputable def plN : Nat → W → Option Tr
  | 0, _ => none
  | _ + 1, .int i => some (.i i)
  | _ + 1, .str x => some (.s x)
  | n + 1, .tup ws => (ws.mapM (plN n)).map .t
  | _ + 1, _ => none
mutual
noncomputable def toW : Tr → W
  | .i n => .int n
  | .s x => .str x
  | .t ks => .tup (Qdg ks)
noncomputable def Qdg : List Tr → List W
  | [] => []
  | k :: ks => toW k :: Qdg ks
end
noncomputable def plL : List W → Option (List Tr)
  | [] => some []
  | .tup ws :: r => (plN 8 (.tup ws)).bind fun t => (plL r).map (t :: ·)
  | _ :: _ => none
theorem mapM_cons {α β : Type} {f : α → Option β} {a : α} {l : List α} {ks : List β} (e : (a :: l).mapM f = some ks) : ∃ k r, f a = some k ∧ l.mapM f = some r ∧ ks = k :: r := by
  rw [List.mapM_cons] at e
  obtain ⟨k1, h1, e2⟩ := Option.bind_eq_some_iff.mp e
  obtain ⟨ks1, h2, e3⟩ := Option.bind_eq_some_iff.mp e2
  cases (show some (k1 :: ks1) = some ks from e3)
  exact ⟨_, _, h1, h2, rfl⟩
theorem WD : ∀ (n : Nat) (w : W) (t : Tr), plN n w = some t → w = toW t
  | 0, _, _, e => by simp [plN] at e
  | n + 1, w, t, e => by
    cases w with
    | int i => simp only [plN] at e; cases e; simp [toW]
    | str x => simp only [plN] at e; cases e; simp [toW]
    | tup ws =>
      simp only [plN] at e
      obtain ⟨ks, e1, rfl⟩ := Option.map_eq_some_iff.mp e
      rw [toW]
      congr 1
      clear e
      induction ws generalizing ks with
      | nil => cases (show some [] = some ks from e1); rw [Qdg]
      | cons w ws ih =>
        obtain ⟨k, r, a1, a2, rfl⟩ := mapM_cons e1
        rw [Qdg, ← WD n w k a1, ← ih r a2]
    | _ => simp [plN] at e
section
variable {X : Cx} {pins : List (Addr × Obj)} {σ : L2.St} {H : Hp} {s : Shared} {R : Rn} {h : MH}
theorem QbL (I : Inv X pins σ H s) (rh : Rh X.K R h H) : ∀ (n : Nat) (w : W) (v : V) (u : Value) (t : Tr), Rw X.K R w v → plN n w = some t → RelV v u → IsQ s.heap n t u
  | 0, _, _, _, _, _, e, _ => by simp [plN] at e
  | n + 1, w, v, u, t, r, e, ru => by
    cases w with
    | int i =>
      simp only [plN] at e; cases e
      rw [r.int_eq] at ru
      exact ru
    | str x =>
      simp only [plN] at e; cases e
      rw [r.str_eq] at ru
      exact ru
    | tup ws =>
      simp only [plN] at e
      obtain ⟨ks, e1, e2⟩ := Option.map_eq_some_iff.mp e
      subst e2
      obtain ⟨a, xs, rfl, q, r1⟩ := rh.tupAt r
      cases ru
      obtain ⟨its, rv, pl, hh⟩ := I.tuple q
      refine ⟨a, its.toArray, rfl, pl, ?_⟩
      rw [List.toList_toArray]
      clear e r q pl hh
      induction ws generalizing ks xs its with
      | nil =>
        rw [Rws.nil_iff] at r1; subst r1
        cases (show some [] = some ks from e1)
        cases rv
        exact .nil
      | cons x ws ih =>
        obtain ⟨k1, ks1, a1, a2, rfl⟩ := mapM_cons e1
        rw [Rws.cons_iff] at r1
        obtain ⟨y, ys, rfl, p1, p2⟩ := r1
        cases rv with
        | cons b1 b2 => exact .cons (QbL I rh n x y _ k1 p1 a1 b1) (ih ks1 a2 ys p2 _ b2)
    | _ => simp [plN] at e
noncomputable def Qbt (K : PySem.W.Frag) (R : Rn) (g : Heap) (t : Tr) (u : Value) : Prop := ∃ a, u = .ref a ∧ IsQ g 8 t u ∧ Rw K R (toW t) (.ref a)
theorem Wa (I : Inv X pins σ H s) (rh : Rh X.K R h H) : ∀ {ws : List W} {ts : List Tr} {xs : List V} {us : List Value}, plL ws = some ts → Rws X.K R ws xs → Vals xs us → Paired (Qbt X.K R s.heap) ts us ∧ ws = ts.map toW
  | [], ts, xs, us, e, r, v => by
    cases e
    rw [Rws.nil_iff] at r
    subst r
    cases v
    exact ⟨.nil, rfl⟩
  | w :: ws, ts, xs, us, e, r, v => by
    cases w with
    | tup zs =>
      unfold plL at e
      obtain ⟨t, e1, e2⟩ := Option.bind_eq_some_iff.mp e
      obtain ⟨ts', e3, rfl⟩ := Option.map_eq_some_iff.mp e2
      rw [Rws.cons_iff] at r
      obtain ⟨y, ys, rfl, r1, r2⟩ := r
      cases v with
      | cons v1 v2 =>
        obtain ⟨i1, i2⟩ := Wa I rh e3 r2 v2
        obtain ⟨a, xs, rfl, _⟩ := rh.tupAt r1
        have e5 := WD 8 _ _ e1
        refine ⟨.cons ⟨a, v1, QbL I rh 8 _ _ _ _ r1 e1 v1, by rw [← e5]; exact r1⟩ i1, ?_⟩
        rw [List.map_cons, ← e5, ← i2]
    | _ => simp [plL] at e
theorem JB {α β : Type} {F : α → β → Prop} : ∀ {l₁ : List α} {l₂ : List β}, Paired F l₁ l₂ → ∀ y ∈ l₂, ∃ x ∈ l₁, F x y
  | _, _, .nil, _, h => nomatch h
  | _, _, .cons r t, y, h => by
    rcases List.mem_cons.mp h with rfl | h
    · exact ⟨_, List.mem_cons_self, r⟩
    · obtain ⟨x, x1, x2⟩ := JB t y h
      exact ⟨x, List.mem_cons_of_mem _ x1, x2⟩
theorem G3 {g : Heap} {K : PySem.W.Frag} : ∀ {ts : List Tr} {us : List Value}, Paired (Qbt K R g) ts us → us.map (trV g) = ts
  | _, _, .nil => rfl
  | _, _, .cons ⟨_, _, q, _⟩ t => by rw [List.map_cons, G3 t, JG q]
theorem YI {g : Heap} {K : PySem.W.Frag} : ∀ {ts : List Tr} {us : List Value}, Paired (Qbt K R g) ts us → Ui g us.toArray ts
  | _, _, .nil => ⟨rfl, fun i v e => by simp at e⟩
  | t :: ts, u :: us, .cons ⟨a, e1, q, _⟩ p => by
    obtain ⟨h1, h2⟩ := YI p
    refine ⟨by simp at h1 ⊢; omega, fun i v e => ?_⟩
    cases i with
    | zero =>
      have : u = v := by simpa using e
      subst this
      exact ⟨t, a, rfl, e1, by rw [← e1]; exact Ve _ _ q⟩
    | succ i =>
      obtain ⟨k, x, z1, z2, z3⟩ := h2 i v (by simpa using e)
      exact ⟨k, x, by simpa using z1, z2, z3⟩
theorem X1 {g : Heap} {K : PySem.W.Frag} : ∀ {us : List Value}, (∀ u ∈ us, ∃ t, Qbt K R g t u) → ∃ xs : List V, Vals xs us ∧ (∀ R', Ext R R' → Rws K R' ((us.map (trV g)).map toW) xs) ∧ xs.length = us.length
  | [], _ => ⟨[], .nil, fun R' _ => by unfold Rws; rfl, rfl⟩
  | u :: us, hu => by
    obtain ⟨t, a, rfl, q, r⟩ := hu u List.mem_cons_self
    obtain ⟨xs, x1, x2, x3⟩ := X1 (us := us) fun u' h' => hu u' (List.mem_cons_of_mem _ h')
    refine ⟨.ref a :: xs, .cons rfl x1, fun R' x' => ?_, by simp [x3]⟩
    rw [List.map_cons, List.map_cons, JG q]
    exact Rws.cons_iff.mpr ⟨_, _, rfl, Rw.mono x' _ _ r, x2 R' x'⟩
end
noncomputable def One (ts : List Tr) : Prop := ∃ sh0 shs, ∀ t ∈ ts, Wf 8 (.t (sh0 :: shs)) t
open Classical in
noncomputable def Z3 (ws : List W) (h : MH) : Option (W × MH) := match ws with
  | [a] => (lsW h a).bind fun ys => (plL ys).bind fun ts => if One ts then some (.ref h.length, h ++ [.lst ((srtT ts).map toW)]) else none
  | _ => none
open Classical in
noncomputable def ZE (ws : List W) (h : MH) : Option (W × MH) := match ws with
  | [a] => (lsW h a).bind fun ys => (plL ys).bind fun ts => if One ts ∧ ts.length ≤ 75 then some (.ref h.length, h ++ [.lst ((srtT (uq ts)).map toW)]) else none
  | _ => none
section
variable {X : Cx}
theorem JO (hu : X.A.units + 64 < cLine) : CallR X (.builtin "sorted") (Fs X.K Z3) := by
  intro pins s σ H xs us Q I r q
  obtain ⟨R, h, ws, w, h', rh, rws, e, k⟩ := q
  unfold Z3 at e
  split at e
  · obtain ⟨ys, e1, e2⟩ := Option.bind_eq_some_iff.mp e
    obtain ⟨ts, e3, e4⟩ := Option.bind_eq_some_iff.mp e2
    split at e4
    · rename_i hz
      obtain ⟨sh0, shs, hz⟩ := hz
      cases e4
      obtain ⟨v, rfl, r1⟩ := YG rws
      obtain ⟨ad, xs, rfl, q1, r2⟩ := rh.lsAt r1 e1
      obtain ⟨u, rfl, ru⟩ := Xq r
      cases ru
      obtain ⟨its, rv, pl, hl⟩ := I.list q1
      obtain ⟨pr, _⟩ := Wa I rh e3 r2 rv
      have hm : ∀ u ∈ its, ∃ t ∈ ts, Qbt X.K R s.heap t u := JB pr
      have hln : its.length ≤ sizeLine := by rw [← rv.length]; exact hl
      refine Sb.sorted_tups (sh0 := sh0) (shs := shs) (vs := its) (by first | omega | (show X.A.units + 1 + 12 < cLine; omega)) pl.isList hln (fun u hu => ?_) fun D g tk c us p o kx hD hg => ?_
      · obtain ⟨t, t1, a, _, t2, _⟩ := hm u hu
        exact ⟨t, t2, hz t t1⟩
      · obtain ⟨xs', x1, x2, x3⟩ := X1 (us := us) (g := s.heap) (K := X.K) (R := R) fun u hu => let ⟨t, _, t2⟩ := hm u (p.mem_iff.mp hu); ⟨t, t2⟩
        have pt : (us.map (trV s.heap)).Perm ts := by
          rw [← G3 pr]
          exact p.map _
        have eq : srtT ts = us.map (trV s.heap) := Wx hz pt (List.pairwise_map.mpr o)
        rw [eq] at k
        have hp := I.hok.fresh hD
        obtain ⟨R3, y3, rh3, rw3⟩ := rh.new (mo := .lst ((us.map (trV s.heap)).map toW)) (o := .lst xs') hp fun R' x' => ⟨_, rfl, x2 R' x'⟩
        refine ⟨.ref D, _, I.laid (t' := tk) kx hD (show ObjOk X.prog X.w _ _ _ (.lst _) from ⟨?_, us, c, x1, hg⟩), rfl, k R3 _ _ y3 rh3 rw3⟩
        rw [x3, p.length_eq]; exact hln
    · cases e4
  · cases e
theorem Je {e : Expr} {me : ME} {p1 p2 pos1 pos2 : Pos} (hu : X.A.units + 64 < cLine) (hc : X.calm = true) (hg : Gl X "sorted") (hm : X.mg "sorted" = none) (hg2 : Gl X "set") (hm2 : X.mg "set" = none) (he : PM X e me) (hs : ZG e = false := by rfl) :
    PM X (.Call (.Name "sorted" p1) [.Call (.Name "set" p2) [e] [] pos2] [] pos1) (mFn ZE (Qd me Qt)) := by
  intro pins s σ H Q I ⟨R, σi, h, w, h', rh, st, e1, kk⟩
  obtain ⟨⟨as, h2⟩, e2, e3⟩ := Option.bind_eq_some_iff.mp e1
  obtain ⟨⟨a, h1⟩, e4, e5⟩ := Option.bind_eq_some_iff.mp e2
  obtain ⟨⟨bs, h3⟩, e6, e7⟩ := Option.bind_eq_some_iff.mp e5
  cases e6
  cases e7
  refine wpAny_Call_Name_kw (JT I hg hm boot_sorted (PyProof.Rows.callWith_builtin1 ?_ (QH rfl) (ZA rfl)) (by decide) (by decide))
  rw [QH (e := .Call (.Name "set" p2) [e] [] pos2) rfl]
  refine Calls.spliced_cons (wpAny_Call_Name_kw (JT I hg2 hm2 boot_set (PyProof.Rows.callWith_type1 ?_ (QH hs) (ZA rfl)) (by decide) (by decide)))
  rw [QH hs]
  refine Calls.spliced_cons (thn (he pins s σ H (fun v H2 => ∃ R2, Ext R R2 ∧ Rh X.K R2 h1 H2 ∧ Rw X.K R2 a v) I ⟨R, σi, h, a, h1, rh, st, e4, fun R2 H2 v x rh2 ra => ⟨R2, x, rh2, ra⟩⟩) fun u s1 ⟨v, H1, I1, ru, R2, x2, rh2, ra⟩ => Calls.spliced_nil ?_)
  obtain ⟨ys, e8, e9⟩ := Option.bind_eq_some_iff.mp e3
  obtain ⟨ts, e10, e11⟩ := Option.bind_eq_some_iff.mp e9
  split at e11
  · rename_i hz
    obtain ⟨⟨sh0, shs, hz⟩, hle⟩ := hz
    cases e11
    obtain ⟨ad, xs, rfl, q1, r2⟩ := rh2.lsAt ra e8
    cases ru
    obtain ⟨its, rv, pl, hl⟩ := I1.list q1
    obtain ⟨pr, _⟩ := Wa I1 rh2 e10 r2 rv
    have hm : ∀ u ∈ its, ∃ t ∈ ts, Qbt X.K R2 s1.heap t u := JB pr
    have hln : its.length = ts.length := (Paired.length pr).symm
    have hul := uq_len ts
    have hum := uq_mem ts
    refine Sb.set_tups (G₁ := fun v => ∃ t ∈ ts, Qbt X.K R2 s1.heap t v) (by first | omega | (show X.A.units + 1 + 12 < cLine; omega)) (I1.ok.hd hc) pl.isList (YI pr) (by rw [List.toList_toArray]; exact hm) (by rw [List.size_toArray, hln]; omega) fun g1 tk1 hSet k1 => Calls.spliced_nil ?_
    refine Sb.sorted_set (s := { s1 with heap := g1, toks := tk1 }) (h₀ := s1.heap) (sh0 := sh0) (shs := shs) (by first | omega | (show X.A.units + 1 + 12 < cLine; omega)) (I1.ok.hd hc) k1 hSet (by omega) (fun v ⟨t, t1, a, _, t2, _⟩ => ⟨t, t2, hz t t1⟩) fun D g2 d tk2 us c b1 b2 b3 k2 hle2 hD => ?_
    obtain ⟨xs', y1, y2, y3⟩ := X1 (us := us) (g := s1.heap) (K := X.K) (R := R2) fun u hu => let ⟨t, _, t2⟩ := b1 u hu; ⟨t, t2⟩
    have eq : srtT (uq ts) = us.map (trV s1.heap) := Wx (fun t ht => hz t ((hum t).mp ht)) b2 (List.pairwise_map.mpr b3)
    have hD' : s1.heap.objs.size ≤ D := Nat.le_trans (Nat.le_of_lt hSet.lt) hle2
    have hp := I1.hok.fresh hD'
    obtain ⟨R3, x3, rh3, rw3⟩ := rh2.new (mo := .lst ((us.map (trV s1.heap)).map toW)) (o := .lst xs') hp fun R' x' => ⟨_, rfl, y2 R' x'⟩
    rw [eq] at kk
    refine ⟨.ref D, _, Inv.drew (I1.laid (t' := tk2) (fun b o e => k2 b o (k1 b o e)) hD' (show ObjOk X.prog X.w _ _ _ (.lst _) from ⟨?_, us, c, y1, hD⟩)) d, rfl, kk R3 _ _ (x2.trans x3) rh3 rw3⟩
    have := b2.length_eq
    rw [List.length_map] at this
    rw [y3, this, sizeLine_eq]; omega
  · cases e11
end
end Mi

namespace L2
open PySem PySem.Spec PyProof.Rows
noncomputable def Itq (a : Addr) (n : Nat) : It := ⟨fun i H => i < n ∧ ∃ kx, H a = some (.dT kx) ∧ kx.length = n, fun i H x H' => H' = H ∧ ∀ kx, H a = some (.dT kx) → ∃ p, kx[i]? = some p ∧ x = .ref p.2.1, fun i H => n ≤ i ∧ ∃ kx, H a = some (.dT kx) ∧ kx.length = n⟩
theorem WK {X : Cx} {pins : List (Addr × Obj)} {σ : L2.St} {H : Hp} {s : Shared} {a : Addr} {kx : List (Tr × Addr × V)} (I : Inv X pins σ H s) (e : H a = some (.dT kx)) :
    ∃ es : Array DictEntry, RawD s.heap a es kx.length ∧ es.size = kx.length ∧ (a == sysModules) = false ∧ ∀ (i : Nat) p, kx[i]? = some p → ∃ hi : i < es.size, es[i].key = .ref p.2.1 := by
  obtain ⟨z, y, xs, r, o, es, ep, h1, h2, h3, h4, h5, h6⟩ := I.hok _ _ e
  have hl := Paired.length r
  have hs : es.size = kx.length := by rw [← Array.length_toList, h4, List.length_map, hl]
  refine ⟨es, ⟨o, h1, h2, by rw [h3, h6, hs]⟩, hs, y, fun i p hp => ?_⟩
  have hi : i < es.size := by rw [hs]; exact (List.getElem?_eq_some_iff.mp hp).1
  obtain ⟨q, q1, q2⟩ := Zr r hp
  refine ⟨hi, ?_⟩
  have : es.toList[i]? = some (entryOfKey (Qh X.prog X.w) q) := by rw [h4, List.getElem?_map, q1]; rfl
  rw [Array.getElem?_toList, Array.getElem?_eq_getElem hi] at this
  rw [Option.some.inj this, q2.2.1]
  rfl
theorem QcL {P : Program} {w : World} {K : PySem.W.Frag} {tg : Expr} (a it : Addr) (n : Nat) : Turn P w K tg (Itq a n) [it] it (fun i h => i ≤ n ∧ h.IsKeyIter it a i n n) where
  mem := by simp
  obj := fun i h st b hb => by
    have e : b = it := by simpa using hb
    subst e
    obtain ⟨_, o, e, c, d⟩ := st
    exact ⟨o, e, fun v z => by rw [d] at z; cases z⟩
  keep := fun i h h' st k => ⟨st.1, st.2.at fun o e => k it (by simp) o e⟩
  item := by
    intro X hP hw hK hc i pins s σ H E I hf st hg
    subst hP hw hK
    obtain ⟨hi, kx, hq, hl⟩ := hg
    obtain ⟨es, rd, hs, lo, hk⟩ := WK I hq
    obtain ⟨p, hp⟩ : ∃ p, kx[i]? = some p := ⟨kx[i]'(by omega), List.getElem?_eq_getElem _⟩
    obtain ⟨f0, f1, f2, f3, f4, f5⟩ := hf it (by simp)
    obtain ⟨hlt, ek⟩ := hk i p hp
    have hit := st.2
    rw [hl] at rd hs
    refine UN (es := es) (ep := n) (by rw [hs]; exact hit) rd hlt fun h' st' sb => ?_
    rw [hs] at st'
    have I1 : Inv X pins σ H { s with heap := h' } := I.turned (t' := s.toks) (fun b o hb e => (sb.2 b hb).trans e) f0 f1 f3 f4 f5
    obtain ⟨o, e, c, d⟩ := id st'
    refine ⟨es[i].key, rfl, Yo (s := { s with heap := h' }) e c d (by decide) ⟨.ref p.2.1, H, I1, ek, ⟨rfl, fun kx' hk' => ?_⟩, ⟨hi, st'⟩, fun b hb => (hf b hb).1⟩⟩
    rw [hq] at hk'; cases hk'
    exact ⟨p, hp, rfl⟩
  done := by
    intro X hP hw hK hc i pins s σ H E I hf st hg
    subst hP hw hK
    obtain ⟨hi, kx, hq, hl⟩ := hg
    obtain rfl : i = n := Nat.le_antisymm st.1 hi
    obtain ⟨es, rd, hs, lo, hk⟩ := WK I hq
    obtain ⟨f0, f1, f2, f3, f4, f5⟩ := hf it (by simp)
    have hit := st.2
    rw [hl] at rd hs
    exact Qae (es := es) (ep := i) (I.ok.hd hc) (by rw [hs]; exact hit) rd fun h' eb => ⟨rfl, I.turned (t' := s.toks) (fun b o hb e => eb b o hb e) f0 f1 f3 f4 f5⟩
  self := fun _ _ _ _ _ st h => wpAny_pyIter_keyiter st.2 h
end L2
namespace Mi
open PySem PySem.Spec PyProof.Rows L2
noncomputable def JC (m : ME) : MI := fun σ h => (m σ h).bind fun p => match p.1 with
  | .ref n => match p.2[n]? with | some (.dct kvs) => some (kvs.map (·.1), some (.d n), p.2) | _ => none
  | _ => none
theorem UA {K : PySem.W.Frag} {R : Rn} {n : Nat} {ws : List W} (hn : n < R.N) : ItOk K R (Itq (R.ρ n) ws.length) ws (some (.d n)) where
  go := fun i w R' h H x rh hl e => by
    obtain ⟨kvs, h1, h2⟩ := hl (.d n) rfl
    obtain ⟨kx, h3, h4⟩ := rh.obj n _ h1
    rw [x.ρ n hn] at h3
    refine ⟨(List.getElem?_eq_some_iff.mp e).1, kx, h3, ?_⟩
    rw [← Paired.length h4, ← h2, List.length_map]
  yld := fun i w R' h H x H' e rh hl ew hy => by
    obtain ⟨rfl, hx⟩ := hy
    obtain ⟨kvs, h1, h2⟩ := hl (.d n) rfl
    obtain ⟨kx, h3, h4⟩ := rh.obj n _ h1
    rw [e.ρ n hn] at h3
    obtain ⟨p, p1, rfl⟩ := hx kx h3
    rw [← h2, List.getElem?_map] at ew
    obtain ⟨q, q1, rfl⟩ := Option.map_eq_some_iff.mp ew
    obtain ⟨p', p2, p3⟩ := Zr h4 q1
    rw [p1] at p2; cases p2
    exact ⟨R', Ext.refl _, rh, p3.1⟩
  stop := fun i R' h H x rh hl hle => by
    obtain ⟨kvs, h1, h2⟩ := hl (.d n) rfl
    obtain ⟨kx, h3, h4⟩ := rh.obj n _ h1
    rw [x.ρ n hn] at h3
    exact ⟨hle, kx, h3, by rw [← Paired.length h4, ← h2, List.length_map]⟩
section
variable {X : Cx} {tg a : Expr} {ma : ME}
theorem YR (ha : PM X a ma) : PMI X tg a (JC ma) := by
  intro pins s σ H C I q
  obtain ⟨R, σi, h, items, src, h', rh, st, e, k⟩ := q
  obtain ⟨⟨w, h1⟩, e1, e2⟩ := Option.bind_eq_some_iff.mp e
  refine thn (ha pins s σ H (fun v H1 => ∃ R1 n kx kvs, Ext R R1 ∧ Rh X.K R1 h1 H1 ∧ v = .ref (R1.ρ n) ∧ n < R1.N ∧ h1[n]? = some (.dct kvs) ∧ H1 (R1.ρ n) = some (.dT kx) ∧ items = kvs.map (·.1) ∧ kx.length = items.length ∧ src = some (.d n) ∧ h' = h1) I ⟨R, σi, h, w, h1, rh, st, e1, fun R1 H1 v x1 rh1 rv => ?_⟩) fun v s1 ⟨x, H1, I1, r1, R1, n, kx, kvs, x1, rh1, hv, hlt, hn, hx, ei, el, es, eh⟩ => ?_
  · cases w with
    | ref n =>
      simp only at e2
      split at e2
      · rename_i kvs hn
        cases e2
        obtain ⟨kx, h3, h4⟩ := rh1.obj n _ hn
        unfold Rw at rv
        obtain ⟨hlt, rfl⟩ := rv
        exact ⟨R1, n, kx, kvs, x1, rh1, rfl, hlt, hn, h3, rfl, by rw [← Paired.length h4, List.length_map], rfl, rfl⟩
      · cases e2
    | _ => cases e2
  · subst hv es eh
    cases r1
    obtain ⟨es, rd, hs, lo, hk⟩ := WK I1 hx
    refine UG lo rd ?_
    refine ⟨s1.heap.objs.size, [s1.heap.objs.size], _, Itq (R1.ρ n) items.length, H1, rfl, I1.kept (t' := s1.toks) fun b o e => Heap.get?_push_of_some _ e, QcL (R1.ρ n) _ items.length, ⟨Nat.zero_le _, _, Heap.get?_push_size _ rfl, rfl, ?_⟩, fun b hb => ?_, k R1 H1 _ x1 rh1 (UA hlt)⟩
    · rw [← el, hs]; rfl
    · have e : b = s1.heap.objs.size := by simpa using hb
      subst e
      exact I1.fpOk (Nat.le_refl _) (I1.hok.fresh (Nat.le_refl _))
noncomputable def Qc2 (ws : List W) (h : MH) : Option (W × MH) := match ws with
  | [a] => (lsW h a).bind fun ws => (Qbk ws).map fun bs => (.bl (bs.any id), h)
  | _ => none
theorem K7 : ∀ bs : List Bool, (List.range bs.length).any (fun i => bs.getD i false) = bs.any id
  | [] => rfl
  | b :: bs => by rw [List.length_cons, List.range_succ_eq_map, List.any_cons, List.any_map, List.any_cons, ← K7 bs]; rfl
theorem WW (hc : X.calm = true) : CallR X (.builtin "any") (Fs X.K Qc2) := by
  intro pins s σ H xs us Q I r q
  obtain ⟨R, h, ws, w, h', rh, rw, e, k⟩ := q
  unfold Qc2 at e
  split at e
  · rename_i a
    obtain ⟨ys, e1, e⟩ := Option.bind_eq_some_iff.mp e
    obtain ⟨bs, e2, e3⟩ := Option.map_eq_some_iff.mp e
    cases e3
    obtain ⟨v, rfl, r1⟩ := YG rw
    obtain ⟨ad, xs, rfl, q1, r2⟩ := rh.lsAt r1 e1
    obtain ⟨u, rfl, ru⟩ := Xq r
    cases ru
    obtain ⟨its, t1, p1, hz⟩ := I.list q1
    have hb := Wi r2 e2
    subst hb
    have hi := K0 t1
    subst hi
    refine call_any_walk (wpAny_pyIter_list p1.isList ?_)
    have hne : ad ≠ s.heap.objs.size := fun z => by
      obtain ⟨o, n, h1, _⟩ := p1
      exact sz h1 (Nat.le_refl _) z
    refine ⟨s.heap.objs.size, _, _, _, _, _, fun i => bs.getD i false, rfl, Walks.list (A := X.A.in1) (show X.A.in1.handled = none from I.ok.hd hc) _ ad hne (bs.map Value.bool).toArray, ?_, ?_, fun h' tk hk => ?_⟩
    · exact ⟨⟨_, Heap.get?_push_size _ rfl, rfl, rfl⟩, p1.isList.at fun o e => Heap.get?_push_of_some _ e⟩
    · intro i v s' Q' E' hv hq
      have hv' : (bs.map Value.bool)[i]? = some v := by simpa using hv
      rw [List.getElem?_map] at hv'
      obtain ⟨b, hb, rfl⟩ := Option.map_eq_some_iff.mp hv'
      refine wpAny_truthy_bool ?_
      have : bs.getD i false = b := by rw [List.getD_eq_getElem?_getD, hb]; rfl
      exact this ▸ hq
    · have e3 : (List.range (bs.map Value.bool).toArray.size).any (fun i => bs.getD i false) = bs.any id := by
        rw [List.size_toArray, List.length_map]
        exact K7 bs
      rw [e3]
      have I0 := I.kept (t' := s.toks) (h' := s.heap.push { cls := .type "list_iterator", data := .fields #[.ref ad, .int 0 0] }) fun b o e => Heap.get?_push_of_some _ e
      have I' := I0.turned (t' := tk) (h' := h') (it := s.heap.objs.size) (fun b o hb e => hk b o (by simpa using hb) e) (I.hok.fresh (Nat.le_refl _)) (fun z => Nat.lt_irrefl _ (z ▸ I.lt : s.heap.objs.size < s.heap.objs.size)) (.inr I.sz) (fun x c e z => by
        obtain ⟨v, o, h3, _⟩ := I.cell x c e
        exact sz h3 (Nat.le_refl _) z) fun p hp z => sz (I.pin p hp).1 (Nat.le_refl _) z
      exact ⟨.bl _, H, I', rfl, k R H _ (Ext.refl _) rh (Rw.bl _)⟩
  · cases e
end
end Mi

namespace My
open PySem PySem.Spec PyProof.Rows L2 Mi
noncomputable def top (i : Nat) : Stmt := PySem.Challenge.pw_doneroom_k23_paths_taken.main.body.getD i (.Pass ⟨0, 0, 0, 0⟩)
section
variable {P : Program} {w : World} {K : PySem.W.Frag} {mg : Str → Option Value} {base : Heap}
noncomputable abbrev QX : Stmt := top 5
theorem sc__law_cell : FnScope ["script", "k", "near"] ["script", "k"] (Qm QX) := ⟨rfl, rfl, rfl, by decide +kernel, rfl, by decide +kernel, by decide +kernel⟩
noncomputable def QM : FM := Vj 1
    (ZI (Um (Q4 (Ql wLt (Qg 1) (mFn G5 (Qd (Qg 0) Qt)))) (Ko (Ql Ju (Ql wIx (Qg 0) (Qg 1)) (Ql Qas (mC (.int 10)) (mC (.int 18))))) XM)
    (ZI (Jv 2 (Ql Xc (mC (.int 11)) (Ql Jg (Ql Jg (mC (.int 3)) (Qg 1)) (Qg 1))))
    (ZI (Um (Q4 (Ql wGt (mFn G5 (Qd (Qg 0) Qt)) (mC (.int 0)))) (Jv 2 (Ql Xc (Qg 2) (Ql Jg (Ql Ju (Ql wIx (Qg 0) (Ql Ju (Qg 1) (mFn G5 (Qd (Qg 0) Qt)))) (mC (.int 1000003))) (Ql Xc (Qg 1) (mC (.int 7)))))) XM)
    (Ko (Ql JN (Ql Ju (Ql Jg (Qg 2) (mC (.int 48271))) (mC (.int 2147483647))) (mC (.int 5)))))))
set_option maxHeartbeats 4000000 in
theorem VW (d : DefAt K mg "_law_cell" QX ["script", "k"]) (b_len : mg "len" = none) : Cal P w K mg base 1 "_law_cell" ["script", "k"] QM := by
  refine JE (k := 0) (more := 1) d sc__law_cell rfl fun f cdv A outer s H E hr => ?_
  have hu := hr.units
  refine Qk ?_ ?_
  refine Vs ?_ ?_ ?_
  refine Zd QbI Qi ?_ ?_
  exact Qb 1
  refine QN Jq Qy ?_ ?_ PySem.boot_len ?_ ?_ ?_ ?_ ?_
  exact rfl
  exact b_len
  refine Qa ?_ ?_
  exact Qb 0
  exact Qf
  decide
  decide
  exact rfl
  exact rfl
  refine Qv ?_
  refine Q1 ?_
  refine QA QL Qi ?_ ?_
  refine Jo ?_ ?_
  exact Qb 0
  exact Qb 1
  refine QA Qbl Qi ?_ ?_
  exact Qj
  exact Qj
  exact JR
  refine Qk ?_ ?_
  refine QB ?_ ?_ ?_ ?_ ?_ ?_
  exact sc__law_cell.nd
  exact rfl
  exact (Or.inl rfl)
  refine QA ZM Qi ?_ ?_
  exact Qj
  refine QA ZV Qi ?_ ?_
  refine QA ZV Qi ?_ ?_
  exact Qj
  exact Qb 1
  exact Qb 1
  exact rfl
  first | exact .inl rfl | exact .inr rfl
  refine Qk ?_ ?_
  refine Vs ?_ ?_ ?_
  refine Zd Gy Qi ?_ ?_
  refine QN Jq Qy ?_ ?_ PySem.boot_len ?_ ?_ ?_ ?_ ?_
  exact rfl
  exact b_len
  refine Qa ?_ ?_
  exact Qb 0
  exact Qf
  decide
  decide
  exact rfl
  exact rfl
  exact Qj
  refine Qv ?_
  refine QB ?_ ?_ ?_ ?_ ?_ ?_
  exact sc__law_cell.nd
  exact rfl
  exact (Or.inl rfl)
  refine QA ZM Qi ?_ ?_
  exact Qb 2
  refine QA ZV Qi ?_ ?_
  refine QA QL Qi ?_ ?_
  refine Jo ?_ ?_
  exact Qb 0
  refine QA QL Qi ?_ ?_
  exact Qb 1
  refine QN Jq Qy ?_ ?_ PySem.boot_len ?_ ?_ ?_ ?_ ?_
  exact rfl
  exact b_len
  refine Qa ?_ ?_
  exact Qb 0
  exact Qf
  decide
  decide
  exact rfl
  exact rfl
  exact Qj
  refine QA ZM Qi ?_ ?_
  exact Qb 1
  exact Qj
  exact rfl
  first | exact .inl rfl | exact .inr rfl
  exact JR
  refine Qv ?_
  refine Q1 ?_
  refine QA Za Qi ?_ ?_
  refine QA QL Qi ?_ ?_
  refine QA ZV Qi ?_ ?_
  exact Qb 2
  exact Qj
  exact Qj
  exact Qj
noncomputable def Qn : FM := box frN QM
theorem Vz (d : DefAt K mg "_law_cell" QX ["script", "k"]) (b_len : mg "len" = none) : Cal P w K mg base 1 "_law_cell" ["script", "k"] Qn := (VW d b_len).box frN
noncomputable abbrev QY : Stmt := top 6
theorem Xr : FnScope ["cell"] ["cell"] (Qm QY) := ⟨rfl, rfl, rfl, by decide +kernel, rfl, by decide +kernel, by decide +kernel⟩
noncomputable def Zt : FM := Vj 0
    (Ko (mFn Vr (Qd (Ql Ju (Qg 0) (mC (.int 2))) (Qd (Ql Ju (Ql JN (Qg 0) (mC (.int 2))) (mC (.int 3))) (Qd (Ql wIx (mFn Ug (Qd (mC (.str "a")) (Qd (mC (.str "ab")) Qt))) (Ql Ju (Ql JN (Qg 0) (mC (.int 6))) (mC (.int 2)))) Qt)))))
set_option maxHeartbeats 4000000 in
theorem VR (d : DefAt K mg "_law_seat" QY ["cell"]) : Cal P w K mg base 1 "_law_seat" ["cell"] Zt := by
  refine JE (k := 0) (more := 0) d Xr rfl fun f cdv A outer s H E hr => ?_
  have hu := hr.units
  refine Qv ?_
  refine Q1 ?_
  refine Jr ?_
  refine Qa ?_ ?_
  refine QA QL Qi ?_ ?_
  exact Qb 0
  exact Qj
  refine Qa ?_ ?_
  refine QA QL Qi ?_ ?_
  refine QA Za Qi ?_ ?_
  exact Qb 0
  exact Qj
  exact Qj
  refine Qa ?_ ?_
  refine Jo ?_ ?_
  refine YW ?_
  refine Qa ?_ ?_
  exact GU
  refine Qa ?_ ?_
  exact GU
  exact Qf
  refine QA QL Qi ?_ ?_
  refine QA Za Qi ?_ ?_
  exact Qb 0
  exact Qj
  exact Qj
  exact Qf
noncomputable def Qs : FM := box frN Zt
theorem VP (d : DefAt K mg "_law_seat" QY ["cell"]) : Cal P w K mg base 1 "_law_seat" ["cell"] Qs := (VR d).box frN
noncomputable abbrev QI : Stmt := top 7
theorem sc__law_reader : FnScope ["script", "ends", "moves", "k", "cell"] ["script"] (Qm QI) := ⟨rfl, rfl, rfl, by decide +kernel, rfl, by decide +kernel, by decide +kernel⟩
noncomputable abbrev ZD : SM := (ZI (Jv 4 (Zw 2 Qn (Qd (Qg 0) (Qd (Ql Xc (mC (.int 2)) (Qg 3)) Qt))))
    (Um (Q4 (Ql wEq (Ql Ju (Qg 4) (mC (.int 5))) (mC (.int 0)))) (Yi (mMt "list" Jb (Qg 1) (Qd (Zw 1 Qs (Qd (Ql JN (Qg 4) (mC (.int 5))) Qt)) Qt))) (Yi (mMt "list" Jb (Qg 2) (Qd (mFn Vr (Qd (Zw 1 Qs (Qd (Ql JN (Qg 4) (mC (.int 5))) Qt)) (Qd (Ql Xc (mC (.int 1)) (Ql Ju (Ql JN (Qg 4) (mC (.int 60))) (mC (.int 2)))) (Qd (Zw 1 Qs (Qd (Ql JN (Qg 4) (mC (.int 120))) Qt)) Qt)))) Qt)))))
noncomputable def Ze : FM := Vj 4
    (ZI (Jv 1 (mFn Qbx Qt))
    (ZI (Jv 2 (mFn Qbx Qt))
    (ZI (JM (Yd (Qd (Ql Jg (Ql Ju (Ql JN (Zw 2 Qn (Qd (Qg 0) (Qd (mC (.int 0)) Qt))) (mC (.int 3))) (mC (.int 31))) (mFn WA (Qd (Ql wGt (Ql Ju (Zw 2 Qn (Qd (Qg 0) (Qd (mC (.int 0)) Qt))) (mC (.int 3))) (mC (.int 0))) Qt))) Qt)) (Jd 3)
    ZD)
    (Ko (mFn Vr (Qd (mFn ZE (Qd (Qg 1) Qt)) (Qd (mFn ZE (Qd (Qg 2) Qt)) Qt)))))))
set_option maxHeartbeats 4000000 in
theorem Vc (d : DefAt K mg "_law_reader" QI ["script"]) (b_int : mg "int" = none) (b_range : mg "range" = none) (b_set : mg "set" = none) (b_sorted : mg "sorted" = none) (c__law_cell : Cal P w K mg base 1 "_law_cell" ["script", "k"] Qn) (c__law_seat : Cal P w K mg base 1 "_law_seat" ["cell"] Qs) : Cal P w K mg base 2 "_law_reader" ["script"] Ze := by
  refine JE (k := 1) (more := 4) d sc__law_reader rfl fun f cdv A outer s H E hr => ?_
  have hu := hr.units
  refine Qk ?_ ?_
  refine QB ?_ ?_ ?_ ?_ ?_ ?_
  exact sc__law_reader.nd
  exact rfl
  exact (Or.inl rfl)
  refine WZ ?_
  exact Qf
  exact rfl
  first | exact .inl rfl | exact .inr rfl
  refine Qk ?_ ?_
  refine QB ?_ ?_ ?_ ?_ ?_ ?_
  exact sc__law_reader.nd
  exact rfl
  exact (Or.inl rfl)
  refine WZ ?_
  exact Qf
  exact rfl
  first | exact .inl rfl | exact .inr rfl
  refine Qk ?_ ?_
  refine Z6 ?_ ?_ ?_ ?_ ?_ ?_
  exact PassesOwn.never
  exact rfl
  refine Ud ?_ ?_ ?_ ?_
  exact rfl
  exact b_range
  refine Qa ?_ ?_
  refine QA ZV Qi ?_ ?_
  refine QA QL Qi ?_ ?_
  refine QA Za Qi ?_ ?_
  refine QG (k := 1) (ps := ["script", "k"]) ?_ ?_ ?_ ?_ ?_ ?_ ?_ ?_
  exact c__law_cell
  exact hr.mono (by decide)
  exact rfl
  refine Qa ?_ ?_
  exact Qb 0
  refine Qa ?_ ?_
  exact Qj
  exact Qf
  exact rfl
  decide
  exact rfl
  exact rfl
  exact Qj
  exact Qj
  refine ZL Xb Qy ?_ ?_ PyProof.Rows.boot_int ?_ ?_ ?_ ?_ ?_
  exact rfl
  exact b_int
  refine Qa ?_ ?_
  refine JQ Gy Qi ?_ ?_
  refine QA QL Qi ?_ ?_
  refine QG (k := 1) (ps := ["script", "k"]) ?_ ?_ ?_ ?_ ?_ ?_ ?_ ?_
  exact c__law_cell
  exact hr.mono (by decide)
  exact rfl
  refine Qa ?_ ?_
  exact Qb 0
  refine Qa ?_ ?_
  exact Qj
  exact Qf
  exact rfl
  decide
  exact rfl
  exact rfl
  exact Qj
  exact Qj
  exact Qf
  decide
  decide
  exact rfl
  exact rfl
  exact Qf
  exact rfl
  exact Zi (i := 3) (x := "k") sc__law_reader.nd rfl (Or.inl rfl)
  refine Qk ?_ ?_
  refine QB ?_ ?_ ?_ ?_ ?_ ?_
  exact sc__law_reader.nd
  exact rfl
  exact (Or.inl rfl)
  refine QG (k := 1) (ps := ["script", "k"]) ?_ ?_ ?_ ?_ ?_ ?_ ?_ ?_
  exact c__law_cell
  exact hr.mono (by decide)
  exact rfl
  refine Qa ?_ ?_
  exact Qb 0
  refine Qa ?_ ?_
  refine QA ZM Qi ?_ ?_
  exact Qj
  exact Qb 3
  exact Qf
  exact rfl
  decide
  exact rfl
  exact rfl
  exact rfl
  first | exact .inl rfl | exact .inr rfl
  refine Qv ?_
  refine Vs ?_ ?_ ?_
  refine Zd (Vo ?_) Qi ?_ ?_
  exact hu
  refine QA QL Qi ?_ ?_
  exact Qb 4
  exact Qj
  exact Qj
  refine Qv ?_
  refine JL ?_
  refine YA PySem.F.plainAttrs_list PySem.F.slot_list_append PySem.F.type_list_append ZU ?_ ?_
  exact Qb 1
  refine Qa ?_ ?_
  refine QG (k := 1) (ps := ["cell"]) ?_ ?_ ?_ ?_ ?_ ?_ ?_ ?_
  exact c__law_seat
  exact hr.mono (by decide)
  exact rfl
  refine Qa ?_ ?_
  refine QA Za Qi ?_ ?_
  exact Qb 4
  exact Qj
  exact Qf
  exact rfl
  decide
  exact rfl
  exact rfl
  exact Qf
  refine Qv ?_
  refine JL ?_
  refine YA PySem.F.plainAttrs_list PySem.F.slot_list_append PySem.F.type_list_append ZU ?_ ?_
  exact Qb 2
  refine Qa ?_ ?_
  refine Jr ?_
  refine Qa ?_ ?_
  refine QG (k := 1) (ps := ["cell"]) ?_ ?_ ?_ ?_ ?_ ?_ ?_ ?_
  exact c__law_seat
  exact hr.mono (by decide)
  exact rfl
  refine Qa ?_ ?_
  refine QA Za Qi ?_ ?_
  exact Qb 4
  exact Qj
  exact Qf
  exact rfl
  decide
  exact rfl
  exact rfl
  refine Qa ?_ ?_
  refine QA ZM Qi ?_ ?_
  exact Qj
  refine QA QL Qi ?_ ?_
  refine QA Za Qi ?_ ?_
  exact Qb 4
  exact Qj
  exact Qj
  refine Qa ?_ ?_
  refine QG (k := 1) (ps := ["cell"]) ?_ ?_ ?_ ?_ ?_ ?_ ?_ ?_
  exact c__law_seat
  exact hr.mono (by decide)
  exact rfl
  refine Qa ?_ ?_
  refine QA Za Qi ?_ ?_
  exact Qb 4
  exact Qj
  exact Qf
  exact rfl
  decide
  exact rfl
  exact rfl
  exact Qf
  exact Qf
  exact fun _ => rfl
  refine Qv ?_
  refine Q1 ?_
  refine Jr ?_
  refine Qa ?_ ?_
  refine Je ?_ ?_ ?_ ?_ ?_ ?_ ?_ ?_
  exact hu
  exact rfl
  exact rfl
  exact b_sorted
  exact rfl
  exact b_set
  exact Qb 1
  exact rfl
  refine Qa ?_ ?_
  refine Je ?_ ?_ ?_ ?_ ?_ ?_ ?_ ?_
  exact hu
  exact rfl
  exact rfl
  exact b_sorted
  exact rfl
  exact b_set
  exact Qb 2
  exact rfl
  exact Qf
noncomputable def QE : FM := box frN Ze
theorem Vd (d : DefAt K mg "_law_reader" QI ["script"]) (b_int : mg "int" = none) (b_range : mg "range" = none) (b_set : mg "set" = none) (b_sorted : mg "sorted" = none) (c__law_cell : Cal P w K mg base 1 "_law_cell" ["script", "k"] Qn) (c__law_seat : Cal P w K mg base 1 "_law_seat" ["cell"] Qs) : Cal P w K mg base 2 "_law_reader" ["script"] QE := (Vc d b_int b_range b_set b_sorted c__law_cell c__law_seat).box frN
noncomputable abbrev Q9 : Stmt := top 3
theorem sc_moves_of : FnScope ["reader", "moves", "start", "letter", "other"] ["reader"] (Qm Q9) := ⟨rfl, rfl, rfl, by decide +kernel, rfl, by decide +kernel, by decide +kernel⟩
noncomputable abbrev ZB : SM := (Yi (mMt "list" Jb (mMt "dict" Qav (Qg 1) (Qd (mFn Vr (Qd (Qg 2) (Qd (Qg 3) Qt))) (Qd (mFn Qbx Qt) Qt))) (Qd (Qg 4) Qt)))
noncomputable def QV : FM := Vj 4
    (ZI (Jv 1 Wz)
    (ZI (JM (QZ (Ql wIx (Qg 0) (mC (.int 1)))) (Z8 [2, 3, 4])
    ZB)
    (Ko (Qg 1))))
set_option maxHeartbeats 4000000 in
theorem Xh (d : DefAt K mg "moves_of" Q9 ["reader"]) : Cal P w K mg base 1 "moves_of" ["reader"] QV := by
  refine JE (k := 0) (more := 4) d sc_moves_of rfl fun f cdv A outer s H E hr => ?_
  have hu := hr.units
  refine Qk ?_ ?_
  refine QB ?_ ?_ ?_ ?_ ?_ ?_
  exact sc_moves_of.nd
  exact rfl
  exact (Or.inl rfl)
  exact Wg
  exact rfl
  first | exact .inl rfl | exact .inr rfl
  refine Qk ?_ ?_
  refine Z6 ?_ ?_ ?_ ?_ ?_ ?_
  exact PassesOwn.never
  exact rfl
  refine Z7 ?_
  refine Jo ?_ ?_
  exact Qb 0
  exact Qj
  refine Js (is := [2, 3, 4]) ?_ ?_ ?_ ?_
  exact rfl
  refine Qw (i := 2) (x := "start") sc_moves_of.nd rfl (Or.inl rfl) ?_ ?_
  refine Qw (i := 3) (x := "letter") sc_moves_of.nd rfl (Or.inl rfl) ?_ ?_
  refine Qw (i := 4) (x := "other") sc_moves_of.nd rfl (Or.inl rfl) ?_ ?_
  exact Ji
  first | exact .inl rfl | exact .inr rfl
  first | exact .inl rfl | exact .inr rfl
  first | exact .inl rfl | exact .inr rfl
  exact rfl
  exact rfl
  refine Qv ?_
  refine JL ?_
  refine YA PySem.F.plainAttrs_list PySem.F.slot_list_append PySem.F.type_list_append ZU ?_ ?_
  refine YA PySem.F.plainAttrs_dict PySem.F.slot_dict_setdefault PySem.F.type_dict_setdefault (QaG ?_) ?_ ?_
  exact hu
  exact Qb 1
  refine Qa ?_ ?_
  refine Jr ?_
  refine Qa ?_ ?_
  exact Qb 2
  refine Qa ?_ ?_
  exact Qb 3
  exact Qf
  refine Qa ?_ ?_
  refine WZ ?_
  exact Qf
  exact Qf
  refine Qa ?_ ?_
  exact Qb 4
  exact Qf
  exact fun _ => rfl
  refine Qv ?_
  refine Q1 ?_
  exact Qb 1
noncomputable def QK : FM := box frR QV
theorem Xk (d : DefAt K mg "moves_of" Q9 ["reader"]) : Cal P w K mg base 1 "moves_of" ["reader"] QK := (Xh d).box frR
noncomputable abbrev ZT : Stmt := top 1
theorem sc_takes : FnScope ["reader", "seat", "path", "moves", "reached", "letter", "further", "stop", "other"] ["reader", "seat", "path"] (Qm ZT) := ⟨rfl, rfl, rfl, by decide +kernel, rfl, by decide +kernel, by decide +kernel⟩
noncomputable abbrev Vl : SM := (QaA (Qg 6) (Qg 8) (mC (.bl true)))
noncomputable abbrev Q7 : SM := (JM (QZ (mMt "dict" XT (Qg 3) (Qd (mFn Vr (Qd (Qg 7) (Qd (Qg 5) Qt))) (Qd (mFn Ug Qt) Qt)))) (Jd 8)
    Vl)
noncomputable abbrev Q8 : SM := (ZI (Jv 6 Wz)
    (ZI (JM (JC (Qg 4)) (Jd 7)
    Q7)
    (Jv 4 (Qg 6))))
noncomputable def J0 : FM := Vj 6
    (ZI (Jv 3 (Zw 1 QK (Qd (Qg 0) Qt)))
    (ZI (Jv 4 (Y7 (Qg 1) (mC (.bl true))))
    (ZI (JM (QZ (Qg 2)) (Jd 5)
    Q8)
    (Ko (mFn Qc2 (Qd (Zf V1 (QZ (Ql wIx (Qg 0) (mC (.int 0)))) [none, some 4] (Jd 0) W0 (Ql (GT false) (Qg 0) (Qg 1))) Qt))))))
set_option maxHeartbeats 4000000 in
theorem YY (d : DefAt K mg "takes" ZT ["reader", "seat", "path"]) (b_any : mg "any" = none) (c_moves_of : Cal P w K mg base 1 "moves_of" ["reader"] QK) : Cal P w K mg base 2 "takes" ["reader", "seat", "path"] J0 := by
  refine JE (k := 1) (more := 6) d sc_takes rfl fun f cdv A outer s H E hr => ?_
  have hu := hr.units
  refine Qk ?_ ?_
  refine QB ?_ ?_ ?_ ?_ ?_ ?_
  exact sc_takes.nd
  exact rfl
  exact (Or.inl rfl)
  refine QG (k := 1) (ps := ["reader"]) ?_ ?_ ?_ ?_ ?_ ?_ ?_ ?_
  exact c_moves_of
  exact hr.mono (by decide)
  exact rfl
  refine Qa ?_ ?_
  exact Qb 0
  exact Qf
  exact rfl
  decide
  exact rfl
  exact rfl
  exact rfl
  first | exact .inl rfl | exact .inr rfl
  refine Qk ?_ ?_
  refine QB ?_ ?_ ?_ ?_ ?_ ?_
  exact sc_takes.nd
  exact rfl
  exact (Or.inr rfl)
  refine U2 ?_ ?_ ?_
  exact hu
  exact Qb 1
  exact WG
  exact rfl
  first | exact .inl rfl | exact .inr rfl
  refine Qk ?_ ?_
  refine Z6 ?_ ?_ ?_ ?_ ?_ ?_
  exact PassesOwn.never
  exact rfl
  refine Z7 ?_
  exact Qb 2
  exact Zi (i := 5) (x := "letter") sc_takes.nd rfl (Or.inl rfl)
  refine Qk ?_ ?_
  refine QB ?_ ?_ ?_ ?_ ?_ ?_
  exact sc_takes.nd
  exact rfl
  exact (Or.inl rfl)
  exact Wg
  exact rfl
  first | exact .inl rfl | exact .inr rfl
  refine Qk ?_ ?_
  refine Z6 ?_ ?_ ?_ ?_ ?_ ?_
  exact PassesOwn.never
  exact rfl
  refine YR ?_
  exact Qb 4
  exact Zi (i := 7) (x := "stop") sc_takes.nd rfl (Or.inl rfl)
  refine Qv ?_
  refine Z6 ?_ ?_ ?_ ?_ ?_ ?_
  exact PassesOwn.never
  exact rfl
  refine Z7 ?_
  refine YA PySem.F.plainAttrs_dict PySem.F.slot_dict_get PySem.F.type_dict_get (Ut ?_) ?_ ?_
  exact hu
  exact Qb 3
  refine Qa ?_ ?_
  refine Jr ?_
  refine Qa ?_ ?_
  exact Qb 7
  refine Qa ?_ ?_
  exact Qb 5
  exact Qf
  refine Qa ?_ ?_
  refine YW ?_
  exact Qf
  exact Qf
  exact Zi (i := 8) (x := "other") sc_takes.nd rfl (Or.inl rfl)
  refine Qv ?_
  refine U4 ?_ ?_ ?_ ?_ ?_
  exact hu
  exact Qb 6
  exact Qb 8
  exact WG
  exact rfl
  exact fun _ => rfl
  exact fun _ => rfl
  refine Qv ?_
  refine QB ?_ ?_ ?_ ?_ ?_ ?_
  exact sc_takes.nd
  exact rfl
  exact (Or.inr rfl)
  exact Qb 6
  exact rfl
  first | exact .inl rfl | exact .inr rfl
  exact fun _ => rfl
  refine Qv ?_
  refine Q1 ?_
  refine QN (WW ?_) Qy ?_ ?_ PyProof.Rows.boot_any ?_ ?_ ?_ ?_ ?_
  exact rfl
  exact rfl
  exact b_any
  refine Qa ?_ ?_
  refine UF JP ?_ (Xo (ks := ["reached"]) (Nb := ["end", "reached"]) (cp := [none, some 4]) (N := ["reader", "seat", "path", "moves", "reached", "letter", "further", "stop", "other"]) (xs := (Qm ZT)) rfl rfl (by decide +kernel) rfl (by decide +kernel) (by intro p hp; simp only [List.mem_cons, List.not_mem_nil, or_false] at hp; rcases hp with rfl <;> rfl) rfl rfl rfl (by decide +kernel)) ?_ (fun _ _ _ _ _ => ?_) (fun _ _ _ _ _ => ?_)
  exact rfl
  refine Z7 ?_
  refine Jo ?_ ?_
  exact Qb 0
  exact Qj
  exact Zi (i := 0) (x := "end") (show List.Nodup (["end", "reached"] : List Str) from by decide +kernel) rfl (Or.inl rfl)
  refine JQ (Qay ?_) Qi ?_ ?_
  exact hu
  exact Qb 0
  exact Qb 1
  exact Qf
  decide
  decide
  exact rfl
  exact rfl
noncomputable def Jf : FM := box frN J0
theorem Y9 (d : DefAt K mg "takes" ZT ["reader", "seat", "path"]) (b_any : mg "any" = none) (c_moves_of : Cal P w K mg base 1 "moves_of" ["reader"] QK) : Cal P w K mg base 2 "takes" ["reader", "seat", "path"] Jf := (YY d b_any c_moves_of).box frN
noncomputable abbrev Q5 : Stmt := top 2
theorem sc_at_seat : FnScope ["reader", "seat", "pairs"] ["reader", "seat"] (Qm Q5) := ⟨rfl, rfl, rfl, by decide +kernel, rfl, by decide +kernel, by decide +kernel⟩
noncomputable def Zg : FM := Vj 1
    (ZI (Jv 2 (Zf V1 (QZ (Ql wIx (Qg 0) (mC (.int 1)))) [none, none, none, some 1] (Z8 [0, 1, 2]) (Q4 (Ql wEq (Qg 0) (Qg 3))) (mFn Vr (Qd (Qg 1) (Qd (Qg 2) Qt)))))
    (Ko (mFn Vr (Qd (Ql (wIn false) (Qg 1) (Ql wIx (Qg 0) (mC (.int 0)))) (Qd (mFn Z3 (Qd (Qg 2) Qt)) Qt)))))
set_option maxHeartbeats 4000000 in
theorem Kb (d : DefAt K mg "at_seat" Q5 ["reader", "seat"]) (b_sorted : mg "sorted" = none) : Cal P w K mg base 1 "at_seat" ["reader", "seat"] Zg := by
  refine JE (k := 0) (more := 1) d sc_at_seat rfl fun f cdv A outer s H E hr => ?_
  have hu := hr.units
  refine Qk ?_ ?_
  refine W5 sc_at_seat.nd rfl (Or.inl rfl) ?_ JP ?_ (Xo (ks := ["seat"]) (Nb := ["start", "letter", "other", "seat"]) (cp := [none, none, none, some 1]) (N := ["reader", "seat", "pairs"]) (xs := (Qm Q5)) rfl rfl (by decide +kernel) rfl (by decide +kernel) (by intro p hp; simp only [List.mem_cons, List.not_mem_nil, or_false] at hp; rcases hp with rfl <;> rfl) rfl rfl rfl (by decide +kernel)) ?_ (fun _ _ _ _ _ => ?_) (fun _ _ _ _ _ => ?_) (fun _ _ _ _ _ => ?_) ?_ ?_
  first | exact .inl rfl | exact .inr rfl
  exact rfl
  refine Z7 ?_
  refine Jo ?_ ?_
  exact Qb 0
  exact Qj
  refine Js (is := [0, 1, 2]) ?_ ?_ ?_ ?_
  exact rfl
  refine Qw (i := 0) (x := "start") (show List.Nodup (["start", "letter", "other", "seat"] : List Str) from by decide +kernel) rfl (Or.inl rfl) ?_ ?_
  refine Qw (i := 1) (x := "letter") (show List.Nodup (["start", "letter", "other", "seat"] : List Str) from by decide +kernel) rfl (Or.inl rfl) ?_ ?_
  refine Qw (i := 2) (x := "other") (show List.Nodup (["start", "letter", "other", "seat"] : List Str) from by decide +kernel) rfl (Or.inl rfl) ?_ ?_
  exact Ji
  first | exact .inl rfl | exact .inr rfl
  first | exact .inl rfl | exact .inr rfl
  first | exact .inl rfl | exact .inr rfl
  exact rfl
  exact rfl
  refine Zd (Vo ?_) Qi ?_ ?_
  exact hu
  exact Qb 0
  exact Qb 3
  refine Jr ?_
  refine Qa ?_ ?_
  exact Qb 1
  refine Qa ?_ ?_
  exact Qb 2
  exact Qf
  exact fun _ => rfl
  exact rfl
  refine Qv ?_
  refine Q1 ?_
  refine Jr ?_
  refine Qa ?_ ?_
  refine JQ (Kp ?_) Qi ?_ ?_
  exact hu
  exact Qb 1
  refine Jo ?_ ?_
  exact Qb 0
  exact Qj
  refine Qa ?_ ?_
  refine QN (JO ?_) Qy ?_ ?_ PyProof.Rows.boot_sorted ?_ ?_ ?_ ?_ ?_
  exact hu
  exact rfl
  exact b_sorted
  refine Qa ?_ ?_
  exact Qb 2
  exact Qf
  decide
  decide
  exact rfl
  exact rfl
  exact Qf
noncomputable def Zq : FM := box frT Zg
theorem X0 (d : DefAt K mg "at_seat" Q5 ["reader", "seat"]) (b_sorted : mg "sorted" = none) : Cal P w K mg base 1 "at_seat" ["reader", "seat"] Zq := (Kb d b_sorted).box frT
noncomputable abbrev QQ : Stmt := top 8
theorem sc__law_due : FnScope ["reader", "seat", "path", "good", "letter"] ["reader", "seat", "path"] (Qm QQ) := ⟨rfl, rfl, rfl, by decide +kernel, rfl, by decide +kernel, by decide +kernel⟩
noncomputable abbrev Q3 : SM := (Jv 3 (Zf V1 (QZ (Ql wIx (Qg 0) (mC (.int 1)))) [none, none, none, some 4, some 3] (Z8 [0, 1, 2]) (XY (Q4 (Ql wEq (Qg 1) (Qg 3))) (Q4 (Ql (wIn false) (Qg 2) (Qg 4)))) (Qg 0)))
noncomputable def ZF : FM := Vj 2
    (ZI (Jv 3 (mFn JS (Qd (Ql wIx (Qg 0) (mC (.int 0))) Qt)))
    (ZI (JM (Wn (Qd (Qg 2) Qt)) (Jd 4)
    Q3)
    (Ko (Ql (wIn false) (Qg 1) (Qg 3)))))
set_option maxHeartbeats 4000000 in
theorem Xi (d : DefAt K mg "_law_due" QQ ["reader", "seat", "path"]) (b_list : mg "list" = none) (b_reversed : mg "reversed" = none) : Cal P w K mg base 1 "_law_due" ["reader", "seat", "path"] ZF := by
  refine JE (k := 0) (more := 2) d sc__law_due rfl fun f cdv A outer s H E hr => ?_
  have hu := hr.units
  refine Qk ?_ ?_
  refine QB ?_ ?_ ?_ ?_ ?_ ?_
  exact sc__law_due.nd
  exact rfl
  exact (Or.inr rfl)
  refine ZL JD Qy ?_ ?_ PyProof.Rows.boot_list ?_ ?_ ?_ ?_ ?_
  exact rfl
  exact b_list
  refine Qa ?_ ?_
  refine Jo ?_ ?_
  exact Qb 0
  exact Qj
  exact Qf
  decide
  decide
  exact rfl
  exact rfl
  exact rfl
  first | exact .inl rfl | exact .inr rfl
  refine Qk ?_ ?_
  refine Z6 ?_ ?_ ?_ ?_ ?_ ?_
  exact PassesOwn.never
  exact rfl
  refine G9 ?_ ?_ ?_ ?_
  exact rfl
  exact b_reversed
  refine Qa ?_ ?_
  exact Qb 2
  exact Qf
  exact rfl
  exact Zi (i := 4) (x := "letter") sc__law_due.nd rfl (Or.inr rfl)
  refine Qv ?_
  refine Uw ?_ ?_ ?_ ?_ ?_ ?_
  exact sc__law_due.nd
  exact rfl
  exact (Or.inr rfl)
  refine KY JP ?_ (Xo (ks := ["letter", "good"]) (Nb := ["one", "sign", "other", "letter", "good"]) (cp := [none, none, none, some 4, some 3]) (N := ["reader", "seat", "path", "good", "letter"]) (xs := (Qm QQ)) rfl rfl (by decide +kernel) rfl (by decide +kernel) (by intro p hp; simp only [List.mem_cons, List.not_mem_nil, or_false] at hp; rcases hp with rfl | rfl <;> rfl) rfl rfl rfl (by decide +kernel)) ?_ (fun _ _ _ _ _ => ?_) (fun _ _ _ _ _ => ?_) (fun _ _ _ _ _ => ?_)
  exact rfl
  refine Z7 ?_
  refine Jo ?_ ?_
  exact Qb 0
  exact Qj
  refine Js (is := [0, 1, 2]) ?_ ?_ ?_ ?_
  exact rfl
  refine Qw (i := 0) (x := "one") (show List.Nodup (["one", "sign", "other", "letter", "good"] : List Str) from by decide +kernel) rfl (Or.inl rfl) ?_ ?_
  refine Qw (i := 1) (x := "sign") (show List.Nodup (["one", "sign", "other", "letter", "good"] : List Str) from by decide +kernel) rfl (Or.inl rfl) ?_ ?_
  refine Qw (i := 2) (x := "other") (show List.Nodup (["one", "sign", "other", "letter", "good"] : List Str) from by decide +kernel) rfl (Or.inl rfl) ?_ ?_
  exact Ji
  first | exact .inl rfl | exact .inr rfl
  first | exact .inl rfl | exact .inr rfl
  first | exact .inl rfl | exact .inr rfl
  exact rfl
  exact rfl
  refine PMW.pt ?_
  refine QaP ?_ ?_
  refine Zd (Vo ?_) Qi ?_ ?_
  exact hu
  exact Qb 1
  exact Qb 3
  refine UE ?_
  refine Zd (Kp ?_) Qi ?_ ?_
  exact hu
  exact Qb 2
  exact Qb 4
  exact Qb 0
  exact rfl
  first | exact .inl rfl | exact .inr rfl
  exact fun _ => rfl
  refine Qv ?_
  refine Q1 ?_
  refine JQ (Kp ?_) Qi ?_ ?_
  exact hu
  exact Qb 1
  exact Qb 3
noncomputable def Zb : FM := box frN ZF
theorem XI (d : DefAt K mg "_law_due" QQ ["reader", "seat", "path"]) (b_list : mg "list" = none) (b_reversed : mg "reversed" = none) : Cal P w K mg base 1 "_law_due" ["reader", "seat", "path"] Zb := (Xi d b_list b_reversed).box frN
noncomputable abbrev JU : Stmt := top 9
theorem sc_law : FnScope ["script", "reader", "kept", "k", "cell", "seat", "many", "path", "found", "told", "end", "moves", "due"] ["script"] (Qm JU) := ⟨rfl, rfl, rfl, by decide +kernel, rfl, by decide +kernel, by decide +kernel⟩
noncomputable abbrev ZR : SM := (ZI (Jv 4 (Zw 2 Qn (Qd (Qg 0) (Qd (Ql Xc (mC (.int 34)) (Qg 3)) Qt))))
    (ZI (Jv 5 (Zw 1 Qs (Qd (Qg 4) Qt)))
    (ZI (Jv 6 (Ql wIx (mFn Ug (Qd (Ql Ju (Ql JN (Qg 4) (mC (.int 12))) (mC (.int 7))) (Qd (mC (.int 60)) Qt))) (mFn WA (Qd (Ql wEq (Ql Ju (Ql JN (Qg 4) (mC (.int 84))) (mC (.int 8))) (mC (.int 0))) Qt))))
    (ZI (Jv 7 (Zf V1 (Yd (Qd (Qg 6) Qt)) [none, some 4] (Jd 0) W0 (Ql Xc (mC (.int 1)) (Ql Ju (Ql JN (Qg 1) (Ql Xc (mC (.int 12)) (Ql Jg (mC (.int 5)) (Qg 0)))) (mC (.int 2))))))
    (ZI (Jv 8 (Zw 3 Jf (Qd (Qg 1) (Qd (Qg 5) (Qd (Qg 7) Qt)))))
    (ZI (Um (U6 (XZ (QaJ (mFn QaV (Qd (Qg 8) (Qd (mC (.ty "bool")) Qt))))) (Q4 (Ql wNe (Qg 8) (Zw 3 Zb (Qd (Qg 1) (Qd (Qg 5) (Qd (Qg 7) Qt))))))) (Ko (mC (.bl false))) XM)
    (ZI (Jv 9 (Zw 2 Zq (Qd (Qg 1) (Qd (Qg 5) Qt))))
    (ZI (Um (U6 (XZ (QaJ (mFn QaV (Qd (Qg 9) (Qd (mC (.ty "tuple")) Qt))))) (Q4 (Ql wNe (mFn G5 (Qd (Qg 9) Qt)) (mC (.int 2))))) (Ko (mC (.bl false))) XM)
    (ZI (Qds (Z8 [10, 11]) (Qg 9))
    (ZI (Jv 12 (mFn Z3 (Qd (Zf V1 (QZ (Ql wIx (Qg 1) (mC (.int 1)))) [none, none, none, some 5] (Z8 [0, 1, 2]) (Q4 (Ql wEq (Qg 0) (Qg 3))) (mFn Vr (Qd (Qg 1) (Qd (Qg 2) Qt)))) Qt)))
    (ZI (Um (U6 (Q4 (Ql wNe (Qg 10) (Ql (wIn false) (Qg 5) (Ql wIx (Qg 1) (mC (.int 0)))))) (U6 (XZ (QaJ (mFn QaV (Qd (Qg 10) (Qd (mC (.ty "bool")) Qt))))) (U6 (XZ (QaJ (mFn QaV (Qd (Qg 11) (Qd (mC (.ty "list")) Qt))))) (Q4 (Ql wNe (Qg 11) (Qg 12)))))) (Ko (mC (.bl false))) XM)
    (Yi (mMt "list" Jb (Qg 11) (Qd (mC (.int 0)) Qt))))))))))))))
noncomputable def Jx : FM := Vj 12
    (ZI (Jv 1 (Zw 1 QE (Qd (Qg 0) Qt)))
    (ZI (Jv 2 (mFn Vr (Qd (mFn JS (Qd (Ql wIx (Qg 1) (mC (.int 0))) Qt)) (Qd (mFn JS (Qd (Ql wIx (Qg 1) (mC (.int 1))) Qt)) Qt))))
    (ZI (JM (Yd (Qd (mC (.int 10)) Qt)) (Jd 3)
    ZR)
    (Ko (Ql wEq (Qg 1) (Qg 2))))))
set_option maxHeartbeats 4000000 in
theorem Qab (d : DefAt K mg "law" JU ["script"]) (b_bool : mg "bool" = none) (b_int : mg "int" = none) (b_isinstance : mg "isinstance" = none) (b_len : mg "len" = none) (b_list : mg "list" = none) (b_range : mg "range" = none) (b_sorted : mg "sorted" = none) (b_tuple : mg "tuple" = none) (c__law_cell : Cal P w K mg base 1 "_law_cell" ["script", "k"] Qn) (c__law_due : Cal P w K mg base 1 "_law_due" ["reader", "seat", "path"] Zb) (c__law_reader : Cal P w K mg base 2 "_law_reader" ["script"] QE) (c__law_seat : Cal P w K mg base 1 "_law_seat" ["cell"] Qs) (c_at_seat : Cal P w K mg base 1 "at_seat" ["reader", "seat"] Zq) (c_takes : Cal P w K mg base 2 "takes" ["reader", "seat", "path"] Jf) : Cal P w K mg base 3 "law" ["script"] Jx := by
  refine JE (k := 2) (more := 12) d sc_law rfl fun f cdv A outer s H E hr => ?_
  have hu := hr.units
  refine Qk ?_ ?_
  refine QB ?_ ?_ ?_ ?_ ?_ ?_
  exact sc_law.nd
  exact rfl
  exact (Or.inl rfl)
  refine QG (k := 2) (ps := ["script"]) ?_ ?_ ?_ ?_ ?_ ?_ ?_ ?_
  exact c__law_reader
  exact hr.mono (by decide)
  exact rfl
  refine Qa ?_ ?_
  exact Qb 0
  exact Qf
  exact rfl
  decide
  exact rfl
  exact rfl
  exact rfl
  first | exact .inl rfl | exact .inr rfl
  refine Qk ?_ ?_
  refine QB ?_ ?_ ?_ ?_ ?_ ?_
  exact sc_law.nd
  exact rfl
  exact (Or.inl rfl)
  refine Jr ?_
  refine Qa ?_ ?_
  refine ZL JD Qy ?_ ?_ PyProof.Rows.boot_list ?_ ?_ ?_ ?_ ?_
  exact rfl
  exact b_list
  refine Qa ?_ ?_
  refine Jo ?_ ?_
  exact Qb 1
  exact Qj
  exact Qf
  decide
  decide
  exact rfl
  exact rfl
  refine Qa ?_ ?_
  refine ZL JD Qy ?_ ?_ PyProof.Rows.boot_list ?_ ?_ ?_ ?_ ?_
  exact rfl
  exact b_list
  refine Qa ?_ ?_
  refine Jo ?_ ?_
  exact Qb 1
  exact Qj
  exact Qf
  decide
  decide
  exact rfl
  exact rfl
  exact Qf
  exact rfl
  first | exact .inl rfl | exact .inr rfl
  refine Qk ?_ ?_
  refine Z6 ?_ ?_ ?_ ?_ ?_ ?_
  exact PassesOwn.never
  exact rfl
  refine Ud ?_ ?_ ?_ ?_
  exact rfl
  exact b_range
  refine Qa ?_ ?_
  exact Qj
  exact Qf
  exact rfl
  exact Zi (i := 3) (x := "k") sc_law.nd rfl (Or.inl rfl)
  refine Qk ?_ ?_
  refine QB ?_ ?_ ?_ ?_ ?_ ?_
  exact sc_law.nd
  exact rfl
  exact (Or.inr rfl)
  refine QG (k := 1) (ps := ["script", "k"]) ?_ ?_ ?_ ?_ ?_ ?_ ?_ ?_
  exact c__law_cell
  exact hr.mono (by decide)
  exact rfl
  refine Qa ?_ ?_
  exact Qb 0
  refine Qa ?_ ?_
  refine QA ZM Qi ?_ ?_
  exact Qj
  exact Qb 3
  exact Qf
  exact rfl
  decide
  exact rfl
  exact rfl
  exact rfl
  first | exact .inl rfl | exact .inr rfl
  refine Qk ?_ ?_
  refine QB ?_ ?_ ?_ ?_ ?_ ?_
  exact sc_law.nd
  exact rfl
  exact (Or.inr rfl)
  refine QG (k := 1) (ps := ["cell"]) ?_ ?_ ?_ ?_ ?_ ?_ ?_ ?_
  exact c__law_seat
  exact hr.mono (by decide)
  exact rfl
  refine Qa ?_ ?_
  exact Qb 4
  exact Qf
  exact rfl
  decide
  exact rfl
  exact rfl
  exact rfl
  first | exact .inl rfl | exact .inr rfl
  refine Qk ?_ ?_
  refine QB ?_ ?_ ?_ ?_ ?_ ?_
  exact sc_law.nd
  exact rfl
  exact (Or.inl rfl)
  refine Jo ?_ ?_
  refine YW ?_
  refine Qa ?_ ?_
  refine QA QL Qi ?_ ?_
  refine QA Za Qi ?_ ?_
  exact Qb 4
  exact Qj
  exact Qj
  refine Qa ?_ ?_
  exact Qj
  exact Qf
  refine ZL Xb Qy ?_ ?_ PyProof.Rows.boot_int ?_ ?_ ?_ ?_ ?_
  exact rfl
  exact b_int
  refine Qa ?_ ?_
  refine JQ (Vo ?_) Qi ?_ ?_
  exact hu
  refine QA QL Qi ?_ ?_
  refine QA Za Qi ?_ ?_
  exact Qb 4
  exact Qj
  exact Qj
  exact Qj
  exact Qf
  decide
  decide
  exact rfl
  exact rfl
  exact rfl
  first | exact .inl rfl | exact .inr rfl
  refine Qk ?_ ?_
  refine WS sc_law.nd rfl (Or.inl rfl) ?_ JP ?_ (Xo (ks := ["cell"]) (Nb := ["j", "cell"]) (cp := [none, some 4]) (N := ["script", "reader", "kept", "k", "cell", "seat", "many", "path", "found", "told", "end", "moves", "due"]) (xs := (Qm JU)) rfl rfl (by decide +kernel) rfl (by decide +kernel) (by intro p hp; simp only [List.mem_cons, List.not_mem_nil, or_false] at hp; rcases hp with rfl <;> rfl) rfl rfl rfl (by decide +kernel)) ?_ (fun _ _ _ _ _ => ?_) (fun _ _ _ _ _ => ?_) ?_ ?_
  first | exact .inl rfl | exact .inr rfl
  exact rfl
  refine Ud ?_ ?_ ?_ ?_
  exact rfl
  exact b_range
  refine Qa ?_ ?_
  exact Qb 6
  exact Qf
  exact rfl
  exact Zi (i := 0) (x := "j") (show List.Nodup (["j", "cell"] : List Str) from by decide +kernel) rfl (Or.inl rfl)
  refine QA ZM Qi ?_ ?_
  exact Qj
  refine QA QL Qi ?_ ?_
  refine QA Za Qi ?_ ?_
  exact Qb 1
  refine QA ZM Qi ?_ ?_
  exact Qj
  refine QA ZV Qi ?_ ?_
  exact Qj
  exact Qb 0
  exact Qj
  exact fun _ => rfl
  exact rfl
  refine Qk ?_ ?_
  refine QB ?_ ?_ ?_ ?_ ?_ ?_
  exact sc_law.nd
  exact rfl
  exact (Or.inl rfl)
  refine QG (k := 2) (ps := ["reader", "seat", "path"]) ?_ ?_ ?_ ?_ ?_ ?_ ?_ ?_
  exact c_takes
  exact hr.mono (by decide)
  exact rfl
  refine Qa ?_ ?_
  exact Qb 1
  refine Qa ?_ ?_
  exact Qb 5
  refine Qa ?_ ?_
  exact Qb 7
  exact Qf
  exact rfl
  decide
  exact rfl
  exact rfl
  exact rfl
  first | exact .inl rfl | exact .inr rfl
  refine Qk ?_ ?_
  refine Vs ?_ ?_ ?_
  refine PMW.pt ?_
  refine Xa ?_ ?_
  refine VU ?_
  refine VA ?_
  refine QN Jk Qy ?_ ?_ PyProof.Rows.boot_isinstance ?_ ?_ ?_ ?_ ?_
  exact rfl
  exact b_isinstance
  refine Qa ?_ ?_
  exact Qb 8
  refine Qa ?_ ?_
  exact U5 rfl b_bool PyProof.Rows.boot_bool
  exact Qf
  decide
  decide
  exact rfl
  exact rfl
  refine XW ?_
  refine Zd (K2 ?_) Qi ?_ ?_
  exact hu
  exact Qb 8
  refine QG (k := 1) (ps := ["reader", "seat", "path"]) ?_ ?_ ?_ ?_ ?_ ?_ ?_ ?_
  exact c__law_due
  exact hr.mono (by decide)
  exact rfl
  refine Qa ?_ ?_
  exact Qb 1
  refine Qa ?_ ?_
  exact Qb 5
  refine Qa ?_ ?_
  exact Qb 7
  exact Qf
  exact rfl
  decide
  exact rfl
  exact rfl
  refine Qv ?_
  refine Q1 ?_
  exact WG
  exact JR
  refine Qk ?_ ?_
  refine QB ?_ ?_ ?_ ?_ ?_ ?_
  exact sc_law.nd
  exact rfl
  exact (Or.inl rfl)
  refine QG (k := 1) (ps := ["reader", "seat"]) ?_ ?_ ?_ ?_ ?_ ?_ ?_ ?_
  exact c_at_seat
  exact hr.mono (by decide)
  exact rfl
  refine Qa ?_ ?_
  exact Qb 1
  refine Qa ?_ ?_
  exact Qb 5
  exact Qf
  exact rfl
  decide
  exact rfl
  exact rfl
  exact rfl
  first | exact .inl rfl | exact .inr rfl
  refine Qk ?_ ?_
  refine Vs ?_ ?_ ?_
  refine PMW.pt ?_
  refine Xa ?_ ?_
  refine VU ?_
  refine VA ?_
  refine QN Jk Qy ?_ ?_ PyProof.Rows.boot_isinstance ?_ ?_ ?_ ?_ ?_
  exact rfl
  exact b_isinstance
  refine Qa ?_ ?_
  exact Qb 9
  refine Qa ?_ ?_
  exact U5 rfl b_tuple PyProof.Rows.boot_tuple
  exact Qf
  decide
  decide
  exact rfl
  exact rfl
  refine XW ?_
  refine Zd (K2 ?_) Qi ?_ ?_
  exact hu
  refine QN Jq Qy ?_ ?_ PySem.boot_len ?_ ?_ ?_ ?_ ?_
  exact rfl
  exact b_len
  refine Qa ?_ ?_
  exact Qb 9
  exact Qf
  decide
  decide
  exact rfl
  exact rfl
  exact Qj
  refine Qv ?_
  refine Q1 ?_
  exact WG
  exact JR
  refine Qk ?_ ?_
  refine Qap ?_ ?_ ?_ ?_ ?_
  exact Qb 9
  refine Js (is := [10, 11]) ?_ ?_ ?_ ?_
  exact rfl
  refine Qw (i := 10) (x := "end") sc_law.nd rfl (Or.inl rfl) ?_ ?_
  refine Qw (i := 11) (x := "moves") sc_law.nd rfl (Or.inl rfl) ?_ ?_
  exact Ji
  first | exact .inl rfl | exact .inr rfl
  first | exact .inl rfl | exact .inr rfl
  exact rfl
  exact rfl
  exact rfl
  exact rfl
  exact rfl
  refine Qk ?_ ?_
  refine QB ?_ ?_ ?_ ?_ ?_ ?_
  exact sc_law.nd
  exact rfl
  exact (Or.inl rfl)
  refine QN (JO ?_) Qy ?_ ?_ PyProof.Rows.boot_sorted ?_ ?_ ?_ ?_ ?_
  exact hu
  exact rfl
  exact b_sorted
  refine Qa ?_ ?_
  refine KY JP ?_ (Xo (ks := ["seat"]) (Nb := ["one", "sign", "other", "seat"]) (cp := [none, none, none, some 5]) (N := ["script", "reader", "kept", "k", "cell", "seat", "many", "path", "found", "told", "end", "moves", "due"]) (xs := (Qm JU)) rfl rfl (by decide +kernel) rfl (by decide +kernel) (by intro p hp; simp only [List.mem_cons, List.not_mem_nil, or_false] at hp; rcases hp with rfl <;> rfl) rfl rfl rfl (by decide +kernel)) ?_ (fun _ _ _ _ _ => ?_) (fun _ _ _ _ _ => ?_) (fun _ _ _ _ _ => ?_)
  exact rfl
  refine Z7 ?_
  refine Jo ?_ ?_
  exact Qb 1
  exact Qj
  refine Js (is := [0, 1, 2]) ?_ ?_ ?_ ?_
  exact rfl
  refine Qw (i := 0) (x := "one") (show List.Nodup (["one", "sign", "other", "seat"] : List Str) from by decide +kernel) rfl (Or.inl rfl) ?_ ?_
  refine Qw (i := 1) (x := "sign") (show List.Nodup (["one", "sign", "other", "seat"] : List Str) from by decide +kernel) rfl (Or.inl rfl) ?_ ?_
  refine Qw (i := 2) (x := "other") (show List.Nodup (["one", "sign", "other", "seat"] : List Str) from by decide +kernel) rfl (Or.inl rfl) ?_ ?_
  exact Ji
  first | exact .inl rfl | exact .inr rfl
  first | exact .inl rfl | exact .inr rfl
  first | exact .inl rfl | exact .inr rfl
  exact rfl
  exact rfl
  refine Zd (Vo ?_) Qi ?_ ?_
  exact hu
  exact Qb 0
  exact Qb 3
  refine Jr ?_
  refine Qa ?_ ?_
  exact Qb 1
  refine Qa ?_ ?_
  exact Qb 2
  exact Qf
  exact Qf
  decide
  decide
  exact rfl
  exact rfl
  exact rfl
  first | exact .inl rfl | exact .inr rfl
  refine Qk ?_ ?_
  refine Vs ?_ ?_ ?_
  refine PMW.pt ?_
  refine Xa ?_ ?_
  refine Zd (K2 ?_) Qi ?_ ?_
  exact hu
  exact Qb 10
  refine JQ (Kp ?_) Qi ?_ ?_
  exact hu
  exact Qb 5
  refine Jo ?_ ?_
  exact Qb 1
  exact Qj
  refine Xa ?_ ?_
  refine VU ?_
  refine VA ?_
  refine QN Jk Qy ?_ ?_ PyProof.Rows.boot_isinstance ?_ ?_ ?_ ?_ ?_
  exact rfl
  exact b_isinstance
  refine Qa ?_ ?_
  exact Qb 10
  refine Qa ?_ ?_
  exact U5 rfl b_bool PyProof.Rows.boot_bool
  exact Qf
  decide
  decide
  exact rfl
  exact rfl
  refine Xa ?_ ?_
  refine VU ?_
  refine VA ?_
  refine QN Jk Qy ?_ ?_ PyProof.Rows.boot_isinstance ?_ ?_ ?_ ?_ ?_
  exact rfl
  exact b_isinstance
  refine Qa ?_ ?_
  exact Qb 11
  refine Qa ?_ ?_
  exact U5 rfl b_list PyProof.Rows.boot_list
  exact Qf
  decide
  decide
  exact rfl
  exact rfl
  refine XW ?_
  refine Zd (K2 ?_) Qi ?_ ?_
  exact hu
  exact Qb 11
  exact Qb 12
  refine Qv ?_
  refine Q1 ?_
  exact WG
  exact JR
  refine Qv ?_
  refine JL ?_
  refine YA PySem.F.plainAttrs_list PySem.F.slot_list_append PySem.F.type_list_append ZU ?_ ?_
  exact Qb 11
  refine Qa ?_ ?_
  exact Qj
  exact Qf
  exact fun _ => rfl
  refine Qv ?_
  refine Q1 ?_
  refine JQ (Vo ?_) Qi ?_ ?_
  exact hu
  exact Qb 1
  exact Qb 2
end

theorem Qau {P : Program} {w : World} {K : PySem.W.Frag} {mg : Str → Option Value} {base : Heap} (d__law_cell : DefAt K mg "_law_cell" QX ["script", "k"]) (d__law_seat : DefAt K mg "_law_seat" QY ["cell"]) (d__law_reader : DefAt K mg "_law_reader" QI ["script"]) (d_moves_of : DefAt K mg "moves_of" Q9 ["reader"]) (d_takes : DefAt K mg "takes" ZT ["reader", "seat", "path"]) (d_at_seat : DefAt K mg "at_seat" Q5 ["reader", "seat"]) (d__law_due : DefAt K mg "_law_due" QQ ["reader", "seat", "path"]) (d_law : DefAt K mg "law" JU ["script"]) (b_any : mg "any" = none) (b_bool : mg "bool" = none) (b_int : mg "int" = none) (b_isinstance : mg "isinstance" = none) (b_len : mg "len" = none) (b_list : mg "list" = none) (b_range : mg "range" = none) (b_reversed : mg "reversed" = none) (b_set : mg "set" = none) (b_sorted : mg "sorted" = none) (b_tuple : mg "tuple" = none) : Cal P w K mg base 3 "law" ["script"] Jx := by
  have c__law_cell : Cal P w K mg base 1 "_law_cell" ["script", "k"] Qn := Vz d__law_cell b_len
  have c__law_seat : Cal P w K mg base 1 "_law_seat" ["cell"] Qs := VP d__law_seat
  have c__law_reader : Cal P w K mg base 2 "_law_reader" ["script"] QE := Vd d__law_reader b_int b_range b_set b_sorted c__law_cell c__law_seat
  have c_moves_of : Cal P w K mg base 1 "moves_of" ["reader"] QK := Xk d_moves_of
  have c_takes : Cal P w K mg base 2 "takes" ["reader", "seat", "path"] Jf := Y9 d_takes b_any c_moves_of
  have c_at_seat : Cal P w K mg base 1 "at_seat" ["reader", "seat"] Zq := X0 d_at_seat b_sorted
  have c__law_due : Cal P w K mg base 1 "_law_due" ["reader", "seat", "path"] Zb := XI d__law_due b_list b_reversed
  have c_law : Cal P w K mg base 3 "law" ["script"] Jx := Qab d_law b_bool b_int b_isinstance b_len b_list b_range b_sorted b_tuple c__law_cell c__law_due c__law_reader c__law_seat c_at_seat c_takes
  exact c_law

end My

namespace My
open PySem PySem.Spec PyProof.Rows L2 Mi
theorem KT : ∀ {ws : List W}, (∀ w ∈ ws, pln w = true) → VQ ws = true
  | [], _ => rfl
  | w :: ws, h => by unfold VQ; rw [h w List.mem_cons_self, KT fun x hx => h x (List.mem_cons_of_mem _ hx)]; rfl
theorem Ku {n : Nat} : ∀ {ws : List W}, (∀ w ∈ ws, dep w ≤ n) → KO ws ≤ n
  | [], _ => Nat.zero_le _
  | w :: ws, h => by unfold KO; exact Nat.max_le.mpr ⟨h w List.mem_cons_self, Ku fun x hx => h x (List.mem_cons_of_mem _ hx)⟩
theorem UC {α : Type} {f : α → W} {xs : List α} (h : ∀ x, pln (f x) = true) : VQ (xs.map f) = true := KT fun w hw => by obtain ⟨x, _, rfl⟩ := List.mem_map.mp hw; exact h x
@[simp] theorem Qfs {i : Int} : pur (.int i) = true := id rfl
@[simp] theorem QfL {x : Str} : pur (.str x) = true := id rfl
@[simp] theorem Qfb {ws : List W} : pur (.tup ws) = Zs ws := by unfold pur; rfl
@[simp] theorem QfA {ws : List W} : pur (.frz ws) = Zs ws := by unfold pur; rfl
@[simp] theorem Qet : Zs [] = true := id rfl
@[simp] theorem Qdq {w : W} {ws : List W} : Zs (w :: ws) = (pur w && Zs ws) := by rw [Zs]
@[simp] theorem Qcc {ns : List Int} : Zs (ns.map .int) = true := by
  induction ns with
  | nil => rfl
  | cons n ns ih => simp [ih]
@[simp] theorem Qep : 2 ≤ sizeLine := by decide
@[simp] theorem QeE : 3 ≤ sizeLine := by decide
theorem Qdu {neg : Bool} {a : W} {ys : List W} {h : MH} (pa : pln a = true) (py : VQ ys = true) (da : dep a ≤ 40) (dy : KO ys ≤ 40) : wIn neg a (.lst ys) h = some (.bl (if neg = true then !inW a ys else inW a ys), h) := by
  show ((lsW h (.lst ys)).bind fun ys => (drf h 40 a).bind fun x => (Q6 (drf h 40) ys).map fun zs => (W.bl (if neg then !inW x zs else inW x zs), h)) = _
  simp only [lsW, Option.bind_some]
  rw [Jw h a 40 pa da, ZP h ys 40 py dy]; rfl
end My

namespace My
open PySem PySem.Spec PyProof.Rows L2 Mi
noncomputable abbrev scr (ns : List Int) : W := .frz (ns.map W.int)
theorem XN (ns : List Int) (hl : ns.length ≤ 63) (k : Nat) (hk : k ≤ 100) : ∃ c : Int, 0 ≤ c ∧ ∀ h : MH, Qn [scr ns, .int k] h = some (.int c, h) := by
  have h0 : (0 : Int) ≤ k := by omega
  have hk2 : (k : Int) ≤ 100 := by omega
  by_cases hc : (k : Int) < (ns.length : Nat)
  · obtain ⟨x, hx, ex⟩ := G1 (xs := ns.map W.int) (i := (k : Int)) h0 (by rw [List.length_map]; exact hc)
    obtain ⟨n, _, rfl⟩ := List.mem_map.mp hx
    refine ⟨n % 10 ^ 18, Int.emod_nonneg _ (by decide), fun h => ZS (by simp [scr]) (g := []) ?_ (by simp)⟩
    have hp : (0 : Int) < 10 ^ 18 := by decide
    have e : Qas (.int 10) (.int 18) [] = some (.int (10 ^ 18), []) := Y2 (by decide)
    simp [QM, Vj, scr, hc, ex, e]
  · have n1 : (-18446744073709551616 : Int) < k := by omega
    have n2 : (k : Int) < 18446744073709551616 := by omega
    by_cases hn : (0 : Int) < (ns.length : Nat)
    · obtain ⟨x, hx, ex⟩ := G1 (xs := ns.map W.int) (i := (k : Int) % (ns.length : Nat)) (Int.emod_nonneg _ (by omega)) (by rw [List.length_map]; exact Int.emod_lt_of_pos _ hn)
      obtain ⟨n, _, rfl⟩ := List.mem_map.mp hx
      have b1 : (-18446744073709551616 : Int) < k + 7 := by omega
      have b2 : (k : Int) + 7 < 18446744073709551616 := by omega
      refine ⟨(11 + 3 * k * k + n % 1000003 * (k + 7)) * 48271 % 2147483647 / 5, Int.ediv_nonneg (Int.emod_nonneg _ (by decide)) (by decide), fun h => ZS (by simp [scr]) (g := []) ?_ (by simp)⟩
      have hn' : 0 < ns.length := by omega
      simp [QM, Vj, scr, hc, hn', ex, n1, n2, b1, b2]
    · refine ⟨(11 + 3 * k * k) * 48271 % 2147483647 / 5, Int.ediv_nonneg (Int.emod_nonneg _ (by decide)) (by decide), fun h => ZS (by simp [scr]) (g := []) ?_ (by simp)⟩
      have hn' : ¬ 0 < ns.length := by omega
      simp [QM, Vj, scr, hc, hn', n1, n2]
noncomputable abbrev Qu := Int × Int × Str
noncomputable def sW (s : Qu) : W := .tup [.int s.1, .int s.2.1, .str s.2.2]
noncomputable def sT (s : Qu) : Tr := .t [.i s.1, .i s.2.1, .s s.2.2]
noncomputable abbrev Mv := Qu × Int × Qu
noncomputable def mW (m : Mv) : W := .tup [sW m.1, .int m.2.1, sW m.2.2]
noncomputable def mT (m : Mv) : Tr := .t [sT m.1, .i m.2.1, sT m.2.2]
noncomputable abbrev Ky := Qu × Int
noncomputable def kW (k : Ky) : W := .tup [sW k.1, .int k.2]
noncomputable def kT (k : Ky) : Tr := .t [sT k.1, .i k.2]
noncomputable abbrev Pr := Int × Qu
noncomputable def pW (k : Pr) : W := .tup [.int k.1, sW k.2]
noncomputable def pT (k : Pr) : Tr := .t [.i k.1, sT k.2]
theorem GA {a b : Qu} (h : sT a = sT b) : a = b := by
  obtain ⟨a1, a2, a3⟩ := a
  obtain ⟨b1, b2, b3⟩ := b
  unfold sT at h
  injection h with h
  simp at h
  obtain ⟨h1, h2, h3⟩ := h
  rw [h1, h2, h3]
theorem Wp {a b : Ky} (h : kT a = kT b) : a = b := by
  obtain ⟨a1, a2⟩ := a
  obtain ⟨b1, b2⟩ := b
  unfold kT at h
  injection h with h
  simp at h
  rw [GA h.1, h.2]
@[simp] theorem Uf {s : Qu} : nrm (sW s) = some (sT s) := by
  show VY 8 (.tup [.int s.1, .int s.2.1, .str s.2.2]) = _
  simp only [VY, List.mapM_cons, List.mapM_nil]; rfl
@[simp] theorem Yr {k : Ky} : nrm (kW k) = some (kT k) := by
  show VY 8 (.tup [.tup [.int k.1.1, .int k.1.2.1, .str k.1.2.2], .int k.2]) = _
  simp only [VY, List.mapM_cons, List.mapM_nil]; rfl
theorem QfS {s : Qu} : plN 8 (sW s) = some (sT s) := by
  show plN 8 (.tup [.int s.1, .int s.2.1, .str s.2.2]) = _
  simp only [plN, List.mapM_cons, List.mapM_nil]; rfl
theorem Qfx {m : Mv} : plN 8 (mW m) = some (mT m) := by
  show plN 8 (.tup [.tup [.int m.1.1, .int m.1.2.1, .str m.1.2.2], .int m.2.1, .tup [.int m.2.2.1, .int m.2.2.2.1, .str m.2.2.2.2]]) = _
  simp only [plN, List.mapM_cons, List.mapM_nil]; rfl
theorem QfH {m : Pr} : plN 8 (pW m) = some (pT m) := by
  show plN 8 (.tup [.int m.1, .tup [.int m.2.1, .int m.2.2.1, .str m.2.2.2]]) = _
  simp only [plN, List.mapM_cons, List.mapM_nil]; rfl
theorem Y1 {α : Type} {e : α → W} {t : α → Tr} (ht : ∀ a, ∃ ws, e a = .tup ws) (hp : ∀ a, plN 8 (e a) = some (t a)) : ∀ l : List α, plL (l.map e) = some (l.map t)
  | [] => rfl
  | a :: l => by
    obtain ⟨ws, ew⟩ := ht a
    have h1 := hp a
    rw [ew] at h1
    rw [List.map_cons, ew, plL, h1, Y1 ht hp l]
    rfl
theorem Gu {α : Type} {e : α → W} {t : α → Tr} (hp : ∀ a, plN 8 (e a) = some (t a)) (a : α) : toW (t a) = e a := (WD 8 _ _ (hp a)).symm
open Sb in
theorem Qe6 {s : Qu} : Wf 8 (.t (.i :: [.i, .s])) (sT s) := ⟨_, rfl, .cons ⟨_, rfl⟩ (.cons ⟨_, rfl⟩ (.cons ⟨_, rfl⟩ .nil))⟩
open Sb in
theorem Qa1 {s : Qu} : Wf 7 (.t (.i :: [.i, .s])) (sT s) := ⟨_, rfl, .cons ⟨_, rfl⟩ (.cons ⟨_, rfl⟩ (.cons ⟨_, rfl⟩ .nil))⟩
open Sb in
theorem Qfk {m : Mv} : Wf 8 (.t (.t (.i :: [.i, .s]) :: [.i, .t (.i :: [.i, .s])])) (mT m) := ⟨_, rfl, .cons Qa1 (.cons ⟨_, rfl⟩ (.cons Qa1 .nil))⟩
open Sb in
theorem Qfh {m : Pr} : Wf 8 (.t (.i :: [.t (.i :: [.i, .s])])) (pT m) := ⟨_, rfl, .cons ⟨_, rfl⟩ (.cons Qa1 .nil)⟩
theorem Wr (ks : List Tr) : (∀ t ∈ Sb.srtT ks, t ∈ ks) ∧ (Sb.srtT ks).length ≤ ks.length := by
  unfold Sb.srtT
  split
  · rename_i h
    exact ⟨fun t ht => h.choose_spec.1.mem_iff.mp ht, Nat.le_of_eq h.choose_spec.1.length_eq⟩
  · exact ⟨fun t ht => (nomatch ht), Nat.zero_le _⟩
theorem Kh {α : Type} {t : α → Tr} {l : List α} : ∀ {k : List Tr}, (∀ x ∈ k, x ∈ l.map t) → ∃ m : List α, k = m.map t ∧ ∀ a ∈ m, a ∈ l
  | [], _ => ⟨[], rfl, fun _ h => nomatch h⟩
  | x :: k, h => by
    obtain ⟨a, ha, rfl⟩ := List.mem_map.mp (h x List.mem_cons_self)
    obtain ⟨m, rfl, hm⟩ := Kh fun y hy => h y (List.mem_cons_of_mem _ hy)
    refine ⟨a :: m, rfl, fun b hb => ?_⟩
    rcases List.mem_cons.mp hb with rfl | hb
    · exact ha
    · exact hm b hb
theorem WN {α : Type} {e : α → W} {t : α → Tr} (ht : ∀ a, ∃ ws, e a = .tup ws) (hp : ∀ a, plN 8 (e a) = some (t a)) {s0 : Sb.Sh} {ss : List Sb.Sh} (hw : ∀ a, Sb.Wf 8 (.t (s0 :: ss)) (t a)) (l : List α) (hl : l.length ≤ 75) :
    ∃ m : List α, m.length ≤ l.length ∧ (∀ a ∈ m, a ∈ l) ∧ ∀ (h : MH) (n : Nat), h[n]? = some (.lst (l.map e)) → ZE [.ref n] h = some (.ref h.length, h ++ [.lst (m.map e)]) := by
  obtain ⟨a1, a2⟩ := Wr (Sb.uq (l.map t))
  have u1 := Sb.uq_mem (l.map t)
  have u2 := Sb.uq_len (l.map t)
  obtain ⟨m, em, hm⟩ := Kh (l := l) (t := t) (k := Sb.srtT (Sb.uq (l.map t))) fun x hx => (u1 x).mp (a1 x hx)
  refine ⟨m, ?_, hm, fun h n hn => ?_⟩
  · have := congrArg List.length em
    rw [List.length_map] at this u2
    omega
  · have hone : One (l.map t) := ⟨s0, ss, fun x hx => by obtain ⟨a, _, rfl⟩ := List.mem_map.mp hx; exact hw a⟩
    have e1 : lsW h (.ref n) = some (l.map e) := by simp [lsW, hn]
    unfold ZE
    simp only [e1, Option.bind_some, Y1 ht hp]
    rw [if_pos ⟨hone, by rw [List.length_map]; exact hl⟩, em, List.map_map]
    have : (toW ∘ t) = e := funext fun a => Gu hp a
    rw [this]
theorem Qct {α : Type} {e : α → W} {t : α → Tr} (ht : ∀ a, ∃ ws, e a = .tup ws) (hp : ∀ a, plN 8 (e a) = some (t a)) {s0 : Sb.Sh} {ss : List Sb.Sh} (hw : ∀ a, Sb.Wf 8 (.t (s0 :: ss)) (t a)) (l : List α) :
    ∃ m : List α, m.length ≤ l.length ∧ ∀ (h : MH) (a : W), lsW h a = some (l.map e) → Z3 [a] h = some (.ref h.length, h ++ [.lst (m.map e)]) := by
  obtain ⟨a1, a2⟩ := Wr (l.map t)
  obtain ⟨m, em, hm⟩ := Kh (l := l) (t := t) (k := Sb.srtT (l.map t)) a1
  refine ⟨m, ?_, fun h a e1 => ?_⟩
  · have := congrArg List.length em
    rw [List.length_map] at this a2
    omega
  · have hone : One (l.map t) := ⟨s0, ss, fun x hx => by obtain ⟨a, _, rfl⟩ := List.mem_map.mp hx; exact hw a⟩
    unfold Z3
    simp only [e1, Option.bind_some, Y1 ht hp]
    rw [if_pos hone, em, List.map_map]
    have : (toW ∘ t) = e := funext fun a => Gu hp a
    rw [this]
end My

namespace My
open PySem PySem.Spec PyProof.Rows L2 Mi
theorem X2 {ms : MA} {σ : MSt} {h h' : MH} {j : Nat} (e : ms σ h = some ([.int j], h')) (hj : j < 1000000) : Yd ms σ h = some (Q2 0 j, none, h') := by
  unfold Yd
  rw [e, Option.bind_some]
  exact (if_pos ⟨by omega, by omega⟩).trans (by simp)
theorem XE {a : Int} {n : Nat} : (Q2 a n).length = n := by simp [Q2]
theorem K3 {n j : Nat} {w : W} (h : (Q2 0 n)[j]? = some w) : j < n ∧ w = .int j := by
  unfold Q2 at h
  rw [List.getElem?_map] at h
  obtain ⟨i, hi, rfl⟩ := Option.map_eq_some_iff.mp h
  have lt := (List.getElem?_eq_some_iff.mp hi).1
  rw [List.length_range] at lt
  rw [List.getElem?_range lt] at hi
  cases hi
  exact ⟨lt, by simp⟩
theorem XL (c : Int) : ∃ s : Qu, ∀ h : MH, Qs [.int c] h = some (sW s, h) := by
  have h0 : 0 ≤ c / 6 % 2 := Int.emod_nonneg _ (by decide)
  have h1 : c / 6 % 2 < 2 := Int.emod_lt_of_pos _ (by decide)
  obtain ⟨x, hx⟩ : ∃ x : Str, atI [W.str "a", .str "ab"] (c / 6 % 2) = some (.str x) := by
    rcases (show c / 6 % 2 = 0 ∨ c / 6 % 2 = 1 by omega) with z | z <;> rw [z]
    · exact ⟨"a", rfl⟩
    · exact ⟨"ab", rfl⟩
  refine ⟨(c % 2, c / 2 % 3, x), fun h => ZS (by simp) (g := []) ?_ (by simp [sW])⟩
  simp [Zt, Vj, hx, sW]
theorem Zx {α : Type} {e : α → W} (he : ∀ a, pur (e a) = true) : ∀ l : List α, Zs (l.map e) = true
  | [] => rfl
  | a :: l => by
    rw [List.map_cons]
    unfold Zs
    rw [he a, Zx he l]; rfl
@[simp] theorem Qad {s : Qu} : pur (sW s) = true := by simp [sW]
@[simp] theorem QcQ {s : Mv} : pur (mW s) = true := by simp [mW]
@[simp] theorem Qdk {s : Pr} : pur (pW s) = true := by simp [pW]
theorem Vy : ∀ {ws : List W}, Zs ws = true → ∀ {k : Nat}, XF k ws = some (ws, [])
  | [], _, k => rfl
  | a :: r, hp, k => by
    unfold Zs at hp
    rw [Bool.and_eq_true] at hp
    have := Vy hp.2 (k := k)
    cases a <;> first | (unfold pur at hp; cases hp.1; done) | (unfold XF; rw [if_pos hp.1, this]; rfl)
noncomputable def rdW (E : List Qu) (M : List Mv) : W := .tup [.lst (E.map sW), .lst (M.map mW)]
@[simp] theorem Qeo {E : List Qu} {M : List Mv} : pur (rdW E M) = true := by
  have h1 := Zx (e := sW) (fun a => Qad) E
  have h2 := Zx (e := mW) (fun a => QcQ) M
  simp [rdW, pur, Zs, h1, h2]
theorem Gd {m : FM} {ws us vs : List W} {i j : Nat} {g h : MH} (hp : Zs ws = true) (e : m ws [] = some (.tup [.ref i, .ref j], g)) (hi : g[i]? = some (.lst us)) (hj : g[j]? = some (.lst vs)) (hu : Zs us = true) (hv : Zs vs = true) : box frN m ws h = some (.tup [.lst us, .lst vs], h) := by
  have hr : XF 0 ws = some (ws, []) := Vy hp
  have := Qac (m := m) (args := ws) (as := ws) (ns := []) (os := []) (os' := []) (g := g) (h := h) (w := .tup [.ref i, .ref j]) (w' := .tup [.lst us, .lst vs]) hr (by simp) rfl e rfl (by simp) (by
    unfold th ths ths ths th res
    simp [Vg, hi, hj, Zu _ us hu, Zu _ vs hv])
  simpa [QC] using this
noncomputable abbrev rS (ns : List Int) (x3 x4 : Option W) : MSt := [some (scr ns), some (.ref 0), some (.ref 1), x3, x4]
theorem YT (ns : List Int) (hl : ns.length ≤ 63) : ∃ (E : List Qu) (M : List Mv), E.length ≤ 30 ∧ M.length ≤ 30 ∧ ∀ h : MH, QE [scr ns] h = some (rdW E M, h) := by
  obtain ⟨c, hc, ec⟩ := XN ns hl 0 (by omega)
  obtain ⟨N, hN, eN⟩ : ∃ N : Nat, N ≤ 30 ∧ ∀ h : MH, (Qd (Ql Jg (Ql Ju (Ql JN (Zw 2 Qn (Qd (Qg 0) (Qd (mC (.int 0)) Qt))) (mC (.int 3))) (mC (.int 31))) (mFn WA (Qd (Ql wGt (Ql Ju (Zw 2 Qn (Qd (Qg 0) (Qd (mC (.int 0)) Qt))) (mC (.int 3))) (mC (.int 0))) Qt))) Qt) (rS ns none none) h = some ([.int (N : Int)], h) := by
    have ec' : ∀ h, Qn [scr ns, .int 0] h = some (.int c, h) := ec
    have b0 : 0 ≤ c / 3 % 31 := Int.emod_nonneg _ (by decide)
    have b1 : c / 3 % 31 < 31 := Int.emod_lt_of_pos _ (by decide)
    by_cases z : 0 < c % 3
    · refine ⟨(c / 3 % 31).toNat, by omega, fun h => ?_⟩
      have : ((c / 3 % 31).toNat : Int) = c / 3 % 31 := by omega
      simp [rS, ec', z, WA, this]
    · refine ⟨0, by omega, fun h => ?_⟩
      simp [rS, ec', z, WA]
  have loop := Z9 (items := Q2 0 N) (b := Jd 3) (body := ZD) (fun n σ h => ∃ (es : List Qu) (ms : List Mv) (x3 x4 : Option W), σ = rS ns x3 x4 ∧ h = [.lst (es.map sW), .lst (ms.map mW)] ∧ es.length + ms.length = n)
    (Q2 0 N) 0 (rS ns none none) [.lst [], .lst []] ⟨[], [], none, none, rfl, rfl, rfl⟩ (by
      rintro j w hj σ h ⟨es, ms, x3, x4, rfl, rfl, hlen⟩
      obtain ⟨hjl, rfl⟩ := K3 hj
      rw [Nat.zero_add] at *
      obtain ⟨d, hd, ed⟩ := XN ns hl (2 + j) (by omega)
      have ed' : ∀ h, Qn [scr ns, .int (2 + (j : Int))] h = some (.int d, h) := fun h => by have := ed h; push_cast at this; exact this
      obtain ⟨s1, e1⟩ := XL (d / 5)
      obtain ⟨s2, e2⟩ := XL (d / 120)
      have z1 : es.length < sizeLine := Nat.lt_of_le_of_lt (show es.length ≤ 30 by omega) (by decide)
      have z2 : ms.length < sizeLine := Nat.lt_of_le_of_lt (show ms.length ≤ 30 by omega) (by decide)
      by_cases z : d % 5 = 0
      · refine ⟨rS ns (some (.int j)) x4, rfl, rS ns (some (.int j)) (some (.int d)), [.lst ((es ++ [s1]).map sW), .lst (ms.map mW)], .inl ?_, es ++ [s1], ms, _, _, rfl, rfl, by simp; omega⟩
        simp [rS, ed', z, e1, z1, tyW]
      · refine ⟨rS ns (some (.int j)) x4, rfl, rS ns (some (.int j)) (some (.int d)), [.lst (es.map sW), .lst ((ms ++ [(s1, 1 + d / 60 % 2, s2)]).map mW)], .inl ?_, es, ms ++ [(s1, 1 + d / 60 % 2, s2)], _, _, rfl, rfl, by simp; omega⟩
        simp [rS, ed', z, e1, e2, z2, tyW, mW])
  obtain ⟨σ', h', e1, es, ms, x3, x4, rfl, rfl, hlen⟩ := loop
  rw [XE, Nat.zero_add] at hlen
  obtain ⟨E, E1, _, E2⟩ := WN (e := sW) (t := sT) (fun a => ⟨_, rfl⟩) (fun a => QfS) (fun a => Qe6) es (by omega)
  obtain ⟨M, M1, _, M2⟩ := WN (e := mW) (t := mT) (fun a => ⟨_, rfl⟩) (fun a => Qfx) (fun a => Qfk) ms (by omega)
  refine ⟨E, M, by omega, by omega, fun h => ?_⟩
  refine Gd (g := [.lst (es.map sW), .lst (ms.map mW), .lst (E.map sW), .lst (M.map mW)]) (i := 2) (j := 3) (by simp [scr]) ?_ rfl rfl (Zx (fun a => Qad) E) (Zx (fun a => QcQ) M)
  have er : Yd _ (rS ns none none) [.lst [], .lst []] = some (Q2 0 N, none, [.lst [], .lst []]) := X2 (eN _) (by omega)
  have a1 := E2 [.lst (es.map sW), .lst (ms.map mW)] 0 rfl
  have a2 := M2 [.lst (es.map sW), .lst (ms.map mW), .lst (E.map sW)] 1 rfl
  simp only [rS] at er e1
  simp at a1 a2
  simp [Ze, Vj, JM, er, e1, a1, a2]
end My

namespace My
open PySem PySem.Spec PyProof.Rows L2 Mi
noncomputable def ky (m : Mv) : Ky := (m.1, m.2.1)
noncomputable def wa (M : List Mv) (q : Ky) : List Qu := (M.filter fun m => ky m = q).map (·.2.2)
theorem Vu {M : List Mv} {m : Mv} {q : Ky} : wa (M ++ [m]) q = if (ky m) = q then wa M q ++ [m.2.2] else wa M q := by
  unfold wa
  rw [List.filter_append, List.map_append]
  by_cases h : (ky m) = q <;> simp [h]
noncomputable abbrev Gs := List (Ky × Nat)
noncomputable def dG (G : Gs) : List (W × W) := G.map fun g => (kW g.1, .ref (g.2 + 1))
noncomputable def hG (G : Gs) (Ls : List (List Qu)) : MH := .dct (dG G) :: Ls.map fun l => .lst (l.map sW)
theorem QaS {G : Gs} {q : Ky} : Vf (dG G) (kT q) = (G.find? fun g => decide (g.1 = q)).map fun g => .ref (g.2 + 1) := by
  unfold Vf dG
  induction G with
  | nil => rfl
  | cons g G ih =>
    rw [List.map_cons, List.find?_cons, List.find?_cons]
    by_cases h : g.1 = q
    · simp [h]
    · have : ¬ kT g.1 = kT q := fun z => h (Wp z)
      simp only [Yr, Option.some.injEq, this, h, decide_false]
      exact ih
structure WB (M : List Mv) (G : Gs) (Ls : List (List Qu)) : Prop where
  nk : (G.map (·.1)).Nodup
  ni : (G.map (·.2)).Nodup
  at_ : ∀ g ∈ G, Ls[g.2]? = some (wa M g.1)
  all : ∀ m ∈ M, (ky m) ∈ G.map (·.1)
theorem Qb0 {G : Gs} {q : Ky} (hn : (G.map (·.1)).Nodup) {g : Ky × Nat} (hg : g ∈ G) (hq : g.1 = q) : (G.find? fun g => decide (g.1 = q)) = some g := by
  induction G with
  | nil => cases hg
  | cons x G ih =>
    rw [List.map_cons, List.nodup_cons] at hn
    rw [List.find?_cons]
    rcases List.mem_cons.mp hg with rfl | hg
    · simp [hq]
    · have : ¬ x.1 = q := fun z => hn.1 (by rw [z, ← hq]; exact List.mem_map_of_mem hg)
      simp only [this, decide_false]
      exact ih hn.2 hg
theorem GX {G : Gs} {q : Ky} (h : q ∉ G.map (·.1)) : (G.find? fun g => decide (g.1 = q)) = none := by
  rw [List.find?_eq_none]
  intro g hg
  simp
  exact fun z => h (by rw [← z]; exact List.mem_map_of_mem hg)
theorem Qai {M : List Mv} {G : Gs} {Ls : List (List Qu)} (I : WB M G Ls) {q : Ky} (h : q ∉ G.map (·.1)) : wa M q = [] := by
  unfold wa
  rw [List.map_eq_nil_iff, List.filter_eq_nil_iff]
  intro m hm
  simp
  exact fun z => h (by rw [← z]; exact I.all m hm)
theorem WB.step {M : List Mv} {G : Gs} {Ls : List (List Qu)} (I : WB M G Ls) (m : Mv) :
    (∃ g ∈ G, g.1 = (ky m) ∧ g.2 < Ls.length ∧ WB (M ++ [m]) G ((Ls ++ [[]]).set g.2 (wa M (ky m) ++ [m.2.2])) ∧ (Ls ++ [[]])[g.2]? = some (wa M (ky m))) ∨
    ((ky m) ∉ G.map (·.1) ∧ WB (M ++ [m]) (G ++ [((ky m), Ls.length)]) ((Ls ++ [[]]).set Ls.length [m.2.2])) := by
  by_cases hk : (ky m) ∈ G.map (·.1)
  · obtain ⟨g, hg, hq⟩ := List.mem_map.mp hk
    have hat := I.at_ g hg
    have hlt := (List.getElem?_eq_some_iff.mp hat).1
    refine .inl ⟨g, hg, hq, hlt, ⟨I.nk, I.ni, fun x hx => ?_, fun x hx => ?_⟩, by rw [List.getElem?_append_left hlt, hat, hq]⟩
    · have hx2 := I.at_ x hx
      have hxl := (List.getElem?_eq_some_iff.mp hx2).1
      by_cases e : x = g
      · subst e
        rw [List.getElem?_set_self (by simp; omega), Vu, if_pos hq.symm, hq]
      · have ne : g.2 ≠ x.2 := fun z => e (by
          obtain ⟨i, hi, ei⟩ := List.mem_iff_getElem.mp hx
          obtain ⟨j, hj, ej⟩ := List.mem_iff_getElem.mp hg
          have := (List.getElem_inj (i := i) (j := j) (h₀ := by simpa using hi) (h₁ := by simpa using hj) I.ni).mp (by simp [ei, ej, z])
          subst this
          rw [← ei, ← ej])
        have ne1 : ¬ (ky m) = x.1 := fun z => e (by
          obtain ⟨i, hi, ei⟩ := List.mem_iff_getElem.mp hx
          obtain ⟨j, hj, ej⟩ := List.mem_iff_getElem.mp hg
          have := (List.getElem_inj (i := i) (j := j) (h₀ := by simpa using hi) (h₁ := by simpa using hj) I.nk).mp (by simp [ei, ej, ← z, hq])
          subst this
          rw [← ei, ← ej])
        rw [List.getElem?_set_ne ne, List.getElem?_append_left hxl, hx2, Vu, if_neg ne1]
    · rcases List.mem_append.mp hx with h | h
      · exact I.all x h
      · rw [List.mem_singleton.mp h]; exact hk
  · refine .inr ⟨hk, ⟨?_, ?_, fun x hx => ?_, fun x hx => ?_⟩⟩
    · rw [List.map_append, List.nodup_append]
      exact ⟨I.nk, by simp, fun a ha b hb => by simp at hb; subst hb; exact fun z => hk (by rw [← z]; exact ha)⟩
    · rw [List.map_append, List.nodup_append]
      refine ⟨I.ni, by simp, fun a ha b hb => ?_⟩
      simp at hb
      subst hb
      obtain ⟨g, hg, rfl⟩ := List.mem_map.mp ha
      have := (List.getElem?_eq_some_iff.mp (I.at_ g hg)).1
      omega
    · rcases List.mem_append.mp hx with h | h
      · have hx2 := I.at_ x h
        have hxl := (List.getElem?_eq_some_iff.mp hx2).1
        have ne1 : ¬ (ky m) = x.1 := fun z => hk (by rw [z]; exact List.mem_map_of_mem h)
        rw [List.getElem?_set_ne (by omega), List.getElem?_append_left hxl, hx2, Vu, if_neg ne1]
      · rw [List.mem_singleton.mp h]
        show ((Ls ++ [[]]).set Ls.length [m.2.2])[Ls.length]? = some (wa (M ++ [m]) (ky m))
        rw [List.getElem?_set_self (by simp), Vu, if_pos rfl, Qai I hk]
        rfl
    · rcases List.mem_append.mp hx with h | h
      · have := I.all x h; simp at this ⊢; exact .inl this
      · rw [List.mem_singleton.mp h]; simp
theorem GZ {G : Gs} {Ls : List (List Qu)} : hG G Ls ++ [.lst []] = hG G (Ls ++ [[]]) := by simp [hG]
theorem Gx {G : Gs} {Ls : List (List Qu)} : (hG G Ls).length = Ls.length + 1 := by simp [hG]
theorem GN {G : Gs} {Ls : List (List Qu)} {i : Nat} {l : List Qu} {w : Qu} : (hG G Ls).set (i + 1) (.lst (l.map sW ++ [sW w])) = hG G (Ls.set i (l ++ [w])) := by
  simp [hG, List.map_set]
theorem QaU {G : Gs} {Ls : List (List Qu)} {i : Nat} {l : List Qu} (h : Ls[i]? = some l) : (hG G Ls)[i + 1]? = some (.lst (l.map sW)) := by
  show (Ls.map fun l => MO.lst (l.map sW))[i]? = _
  rw [List.getElem?_map, h]; rfl
noncomputable abbrev yS (rd : W) (x2 x3 x4 : Option W) : MSt := [some rd, some (.ref 0), x2, x3, x4]
theorem Ym {rd : W} {M : List Mv} {G : Gs} {Ls : List (List Qu)} (I : WB M G Ls) (m : Mv) (hG1 : G.length ≤ 100000) (hl : M.length ≤ 100000) :
    ∃ G' Ls', WB (M ++ [m]) G' Ls' ∧ G'.length ≤ G.length + 1 ∧ Ls'.length = Ls.length + 1 ∧ ZB (yS rd (some (sW m.1)) (some (.int m.2.1)) (some (sW m.2.2))) (hG G Ls) = some (.nx (yS rd (some (sW m.1)) (some (.int m.2.1)) (some (sW m.2.2))) (hG G' Ls')) := by
  have wl : ∀ q, (wa M q).length < sizeLine := fun q => Nat.lt_of_le_of_lt (Nat.le_trans (by unfold wa; rw [List.length_map]; exact List.length_filter_le _ _) hl) (by decide)
  have e0 : ∀ G Ls, (hG G Ls)[0]? = some (.dct (dG G)) := fun _ _ => rfl
  have e00 : ∀ G Ls (h : 0 < (hG G Ls).length), (hG G Ls)[0] = .dct (dG G) := fun _ _ _ => rfl
  have ed : ∀ G Ls, Uj (hG G Ls) (.ref 0) = some (dG G) := fun _ _ => rfl
  rcases I.step m with ⟨g, hg, hq, hlt, I', hat⟩ | ⟨hk, I'⟩
  · refine ⟨G, _, I', by omega, by simp, ?_⟩
    have es : Qav (.ref 0) [kW (ky m), .ref (Ls.length + 1)] (hG G (Ls ++ [[]])) = some (.ref (g.2 + 1), hG G (Ls ++ [[]])) := by
      unfold Qav
      simp only [ed, Yr, Option.bind_some, QaS, Qb0 I.nk hg hq, Option.map_some]
    simp only [kW, ky] at es
    have ea := QaU (G := G) hat
    have es2 := GN (G := G) (Ls := Ls ++ [[]]) (i := g.2) (l := wa M (ky m)) (w := m.2.2)
    simp [Gx, GZ, es, ea, es2, wl, tyW, e00]
  · refine ⟨_, _, I', by simp, by simp, ?_⟩
    have hz : (dG G).length < sizeLine := Nat.lt_of_le_of_lt (by simpa [dG] using hG1) (by decide)
    have es : Qav (.ref 0) [kW (ky m), .ref (Ls.length + 1)] (hG G (Ls ++ [[]])) = some (.ref (Ls.length + 1), hG (G ++ [(ky m, Ls.length)]) (Ls ++ [[]])) := by
      unfold Qav
      simp only [ed, Yr, Option.bind_some, QaS, GX hk, Option.map_none]
      unfold JH
      simp only [e0, Yr, Option.bind_some]
      rw [if_pos hz]
      have : Go (dG G) (kT (ky m)) (kW (ky m)) (.ref (Ls.length + 1)) = dG (G ++ [(ky m, Ls.length)]) := by
        unfold Go
        rw [QaS, GX hk]
        simp [dG]
      rw [this]
      rfl
    simp only [kW, ky] at es
    have ea := QaU (G := G ++ [(ky m, Ls.length)]) (Ls := Ls ++ [[]]) (i := Ls.length) (l := []) (by simp)
    have es2 := GN (G := G ++ [(ky m, Ls.length)]) (Ls := Ls ++ [[]]) (i := Ls.length) (l := []) (w := m.2.2)
    simp only [List.map_nil, List.nil_append, ky] at es2 ea
    have z0 : 0 < sizeLine := by decide
    have ea' : ∀ (h : Ls.length + 1 < (hG (G ++ [((m.1, m.2.1), Ls.length)]) (Ls ++ [[]])).length), (hG (G ++ [((m.1, m.2.1), Ls.length)]) (Ls ++ [[]]))[Ls.length + 1] = .lst [] := fun h => (List.getElem?_eq_some_iff.mp ea).2
    simp [Gx, GZ, es, ea', es2, z0, tyW, e00, ky]
noncomputable def dP (M : List Mv) (P : List Ky) : List (W × W) := P.map fun q => (kW q, .lst ((wa M q).map sW))
theorem Qdv {M : List Mv} {P : List Ky} (hP : ∀ m ∈ M, (ky m) ∈ P) {q : Ky} : (Vf (dP M P) (kT q)).getD (.lst []) = .lst ((wa M q).map sW) := by
  by_cases h : q ∈ P
  · have : Vf (dP M P) (kT q) = some (.lst ((wa M q).map sW)) := by
      clear hP
      unfold Vf dP
      induction P with
      | nil => cases h
      | cons x P ih =>
        rw [List.map_cons, List.find?_cons]
        by_cases e : x = q
        · subst e; simp
        · have : ¬ kT x = kT q := fun z => e (Wp z)
          simp only [Yr, Option.some.injEq, this, decide_false]
          exact ih (by rcases List.mem_cons.mp h with z | z; exact absurd z.symm e; exact z)
    rw [this]; rfl
  · have hn : wa M q = [] := by
      unfold wa
      rw [List.map_eq_nil_iff, List.filter_eq_nil_iff]
      intro m hm
      simp
      exact fun z => h (by rw [← z]; exact hP m hm)
    have : Vf (dP M P) (kT q) = none := by
      unfold Vf dP
      rw [Option.map_eq_none_iff, List.find?_eq_none]
      intro x hx
      obtain ⟨y, hy, rfl⟩ := List.mem_map.mp hx
      simp
      exact fun z => h (by rw [← Wp z]; exact hy)
    rw [this, hn]; rfl
theorem Gk {E : List Qu} {M : List Mv} (hl : M.length ≤ 100000) : ∃ P : List Ky, (∀ m ∈ M, (ky m) ∈ P) ∧ ∀ h : MH, QK [rdW E M] h = some (.ref h.length, h ++ [.dct (dP M P)]) := by
  have loop := Z9 (items := M.map mW) (b := Z8 [2, 3, 4]) (body := ZB) (fun n σ h => ∃ (G : Gs) (Ls : List (List Qu)) (x2 x3 x4 : Option W), σ = yS (rdW E M) x2 x3 x4 ∧ h = hG G Ls ∧ WB (M.take n) G Ls ∧ G.length ≤ n)
    (M.map mW) 0 (yS (rdW E M) none none none) (hG [] []) ⟨[], [], none, none, none, rfl, rfl, ⟨by simp, by simp, by simp, by simp⟩, Nat.le_refl _⟩ (by
      rintro j w hj σ h ⟨G, Ls, x2, x3, x4, rfl, rfl, I, hGl⟩
      rw [List.getElem?_map] at hj
      obtain ⟨m, hm, rfl⟩ := Option.map_eq_some_iff.mp hj
      have hjl := (List.getElem?_eq_some_iff.mp hm).1
      rw [Nat.zero_add] at *
      obtain ⟨G', Ls', I', l1, _, e⟩ := Ym (rd := rdW E M) I m (by omega) (by rw [List.length_take]; omega)
      refine ⟨yS (rdW E M) (some (sW m.1)) (some (.int m.2.1)) (some (sW m.2.2)), rfl, _, _, .inl e, G', Ls', _, _, _, rfl, rfl, ?_, by omega⟩
      rw [List.take_succ, hm]
      exact I')
  obtain ⟨σ', h', e1, G, Ls, x2, x3, x4, rfl, rfl, I, hGl⟩ := loop
  rw [List.length_map, Nat.zero_add, List.take_length] at I
  refine ⟨G.map (·.1), I.all, fun h => ?_⟩
  show box frR QV _ _ = _
  unfold box
  rw [Vy (by simp), Option.bind_some]
  unfold Qby
  rw [if_pos List.nodup_nil]
  have ei : ∀ (h : MH), QZ (Ql wIx (Qg 0) (mC (.int 1))) (yS (rdW E M) none none none) h = some (M.map mW, none, h) := fun _ => rfl
  have e : QV [rdW E M] [] = some (.ref 0, hG G Ls) := by
    simp only [yS, hG] at e1 ei
    simp [dG] at e1
    simp [QV, Vj, JM, Wz, ei, e1, hG, dG]
  simp only [Q6, Option.bind_some, e]
  rw [if_pos ⟨by simp [frR], by simp [frR]⟩]
  have key : ∀ (G' : Gs), (∀ g ∈ G', Ls[g.2]? = some (wa M g.1)) → ths (res (Vg [] [0] h.length) (hG G Ls) 3) ((dG G').map (·.2)) = some ((dP M (G'.map (·.1))).map (·.2)) := by
    intro G'
    induction G' with
    | nil => intro _; rfl
    | cons g G' ih =>
      intro hh
      have := ih fun x hx => hh x (List.mem_cons_of_mem _ hx)
      unfold dG dP at this ⊢
      rw [List.map_cons, List.map_cons, ths, this]
      have ea := QaU (G := G) (hh g List.mem_cons_self)
      have : th (res (Vg [] [0] h.length) (hG G Ls) 3) (.ref (g.2 + 1)) = some (.lst ((wa M g.1).map sW)) := by
        have hp : ths (res (Vg [] [0] h.length) (hG G Ls) 2) ((wa M g.1).map sW) = some ((wa M g.1).map sW) := Zu _ _ (Zx (fun a => Qad) _)
        unfold th res
        simp [Vg, ea, hp]
      rw [this]
      rfl
  have k := key G I.at_
  have hd : thO (res (Vg [] [0] h.length) (hG G Ls) 3) (.dct (dG G)) = some (.dct (dP M (G.map (·.1)))) := by
    unfold thO
    dsimp only
    rw [k]
    have : ((dG G).map (·.1)).zip ((dP M (G.map (·.1))).map (·.2)) = dP M (G.map (·.1)) := by
      unfold dG dP
      clear k key e e1 ei I hGl
      induction G with
      | nil => rfl
      | cons g G ih => simp at ih ⊢; exact ih
    simp [this]
  have h0 : (hG G Ls)[0]? = some (.dct (dG G)) := rfl
  simp [frR, th, res, Vg, Q6, QC, h0] at hd ⊢
  rw [hd]
  rfl
end My

namespace My
open PySem PySem.Spec PyProof.Rows L2 Mi
theorem K6 {items : List W} {src : Option Src} {b : MG} {body : SM} (P : Nat → MSt → MH → Prop) (hlv : ∀ n σ h, P n σ h → live src items h) : ∀ (r : List W) (n : Nat) (σ : MSt) (h : MH), P n σ h →
    (∀ (j : Nat) (w : W), r[j]? = some w → ∀ σ h, P (n + j) σ h → ∃ σ1, b w σ h = some σ1 ∧ ∃ σ2 h2, (body σ1 h = some (.nx σ2 h2) ∨ body σ1 h = some (.ct σ2 h2)) ∧ P (n + j + 1) σ2 h2) →
    ∃ σ' h', Jl items src b body r σ h = some (.nx σ' h') ∧ P (n + r.length) σ' h'
  | [], n, σ, h, hp, _ => ⟨σ, h, by rw [Jl, if_pos (hlv _ _ _ hp)], hp⟩
  | w :: r, n, σ, h, hp, hs => by
    obtain ⟨σ1, e1, σ2, h2, e2, p2⟩ := hs 0 w rfl σ h hp
    obtain ⟨σ', h', e3, p3⟩ := K6 (items := items) (src := src) (b := b) (body := body) P hlv r (n + 1) σ2 h2 p2 fun j x hx σ h hp => by
      have := hs (j + 1) x (by simpa using hx) σ h (by rw [show n + (j + 1) = n + 1 + j by omega]; exact hp)
      rw [show n + (j + 1) + 1 = n + 1 + j + 1 by omega] at this
      exact this
    refine ⟨σ', h', ?_, by rw [List.length_cons, show n + (r.length + 1) = n + 1 + r.length by omega]; exact p3⟩
    rw [Jl, if_pos (hlv _ _ _ hp), e1, Option.bind_some]
    rcases e2 with e2 | e2 <;> rw [e2] <;> exact e3
noncomputable def ins (F : List Qu) (s : Qu) : List Qu := if s ∈ F then F else F ++ [s]
noncomputable def stp (M : List Mv) (l : Int) (R : List Qu) : List Qu := R.foldl (fun F s => (wa M (s, l)).foldl ins F) []
noncomputable def fwd (M : List Mv) (ls : List Int) (R : List Qu) : List Qu := ls.foldl (fun R l => stp M l R) R
theorem ins_mem {F : List Qu} {s x : Qu} : x ∈ ins F s ↔ x ∈ F ∨ x = s := by
  unfold ins
  split
  · rename_i h
    exact ⟨.inl, fun z => z.elim id fun e => by rw [e]; exact h⟩
  · simp
theorem KF : ∀ {L F : List Qu} {x : Qu}, x ∈ L.foldl ins F ↔ x ∈ F ∨ x ∈ L
  | [], F, x => by simp
  | s :: L, F, x => by
    rw [List.foldl_cons, KF, ins_mem, List.mem_cons]
    exact or_assoc
structure FI (M : List Mv) (F : List Qu) : Prop where
  nd : F.Nodup
  sub : ∀ x ∈ F, x ∈ M.map (·.2.2)
theorem FI.len {M : List Mv} {F : List Qu} (h : FI M F) : F.length ≤ M.length := by
  have := Sb.len_sub F (M.map (·.2.2)) h.nd h.sub
  rwa [List.length_map] at this
theorem FI.ins {M : List Mv} {F : List Qu} (h : FI M F) {s : Qu} (hs : s ∈ M.map (·.2.2)) : FI M (ins F s) := by
  unfold My.ins
  split
  · exact h
  · rename_i hx
    refine ⟨?_, fun x hx => ?_⟩
    · rw [List.nodup_append]
      exact ⟨h.nd, by simp, fun u hu v hv e => hx (by rw [List.mem_singleton.mp hv] at e; rw [← e]; exact hu)⟩
    · rcases List.mem_append.mp hx with z | z
      · exact h.sub x z
      · rw [List.mem_singleton.mp z]; exact hs
theorem FI.insL {M : List Mv} : ∀ {L F : List Qu}, FI M F → (∀ s ∈ L, s ∈ M.map (·.2.2)) → FI M (L.foldl My.ins F)
  | [], _, h, _ => h
  | s :: L, F, h, hs => FI.insL (L := L) (F := My.ins F s) (h.ins (hs _ List.mem_cons_self)) fun s hm => hs s (List.mem_cons_of_mem _ hm)
theorem wa_mem {M : List Mv} {q : Ky} {x : Qu} : x ∈ wa M q ↔ (q.1, q.2, x) ∈ M := by
  unfold wa
  rw [List.mem_map]
  constructor
  · rintro ⟨m, hm, rfl⟩
    rw [List.mem_filter] at hm
    obtain ⟨h1, h2⟩ := hm
    have h2 : ky m = q := by simpa using h2
    subst h2
    exact h1
  · intro h
    exact ⟨_, List.mem_filter.mpr ⟨h, by simp [ky]⟩, rfl⟩
theorem GL {M : List Mv} {q : Ky} : ∀ s ∈ wa M q, s ∈ M.map (·.2.2) := fun s hs => List.mem_map.mpr ⟨_, wa_mem.mp hs, rfl⟩
theorem Qey {M : List Mv} {l : Int} : ∀ {R F : List Qu}, FI M F → FI M (R.foldl (fun F s => (wa M (s, l)).foldl ins F) F)
  | [], _, h => h
  | s :: R, F, h => Qey (R := R) (F := (wa M (s, l)).foldl ins F) (h.insL GL)
theorem KG {M : List Mv} {l : Int} {x : Qu} : ∀ {R F : List Qu}, x ∈ R.foldl (fun F s => (wa M (s, l)).foldl ins F) F ↔ x ∈ F ∨ ∃ s ∈ R, (s, l, x) ∈ M
  | [], F => by simp
  | s :: R, F => by
    rw [List.foldl_cons, KG, KF, wa_mem, or_assoc]
    simp
theorem stp_mem {M : List Mv} {l : Int} {x : Qu} {R : List Qu} : x ∈ stp M l R ↔ ∃ s ∈ R, (s, l, x) ∈ M := by
  unfold stp
  rw [KG]
  simp
noncomputable def bwd (M : List Mv) : List Int → List Qu → List Qu
  | [], E => E
  | l :: ls, E => (M.filter fun m => decide (m.2.1 = l) && decide (m.2.2 ∈ bwd M ls E)).map (·.1)
theorem bwd_mem {M : List Mv} {l : Int} {ls : List Int} {E : List Qu} {x : Qu} : x ∈ bwd M (l :: ls) E ↔ ∃ y ∈ bwd M ls E, (x, l, y) ∈ M := by
  show x ∈ (M.filter fun m => decide (m.2.1 = l) && decide (m.2.2 ∈ bwd M ls E)).map (·.1) ↔ _
  rw [List.mem_map]
  constructor
  · rintro ⟨m, hm, rfl⟩
    rw [List.mem_filter] at hm
    obtain ⟨h1, h2⟩ := hm
    rw [Bool.and_eq_true, decide_eq_true_eq, decide_eq_true_eq] at h2
    obtain ⟨h2, h3⟩ := h2
    subst h2
    exact ⟨_, h3, h1⟩
  · rintro ⟨y, hy, hm⟩
    exact ⟨_, List.mem_filter.mpr ⟨hm, by simpa using hy⟩, rfl⟩
theorem WT {M : List Mv} {E : List Qu} : ∀ (ls : List Int) (R : List Qu), (∃ e ∈ E, e ∈ fwd M ls R) ↔ ∃ s ∈ R, s ∈ bwd M ls E
  | [], R => ⟨fun ⟨e, h1, h2⟩ => ⟨e, h2, h1⟩, fun ⟨e, h1, h2⟩ => ⟨e, h2, h1⟩⟩
  | l :: ls, R => by
    have ih := WT (M := M) (E := E) ls (stp M l R)
    show (∃ e ∈ E, e ∈ fwd M ls (stp M l R)) ↔ _
    rw [ih]
    constructor
    · rintro ⟨y, h1, h2⟩
      obtain ⟨s, s1, s2⟩ := stp_mem.mp h1
      exact ⟨s, s1, bwd_mem.mpr ⟨y, h2, s2⟩⟩
    · rintro ⟨s, s1, s2⟩
      obtain ⟨y, h1, h2⟩ := bwd_mem.mp s2
      exact ⟨y, stp_mem.mpr ⟨s, s1, h2⟩, h1⟩
noncomputable def kvT (R : List Qu) : List (W × W) := R.map fun s => (sW s, W.bl true)
theorem Qbe {s : Qu} : ∀ {R : List Qu}, Vf (kvT R) (sT s) = if s ∈ R then some (.bl true) else none
  | [] => rfl
  | x :: R => by
    have ih := Qbe (s := s) (R := R)
    unfold Vf kvT at ih ⊢
    rw [List.map_cons, List.find?_cons]
    by_cases e : x = s
    · subst e; simp
    · have ne : ¬ sT x = sT s := fun z => e (GA z)
      have ne' : ¬ s = x := fun z => e z.symm
      simp only [Uf, Option.some.injEq, ne, decide_false]
      rw [ih]
      simp [ne']
theorem Qea {s : Qu} {R : List Qu} : Go (kvT R) (sT s) (sW s) (.bl true) = kvT (ins R s) := by
  unfold Go
  rw [Qbe]
  unfold ins
  by_cases h : s ∈ R
  · rw [if_pos h, if_pos (show (some (W.bl true)).isSome = true from rfl), if_pos h]
    unfold kvT
    rw [List.map_map]
    apply List.map_congr_left
    intro x hx
    simp only [Function.comp]
    split <;> rfl
  · rw [if_neg h, if_neg (by simp), if_neg h]
    simp [kvT]
theorem GD {s : Qu} {R : List Qu} {n : Nat} {h : MH} (hn : h[n]? = some (.dct (kvT R))) (hl : R.length < sizeLine) : JH (.ref n) (sW s) (.bl true) h = some (h.set n (.dct (kvT (ins R s)))) := by
  unfold JH
  simp only [hn, Uf, Option.bind_some]
  rw [if_pos (by simpa [kvT] using hl), Qea]
theorem QaX {h : MH} {a b : MO} : (h ++ [a]).set h.length b = h ++ [b] := by simp
end My

namespace My
open PySem PySem.Spec PyProof.Rows L2 Mi
@[simp] theorem Qe3 {mo mi mv : ME} {σ : MSt} {h : MH} : QaA mo mi mv σ h = @ob _ _ (fun v => @ob _ _ (fun o => @ob _ _ (fun i => @om _ _ (fun h' => .nx σ h') (JH o.1 i.1 v.1 i.2)) (mi σ o.2)) (mo σ v.2)) (mv σ h) := id rfl
theorem szN {n : Nat} (h : n ≤ 100000) : n < sizeLine := Nat.lt_of_le_of_lt h (by decide)
noncomputable abbrev tS (rd s0 pa : W) (r : Nat) (l f st ot : Option W) : MSt := [some rd, some s0, some pa, some (.ref 0), some (.ref r), l, f, st, ot]
section
variable {rd s0 pa : W} {E : List Qu} {M : List Mv} {P : List Ky}
theorem Wb (hM : M.length ≤ 30) {r : Nat} {l : Int} {h0 : MH} {s : Qu} {F : List Qu} {ot : Option W} (hP : ∀ m ∈ M, ky m ∈ P) (hd : h0[0]? = some (.dct (dP M P))) (hF : FI M F) :
    ∃ ot', Q7 (tS rd s0 pa r (some (.int l)) (some (.ref h0.length)) (some (sW s)) ot) (h0 ++ [.dct (kvT F)]) = some (.nx (tS rd s0 pa r (some (.int l)) (some (.ref h0.length)) (some (sW s)) ot') (h0 ++ [.dct (kvT ((wa M (s, l)).foldl ins F))])) := by
  have hlt : 0 < h0.length := (List.getElem?_eq_some_iff.mp hd).1
  have hd' : ∀ x : MO, (h0 ++ [x])[0]? = some (.dct (dP M P)) := fun x => by rw [List.getElem?_append_left hlt]; exact hd
  have loop := Z9 (items := (wa M (s, l)).map sW) (b := Jd 8) (body := Vl) (fun n σ h => ∃ ot', σ = tS rd s0 pa r (some (.int l)) (some (.ref h0.length)) (some (sW s)) ot' ∧ h = h0 ++ [.dct (kvT (((wa M (s, l)).take n).foldl ins F))])
    ((wa M (s, l)).map sW) 0 (tS rd s0 pa r (some (.int l)) (some (.ref h0.length)) (some (sW s)) ot) (h0 ++ [.dct (kvT F)]) ⟨ot, rfl, rfl⟩ (by
      rintro j w hj σ h ⟨ot', rfl, rfl⟩
      rw [List.getElem?_map] at hj
      obtain ⟨x, hx, rfl⟩ := Option.map_eq_some_iff.mp hj
      rw [Nat.zero_add] at *
      have hFI : FI M (((wa M (s, l)).take j).foldl ins F) := hF.insL fun y hy => GL y (List.mem_of_mem_take hy)
      have hlen := hFI.len
      have pu := GD (s := x) (n := h0.length) (h := h0 ++ [.dct (kvT (((wa M (s, l)).take j).foldl ins F))]) (by simp) (szN (n := (((wa M (s, l)).take j).foldl ins F).length) (by omega))
      rw [QaX] at pu
      refine ⟨tS rd s0 pa r (some (.int l)) (some (.ref h0.length)) (some (sW s)) (some (sW x)), rfl, tS rd s0 pa r (some (.int l)) (some (.ref h0.length)) (some (sW s)) (some (sW x)), _, .inl ?_, some (sW x), rfl, rfl⟩
      rw [List.take_succ, hx, List.foldl_append]
      simp [tS, pu])
  obtain ⟨σ', h', e1, ot', rfl, rfl⟩ := loop
  rw [List.length_map, Nat.zero_add, List.take_length] at e1
  refine ⟨ot', ?_⟩
  have eg : XT (.ref 0) [.tup [sW s, .int l], .lst []] (h0 ++ [.dct (kvT F)]) = some (.lst ((wa M (s, l)).map sW), h0 ++ [.dct (kvT F)]) := by
    have e2 : Uj (h0 ++ [.dct (kvT F)]) (.ref 0) = some (dP M P) := by simp only [Uj, hd']
    have e3 : nrm (.tup [sW s, .int l]) = some (kT (s, l)) := Yr (k := (s, l))
    unfold XT
    simp only [e2, e3, Option.bind_some, Option.map_some]
    rw [Qdv hP]
  have et : tyW (h0 ++ [.dct (kvT F)]) "dict" (.ref 0) = true := by simp only [tyW, hd']; rfl
  have ei : QZ (mMt "dict" XT (Qg 3) (Qd (mFn Vr (Qd (Qg 7) (Qd (Qg 5) Qt))) (Qd (mFn Ug Qt) Qt))) (tS rd s0 pa r (some (.int l)) (some (.ref h0.length)) (some (sW s)) ot) (h0 ++ [.dct (kvT F)]) = some ((wa M (s, l)).map sW, none, h0 ++ [.dct (kvT F)]) := by
    have e4 : mMt "dict" XT (Qg 3) (Qd (mFn Vr (Qd (Qg 7) (Qd (Qg 5) Qt))) (Qd (mFn Ug Qt) Qt)) (tS rd s0 pa r (some (.int l)) (some (.ref h0.length)) (some (sW s)) ot) (h0 ++ [.dct (kvT F)]) = some (.lst ((wa M (s, l)).map sW), h0 ++ [.dct (kvT F)]) := by
      simp [tS, et, eg]
    unfold QZ
    rw [e4]
    rfl
  unfold Q7 JM
  rw [ei, Option.bind_some]
  exact e1
theorem X3 (hM : M.length ≤ 30) {r : Nat} {l : Int} {h : MH} {R : List Qu} {f st ot : Option W} (hP : ∀ m ∈ M, ky m ∈ P) (hd : h[0]? = some (.dct (dP M P))) (hr : h[r]? = some (.dct (kvT R))) :
    ∃ st' ot', Q8 (tS rd s0 pa r (some (.int l)) f st ot) h = some (.nx (tS rd s0 pa h.length (some (.int l)) (some (.ref h.length)) st' ot') (h ++ [.dct (kvT (stp M l R))])) := by
  have hlt : r < h.length := (List.getElem?_eq_some_iff.mp hr).1
  have hr' : ∀ x : MO, (h ++ [x])[r]? = some (.dct (kvT R)) := fun x => by rw [List.getElem?_append_left hlt]; exact hr
  have ek : (kvT R).map (·.1) = R.map sW := by simp [kvT, Function.comp_def]
  have loop := K6 (items := R.map sW) (src := some (.d r)) (b := Jd 7) (body := Q7) (fun n σ h' => ∃ st' ot', σ = tS rd s0 pa r (some (.int l)) (some (.ref h.length)) st' ot' ∧ h' = h ++ [.dct (kvT ((R.take n).foldl (fun F s => (wa M (s, l)).foldl ins F) []))])
    (by
      rintro n σ h' ⟨st', ot', rfl, rfl⟩
      intro z hz
      cases hz
      exact ⟨kvT R, hr' _, ek⟩)
    (R.map sW) 0 (tS rd s0 pa r (some (.int l)) (some (.ref h.length)) st ot) (h ++ [.dct (kvT [])]) ⟨st, ot, rfl, rfl⟩ (by
      rintro j w hj σ h' ⟨st', ot', rfl, rfl⟩
      rw [List.getElem?_map] at hj
      obtain ⟨x, hx, rfl⟩ := Option.map_eq_some_iff.mp hj
      rw [Nat.zero_add] at *
      obtain ⟨ot2, e⟩ := Wb (rd := rd) (s0 := s0) (pa := pa) hM (r := r) (l := l) (h0 := h) (s := x) (F := (R.take j).foldl (fun F s => (wa M (s, l)).foldl ins F) []) (ot := ot') hP hd (Qey ⟨List.nodup_nil, fun _ h => nomatch h⟩)
      refine ⟨_, rfl, _, _, .inl e, _, _, rfl, ?_⟩
      rw [List.take_succ, hx, List.foldl_append]
      rfl)
  obtain ⟨σ', h', e1, st', ot', rfl, rfl⟩ := loop
  rw [List.length_map, Nat.zero_add, List.take_length] at e1
  refine ⟨st', ot', ?_⟩
  have ei : JC (Qg 4) (tS rd s0 pa r (some (.int l)) (some (.ref h.length)) st ot) (h ++ [.dct []]) = some (R.map sW, some (.d r), h ++ [.dct []]) := by
    have ev : Qg 4 (tS rd s0 pa r (some (.int l)) (some (.ref h.length)) st ot) (h ++ [.dct []]) = some (.ref r, h ++ [.dct []]) := rfl
    unfold JC
    rw [ev, Option.bind_some]
    simp only [hr', ek]
  have ef : JM (JC (Qg 4)) (Jd 7) Q7 (tS rd s0 pa r (some (.int l)) (some (.ref h.length)) st ot) (h ++ [.dct []]) = some (.nx (tS rd s0 pa r (some (.int l)) (some (.ref h.length)) st' ot') (h ++ [.dct (kvT (stp M l R))])) := by
    unfold JM
    rw [ei, Option.bind_some]
    exact e1
  unfold Q8
  generalize JM (JC (Qg 4)) (Jd 7) Q7 = fo at ef
  simp only [tS] at ef
  simp [tS, Wz, ef]
theorem UO (hM : M.length ≤ 30) (hE : E.length ≤ 30) (s : Qu) (ls : List Int) (hl : ls.length ≤ 100) (h : MH) : Jf [rdW E M, sW s, .lst (ls.map .int)] h = some (.bl (E.any fun e => decide (e ∈ fwd M ls [s])), h) := by
  obtain ⟨P, hP, em⟩ := Gk (E := E) (M := M) (by omega)
  have loop := Z9 (items := ls.map W.int) (b := Jd 5) (body := Q8) (fun n σ h' => ∃ r l f st ot, σ = tS (rdW E M) (sW s) (.lst (ls.map .int)) r l f st ot ∧ h'[0]? = some (.dct (dP M P)) ∧ h'[r]? = some (.dct (kvT (fwd M (ls.take n) [s]))))
    (ls.map W.int) 0 (tS (rdW E M) (sW s) (.lst (ls.map .int)) 1 none none none none) [.dct (dP M P), .dct (kvT [s])] ⟨1, none, none, none, none, rfl, rfl, rfl⟩ (by
      rintro j w hj σ h' ⟨r, l, f, st, ot, rfl, h1, h2⟩
      rw [List.getElem?_map] at hj
      obtain ⟨x, hx, rfl⟩ := Option.map_eq_some_iff.mp hj
      rw [Nat.zero_add] at *
      obtain ⟨st', ot', e⟩ := X3 (rd := rdW E M) (s0 := sW s) (pa := .lst (ls.map .int)) hM (l := x) (f := f) (st := st) (ot := ot) hP h1 h2
      refine ⟨_, rfl, _, _, .inl e, h'.length, _, _, _, _, rfl, ?_, ?_⟩
      · rw [List.getElem?_append_left (List.getElem?_eq_some_iff.mp h1).1]; exact h1
      · rw [List.take_succ, hx]
        unfold fwd
        rw [List.foldl_append]
        simp)
  obtain ⟨σ', h', e1, r, l, f, st, ot, rfl, h1, h2⟩ := loop
  rw [List.length_map, Nat.zero_add, List.take_length] at h2
  refine ZS (g := h') (by simp [pur, Zs, Zx (e := W.int) (fun _ => rfl)]) ?_ rfl
  have e0 : QK [rdW E M] [] = some (.ref 0, [.dct (dP M P)]) := em []
  have ed : Y7 (Qg 1) (mC (.bl true)) [some (rdW E M), some (sW s), some (.lst (ls.map .int)), some (.ref 0), none, none, none, none, none] [.dct (dP M P)] = some (.ref 1, [.dct (dP M P), .dct (kvT [s])]) := by
    have pu := GD (s := s) (R := []) (n := 1) (h := [.dct (dP M P), .dct []]) rfl (by decide)
    unfold Y7
    show (JH (.ref 1) (sW s) (.bl true) [.dct (dP M P), .dct []]).map _ = _
    rw [pu]
    rfl
  have ei : ∀ h : MH, QZ (Qg 2) (tS (rdW E M) (sW s) (.lst (ls.map .int)) 1 none none none none) h = some (ls.map .int, none, h) := fun _ => rfl
  have ec : Zf V1 (QZ (Ql wIx (Qg 0) (mC (.int 0)))) [none, some 4] (Jd 0) W0 (Ql (GT false) (Qg 0) (Qg 1)) (tS (rdW E M) (sW s) (.lst (ls.map .int)) r l f st ot) h' = some (.lst ((E.map fun e => decide (e ∈ fwd M ls [s])).map .bl), h') := by
    let g : W → W := fun w => match nrm w with | some k => .bl (Vf (kvT (fwd M ls [s])) k).isSome | none => .non
    have := Kr (fin := V1) (mi := QZ (Ql wIx (Qg 0) (mC (.int 0)))) (cp := [none, some 4]) (me := Ql (GT false) (Qg 0) (Qg 1)) (σ := tS (rdW E M) (sW s) (.lst (ls.map .int)) r l f st ot) (h := h') (items := E.map sW) g rfl ⟨_, rfl⟩ (by
      intro w hw
      obtain ⟨e, _, rfl⟩ := List.mem_map.mp hw
      have e2 : Uj h' (.ref r) = some (kvT (fwd M ls [s])) := by simp only [Uj, h2]
      show GT false (sW e) (.ref r) h' = _
      unfold GT
      rw [e2, Option.bind_some, Uf, Option.map_some]
      simp only [g, Uf]
      rfl) (by rw [List.length_map]; exact Nat.le_of_lt (szN (by omega)))
    rw [this, List.map_map, List.map_map]
    have : (g ∘ sW) = (W.bl ∘ fun e => decide (e ∈ fwd M ls [s])) := funext fun e => by
      simp only [Function.comp, g, Uf, Qbe]
      by_cases c : e ∈ fwd M ls [s] <;> simp [c]
    rw [this]
    rfl
  have ea : Qc2 [.lst ((E.map fun e => decide (e ∈ fwd M ls [s])).map .bl)] h' = some (.bl (E.any fun e => decide (e ∈ fwd M ls [s])), h') := by
    have eb : ∀ bs : List Bool, Qbk (bs.map .bl) = some bs := fun bs => by
      induction bs with
      | nil => rfl
      | cons b bs ih => rw [List.map_cons, Qbk, ih]; rfl
    show ((some ((E.map fun e => decide (e ∈ fwd M ls [s])).map W.bl)).bind fun ws => (Qbk ws).map fun bs => (W.bl (bs.any id), h')) = _
    rw [Option.bind_some, eb, Option.map_some, List.any_map]
    rfl
  have ef : JM (QZ (Qg 2)) (Jd 5) Q8 (tS (rdW E M) (sW s) (.lst (ls.map .int)) 1 none none none none) [.dct (dP M P), .dct (kvT [s])] = some (.nx (tS (rdW E M) (sW s) (.lst (ls.map .int)) r l f st ot) h') := by
    unfold JM
    rw [ei, Option.bind_some]
    exact e1
  unfold J0
  generalize JM (QZ (Qg 2)) (Jd 5) Q8 = fo at ef
  generalize Zf V1 (QZ (Ql wIx (Qg 0) (mC (.int 0)))) [none, some 4] (Jd 0) W0 (Ql (GT false) (Qg 0) (Qg 1)) = co at ec
  generalize Y7 (Qg 1) (mC (.bl true)) = di at ed
  rw [List.map_map] at ea
  simp only [tS] at ef ec
  simp [Vj, e0, ed, ef, ec, ea]
end
end My

namespace My
open PySem PySem.Spec PyProof.Rows L2 Mi
theorem VE {fin : List W → MH → Option (W × MH)} {items : List W} {src : Option Src} {b : MG} {mt : MT} {me : ME} {h : MH} (hlv : live src items h) (P : MSt → Prop) (g : W → Bool) (f : W → W) : ∀ (rest acc : List W) (τ : MSt), P τ → (∀ w ∈ rest, ∀ τ, P τ → ∃ τ1, b w τ h = some τ1 ∧ P τ1 ∧ mt τ1 h = some (g w, h) ∧ (g w = true → me τ1 h = some (f w, h))) → acc.length + rest.length ≤ sizeLine → ZC fin items src b mt me rest acc τ h = fin (acc ++ (rest.filter g).map f) h
  | [], acc, τ, _, _, _ => by unfold ZC; rw [if_pos hlv]; simp
  | w :: rest, acc, τ, hp, hs, hl => by
    have hl' : acc.length + (rest.length + 1) ≤ sizeLine := by simpa using hl
    obtain ⟨τ1, e1, p1, e2, e3⟩ := hs w List.mem_cons_self τ hp
    unfold ZC
    rw [if_pos hlv, e1, Option.bind_some, e2, Option.bind_some]
    cases hg : g w with
    | true =>
      simp only [e3 hg, Option.bind_some]
      rw [if_pos (by omega), VE hlv P g f rest (acc ++ [f w]) τ1 p1 (fun x hx => hs x (List.mem_cons_of_mem _ hx)) (by simp; omega)]
      simp [hg]
    | false =>
      simp only
      rw [VE hlv P g f rest acc τ1 p1 (fun x hx => hs x (List.mem_cons_of_mem _ hx)) (by omega)]
      simp [hg]
theorem Wm {fin : List W → MH → Option (W × MH)} {mi : MI} {cp : List (Option Nat)} {b : MG} {mt : MT} {me : ME} {σ : MSt} {h : MH} {items : List W} {src : Option Src} (P : MSt → Prop) (g : W → Bool) (f : W → W) (hi : mi σ h = some (items, src, h)) (hlv : live src items h) (hc : P (GC cp σ)) (hs : ∀ w ∈ items, ∀ τ, P τ → ∃ τ1, b w τ h = some τ1 ∧ P τ1 ∧ mt τ1 h = some (g w, h) ∧ (g w = true → me τ1 h = some (f w, h))) (hl : items.length ≤ sizeLine) : Zf fin mi cp b mt me σ h = fin ((items.filter g).map f) h := by
  unfold Zf
  rw [hi, Option.bind_some, VE hlv P g f items [] _ hc hs (by simpa using hl)]
  simp
noncomputable def Qe1 : W → W
  | .tup (a :: _) => a
  | w => w
@[simp] theorem YZ {s : Qu} : pln (sW s) = true := by simp [sW, pln, VQ]
@[simp] theorem Qd1 {m : Mv} : pln (mW m) = true := by simp [mW, pln, VQ]
@[simp] theorem Qd4 {m : Pr} : pln (pW m) = true := by simp [pW, pln, VQ]
theorem Xv {s : Qu} : dep (sW s) ≤ 4 := by simp [sW, dep, KO]
theorem QdN {s : Mv} : dep (mW s) ≤ 6 := by have a := Xv (s := s.1); have b := Xv (s := s.2.2); simp only [mW, dep, KO]; omega
theorem QdP {s : Pr} : dep (pW s) ≤ 6 := by have b := Xv (s := s.2); simp only [pW, dep, KO]; omega
theorem Qdc {a b : Qu} : eqW (sW a) (sW b) = decide (a = b) := by
  obtain ⟨a1, a2, a3⟩ := a
  obtain ⟨b1, b2, b3⟩ := b
  simp only [sW, eqW, Vi, Bool.and_true]
  rw [Bool.eq_iff_iff]
  simp
theorem QdT {s : Qu} {L : List Qu} : inW (sW s) (L.map sW) = decide (s ∈ L) := by
  induction L with
  | nil => simp [inW]
  | cons t L ih =>
    unfold inW at ih ⊢
    rw [List.map_cons, List.any_cons, ih, Qdc, Bool.eq_iff_iff, Bool.or_eq_true, decide_eq_true_eq, decide_eq_true_eq, decide_eq_true_eq, List.mem_cons]
    constructor
    · rintro (a | a)
      · exact .inl a.symm
      · exact .inr a
    · rintro (a | a)
      · exact .inl a.symm
      · exact .inr a
theorem Vv {α : Type} {e : α → W} (he : ∀ a, pln (e a) = true) (l : List α) : VQ (l.map e) = true := UC he
theorem VC {α : Type} {e : α → W} {n : Nat} (he : ∀ a, dep (e a) ≤ n) (l : List α) : KO (l.map e) ≤ n := Ku fun w hw => by
  obtain ⟨s, _, rfl⟩ := List.mem_map.mp hw
  exact he s
theorem Uo {s : Qu} {L : List Qu} {h : MH} : wIn false (sW s) (.lst (L.map sW)) h = some (.bl (decide (s ∈ L)), h) := by
  rw [Qdu YZ (Vv (fun _ => YZ) L) (Nat.le_trans Xv (by decide)) (Nat.le_trans (VC (fun _ => Xv) L) (by decide)), QdT]
  rfl
theorem Qed {a b : Qu} {h : MH} : wEq (sW a) (sW b) h = some (.bl (decide (a = b)), h) := by rw [Qex YZ YZ (Nat.le_trans Xv (by decide)) (Nat.le_trans Xv (by decide)), Qdc]
noncomputable def bst (M : List Mv) (l : Int) (g : List Qu) : List Qu := (M.filter fun m => decide (m.2.1 = l) && decide (m.2.2 ∈ g)).map (·.1)
theorem K8 {M : List Mv} {E : List Qu} : ∀ ls : List Int, bwd M ls E = ls.foldr (bst M) E
  | [] => rfl
  | l :: ls => by
    rw [List.foldr_cons, ← K8 ls]
    rfl
noncomputable abbrev uS (rd s0 pa : W) (x3 x4 : Option W) : MSt := [some rd, some s0, some pa, x3, x4]
theorem Gi {E : List Qu} {M : List Mv} (hM : M.length ≤ 30) {s0 pa : W} {l : Int} {g : List Qu} {h : MH} : Zf V1 (QZ (Ql wIx (Qg 0) (mC (.int 1)))) [none, none, none, some 4, some 3] (Z8 [0, 1, 2]) (XY (Q4 (Ql wEq (Qg 1) (Qg 3))) (Q4 (Ql (wIn false) (Qg 2) (Qg 4)))) (Qg 0) (uS (rdW E M) s0 pa (some (.lst (g.map sW))) (some (.int l))) h = some (.lst ((bst M l g).map sW), h) := by
  have ec := Wm (fin := V1) (mi := QZ (Ql wIx (Qg 0) (mC (.int 1)))) (cp := [none, none, none, some 4, some 3]) (b := Z8 [0, 1, 2]) (mt := XY (Q4 (Ql wEq (Qg 1) (Qg 3))) (Q4 (Ql (wIn false) (Qg 2) (Qg 4)))) (me := Qg 0) (σ := uS (rdW E M) s0 pa (some (.lst (g.map sW))) (some (.int l))) (h := h) (items := M.map mW) (src := none)
    (fun τ => ∃ a b c, τ = [a, b, c, some (.int l), some (.lst (g.map sW))]) (fun w => match w with | .tup [_, .int k, t] => k == l && inW t (g.map sW) | _ => false) Qe1 rfl (Zp _ _) ⟨_, _, _, rfl⟩ (fun w hw τ ⟨a, b, c, hτ⟩ => by
      subst hτ
      obtain ⟨m, hm, rfl⟩ := List.mem_map.mp hw
      refine ⟨[some (sW m.1), some (.int m.2.1), some (sW m.2.2), some (.int l), some (.lst (g.map sW))], rfl, ⟨_, _, _, rfl⟩, ?_, fun _ => rfl⟩
      by_cases z : m.2.1 = l
      · simp [mW, z, Uo, QdT]
      · simp [mW, z]) (by rw [List.length_map]; exact Nat.le_of_lt (szN (by omega)))
  rw [ec]
  have : ((M.map mW).filter (fun w => match w with | .tup [_, .int k, t] => k == l && inW t (g.map sW) | _ => false)).map Qe1 = (bst M l g).map sW := by
    unfold bst
    clear ec hM
    induction M with
    | nil => rfl
    | cons m M ih =>
      rw [List.map_cons, List.filter_cons, List.filter_cons]
      have e : (match mW m with | .tup [_, .int k, t] => k == l && inW t (g.map sW) | _ => false) = (decide (m.2.1 = l) && decide (m.2.2 ∈ g)) := by
        show (m.2.1 == l && inW (sW m.2.2) (g.map sW)) = _
        rw [QdT]; rfl
      rw [e]
      split
      · rw [List.map_cons, List.map_cons, List.map_cons, ih]; rfl
      · exact ih
  rw [this]
  rfl
theorem Qcx {E : List Qu} {M : List Mv} (hM : M.length ≤ 30) (s : Qu) (ls : List Int) (h : MH) : Zb [rdW E M, sW s, .lst (ls.map .int)] h = some (.bl (decide (s ∈ bwd M ls E)), h) := by
  have loop := Z9 (items := (ls.map W.int).reverse) (b := Jd 4) (body := Q3) (fun n σ h' => ∃ x4, σ = uS (rdW E M) (sW s) (.lst (ls.map .int)) (some (.lst (((ls.reverse.take n).foldl (fun g l => bst M l g) E).map sW))) x4 ∧ h' = [])
    ((ls.map W.int).reverse) 0 (uS (rdW E M) (sW s) (.lst (ls.map .int)) (some (.lst (E.map sW))) none) [] ⟨none, rfl, rfl⟩ (by
      rintro j w hj σ h' ⟨x4, rfl, rfl⟩
      rw [← List.map_reverse, List.getElem?_map] at hj
      obtain ⟨l, hl, rfl⟩ := Option.map_eq_some_iff.mp hj
      rw [Nat.zero_add] at *
      have ec := Gi (E := E) hM (s0 := sW s) (pa := .lst (ls.map .int)) (l := l) (g := (ls.reverse.take j).foldl (fun g l => bst M l g) E) (h := [])
      refine ⟨uS (rdW E M) (sW s) (.lst (ls.map .int)) (some (.lst (((ls.reverse.take j).foldl (fun g l => bst M l g) E).map sW))) (some (.int l)), rfl, _, [], .inl ?_, some (.int l), rfl, rfl⟩
      rw [List.take_succ, hl, List.foldl_append]
      show (Zf _ _ _ _ _ _ _ _).map _ = _
      rw [ec]
      rfl)
  obtain ⟨σ', h', e1, x4, rfl, rfl⟩ := loop
  rw [List.length_reverse, List.length_map, Nat.zero_add, List.take_of_length_le (by simp), List.foldl_reverse] at e1
  refine ZS (g := []) (by simp [pur, Zs, Zx (e := W.int) (fun _ => rfl)]) ?_ rfl
  have ei : ∀ h : MH, Wn (Qd (Qg 2) Qt) (uS (rdW E M) (sW s) (.lst (ls.map .int)) (some (.lst (E.map sW))) none) h = some ((ls.map W.int).reverse, none, h) := fun _ => rfl
  have ef : JM (Wn (Qd (Qg 2) Qt)) (Jd 4) Q3 (uS (rdW E M) (sW s) (.lst (ls.map .int)) (some (.lst (E.map sW))) none) [] = some (.nx (uS (rdW E M) (sW s) (.lst (ls.map .int)) (some (.lst ((bwd M ls E).map sW))) x4) []) := by
    unfold JM
    rw [ei, Option.bind_some, K8]
    exact e1
  have el : mFn JS (Qd (Ql wIx (Qg 0) (mC (.int 0))) Qt) (uS (rdW E M) (sW s) (.lst (ls.map .int)) none none) [] = some (.lst (E.map sW), []) := rfl
  unfold ZF
  generalize JM (Wn (Qd (Qg 2) Qt)) (Jd 4) Q3 = fo at ef
  generalize mFn JS (Qd (Ql wIx (Qg 0) (mC (.int 0))) Qt) = li at el
  simp only [uS] at ef el
  simp [Vj, ef, el, Uo]
noncomputable def prs (M : List Mv) (s : Qu) : List Pr := (M.filter fun m => decide (m.1 = s)).map (·.2)
noncomputable def Qew : W → W
  | .tup [_, a, b] => .tup [a, b]
  | w => w
theorem KH {E : List Qu} {M : List Mv} (hM : M.length ≤ 30) {s : Qu} {σ : MSt} {cp : List (Option Nat)} {h : MH} (h0 : Qg 0 σ h = some (rdW E M, h) ∨ Qg 1 σ h = some (rdW E M, h)) {v : Nat} (hv : Qg v σ h = some (rdW E M, h)) (hc : ∃ a b c, GC cp σ = [a, b, c, some (sW s)]) : Zf V1 (QZ (Ql wIx (Qg v) (mC (.int 1)))) cp (Z8 [0, 1, 2]) (Q4 (Ql wEq (Qg 0) (Qg 3))) (mFn Vr (Qd (Qg 1) (Qd (Qg 2) Qt))) σ h = some (.lst ((prs M s).map pW), h) := by
  have hi : QZ (Ql wIx (Qg v) (mC (.int 1))) σ h = some (M.map mW, none, h) := by
    have : Ql wIx (Qg v) (mC (.int 1)) σ h = some (.lst (M.map mW), h) := (Qb5 hv rfl).trans rfl
    unfold QZ
    rw [this]
    rfl
  have ec := Wm (fin := V1) (mi := QZ (Ql wIx (Qg v) (mC (.int 1)))) (cp := cp) (b := Z8 [0, 1, 2]) (mt := Q4 (Ql wEq (Qg 0) (Qg 3))) (me := mFn Vr (Qd (Qg 1) (Qd (Qg 2) Qt))) (σ := σ) (h := h) (items := M.map mW) (src := none)
    (fun τ => ∃ a b c, τ = [a, b, c, some (sW s)]) (fun w => match w with | .tup [a, _, _] => eqW a (sW s) | _ => false) Qew hi (Zp _ _) hc (fun w hw τ ⟨a, b, c, hτ⟩ => by
      subst hτ
      obtain ⟨m, hm, rfl⟩ := List.mem_map.mp hw
      refine ⟨[some (sW m.1), some (.int m.2.1), some (sW m.2.2), some (sW s)], rfl, ⟨_, _, _, rfl⟩, ?_, fun _ => rfl⟩
      simp [mW, Qed, Qdc]) (by rw [List.length_map]; exact Nat.le_of_lt (szN (by omega)))
  rw [ec]
  have : ((M.map mW).filter (fun w => match w with | .tup [a, _, _] => eqW a (sW s) | _ => false)).map Qew = (prs M s).map pW := by
    unfold prs
    clear ec hM hi hv h0 hc
    induction M with
    | nil => rfl
    | cons m M ih =>
      rw [List.map_cons, List.filter_cons, List.filter_cons]
      have e : (match mW m with | .tup [a, _, _] => eqW a (sW s) | _ => false) = decide (m.1 = s) := by
        show eqW (sW m.1) (sW s) = _
        rw [Qdc]
      rw [e]
      split
      · rw [List.map_cons, List.map_cons, List.map_cons, ih]; rfl
      · exact ih
  rw [this]
  rfl
theorem Y5 {E : List Qu} {M : List Mv} (hM : M.length ≤ 30) (s : Qu) (Q : List Pr) (hQ : ∀ (h : MH) (a : W), lsW h a = some ((prs M s).map pW) → Z3 [a] h = some (.ref h.length, h ++ [.lst (Q.map pW)])) (h : MH) : Zq [rdW E M, sW s] h = some (.tup [.bl (decide (s ∈ E)), .ref h.length], h ++ [.lst (Q.map pW)]) := by
  have e : Zg [rdW E M, sW s] [] = some (.tup [.bl (decide (s ∈ E)), .ref 0], [.lst (Q.map pW)]) := by
    have ec := KH (E := E) hM (s := s) (σ := [some (rdW E M), some (sW s), none]) (cp := [none, none, none, some 1]) (h := []) (.inl rfl) (v := 0) rfl ⟨_, _, _, rfl⟩
    have es := hQ [] (.lst ((prs M s).map pW)) rfl
    have ei : Ql wIx (Qg 0) (mC (.int 0)) [some (rdW E M), some (sW s), some (.lst ((prs M s).map pW))] [] = some (.lst (E.map sW), []) := rfl
    unfold Zg
    generalize Zf V1 (QZ (Ql wIx (Qg 0) (mC (.int 1)))) [none, none, none, some 1] (Z8 [0, 1, 2]) (Q4 (Ql wEq (Qg 0) (Qg 3))) (mFn Vr (Qd (Qg 1) (Qd (Qg 2) Qt))) = co at ec
    generalize Ql wIx (Qg 0) (mC (.int 0)) = ix at ei
    simp only [List.nil_append, List.length_nil] at es
    simp [Vj, ec, ei, es, Uo]
  have hv := Zx (e := pW) (fun _ => Qdk) Q
  show box frT Zg _ _ = _
  unfold box
  rw [Vy (by simp [Zs]), Option.bind_some]
  unfold Qby
  rw [if_pos List.nodup_nil]
  simp only [Q6, Option.bind_some, e]
  rw [if_pos ⟨by simp [frT, Yq], by simp [frT, Yq]⟩]
  have ht : ∀ f, ths f (Q.map pW) = some (Q.map pW) := fun f => Zu _ _ hv
  simp [frT, Yq, th, ths, thO, res, Vg, Q6, QC, ht]
end My

namespace My
open PySem PySem.Spec PyProof.Rows L2 Mi
theorem QaL {i j : Nat} {ws : List W} {h : MH} (hi : h[i]? = some (.lst ws)) (hj : h[j]? = some (.lst ws)) (hp : VQ ws = true) (hd : KO ws ≤ 39) : wNe (.ref i) (.ref j) h = some (.bl false, h) := by
  have e1 : drf h 40 (.ref i) = some (.lst ws) := by
    unfold drf
    simp only [hi, ZP h ws 39 hp hd, Option.map_some]
  have e2 : drf h 40 (.ref j) = some (.lst ws) := by
    unfold drf
    simp only [hj, ZP h ws 39 hp hd, Option.map_some]
  have e3 : eqW (.lst ws) (.lst ws) = true := VH _ (by unfold pln; exact hp)
  unfold wNe
  rw [e1, e2]
  simp [e3]
theorem neB {a : Bool} {h : MH} : wNe (.bl a) (.bl a) h = some (.bl false, h) := by rw [Qfj rfl rfl (by simp [dep]) (by simp [dep])]; simp [eqW]
noncomputable abbrev lS (ns : List Int) (rd kp : W) (x3 x4 x5 x6 x7 x8 x9 x10 x11 x12 : Option W) : MSt := [some (scr ns), some rd, some kp, x3, x4, x5, x6, x7, x8, x9, x10, x11, x12]
theorem QaZ {c : Int} {N : Nat} (hN : N ≤ 60) {σ : MSt} {h : MH} (h6 : Qg 6 σ h = some (.int N, h)) (h4 : ∃ o, GC [none, some 4] σ = [o, some (.int c)]) : ∃ ls : List Int, ls.length ≤ 60 ∧ Zf V1 (Yd (Qd (Qg 6) Qt)) [none, some 4] (Jd 0) W0 (Ql Xc (mC (.int 1)) (Ql Ju (Ql JN (Qg 1) (Ql Xc (mC (.int 12)) (Ql Jg (mC (.int 5)) (Qg 0)))) (mC (.int 2)))) σ h = some (.lst (ls.map .int), h) := by
  let f : W → W := fun w => match w with | .int j => .int (1 + c / (12 + 5 * j) % 2) | w => w
  have ei : Yd (Qd (Qg 6) Qt) σ h = some (Q2 0 N, none, h) := X2 (by rw [QbZ h6 Qdo]) (by omega)
  have ec := Kr (fin := V1) (mi := Yd (Qd (Qg 6) Qt)) (cp := [none, some 4]) (me := Ql Xc (mC (.int 1)) (Ql Ju (Ql JN (Qg 1) (Ql Xc (mC (.int 12)) (Ql Jg (mC (.int 5)) (Qg 0)))) (mC (.int 2)))) (σ := σ) (caps := [some (.int c)]) (h := h) (items := Q2 0 N) f ei h4 (by
    intro w hw
    unfold Q2 at hw
    obtain ⟨i, hi, rfl⟩ := List.mem_map.mp hw
    rw [List.mem_range] at hi
    have d1 : 0 < 12 + 5 * (0 + (i : Int)) := by omega
    have d2 : 12 + 5 * (0 + (i : Int)) < 1073741824 := by omega
    simp only [Int.zero_add] at d1 d2 ⊢
    simp [f, d1, d2]) (by rw [XE]; exact Nat.le_of_lt (szN (by omega)))
  refine ⟨(List.range N).map fun (i : Nat) => 1 + c / (12 + 5 * (i : Int)) % 2, by simpa using hN, ?_⟩
  rw [ec]
  show some (W.lst ((Q2 0 N).map f), h) = _
  congr 3
  unfold Q2
  rw [List.map_map, List.map_map]
  apply List.map_congr_left
  intro i _
  simp [f]
theorem Ge {ns : List Int} (hl : ns.length ≤ 63) {E : List Qu} {M : List Mv} (hE : E.length ≤ 30) (hM : M.length ≤ 30) {kp : W} {k : Nat} (hk : k < 10) {x4 x5 x6 x7 x8 x9 x10 x11 x12 : Option W} {h : MH} :
    ∃ y4 y5 y6 y7 y8 y9 y10 y11 y12 h', ZR (lS ns (rdW E M) kp (some (.int k)) x4 x5 x6 x7 x8 x9 x10 x11 x12) h = some (.nx (lS ns (rdW E M) kp (some (.int k)) y4 y5 y6 y7 y8 y9 y10 y11 y12) h') := by
  obtain ⟨c, hc, ec⟩ := XN ns hl (34 + k) (by omega)
  have ec' : ∀ h, Qn [scr ns, .int (34 + (k : Int))] h = some (.int c, h) := fun h => by have := ec h; push_cast at this; exact this
  obtain ⟨s, es⟩ := XL c
  obtain ⟨N, hN, em⟩ : ∃ N : Nat, N ≤ 60 ∧ ∀ x6 x7 x8 x9 x10 x11 x12, (Ql wIx (mFn Ug (Qd (Ql Ju (Ql JN (Qg 4) (mC (.int 12))) (mC (.int 7))) (Qd (mC (.int 60)) Qt))) (mFn WA (Qd (Ql wEq (Ql Ju (Ql JN (Qg 4) (mC (.int 84))) (mC (.int 8))) (mC (.int 0))) Qt))) (lS ns (rdW E M) kp (some (.int k)) (some (.int c)) (some (sW s)) x6 x7 x8 x9 x10 x11 x12) h = some (.int (N : Int), h) := by
    by_cases z : c / 84 % 8 = 0
    · refine ⟨60, by omega, fun _ _ _ _ _ _ _ => ?_⟩
      simp [lS, z, WA]
    · have b0 : 0 ≤ c / 12 % 7 := Int.emod_nonneg _ (by decide)
      have b1 : c / 12 % 7 < 7 := Int.emod_lt_of_pos _ (by decide)
      refine ⟨(c / 12 % 7).toNat, by omega, fun _ _ _ _ _ _ _ => ?_⟩
      have : ((c / 12 % 7).toNat : Int) = c / 12 % 7 := by omega
      simp [lS, z, WA, this]
  obtain ⟨ls, hls, ep⟩ := QaZ (c := c) hN (σ := lS ns (rdW E M) kp (some (.int k)) (some (.int c)) (some (sW s)) (some (.int N)) x7 x8 x9 x10 x11 x12) (h := h) rfl ⟨_, rfl⟩
  have et := UO (E := E) hM hE s ls (by omega) h
  have ed := Qcx (E := E) hM s ls h
  have eq : (E.any fun e => decide (e ∈ fwd M ls [s])) = decide (s ∈ bwd M ls E) := by
    rw [Bool.eq_iff_iff, List.any_eq_true, decide_eq_true_eq]
    have := WT (M := M) (E := E) ls [s]
    simp only [decide_eq_true_eq]
    rw [this]
    simp
  rw [eq] at et
  obtain ⟨Q, hQl, hQ⟩ := Qct (e := pW) (t := pT) (fun a => ⟨_, rfl⟩) (fun a => QfH) (fun a => Qfh) (prs M s)
  have ea := Y5 (E := E) hM s Q hQ h
  have ecp := fun y8 y9 y10 y11 => KH (E := E) hM (s := s) (σ := lS ns (rdW E M) kp (some (.int k)) (some (.int c)) (some (sW s)) (some (.int N)) (some (.lst (ls.map .int))) y8 y9 y10 y11 x12) (cp := [none, none, none, some 5]) (h := h ++ [.lst (Q.map pW)]) (.inr rfl) (v := 1) rfl ⟨_, _, _, rfl⟩
  have eso := hQ (h ++ [.lst (Q.map pW)]) (.lst ((prs M s).map pW)) rfl
  have hq1 : (h ++ [.lst (Q.map pW)] ++ [.lst (Q.map pW)])[h.length]? = some (.lst (Q.map pW)) := by simp
  have hq2 : (h ++ [.lst (Q.map pW)] ++ [.lst (Q.map pW)])[(h ++ [MO.lst (Q.map pW)]).length]? = some (.lst (Q.map pW)) := List.getElem?_concat_length ..
  have en := QaL hq1 hq2 (Vv (fun _ => Qd4) Q) (Nat.le_trans (VC (fun _ => QdP) Q) (by decide))
  have ein : ∀ h y7 y8 y9 y10 y11 y12, Ql (wIn false) (Qg 5) (Ql wIx (Qg 1) (mC (.int 0))) (lS ns (rdW E M) kp (some (.int k)) (some (.int c)) (some (sW s)) (some (.int N)) y7 y8 y9 y10 y11 y12) h = some (.bl (decide (s ∈ E)), h) := fun h y7 y8 y9 y10 y11 y12 => by
    have e1 : Ql wIx (Qg 1) (mC (.int 0)) (lS ns (rdW E M) kp (some (.int k)) (some (.int c)) (some (sW s)) (some (.int N)) y7 y8 y9 y10 y11 y12) h = some (.lst (E.map sW), h) := rfl
    have e2 : Qg 5 (lS ns (rdW E M) kp (some (.int k)) (some (.int c)) (some (sW s)) (some (.int N)) y7 y8 y9 y10 y11 y12) h = some (sW s, h) := rfl
    exact (Qb5 e2 e1).trans Uo
  have hz : Q.length < sizeLine := szN (Nat.le_trans hQl (Nat.le_trans (by unfold prs; rw [List.length_map]; exact List.length_filter_le _ _) (by omega)))
  have eg : ∀ (a b : W) (y1 y2 y3 y4 y5 y6 y7 y8 y9 y10 y11 y12 y13 : Option W) (h : MH), Z8 [10, 11] (.tup [a, b]) [y1, y2, y3, y4, y5, y6, y7, y8, y9, y10, y11, y12, y13] h = some [y1, y2, y3, y4, y5, y6, y7, y8, y9, y10, some a, some b, y13] := fun _ _ _ _ _ _ _ _ _ _ _ _ _ _ _ _ => rfl
  refine ⟨some (.int c), some (sW s), some (.int N), some (.lst (ls.map .int)), some (.bl (decide (s ∈ bwd M ls E))), some (.tup [.bl (decide (s ∈ E)), .ref h.length]), some (.bl (decide (s ∈ E))), some (.ref h.length), some (.ref (h.length + 1)), (h ++ [MO.lst (Q.map pW), MO.lst (Q.map pW)]).set h.length (MO.lst (Q.map pW ++ [W.int 0])), ?_⟩
  unfold ZR
  generalize Ql wIx (mFn Ug (Qd (Ql Ju (Ql JN (Qg 4) (mC (.int 12))) (mC (.int 7))) (Qd (mC (.int 60)) Qt))) (mFn WA (Qd (Ql wEq (Ql Ju (Ql JN (Qg 4) (mC (.int 84))) (mC (.int 8))) (mC (.int 0))) Qt)) = im at em
  generalize Zf V1 (Yd (Qd (Qg 6) Qt)) [none, some 4] (Jd 0) W0 (Ql Xc (mC (.int 1)) (Ql Ju (Ql JN (Qg 1) (Ql Xc (mC (.int 12)) (Ql Jg (mC (.int 5)) (Qg 0)))) (mC (.int 2)))) = cpa at ep
  generalize Zf V1 (QZ (Ql wIx (Qg 1) (mC (.int 1)))) [none, none, none, some 5] (Z8 [0, 1, 2]) (Q4 (Ql wEq (Qg 0) (Qg 3))) (mFn Vr (Qd (Qg 1) (Qd (Qg 2) Qt))) = cpr at ecp
  generalize Ql (wIn false) (Qg 5) (Ql wIx (Qg 1) (mC (.int 0))) = ii at ein
  simp only [lS] at em ep ecp ein
  simp only [List.append_assoc, List.singleton_append, List.length_append, List.length_singleton] at en eso hq1 hq2
  simp [lS, ec', es, em, ep, et, ed, ea, ecp, eso, ein, en, neB, Gf, JX, hq1, hz, tyW, eg]
end My

namespace My
open PySem PySem.Spec PyProof.Rows L2 Mi
theorem main (ns : List Int) (hl : ns.length ≤ 63) : ∃ h', Jx [.frz (ns.map W.int)] [] = some (.bl true, h') := by
  obtain ⟨E, M, hE, hM, er⟩ := YT ns hl
  have loop := Z9 (items := Q2 0 10) (b := Jd 3) (body := ZR) (fun _ σ _ => ∃ y3 y4 y5 y6 y7 y8 y9 y10 y11 y12, σ = lS ns (rdW E M) (rdW E M) y3 y4 y5 y6 y7 y8 y9 y10 y11 y12) (Q2 0 10) 0 (lS ns (rdW E M) (rdW E M) none none none none none none none none none none) [] ⟨_, _, _, _, _, _, _, _, _, _, rfl⟩ (by
    rintro i w hi σ h ⟨y3, y4, y5, y6, y7, y8, y9, y10, y11, y12, rfl⟩
    obtain ⟨hil, rfl⟩ := K3 hi
    obtain ⟨z4, z5, z6, z7, z8, z9, z10, z11, z12, h', e⟩ := Ge hl hE hM (kp := rdW E M) hil (x4 := y4) (x5 := y5) (x6 := y6) (x7 := y7) (x8 := y8) (x9 := y9) (x10 := y10) (x11 := y11) (x12 := y12) (h := h)
    exact ⟨_, rfl, _, h', .inl e, _, _, _, _, _, _, _, _, _, _, rfl⟩)
  obtain ⟨σ', h', el, y3, y4, y5, y6, y7, y8, y9, y10, y11, y12, rfl⟩ := loop
  refine ⟨h', ?_⟩
  have ef : JM (Yd (Qd (mC (.int 10)) Qt)) (Jd 3) ZR (lS ns (rdW E M) (rdW E M) none none none none none none none none none none) [] = some (.nx (lS ns (rdW E M) (rdW E M) y3 y4 y5 y6 y7 y8 y9 y10 y11 y12) h') := by
    unfold JM
    rw [X2 (j := 10) rfl (by decide), Option.bind_some]
    exact el
  have ek : mFn Vr (Qd (mFn JS (Qd (Ql wIx (Qg 1) (mC (.int 0))) Qt)) (Qd (mFn JS (Qd (Ql wIx (Qg 1) (mC (.int 1))) Qt)) Qt)) [some (.frz (ns.map .int)), some (rdW E M), none, none, none, none, none, none, none, none, none, none, none] [] = some (rdW E M, []) := rfl
  have eq : wEq (rdW E M) (rdW E M) h' = some (.bl true, h') := by
    have hp : pln (rdW E M) = true := by
      have h1 := Vv (e := sW) (fun _ => YZ) E
      have h2 := Vv (e := mW) (fun _ => Qd1) M
      simp [rdW, pln, VQ, h1, h2]
    have hd : dep (rdW E M) ≤ 40 := by
      have h1 := VC (e := sW) (fun _ => Xv) E
      have h2 := VC (e := mW) (fun _ => QdN) M
      simp only [rdW, dep, KO]
      omega
    rw [Qex hp hp hd hd, VH _ hp]
  have er' : QE [.frz (ns.map .int)] [] = some (rdW E M, []) := er []
  unfold Jx
  generalize JM (Yd (Qd (mC (.int 10)) Qt)) (Jd 3) ZR = fo at ef
  generalize mFn Vr (Qd (mFn JS (Qd (Ql wIx (Qg 1) (mC (.int 0))) Qt)) (Qd (mFn JS (Qd (Ql wIx (Qg 1) (mC (.int 1))) Qt)) Qt)) = ku at ek
  simp only [lS, scr] at ef
  simp [Vj, er', ek, ef, eq]
end My

def PySem.W.Fast.tw4111173903762034735 : Unit := ()
def PySem.W.Fast.tw18429231793626240602 : Unit := ()
def PySem.W.Fast.tw3913571660168085182 : Unit := ()
def PySem.W.Fast.tw18255839707781768719 : Unit := ()
def PySem.W.Fast.tw9269436950058659998 : Unit := ()
def PySem.W.Fast.tw14211947638656168151 : Unit := ()
def PySem.W.Fast.tw11480905364357081454 : Unit := ()
def PySem.W.Fast.tw7799362512265388674 : Unit := ()
def PySem.W.Fast.tw4295998028647864513 : Unit := ()
def PySem.W.Fast.tw6112543375698925855 : Unit := ()
def PySem.W.Fast.tw1780618917198430706 : Unit := ()
def PySem.W.Fast.tw13182679659041089347 : Unit := ()
def PySem.W.Fast.tw11670711693598582543 : Unit := ()
def PySem.W.Fast.tw12599057370632245359 : Unit := ()
def PySem.W.Fast.tw667912345795297707 : Unit := ()
open PySem PySem.W PyProof.Rows
set_option maxRecDepth 100000 in
set_option maxHeartbeats 0 in
theorem PySem.Challenge.cw_doneroom_k23_paths_taken_holds : PySem.Challenge.rw_doneroom_k23_paths_taken.Holds := by
  w_on; o_law; k_head; (case hw => w_witness2)
  k_fill
  refine Mi.QdS (l := PySem.Challenge.rw_doneroom_k23_paths_taken) (st := My.JU) (sem := My.Jx) (k := 3) rfl rfl ⟨rfl, by decide, by decide⟩ rfl (fun w h Y => PySem.W.kIn_of Y) (fun _ _ _ _ _ _ _ _ => .of_eq rfl) ?F My.main
  case F =>
    intro w mg h KX G
    have d__law_cell : Mi.DefAt (L2.KOf KX) mg "_law_cell" My.QX ["script", "k"] := by
      dsimp only [L2.KOf]
      refine' Mi.Zj KX G ?a ?l ?c ?k ?b
      (case a => k_is); (case l => k_is); (case c => k_is); (case k => k_is)
      (case b => exact fun _ _ _ _ _ _ us hl => match us, hl with | [_, _], _ => rfl)
    have d__law_seat : Mi.DefAt (L2.KOf KX) mg "_law_seat" My.QY ["cell"] := by
      dsimp only [L2.KOf]
      refine' Mi.Zj KX G ?a ?l ?c ?k ?b
      (case a => k_is); (case l => k_is); (case c => k_is); (case k => k_is)
      (case b => exact fun _ _ _ _ _ _ us hl => match us, hl with | [_], _ => rfl)
    have d__law_reader : Mi.DefAt (L2.KOf KX) mg "_law_reader" My.QI ["script"] := by
      dsimp only [L2.KOf]
      refine' Mi.Zj KX G ?a ?l ?c ?k ?b
      (case a => k_is); (case l => k_is); (case c => k_is); (case k => k_is)
      (case b => exact fun _ _ _ _ _ _ us hl => match us, hl with | [_], _ => rfl)
    have d_moves_of : Mi.DefAt (L2.KOf KX) mg "moves_of" My.Q9 ["reader"] := by
      dsimp only [L2.KOf]
      refine' Mi.Zj KX G ?a ?l ?c ?k ?b
      (case a => k_is); (case l => k_is); (case c => k_is); (case k => k_is)
      (case b => exact fun _ _ _ _ _ _ us hl => match us, hl with | [_], _ => rfl)
    have d_takes : Mi.DefAt (L2.KOf KX) mg "takes" My.ZT ["reader", "seat", "path"] := by
      dsimp only [L2.KOf]
      refine' Mi.Zj KX G ?a ?l ?c ?k ?b
      (case a => k_is); (case l => k_is); (case c => k_is); (case k => k_is)
      (case b => exact fun _ _ _ _ _ _ us hl => match us, hl with | [_, _, _], _ => rfl)
    have d_at_seat : Mi.DefAt (L2.KOf KX) mg "at_seat" My.Q5 ["reader", "seat"] := by
      dsimp only [L2.KOf]
      refine' Mi.Zj KX G ?a ?l ?c ?k ?b
      (case a => k_is); (case l => k_is); (case c => k_is); (case k => k_is)
      (case b => exact fun _ _ _ _ _ _ us hl => match us, hl with | [_, _], _ => rfl)
    have d__law_due : Mi.DefAt (L2.KOf KX) mg "_law_due" My.QQ ["reader", "seat", "path"] := by
      dsimp only [L2.KOf]
      refine' Mi.Zj KX G ?a ?l ?c ?k ?b
      (case a => k_is); (case l => k_is); (case c => k_is); (case k => k_is)
      (case b => exact fun _ _ _ _ _ _ us hl => match us, hl with | [_, _, _], _ => rfl)
    have d_law : Mi.DefAt (L2.KOf KX) mg "law" My.JU ["script"] := by
      dsimp only [L2.KOf]
      refine' Mi.Zj KX G ?a ?l ?c ?k ?b
      (case a => k_is); (case l => k_is); (case c => k_is); (case k => k_is)
      (case b => exact fun _ _ _ _ _ _ us hl => match us, hl with | [_], _ => rfl)
    have b_any : mg "any" = none := by
      refine' PySem.W.mg_none_of KX G ?a
      (case a => k_is)
    have b_bool : mg "bool" = none := by
      refine' PySem.W.mg_none_of KX G ?a
      (case a => k_is)
    have b_int : mg "int" = none := by
      refine' PySem.W.mg_none_of KX G ?a
      (case a => k_is)
    have b_isinstance : mg "isinstance" = none := by
      refine' PySem.W.mg_none_of KX G ?a
      (case a => k_is)
    have b_len : mg "len" = none := by
      refine' PySem.W.mg_none_of KX G ?a
      (case a => k_is)
    have b_list : mg "list" = none := by
      refine' PySem.W.mg_none_of KX G ?a
      (case a => k_is)
    have b_range : mg "range" = none := by
      refine' PySem.W.mg_none_of KX G ?a
      (case a => k_is)
    have b_reversed : mg "reversed" = none := by
      refine' PySem.W.mg_none_of KX G ?a
      (case a => k_is)
    have b_set : mg "set" = none := by
      refine' PySem.W.mg_none_of KX G ?a
      (case a => k_is)
    have b_sorted : mg "sorted" = none := by
      refine' PySem.W.mg_none_of KX G ?a
      (case a => k_is)
    have b_tuple : mg "tuple" = none := by
      refine' PySem.W.mg_none_of KX G ?a
      (case a => k_is)
    exact ⟨d_law, fun base kb nb => My.Qau d__law_cell d__law_seat d__law_reader d_moves_of d_takes d_at_seat d__law_due d_law b_any b_bool b_int b_isinstance b_len b_list b_range b_reversed b_set b_sorted b_tuple⟩
