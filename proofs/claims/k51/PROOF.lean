import PyProof.Rows.All
import Wide.All
import OpenK.AllK
import Wide.FinOn
import Lean
import PyProof.EqAt
import PyProof.EqKinds
import PyProof.TupleCall
import KE.KDictList
import KE.KRevIter
import KE.KTurns
import PyProof.Rows.SetFrom
import PyProof.Rows.SortStr
import PyProof.FactsAll.set
import PyProof.Draws
import PyProof.EnumMake
import PyProof.AttrMissSeq
import KE.KDictOf
import PyProof.Walks
import KE.KSortTup
import KE.KItemsList
import KE.KDictSum
import PySem.Challenge.RW_doneroom_k51_rooms_counted
set_option Elab.async false
set_option bootstrap.genMatcherCode false
set_option linter.all false
set_option maxRecDepth 100000
noncomputable section
/-! THE HAND LAYER, for ints, bools, texts, own classes, LISTS and tuples (index, slices, in, append, pop ..), calls, loops. Paste it whole ahead of your own text; what your proof does not reach may be deleted. -/
namespace L2
open PySem PySem.Spec PyProof.Rows

noncomputable abbrev Key:=Sum Int Str
noncomputable def Gv:Key->Value->Bool
 | .inl k,v=>Value.isInt k v
 | .inr x,v=>Value.isStrOf x v
noncomputable def Qln (w:World):Key->Int
 | .inl k=>hashInt k
 | .inr x=>hashStr w x
theorem Zg:∀ {k:Key} {v:Value},Gv k v=true->(∃ i t,k=Sum.inl i/\v=Value.int i t)\/(∃ x t,k=Sum.inr x/\v=Value.str x t)
 | .inl i,v,h=>by
  obtain ⟨t,e⟩:=Value.isInt_shape (k:=i) (v:=v) h
  exact .inl ⟨i,t,rfl,e⟩
 | .inr x,v,h=>by
  obtain ⟨t,e⟩:=Value.isStrOf_shape (x:=x) (v:=v) h
  exact .inr ⟨x,t,rfl,e⟩
theorem QaT (i:Int) (t:Tok):Gv (.inl i) (.int i t)=true:=by simp [Gv,Value.isInt]
theorem G1 (x:Str) (t:Tok):Gv (.inr x) (.str x t)=true:=by simp [Gv,Value.isStrOf]
theorem QhH (a b:Int):decide ((Sum.inl a:Key)=Sum.inl b)=(a == b):=by
 by_cases e:a=b
 ·subst e;simp
 ·have h:¬ (Sum.inl a:Key)=Sum.inl b:=fun q=>e (Sum.inl.inj q)
  rw [decide_eq_false h]
  exact (beq_eq_false_iff_ne.mpr e).symm
theorem Qhf (a b:Str):decide ((Sum.inr a:Key)=Sum.inr b)=decide (a=b):=by
 by_cases e:a=b
 ·subst e;simp
 ·have h:¬ (Sum.inr a:Key)=Sum.inr b:=fun q=>e (Sum.inr.inj q)
  rw [decide_eq_false h,decide_eq_false e]
theorem QgC (a:Int) (b:Str):decide ((Sum.inl a:Key)=Sum.inr b)=false:=decide_eq_false (fun q=>nomatch q)
theorem QhO (a:Str) (b:Int):decide ((Sum.inr a:Key)=Sum.inl b)=false:=decide_eq_false (fun q=>nomatch q)

noncomputable def JW (prog:Program) (w:World):PySem.KeyKind prog w Key where
 is:=Gv
 hash:=Qln w
 inj:=fun v a b ha hb=>by
  rcases Zg ha with ⟨i,t,rfl,rfl⟩ | ⟨x,t,rfl,rfl⟩
  ·rcases Zg hb with ⟨j,u,rfl,e⟩ | ⟨y,u,rfl,e⟩
   ·injection e with e1 _;rw [e1]
   ·exact nomatch e
  ·rcases Zg hb with ⟨j,u,rfl,e⟩ | ⟨y,u,rfl,e⟩
   ·exact nomatch e
   ·injection e with e1 _;rw [e1]
 byValue:=fun k v h=>by
  rcases Zg h with ⟨i,t,rfl,rfl⟩ | ⟨x,t,rfl,rfl⟩<;>rfl
 pyHash:=fun hv h=>by
  rcases Zg hv with ⟨i,t,rfl,rfl⟩ | ⟨x,t,rfl,rfl⟩
  ·exact wpAny_pyHash_int h
  ·exact wpAny_pyHash_str h
 eqBool:=fun hu hv h=>by
  rcases Zg hu with ⟨i,t,rfl,rfl⟩ | ⟨x,t,rfl,rfl⟩
  ·rcases Zg hv with ⟨j,u,rfl,rfl⟩ | ⟨y,u,rfl,rfl⟩
   ·rw [QhH] at h;exact wpAny_eqBool_int h
   ·rw [QgC] at h;exact SeqAt.EqAt.int_str i t y u _ _ _ _ h
  ·rcases Zg hv with ⟨j,u,rfl,rfl⟩ | ⟨y,u,rfl,rfl⟩
   ·rw [QhO] at h;exact SeqAt.EqAt.str_int x t j u _ _ _ _ h
   ·rw [Qhf] at h;exact wpAny_eqBool_str h
 «strs»:=fun k x t v h=>by
  rcases Zg h with ⟨i,u,rfl,e⟩ | ⟨y,u,rfl,e⟩
  ·exact nomatch e
  ·injection e with e1 _
   subst e1
   cases v<;>rfl

theorem Uf (prog:Program) (w:World) (i:Int) (t:Tok):(JW prog w).is (.inl i) (.int i t)=true:=QaT i t
theorem WN (prog:Program) (w:World) (x:Str) (t:Tok):(JW prog w).is (.inr x) (.str x t)=true:=G1 x t
end L2

namespace L2
open PySem PySem.Spec PyProof.Rows

inductive V where
 | non | bl (b:Bool) | int (i:Int) | str (x:Str) | byt (b:Array UInt8) | flt (b:UInt64) | ref (a:Addr) | ty (n:String)
 deriving DecidableEq

noncomputable def RelV:V->Value->Prop
 | .non,u=>u=Value.none
 | .bl b,u=>u=Value.bool b
 | .int i,u=>∃ t,u=Value.int i t
 | .str x,u=>∃ t,u=Value.str x t
 | .byt b,u=>∃ t,u=Value.bytes b t
 | .flt b,u=>∃ t,u=Value.float b t
 | .ref a,u=>u=Value.ref a
 | .ty n,u=>u=Value.type n

noncomputable abbrev Vals:List V->List Value->Prop:=Paired RelV
theorem Vals.length {xs:List V} {us:List Value} (r:Vals xs us):xs.length=us.length:=Paired.length r
theorem Vals.get:∀ {xs:List V} {us:List Value} {i:Nat} {x:V},Vals xs us->xs[i]?=some x->∃ u,us[i]?=some u/\RelV x u
 | _,_,_,_,.nil,e=>by simp at e
 | _,_,0,_,.cons r _,e=>by simp at e;subst e;exact ⟨_,rfl,r⟩
 | _,_,i+1,x,.cons _ t,e=>by
  obtain ⟨u,h1,h2⟩:=Vals.get (i:=i) (x:=x) t (by simpa using e)
  exact ⟨u,by simpa using h1,h2⟩
theorem Vals.set {x:V} {u:Value} (r:RelV x u):∀ {xs:List V} {us:List Value} (i:Nat),Vals xs us->Vals (xs.set i x) (us.set i u)
 | _,_,_,.nil=>.nil
 | _,_,0,.cons _ t=>.cons r t
 | _,_,i+1,.cons q t=>.cons q (Vals.set r i t)
theorem Vals.append:∀ {xs ys:List V} {us ws:List Value},Vals xs us->Vals ys ws->Vals (xs++ys) (us++ws)
 | _,_,_,_,.nil,s=>s
 | _,_,_,_,.cons r t,s=>.cons r (Vals.append t s)
theorem Vals.take:∀ {xs:List V} {us:List Value} (n:Nat),Vals xs us->Vals (xs.take n) (us.take n)
 | _,_,0,_=>.nil
 | _,_,_+1,.nil=>.nil
 | _,_,n+1,.cons r t=>.cons r (Vals.take n t)
theorem Vals.drop:∀ {xs:List V} {us:List Value} (n:Nat),Vals xs us->Vals (xs.drop n) (us.drop n)
 | _,_,0,r=>r
 | _,_,_+1,.nil=>.nil
 | _,_,n+1,.cons _ t=>Vals.drop n t
noncomputable def RelO:Option V->Option Value->Prop
 | some v,some u=>RelV v u
 | none,none=>True
 | _,_=>False
noncomputable def KV {κ:Type}:List (κ×V)->List (κ×Value)->Prop:=Paired fun (p:κ×V) (q:κ×Value)=>p.1=q.1/\RelV p.2 q.2

inductive Tr where
 | i (n:Int)
 | s (x:Str)
 | t (ks:List Tr)
noncomputable instance trDec:DecidableEq Tr:=fun _ _=>Classical.propDecidable _
noncomputable def IsT (h:Heap):Nat->Tr->Value->Prop
 | 0,_,_=>False
 | _+1,.i k,v=>(∃ t,v=.int k t)\/∃ b:Bool,v=.bool b/\k=if b then 1 else 0
 | _+1,.s x,v=>∃ t,v=.str x t
 | n+1,.t ks,v=>∃ a its,v=.ref a/\h.IsTuple a its/\Paired (IsT h n) ks its.toList
theorem Ut {α β:Type} {F:α->β->Prop} (hi:∀ x y v,F x v->F y v->x=y):∀ {xs ys:List α} {vs:List β},Paired F xs vs->Paired F ys vs->xs=ys
 | _,_,_,.nil,.nil=>rfl
 | _,_,_,.cons a s,.cons b t=>by rw [hi _ _ _ a b,Ut hi s t]
theorem Ue {h:Heap} {n:Nat} {x:Tr} {a:Addr} (hx:IsT h n x (.ref a)):∃ m ks its,n=m+1/\x=.t ks/\h.IsTuple a its/\Paired (IsT h m) ks its.toList:=by
 cases n with
 | zero=>exact hx.elim
 | succ n=>
  cases x with
  | i k=>rcases hx with ⟨t,e⟩ | ⟨b,e,_⟩<;>cases e
  | s y=>obtain ⟨t,e⟩:=hx;cases e
  | t ks=>obtain ⟨a',its,e,p,q⟩:=hx;cases e;exact ⟨n,ks,its,rfl,rfl,p,q⟩
theorem W4 {h:Heap} {a:Addr} {x y:Array Value} (hx:h.IsTuple a x) (hy:h.IsTuple a y):x=y:=by
 obtain ⟨o,h1,_,n,h2⟩:=hx
 obtain ⟨o',h1',_,n',h2'⟩:=hy
 rw [h1] at h1';cases h1'
 rw [h2] at h2';injection h2'
theorem WU {h:Heap}:∀ {n:Nat} (x y:Tr) (v:Value),IsT h n x v->IsT h n y v->x=y
 | 0,_,_,_,hx,_=>hx.elim
 | n+1,x,y,v,hx,hy=>by
  cases v with
  | ref a=>
   obtain ⟨m,ks,its,e,rfl,p,q⟩:=Ue hx
   obtain ⟨m',ls,its',e',rfl,p',q'⟩:=Ue hy
   cases e;cases e'
   cases W4 p p'
   rw [Ut (fun x y v=>WU (n:=n) x y v) q q']
  | _=>
   cases x with
   | i k=>
    cases y with
    | i k'=>
     rcases hx with ⟨t,e⟩ | ⟨b,e,rfl⟩<;>cases e<;>rcases hy with ⟨t,e⟩ | ⟨b,e,rfl⟩<;>cases e<;>rfl
    | s y=>obtain ⟨t,e⟩:=hy;rcases hx with ⟨t,e'⟩ | ⟨b,e',_⟩<;>(rw [e] at e';cases e')
    | t ls=>obtain ⟨a,its,e,_⟩:=hy;cases e
   | s z=>
    obtain ⟨t,e'⟩:=hx
    cases y with
    | i k=>rcases hy with ⟨t,e⟩ | ⟨b,e,_⟩<;>(rw [e] at e';cases e')
    | s y=>obtain ⟨t,e⟩:=hy;rw [e] at e';cases e';rfl
    | t ls=>obtain ⟨a,its,e,_⟩:=hy;cases e
   | t ks=>obtain ⟨a,its,e,_⟩:=hx;cases e
theorem KZ {α β:Type} {F G:α->β->Prop} (f:∀ a b,F a b->G a b):∀ {l₁:List α} {l₂:List β},Paired F l₁ l₂->Paired G l₁ l₂
 | _,_,.nil=>.nil
 | _,_,.cons r t=>.cons (f _ _ r) (KZ f t)
theorem YW {h h':Heap} {d:Addr} {o:Obj} {es ep} (ho:h.get? d=some o) (hd:o.data=.dict es ep) (hs:Heap.SameBut d h h'):∀ {n:Nat} (k:Tr) (v:Value),IsT h n k v->IsT h' n k v
 | 0,_,_,x=>x.elim
 | n+1,.i k,v,x=>x
 | n+1,.s k,v,x=>x
 | n+1,.t ks,v,⟨a,its,e,⟨o',ho',hc,m,hd'⟩,q⟩=>by
  have hne:a≠d:=by
   rintro rfl
   rw [ho'] at ho;cases ho
   rw [hd] at hd';exact nomatch hd'
  exact ⟨a,its,e,⟨o',(hs.2 a hne).trans ho',hc,m,hd'⟩,KZ (fun k v=>YW ho hd hs k v) q⟩
noncomputable def hN (w:World):Nat->Tr->Int
 | 0,_=>0
 | _+1,.i k=>hashInt k
 | _+1,.s x=>hashStr w x
 | n+1,.t ks=>reduceHash (Builtin.Tuple.tupleHashOf (ks.map (hN w n)))
noncomputable def dN:Nat->Tr->Nat
 | 0,_=>0
 | _+1,.i _=>1
 | _+1,.s _=>1
 | n+1,.t ks=>(ks.map (dN n)).sum+1
section
variable {prog:Program} {w:World} {E:Value->Shared->Prop}
theorem YV {n:Nat} {A:Around} (ih:∀ (k:Tr) (v:Value) (s:Shared) (Q:Int->Shared->Prop),IsT s.heap n k v->Q (hN w n k) { s with toks:=s.toks+dN n k }->wpAny (model prog w) A (pyHash v) Q E s) :
  ∀ (ks:List Tr) (vs:List Value) (s:Shared) (b:Array Int) (Q:Array Int->Shared->Prop),Paired (IsT s.heap n) ks vs ->
  (∀ b',b'.toList=b.toList++ks.map (hN w n)->Q b' { s with toks:=s.toks+(ks.map (dN n)).sum }) ->
  wpAny (model prog w) A (forIn vs b fun x r=>do let h <- pyHash x;pure PUnit.unit;pure (ForInStep.yield (r.push h))) Q E s
 | [],_,s,b,Q,x,h=>by cases x;exact wpAny_pure (h b (by simp))
 | k::ks,_,s,b,Q,x,h=>by
  cases x with
  | cons x1 x2=>
   rw [List.forIn_cons]
   refine wpAny_bind (wpAny_bind (ih k _ s _ x1 ?_))
   refine wpAny_bind (wpAny_pure (wpAny_pure ?_))
   refine YV ih ks _ _ _ Q x2 fun b' hb=>?_
   have:=h b' (by simp [hb])
   simpa [Nat.add_assoc] using this
theorem QdV:∀ (n:Nat) (A:Around),A.units+n < cLine->∀ (k:Tr) (v:Value) (s:Shared) (Q:Int->Shared->Prop),IsT s.heap n k v->Q (hN w n k) { s with toks:=s.toks+dN n k }->wpAny (model prog w) A (pyHash v) Q E s
 | 0,_,_,_,_,_,_,x,_=>x.elim
 | n+1,A,hu,.i k,v,s,Q,x,h=>by
  rcases x with ⟨t,rfl⟩ | ⟨b,rfl,rfl⟩
  ·exact wpAny_pyHash_int h
  ·refine PySem.W.pyHash_slot (T:="bool") rfl F.slot_bool_hash entry_int_hash (args_int_hash _) (beq_builtin_none _) (.inr (by omega)) ?_
   cases b
   ·exact (show wpAny _ _ (do ret (<- mkInt 0)) _ _ s from wpAny_bind (wpAny_mkInt (wpAny_pure ⟨_,_,rfl,h⟩)))
   ·exact (show wpAny _ _ (do ret (<- mkInt 1)) _ _ s from wpAny_bind (wpAny_mkInt (wpAny_pure ⟨_,_,rfl,h⟩)))
 | n+1,A,hu,.s y,v,s,Q,x,h=>by
  obtain ⟨t,rfl⟩:=x
  exact wpAny_pyHash_str h
 | n+1,A,hu,.t ks,v,s,Q,x,h=>by
  obtain ⟨a,its,rfl,⟨o,ho,hc,m,hd⟩,q⟩:=x
  refine PySem.W.pyHash_slot (T:="tuple") ⟨_,ho,hc⟩ F.slot_tuple_hash F.entry_tuple_hash (F.args_tuple_hash_1 _) (beq_builtin_none _) (.inr (by omega)) ?_
  show wpAny _ _ (Builtin.Tuple.tupleItemsOf (.ref a) >>= _) _ _ s
  refine wpAny_bind (wpAny_tupleItemsOf ho hd ?_)
  refine wpAny_bind ?_
  rw [<- Array.forIn_toList]
  refine YV (n:=n) (fun k v s Q=>QdV n A.in1 (by show A.units+1+n < cLine;omega) k v s Q) ks _ s #[] _ q fun b hb=>?_
  show wpAny _ _ (retInt (Builtin.Tuple.tupleHashOf b.toList)) _ _ _
  rw [hb]
  refine wpAny_bind (wpAny_mkInt (wpAny_pure ⟨_,_,rfl,?_⟩))
  simpa [hN,dN,Nat.add_assoc] using h
theorem Qfp {n:Nat} {h:Heap} {e:Nat->Bool}:∀ {ks ls:List Tr} {us vs:List Value},Paired (IsT h n) ks us->Paired (IsT h n) ls vs->(∀ (j:Nat) (x y:Tr),ks[j]?=some x->ls[j]?=some y->e j=decide (x=y)) ->
  ((List.range (min us.length vs.length)).all e && us.length == vs.length)=decide (Tr.t ks=Tr.t ls):=by
 intro ks ls us vs p q he
 have l1:=Paired.length p
 have l2:=Paired.length q
 rw [<- l1,<- l2]
 by_cases hl:ks.length=ls.length
 ·by_cases hk:ks=ls
  ·subst hk
   simp only [Nat.min_self,beq_self_eq_true,Bool.and_true,decide_true]
   rw [List.all_eq_true]
   intro j hj
   rw [List.mem_range] at hj
   rw [he j ks[j] ks[j] (List.getElem?_eq_getElem hj) (List.getElem?_eq_getElem hj)]
   simp
  ·have:decide (Tr.t ks=Tr.t ls)=false:=decide_eq_false fun z=>hk (Tr.t.inj z)
   rw [this,Bool.and_eq_false_iff]
   left
   have:∃ j,ks[j]?≠ls[j]?:=Classical.byContradiction fun z=>hk (List.ext_getElem? fun j=>Classical.byContradiction fun y=>z ⟨j,y⟩)
   obtain ⟨j,hj⟩:=this
   have hjl:j < ks.length:=Classical.byContradiction fun z=>hj (by rw [List.getElem?_eq_none (by omega),List.getElem?_eq_none (by omega)])
   rw [List.all_eq_false]
   refine ⟨j,List.mem_range.mpr (by omega),?_⟩
   rw [he j ks[j] ls[j] (List.getElem?_eq_getElem hjl) (List.getElem?_eq_getElem (by omega))]
   intro z
   rw [decide_eq_true_eq] at z
   exact hj (by rw [List.getElem?_eq_getElem hjl,List.getElem?_eq_getElem (by omega),z])
 ·have h1:(ks.length == ls.length)=false:=beq_eq_false_iff_ne.mpr hl
  rw [h1,Bool.and_false]
  exact (decide_eq_false fun z=>hl (by rw [Tr.t.inj z])).symm
theorem Xu {α β:Type} {F:α->β->Prop}:∀ {l₁:List α} {l₂:List β} {j:Nat} {x:α},Paired F l₁ l₂->l₁[j]?=some x->∃ v,l₂[j]?=some v/\F x v
 | _,_,0,x,.cons r t,e=>by simp at e;subst e;exact ⟨_,rfl,r⟩
 | _,_,j+1,x,.cons r t,e=>by
  obtain ⟨v,h1,h2⟩:=Xu (j:=j) (x:=x) t (by simpa using e)
  exact ⟨v,by simpa using h1,h2⟩
open SeqAt in
theorem Qkh {s:Shared}:∀ (n:Nat) (A:Around),A.units+n < cLine->∀ (x y:Tr) (u v:Value),IsT s.heap n x u->IsT s.heap n y v->EqAt A s u v (decide (x=y))
 | 0,_,_,_,_,_,_,hx,_=>hx.elim
 | n+1,A,hu,.i a,.i b,u,v,hx,hy=>by
  have hd:decide (Tr.i a=Tr.i b)=(a == b):=by
   by_cases z:a=b
   ·subst z;simp
   ·rw [decide_eq_false fun q=>z (Tr.i.inj q)];exact (beq_eq_false_iff_ne.mpr z).symm
  rw [hd]
  rcases hx with ⟨t,rfl⟩ | ⟨p,rfl,rfl⟩<;>rcases hy with ⟨t',rfl⟩ | ⟨q,rfl,rfl⟩
  ·exact EqAt.int_int a t b t'
  ·exact EqAt.int_bool a t q
  ·exact EqAt.bool_int p b t'
  ·have:=EqAt.bool_bool (A:=A) (s:=s) p q
   cases p<;>cases q<;>exact this
 | n+1,A,hu,.i a,.s b,u,v,hx,hy=>by
  obtain ⟨t',rfl⟩:=hy
  rw [decide_eq_false (fun z=>nomatch z)]
  rcases hx with ⟨t,rfl⟩ | ⟨p,rfl,rfl⟩
  ·exact EqAt.int_str a t b t'
  ·exact EqAt.bool_str p b t'
 | n+1,A,hu,.i a,.t ks,u,v,hx,hy=>by
  obtain ⟨ad,its,rfl,p,_⟩:=hy
  rw [decide_eq_false (fun z=>nomatch z)]
  rcases hx with ⟨t,rfl⟩ | ⟨q,rfl,rfl⟩
  ·exact EqAt.int_tuple a t p (by omega)
  ·exact EqAt.bool_tuple q p (by omega)
 | n+1,A,hu,.s b,.i a,u,v,hx,hy=>by
  obtain ⟨t',rfl⟩:=hx
  rw [decide_eq_false (fun z=>nomatch z)]
  rcases hy with ⟨t,rfl⟩ | ⟨p,rfl,rfl⟩
  ·exact EqAt.str_int b t' a t
  ·exact EqAt.str_bool b t' p
 | n+1,A,hu,.s a,.s b,u,v,hx,hy=>by
  obtain ⟨t,rfl⟩:=hx
  obtain ⟨t',rfl⟩:=hy
  have hd:decide (Tr.s a=Tr.s b)=(a == b):=by
   by_cases z:a=b
   ·subst z;simp
   ·rw [decide_eq_false fun q=>z (Tr.s.inj q)];exact (beq_eq_false_iff_ne.mpr z).symm
  rw [hd]
  exact EqAt.str_str a t b t'
 | n+1,A,hu,.s b,.t ks,u,v,hx,hy=>by
  obtain ⟨ad,its,rfl,p,_⟩:=hy
  obtain ⟨t,rfl⟩:=hx
  rw [decide_eq_false (fun z=>nomatch z)]
  exact EqAt.str_tuple b t p (by omega)
 | n+1,A,hu,.t ks,.i a,u,v,hx,hy=>by
  obtain ⟨ad,its,rfl,p,_⟩:=hx
  rw [decide_eq_false (fun z=>nomatch z)]
  rcases hy with ⟨t,rfl⟩ | ⟨q,rfl,rfl⟩
  ·exact EqAt.tuple_int a t p (by omega)
  ·exact EqAt.tuple_bool q p (by omega)
 | n+1,A,hu,.t ks,.s b,u,v,hx,hy=>by
  obtain ⟨ad,its,rfl,p,_⟩:=hx
  obtain ⟨t,rfl⟩:=hy
  rw [decide_eq_false (fun z=>nomatch z)]
  exact EqAt.tuple_str b t p (by omega)
 | n+1,A,hu,.t ks,.t ls,u,v,hx,hy=>by
  obtain ⟨ad,its,rfl,p,q⟩:=id hx
  obtain ⟨bd,its',rfl,p',q'⟩:=id hy
  by_cases hab:ad=bd
  ·subst hab
   have:=WU _ _ _ hx hy
   rw [this,decide_eq_true rfl]
   exact EqAt.same _
  ·refine EqAt.of_refs hab ?_
   have ih:=Qkh (s:=s) n A.in1 (by show A.units+1+n < cLine;omega)
   have hz:=RcAt.tuples (A:=A) (s:=s) (e:=fun j=>match ks[j]?,ls[j]? with | some x,some y=>decide (x=y) | _,_=>false) p p' (by omega) (fun j h1 h2=>by
    have l1:=Paired.length q
    have l2:=Paired.length q'
    have j1:j < ks.length:=by rw [l1];exact h1
    have j2:j < ls.length:=by rw [l2];exact h2
    obtain ⟨x,hx⟩:∃ x,ks[j]?=some x:=⟨ks[j],List.getElem?_eq_getElem j1⟩
    obtain ⟨y,hy⟩:∃ y,ls[j]?=some y:=⟨ls[j],List.getElem?_eq_getElem j2⟩
    obtain ⟨u,hu1,hu2⟩:=Xu q hx
    obtain ⟨t,ht1,ht2⟩:=Xu q' hy
    rw [hx,hy]
    have e1:its[j]=u:=by
     rw [Array.getElem?_toList,Array.getElem?_eq_getElem h1] at hu1;exact Option.some.inj hu1
    have e2:its'[j]=t:=by
     rw [Array.getElem?_toList,Array.getElem?_eq_getElem h2] at ht1;exact Option.some.inj ht1
    rw [e1,e2]
    exact ih x y u t hu2 ht2)
   have:=Qfp (e:=fun j=>match ks[j]?,ls[j]? with | some x,some y=>decide (x=y) | _,_=>false) q q' (fun j x y h1 h2=>by simp only [h1,h2])
   rw [Array.length_toList,Array.length_toList] at this
   rw [this] at hz
   exact hz
theorem Qa2 {A:Around} {s:Shared}:∀ (n m:Nat) (k:Tr) (v:Value) (Q:Bool->Shared->Prop),IsT s.heap n k v->n<=m->Q true s->wpAny (model prog w) A (eqIsQuiet m v) Q E s
 | 0,_,_,_,_,x,_,_=>x.elim
 | n+1,m,.i k,v,Q,x,_,h=>by
  rcases x with ⟨t,rfl⟩ | ⟨b,rfl,rfl⟩
  ·rw [eqIsQuiet_byValue _ rfl];exact wpAny_pure h
  ·rw [eqIsQuiet_byValue _ rfl];exact wpAny_pure h
 | n+1,m,.s k,v,Q,x,_,h=>by
  obtain ⟨t,rfl⟩:=x
  rw [eqIsQuiet_byValue _ rfl];exact wpAny_pure h
 | n+1,0,.t ks,v,Q,x,hm,h=>by omega
 | n+1,m+1,.t ks,v,Q,x,hm,h=>by
  obtain ⟨a,its,rfl,⟨o,ho,hc,l,hd⟩,q⟩:=x
  have hT:s.TypeIs (.ref a) "tuple":=⟨o,ho,hc⟩
  unfold eqIsQuiet
  refine wpAny_bind (wpAny_specialOf hT F.slot_tuple_eq.lookup ?_)
  show wpAny _ _ (isInstance (.ref a) (.type "tuple") >>= _) _ _ s
  refine wpAny_bind (wpAny_isInstance hT isSubtype_tuple_tuple ?_)
  simp only [Bool.not_true,Bool.false_eq_true,if_false]
  refine wpAny_bind (wpAny_seqItems ho hd ?_)
  refine wpAny_bind ?_
  show wpAny _ _ (forIn its _ _) _ _ s
  rw [<- Array.forIn_toList]
  refine wpAny_forIn_list _ (fun rest r s'=>r.1=none/\s'=s/\∃ ks',Paired (IsT s.heap n) ks' rest) _ ?_ ?_ _ _ ⟨rfl,rfl,ks,q⟩
  ·rintro v rest r s' ⟨hr,rfl,ks',q'⟩
   cases q' with
   | cons q1 q2=>
    refine wpAny_bind (Qa2 n m _ _ _ q1 (by omega) ?_)
    simp only [Bool.not_true,Bool.false_eq_true,if_false]
    exact wpAny_pure ⟨rfl,rfl,_,q2⟩
  ·rintro ⟨r1,r2⟩ s' ⟨hr,rfl,_⟩
   simp only at hr
   subst hr
   exact wpAny_pure h
end
noncomputable def Qt (prog:Program) (w:World):HeapKind prog w Tr where
 is:=fun h k a=>IsT h 8 k (.ref a)
 hash:=hN w 8
 draws:=dN 8
 room:=fun A=>A.units+8 < cLine
 inj:=fun hx hy=>WU _ _ _ hx hy
 keeps:=fun x ho hd hs=>YW ho hd hs _ _ x
 pyHash:=fun hu hk h=>QdV 8 _ hu _ _ _ _ hk h
 eqBool:=fun hu hx hy h=>Qkh 8 _ hu _ _ _ _ hx hy _ _ _ _ h
 quiet:=fun hk h=>Qa2 8 8 _ _ _ hk (Nat.le_refl _) h

noncomputable def kV:Key->V
 | .inl i=>.int i
 | .inr x=>.str x

inductive HO where
 /-- a list -/
 | lst (xs:List V)
 /-- a tuple (never changes) -/
 | tup (xs:List V)
 /-- a dict whose keys are ints and texts;one whose keys are tuples of ints and texts (the empty one is both) -/
 | dK (kvs:List (Key×V)) | dT (kvs:List (Tr×Addr×V))
 /-- a set of ints: its members,its size -/
 | set (S:Int->Bool) (n:Nat)
 /-- an instance of the class at C,its dict at dx,its attributes -/
 | ins (C dx:Addr) (fs:List (Str×V))
 /-- the dict of the instance at x -/
 | own (x:Addr)
 /-- the dict of an exception -/
 | xd (fs:List (Str×V))
 /-- a bound method,f of x -/
 | met (f x:Addr)
 /-- a range object lo,lo+1,.. below hi -/
 | rng (lo hi:Int)
 /-- a thing that is known to the object (the script;a dict while a loop walks it): read,never written while it is so -/
 | frz (o:Obj) (u:HO)
 /-- a code object's table -/
 | tbl (ps:Array Value)
 /-- any other thing,by what is true of its one object (a def of one's own: SetO a S n:=HO.ext fun h=>..) -/
 | ext (φ:Heap->Prop)

noncomputable abbrev Hp:=Addr->Option HO
noncomputable def upd (H:Hp) (a:Addr) (o:HO):Hp:=fun b=>if b=a then some o else H b
theorem JI {H:Hp} {a:Addr} {o:HO}:upd H a o a=some o:=by unfold upd;rw [if_pos rfl]
theorem QI {H:Hp} {a b:Addr} {o:HO} (h:b≠a):upd H a o b=H b:=by unfold upd;rw [if_neg h]
theorem JJ {H:Hp} {a b:Addr} {o:HO} (h:H a=some o) (h':H b=none):a≠b:=by
 intro e;subst e;rw [h] at h';cases h'

section
variable (P:Program) (w:World)
noncomputable def ObjOk (H:Hp) (h:Heap) (a:Addr):HO->Prop
 | .lst xs=>xs.length<=sizeLine/\∃ (its:List Value) (n:Nat),Vals xs its/\h.get? a=some { cls:=.type "list",data:=.seq its.toArray n }
 | .tup xs=>xs.length<=sizeLine/\∃ its:List Value,Vals xs its/\IsTup h a its.toArray
 | .dK kvs=>kvs.length<=sizeLine/\(a == sysModules)=false/\∃ vs,KV kvs vs/\h.DictOf (JW P w) a vs
 | .dT kvs=>kvs.length<=sizeLine/\(a == sysModules)=false/\∃ xs:List (Tr×Addr×Value),
   Paired (fun (p:Tr×Addr×V) (q:Tr×Addr×Value)=>p.1=q.1/\p.2.1=q.2.1/\RelV p.2.2 q.2.2) kvs xs /\
   ∃ o es ep,h.get? a=some o/\o.ExactDict/\o.data=.dict es ep/\es.toList=xs.map (entryOfKey (Qt P w))/\(xs.map (·.1)).Nodup
 | .set S n=>h.SetOf (intKind P w) a S n
 | .ins C dx fs=>H dx=some (.own a)/\fs.length<=1000/\dx≠a/\h.get? a=some (PySem.W.instObj C dx) /\
   ∃ mA,h.Ns1 dx mA/\(∀ f,RelO (fs.lookup f) (mA f))/\PySem.Within mA (fs.map (·.1))
 | .own _=>∃ o,h.get? a=some o
 | .xd fs=>∃ mA,h.Ns1 a mA/\∀ f,RelO (fs.lookup f) (mA f)
 | .rng lo hi=>∃ t u v,h.get? a=some { cls:=.type "range",data:=.fields #[.int lo t,.int hi u,.int 1 v] }
 | .frz o u=>h.get? a=some o/\ObjOk H h a u
 | .tbl ps=>h.get? a=some { cls:=.none,data:=.fields ps }
 | .met f x=>h.get? a=some (PySem.W.methodObj (.ref f) (.ref x))
 | .ext φ=>φ h/\(∃ o,h.get? a=some o)/\∀ h1 h2:Heap,φ h1->(∀ o,h1.get? a=some o->h2.get? a=some o)->φ h2
noncomputable def HOk (H:Hp) (h:Heap):Prop:=∀ a o,H a=some o->ObjOk P w H h a o
end

section
variable {P:Program} {w:World} {H H':Hp} {h h':Heap} {a:Addr} {o:HO}
theorem ObjOk.lt (x:ObjOk P w H h a o):a < h.objs.size:=by
 cases o with
 | lst xs=>obtain ⟨_,_,_,_,e⟩:=x;exact Heap.lt_size e
 | tup xs=>obtain ⟨_,_,_,p⟩:=x;exact p.lt
 | dK kvs=>obtain ⟨_,_,_,_,o,_,_,e,_⟩:=x;exact Heap.lt_size e
 | dT kvs=>obtain ⟨_,_,_,_,o,_,_,e,_⟩:=x;exact Heap.lt_size e
 | set S n=>obtain ⟨o,_,_,_,e,_⟩:=x;exact Heap.lt_size e
 | ins C dx fs=>obtain ⟨_,_,_,e,_⟩:=x;exact Heap.lt_size e
 | own y=>obtain ⟨_,e⟩:=x;exact Heap.lt_size e
 | xd fs=>obtain ⟨_,⟨_,_,_,e,_⟩,_⟩:=x;exact Heap.lt_size e
 | rng lo hi=>obtain ⟨_,_,_,e⟩:=x;exact Heap.lt_size e
 | frz ob u=>obtain ⟨e,_⟩:=x;exact Heap.lt_size e
 | tbl ps=>exact Heap.lt_size (show h.get? a=some _ from x)
 | met f y=>exact Heap.lt_size (show h.get? a=some _ from x)
 | ext φ=>obtain ⟨_,⟨_,e⟩,_⟩:=x;exact Heap.lt_size e
theorem Paired.mapP {α β:Type} {F G:α->β->Prop}:∀ {l₁:List α} {l₂:List β},Paired F l₁ l₂->(∀ a b,F a b->G a b)->Paired G l₁ l₂
 | _,_,.nil,_=>.nil
 | _,_,.cons r t,f=>.cons (f _ _ r) (Paired.mapP t f)
theorem ObjOk.stay (x:ObjOk P w H h a o) (k:∀ b u,(b=a\/H b=some (.own a))->h.get? b=some u->h'.get? b=some u)
  (ho:∀ b,H b=some (.own a)->H' b=some (.own a)) (ht:∀ b xs,H b=some (.tup xs)->H' b=some (.tup xs)):ObjOk P w H' h' a o:=by
 induction o with
 | lst xs=>obtain ⟨z,its,n,r,e⟩:=x;exact ⟨z,its,n,r,k _ _ (.inl rfl) e⟩
 | tup xs=>obtain ⟨z,its,r,ob,e,c⟩:=x;exact ⟨z,its,r,ob,k _ _ (.inl rfl) e,c⟩
 | dK kvs=>obtain ⟨z,y,vs,r,ob,es,ep,e,c⟩:=x;exact ⟨z,y,vs,r,ob,es,ep,k _ _ (.inl rfl) e,c⟩
 | dT kvs=>
  obtain ⟨z,y,xs,r,ob,es,ep,e,c⟩:=x
  exact ⟨z,y,xs,r,ob,es,ep,k _ _ (.inl rfl) e,c⟩
 | set S n=>obtain ⟨ob,es,ep,t,e,c⟩:=x;exact ⟨ob,es,ep,t,k _ _ (.inl rfl) e,c⟩
 | ins C dx fs=>
  obtain ⟨d,z,ne,e,mA,⟨od,es,ep,e2,c⟩,r⟩:=x
  exact ⟨ho _ d,z,ne,k _ _ (.inl rfl) e,mA,⟨od,es,ep,k _ _ (.inr d) e2,c⟩,r⟩
 | own y=>obtain ⟨ob,e⟩:=x;exact ⟨ob,k _ _ (.inl rfl) e⟩
 | xd fs=>obtain ⟨mA,⟨od,es,ep,e,c⟩,r⟩:=x;exact ⟨mA,⟨od,es,ep,k _ _ (.inl rfl) e,c⟩,r⟩
 | rng lo hi=>obtain ⟨t,u,v,e⟩:=x;exact ⟨t,u,v,k _ _ (.inl rfl) e⟩
 | frz ob u ih=>obtain ⟨e,q⟩:=x;exact ⟨k _ _ (.inl rfl) e,ih q⟩
 | tbl ps=>
  have e:h.get? a=some { cls:=.none,data:=.fields ps }:=x
  show h'.get? a=some { cls:=.none,data:=.fields ps }
  exact k a _ (.inl rfl) e
 | met f y=>
  have e:h.get? a=some (PySem.W.methodObj (.ref f) (.ref y)):=x
  show h'.get? a=some (PySem.W.methodObj (.ref f) (.ref y))
  exact k a _ (.inl rfl) e
 | ext φ=>obtain ⟨p,⟨o,e⟩,st⟩:=x;exact ⟨st _ _ p fun o q=>k _ _ (.inl rfl) q,⟨o,k _ _ (.inl rfl) e⟩,st⟩
theorem HOk.lt (x:HOk P w H h) (e:H a=some o):a < h.objs.size:=(x a o e).lt
theorem HOk.fresh (x:HOk P w H h) (e:h.objs.size<=a):H a=none:=by
 cases q:H a with
 | none=>rfl
 | some u=>exact absurd (Nat.lt_of_lt_of_le (x.lt q) e) (Nat.lt_irrefl _)
theorem HOk.kept (x:HOk P w H h) (k:∀ b u,h.get? b=some u->h'.get? b=some u):HOk P w H h':=fun a o e=>
 (x a o e).stay (fun b u _ q=>k b u q) (fun _ q=>q) fun _ _ q=>q
theorem HOk.laid (x:HOk P w H h) (k:∀ b u,h.get? b=some u->h'.get? b=some u) (hp:h.objs.size<=a) (new:ObjOk P w (upd H a o) h' a o):HOk P w (upd H a o) h':=fun b u e=>by
 have hn:=x.fresh hp
 by_cases hb:b=a
 ·subst hb;rw [JI] at e;cases e;exact new
 ·rw [QI hb] at e
  exact (x b u e).stay (fun c v _ q=>k c v q) (fun c q=>by rw [QI (JJ q hn)];exact q) fun c xs q=>by rw [QI (JJ q hn)];exact q
end

noncomputable def Rd (H:Hp) (a:Addr) (u:HO):Prop:=H a=some u\/∃ o,H a=some (.frz o u)
theorem Rd.ok {P:Program} {w:World} {H:Hp} {h:Heap} {a:Addr} {u:HO} (r:Rd H a u) (x:HOk P w H h):ObjOk P w H h a u:=by
 rcases r with r | ⟨o,r⟩
 ·exact x a u r
 ·obtain ⟨_,q⟩:=x a _ r
  exact q
noncomputable def Mut:Option HO->Prop
 | some (.lst _)=>True
 | some (.dK _)=>True
 | some (.dT _)=>True
 | some (.set _ _)=>True
 | some (.ins _ _ _)=>True
 | some (.ext _)=>True
 | _=>False
section
variable {P:Program} {w:World} {H:Hp} {h h':Heap} {x e:Addr} {o':HO}
theorem HOk.write (ok:HOk P w H h) (mu:Mut (H x)) (he:e=x\/H e=some (.own x)) (k:∀ b u,b≠e->h.get? b=some u->h'.get? b=some u) (heo:∃ u,h'.get? e=some u)
  (new:ObjOk P w (upd H x o') h' x o'):HOk P w (upd H x o') h':=fun b u q=>by
 have nown:∀ c y,H c=some (.own y)->c≠x:=fun c y r z=>by subst z;rw [r] at mu;exact mu
 have ntup:∀ c xs,H c=some (.tup xs)->c≠x:=fun c xs r z=>by subst z;rw [r] at mu;exact mu
 by_cases hb:b=x
 ·subst hb;rw [JI] at q;cases q;exact new
 ·rw [QI hb] at q
  by_cases hbe:b=e
  ·have q':H b=some (.own x):=by
    rcases he with z | z
    ·exact absurd (hbe.trans z) hb
    ·rw [hbe];exact z
   rw [q] at q';cases q'
   obtain ⟨v,hv⟩:=heo
   exact ⟨v,by rw [hbe];exact hv⟩
  ·refine (ok b u q).stay (fun c v hc r=>k c v ?_ r) (fun c r=>by rw [QI (nown c b r)];exact r) fun c xs r=>by rw [QI (ntup c xs r)];exact r
   rcases hc with rfl | hc
   ·exact hbe
   ·rintro rfl
    rcases he with z | z
    ·exact nown c b hc z
    ·rw [hc] at z;cases z;exact hb rfl
end

structure Un (fs ex:List Addr) (H H':Hp) (h h':Heap):Prop where
 keep:∀ b o,h.get? b=some o->H b=none->b∉fs->b∉ex->h'.get? b=some o
 slot:∀ b o,h.get? b=some o->H b=none->b∈fs->b∉ex->∃ sl,h'.get? b=some { o with slots:=sl }
 free:∀ b o,h.get? b=some o->H b=none->b∉ex->H' b=none
 there:∀ b o,h.get? b=some o->b∉ex->∃ o',h'.get? b=some o'
 tups:∀ b xs,H b=some (.tup xs)->H' b=some (.tup xs)
 frzs:∀ b o u,H b=some (.frz o u)->H' b=some (.frz o u)
 tbls:∀ b ps,H b=some (.tbl ps)->∃ more,H' b=some (.tbl (ps++more))
section
variable {fs fs' ex ex':List Addr} {H H1 H2:Hp} {h h1 h2 h':Heap} {a x e:Addr} {o:HO}
theorem Un.any (u:Un fs ex H H1 h h1) {b:Addr} {ob:Obj} (q:h.get? b=some ob) (n:H b=none) (hx:b∉ex):∃ sl,h1.get? b=some { ob with slots:=sl }:=by
 by_cases hb:b∈fs
 ·exact u.slot b ob q n hb hx
 ·exact ⟨ob.slots,u.keep b ob q n hb hx⟩
theorem Un.kept (k:∀ b u,h.get? b=some u->h'.get? b=some u):Un fs ex H H h h':=
 ⟨fun b ob q _ _ _=>k b ob q,fun b ob q _ _ _=>⟨ob.slots,k b ob q⟩,fun _ _ _ n _=>n,fun b ob q _=>⟨ob,k b ob q⟩,fun _ _ q=>q,fun _ _ _ q=>q,fun _ ps q=>⟨#[],by rw [q];simp⟩⟩
theorem Un.refl:Un fs ex H H h h:=Un.kept fun _ _ q=>q
theorem Un.laid (k:∀ b u,h.get? b=some u->h'.get? b=some u) (hp:h.objs.size<=a) (hn:H a=none):Un fs ex H (upd H a o) h h' where
 keep:=fun b u q _ _ _=>k b u q
 slot:=fun b u q _ _ _=>⟨u.slots,k b u q⟩
 free:=fun b u q n _=>by rw [QI (Nat.ne_of_lt (Nat.lt_of_lt_of_le (Heap.lt_size q) hp))];exact n
 there:=fun b u q _=>⟨u,k b u q⟩
 tups:=fun b xs q=>by rw [QI (JJ q hn)];exact q
 frzs:=fun b u xs q=>by rw [QI (JJ q hn)];exact q
 tbls:=fun b ps q=>⟨#[],by rw [QI (JJ q hn),q];simp⟩
theorem Un.write (mu:Mut (H x)) (he:e=x\/H e=some (.own x)) (k:∀ b u,b≠e->h.get? b=some u->h'.get? b=some u) (heo:∃ u,h'.get? e=some u):Un fs ex H (upd H x o) h h':=by
 have hx:∀ b,H b=none->b≠x:=fun b n z=>by subst z;rw [n] at mu;exact mu
 have hb:∀ b,H b=none->b≠e:=fun b n z=>by
  subst z
  rcases he with r | r
  ·exact hx b n r
  ·rw [n] at r;cases r
 have hm:∀ b u,H b=some u->¬ Mut (some u)->b≠x:=fun b u q nm z=>by subst z;rw [q] at mu;exact nm mu
 refine ⟨fun b u q n _ _=>k b u (hb b n) q,fun b u q n _ _=>⟨u.slots,k b u (hb b n) q⟩,fun b u q n _=>by rw [QI (hx b n)];exact n,fun b u q _=>?_,
  fun b xs q=>by rw [QI (hm b _ q fun z=>z)];exact q,fun b u xs q=>by rw [QI (hm b _ q fun z=>z)];exact q,fun b ps q=>⟨#[],by rw [QI (hm b _ q fun z=>z),q];simp⟩⟩
 by_cases hbe:b=e
 ·subst hbe;exact heo
 ·exact ⟨u,k b u hbe q⟩
end

noncomputable def trk (h:Heap) (H:Hp):List Addr:=(List.range h.objs.size).filter fun a=>(H a).isSome
noncomputable def Qct (h:Heap) (H:Hp):Heap:=PySem.W.hideAll h (trk h H)
theorem QaG (h:Heap) (H:Hp):(Qct h H).objs.size=h.objs.size:=PySem.W.hideAll_size _ _
theorem Qdf {h:Heap} {H:Hp} {b:Addr} {o:Obj} (e:h.get? b=some o) (n:H b=none):(Qct h H).get? b=some o:=
 PySem.W.hideAll_get _ e fun hm=>by
  have q:(H b).isSome=true:=(List.mem_filter.mp hm).2
  rw [n] at q;simp at q
theorem Qez {h:Heap} {H:Hp} {b:Addr} {o:Obj} (e:(Qct h H).get? b=some o):h.get? b=some o/\H b=none:=by
 have e':h.get? b=some o:=PySem.W.of_hideAll (trk h H) e
 refine ⟨e',?_⟩
 cases q:H b with
 | none=>rfl
 | some x=>
  have hm:b∈trk h H:=List.mem_filter.mpr ⟨List.mem_range.mpr (Heap.lt_size e'),by simp [q]⟩
  have z:(Qct h H).get? b=none:=PySem.W.hideAll_none (trk h H) hm
  rw [z] at e;cases e

end L2

namespace L2
open PySem PySem.Spec PyProof.Rows

structure Mod (K:PySem.W.Frag) (mg:Str->Option Value) (base:Heap):Prop where
 kin:K.In base
 glob:base.Ns mainGlobals mg
 blt:∃ mb,base.Ns builtinsNs mb/\∀ x:Str,x≠"__name__"->mb x=bootBuiltins x
 nolimit:base.NoLimit

structure Cx where
 prog:Program
 w:World
 K:PySem.W.Frag
 mg:Str->Option Value
 base:Heap
 A:Around
 N:List Str
 s₀:Shared
 H₀:Hp
 env:Env
 outer:List Env
 stack:List Env
 ex:List Addr
 fn:Str->Bool
 calm:Bool
 pn:List (Addr×Obj)
 xe:Value->Shared->Prop
noncomputable def frs (l:List Env):List Addr:=l.filterMap (·.frame)
noncomputable abbrev Cx.fs (X:Cx):List Addr:=frs X.outer

noncomputable def Vis (sc:Scope) (x:Str):Prop:=sc.names.lookup x=some .local\/sc.names.lookup x=some .cell\/sc.names.lookup x=some .free
noncomputable def Loc (sc:Scope) (x:Str):Prop:=sc.names.lookup x=some .local\/sc.names.lookup x=some .cell
noncomputable def Qml (env:Env) (h:Heap) (m:Str->Option Value) (x:Str) (u:Value):Prop:=
 (env.kindOf x=some .local/\m x=some u)\/((env.kindOf x=some .cell\/env.kindOf x=some .free)/\∃ c,env.cells.lookup x=some c/\h.IsCell c (some u))

structure Cx.Ok (X:Cx):Prop where
 mod:Mod X.K X.mg X.base
 kind:X.env.scope.kind=.function
 glob:X.env.globals=mainGlobals
 blt:X.env.builtins=builtinsNs
 above:X.s₀.heap.objs.size<=X.env.locals
 inj:∀ x y c,X.env.cells.lookup x=some c->X.env.cells.lookup y=some c->x=y
 has:∀ x,(X.env.kindOf x=some .cell\/X.env.kindOf x=some .free)->∃ c,X.env.cells.lookup x=some c
 cab:∀ x c,X.fn x=true->X.env.cells.lookup x=some c->X.s₀.heap.objs.size<=c
 hd:X.calm=true->X.A.handled=none
 frames:X.A.frames=some X.stack
 stk:X.stack=X.outer\/(X.stack=X.env::X.outer/\X.env.frame=some X.env.locals)
 exf:∀ b∈X.ex,b≠X.env.locals/\∀ x c,X.env.cells.lookup x=some c->c≠b
 bs:∀ b o,X.base.get? b=some o->X.s₀.heap.get? b=some o/\X.H₀ b=none
 bsz:X.base.objs.size<=X.s₀.heap.objs.size
 noex:∀ b o,X.base.get? b=some o->b∉X.ex
 exfs:∀ b∈X.ex,b∉X.fs
 funs:X.s₀.heap.FunFrames X.base X.outer
 frf:∀ b∈X.fs,X.H₀ b=none

structure Inv (X:Cx) (pins:List (Addr×Obj)) (σ:List (Option V)) (H:Hp) (s:Shared):Prop where
 ok:X.Ok
 os:s.os=X.s₀.os
 bare:AllBare s.gens
 base:Un X.fs X.ex X.H₀ H X.s₀.heap s.heap
 loc:∃ m,s.heap.Ns X.env.locals m/\∀ (i:Nat) (x:Str) (v:V),X.N[i]?=some x->σ[i]?=some (some v)->Vis X.env.scope x->∃ u,RelV v u/\Qml X.env s.heap m x u
 cell:∀ x c,X.env.cells.lookup x=some c->∃ v,s.heap.IsCell c v
 free:H X.env.locals=none
 freeC:∀ x c,X.env.cells.lookup x=some c->H c=none
 pin:∀ p∈X.pn++pins,s.heap.get? p.1=some p.2/\H p.1=none/\p.1≠X.env.locals/\p.1∉X.fs/\∀ v,p.2.data≠.cell v
 hok:HOk X.prog X.w H s.heap
 len:σ.length=X.N.length

section
variable {X:Cx} {pins:List (Addr×Obj)} {σ:List (Option V)} {H H':Hp} {s:Shared} {h':Heap}

theorem Cx.Ok.nofr (ok:X.Ok) {b:Addr} {o:Obj} (e:X.base.get? b=some o):b∉X.fs:=fun hb=>by
 have:=(ok.funs.mem hb).1
 rw [e] at this;cases this
theorem Inv.bs (I:Inv X pins σ H s):∀ b o,X.base.get? b=some o->s.heap.get? b=some o/\H b=none:=fun b o e=>
 ⟨I.base.keep b o (I.ok.bs b o e).1 (I.ok.bs b o e).2 (I.ok.nofr e) (I.ok.noex b o e),I.base.free b o (I.ok.bs b o e).1 (I.ok.bs b o e).2 (I.ok.noex b o e)⟩
theorem Inv.bk (I:Inv X pins σ H s):∀ b o,X.base.get? b=some o->s.heap.get? b=some o:=fun b o e=>(I.bs b o e).1
theorem Inv.mod (I:Inv X pins σ H s):Mod X.K X.mg X.base:=I.ok.mod
theorem Inv.kIn (I:Inv X pins σ H s):X.K.In s.heap:=I.ok.mod.kin.keeps I.bk
theorem Inv.lt (I:Inv X pins σ H s):X.env.locals < s.heap.objs.size:=let ⟨_,hn,_⟩:=I.loc;hn.lt
theorem Inv.sz (I:Inv X pins σ H s):X.s₀.heap.objs.size<=s.heap.objs.size:=Nat.le_trans I.ok.above (Nat.le_of_lt I.lt)
theorem Inv.nofs (I:Inv X pins σ H s) {a:Addr} (h:s.heap.objs.size<=a):a∉X.fs:=fun hb=>by
 obtain ⟨_,o,ho,_⟩:=I.ok.funs.mem hb
 exact absurd (Nat.lt_of_lt_of_le (Heap.lt_size ho) (Nat.le_trans I.sz h)) (Nat.lt_irrefl _)
theorem Inv.cne (I:Inv X pins σ H s):∀ x c,X.env.cells.lookup x=some c->c≠X.env.locals:=fun x c e z=>by
 obtain ⟨v,o,ho,hd⟩:=I.cell x c e
 obtain ⟨m,⟨o',es,ep,ho',hd',_⟩,_⟩:=I.loc
 rw [z,ho'] at ho;cases ho;rw [hd'] at hd;cases hd
theorem Inv.funs (I:Inv X pins σ H s):s.heap.FunFrames X.base X.outer:=by
 have all:∀ (l:List Env),(∀ b∈frs l,b∈X.fs)->X.s₀.heap.FunFrames X.base l->s.heap.FunFrames X.base l:=by
  intro l
  induction l with
  | nil=>intro _ _;trivial
  | cons env r ih=>
   intro hs hl
   obtain ⟨hk,⟨L,o,hf,hn,ho,hd⟩,hr⟩:=hl
   have hL:L∈X.fs:=hs L (by unfold frs;rw [List.filterMap_cons,hf];exact List.mem_cons_self)
   obtain ⟨sl,e⟩:=I.base.slot L o ho (I.ok.frf L hL) hL fun z=>I.ok.exfs L z hL
   exact ⟨hk,⟨L,_,hf,hn,e,hd⟩,ih (fun b hb=>hs b (by unfold frs;rw [List.filterMap_cons,hf];exact List.mem_cons_of_mem _ hb)) hr⟩
 exact all X.outer (fun _ hb=>hb) I.ok.funs

theorem Inv.stack (I:Inv X pins σ H s):s.heap.FunFrames X.base X.stack:=by
 rcases I.ok.stk with e | ⟨e,hf⟩
 ·rw [e];exact I.funs
 ·rw [e]
  obtain ⟨m,hn,_⟩:=I.loc
  refine .cons (by rw [I.ok.kind];decide) hf hn ?_ I.funs
  exact Heap.get?_none_of_le (Nat.le_trans I.ok.bsz I.ok.above)
theorem Inv.stkSub (I:Inv X pins σ H s):∀ b∈frs X.stack,b∈X.env.locals::X.fs:=fun b hb=>by
 rcases I.ok.stk with e | ⟨e,hf⟩
 ·rw [e] at hb;exact List.mem_cons_of_mem _ hb
 ·rw [e] at hb
  unfold frs at hb
  rw [List.filterMap_cons,hf] at hb
  exact hb
theorem Inv.stkFree (I:Inv X pins σ H s):∀ b∈frs X.stack,H b=none:=fun b hb=>by
 rcases List.mem_cons.mp (I.stkSub b hb) with e | hb
 ·rw [e];exact I.free
 ·obtain ⟨_,o,ho,_⟩:=I.ok.funs.mem hb
  exact I.base.free b o ho (I.ok.frf b hb) fun z=>I.ok.exfs b z hb

theorem Inv.step {g':Array GenState} {t':Nat} {d':Drawn} {ch:List Addr} (I:Inv X pins σ H s)
  (hch:∀ b∈ch,(b∈X.ex\/X.s₀.heap.objs.size<=b)/\b≠X.env.locals/\(∀ x c,X.env.cells.lookup x=some c->c≠b)/\∀ p∈X.pn++pins,p.1≠b)
  (keep:∀ b o,b≠X.env.locals->b∉X.fs->b∉ch->s.heap.get? b=some o->H b=none->h'.get? b=some o)
  (slot:∀ b o,b≠X.env.locals->b∈X.fs->b∉ch->s.heap.get? b=some o->H b=none->∃ sl,h'.get? b=some { o with slots:=sl }) (free:∀ b o,b∉ch->s.heap.get? b=some o->H b=none->H' b=none)
  (there:∀ b o,b∉ch->s.heap.get? b=some o->∃ o',h'.get? b=some o')
  (tups:∀ b xs,H b=some (.tup xs)->H' b=some (.tup xs)) (frzs:∀ b o u,H b=some (.frz o u)->H' b=some (.frz o u)) (tbls:∀ b ps,H b=some (.tbl ps)->∃ more,H' b=some (.tbl (ps++more)))
  (ns:∀ m,s.heap.Ns X.env.locals m->h'.Ns X.env.locals m) (hok:HOk X.prog X.w H' h') (hg:AllBare g') :
  Inv X pins σ H' { s with heap:=h',gens:=g',drawn:=d',toks:=t' }:=by
 have neL:∀ b o,X.s₀.heap.get? b=some o->b≠X.env.locals:=fun b o e=>Nat.ne_of_lt (Nat.lt_of_lt_of_le (Heap.lt_size e) I.ok.above)
 have neC:∀ b o,X.s₀.heap.get? b=some o->b∉X.ex->b∉ch:=fun b o e hx hb=>by
  rcases (hch b hb).1 with z | z
  ·exact hx z
  ·exact absurd (Nat.lt_of_lt_of_le (Heap.lt_size e) z) (Nat.lt_irrefl _)
 have cellK:∀ x c,X.env.cells.lookup x=some c->∀ v,s.heap.IsCell c v->h'.IsCell c v:=fun x c e v ⟨o,ho,hd⟩=>by
  have nch:c∉ch:=fun z=>(hch c z).2.2.1 x c e rfl
  by_cases hc:c∈X.fs
  ·obtain ⟨sl,q⟩:=slot c o (I.cne x c e) hc nch ho (I.freeC x c e)
   exact ⟨_,q,hd⟩
  ·exact ⟨o,keep c o (I.cne x c e) hc nch ho (I.freeC x c e),hd⟩
 refine ⟨I.ok,I.os,hg,⟨fun b o e n hb hx=>?_,fun b o e n hb hx=>?_,fun b o e n hx=>?_,fun b o e hx=>?_,fun b xs e=>tups b xs (I.base.tups b xs e),fun b o xs e=>frzs b o xs (I.base.frzs b o xs e),fun b ps e=>?_⟩,?_,fun x c e=>?_,?_,fun x c e=>?_,fun p hp=>?_,hok,I.len⟩
 ·exact keep b o (neL b o e) hb (neC b o e hx) (I.base.keep b o e n hb hx) (I.base.free b o e n hx)
 ·obtain ⟨sl,e1⟩:=I.base.slot b o e n hb hx
  obtain ⟨sl',e2⟩:=slot b _ (neL b o e) hb (neC b o e hx) e1 (I.base.free b o e n hx)
  exact ⟨sl',e2⟩
 ·obtain ⟨o',e1⟩:=I.base.there b o e hx
  exact free b o' (neC b o e hx) e1 (I.base.free b o e n hx)
 ·obtain ⟨o',e1⟩:=I.base.there b o e hx
  exact there b o' (neC b o e hx) e1
 ·obtain ⟨m1,e1⟩:=I.base.tbls b ps e
  obtain ⟨m2,e2⟩:=tbls b _ e1
  exact ⟨m1++m2,by rw [e2,Array.append_assoc]⟩
 ·obtain ⟨m,hn,hl⟩:=I.loc
  refine ⟨m,ns m hn,fun i x v e1 e2 e3=>?_⟩
  obtain ⟨u,r,l⟩:=hl i x v e1 e2 e3
  refine ⟨u,r,?_⟩
  rcases l with l | ⟨k,c,e,z⟩
  ·exact .inl l
  ·exact .inr ⟨k,c,e,cellK x c e _ z⟩
 ·obtain ⟨v,z⟩:=I.cell x c e
  exact ⟨v,cellK x c e v z⟩
 ·obtain ⟨m,⟨o,_,_,ho,_⟩,_⟩:=I.loc
  exact free _ o (fun z=>(hch _ z).2.1 rfl) ho I.free
 ·obtain ⟨v,o,ho,hd⟩:=I.cell x c e
  exact free c o (fun z=>(hch c z).2.2.1 x c e rfl) ho (I.freeC x c e)
 ·obtain ⟨e,n,ne,nf,d⟩:=I.pin p hp
  have nch:p.1∉ch:=fun z=>(hch p.1 z).2.2.2 p hp rfl
  exact ⟨keep p.1 p.2 ne nf nch e n,free p.1 p.2 nch e n,ne,nf,d⟩
theorem Inv.un {t':Nat} (I:Inv X pins σ H s) (u:Un X.fs [] H H' s.heap h') (hok:HOk X.prog X.w H' h'):Inv X pins σ H' { s with heap:=h',toks:=t' }:=by
 obtain ⟨m,⟨o,es,ep,ho,r⟩,_⟩:=id I.loc
 obtain ⟨sl,hL⟩:=u.any ho I.free (by simp)
 exact I.step (g':=s.gens) (d':=s.drawn) (ch:=[]) (fun _ z=>nomatch z) (fun b o _ hb _ e n=>u.keep b o e n hb (by simp)) (fun b o _ hb _ e n=>u.slot b o e n hb (by simp)) (fun b o _ e n=>u.free b o e n (by simp)) (fun b o _ e=>u.there b o e (by simp)) u.tups u.frzs u.tbls (fun m' hm=>by
  obtain ⟨o',es',ep',ho',r'⟩:=hm
  rw [ho] at ho';cases ho'
  exact ⟨_,es',ep',hL,r'⟩) hok I.bare
theorem Inv.call {g':Array GenState} {t':Nat} {d':Drawn} {ch:List Addr} (I:Inv X pins σ H s) (u:Un (frs X.stack) ch H H' s.heap h') (hok:HOk X.prog X.w H' h') (hg:AllBare g')
  (hch:∀ b∈ch,(b∈X.ex\/X.s₀.heap.objs.size<=b)/\b≠X.env.locals/\(∀ x c,X.env.cells.lookup x=some c->c≠b)/\∀ p∈X.pn++pins,p.1≠b) :
  Inv X pins σ H' { s with heap:=h',gens:=g',drawn:=d',toks:=t' }:=by
 obtain ⟨m,⟨o,es,ep,ho,r⟩,_⟩:=id I.loc
 obtain ⟨sl,hL⟩:=u.any ho I.free fun z=>(hch _ z).2.1 rfl
 exact I.step (ch:=ch) hch (fun b o hL hb hc e n=>u.keep b o e n (fun z=>(List.mem_cons.mp (I.stkSub b z)).elim hL hb) hc) (fun b o _ _ hc e n=>u.any e n hc) (fun b o hc e n=>u.free b o e n hc) (fun b o hc e=>u.there b o e hc) u.tups u.frzs u.tbls (fun m' hm=>by
  obtain ⟨o',es',ep',ho',r'⟩:=hm
  rw [ho] at ho';cases ho'
  exact ⟨_,es',ep',hL,r'⟩) hok hg
theorem Inv.turned {t':Nat} {it:Addr} (I:Inv X pins σ H s) (k:∀ b o,b≠it->s.heap.get? b=some o->h'.get? b=some o) (hn:H it=none) (hL:it≠X.env.locals)
  (h1:it∈X.ex\/X.s₀.heap.objs.size<=it) (h2:∀ x c,X.env.cells.lookup x=some c->c≠it) (h3:∀ p∈X.pn++pins,p.1≠it):Inv X pins σ H { s with heap:=h',toks:=t' }:=by
 have nit:∀ b u,H b=some u->b≠it:=fun b u e z=>by rw [z,hn] at e;cases e
 refine I.step (g':=s.gens) (d':=s.drawn) (ch:=[it]) (fun b hb=>?_) (fun b o _ _ hc e _=>k b o (fun z=>hc (by simp [z])) e) (fun b o _ _ hc e _=>⟨o.slots,k b o (fun z=>hc (by simp [z])) e⟩) (fun _ _ _ _ n=>n)
  (fun b o hc e=>⟨o,k b o (fun z=>hc (by simp [z])) e⟩) (fun _ _ e=>e) (fun _ _ _ e=>e) (fun b ps e=>⟨#[],by rw [e];simp⟩) (fun m hm=>?_) (fun b u e=>?_) I.bare
 ·have e:b=it:=by simpa using hb
  subst e
  exact ⟨h1,hL,h2,h3⟩
 ·obtain ⟨o,es,ep,ho,r⟩:=hm
  exact ⟨o,es,ep,k _ o (Ne.symm hL) ho,r⟩
 ·refine (I.hok b u e).stay (fun c v hc q=>k c v ?_ q) (fun _ q=>q) fun _ _ q=>q
  rcases hc with z | z
  ·rw [z];exact nit b u e
  ·exact nit c _ z
theorem Inv.tok (I:Inv X pins σ H s) (t:Nat):Inv X pins σ H { s with toks:=t }:=I.un (h':=s.heap) (t':=t) Un.refl I.hok
theorem Inv.kept {t':Nat} (I:Inv X pins σ H s) (k:∀ b u,s.heap.get? b=some u->h'.get? b=some u):Inv X pins σ H { s with heap:=h',toks:=t' }:=I.un (Un.kept k) (I.hok.kept k)
theorem Inv.laid {a:Addr} {o:HO} {t':Nat} (I:Inv X pins σ H s) (k:∀ b u,s.heap.get? b=some u->h'.get? b=some u) (hp:s.heap.objs.size<=a) (new:ObjOk X.prog X.w (upd H a o) h' a o) :
  Inv X pins σ (upd H a o) { s with heap:=h',toks:=t' }:=I.un (Un.laid k hp (I.hok.fresh hp)) (I.hok.laid k hp new)
theorem Inv.write {x e:Addr} {o:HO} {t':Nat} (I:Inv X pins σ H s) (mu:Mut (H x)) (he:e=x\/H e=some (.own x)) (k:∀ b u,b≠e->s.heap.get? b=some u->h'.get? b=some u) (heo:∃ u,h'.get? e=some u)
  (new:ObjOk X.prog X.w (upd H x o) h' x o):Inv X pins σ (upd H x o) { s with heap:=h',toks:=t' }:=I.un (Un.write mu he k heo) (I.hok.write mu he k heo new)
theorem Inv.pins_of {pins':List (Addr×Obj)} (I:Inv X pins σ H s) (h:∀ p∈pins',s.heap.get? p.1=some p.2/\H p.1=none/\p.1≠X.env.locals/\p.1∉X.fs/\∀ v,p.2.data≠.cell v):Inv X pins' σ H s:=
 ⟨I.ok,I.os,I.bare,I.base,I.loc,I.cell,I.free,I.freeC,fun p hp=>(List.mem_append.mp hp).elim (fun z=>I.pin p (List.mem_append_left _ z)) (h p),I.hok,I.len⟩

theorem UT {N:List Str} (hN:N.Nodup) {i j:Nat} {x:Str} (a:N[i]?=some x) (b:N[j]?=some x):i=j:=by
 obtain ⟨h1,e1⟩:=List.getElem?_eq_some_iff.mp a
 obtain ⟨h2,e2⟩:=List.getElem?_eq_some_iff.mp b
 exact (List.getElem_inj hN).mp (e1.trans e2.symm)

theorem We {M:Model} {A:Around} {E:Value->Shared->Prop} {i:Nat} {x:Str} {v:V} {u:Value} {Q:Unit->Shared->Prop} (I:Inv X pins σ H s) (hN:X.N.Nodup) (hi:X.N[i]?=some x) (hx:Loc X.env.scope x) (r:RelV v u)
  (h:∀ s',Inv X pins (σ.set i (some v)) H s'->(∃ a,Heap.SameBut a s.heap s'.heap/\(a=X.env.locals\/X.env.cells.lookup x=some a))->Q () s') (hf:X.fn x=true\/X.env.scope.names.lookup x=some .local:=by first | exact .inl rfl | exact .inr rfl | assumption):wpAny M A (storeName X.env x u) Q E s:=by
 obtain ⟨m,hn,hl⟩:=id I.loc
 have hcls:(X.env.scope.kind == .class || (X.env.scope.kind == .module && X.env.locals != X.env.globals))=false:=by rw [I.ok.kind];rfl
 have hiσ:i < σ.length:=by rw [I.len];exact (List.getElem?_eq_some_iff.mp hi).1
 have cne:=I.cne
 have tracked:∀ {a:Addr} {h':Heap},(∃ o,s.heap.get? a=some o/\H a=none)->Heap.SameBut a s.heap h'->HOk X.prog X.w H h':=fun {a h'} ha hs b ob e=>by
  obtain ⟨_,_,hfree⟩:=ha
  refine (I.hok b ob e).stay (fun c w' hc q=>(hs.2 c ?_).trans q) (fun _ q=>q) fun _ _ q=>q
  rintro rfl
  rcases hc with rfl | hc
  ·rw [hfree] at e;cases e
  ·rw [hfree] at hc;cases hc
 rcases hx with hk | hk
 ·refine wpAny_storeName_local hk hn (fun h' hn' hs=>?_) hcls
  obtain ⟨oL,_,_,hoL,_⟩:=id hn
  refine h _ ⟨I.ok,I.os,I.bare,⟨fun b o e n hb hx=>?_,fun b o e n hb hx=>?_,I.base.free,fun b o e hx=>?_,I.base.tups,I.base.frzs,I.base.tbls⟩,⟨_,hn',fun j y v' e1 e2 e3=>?_⟩,fun y c e=>?_,I.free,I.freeC,fun p hp=>?_,tracked ⟨oL,hoL,I.free⟩ hs,by simpa using I.len⟩ ⟨_,hs,.inl rfl⟩
  ·exact (hs.2 b (Nat.ne_of_lt (Nat.lt_of_lt_of_le (Heap.lt_size e) I.ok.above))).trans (I.base.keep b o e n hb hx)
  ·obtain ⟨sl,e1⟩:=I.base.slot b o e n hb hx
   exact ⟨sl,(hs.2 b (Nat.ne_of_lt (Nat.lt_of_lt_of_le (Heap.lt_size e) I.ok.above))).trans e1⟩
  ·obtain ⟨o',e1⟩:=I.base.there b o e hx
   exact ⟨o',(hs.2 b (Nat.ne_of_lt (Nat.lt_of_lt_of_le (Heap.lt_size e) I.ok.above))).trans e1⟩
  ·by_cases hj:j=i
   ·subst hj
    rw [hi] at e1;cases e1
    rw [List.getElem?_set_self hiσ] at e2
    cases e2
    exact ⟨u,r,.inl ⟨hk,by simp⟩⟩
   ·rw [List.getElem?_set_ne (Ne.symm hj)] at e2
    obtain ⟨u',r',q⟩:=hl j y v' e1 e2 e3
    refine ⟨u',r',?_⟩
    rcases q with ⟨k,e⟩ | ⟨k,c,e,z⟩
    ·refine .inl ⟨k,?_⟩
     have:y≠x:=fun e=>hj (UT hN e1 (e ▸ hi))
     simp [this,e]
    ·exact .inr ⟨k,c,e,z.sameBut hs (cne y c e)⟩
  ·obtain ⟨w',z⟩:=I.cell y c e
   exact ⟨w',z.sameBut hs (cne y c e)⟩
  ·obtain ⟨e,n,ne,nf,d⟩:=I.pin p hp
   exact ⟨(hs.2 p.1 ne).trans e,n,ne,nf,d⟩
 ·have hfn:X.fn x=true:=by
   rcases hf with z | z
   ·exact z
   ·rw [z] at hk;cases hk
  obtain ⟨c,hc⟩:=I.ok.has x (.inl hk)
  obtain ⟨w',z⟩:=I.cell x c hc
  refine wpAny_storeName_cell I.ok.kind hk hc z (fun h' hc' hs=>?_)
  obtain ⟨oc,hoc,hocd⟩:=id z
  refine h { s with heap:=h' } ⟨I.ok,I.os,I.bare,⟨fun b o e n hb hx=>?_,fun b o e n hb hx=>?_,I.base.free,fun b o e hx=>?_,I.base.tups,I.base.frzs,I.base.tbls⟩,⟨m,hn.sameBut hs (Ne.symm (cne x c hc)),fun j y v' e1 e2 e3=>?_⟩,fun y c' e=>?_,I.free,I.freeC,fun p hp=>?_,tracked ⟨oc,hoc,I.freeC x c hc⟩ hs,by simpa using I.len⟩ ⟨c,hs,.inr hc⟩
  ·exact (hs.2 b (Nat.ne_of_lt (Nat.lt_of_lt_of_le (Heap.lt_size e) (I.ok.cab x c hfn hc)))).trans (I.base.keep b o e n hb hx)
  ·obtain ⟨sl,e1⟩:=I.base.slot b o e n hb hx
   exact ⟨sl,(hs.2 b (Nat.ne_of_lt (Nat.lt_of_lt_of_le (Heap.lt_size e) (I.ok.cab x c hfn hc)))).trans e1⟩
  ·obtain ⟨o',e1⟩:=I.base.there b o e hx
   exact ⟨o',(hs.2 b (Nat.ne_of_lt (Nat.lt_of_lt_of_le (Heap.lt_size e) (I.ok.cab x c hfn hc)))).trans e1⟩
  ·by_cases hj:j=i
   ·subst hj
    rw [hi] at e1;cases e1
    rw [List.getElem?_set_self hiσ] at e2
    cases e2
    exact ⟨u,r,.inr ⟨.inl hk,c,hc,hc'⟩⟩
   ·rw [List.getElem?_set_ne (Ne.symm hj)] at e2
    obtain ⟨u',r',q⟩:=hl j y v' e1 e2 e3
    refine ⟨u',r',?_⟩
    rcases q with q | ⟨k,c',e,z'⟩
    ·exact .inl q
    ·refine .inr ⟨k,c',e,z'.sameBut hs ?_⟩
     rintro rfl
     exact hj (UT hN e1 (I.ok.inj _ _ _ e hc ▸ hi))
  ·by_cases hcc:c'=c
   ·subst hcc;exact ⟨_,hc'⟩
   ·obtain ⟨w2,z2⟩:=I.cell y c' e
    exact ⟨w2,z2.sameBut hs hcc⟩
  ·obtain ⟨e,n,ne,nf,d⟩:=I.pin p hp
   refine ⟨(hs.2 p.1 ?_).trans e,n,ne,nf,d⟩
   intro q
   rw [q,hoc] at e
   have q':oc=p.2:=Option.some.inj e
   exact d w' (by rw [<- q'];exact hocd)
theorem U3 {M:Model} {A:Around} {E:Value->Shared->Prop} {i:Nat} {x:Str} {v:V} {u:Value} {Q:Unit->Shared->Prop} (I:Inv X pins σ H s) (hN:X.N.Nodup) (hi:X.N[i]?=some x) (hx:Loc X.env.scope x) (r:RelV v u)
  (h:∀ s',Inv X pins (σ.set i (some v)) H s'->Q () s') (hf:X.fn x=true\/X.env.scope.names.lookup x=some .local:=by first | exact .inl rfl | exact .inr rfl | assumption):wpAny M A (storeName X.env x u) Q E s:=
 We I hN hi hx r (fun s' I' _=>h s' I') hf
theorem Inv.call' {s':Shared} {ch:List Addr} (I:Inv X pins σ H s) (ho:s'.os=s.os) (u:Un (frs X.stack) ch H H' s.heap s'.heap) (hok:HOk X.prog X.w H' s'.heap) (hg:AllBare s'.gens)
  (hch:∀ b∈ch,(b∈X.ex\/X.s₀.heap.objs.size<=b)/\b≠X.env.locals/\(∀ x c,X.env.cells.lookup x=some c->c≠b)/\∀ p∈X.pn++pins,p.1≠b):Inv X pins σ H' s':=by
 obtain ⟨h',g',d',t',o'⟩:=s'
 have e:o'=s.os:=ho
 subst e
 exact I.call (g':=g') (t':=t') (d':=d') u hok hg hch
end

noncomputable abbrev XK:=Value->Option Addr->Hp->Prop
noncomputable abbrev St:=List (Option V)
noncomputable abbrev VK:=V->Hp->Prop
noncomputable abbrev TE:=St->Hp->VK->Prop
noncomputable abbrev TT:=St->Hp->(Bool->Hp->Prop)->Prop
noncomputable abbrev TA:=St->Hp->(List V->Hp->Prop)->Prop
structure Ends where
 nx:St->Hp->Prop
 rt:VK
 bk:St->Hp->Prop:=fun _ _=>False
 ct:St->Hp->Prop:=fun _ _=>False
noncomputable abbrev TS:=Ends->St->Hp->Prop

noncomputable def EP (X:Cx) (pins:List (Addr×Obj)) (σ:St) (Q:VK) (u:Value) (s':Shared):Prop:=∃ v H',Inv X pins σ H' s'/\RelV v u/\Q v H'
noncomputable def TP (X:Cx) (pins:List (Addr×Obj)) (σ:St) (Q:Bool->Hp->Prop) (b:Bool) (s':Shared):Prop:=∃ H',Inv X pins σ H' s'/\Q b H'
noncomputable def AP (X:Cx) (pins:List (Addr×Obj)) (σ:St) (Q:List V->Hp->Prop) (us:List Value) (s':Shared):Prop:=∃ vs H',Inv X pins σ H' s'/\Vals vs us/\Q vs H'
noncomputable def SP (X:Cx) (pins:List (Addr×Obj)) (D:Ends) (f:Flow) (s':Shared):Prop:=
 match f with
 | .next=>∃ σ' H',Inv X pins σ' H' s'/\D.nx σ' H'
 | .brk=>∃ σ' H',Inv X pins σ' H' s'/\D.bk σ' H'
 | .cont=>∃ σ' H',Inv X pins σ' H' s'/\D.ct σ' H'
 | .ret u=>∃ v σ' H',Inv X pins σ' H' s'/\RelV v u/\D.rt v H'

noncomputable def PE (X:Cx) (e:Expr) (t:TE):Prop:=
 ∀ (pins:List (Addr×Obj)) (s:Shared) (σ:St) (H:Hp) (Q:VK),Inv X pins σ H s->t σ H Q->wpAny (model X.prog X.w) X.A (eval e X.env) (EP X pins σ Q) X.xe s
noncomputable def PT (X:Cx) (e:Expr) (t:TT):Prop:=
 ∀ (pins:List (Addr×Obj)) (s:Shared) (σ:St) (H:Hp) (Q:Bool->Hp->Prop),Inv X pins σ H s->t σ H Q->wpAny (model X.prog X.w) X.A (isTrue e X.env (eval e X.env)) (TP X pins σ Q) X.xe s
noncomputable def PW (X:Cx) (e:Expr) (t:TT):Prop:=
 ∀ (whole:Sem Value) (pins:List (Addr×Obj)) (s:Shared) (σ:St) (H:Hp) (Q:Bool->Hp->Prop),Inv X pins σ H s->t σ H Q->wpAny (model X.prog X.w) X.A (isTrue e X.env whole) (TP X pins σ Q) X.xe s
theorem PW.pt {X:Cx} {e:Expr} {t:TT} (h:PW X e t):PT X e t:=h _
noncomputable def PA (X:Cx) (es:List Expr) (t:TA):Prop:=
 ∀ (pos:Pos) (pins:List (Addr×Obj)) (s:Shared) (σ:St) (H:Hp) (Q:List V->Hp->Prop),Inv X pins σ H s->t σ H Q->wpAny (model X.prog X.w) X.A (spliced (backTo pos (starEach es X.env))) (AP X pins σ Q) X.xe s
noncomputable def PS (X:Cx) (st:Stmt) (t:TS):Prop:=
 ∀ (pins:List (Addr×Obj)) (s:Shared) (σ:St) (H:Hp) (D:Ends),Inv X pins σ H s->t D σ H->wpAny (model X.prog X.w) X.A (exec st X.env) (SP X pins D) X.xe s
noncomputable def PSs (X:Cx) (st:List Stmt) (t:TS):Prop:=
 ∀ (pins:List (Addr×Obj)) (s:Shared) (σ:St) (H:Hp) (D:Ends),Inv X pins σ H s->t D σ H->wpAny (model X.prog X.w) X.A (execs st X.env) (SP X pins D) X.xe s
theorem thn {α:Type} {t:Sem α} {Q Q':α->Shared->Prop} {M:Model} {A:Around} {E:Value->Shared->Prop} {s:Shared} (h:wpAny M A t Q E s) (hQ:∀ a s,Q a s->Q' a s):wpAny M A t Q' E s:=wpAny_mono h hQ fun _ _ x=>x
end L2

namespace L2
open PySem PySem.Spec PyProof.Rows
section
variable {X:Cx}

theorem bin {a b:Expr} {ta tb:TE} (ha:PE X a ta) (hb:PE X b tb) {pins:List (Addr×Obj)} {s:Shared} {σ:St} {H:Hp} {R:V->V->Hp->Prop} (I:Inv X pins σ H s) (h:ta σ H fun x H1=>tb σ H1 fun y H2=>R x y H2)
  {α:Type} {Q:α->Shared->Prop} {f:Value->Value->Sem α}
  (hf:∀ v u s2 x y H2,Inv X pins σ H2 s2->RelV x v->RelV y u->R x y H2->wpAny (model X.prog X.w) X.A (f v u) Q X.xe s2) :
  wpAny (model X.prog X.w) X.A (eval a X.env) (fun v s₁=>wpAny (model X.prog X.w) X.A (eval b X.env) (fun u s₂=>wpAny (model X.prog X.w) X.A (f v u) Q X.xe s₂) X.xe s₁) X.xe s:=by
 refine thn (ha pins s σ H _ I h) fun v s1 ⟨x,H1,I1,r1,q1⟩=>?_
 refine thn (hb pins s1 σ H1 _ I1 q1) fun u s2 ⟨y,H2,I2,r2,q2⟩=>?_
 exact hf v u s2 x y H2 I2 r1 r2 q2

noncomputable def QlL (i:Nat):TE:=fun σ H Q=>∃ v,σ[i]?=some (some v)/\Q v H
noncomputable def tC (v:V):TE:=fun _ H Q=>Q v H
theorem QhR {i:Nat} {x:Str} {pos:Pos} (hN:X.N[i]?=some x) (hv:Vis X.env.scope x) (hd:(x == ("__debug__":Str))=false:=by decide) (hcd:(x == ("__classdict__":Str))=false:=by decide):PE X (.Name x pos) (QlL i):=by
 intro pins s σ H Q I h
 obtain ⟨v,e,h⟩:=h
 obtain ⟨m,hn,hl⟩:=I.loc
 obtain ⟨u,r,l⟩:=hl i x v hN e hv
 have fin:EP X pins σ Q u s:=⟨v,H,I,r,h⟩
 rcases l with ⟨hk,hm⟩ | ⟨hk,c,hc,hcell⟩
 ·exact wpAny_Name (wpAny_loadName_local I.ok.kind hk hn hm fin) hd
 ·rcases hk with hk | hk
  ·exact wpAny_Name (wpAny_loadName_cell I.ok.kind hk hc hcell fin) hd
  ·exact wpAny_Name (wpAny_loadName_free I.ok.kind hk hc hcell fin hcd) hd
theorem QgG {i j pos}:PE X (.Constant (.int i) j pos) (tC (.int i)):=fun _ _ _ H _ I h=>wpAny_Constant_int ⟨.int i,H,I.tok _,⟨_,rfl⟩,h⟩
theorem Qip {b j pos}:PE X (.Constant (.bool b) j pos) (tC (.bl b)):=fun _ _ _ H _ I h=>Constant_bool ⟨.bl b,H,I,rfl,h⟩
theorem QhC {j pos}:PE X (.Constant .none j pos) (tC .non):=fun _ _ _ H _ I h=>Constant_none ⟨.non,H,I,rfl,h⟩
theorem Qg1 {x j pos}:PE X (.Constant (.str x) j pos) (tC (.str x)):=fun _ _ _ H _ I h=>Calls.Constant_str ⟨.str x,H,I.tok _,⟨_,rfl⟩,h⟩

noncomputable def Gl (X:Cx) (x:Str):Prop:=X.env.kindOf x=some .globalImplicit
theorem QfV {E:Value->Shared->Prop} {pins:List (Addr×Obj)} {s:Shared} {σ:St} {H:Hp} {x:Str} {u:Value} {pos:Pos} {Q:Value->Shared->Prop} (I:Inv X pins σ H s) (hg:Gl X x) (hm:X.mg x=some u) (h:Q u s)
  (hd:(x == ("__debug__":Str))=false:=by decide):wpAny (model X.prog X.w) X.A (eval (.Name x pos) X.env) Q E s:=
 Calls.Name_function_global I.ok.kind hg (Calls.loadGlobal_global (by rw [I.ok.glob];exact I.mod.glob.keeps I.bk) hm h) hd
theorem Vz {E:Value->Shared->Prop} {pins:List (Addr×Obj)} {s:Shared} {σ:St} {H:Hp} {x:Str} {u:Value} {pos:Pos} {Q:Value->Shared->Prop} (I:Inv X pins σ H s) (hg:Gl X x) (hm:X.mg x=none) (hv:bootBuiltins x=some u) (h:Q u s)
  (hn:x≠"__name__":=by decide) (hd:(x == ("__debug__":Str))=false:=by decide):wpAny (model X.prog X.w) X.A (eval (.Name x pos) X.env) Q E s:=by
 obtain ⟨mb,h1,h2⟩:=I.mod.blt
 exact Calls.Name_function_global I.ok.kind hg (Calls.loadGlobal_builtin (by rw [I.ok.glob];exact I.mod.glob.keeps I.bk) hm (by rw [I.ok.blt];exact h1.keeps I.bk) ((h2 x hn).trans hv) h) hd
theorem Qd6 {x:Str} {v:V} {u:Value} {pos:Pos} (hg:Gl X x) (hm:X.mg x=none) (hv:bootBuiltins x=some u) (r:RelV v u) (hn:x≠"__name__":=by decide) (hd:(x == ("__debug__":Str))=false:=by decide):PE X (.Name x pos) (tC v):=
 fun _ _ _ H _ I h=>Vz I hg hm hv ⟨v,H,I,r,h⟩ hn hd

variable {a b:Expr} {ta tb:TE} {pos:Pos}
variable {tA tB':TT} {rest:List Expr}
noncomputable def QkH (t u:TT):TT:=fun σ H Q=>t σ H fun c H1=>if c=true then u σ H1 Q else Q false H1
noncomputable def tOr (t u:TT):TT:=fun σ H Q=>t σ H fun c H1=>if c=true then Q true H1 else u σ H1 Q
noncomputable def Qmi (t:TT):TT:=fun σ H Q=>t σ H fun c H1=>Q (!c) H1
theorem Qex (ha:PT X a tA):PW X (.BoolOp .And [a] pos) tA:=by
 intro wh pins s σ H Q I h
 refine isTrue_and (thn (ha pins s σ H Q I h) fun c s1 e=>?_)
 cases c with
 | true=>exact isTrue_and_nil e
 | false=>exact e
theorem QhP (ha:PT X a tA):PW X (.BoolOp .Or [a] pos) tA:=by
 intro wh pins s σ H Q I h
 refine isTrue_or (thn (ha pins s σ H Q I h) fun c s1 e=>?_)
 cases c with
 | false=>exact isTrue_or_nil e
 | true=>exact e
theorem Qgb (ha:PT X a tA) (hb:PW X (.BoolOp .And (b::rest) pos) tB'):PW X (.BoolOp .And (a::b::rest) pos) (QkH tA tB'):=by
 intro wh pins s σ H Q I h
 refine isTrue_and (thn (ha pins s σ H _ I h) fun c s1 ⟨H1,I1,q1⟩=>?_)
 cases c with
 | true=>exact hb wh pins s1 σ H1 Q I1 q1
 | false=>exact ⟨H1,I1,q1⟩
theorem QjM (ha:PT X a tA) (hb:PW X (.BoolOp .Or (b::rest) pos) tB'):PW X (.BoolOp .Or (a::b::rest) pos) (tOr tA tB'):=by
 intro wh pins s σ H Q I h
 refine isTrue_or (thn (ha pins s σ H _ I h) fun c s1 ⟨H1,I1,q1⟩=>?_)
 cases c with
 | true=>exact ⟨H1,I1,q1⟩
 | false=>exact hb wh pins s1 σ H1 Q I1 q1
theorem Qgg (ha:PT X a tA):PT X (.UnaryOp .Not a pos) (Qmi tA):=by
 intro pins s σ H Q I h
 exact isTrue_not (ha pins s σ H (fun c H1=>Q (!c) H1) I h)
noncomputable def Qio (ta tb:TE):TE:=fun σ H Q=>ta σ H fun x H1=>∃ c,x=.bl c/\if c=true then tb σ H1 Q else Q (.bl false) H1
noncomputable def QjG (ta:TE):TE:=fun σ H Q=>ta σ H fun x H1=>∃ c,x=.bl c/\Q (.bl (!c)) H1
theorem Qg2 {op} {t:TE} (h:PE X a t):PE X (.BoolOp op [a] pos) t:=fun pins s σ H Q I hw=>BoolOp_one (h pins s σ H Q I hw)
theorem Qgm (ha:PE X a ta) (hb:PE X (.BoolOp .And (b::rest) pos) tb):PE X (.BoolOp .And (a::b::rest) pos) (Qio ta tb):=by
 intro pins s σ H Q I h
 refine BoolOp_and (thn (ha pins s σ H _ I h) fun v s1 ⟨x,H1,I1,r1,q1⟩=>?_)
 obtain ⟨c,rfl,q1⟩:=q1
 cases r1
 refine wpAny_truthy_bool ?_
 cases c with
 | true=>exact hb pins s1 σ H1 Q I1 q1
 | false=>exact ⟨.bl false,H1,I1,rfl,q1⟩
theorem Qga (ha:PE X a ta):PE X (.UnaryOp .Not a pos) (QjG ta):=by
 intro pins s σ H Q I h
 refine UnaryOp_ (thn (ha pins s σ H _ I h) fun v s1 ⟨x,H1,I1,r1,q1⟩=>?_)
 obtain ⟨c,rfl,q1⟩:=q1
 cases r1
 exact not_of (wpAny_truthy_bool ⟨.bl (!c),H1,I1,rfl,q1⟩)
noncomputable def tIf (t:TT) (ta tb:TE):TE:=fun σ H Q=>t σ H fun c H1=>if c=true then ta σ H1 Q else tb σ H1 Q
theorem Qc5 {c:Expr} (hc:PT X c tA) (ha:PE X a ta) (hb:PE X b tb):PE X (.IfExp c a b pos) (tIf tA ta tb):=by
 intro pins s σ H Q I h
 refine wpAny_IfExp (thn (hc pins s σ H _ I h) fun d s1 ⟨H1,I1,q1⟩=>?_)
 cases d with
 | true=>exact ha pins s1 σ H1 Q I1 q1
 | false=>exact hb pins s1 σ H1 Q I1 q1
end
end L2

namespace L2
open PySem PySem.Spec PyProof.Rows

noncomputable def SqL (K:PySem.W.Frag) (H:Hp) (a:Addr) (xs:List V):Prop:=
 Rd H a (.lst xs) \/
  ∃ (o:Obj) (its:Array Value) (n:Nat),K.lookup a=some o/\o.cls=.type "list"/\o.dict=none/\o.data=.seq its n/\its.size<=sizeLine/\Vals xs its.toList
noncomputable def SqT (K:PySem.W.Frag) (H:Hp) (a:Addr) (xs:List V):Prop:=
 Rd H a (.tup xs) \/
  ∃ (o:Obj) (its:Array Value) (n:Nat),K.lookup a=some o/\o.cls=.type "tuple"/\o.data=.seq its n/\its.size<=sizeLine/\Vals xs its.toList
noncomputable def QlS:Value->Option V
 | .none=>some .non
 | .bool b=>some (.bl b)
 | .int i _=>some (.int i)
 | .str x _=>some (.str x)
 | .bytes b _=>some (.byt b)
 | .float b _=>some (.flt b)
 | .ref a=>some (.ref a)
 | .type n=>some (.ty n)
 | _=>none
theorem RelV.abs {x:V} {u:Value} (r:RelV x u):QlS u=some x:=by
 cases x with
 | non=>cases r;rfl
 | bl _=>cases r;rfl
 | int _=>obtain ⟨t,rfl⟩:=r;rfl
 | str _=>obtain ⟨t,rfl⟩:=r;rfl
 | byt _=>obtain ⟨t,rfl⟩:=r;rfl
 | flt _=>obtain ⟨t,rfl⟩:=r;rfl
 | ref _=>cases r;rfl
 | ty _=>cases r;rfl
theorem RelV.inj {x y:V} {u:Value} (r:RelV x u) (q:RelV y u):x=y:=Option.some.inj (r.abs.symm.trans q.abs)
theorem Vals.inj:∀ {xs ys:List V} {us:List Value},Vals xs us->Vals ys us->xs=ys
 | _,_,_,.nil,.nil=>rfl
 | _,_,_,.cons r t,.cons r' t'=>by rw [r.inj r',Vals.inj t t']
section
variable {X:Cx} {pins:List (Addr×Obj)} {σ:St} {H:Hp} {s:Shared} {a:Addr} {xs ys:List V}
theorem SqL.of {K:PySem.W.Frag} (h:H a=some (.lst xs)):SqL K H a xs:=.inl (.inl h)
theorem SqT.of {K:PySem.W.Frag} (h:H a=some (.tup xs)):SqT K H a xs:=.inl (.inl h)
theorem Inv.list (I:Inv X pins σ H s) (h:SqL X.K H a xs):∃ its:List Value,Vals xs its/\PlainL s.heap a its.toArray/\xs.length<=sizeLine:=by
 rcases h with h | ⟨o,its,n,hk,hc,hd,hs,hz,r⟩
 ·obtain ⟨z,its,n,r,e⟩:=h.ok I.hok
  exact ⟨its,r,⟨_,n,e,rfl,rfl,rfl⟩,z⟩
 ·refine ⟨its.toList,r,⟨o,n,I.kIn a o hk,hc,hd,by simpa using hs⟩,?_⟩
  have e:=r.length
  simp only [Array.length_toList] at e
  omega
theorem Inv.tuple (I:Inv X pins σ H s) (h:SqT X.K H a xs):∃ its:List Value,Vals xs its/\IsTup s.heap a its.toArray/\xs.length<=sizeLine:=by
 rcases h with h | ⟨o,its,n,hk,hc,hs,hz,r⟩
 ·obtain ⟨z,its,r,p⟩:=h.ok I.hok
  exact ⟨its,r,p,z⟩
 ·refine ⟨its.toList,r,⟨o,I.kIn a o hk,hc,n,by simpa using hs⟩,?_⟩
  have e:=r.length
  simp only [Array.length_toList] at e
  omega
theorem Inv.list_inj (I:Inv X pins σ H s) (h:SqL X.K H a xs) (h':SqL X.K H a ys):xs=ys:=by
 obtain ⟨its,r,⟨o,n,e,_,_,d⟩,_⟩:=I.list h
 obtain ⟨its',r',⟨o',n',e',_,_,d'⟩,_⟩:=I.list h'
 rw [e] at e';cases e'
 rw [d] at d'
 injection d' with d1 _
 have:its=its':=by simpa using congrArg Array.toList d1
 subst this
 exact r.inj r'
theorem Inv.tuple_inj (I:Inv X pins σ H s) (h:SqT X.K H a xs) (h':SqT X.K H a ys):xs=ys:=by
 obtain ⟨its,r,⟨o,e,_,n,d⟩,_⟩:=I.tuple h
 obtain ⟨its',r',⟨o',e',_,n',d'⟩,_⟩:=I.tuple h'
 rw [e] at e';cases e'
 rw [d] at d'
 injection d' with d1 _
 have:its=its':=by simpa using congrArg Array.toList d1
 subst this
 exact r.inj r'
end

noncomputable abbrev Cx.wish (X:Cx) (E:Value->Shared->Prop):Cx:={ X with xe:=E }
noncomputable abbrev Cx.nox (X:Cx):Cx:=X.wish fun _ _=>False
theorem Cx.Ok.wish {X:Cx} (ok:X.Ok) (E:Value->Shared->Prop):(X.wish E).Ok:=
 ⟨ok.mod,ok.kind,ok.glob,ok.blt,ok.above,ok.inj,ok.has,ok.cab,ok.hd,ok.frames,ok.stk,ok.exf,ok.bs,ok.bsz,ok.noex,ok.exfs,ok.funs,ok.frf⟩
theorem Cx.Ok.unwish {X:Cx} {E:Value->Shared->Prop} (ok:(X.wish E).Ok):X.Ok:=
 ⟨ok.mod,ok.kind,ok.glob,ok.blt,ok.above,ok.inj,ok.has,ok.cab,ok.hd,ok.frames,ok.stk,ok.exf,ok.bs,ok.bsz,ok.noex,ok.exfs,ok.funs,ok.frf⟩
section
variable {X:Cx} {pins:List (Addr×Obj)} {σ:St} {H:Hp} {s:Shared} {E:Value->Shared->Prop}
theorem Inv.wish (I:Inv X pins σ H s) (E:Value->Shared->Prop):Inv (X.wish E) pins σ H s:=⟨I.ok.wish E,I.os,I.bare,I.base,I.loc,I.cell,I.free,I.freeC,I.pin,I.hok,I.len⟩
theorem Inv.unwish (I:Inv (X.wish E) pins σ H s):Inv X pins σ H s:=⟨I.ok.unwish,I.os,I.bare,I.base,I.loc,I.cell,I.free,I.freeC,I.pin,I.hok,I.len⟩
theorem SP.unwish {D:Ends} {f:Flow} {s':Shared} (h:SP (X.wish E) pins D f s'):SP X pins D f s':=by
 cases f with
 | next=>obtain ⟨σ',H',I,q⟩:=h;exact ⟨σ',H',I.unwish,q⟩
 | brk=>obtain ⟨σ',H',I,q⟩:=h;exact ⟨σ',H',I.unwish,q⟩
 | cont=>obtain ⟨σ',H',I,q⟩:=h;exact ⟨σ',H',I.unwish,q⟩
 | ret u=>obtain ⟨v,σ',H',I,r,q⟩:=h;exact ⟨v,σ',H',I.unwish,r,q⟩
theorem PSs.nox {st:List Stmt} {t:TS} (h:PSs X.nox st t):PSs X st t:=fun pins s σ H D I hw=>
 wpAny_mono (h pins s σ H D (I.wish _) hw) (fun _ _ q=>q.unwish) fun _ _ z=>False.elim z
end

section
variable {X:Cx} {st:Stmt} {rest:List Stmt} {t u:TS} {e:Expr} {te:TE} {pos:Pos}
noncomputable def Qi7:TS:=fun D σ H=>D.nx σ H
noncomputable def Qk2 (t u:TS):TS:=fun D σ H=>t { D with nx:=u D } σ H
theorem Qd8:PSs X [] Qi7:=fun _ _ σ H _ I h=>wpAny_execs_nil ⟨σ,H,I,h⟩
theorem Qcn (h1:PS X st t) (h2:PSs X rest u):PSs X (st::rest) (Qk2 t u):=by
 intro pins s σ H D I h
 refine wpAny_execs_cons (thn (h1 pins s σ H { D with nx:=u D } I h) fun f s1 q=>?_)
 cases f with
 | next=>
  obtain ⟨σ',H',I',q⟩:=q
  exact h2 pins s1 σ' H' D I' q
 | ret v=>exact q
 | brk=>exact q
 | cont=>exact q
theorem QeI (h1:PS X st t):PSs X [st] t:=by
 intro pins s σ H D I h
 refine wpAny_execs_cons (thn (h1 pins s σ H D I h) fun f s1 q=>?_)
 cases f with
 | next=>exact wpAny_execs_nil q
 | ret v=>exact q
 | brk=>exact q
 | cont=>exact q
theorem Inv.quiet {pins:List (Addr×Obj)} {σ:St} {H:Hp} {s:Shared} (I:Inv X pins σ H s):interactive X.env=false:=by simp [interactive,I.ok.kind]
noncomputable def Qjr (te:TE):TS:=fun D σ H=>te σ H fun _ H1=>D.nx σ H1
theorem Qfq (he:PE X e te) (hs:swapsWith e none pos.line X.env=pure false:=by rfl):PS X (.Expr e pos) (Qjr te):=by
 intro pins s σ H D I h
 exact wpAny_Expr_any (thn (he pins s σ H _ I h) fun v s1 ⟨x,H1,I1,r1,q1⟩=>⟨σ,H1,I1,q1⟩) I.quiet hs
noncomputable def QlH (te:TE):TS:=fun D σ H=>te σ H D.rt
theorem Qgy (he:PE X e te):PS X (.Return (some e) pos) (QlH te):=by
 intro pins s σ H D I h
 exact wpAny_Return_some (thn (he pins s σ H _ I h) fun v s1 ⟨x,H1,I1,r1,q1⟩=>⟨x,σ,H1,I1,r1,q1⟩)
noncomputable def QlD (c:TT) (t u:TS):TS:=fun D σ H=>c σ H fun b H1=>if b=true then t D σ H1 else u D σ H1
theorem QiE {c:Expr} {a b:List Stmt} {tc:TT} (hc:PT X c tc) (ha:PSs X a t) (hb:PSs X b u):PS X (.If c a b pos) (QlD tc t u):=by
 intro pins s σ H D I h
 refine wpAny_If (thn (hc pins s σ H _ I h) fun d s1 ⟨H1,I1,q1⟩=>?_)
 cases d with
 | true=>exact ha pins s1 σ H1 D I1 q1
 | false=>exact hb pins s1 σ H1 D I1 q1
end

noncomputable abbrev TG:=V->St->Hp->(St->Hp->Prop)->Prop
noncomputable abbrev TGs:=List V->St->Hp->(St->Hp->Prop)->Prop
noncomputable def PG (X:Cx) (target:Expr) (t:TG):Prop:=
 ∀ (pins:List (Addr×Obj)) (s:Shared) (σ:St) (H:Hp) (v:V) (u:Value) (Q:St->Hp->Prop),Inv X pins σ H s->RelV v u->t v σ H Q ->
  wpAny (model X.prog X.w) X.A (assign target X.env u) (fun _ s'=>∃ σ' H',Inv X pins σ' H' s'/\Q σ' H') X.xe s
noncomputable def PGs (X:Cx) (ts:List Expr) (t:TGs):Prop:=
 ∀ (pins:List (Addr×Obj)) (s:Shared) (σ:St) (H:Hp) (vs:List V) (us:List Value) (Q:St->Hp->Prop),Inv X pins σ H s->Vals vs us->t vs σ H Q ->
  wpAny (model X.prog X.w) X.A (assignInOrder ((assignEach ts X.env).map (·.2)) us) (fun _ s'=>∃ σ' H',Inv X pins σ' H' s'/\Q σ' H') X.xe s
noncomputable abbrev Qjj:=V->V->V->Hp->(Hp->Prop)->Prop
noncomputable def QkT (X:Cx) (t:Qjj):Prop:=
 ∀ (pins:List (Addr×Obj)) (s:Shared) (σ:St) (H:Hp) (o i v:V) (ov iv u:Value) (Q:Hp->Prop),Inv X pins σ H s->RelV o ov->RelV i iv->RelV v u->t o i v H Q ->
  wpAny (model X.prog X.w) X.A (setItem ov iv u) (fun _ s'=>∃ H',Inv X pins σ H' s'/\Q H') X.xe s
section
variable {X:Cx} {pos:Pos}
noncomputable def Qaa (i:Nat):TG:=fun v σ H Q=>Q (σ.set i (some v)) H
theorem QaX {i:Nat} {x:Str} (hN:X.N.Nodup) (hi:X.N[i]?=some x) (hx:Loc X.env.scope x) (hf:X.fn x=true\/X.env.scope.names.lookup x=some .local:=by first | exact .inl rfl | exact .inr rfl | assumption):PG X (.Name x pos) (Qaa i):=by
 intro pins s σ H v u Q I r h
 exact wpAny_assign_Name (U3 I hN hi hx r (fun s' I'=>⟨_,H,I',h⟩) hf)
noncomputable def QkV:TGs:=fun vs σ H Q=>vs=[]/\Q σ H
noncomputable def Qgc (t:TG) (u:TGs):TGs:=fun vs σ H Q=>∃ v r,vs=v::r/\t v σ H fun σ' H'=>u r σ' H' Q
theorem QfI:PGs X [] QkV:=by
 intro pins s σ H vs us Q I r h
 obtain ⟨e,h⟩:=h
 subst e
 cases r
 exact assignInOrder_nil ⟨σ,H,I,h⟩
theorem Qc8 {e:Expr} {es:List Expr} {t:TG} {u:TGs} (h1:PG X e t) (h2:PGs X es u)
  (hs:(assignEach (e::es) X.env).map (·.2)=assign e X.env::(assignEach es X.env).map (·.2):=by rfl):PGs X (e::es) (Qgc t u):=by
 intro pins s σ H vs us Q I r h
 obtain ⟨v,vr,e1,h⟩:=h
 subst e1
 cases r with
 | cons r rr=>
  rw [hs]
  refine assignInOrder_cons (thn (h1 pins s σ H _ _ _ I r h) fun _ s1 ⟨σ1,H1,I1,q1⟩=>?_)
  exact h2 pins s1 σ1 H1 _ _ Q I1 rr q1
noncomputable def Qmp (K:PySem.W.Frag) (n:Nat) (t:TGs):TG:=fun v σ H Q=>∃ a xs,v=.ref a/\SqT K H a xs/\xs.length=n/\t xs σ H Q
theorem Qhy {es:List Expr} {k:Nat} {t:TGs} {n:Nat} (hc:X.calm=true) (h:PGs X es t)
  (hn:(assignEach es X.env).length=n:=by rfl) (hst:(assignEach es X.env).findIdx? (·.1)=none:=by rfl):PG X (.Tuple es k pos) (Qmp X.K n t):=by
 intro pins s σ H v u Q I r hw
 obtain ⟨a,xs,e1,hq,hl,hw⟩:=hw
 subst e1
 cases r
 obtain ⟨its,rv,ht,hz⟩:=I.tuple hq
 refine assign_Tuple_tuple (I.ok.hd hc) ht (by simp [hn,<- hl,rv.length]) hst fun h' hx=>?_
 have I1:Inv X pins σ H { s with heap:=h' }:=I.kept (t':=s.toks) fun b o e=>hx b o (Nat.ne_of_lt (Heap.lt_size e)) e
 exact h pins _ σ H xs _ Q I1 (by simpa using rv) hw
noncomputable def QkD (to ti:TE) (t:Qjj):TG:=fun v σ H Q=>to σ H fun o H1=>ti σ H1 fun i H2=>t o i v H2 fun H3=>Q σ H3
theorem Qgx {o i:Expr} {to ti:TE} {t:Qjj} (ho:PE X o to) (hi:PE X i ti) (hs:QkT X t)
  (ha:∀ v,assign (.Subscript o i pos) X.env v=(do
   let ov <- holding [v] (eval o X.env)
   let iv <- holding [v,ov] (eval i X.env)
   standAt pos
   holding [v,ov,iv] (setItem ov iv v)
   release [v,ov,iv] []):=by intro _;rfl):PG X (.Subscript o i pos) (QkD to ti t):=by
 intro pins s σ H v u Q I r h
 rw [ha]
 refine wpAny_bind (wpAny_holding (thn (ho pins s σ H _ I h) fun ov s1 ⟨x,H1,I1,r1,q1⟩=>?_))
 refine wpAny_bind (wpAny_holding (thn (hi pins s1 σ H1 _ I1 q1) fun iv s2 ⟨y,H2,I2,r2,q2⟩=>?_))
 refine wpAny_bind (wpAny_standAt (wpAny_bind (wpAny_holding (thn (hs pins s2 σ H2 x y v ov iv u _ I2 r1 r2 r q2) fun _ s3 ⟨H3,I3,q3⟩=>?_))))
 exact wpAny_release ⟨σ,H3,I3,q3⟩
noncomputable def Qie (te:TE) (g:TG):TS:=fun D σ H=>te σ H fun x H1=>g x σ H1 D.nx
theorem Qdx {tg e:Expr} {te:TE} {g:TG} (he:PE X e te) (hg:PG X tg g) (hs:swapsWithSole [tg] e pos.line X.env=pure false:=by rfl) (hw:swappedStores [tg] e X.env=pure none:=by rfl)
  (h1:(assignEach [tg] X.env).map (·.2)=[assign tg X.env]:=by rfl):PS X (.Assign [tg] e pos) (Qie te g):=by
 intro pins s σ H D I h
 refine wpAny_Assign_stores (thn (he pins s σ H _ I h) fun v s1 ⟨x,H1,I1,r1,q1⟩=>?_) hs hw
 rw [h1]
 exact thn (hg pins s1 σ H1 x v _ I1 r1 q1) fun _ s2 q=>q
theorem Qgi {i:Nat} {x:Str} {e:Expr} {te:TE} {pos':Pos} (hN:X.N.Nodup) (hi:X.N[i]?=some x) (hx:Loc X.env.scope x) (he:PE X e te) (hs:swapsWith e (some (.Name x pos')) pos.line X.env=pure false:=by rfl) (hf:X.fn x=true\/X.env.scope.names.lookup x=some .local:=by first | exact .inl rfl | exact .inr rfl | assumption) :
  PS X (.Assign [.Name x pos'] e pos) (Qie te (Qaa i)):=by
 intro pins s σ H D I h
 refine wpAny_Assign_Name (thn (he pins s σ H _ I h) fun v s1 ⟨y,H1,I1,r1,q1⟩=>?_) hs
 exact U3 I1 hN hi hx r1 (fun s2 I2=>⟨_,H1,I2,q1⟩) hf
end

section
variable {X:Cx} {pos:Pos}
noncomputable def QdT (c:TT) (tb:TS):TS:=fun D σ H=>∃ W:Nat->St->Hp->Prop,(∃ m,W m σ H)/\∀ m σ H,W m σ H ->
 c σ H fun b H1=>if b=true then ∃ N:St->Hp->Prop,(∀ σ' H',N σ' H'->∃ m',m' < m/\W m' σ' H')/\tb { D with nx:=N,ct:=N,bk:=D.nx } σ H1 else D.nx σ H1
theorem Qdm {c:Expr} {body:List Stmt} {tc:TT} {tb:TS} (hp:PassesOwn (model X.prog X.w) X.A X.env X.xe) (hc:PT X c tc) (hb:PSs X body tb):PS X (.While c body [] pos) (QdT tc tb):=by
 intro pins s σ H D I h
 obtain ⟨W,⟨m0,w0⟩,turn⟩:=h
 refine wpAny_While (codeAny_whileLoop (fun n s'=>∃ σ' H',Inv X pins σ' H' s'/\W n σ' H') ?_ m0 ⟨σ,H,I,w0⟩)
 rintro n s1 ⟨σ1,H1,I1,w1⟩
 refine wpAny_passesOwn hp (thn (hc pins s1 σ1 H1 _ I1 (turn n σ1 H1 w1)) fun b s2 ⟨H2,I2,q2⟩=>?_)
 cases b with
 | true=>
  obtain ⟨N,hN,q2⟩:=q2
  rw [if_pos rfl]
  refine wpAny_passesOwn hp (thn (hb pins s2 σ1 H2 _ I2 q2) fun f s3 q3=>?_)
  cases f with
  | next=>
   obtain ⟨σ3,H3,I3,n3⟩:=q3
   obtain ⟨m',hm,w3⟩:=hN σ3 H3 n3
   exact ⟨m',hm,σ3,H3,I3,w3⟩
  | cont=>
   obtain ⟨σ3,H3,I3,n3⟩:=q3
   obtain ⟨m',hm,w3⟩:=hN σ3 H3 n3
   exact ⟨m',hm,σ3,H3,I3,w3⟩
  | brk=>exact q3
  | ret v=>exact q3
 | false=>
  rw [if_neg Bool.false_ne_true]
  exact wpAny_execs_nil ⟨σ1,H2,I2,q2⟩
end

structure It where
 go:Nat->Hp->Prop
 yld:Nat->Hp->V->Hp->Prop
 stop:Nat->Hp->Prop
noncomputable def GW (X:Cx) (pins:List (Addr×Obj)) (H:Hp) (b:Addr):Prop:=
 H b=none/\b≠X.env.locals/\b∉X.fs/\(b∈X.ex\/X.s₀.heap.objs.size<=b)/\(∀ x c,X.env.cells.lookup x=some c->c≠b)/\∀ p∈X.pn++pins,p.1≠b
theorem Inv.fpOk {X:Cx} {pins:List (Addr×Obj)} {σ:St} {H H':Hp} {s:Shared} {b:Addr} (I:Inv X pins σ H s) (hb:s.heap.objs.size<=b) (hn:H' b=none):GW X pins H' b:=by
 refine ⟨hn,Nat.ne_of_gt (Nat.lt_of_lt_of_le I.lt hb),I.nofs hb,.inr (Nat.le_trans I.sz hb),fun x c e z=>?_,fun p hp z=>?_⟩
 ·obtain ⟨v,q⟩:=I.cell x c e
  exact absurd (Nat.lt_of_lt_of_le q.lt (by rw [z];exact hb)) (Nat.lt_irrefl _)
 ·exact absurd (Nat.lt_of_lt_of_le (Heap.lt_size (I.pin p hp).1) (by rw [z];exact hb)) (Nat.lt_irrefl _)
structure Turn (P:Program) (w:World) (K:PySem.W.Frag) (tg:Expr) (J:It) (fp:List Addr) (it:Addr) (tn:Nat->Heap->Prop):Prop where
 mem:it∈fp
 obj:∀ i h,tn i h->∀ b∈fp,∃ o,h.get? b=some o/\∀ v,o.data≠.cell v
 keep:∀ i h h',tn i h->(∀ b∈fp,∀ o,h.get? b=some o->h'.get? b=some o)->tn i h'
 item:∀ (X:Cx),X.prog=P->X.w=w->X.K=K->X.calm=true->∀ (i:Nat) (pins:List (Addr×Obj)) (s:Shared) (σ:St) (H:Hp) (E:Value->Shared->Prop),Inv X pins σ H s->(∀ b∈fp,GW X pins H b)->tn i s.heap->J.go i H ->
  wpAny (model P w) X.A (pyNext (.ref it)) (fun r s1=>∃ u,r=some u /\
   wpAny (model P w) X.A (letOwnedTupleGo tg (.ref it) u) (fun _ s2=>∃ x H',Inv X pins σ H' s2/\RelV x u/\J.yld i H x H'/\tn (i+1) s2.heap/\∀ b∈fp,H' b=none) E s1) E s
 done:∀ (X:Cx),X.prog=P->X.w=w->X.K=K->X.calm=true->∀ (i:Nat) (pins:List (Addr×Obj)) (s:Shared) (σ:St) (H:Hp) (E:Value->Shared->Prop),Inv X pins σ H s->(∀ b∈fp,GW X pins H b)->tn i s.heap->J.stop i H ->
  wpAny (model P w) X.A (pyNext (.ref it)) (fun r s1=>r=none/\Inv X pins σ H s1) E s
 self:∀ (A:Around) (i:Nat) (s:Shared) (Q:Value->Shared->Prop) (E:Value->Shared->Prop),tn i s.heap->Q (.ref it) s->wpAny (model P w) A (pyIter (.ref it)) Q E s
noncomputable abbrev TI:=St->Hp->(It->Hp->Prop)->Prop
noncomputable def PIE (X:Cx) (pins:List (Addr×Obj)) (σ:St) (tg:Expr) (R:It->Hp->Prop) (itv:Value) (s2:Shared):Prop:=
 ∃ (it:Addr) (fp:List Addr) (tn:Nat->Heap->Prop) (J:It) (H':Hp),itv=.ref it/\Inv X pins σ H' s2/\Turn X.prog X.w X.K tg J fp it tn/\tn 0 s2.heap/\(∀ b∈fp,GW X pins H' b)/\R J H'
noncomputable def PI (X:Cx) (tg iter:Expr) (wi:TI):Prop:=
 ∀ (pins:List (Addr×Obj)) (s:Shared) (σ:St) (H:Hp) (R:It->Hp->Prop),Inv X pins σ H s->wi σ H R ->
  wpAny (model X.prog X.w) X.A (eval iter X.env) (fun v s1=>wpAny (model X.prog X.w) X.A (pyIter v) (PIE X pins σ tg R) X.xe s1) X.xe s

theorem Qbm {M:Model} {A:Around} {E:Value->Shared->Prop} {s:Shared} {tg:Expr} {it:Addr} {u:Value} {o:Obj} {n:String} {vs:Array Value} {Q:Unit->Shared->Prop} (ho:s.heap.get? it=some o) (hc:o.cls=.type n) (hd:o.data=.fields vs)
    (hn:["enumerate","zip","dict_itemiterator","dict_reverseitemiterator","odict_iterator","itertools.zip_longest","itertools.pairwise"].contains n=false) (hQ:Q () s):wpAny M A (letOwnedTupleGo tg (.ref it) u) Q E s:=by
  unfold letOwnedTupleGo
  cases tg<;>first
    | exact wpAny_pure hQ
    | (cases u<;>first
        | exact wpAny_pure hQ
        | (refine wpAny_bind (wpAny_load ho ?_)
           rw [hc,hd]
           show wpAny M A (if (["enumerate","zip","dict_itemiterator","dict_reverseitemiterator","odict_iterator","itertools.zip_longest","itertools.pairwise"].contains n && vs[0]? == some (rawInt _))=true then _ else _) Q E s
           rw [if_neg (by intro h;rw [hn,Bool.false_and] at h;cases h)]
           exact wpAny_pure hQ))

noncomputable def Itl (K:PySem.W.Frag) (a:Addr):It:=
 ⟨fun i H=>∃ xs x,SqL K H a xs/\xs[i]?=some x,fun i H x H'=>H'=H/\∀ xs,SqL K H a xs->xs[i]?=some x,fun i H=>∃ xs,SqL K H a xs/\xs.length<=i⟩
noncomputable def Itt (K:PySem.W.Frag) (a:Addr):It:=
 ⟨fun i H=>∃ xs x,SqT K H a xs/\xs[i]?=some x,fun i H x H'=>H'=H/\∀ xs,SqT K H a xs->xs[i]?=some x,fun i H=>∃ xs,SqT K H a xs/\xs.length<=i⟩
noncomputable def Itr (lo:Int) (n:Nat):It:=⟨fun i _=>i < n,fun i H x H'=>H'=H/\x=.int (lo+i),fun i _=>n<=i⟩
theorem Qab {P:Program} {w:World} {K:PySem.W.Frag} {tg:Expr} (a it:Addr):Turn P w K tg (Itl K a) [it] it (fun i h=>h.IsListIter it a i) where
 mem:=by simp
 obj:=fun i h st b hb=>by
  have e:b=it:=by simpa using hb
  subst e
  obtain ⟨o,e,c,d⟩:=st
  exact ⟨o,e,fun v z=>by rw [d] at z;cases z⟩
 keep:=fun i h h' st k=>st.at fun o e=>k it (by simp) o e
 item:=by
  intro X hP hw hK hc i pins s σ H E I hf st hg
  subst hP hw hK
  obtain ⟨xs,x,hq,hx⟩:=hg
  obtain ⟨its,rv,p,hz⟩:=I.list hq
  obtain ⟨u,hu,ru⟩:=rv.get hx
  obtain ⟨f0,f1,f2,f3,f4,f5⟩:=hf it (by simp)
  refine wpAny_pyNext_list_item st p.isList (x:=u) (by simpa using hu) fun h' st' sb=>?_
  have I1:Inv X pins σ H { s with heap:=h' }:=I.turned (t':=s.toks) (fun b o hb e=>(sb.2 b hb).trans e) f0 f1 f3 f4 f5
  obtain ⟨o,e,c,d⟩:=id st'
  exact ⟨u,rfl,Qbm (s:={ s with heap:=h' }) e c d (by decide) ⟨x,H,I1,ru,⟨rfl,fun ys hy=>by rw [I.list_inj hy hq];exact hx⟩,st',fun b hb=>(hf b hb).1⟩⟩
 done:=by
  intro X hP hw hK hc i pins s σ H E I hf st hg
  subst hP hw hK
  obtain ⟨xs,hq,hx⟩:=hg
  obtain ⟨its,rv,p,hz⟩:=I.list hq
  obtain ⟨f0,f1,f2,f3,f4,f5⟩:=hf it (by simp)
  have hl:=rv.length
  exact wpAny_pyNext_list_end (I.ok.hd hc) st p.isList (by simp;omega) fun h' eb=>⟨rfl,I.turned (t':=s.toks) (fun b o hb e=>eb b o hb e) f0 f1 f3 f4 f5⟩
 self:=fun _ _ _ _ _ st h=>wpAny_pyIter_listiter st h
theorem GD {P:Program} {w:World} {K:PySem.W.Frag} {tg:Expr} (a it:Addr):Turn P w K tg (Itt K a) [it] it (fun i h=>h.IsTupleIter it a i) where
 mem:=by simp
 obj:=fun i h st b hb=>by
  have e:b=it:=by simpa using hb
  subst e
  obtain ⟨o,e,c,d⟩:=st
  exact ⟨o,e,fun v z=>by rw [d] at z;cases z⟩
 keep:=fun i h h' st k=>st.at fun o e=>k it (by simp) o e
 item:=by
  intro X hP hw hK hc i pins s σ H E I hf st hg
  subst hP hw hK
  obtain ⟨xs,x,hq,hx⟩:=hg
  obtain ⟨its,rv,p,hz⟩:=I.tuple hq
  obtain ⟨u,hu,ru⟩:=rv.get hx
  obtain ⟨f0,f1,f2,f3,f4,f5⟩:=hf it (by simp)
  refine wpAny_pyNext_tuple_item st (show s.heap.IsTuple a its.toArray from p) (x:=u) (by simpa using hu) fun h' st' sb=>?_
  have I1:Inv X pins σ H { s with heap:=h' }:=I.turned (t':=s.toks) (fun b o hb e=>(sb.2 b hb).trans e) f0 f1 f3 f4 f5
  obtain ⟨o,e,c,d⟩:=id st'
  exact ⟨u,rfl,Qbm (s:={ s with heap:=h' }) e c d (by decide) ⟨x,H,I1,ru,⟨rfl,fun ys hy=>by rw [I.tuple_inj hy hq];exact hx⟩,st',fun b hb=>(hf b hb).1⟩⟩
 done:=by
  intro X hP hw hK hc i pins s σ H E I hf st hg
  subst hP hw hK
  obtain ⟨xs,hq,hx⟩:=hg
  obtain ⟨its,rv,p,hz⟩:=I.tuple hq
  obtain ⟨f0,f1,f2,f3,f4,f5⟩:=hf it (by simp)
  have hl:=rv.length
  exact wpAny_pyNext_tuple_end (I.ok.hd hc) st (show s.heap.IsTuple a its.toArray from p) (by simp;omega) fun h' eb=>⟨rfl,I.turned (t':=s.toks) (fun b o hb e=>eb b o hb e) f0 f1 f3 f4 f5⟩
 self:=fun _ _ _ _ _ st h=>wpAny_pyIter_tupleiter st h
theorem GJ {P:Program} {w:World} {K:PySem.W.Frag} {tg:Expr} (it:Addr) (lo:Int) (n:Nat):Turn P w K tg (Itr lo n) [it] it (fun i h=>IsRangeIter h it (lo+(i:Nat)*1) ((n:Int) - (i:Nat)) 1) where
 mem:=by simp
 obj:=fun i h st b hb=>by
  have e:b=it:=by simpa using hb
  subst e
  exact ⟨_,st,fun v z=>by
   have z':Data.fields _=Data.cell v:=z
   cases z'⟩
 keep:=fun i h h' st k=>k it (by simp) _ st
 item:=by
  intro X hP hw hK hc i pins s σ H E I hf st hg
  subst hP hw hK
  obtain ⟨f0,f1,f2,f3,f4,f5⟩:=hf it (by simp)
  have W:=Walks.range (prog:=X.prog) (w:=X.w) (I.ok.hd hc) it lo 1 n
  refine W.item i s _ _ hg st fun v h' tk hv st' kk=>?_
  obtain ⟨t,rfl⟩:=hv
  have I1:Inv X pins σ H { s with heap:=h',toks:=tk }:=I.turned (fun b o hb e=>kk b o (by simpa using hb) e) f0 f1 f3 f4 f5
  refine ⟨_,rfl,Qbm (s:={ s with heap:=h',toks:=tk }) (n:="range_iterator") st' rfl rfl (by decide) ⟨.int (lo+i),H,I1,⟨t,?_⟩,⟨rfl,rfl⟩,st',fun b hb=>(hf b hb).1⟩⟩
  rw [Int.mul_one]
 done:=by
  intro X hP hw hK hc i pins s σ H E I hf st hg
  subst hP hw hK
  obtain ⟨f0,f1,f2,f3,f4,f5⟩:=hf it (by simp)
  exact wpAny_pyNext_range_end (I.ok.hd hc) st (by have:n<=i:=hg;omega) fun h' eb=>⟨rfl,I.turned (t':=s.toks) (fun b o hb e=>eb b o hb e) f0 f1 f3 f4 f5⟩
 self:=fun _ _ _ _ _ st h=>wpAny_pyIter_rangeiter st h
end L2

namespace L2
open PySem PySem.Spec PyProof.Rows
section
variable {X:Cx} {tg:Expr}
theorem UD {pins:List (Addr×Obj)} {σ:St} {H:Hp} {s:Shared} {R:It->Hp->Prop} {E:Value->Shared->Prop} {lo hi:Int} {t u v:Tok} {tk:Nat} (I:Inv X pins σ H s) (h1:-(2 ^ 62)<=lo) (h2:lo < 2 ^ 62) (h3:-(2 ^ 62)<=hi) (h4:hi < 2 ^ 62)
  (q:R (Itr lo (hi - lo).toNat) H):wpAny (model X.prog X.w) X.A (pyIter (.ref s.heap.objs.size)) (PIE X pins σ tg R) E { s with heap:=s.heap.push { cls:=.type "range",data:=.fields #[.int lo t,.int hi u,.int 1 v] },toks:=tk }:=by
 refine wpAny_pyIter_range (IsRange.new ..) (small_one h1 h2 h3 h4) ?_
 have I1:Inv X pins σ H { s with heap:=s.heap.push { cls:=.type "range",data:=.fields #[.int lo t,.int hi u,.int 1 v] },toks:=tk }:=I.kept fun b o e=>Heap.get?_push_of_some _ e
 refine ⟨(s.heap.push { cls:=.type "range",data:=.fields #[.int lo t,.int hi u,.int 1 v] }).objs.size,[(s.heap.push { cls:=.type "range",data:=.fields #[.int lo t,.int hi u,.int 1 v] }).objs.size],_,_,H,rfl,
  I1.kept (t':=tk) fun b o e=>Heap.get?_push_of_some _ e,GJ _ lo (hi - lo).toNat,?_,fun b hb=>?_,q⟩
 ·have e1:lo+((0:Nat):Int)*1=lo:=by simp
  have e2:(((hi - lo).toNat:Nat):Int) - ((0:Nat):Int)=Builtin.Range.rangeSize lo hi 1:=by rw [rangeSize_one];split<;>omega
  show IsRangeIter _ _ (lo+((0:Nat):Int)*1) ((((hi - lo).toNat:Nat):Int) - ((0:Nat):Int)) 1
  rw [e1,e2]
  exact Heap.get?_push_size _ rfl
 ·have e:b=(s.heap.push { cls:=.type "range",data:=.fields #[.int lo t,.int hi u,.int 1 v] }).objs.size:=by simpa using hb
  subst e
  exact I1.fpOk (Nat.le_refl _) (I1.hok.fresh (Nat.le_refl _))
noncomputable def Qjc (ta:TA):TI:=fun σ H R=>ta σ H fun vs H1=>∃ j:Int,vs=[.int j]/\-(2 ^ 62)<=j/\j < 2 ^ 62/\R (Itr 0 j.toNat) H1
noncomputable def QjH (ta:TA):TI:=fun σ H R=>ta σ H fun vs H1=>∃ i j:Int,vs=[.int i,.int j]/\(-(2 ^ 62)<=i/\i < 2 ^ 62/\-(2 ^ 62)<=j/\j < 2 ^ 62)/\R (Itr i (j - i).toNat) H1
theorem Qbf {a:Expr} {ta:TA} {p pos:Pos} (hg:Gl X "range") (hm:X.mg "range"=none) (ha:PA X [a] ta) (hs:starEach [a] X.env=[(false,eval a X.env)]:=by rfl):PI X tg (.Call (.Name "range" p) [a] [] pos) (Qjc ta):=by
 intro pins s σ H R I h
 refine Call_ (Vz I hg hm boot_range (PyProof.Rows.callWith_type1 (thn (ha pos pins s σ H _ I h) fun us s1 ⟨vs,H1,I1,r1,q1⟩=>?_) hs rfl))
 obtain ⟨j,e,q1,q2,q⟩:=q1
 subst e
 cases r1 with
 | cons r rr=>
  cases rr
  obtain ⟨t,rfl⟩:=r
  exact call_range_1 (UD I1 (by omega) (by omega) q1 q2 (by simpa using q))
theorem QbR {a b:Expr} {ta:TA} {p pos:Pos} (hg:Gl X "range") (hm:X.mg "range"=none) (ha:PA X [a,b] ta) (hs:starEach [a,b] X.env=[(false,eval a X.env),(false,eval b X.env)]:=by rfl) (hs2:starEach [b] X.env=[(false,eval b X.env)]:=by rfl) :
  PI X tg (.Call (.Name "range" p) [a,b] [] pos) (QjH ta):=by
 intro pins s σ H R I h
 refine Call_ (Vz I hg hm boot_range (PyProof.Rows.callWith_type1 (thn (ha pos pins s σ H _ I h) fun us s1 ⟨vs,H1,I1,r1,q1⟩=>?_) (by rw [hs,hs2]) (by rw [hs2];rfl)))
 obtain ⟨i,j,e,⟨q1,q2,q3,q4⟩,q⟩:=q1
 subst e
 cases r1 with
 | cons r rr=>
  cases rr with
  | cons r' rr=>
   cases rr
   obtain ⟨t,rfl⟩:=r
   obtain ⟨t',rfl⟩:=r'
   exact call_range_2 (UD I1 q1 q2 q3 q4 q)

noncomputable def QkX (wi:TI) (g:TG) (tb:TS):TS:=fun D σ H=>wi σ H fun J H1=>∃ W:Nat->Nat->St->Hp->Prop,(∃ m,W 0 m σ H1)/\∀ i m σ H,W i m σ H ->
 (J.stop i H/\D.nx σ H)\/(J.go i H/\∃ N:St->Hp->Prop,(∀ σ' H',N σ' H'->∃ m',m' < m/\W (i+1) m' σ' H')/\∀ x H',J.yld i H x H'->g x σ H' fun σ2 H2=>tb { D with nx:=N,ct:=N,bk:=D.nx } σ2 H2)
noncomputable def Y6 (fp:List Addr) (h:Heap):List (Addr×Obj):=fp.filterMap fun b=>(h.get? b).map fun o=>(b,o)
theorem VJ {fp:List Addr} {h:Heap} {b:Addr} {o:Obj} (hb:b∈fp) (e:h.get? b=some o):(b,o)∈Y6 fp h:=List.mem_filterMap.mpr ⟨b,hb,by rw [e];rfl⟩
theorem Qai {fp:List Addr} {h:Heap} {p:Addr×Obj} (hp:p∈Y6 fp h):p.1∈fp/\h.get? p.1=some p.2:=by
 obtain ⟨b,hb,e⟩:=List.mem_filterMap.mp hp
 cases q:h.get? b with
 | none=>rw [q] at e;cases e
 | some o=>
  rw [q] at e
  have e':(b,o)=p:=Option.some.inj e
  subst e'
  exact ⟨hb,q⟩
theorem Inv.pinned {pins:List (Addr×Obj)} {σ:St} {H:Hp} {s:Shared} {fp:List Addr} (I:Inv X pins σ H s) (hf:∀ b∈fp,GW X pins H b) (ho:∀ b∈fp,∃ o,s.heap.get? b=some o/\∀ v,o.data≠.cell v):Inv X (pins++Y6 fp s.heap) σ H s:=
 I.pins_of fun p hp=>(List.mem_append.mp hp).elim (fun z=>I.pin p (List.mem_append_right _ z)) fun z=>by
  obtain ⟨hb,e⟩:=Qai z
  obtain ⟨f0,f1,f2,_⟩:=hf p.1 hb
  obtain ⟨o,e',d⟩:=ho p.1 hb
  rw [e] at e';cases e'
  exact ⟨e,f0,f1,f2,d⟩
theorem Inv.unpinned {pins pl:List (Addr×Obj)} {σ:St} {H:Hp} {s:Shared} (I:Inv X (pins++pl) σ H s):Inv X pins σ H s:=I.pins_of fun p hp=>I.pin p (List.mem_append_right _ (List.mem_append_left _ hp))
theorem Qhl {iter:Expr} {body:List Stmt} {wi:TI} {g:TG} {tb:TS} {pos:Pos} (hp:PassesOwn (model X.prog X.w) X.A X.env X.xe) (hc:X.calm=true) (hi:PI X tg iter wi) (hg:PG X tg g) (hb:PSs X body tb)
  (hs:∀ x,foldedSetIterable iter X.env x=pure x:=by intro _;rfl):PS X (.For tg iter body [] pos) (QkX wi g tb):=by
 intro pins s σ H D I h
 refine wpAny_For (thn (hi pins s σ H _ I h) fun v s1 h1=>thn h1 fun itv s2 h2=>?_) hs
 obtain ⟨it,fp,tn,J,H2,e,I2,T,st2,f2,W,⟨m0,w0⟩,turn⟩:=h2
 subst e
 -- what stays true of the iterator's objects through the loop
 have stat:∀ {H':Hp},(∀ b∈fp,H' b=none)->∀ b∈fp,GW X pins H' b:=fun hn b hb=>⟨hn b hb,(f2 b hb).2⟩
 refine codeAny_forLoop_any (fun n s'=>∃ i σ' H',Inv X pins σ' H' s'/\tn i s'.heap/\(∀ b∈fp,H' b=none)/\W i n σ' H') ?_ m0 ⟨0,σ,H2,I2,st2,fun b hb=>(f2 b hb).1,w0⟩
 rintro n s3 ⟨i,σ3,H3,I3,st3,fr3,w3⟩
 rcases turn i n σ3 H3 w3 with ⟨stop,qn⟩ | ⟨go,N,hN,step⟩
 ·refine wpAny_passesOwn hp (thn (T.done X rfl rfl rfl hc i pins s3 σ3 H3 X.xe I3 (stat fr3) st3 stop) fun r s4 ⟨hr,I4⟩=>?_)
  subst hr
  exact wpAny_execs_nil ⟨σ3,H3,I4,qn⟩
 ·refine wpAny_passesOwn hp (thn (T.item X rfl rfl rfl hc i pins s3 σ3 H3 X.xe I3 (stat fr3) st3 go) fun r s4 ⟨u,hr,h4⟩=>?_)
  subst hr
  refine wpAny_passesOwn hp (thn h4 fun _ s5 ⟨x,H5,I5,r5,y5,st5,fr5⟩=>?_)
  have I5':=I5.pinned (stat fr5) (T.obj _ _ st5)
  refine wpAny_passesOwn hp (thn (hg _ s5 σ3 H5 x u _ I5' r5 (step x H5 y5)) fun _ s6 ⟨σ6,H6,I6,q6⟩=>?_)
  refine wpAny_passesOwn hp (thn (hb _ s6 σ6 H6 _ I6 q6) fun f s7 q7=>?_)
  have again:∀ {σ7:St} {H7:Hp},Inv X (pins++Y6 fp s5.heap) σ7 H7 s7->N σ7 H7->∃ m,m < n/\∃ i σ' H',Inv X pins σ' H' s7/\tn i s7.heap/\(∀ b∈fp,H' b=none)/\W i m σ' H':=fun {σ7 H7} I7 n7=>by
   obtain ⟨m',hm,w7⟩:=hN σ7 H7 n7
   refine ⟨m',hm,i+1,σ7,H7,I7.unpinned,T.keep _ _ _ st5 fun b hb o e=>(I7.pin (b,o) (List.mem_append_right _ (List.mem_append_right _ (VJ hb e)))).1,fun b hb=>?_,w7⟩
   obtain ⟨o,e,d⟩:=T.obj _ _ st5 b hb
   exact (I7.pin (b,o) (List.mem_append_right _ (List.mem_append_right _ (VJ hb e)))).2.1
  cases f with
  | next=>obtain ⟨σ7,H7,I7,n7⟩:=q7;exact again I7 n7
  | cont=>obtain ⟨σ7,H7,I7,n7⟩:=q7;exact again I7 n7
  | brk=>obtain ⟨σ7,H7,I7,q7⟩:=q7;exact ⟨σ7,H7,I7.unpinned,q7⟩
  | ret v=>obtain ⟨x7,σ7,H7,I7,r7,q7⟩:=q7;exact ⟨x7,σ7,H7,I7.unpinned,r7,q7⟩
end

end L2

namespace L2
open PySem PySem.Spec PyProof.Rows

noncomputable abbrev R2:=V->V->Hp->VK->Prop
noncomputable def OpR (X:Cx) (f:Value->Value->Sem Value) (r:R2):Prop:=
 ∀ (pins:List (Addr×Obj)) (s:Shared) (σ:St) (H:Hp) (x y:V) (v u:Value) (Q:VK),Inv X pins σ H s->RelV x v->RelV y u->r x y H Q ->
  wpAny (model X.prog X.w) X.A (f v u) (EP X pins σ Q) X.xe s
noncomputable def UnR (X:Cx) (f:Value->Sem Value) (r:V->Hp->VK->Prop):Prop:=
 ∀ (pins:List (Addr×Obj)) (s:Shared) (σ:St) (H:Hp) (x:V) (v:Value) (Q:VK),Inv X pins σ H s->RelV x v->r x H Q ->
  wpAny (model X.prog X.w) X.A (f v) (EP X pins σ Q) X.xe s
noncomputable def CallR (X:Cx) (f:Value) (r:List V->Hp->VK->Prop):Prop:=
 ∀ (pins:List (Addr×Obj)) (s:Shared) (σ:St) (H:Hp) (xs:List V) (us:List Value) (Q:VK),Inv X pins σ H s->Vals xs us->r xs H Q ->
  wpAny (model X.prog X.w) X.A (call f us) (EP X pins σ Q) X.xe s
noncomputable def QlM (X:Cx) (r:V->Hp->(Bool->Hp->Prop)->Prop):Prop:=
 ∀ (pins:List (Addr×Obj)) (s:Shared) (σ:St) (H:Hp) (x:V) (v:Value) (Q:Bool->Hp->Prop),Inv X pins σ H s->RelV x v->r x H Q ->
  wpAny (model X.prog X.w) X.A (truthy v) (TP X pins σ Q) X.xe s

noncomputable def tOp (r:R2) (ta tb:TE):TE:=fun σ H Q=>ta σ H fun x H1=>tb σ H1 fun y H2=>r x y H2 Q
noncomputable def tUn (r:V->Hp->VK->Prop) (ta:TE):TE:=fun σ H Q=>ta σ H fun x H1=>r x H1 Q
noncomputable def rI (C:Int->Int->Prop) (g:Int->Int->V):R2:=fun x y H Q=>∃ i j,x=.int i/\y=.int j/\C i j/\Q (g i j) H
noncomputable def rI0 (g:Int->Int->V):R2:=fun x y H Q=>∃ i j,x=.int i/\y=.int j/\Q (g i j) H
noncomputable def rU (g:Int->V):V->Hp->VK->Prop:=fun x H Q=>∃ i,x=.int i/\Q (g i) H

section
variable {X:Cx} {a b c:Expr} {ta tb tc:TE} {pos:Pos}

theorem QiV (ha:PE X a ta) (hb:PE X b tb) {pins:List (Addr×Obj)} {s:Shared} {σ:St} {H:Hp} {R:V->V->Hp->Prop} (I:Inv X pins σ H s)
  (h:ta σ H fun x H1=>tb σ H1 fun y H2=>R x y H2) {Q:Value->Shared->Prop} {f:Value->Value->Sem Value}
  (hf:∀ v u s2 x y H2,Inv X pins σ H2 s2->RelV x v->RelV y u->R x y H2->wpAny (model X.prog X.w) X.A (f v u) Q X.xe s2) :
  wpAny (model X.prog X.w) X.A (eval a X.env) (fun v s₁=>wpAny (model X.prog X.w) X.A (eval b X.env) (fun u s₂=>wpAny (model X.prog X.w) X.A (f v u) Q X.xe s₂) X.xe s₁) X.xe s:=by
 refine thn (ha pins s σ H _ I h) fun v s1 ⟨x,H1,I1,r1,q1⟩=>?_
 refine thn (hb pins s1 σ H1 _ I1 q1) fun u s2 ⟨y,H2,I2,r2,q2⟩=>?_
 exact hf v u s2 x y H2 I2 r1 r2 q2

theorem QiT {op:Operator} {r:R2} (ho:OpR X (binaryOp op) r) (ha:PE X a ta) (hb:PE X b tb):PE X (.BinOp a op b pos) (tOp r ta tb):=by
 intro pins s σ H Q I h
 exact wpAny_BinOp (QiV ha hb I h fun v u s2 x y H2 I2 rx ry q=>ho pins s2 σ H2 x y v u Q I2 rx ry q)
theorem Qjm {op:UnaryOp} {r:V->Hp->VK->Prop} (ho:UnR X (unaryOp op) r) (ha:PE X a ta):PE X (.UnaryOp op a pos) (tUn r ta):=by
 intro pins s σ H Q I h
 exact UnaryOp_ (thn (ha pins s σ H _ I h) fun v s1 ⟨x,H1,I1,r1,q1⟩=>ho pins s1 σ H1 x v Q I1 r1 q1)
theorem opI {f:Value->Value->Sem Value} {C:Int->Int->Prop} {g:Int->Int->Int}
  (rule:∀ (i j:Int) (t u:Tok) (s:Shared) (Q:Value->Shared->Prop) (E:Value->Shared->Prop),C i j->Q (.int (g i j) s.toks) { s with toks:=s.toks+1 }->wpAny (model X.prog X.w) X.A (f (.int i t) (.int j u)) Q E s) :
  OpR X f (rI C fun i j=>.int (g i j)):=by
 intro pins s σ H x y v u Q I rx ry h
 obtain ⟨i,j,rfl,rfl,hc,q⟩:=h
 obtain ⟨t,rfl⟩:=rx
 obtain ⟨t',rfl⟩:=ry
 exact rule i j t t' s _ _ hc ⟨.int (g i j),H,I.tok _,⟨_,rfl⟩,q⟩
theorem Qj6 {f:Value->Value->Sem Value} {g:Int->Int->Int}
  (rule:∀ (i j:Int) (t u:Tok) (s:Shared) (Q:Value->Shared->Prop) (E:Value->Shared->Prop),Q (.int (g i j) s.toks) { s with toks:=s.toks+1 }->wpAny (model X.prog X.w) X.A (f (.int i t) (.int j u)) Q E s) :
  OpR X f (rI0 fun i j=>.int (g i j)):=by
 intro pins s σ H x y v u Q I rx ry h
 obtain ⟨i,j,rfl,rfl,q⟩:=h
 obtain ⟨t,rfl⟩:=rx
 obtain ⟨t',rfl⟩:=ry
 exact rule i j t t' s _ _ ⟨.int (g i j),H,I.tok _,⟨_,rfl⟩,q⟩
theorem Qja {f:Value->Value->Sem Value} {g:Int->Int->Bool}
  (rule:∀ (i j:Int) (t u:Tok) (s:Shared) (Q:Value->Shared->Prop) (E:Value->Shared->Prop),Q (.bool (g i j)) s->wpAny (model X.prog X.w) X.A (f (.int i t) (.int j u)) Q E s) :
  OpR X f (rI0 fun i j=>.bl (g i j)):=by
 intro pins s σ H x y v u Q I rx ry h
 obtain ⟨i,j,rfl,rfl,q⟩:=h
 obtain ⟨t,rfl⟩:=rx
 obtain ⟨t',rfl⟩:=ry
 exact rule i j t t' s _ _ ⟨.bl (g i j),H,I,rfl,q⟩

noncomputable def Qlk (i j:Int):Prop:=0 < j/\j < 1073741824
noncomputable def Ql8 (i j:Int):Prop:=0<=j/\j<=1000000/\i.natAbs < 2 ^ 64
noncomputable def CMul (i j:Int):Prop:=(-(2 ^ 64) < i/\i < 2 ^ 64)\/(-(2 ^ 64) < j/\j < 2 ^ 64)
theorem CMul.ok {i j:Int} (h:CMul i j):IntMulOk i j:=by
 rcases h with ⟨h1,h2⟩ | ⟨h1,h2⟩
 ·exact .of_left (intBits_le_64 h1 h2)
 ·exact .of_right (intBits_le_64 h1 h2)
theorem op_add:OpR X (binaryOp .Add) (rI0 fun i j=>.int (i+j)):=Qj6 fun _ _ _ _ _ _ _ q=>add_int q
theorem QgV:OpR X (binaryOp .Sub) (rI0 fun i j=>.int (i - j)):=Qj6 fun _ _ _ _ _ _ _ q=>sub_int q
theorem QgN:OpR X (binaryOp .Mult) (rI CMul fun i j=>.int (i*j)):=opI fun _ _ _ _ _ _ _ hc q=>mul_int q hc.ok
theorem Qem:OpR X (binaryOp .FloorDiv) (rI Qlk fun i j=>.int (i / j)):=opI fun i j _ _ _ _ _ hc q=>by
 have h1:(0:Int) < j:=hc.1
 have h2:j < 1073741824:=hc.2
 exact floordiv_int (by omega) (by rw [Int.fdiv_eq_ediv_of_nonneg i (by omega)];exact q) (.inl (PyProof.noPylong_small (by omega)))
theorem QgW:OpR X (binaryOp .Mod) (rI (fun _ j=>0 < j) fun i j=>.int (i % j)):=opI fun i j _ _ _ _ _ hc q=>by
 have h1:(0:Int) < j:=hc
 exact mod_int' (by omega) (by rw [Int.fmod_eq_emod_of_nonneg i (by omega)];exact q)
theorem Qf8:OpR X (binaryOp .Pow) (rI Ql8 fun i j=>.int (i ^ j.toNat)):=opI fun _ _ _ _ _ _ _ hc q=>pow_int_small hc.1 hc.2.1 hc.2.2 q
theorem unI {f:Value->Sem Value} {g:Int->Int}
  (rule:∀ (i:Int) (t:Tok) (s:Shared) (Q:Value->Shared->Prop) (E:Value->Shared->Prop),Q (.int (g i) s.toks) { s with toks:=s.toks+1 }->wpAny (model X.prog X.w) X.A (f (.int i t)) Q E s) :
  UnR X f (rU fun i=>.int (g i)):=by
 intro pins s σ H x v Q I rx h
 obtain ⟨i,rfl,q⟩:=h
 obtain ⟨t,rfl⟩:=rx
 exact rule i t s _ _ ⟨.int (g i),H,I.tok _,⟨_,rfl⟩,q⟩
theorem Qgj:UnR X (unaryOp .USub) (rU fun i=>.int (-i)):=unI fun _ _ _ _ _ q=>neg_int q
end

section
variable {X:Cx} {a b c:Expr} {ta tb tc:TE} {pos:Pos}
theorem QdC {pins:List (Addr×Obj)} {σ:St} {H:Hp} {s:Shared} {Q:VK} {k k':Bool} (I:Inv X pins σ H s) (q:Q (.bl k) H) (e:k=k'):EP X pins σ Q (.bool k') s:=by
 subst e
 exact ⟨.bl k,H,I,rfl,q⟩
theorem op_lt:OpR X (compareOp .Lt) (rI0 fun i j=>.bl (decide (i < j))):=Qja fun _ _ _ _ _ _ _ q=>lt_int q
theorem QiH:OpR X (compareOp .Gt) (rI0 fun i j=>.bl (decide (j < i))):=Qja fun _ _ _ _ _ _ _ q=>gt_int q
theorem Qjb:OpR X (compareOp .GtE) (rI0 fun i j=>.bl (decide (j<=i))):=Qja fun _ _ _ _ _ _ _ q=>ge_int q
theorem QaW:OpR X (compareOp .Lt) (fun x y H Q=>∃ i j,x=.str i/\y=.str j/\Q (.bl (decide (i.cps.toList < j.cps.toList))) H):=by
 intro pins s σ H x y v u Q I rx ry h
 obtain ⟨i,j,rfl,rfl,q⟩:=h
 obtain ⟨t,rfl⟩:=rx
 obtain ⟨t',rfl⟩:=ry
 exact lt_str (QdC I q rfl)
theorem QeN:OpR X (compareOp .IsNot) (fun x y H Q=>y=.non/\Q (.bl (!decide (x=.non))) H):=by
 intro pins s σ H x y v u Q I rx ry h
 obtain ⟨rfl,q⟩:=h
 cases ry
 refine isnot_none_gen (QdC I q ?_)
 cases x<;>first
  | (cases rx;rfl)
  | (obtain ⟨t,rfl⟩:=rx;rfl)

theorem OpR.or {f:Value->Value->Sem Value} {r r':R2} (h:OpR X f r) (h':OpR X f r'):OpR X f (fun x y H Q=>r x y H Q\/r' x y H Q):=by
 intro pins s σ H x y v u Q I rx ry q
 rcases q with q | q
 ·exact h pins s σ H x y v u Q I rx ry q
 ·exact h' pins s σ H x y v u Q I rx ry q

theorem QfK {op:CmpOp} {r:R2} (ho:OpR X (compareOp op) r) (ha:PE X a ta) (hb:PE X b tb) (hm:behindInMarks op b=false):PE X (.Compare a [op] [b] pos) (tOp r ta tb):=by
 intro pins s σ H Q I h
 exact wpAny_Compare1 (QiV ha hb I h fun v u s2 x y H2 I2 rx ry q=>ho pins s2 σ H2 x y v u Q I2 rx ry q) hm
noncomputable def Qjg (t:TE):TT:=fun σ H Q=>t σ H fun x H'=>∃ k,x=.bl k/\Q k H'
theorem QeP {op:CmpOp} {r:R2} (ho:OpR X (compareOp op) r) (ha:PE X a ta) (hb:PE X b tb) (hm:behindInMarks op b=false):PT X (.Compare a [op] [b] pos) (Qjg (tOp r ta tb)):=by
 intro pins s σ H Q I h
 refine wpAny_isTrue_Compare1 (thn (ha pins s σ H _ I h) fun v s1 ⟨x,H1,I1,r1,q1⟩=>thn (hb pins s1 σ H1 _ I1 q1) fun u s2 ⟨y,H2,I2,r2,q2⟩=>
  thn (ho pins s2 σ H2 x y v u _ I2 r1 r2 q2) fun c s3 ⟨z,H3,I3,r3,k,e,q3⟩=>?_) hm
 subst e
 cases r3
 exact wpAny_truthy_bool ⟨H3,I3,q3⟩
noncomputable def QjL (K:PySem.W.Frag) (x:V) (H:Hp) (k:Bool):Prop:=
 match x with
 | .non=>k=false
 | .bl b=>k=b
 | .int i=>k=(i != 0)
 | .str y=>y.length<=sizeLine/\k=((y.length:Int) != 0)
 | .byt y=>y.size<=sizeLine/\k=((y.size:Int) != 0)
 | .ref p=>(∃ xs,SqL K H p xs/\k=!xs.isEmpty)\/(∃ xs,SqT K H p xs/\k=!xs.isEmpty)\/∃ kvs,H p=some (.dK kvs)/\k=!kvs.isEmpty
 | _=>False
theorem Ge {κ:Type} {kvs:List (κ×V)} {vs:List (κ×Value)} (r:KV kvs vs):(!vs.isEmpty)=!kvs.isEmpty:=by
 cases r<;>rfl
theorem KO {xs:List V} {its:List Value} (r:Vals xs its):(!its.toArray.isEmpty)=!xs.isEmpty:=by
 cases r<;>simp
theorem XV:(sizeLine:Nat) < 2 ^ 63:=by rw [sizeLine_eq];decide
theorem Qho:QlM X (fun x H Q=>∃ k,QjL X.K x H k/\Q k H):=by
 intro pins s σ H x v Q I rx h
 obtain ⟨k,e,q⟩:=h
 have hl:=XV
 have hs:sizeLine=16777216:=sizeLine_eq
 cases x with
 | non=>
  cases rx
  have e':k=false:=e
  subst e'
  exact truthy_none ⟨H,I,q⟩
 | bl b=>
  cases rx
  have e':k=b:=e
  subst e'
  exact wpAny_truthy_bool ⟨H,I,q⟩
 | int i=>
  obtain ⟨t,rfl⟩:=rx
  have e':k=(i != 0):=e
  subst e'
  exact PySem.P.truthy_int ⟨H,I,q⟩
 | str y=>
  obtain ⟨t,rfl⟩:=rx
  obtain ⟨hy,e'⟩:y.length<=sizeLine/\k=((y.length:Int) != 0):=e
  subst e'
  exact PySem.P.truthy_str (by omega) ⟨H,I.tok _,q⟩
 | byt y=>
  obtain ⟨t,rfl⟩:=rx
  obtain ⟨hy,e'⟩:y.size<=sizeLine/\k=((y.size:Int) != 0):=e
  subst e'
  exact PySem.W.truthy_bytes (by omega) ⟨H,I.tok _,q⟩
 | ref p=>
  cases rx
  have e':(∃ xs,SqL X.K H p xs/\k=!xs.isEmpty)\/(∃ xs,SqT X.K H p xs/\k=!xs.isEmpty)\/∃ kvs,H p=some (.dK kvs)/\k=!kvs.isEmpty:=e
  rcases e' with ⟨xs,hx,e'⟩ | ⟨xs,hx,e'⟩ | ⟨kvs,hx,e'⟩
  ·subst e'
   obtain ⟨its,r,pl,hz⟩:=I.list hx
   have hlen:=r.length
   exact wpAny_truthy_list pl.isList (by simp only [List.size_toArray];omega) ⟨H,I.tok _,by rw [KO r];exact q⟩
  ·subst e'
   obtain ⟨its,r,pl,hz⟩:=I.tuple hx
   have hlen:=r.length
   exact truthy_tuple pl (by simp only [List.size_toArray];omega) ⟨H,I.tok _,by rw [KO r];exact q⟩
  ·subst e'
   obtain ⟨hz,hS,vs,r,m⟩:kvs.length<=sizeLine/\(p == sysModules)=false/\∃ vs,KV kvs vs/\s.heap.DictOf (JW X.prog X.w) p vs:=I.hok p _ hx
   have hlen:kvs.length=vs.length:=Paired.length r
   exact wpAny_truthy_dict hS m (by omega) ⟨H,I.tok _,by rw [Ge r];exact q⟩
 | _=>exact (show False from e).elim
theorem Qc0 (ha:PE X a ta) (he:∀ whole,isTrue a X.env whole=(do let v <- whole;standAt a.pos;holding [v] (truthy v))) :
  PT X a (fun σ H Q=>ta σ H fun x H'=>∃ k,QjL X.K x H' k/\Q k H'):=by
 intro pins s σ H Q I h
 exact isTrue_plain (thn (ha pins s σ H _ I h) fun v s1 ⟨x,H1,I1,r1,q1⟩=>Qho pins s1 σ H1 x v Q I1 r1 q1) (he _)

theorem op_add_str:OpR X (binaryOp .Add) (fun x y H Q=>∃ i j,x=.str i/\y=.str j/\i.length+j.length<=sizeLine/\Q (.str (i++j)) H):=by
 intro pins s σ H x y v u Q I rx ry h
 obtain ⟨i,j,rfl,rfl,hz,q⟩:=h
 obtain ⟨t,rfl⟩:=rx
 obtain ⟨t',rfl⟩:=ry
 exact add_str (fun t' tk=>⟨.str (i++j),H,I.tok _,⟨_,rfl⟩,q⟩) hz
theorem Uc {x:V} {us:List Value} (r:Vals [x] us):∃ u,us=[u]/\RelV x u:=by
 cases r with
 | cons r1 r2=>cases r2;exact ⟨_,rfl,r1⟩
theorem Uj {x y:V} {us:List Value} (r:Vals [x,y] us):∃ u w',us=[u,w']/\RelV x u/\RelV y w':=by
 cases r with
 | cons r1 r2=>
  cases r2 with
  | cons r3 r4=>cases r4;exact ⟨_,_,rfl,r1,r3⟩
theorem QbZ (hc:X.calm=true):CallR X (.builtin "max") (fun xs H Q=>∃ i j,xs=[.int i,.int j]/\Q (.int (if j > i then j else i)) H):=by
 intro pins s σ H xs us Q I r h
 obtain ⟨i,j,rfl,q⟩:=h
 obtain ⟨u,w',rfl,⟨t,rfl⟩,⟨t',rfl⟩⟩:=Uj r
 refine max_two_ints (I.ok.hd hc) fun h' tk k=>⟨_,H,I.kept k,?_,q⟩
 by_cases hj:j > i
 ·rw [if_pos hj,if_pos hj];exact ⟨_,rfl⟩
 ·rw [if_neg hj,if_neg hj];exact ⟨_,rfl⟩
theorem G6 (hc:X.calm=true):CallR X (.builtin "min") (fun xs H Q=>∃ i j,xs=[.int i,.int j]/\Q (.int (if j < i then j else i)) H):=by
 intro pins s σ H xs us Q I r h
 obtain ⟨i,j,rfl,q⟩:=h
 obtain ⟨u,w',rfl,⟨t,rfl⟩,⟨t',rfl⟩⟩:=Uj r
 refine min_two_ints (I.ok.hd hc) fun h' tk k=>⟨_,H,I.kept k,?_,q⟩
 by_cases hj:j < i
 ·rw [if_pos hj,if_pos hj];exact ⟨_,rfl⟩
 ·rw [if_neg hj,if_neg hj];exact ⟨_,rfl⟩
end
end L2

namespace L2
open PySem PySem.Spec PyProof.Rows

structure ObjM (h:Heap) (x dx C:Addr) (mA:Str->Option Value):Prop where
 obj:h.get? x=some (PySem.W.instObj C dx)
 ns:h.Ns1 dx mA
 ne:dx≠x

theorem Qap {h:Heap} {dx:Addr} {mA:Str->Option Value} (n:h.Ns1 dx mA):∃ od,h.get? dx=some od/\∀ name,PySem.W.lookIn name od=some (mA name):=by
 obtain ⟨o,es,ep,ho,hd,hk,_,hm⟩:=n
 refine ⟨o,ho,fun name=>?_⟩
 have e:=hm name
 unfold nsFind findBy at e
 rw [<- Array.find?_toList] at e
 unfold PySem.W.lookIn
 rw [hd]
 dsimp only
 split
 ·rename_i y q
  rw [q] at e
  exact congrArg some e
 ·rename_i q
  rw [q] at e
  have a:es.toList.any (·.refKey)=false:=by
   rw [List.any_eq_false]
   intro y hy
   obtain ⟨z,t,hkey⟩:=hk y (Array.mem_toList_iff.mp hy)
   simp [DictEntry.refKey,hkey]
  have a':¬ es.toList.any (·.refKey)=true:=by rw [a];exact Bool.false_ne_true
  rw [if_neg a']
  exact congrArg some e

theorem ObjM.look {h:Heap} {x dx C:Addr} {mA:Str->Option Value} (I:ObjM h x dx C mA):∃ od,PySem.W.InstAt h x (PySem.W.instObj C dx) C (some od)/\∀ name,PySem.W.lookIn name od=some (mA name):=
 let ⟨od,ho,hl⟩:=Qap I.ns
 ⟨od,⟨I.obj,rfl,rfl,ho⟩,hl⟩

section
variable {prog:Program} {w:World} {A:Around} {E:Value->Shared->Prop} {s:Shared} {K:PySem.W.Frag} {x dx C f:Addr} {mA:Str->Option Value} {name:Str} {v:Value}

end

theorem RelO.some_of {v:V} {o:Option Value} (r:RelO (some v) o):∃ u,o=some u/\RelV v u:=by
 cases o with
 | none=>exact (show False from r).elim
 | some u=>exact ⟨u,rfl,r⟩
theorem RelO.none_of {o:Option Value} (r:RelO none o):o=none:=by
 cases o with
 | none=>rfl
 | some u=>exact (show False from r).elim
section
variable {P:Program} {w:World} {H H':Hp} {h h':Heap} {a C dx:Addr} {fs fs':List (Str×V)}
theorem QfW (hok:HOk P w H h) (e:H a=some (.ins C dx fs)):∃ mA,ObjM h a dx C mA/\(∀ f,RelO (fs.lookup f) (mA f))/\PySem.Within mA (fs.map (·.1))/\fs.length<=1000/\H dx=some (.own a):=by
 obtain ⟨d,z,ne,ob,mA,n,r,q⟩:=(show ObjOk P w H h a (.ins C dx fs) from hok a _ e)
 exact ⟨mA,⟨ob,n,ne⟩,r,q,z,d⟩
end

structure Cls (K:PySem.W.Frag) (C:Addr):Prop where
 pg:PySem.W.plainGet K C Str.empty=true
 hd:PySem.W.hasDictIn K C=true
 po:PySem.W.plainOver K C=true
 sa:PySem.W.findIn K (.ref C) "__setattr__"=some (some (.builtin "object.__setattr__"))
theorem Cls.get {K:PySem.W.Frag} {C:Addr} (c:Cls K C) (f:Str):PySem.W.plainGet K C f=true:=c.pg
section
variable {X:Cx} {pins:List (Addr×Obj)} {σ:St} {H:Hp} {s:Shared} {a C dx:Addr} {fs:List (Str×V)} {f:Str} {v:V} {A:Around} {E:Value->Shared->Prop}

end

section
variable {X:Cx} {o e value:Expr} {f:Str} {pos pos' tpos:Pos} {ta tv:TE}
end

section
variable {X:Cx} {pins:List (Addr×Obj)} {σ:St} {H:Hp} {s:Shared} {A:Around} {E:Value->Shared->Prop} {Q:Value->Shared->Prop} {c:Value} {b:Bool}
inductive TyOf (K:PySem.W.Frag) (H:Hp):V->Value->Prop where
 | non:TyOf K H .non (.type "NoneType")
 | bl (x:Bool):TyOf K H (.bl x) (.type "bool")
 | int (i:Int):TyOf K H (.int i) (.type "int")
 | str (x:Str):TyOf K H (.str x) (.type "str")
 | flt (x:UInt64):TyOf K H (.flt x) (.type "float")
 | lst {a:Addr} {xs:List V} (e:H a=some (.lst xs)):TyOf K H (.ref a) (.type "list")
 | frz {a:Addr} {o:Obj} {xs:List V} (e:H a=some (.frz o (.lst xs))):TyOf K H (.ref a) (.type "list")
 | tup {a:Addr} {xs:List V} (e:H a=some (.tup xs)):TyOf K H (.ref a) (.type "tuple")
 | dK {a:Addr} {kvs:List (Key×V)} (e:H a=some (.dK kvs)):TyOf K H (.ref a) (.type "dict")
 | dT {a:Addr} {kvs:List (Tr×Addr×V)} (e:H a=some (.dT kvs)):TyOf K H (.ref a) (.type "dict")
 | ins {a C dx:Addr} {fs:List (Str×V)} (e:H a=some (.ins C dx fs)) (cl:Cls K C) (ha:PySem.W.findIn K (.ref C) "__class__"=some (some (.builtin "object.__class__")))
   (hn:PySem.W.specialIn K (.builtin "object.__class__") "__get__"=some (some (.builtin "getset_descriptor.__get__"))) (htk:PySem.W.takesIn K (.builtin "object.__class__")=some true)
   (hm:PySem.W.mroIn K C (.type "object")=some true):TyOf K H (.ref a) (.ref C)
theorem Qau {x:V} {u t:Value} (I:Inv X pins σ H s) (rx:RelV x u) (ty:TyOf X.K H x t) (e:PySem.W.kitOne X.K t c=some b) (h:∀ tk,Q (.bool b) { s with toks:=tk }) :
  wpAny (model X.prog X.w) A (call (.builtin "isinstance") [u,c]) Q E s:=by
 cases ty with
 | non=>cases (show u=Value.none from rx);exact PySem.W.kia_one PySem.W.kitx_none I.kIn True.intro e (fun z=>nomatch z) h
 | bl y=>cases (show u=Value.bool y from rx);exact PySem.W.kia_one PySem.W.kitx_bool I.kIn True.intro e (fun z=>nomatch z) h
 | int i=>obtain ⟨t,q⟩:=(show ∃ t,u=Value.int i t from rx);cases q;exact PySem.W.kia_one PySem.W.kitx_int I.kIn True.intro e (fun z=>nomatch z) h
 | str y=>obtain ⟨t,q⟩:=(show ∃ t,u=Value.str y t from rx);cases q;exact PySem.W.kia_one PySem.W.kitx_str I.kIn True.intro e (fun z=>nomatch z) h
 | flt y=>obtain ⟨t,q⟩:=(show ∃ t,u=Value.float y t from rx);cases q;exact PySem.W.kia_one PySem.W.kitx_float I.kIn True.intro e (fun z=>nomatch z) h
 | @lst a xs ea=>
  cases (show u=Value.ref a from rx)
  obtain ⟨_,_,n,_,h1⟩:=(show ObjOk X.prog X.w H s.heap a (.lst xs) from I.hok a _ ea)
  exact PySem.W.kia_one PySem.W.kitx_list I.kIn ⟨_,h1,rfl⟩ e (fun z=>nomatch z) h
 | @frz a ob xs ea=>
  cases (show u=Value.ref a from rx)
  obtain ⟨_,_,_,n,_,h1⟩:=(show ObjOk X.prog X.w H s.heap a (.frz ob (.lst xs)) from I.hok a _ ea)
  exact PySem.W.kia_one PySem.W.kitx_list I.kIn ⟨_,h1,rfl⟩ e (fun z=>nomatch z) h
 | @tup a xs ea=>
  cases (show u=Value.ref a from rx)
  obtain ⟨_,_,_,p⟩:=(show ObjOk X.prog X.w H s.heap a (.tup xs) from I.hok a _ ea)
  obtain ⟨o,h1,h2,_⟩:=p
  exact PySem.W.kia_one PySem.W.kitx_tuple I.kIn ⟨o,h1,h2⟩ e (fun z=>nomatch z) h
 | @dK a kvs ea=>
  cases (show u=Value.ref a from rx)
  obtain ⟨_,_,vs,_,p⟩:=(show ObjOk X.prog X.w H s.heap a (.dK kvs) from I.hok a _ ea)
  obtain ⟨o,es,ep,h1,h2,_⟩:=p
  exact PySem.W.kia_one PySem.W.kitx_dict I.kIn ⟨o,h1,h2.1⟩ e (fun z=>nomatch z) h
 | @dT a kvs ea=>
  cases (show u=Value.ref a from rx)
  obtain ⟨_,_,xs,_,o,es,ep,h1,h2,_⟩:=(show ObjOk X.prog X.w H s.heap a (.dT kvs) from I.hok a _ ea)
  exact PySem.W.kia_one PySem.W.kitx_dict I.kIn ⟨o,h1,h2.1⟩ e (fun z=>nomatch z) h
 | @ins a C dx fs ea cl ha hn htk hm=>
  cases (show u=Value.ref a from rx)
  obtain ⟨mA,O,_⟩:=QfW I.hok ea
  obtain ⟨od,J,_⟩:=O.look
  exact PySem.W.kia_one (PySem.W.kitx_own (cl.get _) cl.hd ha hn htk hm) I.kIn J e (fun z=>nomatch z) h
end
end L2

namespace L2
open PySem PySem.Spec PyProof.Rows

structure Room (k:Nat) (A:Around):Prop where
 hd:A.handled=none
 dp:A.depth+3*k+5 < recursionLimit
 un:A.units+16*k+200 < cLine
theorem Room.mono {j k:Nat} {A:Around} (r:Room k A) (h:j<=k):Room j A:=⟨r.hd,by have:=r.dp;omega,by have:=r.un;omega⟩
theorem Room.deeper {k:Nat} {A:Around} (r:Room (k+1) A) (env:Env):Room k (A.deeper env):=
 ⟨r.hd,by have:=r.dp;show A.depth+1+3*k+5 < _;omega,by have:=r.un;show A.units+3+16*k+200 < _;omega⟩
theorem Room.depth {k:Nat} {A:Around} (r:Room k A):A.depth < recursionLimit:=by have:=r.dp;omega
theorem Room.units {k:Nat} {A:Around} (r:Room k A):A.units+64 < cLine:=by have:=r.un;omega
noncomputable def Ql0:TA:=fun _ H Q=>Q [] H
noncomputable def QiC (ta:TE) (tr:TA):TA:=fun σ H Q=>ta σ H fun x H1=>tr σ H1 fun xs H2=>Q (x::xs) H2
section
variable {X:Cx} {e:Expr} {es:List Expr} {te:TE} {t:TA} {pos:Pos}
theorem QgF:PA X [] Ql0:=fun _ _ _ _ H Q I h=>Calls.spliced_nil ⟨[],H,I,.nil,h⟩
theorem Qfc (ha:PE X e te) (hr:PA X es t) (hs:starEach (e::es) X.env=(false,eval e X.env)::starEach es X.env:=by rfl):PA X (e::es) (QiC te t):=by
 intro pos pins s σ H Q I h
 rw [hs]
 show wpAny _ _ (spliced ((false,eval e X.env)::backTo pos (starEach es X.env))) _ _ s
 refine Calls.spliced_cons (thn (ha pins s σ H _ I h) fun u s1 ⟨x,H1,I1,r1,q1⟩=>?_)
 exact thn (hr pos pins s1 σ H1 _ I1 q1) fun us s2 ⟨xs,H2,I2,r2,q2⟩=>⟨x::xs,H2,I2,.cons r1 r2,q2⟩

noncomputable def Ql5 (t:TA):TE:=fun σ H Q=>t σ H fun xs H1=>xs.length<=sizeLine/\∀ p,H1 p=none->Q (.ref p) (upd H1 p (.tup xs))
noncomputable def QlJ (t:TA):TE:=fun σ H Q=>t σ H fun xs H1=>xs.length<=sizeLine/\∀ p,H1 p=none->Q (.ref p) (upd H1 p (.lst xs))
theorem Qhj {x1} (h:PA X es t):PE X (.Tuple es x1 pos) (Ql5 t):=by
 intro pins s σ H Q I hq
 refine wpAny_Tuple_spliced (thn (h pos pins s σ H _ I hq) fun us s1 ⟨xs,H1,I1,r,z,q⟩=>⟨by rw [<- r.length];exact z,?_⟩)
 have hf:H1 s1.heap.objs.size=none:=I1.hok.fresh (Nat.le_refl _)
 refine ⟨.ref s1.heap.objs.size,upd H1 s1.heap.objs.size (.tup xs),I1.laid (t':=s1.toks) (fun b u e=>Heap.get?_push_of_some _ e) (Nat.le_refl _) ?_,rfl,q _ hf⟩
 exact ⟨z,us,r,⟨_,Heap.get?_push_size _ rfl,rfl,_,rfl⟩⟩
theorem QdZ (h:PA X es t):PE X (.List es pos) (QlJ t):=by
 intro pins s σ H Q I hq
 refine wpAny_List_spliced (thn (h pos pins s σ H _ I hq) fun us s1 ⟨xs,H1,I1,r,z,q⟩=>⟨by rw [<- r.length];exact z,?_⟩)
 have hf:H1 s1.heap.objs.size=none:=I1.hok.fresh (Nat.le_refl _)
 refine ⟨.ref s1.heap.objs.size,upd H1 s1.heap.objs.size (.lst xs),I1.laid (t':=s1.toks) (fun b u e=>Heap.get?_push_of_some _ e) (Nat.le_refl _) ?_,rfl,q _ hf⟩
 exact ⟨z,us,0,r,Heap.get?_push_size _ rfl⟩
end

noncomputable abbrev Sp:=List V->Hp->VK->XK->Prop
noncomputable abbrev CXT:=List Env->Hp->Shared->XK->Value->Shared->Prop

structure Env0 (P:Program) (w:World) (K:PySem.W.Frag) (mg:Str->Option Value) (base:Heap) (A:Around) (outer:List Env) (s:Shared) (H:Hp):Prop where
 frames:A.frames=some outer
 mod:Mod K mg base
 bs:∀ b o,base.get? b=some o->s.heap.get? b=some o/\H b=none
 bsz:base.objs.size<=s.heap.objs.size
 funs:s.heap.FunFrames base outer
 frf:∀ b∈frs outer,H b=none
 hok:HOk P w H s.heap
 bare:AllBare s.gens
noncomputable def CE (outer:List Env) (P:Program) (w:World) (H:Hp) (s:Shared) (Q:VK) (u:Value) (s':Shared):Prop:=
 ∃ v H',s'.os=s.os/\AllBare s'.gens/\Un (frs outer) [] H H' s.heap s'.heap/\HOk P w H' s'.heap/\RelV v u/\Q v H'
noncomputable def CR (CX:CXT) (outer:List Env) (P:Program) (w:World) (H:Hp) (s:Shared) (Q:VK) (E:XK) (r:Result) (s':Shared):Prop:=
 match r with
 | .ok (.ret u)=>CE outer P w H s Q u s'
 | .ok _=>False
 | .error e=>CX outer H s E e s'
structure FnOk (P:Program) (w:World) (K:PySem.W.Frag) (mg:Str->Option Value) (base:Heap) (CX:CXT) (k:Nat) (f:Addr) (fd:FuncData) (ps:List Str) (sp:Sp):Prop where
 len:∀ vs H Q E,sp vs H Q E->vs.length=ps.length
 run:∀ (A:Around) (outer:List Env) (s:Shared) (H:Hp) (args:Args) (us:List Value) (vs:List V) (Q:VK) (E:XK),Room k A->Env0 P w K mg base A outer s H->BindsTo s fd args (ps.zip us)->Vals vs us->sp vs H Q E ->
  codeAny (model P w) A (.call (.ref f) args) (CR CX outer P w H s Q E) s
theorem FnOk.imp {P:Program} {w:World} {K:PySem.W.Frag} {mg:Str->Option Value} {base:Heap} {CX:CXT} {k:Nat} {f:Addr} {fd:FuncData} {ps:List Str} {sp sp':Sp} (F:FnOk P w K mg base CX k f fd ps sp)
  (h:∀ vs H Q E,sp' vs H Q E->sp vs H Q E):FnOk P w K mg base CX k f fd ps sp':=
 ⟨fun vs H Q E q=>F.len vs H Q E (h _ _ _ _ q),fun A outer s H args us vs Q E hr he hb hv hs=>F.run A outer s H args us vs Q E hr he hb hv (h _ _ _ _ hs)⟩

section
variable {X:Cx} {pins:List (Addr×Obj)} {σ:St} {H:Hp} {s s':Shared}
theorem Inv.env0 (I:Inv X pins σ H s):Env0 X.prog X.w X.K X.mg X.base X.A X.stack s H:=
 ⟨I.ok.frames,I.ok.mod,I.bs,Nat.le_trans I.ok.bsz I.sz,I.stack,I.stkFree,I.hok,I.bare⟩
theorem Inv.after {Q:VK} {u:Value} (I:Inv X pins σ H s) (h:CE X.stack X.prog X.w H s Q u s'):EP X pins σ Q u s':=by
 obtain ⟨v,H',os,bare,un,hok,r,q⟩:=h
 obtain ⟨hh,g,d,t,os'⟩:=s'
 obtain rfl:os'=s.os:=os
 exact ⟨v,H',I.call (h':=hh) (g':=g) (d':=d) (t':=t) (ch:=[]) un hok bare (fun b z=>absurd z (by simp)),r,q⟩
end

noncomputable def QhL (sp:Sp) (dvs:List V) (E:XK) (t:TA):TE:=fun σ H Q=>t σ H fun vs H1=>sp (vs++dvs) H1 Q E
noncomputable def Binds (K:PySem.W.Frag) (fd:FuncData) (ps:List Str) (ds:List Value):Prop:=
 ∀ (s:Shared) (us:List Value),K.In s.heap->(us++ds).length=ps.length->BindsTo s fd ⟨us,[]⟩ (ps.zip (us++ds))
theorem Binds.all {K:PySem.W.Frag} {fd:FuncData} {ps:List Str} (h:∀ us:List Value,us.length=ps.length->bindArgs fd ⟨us,[]⟩=pure (ps.zip us)):Binds K fd ps []:=fun s us _ hl=>by
 rw [List.append_nil] at hl ⊢
 exact .of_eq (h us hl)

noncomputable def UM (CX:CXT) (X:Cx) (E:XK):Prop:=∀ (pins:List (Addr×Obj)) (σ:St) (H:Hp) (s:Shared) (e:Value) (s':Shared),Inv X pins σ H s->CX X.stack H s E e s'->X.xe e s'

section
variable {X:Cx} {CX:CXT} {k:Nat} {f C:Addr} {fd:FuncData} {ps:List Str} {sp:Sp} {dvs:List V} {ds:List Value} {E:XK} {x m:Str} {p pos apos:Pos} {e o:Expr} {es:List Expr} {ta:TE} {t:TA}

theorem QhZ {pins:List (Addr×Obj)} {σ:St} {H:Hp} {s:Shared} {Q:VK} {us:List Value} {vs:List V} (F:FnOk X.prog X.w X.K X.mg X.base CX k f fd ps sp) (hr:Room k X.A) (hb:Binds X.K fd ps ds) (hd:Vals dvs ds) (hx:UM CX X E)
  (I:Inv X pins σ H s) (r:Vals vs us) (h:sp (vs++dvs) H Q E):wpAny (model X.prog X.w) X.A (call (.ref f) us) (EP X pins σ Q) X.xe s:=by
 have r2:Vals (vs++dvs) (us++ds):=r.append hd
 have hl:(us++ds).length=ps.length:=by rw [<- r2.length];exact F.len _ _ _ _ h
 refine wpAny_call (codeAny_mono (F.run X.A X.stack s H ⟨us,[]⟩ (us++ds) (vs++dvs) Q E hr I.env0 (hb s us I.kIn hl) r2 h) fun r s' hq=>?_)
 cases r with
 | error e=>exact hx pins σ H s e s' I hq
 | ok fl=>
  cases fl with
  | ret u=>exact I.after hq
  | next=>exact False.elim hq
  | brk=>exact False.elim hq
  | cont=>exact False.elim hq

theorem Qfg (F:FnOk X.prog X.w X.K X.mg X.base CX k f fd ps sp) (hr:Room k X.A) (hg:Gl X x) (hm:X.mg x=some (.ref f)) (hk:PySem.W.keepIn X.K (.ref f)=true) (hb:Binds X.K fd ps ds) (hd:Vals dvs ds) (hx:UM CX X E)
  (ha:PA X (e::es) t) (hdb:(x == ("__debug__":Str))=false:=by decide) (he:starEach (e::es) X.env=(false,eval e X.env)::starEach es X.env:=by rfl) (hpl:(backTo pos (starEach es X.env)).any (·.1)=false:=by rfl) :
  PE X (.Call (.Name x p) (e::es) [] pos) (QhL sp dvs E t):=by
 intro pins s σ H Q I h
 refine wpAny_Call_Name_kw (QfV I hg hm ?_ hdb)
 refine PySem.W.callWith_K (h₀:=X.base) I.ok.mod.kin hk (thn (ha pos pins s σ H _ I h) fun us s1 ⟨vs,H1,I1,r,q⟩=>⟨I1.kIn,?_⟩) he hpl
 exact QhZ F hr hb hd hx I1 r q
end

section
variable {X:Cx} {CX:CXT} {k:Nat} {f C:Addr} {fd:FuncData} {ps ks:List Str} {sp:Sp} {E:XK} {x m:Str} {p pos apos kpos:Pos} {e o:Expr} {es:List Expr} {kws:List Keyword} {te ta:TE} {t tk:TA} {nm:Option Str}
variable {g:List Value->List Value->List Value} {gV:List V->List V->List V}
end

structure FnScope (N P:List Str) (sc:Scope):Prop where
 kind:sc.kind=.function
 co:sc.isCoroutine=false
 gen:sc.isGenerator=false
 nd:N.Nodup
 pre:N.take P.length=P
 par:∀ x∈P,sc.names.lookup x=some .local\/sc.names.lookup x=some .cell
 nofree:∀ y∈sc.names,y.2≠.free

theorem Wv {kindOf:Str->Option NameKind} {x:Str}:∀ {binds:List (Str×Value)} {m:Str->Option Value},(∀ v,(x,v)∉binds)->bindL kindOf binds m x=m x
 | [],_,_=>rfl
 | (n,v)::r,m,h=>by
  unfold bindL
  rw [Wv fun w hw=>h w (List.mem_cons_of_mem _ hw)]
  split
  ·have:x≠n:=by rintro rfl;exact h v List.mem_cons_self
   simp [this]
  ·rfl
theorem YS {kindOf:Str->Option NameKind} {x:Str}:∀ {binds:List (Str×Value)} {m:Str->Option Value},(∀ v,(x,v)∉binds)->bindC kindOf binds m x=m x
 | [],_,_=>rfl
 | (n,v)::r,m,h=>by
  unfold bindC
  rw [YS fun w hw=>h w (List.mem_cons_of_mem _ hw)]
  split
  ·rfl
  ·have:x≠n:=by rintro rfl;exact h v List.mem_cons_self
   simp [this]
theorem WD {kindOf:Str->Option NameKind} {x:Str} {v:Value}:∀ {P:List Str} {vs:List Value} {i:Nat} {m:Str->Option Value},P.Nodup->P[i]?=some x->vs[i]?=some v->kindOf x=some .local ->
  bindL kindOf (P.zip vs) m x=some v
 | [],_,_,_,_,h,_,_=>by simp at h
 | _::_,[],_,_,_,_,h,_=>by simp at h
 | p::P,w::vs,0,m,nd,h1,h2,hk=>by
  simp at h1 h2;subst h1;subst h2
  show bindL kindOf ((p,w)::P.zip vs) m p=_
  unfold bindL
  rw [Wv fun v hv=>(List.nodup_cons.mp nd).1 (List.of_mem_zip hv).1,if_pos hk]
  simp
 | p::P,w::vs,i+1,m,nd,h1,h2,hk=>by
  show bindL kindOf ((p,w)::P.zip vs) m x=_
  unfold bindL
  exact WD (i:=i) (List.nodup_cons.mp nd).2 (by simpa using h1) (by simpa using h2) hk
theorem Wj {kindOf:Str->Option NameKind} {x:Str} {v:Value}:∀ {P:List Str} {vs:List Value} {i:Nat} {m:Str->Option Value},P.Nodup->P[i]?=some x->vs[i]?=some v->kindOf x≠some .local ->
  bindC kindOf (P.zip vs) m x=some v
 | [],_,_,_,_,h,_,_=>by simp at h
 | _::_,[],_,_,_,_,h,_=>by simp at h
 | p::P,w::vs,0,m,nd,h1,h2,hk=>by
  simp at h1 h2;subst h1;subst h2
  show bindC kindOf ((p,w)::P.zip vs) m p=_
  unfold bindC
  rw [YS fun v hv=>(List.nodup_cons.mp nd).1 (List.of_mem_zip hv).1,if_neg hk]
  simp
 | p::P,w::vs,i+1,m,nd,h1,h2,hk=>by
  show bindC kindOf ((p,w)::P.zip vs) m x=_
  unfold bindC
  exact Wj (i:=i) (List.nodup_cons.mp nd).2 (by simpa using h1) (by simpa using h2) hk

noncomputable def start (N:List Str) (vs:List V):St:=vs.map some++List.replicate (N.length - vs.length) none

noncomputable def QdK (CX:CXT) (P:Program) (w:World) (K:PySem.W.Frag) (mg:Str->Option Value) (base:Heap) (N:List Str) (qual:Str) (scope:Scope) (f:Addr) (cd:Value) (A:Around) (outer:List Env) (s:Shared) (H:Hp) (E:XK):Cx where
 prog:=P
 w:=w
 K:=K
 mg:=mg
 base:=base
 A:=A.deeper (envOfC qual scope s.heap.objs.size f cd)
 N:=N
 s₀:=s
 H₀:=H
 env:=envOfC qual scope s.heap.objs.size f cd
 outer:=outer
 stack:=envOfC qual scope s.heap.objs.size f cd::outer
 ex:=[]
 calm:=true
 fn:=fun _=>true
 pn:=[]
 xe:=fun e s'=>wpAny (model P w) (A.deeper (envOfC qual scope s.heap.objs.size f cd)) (leaving (envOfC qual scope s.heap.objs.size f cd) e) (fun _ s''=>CX outer H s E e s'') (fun e' s''=>CX outer H s E e' s'') s'

theorem Uq {sc:Scope} {n:Nat} {x:Str} (h:sc.names.lookup x=some .cell):∃ c,(cellsFrom n sc.names []).lookup x=some c:=by
 have q:=PySem.W.cellsFrom_some sc.names n [] (.inl h)
 exact Option.isSome_iff_exists.mp q

theorem QbL {CX:CXT} {P:Program} {w:World} {K:PySem.W.Frag} {mg:Str->Option Value} {base:Heap} {N ps:List Str} {qual:Str} {scope:Scope} {f:Addr} {cd:Value} {A:Around} {outer:List Env} {s s1:Shared} {H:Hp} {E:XK} {us:List Value} {vs:List V}
  (S:FnScope N ps scope) (hd:A.handled=none) (e0:Env0 P w K mg base A outer s H) (hl:vs.length=ps.length) (r:Vals vs us)
  (x:InCallC s s.heap.objs.size (bindL (envOfC qual scope s.heap.objs.size f cd).kindOf (ps.zip us) fun _=>none) (cellsFrom (s.heap.objs.size+1) scope.names []) (bindC (envOfC qual scope s.heap.objs.size f cd).kindOf (ps.zip us) fun _=>none) s1) :
  Inv (QdK CX P w K mg base N qual scope f cd A outer s H E) [] (start N vs) H s1:=by
 have hpl:ps.length<=N.length:=by have:=congrArg List.length S.pre;rw [List.length_take] at this;omega
 obtain ⟨h1,tk,rfl,hk⟩:=x.done
 have noA:∀ b:Addr,b∉(QdK CX P w K mg base N qual scope f cd A outer s H E).ex:=fun b z=>absurd (show b∈([]:List Addr) from z) (by simp)
 refine ⟨⟨e0.mod,S.kind,rfl,rfl,Nat.le_refl _,fun y z c h1 h2=>?_,fun y hy=>?_,fun y c _ h=>?_,fun _=>hd,Around.frames_deeper e0.frames,.inr ⟨rfl,rfl⟩,fun b z=>absurd z (noA b),e0.bs,e0.bsz,fun b _ _=>noA b,fun b z=>absurd z (noA b),e0.funs,e0.frf⟩,
  rfl,e0.bare,Un.kept hk,⟨_,x.toInCall.ns,fun i y v h1 h2 h3=>?_⟩,fun y c h=>⟨_,x.cell y c h⟩,e0.hok.fresh (Nat.le_refl _),fun y c h=>?_,fun p hp=>absurd (show p∈([]:List (Addr×Obj)) from hp) (by simp),e0.hok.kept hk,?_⟩
 ·exact name_of_addr x.apart (PySem.mem_of_lookup h1) (PySem.mem_of_lookup h2)
 ·have hy:scope.names.lookup y=some .cell\/scope.names.lookup y=some .free:=hy
  rcases hy with hy | hy
  ·exact Uq hy
  ·exact absurd rfl (S.nofree _ (PySem.mem_of_lookup hy))
 ·exact Nat.le_of_lt (x.above y c (PySem.mem_of_lookup h))
 ·have hi:i < vs.length:=by
   unfold start at h2
   by_cases hi:i < vs.length
   ·exact hi
   ·rw [List.getElem?_append_right (by simpa using hi)] at h2
    rw [List.getElem?_replicate] at h2
    split at h2<;>cases h2
  have ha:vs[i]?=some v:=by
   unfold start at h2
   rw [List.getElem?_append_left (by simpa using hi),List.getElem?_map] at h2
   cases e:vs[i]? with
   | none=>rw [e] at h2;cases h2
   | some a=>rw [e] at h2;cases h2;rfl
  obtain ⟨u,hu,rv⟩:=r.get ha
  have hp:ps[i]?=some y:=by
   rw [<- S.pre,List.getElem?_take_of_lt (by omega)];exact h1
  have ndP:ps.Nodup:=by rw [<- S.pre];exact S.nd.sublist (List.take_sublist _ _)
  refine ⟨u,rv,?_⟩
  rcases S.par y (List.mem_of_getElem? hp) with k | k
  ·exact .inl ⟨k,WD ndP hp hu k⟩
  ·obtain ⟨c,e⟩:=Uq (n:=s.heap.objs.size+1) k
   refine .inr ⟨.inl k,c,e,?_⟩
   have q:=x.cell y c e
   rw [Wj ndP hp hu (by show scope.names.lookup y≠_;rw [k];decide)] at q
   exact q
 ·exact e0.hok.fresh (Nat.le_of_lt (x.above y c (PySem.mem_of_lookup h)))
 ·unfold start
  show _=N.length
  rw [List.length_append,List.length_map,List.length_replicate]
  omega

theorem QiP {CX:CXT} {P:Program} {w:World} {K:PySem.W.Frag} {mg:Str->Option Value} {base:Heap} {k:Nat} {f:Addr} {name qual:Str} {params:Arguments} {body:List Stmt} {scope:Scope} {dV kV doc pm cdv ct oc:Value} {an od:Option Addr}
  {osl:Array (Option Value)} {N ps:List Str} {sp:Sp} (lk:K.lookup f=some ⟨oc,od,.func (PySem.W.fnOf name qual params body scope dV kV doc pm an cdv ct),osl⟩) (hcd:PySem.W.codeIn K cdv qual=true) (S:FnScope N ps scope)
  (len:∀ vs H Q E,sp vs H Q E->vs.length=ps.length)
  (hbody:∀ (A:Around) (outer:List Env) (s:Shared) (H:Hp) (vs:List V) (Q:VK) (E:XK),Room k (A.deeper (envOfC qual scope s.heap.objs.size f cdv))->sp vs H Q E ->
   ∃ t,PSs (QdK CX P w K mg base N qual scope f cdv A outer s H E) body t/\t { nx:=fun _ H'=>Q .non H',rt:=Q } (start N vs) H) :
  FnOk P w K mg base CX (k+1) f (PySem.W.fnOf name qual params body scope dV kV doc pm an cdv ct) ps sp:=by
 refine ⟨len,fun A outer s H args us vs Q E hr e0 hb r hsp=>?_⟩
 have hl:=len _ _ _ _ hsp
 have KX:K.In s.heap:=e0.mod.kin.keeps fun b o e=>(e0.bs b o e).1
 have lim:s.heap.NoLimit:=e0.mod.nolimit.keeps fun b o e=>(e0.bs b o e).1
 have hkind:∀ y∈ps.zip us,scope.names.lookup y.1=some .local\/(scope.names.lookup y.1=some .cell/\((cellsFrom (s.heap.objs.size+1) scope.names []).lookup y.1).isSome=true):=fun ⟨n,v⟩ hy=>by
  rcases S.par n (List.of_mem_zip hy).1 with q | q
  ·exact .inl q
  ·exact .inr ⟨q,PySem.W.cellsFrom_some _ _ _ (.inl q)⟩
 refine codeAny_call_function hr.depth (KX _ _ lk) rfl S.co S.gen rfl (PySem.W.codeRec_of KX hcd) (hb _ _ _ _ ?_)
 refine wpAny_newFunctionEnv_cells S.kind hkind fun env he s1 x=>?_
 subst he
 refine ⟨lim.keeps x.toInCall.keep,codeAny_func ?_⟩
 obtain ⟨t,ht,hq⟩:=hbody A outer s H vs Q E (hr.deeper _) hsp
 have I:Inv (QdK CX P w K mg base N qual scope f cdv A outer s H E) [] (start N vs) H s1:=QbL S hr.hd e0 hl r x
 refine wpAny_mono (ht [] s1 (start N vs) H _ I hq) (fun fl s' hs=>?_) fun e s' hs=>hs
 have fin:∀ {σ':St} {H':Hp} {v:V} {u:Value},Inv (QdK CX P w K mg base N qual scope f cdv A outer s H E) [] σ' H' s'->RelV v u->Q v H'->CE outer P w H s Q u s':=
  fun {σ' H' v u} J rv q=>⟨v,H',J.os,J.bare,J.base,J.hok,rv,q⟩
 cases fl with
 | ret u=>
  obtain ⟨v,σ',H',J,rv,q⟩:=hs
  exact fin J rv q
 | next=>
  obtain ⟨σ',H',J,q⟩:=hs
  exact fin (v:=V.non) (u:=Value.none) J rfl q
 | brk=>
  obtain ⟨_,_,_,q⟩:=hs
  exact False.elim q
 | cont=>
  obtain ⟨_,_,_,q⟩:=hs
  exact False.elim q
end L2

namespace L2
open PySem PySem.Spec PyProof.Rows
section
variable {X:Cx} {x:Str} {p pos:Pos} {e:Expr} {es:List Expr} {t:TA} {id T:String} {r:List V->Hp->VK->Prop}

noncomputable def tCB (r:List V->Hp->VK->Prop) (t:TA):TE:=fun σ H Q=>t σ H fun vs H1=>r vs H1 Q
theorem QcH (hc:CallR X (.builtin id) r) (hg:Gl X x) (hm:X.mg x=none) (hv:bootBuiltins x=some (.builtin id)) (ha:PA X (e::es) t) (hn:x≠"__name__":=by decide) (hdb:(x == ("__debug__":Str))=false:=by decide)
  (he:starEach (e::es) X.env=(false,eval e X.env)::starEach es X.env:=by rfl) (hpl:(backTo pos (starEach es X.env)).any (·.1)=false:=by rfl):PE X (.Call (.Name x p) (e::es) [] pos) (tCB r t):=by
 intro pins s σ H Q I h
 refine wpAny_Call_Name_kw (Vz I hg hm hv ?_ hn hdb)
 exact PyProof.Rows.callWith_builtin1 (thn (ha pos pins s σ H _ I h) fun us s1 ⟨vs,H1,I1,r1,q1⟩=>hc pins s1 σ H1 vs us Q I1 r1 q1) he hpl
theorem QbP (hc:CallR X (.type T) r) (hg:Gl X x) (hm:X.mg x=none) (hv:bootBuiltins x=some (.type T)) (ha:PA X (e::es) t) (hn:x≠"__name__":=by decide) (hdb:(x == ("__debug__":Str))=false:=by decide)
  (he:starEach (e::es) X.env=(false,eval e X.env)::starEach es X.env:=by rfl) (hpl:(backTo pos (starEach es X.env)).any (·.1)=false:=by rfl):PE X (.Call (.Name x p) (e::es) [] pos) (tCB r t):=by
 intro pins s σ H Q I h
 refine wpAny_Call_Name_kw (Vz I hg hm hv ?_ hn hdb)
 exact PyProof.Rows.callWith_type1 (thn (ha pos pins s σ H _ I h) fun us s1 ⟨vs,H1,I1,r1,q1⟩=>hc pins s1 σ H1 vs us Q I1 r1 q1) he hpl
end
end L2

namespace HT
open PySem PyProof.Rows

section
open PySem.SeqAt
open PySem.AutoSeq1 (wpAny_loadPart')
open PySem.MeetsSeq PySem.MeetsSeq2 PySem.MeetsSeq3

end

section
variable {prog:Program} {w:World} {A:Around} {E:Value->Shared->Prop} {s:Shared}

theorem cat_tup {t b:Addr} {vs ws:List Value} {Q:Value->Shared->Prop} (ht:IsTup s.heap t vs.toArray) (hb:IsTup s.heap b ws.toArray) (hv:vs≠[])
  (h1:ws=[]->Q (.ref t) s) (h2:ws≠[]->Q (.ref s.heap.objs.size) { s with heap:=s.heap.push { cls:=.type "tuple",data:=.seq (vs++ws).toArray } })
  (hsz:vs.length+ws.length<=sizeLine):wpAny (model prog w) A (binaryOp .Add (.ref t) (.ref b)) Q E s:=by
 obtain ⟨⟨cls,dd,data,sl⟩,ho,hc,n,hd⟩:=id ht
 obtain ⟨⟨cls2,dd2,data2,sl2⟩,ho2,hc2,n2,hd2⟩:=id hb
 simp only at hc hd hc2 hd2
 subst hc hd hc2 hd2
 have e:vs.toArray++ws.toArray=(vs++ws).toArray:=by simp
 by_cases hw:ws=[]
 ·exact concat_meets ⟨_,ho,rfl⟩ ⟨_,ho2,rfl⟩ noFill_tuple_add seq_tuple_add PySem.F.slot_tuple_add PySem.F.entry_tuple_add (PySem.F.args_tuple_add_2 _ _)
   (tuple_addW1 t b vs.toArray ws.toArray n n2 dd dd2 sl sl2 (by simpa using hv) (by simp [hw])) ⟨ho,ho2,h1 hw⟩
 ·refine concat_meets ⟨_,ho,rfl⟩ ⟨_,ho2,rfl⟩ noFill_tuple_add seq_tuple_add PySem.F.slot_tuple_add PySem.F.entry_tuple_add (PySem.F.args_tuple_add_2 _ _)
   (tuple_addW2 t b vs.toArray ws.toArray n n2 dd dd2 sl sl2 (by simpa using hv) (by simpa using hw) (by rw [List.size_toArray,List.size_toArray];exact hsz)) ⟨ho,ho2,?_⟩
  rw [e]
  exact h2 hw

noncomputable def sIx (n d:Nat):Option Int->Nat
 | none=>d
 | some v=>if v < 0 then (v+(n:Int)).toNat else min v.toNat n
theorem sIx_none (n d:Nat):sIx n d none=d:=rfl
theorem sIx_nat (n d k:Nat):sIx n d (some (k:Int))=min k n:=by
 show (if (k:Int) < 0 then ((k:Int)+(n:Int)).toNat else min (k:Int).toNat n)=min k n
 rw [if_neg (by omega),Int.toNat_natCast]
theorem QgR (n d:Nat) (hd:d<=n) (o:Option Int):sIx n d o<=n:=by
 cases o with
 | none=>exact hd
 | some v=>
  show (if v < 0 then (v+(n:Int)).toNat else min v.toNat n)<=n
  by_cases hv:v < 0
  ·rw [if_pos hv];omega
  ·rw [if_neg hv];exact Nat.min_le_right _ _
theorem Qa3 (v:Int) (n d:Nat):(if v < 0 then max (v+(n:Int)) 0 else min v (n:Int))=((sIx n d (some v):Nat):Int):=by
 show (if v < 0 then max (v+(n:Int)) 0 else min v (n:Int))=(((if v < 0 then (v+(n:Int)).toNat else min v.toNat n):Nat):Int)
 by_cases hv:v < 0
 ·simp only [if_pos hv];omega
 ·simp only [if_neg hv];omega
theorem Gw (lo hi:Option Int) (n:Nat):Builtin.Slice.sliceAdjust lo hi 1 (n:Int)=(((sIx n 0 lo:Nat):Int),((sIx n n hi:Nat):Int)):=by
 have h1:¬ ((1:Int) < 0):=by omega
 unfold Builtin.Slice.sliceAdjust
 simp only [h1,if_false]
 refine Prod.ext ?_ ?_
 ·cases lo with
  | none=>rfl
  | some v=>exact Qa3 v n 0
 ·cases hi with
  | none=>rfl
  | some v=>exact Qa3 v n n
theorem Gr (i j:Nat):Builtin.Slice.slicePlaces (i:Int) (j:Int) 1=j - i:=by
 unfold Builtin.Slice.slicePlaces
 have h1:(1:Int) > 0:=by omega
 simp only [h1,if_true,Int.ediv_one]
 split<;>omega
theorem KW {v:Value} {o:Option Int} {Q:Option Int->Shared->Prop} (p:IsPart v o) (h:Q o s):wpAny (model prog w) A (Builtin.Slice.slicePartIndex v) Q E s:=by
 cases p with
 | none=>exact slicePart_none h
 | int i t=>exact slicePart_int h
theorem sliceApplied_gen {sl:Addr} {vl vu:Value} {lo hi:Option Int} {n:Nat} {Q:Int×Int×Nat->Shared->Prop} (hs:s.heap.IsSliceOf sl vl vu .none) (pl:IsPart vl lo) (pu:IsPart vu hi)
  (h:Q (((sIx n 0 lo:Nat):Int),1,sIx n n hi - sIx n 0 lo) s):wpAny (model prog w) A (Builtin.Slice.sliceApplied (.ref sl) (pure (n:Int))) Q E s:=by
 obtain ⟨os,hos,hcs,hds⟩:=id hs
 unfold Builtin.Slice.sliceApplied Builtin.Slice.sliceFields
 refine wpAny_bind (wpAny_bind (wpAny_field hos hds (x:=vl) rfl (wpAny_bind (wpAny_field hos hds (x:=vu) rfl (wpAny_bind (wpAny_field hos hds (x:=.none) rfl (wpAny_pure ?_)))))))
 refine wpAny_bind (slicePart_none ?_)
 show wpAny _ _ (if ((1:Int) == 0)=true then _ else _) _ _ s
 rw [if_neg (by decide)]
 refine wpAny_bind (KW pl (wpAny_bind (KW pu (wpAny_bind (wpAny_pure ?_)))))
 show wpAny _ _ (match Builtin.Slice.sliceAdjust lo hi 1 (n:Int) with | (lo,hi)=>pure (lo,(1:Int),Builtin.Slice.slicePlaces lo hi 1)) _ _ s
 rw [Gw lo hi n]
 show wpAny _ _ (pure (((sIx n 0 lo:Nat):Int),(1:Int),Builtin.Slice.slicePlaces ((sIx n 0 lo:Nat):Int) ((sIx n n hi:Nat):Int) 1)) _ _ s
 rw [Gr]
 exact wpAny_pure h
theorem QcD (xs:Array Value) (i k:Nat):((List.range k).filterMap fun (m:Nat)=>xs[((i:Int)+(m:Int)*1).toNat]?).toArray=((xs.toList.drop i).take k).toArray:=by
 have e:(fun (m:Nat)=>xs[((i:Int)+(m:Int)*1).toNat]?)=fun m=>xs[i+m]?:=by
  funext m
  have:((i:Int)+(m:Int)*1).toNat=i+m:=by omega
  rw [this]
 rw [e]
 have:=pick_run xs i k
 rw [List.filterMap_map] at this
 have e2:((fun x=>xs[x]?)∘fun x=>i+x)=fun m=>xs[i+m]?:=rfl
 rw [e2] at this
 rw [this]

theorem getItem_tuple_cut {t sl:Addr} {items:Array Value} {vl vu:Value} {lo hi:Option Int} {Q:Value->Shared->Prop} (ht:IsTup s.heap t items) (hs:s.heap.IsSliceOf sl vl vu .none) (pl:IsPart vl lo) (pu:IsPart vu hi)
  (hw:¬ (sIx items.size 0 lo=0/\sIx items.size items.size hi=items.size))
  (h:Q (.ref s.heap.objs.size) { s with heap:=s.heap.push { cls:=.type "tuple",data:=.seq ((items.toList.drop (sIx items.size 0 lo)).take (sIx items.size items.size hi - sIx items.size 0 lo)).toArray } })
  (hsz:items.size<=sizeLine):wpAny (model prog w) A (getItem (.ref t) (.ref sl)) Q E s:=by
 have htake:sizeOk (.seq ((items.toList.drop (sIx items.size 0 lo)).take (sIx items.size items.size hi - sIx items.size 0 lo)).toArray):=by
  show ((items.toList.drop (sIx items.size 0 lo)).take (sIx items.size items.size hi - sIx items.size 0 lo)).toArray.size<=sizeLine
  rw [List.size_toArray,List.length_take,List.length_drop,Array.length_toList]
  omega
 have hj:sIx items.size items.size hi<=items.size:=QgR _ _ (Nat.le_refl _) hi
 obtain ⟨os,hos,hcs,hds⟩:=id hs
 have hTs:s.TypeIs (.ref sl) "slice":=⟨os,hos,hcs⟩
 unfold getItem
 try with_reducible refine wpAny_holding ?_
 first | refine wpAny_bind (wpAny_pure ?_) | skip
 refine wpAny_bind (wpAny_sequenceKey ht.typeIs (by decide) ?_)
 refine wpAny_bind (wpAny_callSpecial?_slot (name:=Str.ofString "__getitem__") ht.typeIs PyProof.Rows.slot_tuple_getitem
  (wpAny_call_entry PyProof.Rows.slot_tuple_getitem ht.typeIs entry_tuple_getitem ?_ (args_tuple_getitem _ _)))
 show wpAny _ _ (Builtin.Tuple.tupleItemsOf (.ref t) >>= _) _ _ s
 refine wpAny_bind (tupleItemsOf_ ht ?_)
 refine wpAny_bind (wpAny_typeOf hTs ?_)
 rw [if_pos (by decide)]
 refine wpAny_bind (sliceApplied_gen hs pl pu ?_)
 have hno:¬ ((((sIx items.size 0 lo:Nat):Int) == 0 && (1:Int) == 1 && (sIx items.size items.size hi - sIx items.size 0 lo) == items.size)=true):=by
  intro q
  rw [Bool.and_eq_true,Bool.and_eq_true] at q
  have q1:((sIx items.size 0 lo:Nat):Int)=0:=eq_of_beq q.1.1
  have q2:sIx items.size items.size hi - sIx items.size 0 lo=items.size:=eq_of_beq q.2
  exact hw ⟨by omega,by omega⟩
 show wpAny _ _ (if (((sIx items.size 0 lo:Nat):Int) == 0 && (1:Int) == 1 && (sIx items.size items.size hi - sIx items.size 0 lo) == items.size)=true then _ else _) _ _ s
 rw [if_neg hno,QcD]
 first
  | exact wpAny_bind (m:=Builtin.Tuple.tupleExact _) (wpAny_newObj_type (wpAny_pure ⟨_,rfl,wpAny_pure h⟩) htake)
  | exact wpAny_bind (m:=Builtin.Tuple.tupleExact _) (wpAny_newObj_type (wpAny_bind (wpAny_pure (wpAny_pure ⟨_,rfl,wpAny_pure h⟩))) htake)
  | exact wpAny_bind (wpAny_bind (m:=Builtin.Tuple.tupleExact _) (wpAny_newObj_type (wpAny_pure (wpAny_pure ⟨_,rfl,wpAny_pure h⟩)) htake))
  | exact wpAny_bind (wpAny_bind (m:=Builtin.Tuple.tupleExact _) (wpAny_newObj_type (wpAny_pure ⟨_,rfl,wpAny_pure h⟩) htake))
end
end HT

namespace L2
open PySem PySem.Spec PyProof.Rows

noncomputable abbrev TO:=St->Hp->(Option Int->Hp->Prop)->Prop
noncomputable def PO (X:Cx) (e:Option Expr) (t:TO):Prop:=
 ∀ (pins:List (Addr×Obj)) (s:Shared) (σ:St) (H:Hp) (Q:Option Int->Hp->Prop),Inv X pins σ H s->t σ H Q ->
  wpAny (model X.prog X.w) X.A (evalPart e X.env) (fun u s'=>∃ o H',Inv X pins σ H' s'/\IsPart u o/\Q o H') X.xe s
noncomputable def QfB:TO:=fun _ H Q=>Q none H
noncomputable def QiS (t:TE):TO:=fun σ H Q=>t σ H fun x H1=>∃ i,x=.int i/\Q (some i) H1

section
variable {X:Cx} {e:Expr} {te:TE} {lo hi:Option Expr} {tl th:TO} {pos p2:Pos}

theorem QfN:PO X none QfB:=by
 intro pins s σ H Q I h
 rw [evalPart_none]
 exact wpAny_pure ⟨none,H,I,.none,h⟩
theorem QfP (h:PE X e te):PO X (some e) (QiS te):=by
 intro pins s σ H Q I hw
 rw [evalPart_some]
 refine thn (h pins s σ H _ I hw) fun u s1 ⟨x,H1,I1,r1,q1⟩=>?_
 obtain ⟨i,rfl,q⟩:=q1
 obtain ⟨t,rfl⟩:=r1
 exact ⟨some i,H1,I1,.int i t,q⟩

noncomputable def SlR (X:Cx) (r:V->Option Int->Option Int->Hp->VK->Prop):Prop:=
 ∀ (pins:List (Addr×Obj)) (s:Shared) (σ:St) (H:Hp) (x:V) (v vl vu:Value) (lo hi:Option Int) (sl:Addr) (Q:VK),Inv X pins σ H s->RelV x v->s.heap.IsSliceOf sl vl vu .none->IsPart vl lo->IsPart vu hi->r x lo hi H Q ->
  ∃ T id,typeLookup (.type T) "__getitem__"=pure (some (.builtin id))/\s.TypeIs v T/\wpAny (model X.prog X.w) X.A (getItem v (.ref sl)) (EP X pins σ Q) X.xe s
theorem SlR.or {r r':V->Option Int->Option Int->Hp->VK->Prop} (h:SlR X r) (h':SlR X r'):SlR X (fun x lo hi H Q=>r x lo hi H Q\/r' x lo hi H Q):=by
 intro pins s σ H x v vl vu lo hi sl Q I rx hs pl pu q
 rcases q with q | q
 ·exact h pins s σ H x v vl vu lo hi sl Q I rx hs pl pu q
 ·exact h' pins s σ H x v vl vu lo hi sl Q I rx hs pl pu q
noncomputable def tSl (r:V->Option Int->Option Int->Hp->VK->Prop) (te:TE) (tl th:TO):TE:=fun σ H Q=>te σ H fun x H1=>tl σ H1 fun l H2=>th σ H2 fun u H3=>r x l u H3 Q
theorem Qb4 {r:V->Option Int->Option Int->Hp->VK->Prop} (hr:SlR X r) (he:PE X e te) (hl:PO X lo tl) (hu:PO X hi th):PE X (.Subscript e (.Slice lo hi none p2) pos) (tSl r te tl th):=by
 intro pins s σ H Q I h
 refine Subscript_ (thn (he pins s σ H _ I h) fun v s1 ⟨x,H1,I1,r1,q1⟩=>?_)
 refine wpAny_Slice (thn (hl pins s1 σ H1 _ I1 q1) fun vl s2 ⟨l,H2,I2,pl,q2⟩=>thn (hu pins s2 σ H2 _ I2 q2) fun vu s3 ⟨u,H3,I3,pu,q3⟩=>?_)
 rw [evalPart_none]
 refine wpAny_pure ?_
 have I4:Inv X pins σ H3 { s3 with heap:=s3.heap.push { cls:=.type "slice",data:=.fields #[vl,vu,.none] } }:=I3.kept (t':=s3.toks) fun b ob q=>Heap.get?_push_of_some _ q
 obtain ⟨T,id,hT,ht,hg⟩:=hr pins { s3 with heap:=s3.heap.push { cls:=.type "slice",data:=.fields #[vl,vu,.none] } } σ H3 x v vl vu l u s3.heap.objs.size Q I4 r1 (Heap.IsSliceOf.new ..) pl pu q3
 show wpAny (model X.prog X.w) X.A (subscriptTail e (.Slice lo hi none p2) v (.ref s3.heap.objs.size)) (EP X pins σ Q) X.xe { s3 with heap:=s3.heap.push { cls:=.type "slice",data:=.fields #[vl,vu,.none] } }
 exact tail_any (ops:=[.ref s3.heap.objs.size,v]) ht hT hg (by with_unfolding_all rfl)

noncomputable def QcJ (xs:List V) (lo hi:Option Int):List V:=(xs.drop (HT.sIx xs.length 0 lo)).take (HT.sIx xs.length xs.length hi - HT.sIx xs.length 0 lo)
theorem X7 (xs:List V) (lo hi:Option Int):(QcJ xs lo hi).length<=xs.length:=by
 unfold QcJ
 rw [List.length_take,List.length_drop]
 omega
noncomputable def Qlg (K:PySem.W.Frag):V->Option Int->Option Int->Hp->VK->Prop:=fun x lo hi H Q=>∃ a xs,x=.ref a/\SqT K H a xs /\
 ¬ (HT.sIx xs.length 0 lo=0/\HT.sIx xs.length xs.length hi=xs.length)/\∀ p,H p=none->Q (.ref p) (upd H p (.tup (QcJ xs lo hi)))
theorem Qf7:SlR X (Qlg X.K):=by
 intro pins s σ H x v vl vu lo hi sl Q I rx hs pl pu h
 obtain ⟨a,xs,rfl,hx,hw,q⟩:=h
 cases rx
 obtain ⟨its,r,ht,hz⟩:=I.tuple hx
 have hlen:its.toArray.size=xs.length:=by rw [List.size_toArray];exact r.length.symm
 refine ⟨"tuple",_,PyProof.Rows.slot_tuple_getitem.lookup,ht.typeIs,?_⟩
 refine HT.getItem_tuple_cut ht hs pl pu (by rw [hlen];exact hw) ?_ (by rw [hlen];exact hz)
 rw [hlen]
 refine ⟨.ref s.heap.objs.size,_,I.laid (t':=s.toks) (o:=.tup (QcJ xs lo hi)) (fun b ob q=>Heap.get?_push_of_some _ q) (Nat.le_refl _) ?_,rfl,q _ (I.hok.fresh (Nat.le_refl _))⟩
 exact ⟨Nat.le_trans (X7 xs lo hi) hz,_,(r.drop (HT.sIx xs.length 0 lo)).take (HT.sIx xs.length xs.length hi - HT.sIx xs.length 0 lo),IsTup.new _ _⟩

noncomputable def QiZ (K:PySem.W.Frag):R2:=fun x y H Q=>∃ a b xs ys,x=.ref a/\y=.ref b/\SqT K H a xs/\SqT K H b ys/\xs≠[]/\xs.length+ys.length<=sizeLine /\
 (ys=[]->Q (.ref a) H)/\(ys≠[]->∀ p,H p=none->Q (.ref p) (upd H p (.tup (xs++ys))))
theorem Vals.nil_iff {xs:List V} {us:List Value} (r:Vals xs us):us=[] ↔ xs=[]:=by
 cases r with
 | nil=>simp
 | cons _ _=>simp
theorem Qft:OpR X (binaryOp .Add) (QiZ X.K):=by
 intro pins s σ H x y v u Q I rx ry h
 obtain ⟨a,b,xs,ys,rfl,rfl,ha,hb,hx,hz,q1,q2⟩:=h
 cases rx
 cases ry
 obtain ⟨its,r1,p1,_⟩:=I.tuple ha
 obtain ⟨its2,r2,p2,_⟩:=I.tuple hb
 refine HT.cat_tup p1 p2 (fun z=>hx (r1.nil_iff.mp z)) (fun z=>⟨.ref a,H,I,rfl,q1 (r2.nil_iff.mp z)⟩) (fun z=>?_) (by rw [<- r1.length,<- r2.length];exact hz)
 refine ⟨.ref s.heap.objs.size,_,I.laid (t':=s.toks) (o:=.tup (xs++ys)) (fun b ob q=>Heap.get?_push_of_some _ q) (Nat.le_refl _) ?_,rfl,q2 (fun w=>z (r2.nil_iff.mpr w)) _ (I.hok.fresh (Nat.le_refl _))⟩
 exact ⟨by rw [List.length_append];exact hz,_,r1.append r2,IsTup.new _ _⟩
end
end L2

namespace L2
open PySem PySem.Spec PyProof.Rows

noncomputable def ixN (n:Nat) (i:Int):Option Nat:=if 0<=i then (if i < n then some i.toNat else none) else if -(n:Int)<=i then some (i+n).toNat else none
noncomputable def atI {α:Type} (xs:List α) (i:Int):Option α:=(ixN xs.length i).bind fun j=>xs[j]?
theorem Qah {n:Nat} {i:Int} {j:Nat} (h:ixN n i=some j):seqIndex? i n=some j/\j < n/\-(n:Int)<=i/\i < n:=by
 unfold ixN at h
 by_cases h0:0<=i
 ·rw [if_pos h0] at h
  by_cases h1:i < n
  ·rw [if_pos h1] at h
   have e:i.toNat=j:=Option.some.inj h
   exact ⟨by rw [seqIndex_of h0 h1,e],by omega,by omega,h1⟩
  ·rw [if_neg h1] at h;cases h
 ·rw [if_neg h0] at h
  by_cases h1:-(n:Int)<=i
  ·rw [if_pos h1] at h
   have e:(i+n).toNat=j:=Option.some.inj h
   exact ⟨by rw [seqIndex_neg (by omega) h1,e],by omega,h1,by omega⟩
  ·rw [if_neg h1] at h;cases h
theorem Ub {α:Type} {xs:List α} {i:Int} {v:α} (h:atI xs i=some v):∃ j,seqIndex? i xs.length=some j/\xs[j]?=some v/\j < xs.length/\-(xs.length:Int)<=i/\i < xs.length:=by
 unfold atI at h
 cases e:ixN xs.length i with
 | none=>rw [e] at h;cases h
 | some j=>
  rw [e] at h
  obtain ⟨h1,h2,h3,h4⟩:=Qah e
  exact ⟨j,h1,h,h2,h3,h4⟩
theorem Qeg {α:Type} {xs:List α} {j:Nat} {v:α} (h:xs[j]?=some v):atI xs (j:Int)=some v:=by
 have hj:j < xs.length:=(List.getElem?_eq_some_iff.mp h).1
 have e:ixN xs.length (j:Int)=some j:=by
  unfold ixN
  rw [if_pos (by omega),if_pos (by omega)];simp
 unfold atI;rw [e];exact h
noncomputable def Uk (b:Expr):Prop:=∀ o i,subscripted b false o i=operate [o,i] (getItem o i)
noncomputable def IxR (X:Cx) (r:R2):Prop:=
 ∀ (value slice:Expr) (pins:List (Addr×Obj)) (s:Shared) (σ:St) (H:Hp) (x y:V) (v u:Value) (Q:VK),Inv X pins σ H s->RelV x v->RelV y u->r x y H Q ->
  subscripted slice false v u=operate [v,u] (getItem v u)->wpAny (model X.prog X.w) X.A (subscriptTail value slice v u) (EP X pins σ Q) X.xe s
noncomputable def MtR (X:Cx) (id:String) (r:V->List V->Hp->VK->Prop):Prop:=
 ∀ (pins:List (Addr×Obj)) (s:Shared) (σ:St) (H:Hp) (x:V) (xs:List V) (v:Value) (us:List Value) (Q:VK),Inv X pins σ H s->RelV x v->Vals xs us->r x xs H Q ->
  wpAny (model X.prog X.w) X.A (call (.builtin id) (v::us)) (EP X pins σ Q) X.xe s
section
variable {X:Cx} {a b:Expr} {ta tb:TE} {pos:Pos}
theorem IxR.or {r r':R2} (h:IxR X r) (h':IxR X r'):IxR X (fun x y H Q=>r x y H Q\/r' x y H Q):=by
 intro value slice pins s σ H x y v u Q I rx ry q hs
 rcases q with q | q
 ·exact h value slice pins s σ H x y v u Q I rx ry q hs
 ·exact h' value slice pins s σ H x y v u Q I rx ry q hs
theorem Qir {r:R2} (hr:IxR X r) (ha:PE X a ta) (hb:PE X b tb) (hs:Uk b):PE X (.Subscript a b pos) (tOp r ta tb):=by
 intro pins s σ H Q I h
 exact Subscript_ (QiV ha hb I h fun v u s2 x y H2 I2 rx ry q=>hr a b pins s2 σ H2 x y v u Q I2 rx ry q (hs _ _))

noncomputable def Qkb (K:PySem.W.Frag):R2:=fun x y H Q=>∃ p xs i v,x=.ref p/\y=.int i/\SqL K H p xs/\atI xs i=some v/\Q v H
noncomputable def Qku (K:PySem.W.Frag):R2:=fun x y H Q=>∃ p xs i v,x=.ref p/\y=.int i/\SqT K H p xs/\atI xs i=some v/\Q v H
noncomputable def Qkf:R2:=fun x y H Q=>∃ z i c,x=.str z/\y=.int i/\z.length<=sizeLine/\atI z.cps.toList i=some c/\Q (.str ⟨#[c]⟩) H
theorem ix_list:IxR X (Qkb X.K):=by
 intro value slice pins s σ H x y v u Q I rx ry h hs
 obtain ⟨p,xs,i,z,rfl,rfl,hq,he,q⟩:=h
 cases rx
 obtain ⟨t,rfl⟩:=ry
 obtain ⟨its,r,pl,hz⟩:=I.list hq
 obtain ⟨j,h1,h2,h3,h4,h5⟩:=Ub he
 obtain ⟨w,ew,rw'⟩:=r.get h2
 have hl:=r.length
 have hn:=XV
 have fin:EP X pins σ Q w s:=⟨z,H,I,rw',q⟩
 by_cases h0:0<=i
 ·have hj:i.toNat=j:=by
   rw [seqIndex_of h0 h5] at h1
   exact Option.some.inj h1
  exact item_listR pl.isList h0 (by omega) (by rw [hj];simpa using ew) fin hs
 ·have hj:(i+(its.toArray.size:Int)).toNat=j:=by
   rw [seqIndex_neg (by omega) h4] at h1
   rw [List.size_toArray,<- hl]
   exact Option.some.inj h1
  exact subscriptTail_builtinR (x:=w) pl.isList.typeIs slot_list_getitem.lookup
   (wpAny_getItem_list_neg (Q:=fun r s'=>r=w/\EP X pins σ Q r s') pl.isList (by omega) (by rw [List.size_toArray]<;>omega) (by omega) (by rw [hj];simpa using ew) ⟨rfl,fin⟩) hs
theorem ix_tup:IxR X (Qku X.K):=by
 intro value slice pins s σ H x y v u Q I rx ry h hs
 obtain ⟨p,xs,i,z,rfl,rfl,hq,he,q⟩:=h
 cases rx
 obtain ⟨t,rfl⟩:=ry
 obtain ⟨its,r,pl,hz⟩:=I.tuple hq
 obtain ⟨j,h1,h2,h3,h4,h5⟩:=Ub he
 obtain ⟨w,ew,rw'⟩:=r.get h2
 have hl:=r.length
 have hn:=XV
 have fin:EP X pins σ Q w s:=⟨z,H,I,rw',q⟩
 exact subscriptTail_builtinR (x:=w) pl.typeIs slot_tuple_getitem.lookup
  (getItem_tuple (j:=j) (Q:=fun r s'=>r=w/\EP X pins σ Q r s') pl (by omega) (by omega) (by rw [List.size_toArray,<- hl];exact h1) (by simpa using ew) ⟨rfl,fin⟩) hs
theorem Qf5:IxR X Qkf:=by
 intro value slice pins s σ H x y v u Q I rx ry h hs
 obtain ⟨z,i,c,rfl,rfl,hz,he,q⟩:=h
 obtain ⟨t,rfl⟩:=rx
 obtain ⟨t',rfl⟩:=ry
 obtain ⟨j,h1,h2,h3,h4,h5⟩:=Ub he
 have hl:z.cps.toList.length=z.length:=by simp [Str.length]
 rw [hl] at h1 h4 h5
 have hn:=XV
 exact tail_any (typeIs_str s z t) slot_str_getitem.lookup (getItem_str (c:=c) (by
  have e1:decide (i < -(2 ^ 63:Int))=false:=decide_eq_false (by omega)
  have e2:decide (i >= 2 ^ 63)=false:=decide_eq_false (by omega)
  rw [e1,e2,Bool.or_false]) (by rw [h1];simpa using h2) ⟨.str ⟨#[c]⟩,H,I.tok _,⟨_,rfl⟩,q⟩) hs
noncomputable def rIx (K:PySem.W.Frag):R2:=fun x y H Q=>Qkb K x y H Q\/Qku K x y H Q\/Qkf x y H Q
theorem Qht:IxR X (rIx X.K):=ix_list.or (ix_tup.or Qf5)

theorem Gg (its:List Value) (n j:Nat) (u:Value):Obj.mapSeq (·.setIfInBounds j u) { cls:=.type "list",data:=.seq its.toArray n }={ cls:=.type "list",data:=.seq (its.set j u).toArray n }:=by
 simp [Obj.mapSeq]
theorem Inv.lst {pins:List (Addr×Obj)} {σ:St} {H:Hp} {s:Shared} {p:Addr} {xs:List V} (I:Inv X pins σ H s) (h:H p=some (.lst xs)) :
  ∃ (its:List Value) (n:Nat),Vals xs its/\s.heap.get? p=some { cls:=.type "list",data:=.seq its.toArray n }/\xs.length<=sizeLine:=by
 obtain ⟨z,its,n,r,e⟩:=I.hok p _ h
 exact ⟨its,n,r,e,z⟩
theorem Inv.lstUpd {pins:List (Addr×Obj)} {σ:St} {H:Hp} {s:Shared} {p:Addr} {xs ys:List V} {its its':List Value} {n n':Nat} {f:Obj->Obj} (I:Inv X pins σ H s) (h:H p=some (.lst xs))
  (ho:s.heap.get? p=some { cls:=.type "list",data:=.seq its.toArray n }) (hf:f { cls:=.type "list",data:=.seq its.toArray n }={ cls:=.type "list",data:=.seq its'.toArray n' }) (r:Vals ys its') (hz:ys.length<=sizeLine) (t:Nat) :
  Inv X pins σ (upd H p (.lst ys)) { s with heap:=s.heap.update p f,toks:=t }:=by
 have e:(s.heap.update p f).get? p=some { cls:=.type "list",data:=.seq its'.toArray n' }:=by
  rw [Heap.get?_update_self f ho (by rw [hf]<;>rfl),hf]
 refine I.write (x:=p) (e:=p) (by rw [h];trivial) (.inl rfl) (fun b u hb q=>(Heap.get?_update_other _ _ (Ne.symm hb)).trans q) ⟨_,e⟩ ?_
 exact ⟨hz,its',n',r,e⟩
noncomputable def Qg6:V->V->V->Hp->(Hp->Prop)->Prop:=fun o i v H Q=>∃ p xs k j,o=.ref p/\i=.int k/\H p=some (.lst xs)/\ixN xs.length k=some j/\Q (upd H p (.lst (xs.set j v)))
theorem set_list:QkT X Qg6:=by
 intro pins s σ H o i v ov iv u Q I ro ri rv h
 obtain ⟨p,xs,k,j,rfl,rfl,hp,hj,q⟩:=h
 cases ro
 obtain ⟨t,rfl⟩:=ri
 obtain ⟨its,n,r,ho,hz⟩:=I.lst hp
 obtain ⟨h1,h2,h3,h4⟩:=Qah hj
 have hl:=r.length
 have hn:=XV
 have I':Inv X pins σ (upd H p (.lst (xs.set j v))) { s with heap:=s.heap.update p (Obj.mapSeq (·.setIfInBounds j u)) }:=
  I.lstUpd hp ho (Gg its n j u) (r.set rv j) (by rw [List.length_set];exact hz) s.toks
 by_cases h0:0<=k
 ·have hk:k.toNat=j:=by
   rw [seqIndex_of h0 h4] at h1
   exact Option.some.inj h1
  exact PySem.W.ki_setAt ho h0 (by omega) (by rw [List.size_toArray,<- hl];exact h4) (by rw [hk];exact ⟨_,I',q⟩)
 ·have hk:(k+(its.toArray.size:Int)).toNat=j:=by
   rw [seqIndex_neg (by omega) h3] at h1
   rw [List.size_toArray,<- hl]
   exact Option.some.inj h1
  exact PySem.W.ki_setBack ho (by omega) (by rw [List.size_toArray,<- hl];exact h3) (by omega) (by rw [hk];exact ⟨_,I',q⟩)

theorem YY (lo hi:Option Int) (n:Nat):(sliceBounds lo hi none n).1=((HT.sIx n 0 lo:Nat):Int)/\(sliceBounds lo hi none n).2.1=((HT.sIx n n hi:Nat):Int)/\(sliceBounds lo hi none n).2.2=1:=by
 refine ⟨?_,?_,rfl⟩
 ·cases lo with
  | none=>simp [sliceBounds,HT.sIx]
  | some i=>
   simp only [sliceBounds,HT.sIx,Option.getD_none,show (1:Int) > 0 by decide,if_true]
   by_cases h:i < 0
   ·simp only [h,if_true]<;>omega
   ·simp only [h,if_false]<;>omega
 ·cases hi with
  | none=>simp [sliceBounds,HT.sIx]
  | some i=>
   simp only [sliceBounds,HT.sIx,Option.getD_none,show (1:Int) > 0 by decide,if_true]
   by_cases h:i < 0
   ·simp only [h,if_true]<;>omega
   ·simp only [h,if_false]<;>omega
theorem YF (its:List Value) (lo hi:Option Int):slicePick its.toArray lo hi none=((its.drop (HT.sIx its.length 0 lo)).take (HT.sIx its.length its.length hi - HT.sIx its.length 0 lo)).toArray:=by
 obtain ⟨h1,h2,h3⟩:=YY lo hi its.toArray.size
 unfold slicePick
 rw [h1,h2,h3]
 simp only [sliceRange_one,pick_run,List.size_toArray]<;>rfl
noncomputable def QlN (K:PySem.W.Frag):V->Option Int->Option Int->Hp->VK->Prop:=fun x lo hi H Q=>∃ a xs,x=.ref a/\SqL K H a xs/\∀ p,H p=none->Q (.ref p) (upd H p (.lst (QcJ xs lo hi)))
theorem sl_list:SlR X (QlN X.K):=by
 intro pins s σ H x v vl vu lo hi sl Q I rx hs pl pu h
 obtain ⟨a,xs,rfl,hx,q⟩:=h
 cases rx
 obtain ⟨its,r,ht,hz⟩:=I.list hx
 have hlen:=r.length
 refine ⟨"list",_,slot_list_getitem.lookup,ht.isList.typeIs,?_⟩
 refine wpAny_getItem_list_slice ht.isList hs pl pu .none (by simp) ?_ (by rw [List.size_toArray]<;>omega)
 rw [YF,<- hlen]
 refine ⟨.ref s.heap.objs.size,_,I.laid (t':=s.toks) (o:=.lst (QcJ xs lo hi)) (fun b ob q=>Heap.get?_push_of_some _ q) (Nat.le_refl _) ?_,rfl,q _ (I.hok.fresh (Nat.le_refl _))⟩
 exact ⟨Nat.le_trans (X7 xs lo hi) hz,_,0,(r.drop (HT.sIx xs.length 0 lo)).take (HT.sIx xs.length xs.length hi - HT.sIx xs.length 0 lo),Heap.get?_push_size _ rfl⟩

noncomputable def QeO:V->Bool
 | .non=>true
 | .bl _=>true
 | .int _=>true
 | .str _=>true
 | _=>false
noncomputable def eqV:V->V->Bool
 | .non,.non=>true
 | .bl a,.bl b=>a == b
 | .bl a,.int b=>(if a then 1 else 0) == b
 | .int a,.bl b=>a == (if b then 1 else 0)
 | .int a,.int b=>a == b
 | .str a,.str b=>a == b
 | _,_=>false
theorem Qgq {A:Around} {s:Shared} {y x:V} {u v:Value} (ry:RelV y u) (rx:RelV x v) (fy:QeO y=true) (fx:QeO x=true):SeqAt.EqAt A s u v (eqV y x):=by
 cases y with
 | non=>
  cases ry
  cases x with
  | non=>cases rx;exact SeqAt.EqAt.same _
  | bl b=>cases rx;exact SeqAt.EqAt.none_bool b
  | int b=>obtain ⟨t,rfl⟩:=rx;exact SeqAt.EqAt.none_int b t
  | str b=>obtain ⟨t,rfl⟩:=rx;exact SeqAt.EqAt.none_str b t
  | _=>exact absurd (show false=true from fx) Bool.false_ne_true
 | bl a=>
  cases ry
  cases x with
  | non=>cases rx;exact SeqAt.EqAt.bool_none a
  | bl b=>cases rx;exact SeqAt.EqAt.bool_bool a b
  | int b=>obtain ⟨t,rfl⟩:=rx;exact SeqAt.EqAt.bool_int a b t
  | str b=>obtain ⟨t,rfl⟩:=rx;exact SeqAt.EqAt.bool_str a b t
  | _=>exact absurd (show false=true from fx) Bool.false_ne_true
 | int a=>
  obtain ⟨t',rfl⟩:=ry
  cases x with
  | non=>cases rx;exact SeqAt.EqAt.int_none a t'
  | bl b=>cases rx;exact SeqAt.EqAt.int_bool a t' b
  | int b=>obtain ⟨t,rfl⟩:=rx;exact SeqAt.EqAt.int_int a t' b t
  | str b=>obtain ⟨t,rfl⟩:=rx;exact SeqAt.EqAt.int_str a t' b t
  | _=>exact absurd (show false=true from fx) Bool.false_ne_true
 | str a=>
  obtain ⟨t',rfl⟩:=ry
  cases x with
  | non=>cases rx;exact SeqAt.EqAt.str_none a t'
  | bl b=>cases rx;exact SeqAt.EqAt.str_bool a t' b
  | int b=>obtain ⟨t,rfl⟩:=rx;exact SeqAt.EqAt.str_int a t' b t
  | str b=>obtain ⟨t,rfl⟩:=rx;exact SeqAt.EqAt.str_str a t' b t
  | _=>exact absurd (show false=true from fx) Bool.false_ne_true
 | _=>exact absurd (show false=true from fy) Bool.false_ne_true
theorem call_len_seq:CallR X (.builtin "len") (fun xs H Q=>∃ p ys,xs=[.ref p]/\(SqL X.K H p ys\/SqT X.K H p ys)/\Q (.int ys.length) H):=by
 intro pins s σ H xs us Q I r h
 obtain ⟨p,ys,rfl,hq,q⟩:=h
 obtain ⟨u,rfl,rx⟩:=Uc r
 cases rx
 have hn:=XV
 rcases hq with hq | hq
 ·obtain ⟨its,r',pl,hz⟩:=I.list hq
  have hlen:=r'.length
  exact Calls.call_len_list pl.isList (by simp only [List.size_toArray]<;>omega) ⟨.int ys.length,H,I.tok _,⟨s.toks+1,by rw [List.size_toArray,hlen]⟩,q⟩
 ·obtain ⟨its,r',pl,hz⟩:=I.tuple hq
  have hlen:=r'.length
  exact len_tuple pl (by simp only [List.size_toArray]<;>omega) ⟨.int ys.length,H,I.tok _,⟨s.toks+1,by rw [List.size_toArray,hlen]⟩,q⟩
theorem Y2:CallR X (.builtin "len") (fun xs H Q=>∃ z,xs=[.str z]/\z.length<=sizeLine/\Q (.int z.length) H):=by
 intro pins s σ H xs us Q I r h
 obtain ⟨z,rfl,hz,q⟩:=h
 obtain ⟨u,rfl,t,rfl⟩:=Uc r
 have hn:=XV
 exact len_str (by omega) ⟨.int z.length,H,I.tok _,⟨_,rfl⟩,q⟩
theorem CallR.or {f:Value} {r r':List V->Hp->VK->Prop} (h:CallR X f r) (h':CallR X f r'):CallR X f (fun xs H Q=>r xs H Q\/r' xs H Q):=by
 intro pins s σ H xs us Q I rs q
 rcases q with q | q
 ·exact h pins s σ H xs us Q I rs q
 ·exact h' pins s σ H xs us Q I rs q
theorem Wz:CallR X (.type "list") (fun xs H Q=>∃ p ys,xs=[.ref p]/\(SqL X.K H p ys\/SqT X.K H p ys)/\∀ l,H l=none->Q (.ref l) (upd H l (.lst ys))):=by
 intro pins s σ H xs us Q I r h
 obtain ⟨p,ys,rfl,hq,q⟩:=h
 obtain ⟨u,rfl,rx⟩:=Uc r
 cases rx
 have fin:∀ (its:List Value),Vals ys its->ys.length<=sizeLine->∀ (h':Heap) (c':Nat),(∀ b o',s.heap.get? b=some o'->h'.get? b=some o') ->
   h'.get? s.heap.objs.size=some { cls:=.type "list",dict:=none,data:=.seq its.toArray c',slots:=#[] }->EP X pins σ Q (.ref s.heap.objs.size) { s with heap:=h' }:=fun its r' hz h' c' kp e=>
  ⟨.ref s.heap.objs.size,_,I.laid (t':=s.toks) kp (Nat.le_refl _) (show ObjOk X.prog X.w _ h' _ (.lst ys) from ⟨hz,its,c',r',e⟩),rfl,q _ (I.hok.fresh (Nat.le_refl _))⟩
 rcases hq with hq | hq
 ·obtain ⟨its,r',pl,hz⟩:=I.list hq
  have hlen:=r'.length
  obtain ⟨o,ho,hc,n,hd⟩:=pl.isList
  exact call_list_seq p (.inl rfl) ho hc hd (fun h' c' kp e=>fin its r' hz h' c' kp e) (by simp only [List.size_toArray]<;>omega)
 ·obtain ⟨its,r',pl,hz⟩:=I.tuple hq
  have hlen:=r'.length
  obtain ⟨o,ho,hc,n,hd⟩:=pl
  exact call_list_seq p (.inr rfl) ho hc hd (fun h' c' kp e=>fin its r' hz h' c' kp e) (by simp only [List.size_toArray]<;>omega)
theorem K1:CallR X (.type "tuple") (fun xs H Q=>∃ p ys,xs=[.ref p]/\((SqL X.K H p ys/\∀ l,H l=none->Q (.ref l) (upd H l (.tup ys)))\/(SqT X.K H p ys/\Q (.ref p) H))):=by
 intro pins s σ H xs us Q I r h
 obtain ⟨p,ys,rfl,h⟩:=h
 obtain ⟨u,rfl,rx⟩:=Uc r
 cases rx
 rcases h with ⟨hq,q⟩ | ⟨hq,q⟩
 ·obtain ⟨its,r',pl,hz⟩:=I.list hq
  have hlen:=r'.length
  refine call_tuple_list pl.isList (fun h' kp=>?_) (by simp only [List.size_toArray]<;>omega)
  have I1:Inv X pins σ H { s with heap:=h' }:=I.kept (t':=s.toks) kp
  have I2:Inv X pins σ (upd H h'.objs.size (.tup ys)) { s with heap:=h'.push { cls:=.type "tuple",data:=.seq its.toArray } }:=
   I1.laid (t':=s.toks) (fun b o e=>Heap.get?_push_of_some _ e) (Nat.le_refl _) (show ObjOk X.prog X.w _ _ _ (.tup ys) from ⟨hz,its,r',IsTup.new _ _⟩)
  exact ⟨.ref h'.objs.size,_,I2,rfl,q _ (I1.hok.fresh (Nat.le_refl _))⟩
 ·obtain ⟨its,r',pl,hz⟩:=I.tuple hq
  exact call_tuple_same pl ⟨.ref p,H,I,rfl,q⟩

noncomputable def tyV (K:PySem.W.Frag) (T:String) (x:V) (H:Hp):Prop:=match x with
 | .str _=>T="str"
 | .int _=>T="int"
 | .ref p=>(T="list"/\∃ xs,SqL K H p xs)\/(T="tuple"/\∃ o,K.lookup p=some o/\o.cls=.type "tuple"/\o.dict=none) \/
   (T="dict"/\((∃ kvs,H p=some (.dK kvs))\/∃ kvs,H p=some (.dT kvs)))\/(T="set"/\∃ S n,H p=some (.set S n))
 | _=>False
theorem G4 {pins:List (Addr×Obj)} {σ:St} {H:Hp} {s:Shared} {T:String} {x:V} {v:Value} (I:Inv X pins σ H s) (r:RelV x v) (ty:tyV X.K T x H) :
  s.TypeIs v T/\∀ a,v=.ref a->∃ ob,s.heap.get? a=some ob/\ob.dict=none:=by
 cases x with
 | str z=>
  obtain ⟨t,rfl⟩:=r
  cases (show T="str" from ty)
  exact ⟨typeIs_str s z t,fun _ e=>nomatch e⟩
 | int i=>
  obtain ⟨t,rfl⟩:=r
  cases (show T="int" from ty)
  exact ⟨typeIs_int s i t,fun _ e=>nomatch e⟩
 | ref p=>
  cases r
  rcases ty with ⟨rfl,xs,hq⟩ | ⟨rfl,o,hk,hc,hd⟩ | ⟨rfl,hk⟩ | ⟨rfl,S,n,hk⟩
  ·obtain ⟨its,_,pl,_⟩:=I.list hq
   refine ⟨pl.isList.typeIs,fun a e=>?_⟩
   cases e
   obtain ⟨o,n,e,c,hd,_⟩:=pl
   exact ⟨o,e,hd⟩
  ·refine ⟨⟨o,I.kIn p o hk,hc⟩,fun a e=>?_⟩
   cases e
   exact ⟨o,I.kIn _ o hk,hd⟩
  ·have z:∃ o,s.heap.get? p=some o/\o.ExactDict:=by
    rcases hk with ⟨kvs,hk⟩ | ⟨kvs,hk⟩
    ·obtain ⟨_,_,_,_,o,_,_,e,ex,_⟩:=I.hok p _ hk
     exact ⟨o,e,ex⟩
    ·obtain ⟨_,_,_,_,o,_,_,e,ex,_⟩:=I.hok p _ hk
     exact ⟨o,e,ex⟩
   obtain ⟨o,e,ex⟩:=z
   refine ⟨⟨o,e,ex.1⟩,fun a e2=>?_⟩
   cases e2
   exact ⟨o,e,ex.2.1⟩
  ·obtain ⟨o,_,_,_,e,ex,_⟩:=I.hok p _ hk
   refine ⟨⟨o,e,ex.1⟩,fun a e2=>?_⟩
   cases e2
   exact ⟨o,e,ex.2.1⟩
 | _=>exact False.elim ty
noncomputable def Qk9 (K:PySem.W.Frag) (T:String) (r:V->List V->Hp->VK->Prop) (to:TE):TE:=fun σ H Q=>to σ H fun x H1=>tyV K T x H1/\r x [] H1 Q
noncomputable def tBM (K:PySem.W.Frag) (T:String) (r:V->List V->Hp->VK->Prop) (to:TE) (t:TA):TE:=fun σ H Q=>to σ H fun x H1=>tyV K T x H1/\t σ H1 fun xs H2=>r x xs H2 Q
variable {o e:Expr} {es:List Expr} {to:TE} {t:TA} {name:Str} {apos cpos:Pos} {T id:String} {r:V->List V->Hp->VK->Prop}
theorem Qgk (pa:PlainAttrs T) (slot:Slot T name id) (hty:typeOf (.builtin id)=pure (.type "method_descriptor")) (hm:MtR X id r) (ho:PE X o to)
  (hbase:attributeBase o name X.env (eval o X.env)=eval o X.env:=by rfl) (hline:(apos.endLine == cpos.line)=true:=by rfl):PE X (.Call (.Attribute o name apos) [] [] cpos) (Qk9 X.K T r to):=by
 intro pins s σ H Q I h
 refine wpAny_Call_method0_late hbase hline (thn (ho pins s σ H _ I h) fun v s1 ⟨x,H1,I1,r1,ty,q1⟩=>?_)
 obtain ⟨h1,h2⟩:=G4 I1 r1 ty
 exact ⟨T,id,pa,slot,hty,h1,h2,Calls.callWith_builtin rfl (PySem.evalArgs_none (hm pins s1 σ H1 x [] v [] Q I1 r1 .nil q1))⟩
theorem QjN (pa:PlainAttrs T) (slot:Slot T name id) (hty:typeOf (.builtin id)=pure (.type "method_descriptor")) (hm:MtR X id r) (ho:PE X o to) (ha:PA X (e::es) t)
  (hbase:attributeBase o name X.env (eval o X.env)=eval o X.env:=by rfl)
  (hfew:((backTo cpos (starEach (e::es) X.env)).all (fun x=>!x.1) && (backToKw cpos (keywordEach [] X.env)).all (fun x=>x.1.isSome)
   && decide ((e::es).length+([]:List Keyword).length+(if ([]:List Keyword).isEmpty then 0 else 1) < 30))=true:=by rfl)
  (hline:(apos.endLine == cpos.line)=true:=by rfl) (hs:starEach (e::es) X.env=(false,eval e X.env)::starEach es X.env:=by rfl) (hplain:(backTo cpos (starEach es X.env)).any (·.1)=false:=by rfl) :
  PE X (.Call (.Attribute o name apos) (e::es) [] cpos) (tBM X.K T r to t):=by
 intro pins s σ H Q I h
 refine wpAny_Call_method_late hbase hfew hline rfl (thn (ho pins s σ H _ I h) fun v s1 ⟨x,H1,I1,r1,ty,q1⟩=>?_)
 obtain ⟨h1,h2⟩:=G4 I1 r1 ty
 refine ⟨T,id,pa,slot,hty,h1,h2,?_⟩
 have hA:=ha cpos pins s1 σ H1 _ I1 q1
 rw [hs] at hA ⊢
 refine Calls.callWith_builtin (by show (false || (backTo cpos (starEach es X.env)).any (·.1))=false;rw [hplain]<;>rfl) (Calls.evalArgs_plain ?_)
 exact thn hA fun us s2 ⟨vs,H2,I2,r2,q2⟩=>hm pins s2 σ H2 x vs v us Q I2 r1 r2 q2
end
end L2

namespace L2
open PySem PySem.Spec PyProof.Rows

noncomputable def MtM (X:Cx) (id:String) (r:V->List V->Hp->VK->Prop):Prop:=
 ∀ (pins:List (Addr×Obj)) (s:Shared) (σ:St) (H:Hp) (x:V) (xs:List V) (v:Value) (us:List Value) (Q:VK),Inv X pins σ H s->RelV x v->Vals xs us->r x xs H Q ->
  wpAny (model X.prog X.w) X.A (call (.builtin id) (v::us)) (EP X pins σ Q) X.xe s

theorem Vals.one:∀ {x:V} {us:List Value},Vals [x] us->∃ u,us=[u]/\RelV x u
 | _,_,.cons r .nil=>⟨_,rfl,r⟩
theorem Vals.zero:∀ {us:List Value},Vals [] us->us=[]
 | _,.nil=>rfl
theorem Vals.dropLast {xs:List V} {us:List Value} (h:Vals xs us):Vals xs.dropLast us.dropLast:=by
 induction h with
 | nil=>exact .nil
 | cons r t ih=>
  cases t with
  | nil=>exact .nil
  | cons q t'=>exact .cons r ih
theorem Vals.eraseIdx:∀ {xs:List V} {us:List Value} (i:Nat),Vals xs us->Vals (xs.eraseIdx i) (us.eraseIdx i)
 | _,_,_,.nil=>.nil
 | _,_,0,.cons _ t=>t
 | _,_,i+1,.cons r t=>.cons r (Vals.eraseIdx i t)
theorem Gq {α:Type} (l:List α):l.eraseIdx (l.length - 1)=l.dropLast:=by
 induction l with
 | nil=>rfl
 | cons a r ih=>
  cases r with
  | nil=>rfl
  | cons b r=>
   have e:(a::b::r).length - 1=((b::r).length - 1)+1:=by
    have h1:(a::b::r).length=r.length+2:=rfl
    have h2:(b::r).length=r.length+1:=rfl
    omega
   rw [e,List.eraseIdx_cons_succ,ih]
   all_goals rfl
section
variable {X:Cx} {pins:List (Addr×Obj)} {σ:St} {H:Hp} {s:Shared} {l b:Addr} {xs ys zs:List V}

theorem Inv.lset {its its':List Value} {n:Nat} {f:Array Value->Array Value} {t':Nat} (I:Inv X pins σ H s) (hH:H l=some (.lst xs))
  (e:s.heap.get? l=some { cls:=.type "list",data:=.seq its.toArray n }) (hf:f its.toArray=its'.toArray) (hv:Vals ys its') (hz:ys.length<=sizeLine) :
  Inv X pins σ (upd H l (.lst ys)) { s with heap:=s.heap.update l (Obj.mapSeq f),toks:=t' }:=by
 have q:=PySem.IsL.update e f
 rw [hf] at q
 refine I.write (x:=l) (e:=l) (by rw [hH];exact trivial) (.inl rfl) (fun b' u hb hu=>(Heap.get?_update_other s.heap (Obj.mapSeq f) (Ne.symm hb)).trans hu) ⟨_,q⟩ ?_
 exact ⟨hz,its',_,hv,q⟩
theorem Inv.lnew {its:List Value} {t':Nat} (I:Inv X pins σ H s) (hv:Vals ys its) (hz:ys.length<=sizeLine) :
  Inv X pins σ (upd H s.heap.objs.size (.lst ys)) { s with heap:=s.heap.push { cls:=.type "list",data:=.seq its.toArray },toks:=t' }:=
 I.laid (fun _ _ q=>Heap.get?_push_of_some _ q) (Nat.le_refl _) ⟨hz,its,0,hv,Heap.get?_push_size _ rfl⟩
theorem Inv.fresh (I:Inv X pins σ H s):H s.heap.objs.size=none:=I.hok.fresh (Nat.le_refl _)
theorem Inv.lstM (I:Inv X pins σ H s) (hH:H l=some (.lst xs)):xs.length<=sizeLine/\∃ (its:List Value) (n:Nat),Vals xs its/\xs.length=its.length/\s.heap.get? l=some { cls:=.type "list",data:=.seq its.toArray n }:=by
 obtain ⟨z,its,n,r,e⟩:=I.hok l _ hH
 exact ⟨z,its,n,r,r.length,e⟩

theorem Qde {n:Nat} (h:n<=sizeLine):Builtin.List.listTooLong n=false:=by
 unfold Builtin.List.listTooLong
 exact decide_eq_false (by omega)
end

section
variable {X:Cx}

noncomputable def Qe9:V->List V->Hp->VK->Prop:=fun x vs H Q=>∃ l xs y,x=.ref l/\vs=[y]/\H l=some (.lst xs)/\xs.length < sizeLine/\Q .non (upd H l (.lst (xs++[y])))
theorem Qbs:MtM X "list.append" Qe9:=by
 intro pins s σ H x vs v us Q I rx rv h
 obtain ⟨l,xs,y,rfl,rfl,hH,hz,q⟩:=h
 cases rx
 obtain ⟨u,rfl,ru⟩:=rv.one
 obtain ⟨z,its,n,r,hl,e⟩:=I.lstM hH
 refine call_meets F.slot_list_append ⟨_,e,rfl⟩ F.entry_list_append (F.args_list_append_2 _ _) (PySem.list_append l its.toArray n u (by rw [List.size_toArray];omega)) ⟨e,?_⟩
 refine ⟨.non,_,I.lset (its':=its++[u]) hH e (by simp) (r.append (.cons ru .nil)) ?_,rfl,q⟩
 rw [List.length_append,List.length_singleton]
 omega

noncomputable def QeS:V->List V->Hp->VK->Prop:=fun x vs H Q=>∃ l b xs zs,x=.ref l/\vs=[.ref b]/\H l=some (.lst xs)/\H b=some (.lst zs)/\xs.length+zs.length<=sizeLine/\Q .non (upd H l (.lst (xs++zs)))
theorem Qad:MtM X "list.extend" QeS:=by
 intro pins s σ H x vs v us Q I rx rv h
 obtain ⟨l,b,xs,zs,rfl,rfl,hH,hB,hz,q⟩:=h
 cases rx
 obtain ⟨u,rfl,ru⟩:=rv.one
 cases ru
 obtain ⟨z,its,n,r,hl,e⟩:=I.lstM hH
 obtain ⟨z2,its2,n2,r2,hl2,e2⟩:=I.lstM hB
 have hsz:its.toArray.size+its2.toArray.size<=sizeLine:=by rw [List.size_toArray,List.size_toArray];omega
 have hlong:¬ (!its.toArray.isEmpty && Builtin.List.listTooLong (its.toArray.size+its2.toArray.size))=true:=by
  rw [Qde hsz,Bool.and_false]
  exact Bool.false_ne_true
 refine call_meets F.slot_list_extend ⟨_,e,rfl⟩ F.entry_list_extend (F.args_list_extend_2 _ _)
  (AutoSeq1.list_extend_list_list_0 l its.toArray n b its2.toArray n2 hlong (by rw [List.size_toArray];omega) (by omega)) ⟨e,e2,?_⟩
 refine ⟨.non,_,I.lset (its':=its++its2) hH e (by simp) (r.append r2) ?_,rfl,q⟩
 rw [List.length_append]
 omega

noncomputable def Ql2:V->List V->Hp->VK->Prop:=fun x vs H Q=>∃ l xs y,x=.ref l/\vs=[]/\H l=some (.lst xs)/\xs[xs.length - 1]?=some y/\Q y (upd H l (.lst xs.dropLast))
theorem QhG:MtM X "list.pop" Ql2:=by
 intro pins s σ H x vs v us Q I rx rv h
 obtain ⟨l,xs,y,rfl,rfl,hH,hy,q⟩:=h
 cases rx
 have hus:=rv.zero
 subst hus
 obtain ⟨z,its,n,r,hl,e⟩:=I.lstM hH
 obtain ⟨u,hu,ru⟩:=r.get hy
 have hy':its.toArray[its.toArray.size - 1]?=some u:=by
  show its.toArray[its.length - 1]?=some u
  rw [<- Array.getElem?_toList,<- hl]
  exact hu
 refine call_meets F.slot_list_pop ⟨_,e,rfl⟩ F.entry_list_pop (F.args_list_pop_1 _) (MeetsSeq.list_pop_last l its.toArray n u hy' (by rw [List.size_toArray];omega)) ⟨e,?_⟩
 refine ⟨y,_,I.lset (its':=its.dropLast) hH e ?_ r.dropLast ?_,ru,q⟩
 ·show its.toArray.eraseIdxIfInBounds (its.toArray.size - 1)=its.dropLast.toArray
  rw [List.size_toArray,List.eraseIdxIfInBounds_toArray,Gq]
 ·rw [List.length_dropLast]
  omega

noncomputable def Qlf:R2:=fun x y H Q=>∃ l b xs zs,x=.ref l/\y=.ref b/\H l=some (.lst xs)/\H b=some (.lst zs)/\xs.length+zs.length<=sizeLine/\∀ p,H p=none->Q (.ref p) (upd H p (.lst (xs++zs)))
theorem Qg9:OpR X (binaryOp .Add) Qlf:=by
 intro pins s σ H x y v u Q I rx ry h
 obtain ⟨l,b,xs,zs,rfl,rfl,hH,hB,hz,q⟩:=h
 cases rx
 cases ry
 obtain ⟨z,its,n,r,hl,e⟩:=I.lstM hH
 obtain ⟨z2,its2,n2,r2,hl2,e2⟩:=I.lstM hB
 refine PySem.P.add_list e e2 ?_ (by rw [List.size_toArray,List.size_toArray];omega)
 have ea:its.toArray++its2.toArray=(its++its2).toArray:=by simp
 rw [ea]
 exact ⟨.ref _,_,I.lnew (t':=s.toks) (r.append r2) (by rw [List.length_append];omega),rfl,q _ I.fresh⟩
end

section
variable {prog:Program} {w:World} {A:Around} {E:Value->Shared->Prop} {s:Shared}
end

section
variable {X:Cx}
end
end L2

namespace Att
open PySem PySem.W PySem.Calls PyProof.Rows

theorem Kn {P:Params} {h:Heap}:∀ (ns:List Int) (vs:List Value),WellAll P h vs (ns.map WData.int)->IntsAre vs ns:=by
 intro ns
 induction ns with
 | nil=>
  intro vs w
  rw [List.map_nil] at w
  cases w
  exact .nil
 | cons n ns ih=>
  intro vs w
  rw [List.map_cons] at w
  cases w with
  | cons a b=>
   cases a
   exact .cons _ _ (ih _ b)

theorem QaH {l:OpenLaw} {n:Nat} (hn:l.most=some n) {P:Params} {h:Heap} {args:List WData} {vals:List Value}
  (hpre:l.row.toRowW.claim.pre args=true) (hwl:WellAll P h vals args) :
  ∃ a vs ns,vals=[Value.ref a]/\args=[WData.list (ns.map WData.int)]/\h.get? a=some { cls:=.type "list",data:=.seq vs.toArray }/\IntsAre vs ns/\ns.length<=n:=by
 have hsh:WShape.hasAll [] args [.list .int]=true:=(pre_splitW hpre).1
 have hc:l.pre.holds [] { args:=args }=true:=(pre_splitW hpre).2
 obtain ⟨d,r,rfl,h1,h2⟩:=hasAllW_cons hsh
 obtain rfl:=hasAllW_nil h2
 obtain ⟨xs,rfl,h3⟩:=hasW_list h1
 obtain ⟨ns,rfl⟩:=items_int h3
 have hlen:ns.length<=n:=by
  unfold OpenLaw.pre at hc
  have h4:(WTm.not (.lt (.lit (.int (n:Int))) (.len (.arg 0)))).holds [] { args:=[.list (ns.map .int)] }=true:=by
   have h4:=(holds_andW hc).1
   rw [hn] at h4
   exact h4
  have h5:=condW_of h4 (w_not (w_lt w_lit (w_len_list (w_arg rfl))))
  rw [List.length_map] at h5
  refine Nat.le_of_not_lt fun q=>?_
  have q':(n:Int) < ((ns.length:Nat):Int):=by omega
  first
   | (rw [decide_eq_true q'] at h5;exact absurd h5 (by decide))
   | (simp at h5;omega)
 cases hwl with
 | cons w1 w2=>
  cases w2
  cases w1 with
  | list ho hall=>exact ⟨_,_,ns,rfl,rfl,ho,Kn ns _ hall,hlen⟩

theorem Qax (l:OpenLaw) (args:List WData):l.row.toRowW.claim.post args (.bool true) args=true:=
 postW_of (r:=l.row.toRowW) (X:=(true == true))
  (show WShape.has [] (.bool true) .bool=true by first | rfl | decide | simp [WShape.has,WShape.arms,WShape.armsAll])
  (show (WTm.eq .res (.lit (.bool true))).value [] { args:=args,res:=some (.bool true),after:=args }=some (.bool (true == true)) from w_eq_bool (w_res rfl) w_lit) rfl

theorem attach_call {l:OpenLaw} {n:Nat} {q:Program} {loose:List Str} {XP:(Str->Option Value)->Heap->Prop} {YP:World->Heap->Prop} {d:DefRec}
  (hn:l.most=some n) (hdf:d.params.defaults=[])
  (call:∀ (w:World) (s₀ s₁:Shared) (mg mb:Str->Option Value) (fa:Addr) (o:Obj) (pm cd doc:Value) (a:Addr) (vs:List Value) (ns:List Int),
   Ground q loose [] XP w s₀ mg mb s₁.heap->YP w s₁.heap ->
   s₁.heap.get? fa=some o->o.data=.func (docDef d.name d.params d.body d.scope pm cd doc)->s₁.heap.CodeRec cd d.name->mg d.name=some (.ref fa) ->
   s₁.heap.get? a=some { cls:=.type "list",data:=.seq vs.toArray }->IntsAre vs ns->ns.length<=n->s₁.gens=#[] ->
   codeAny (model l.prog w) callerA (.call (.ref fa) ⟨[.ref a],[]⟩) (fun r s'=>r=.ok (.ret (.bool true))/\OldK s₁.heap s'.heap/\s'.os=s₁.os/\AllBare s'.gens) s₁) :
  WalkO q loose XP YP l.row.toRowW d [] (fun f vs=>PySem.call f vs):=by
 intro w s₀ s₁ mg mb G Y fa o pm cd doc dV kV ho hd hcd hD hmg hg args vals as hpre hlay hrd hwl hlo
 obtain rfl:dV=.none:=Dflts.none hD hdf
 obtain rfl:kV=.none:=Dflts.noKw hD
 obtain ⟨a,vs,ns,rfl,rfl,hobj,hints,hlen⟩:=QaH hn hpre hwl
 refine enter_call (codeAny_mono (call w s₀ s₁ mg mb fa o pm cd doc a vs ns G Y ho (fd_plain hd) hcd hmg hobj hints hlen hg) fun r s' hq=>?_)
 obtain ⟨rfl,h2,h3,h4⟩:=hq
 exact ⟨.inl ⟨.bool true,.bool true,[],rfl,fun _=>rfl,.bool true,Qax l _,fun _=>⟨List.Pairwise.nil,fun _ hm=>(nomatch hm)⟩⟩,h2,h3,h4⟩

section
variable {prog:Program} {w:World} {A:Around} {E:Value->Shared->Prop} {s:Shared} {K:Frag}

end
end Att

namespace L2
open PySem PySem.Spec PyProof.Rows

theorem WC:∀ {vs:List Value} {ns:List Int},IntsAre vs ns->Vals (ns.map V.int) vs
 | _,_,.nil=>.nil
 | _,_,.cons n t h=>.cons ⟨t,rfl⟩ (WC h)

noncomputable def QiX (H:Hp):Prop:=∀ b,H b=none\/∃ o xs,H b=some (.frz o (.lst xs))

theorem Qdo {P:Program} {w:World} {K:PySem.W.Frag} {mg mb:Str->Option Value} {CX:CXT} {k:Nat} {fa a:Addr} {fd:FuncData} {x:Str} {sp:Sp} {s₁:Shared} {vs:List Value} {ns:List Int}
  (KX:K.In s₁.heap) (hns:s₁.heap.Ns mainGlobals mg) (hb:s₁.heap.Ns builtinsNs mb) (hbb:∀ x:Str,x≠"__name__"->mb x=bootBuiltins x) (hlim:s₁.heap.NoLimit) (hg:s₁.gens=#[])
  (ha:s₁.heap.get? a=some { cls:=.type "list",data:=.seq vs.toArray }) (hi:IntsAre vs ns) (hl:ns.length<=sizeLine) (hr:Room k callerA)
  (F:∀ base:Heap,K.In base->base.Ns mainGlobals mg->FnOk P w K mg base CX k fa fd [x] sp) (hbind:∀ (s:Shared) (u:Value),BindsTo s fd ⟨[u],[]⟩ [(x,u)])
  (hsp:∀ H:Hp,QiX H->SqL K H a (ns.map V.int)->sp [.ref a] H (fun v _=>v=.bl true) fun _ _ _=>False)
  (hCX:∀ H e s',CX [] H s₁ (fun _ _ _=>False) e s'->False) :
  codeAny (model P w) callerA (.call (.ref fa) ⟨[.ref a],[]⟩) (fun r s'=>r=.ok (.ret (.bool true))/\OldK s₁.heap s'.heap/\s'.os=s₁.os/\AllBare s'.gens) s₁:=by
 have rv:=WC hi
 have lenV:=hi.length
 -- from an abstract heap in which nothing but the script may be tracked
 have core:∀ H:Hp,QiX H->SqL K H a (ns.map V.int)->HOk P w H s₁.heap->(∀ b,H b≠none->b=a)->(H a≠none->K.lookup a=none) ->
   codeAny (model P w) callerA (.call (.ref fa) ⟨[.ref a],[]⟩) (fun r s'=>r=.ok (.ret (.bool true))/\OldK s₁.heap s'.heap/\s'.os=s₁.os/\AllBare s'.gens) s₁:=by
  intro H hO hS hok hA hK
  have base_of:∀ {b:Addr} {o:Obj},s₁.heap.get? b=some o->H b=none->(Qct s₁.heap H).get? b=some o:=fun e n=>Qdf e n
  have noA:∀ {b:Addr} {o:Obj} {es:Array DictEntry} {ep:Nat},s₁.heap.get? b=some o->o.data=.dict es ep->H b=none:=fun {b o es ep} e d=>by
   cases q:H b with
   | none=>rfl
   | some u=>
    have e':b=a:=hA b (by rw [q];simp)
    subst e'
    rw [ha] at e;cases e
    have d':Data.seq vs.toArray _=Data.dict es ep:=d
    cases d'
  have nsK:∀ {b:Addr} {m:Str->Option Value},s₁.heap.Ns b m->(Qct s₁.heap H).Ns b m:=fun {b m} ⟨o,es,ep,e,d,r⟩=>⟨o,es,ep,base_of e (noA e d),d,r⟩
  have hKb:K.In (Qct s₁.heap H):=fun b o e=>base_of (KX b o e) (by
   cases q:H b with
   | none=>rfl
   | some u=>
    have e':b=a:=hA b (by rw [q];simp)
    subst e'
    rw [hK (by rw [q];simp)] at e;cases e)
  have hM:Mod K mg (Qct s₁.heap H):=⟨hKb,nsK hns,⟨mb,nsK hb,hbb⟩,let ⟨mc,h1,h2⟩:=hlim;⟨mc,nsK h1,h2⟩⟩
  have e0:Env0 P w K mg (Qct s₁.heap H) callerA [] s₁ H:=⟨rfl,hM,fun b o e=>Qez e,Nat.le_of_eq (QaG _ _),trivial,fun b hb=>absurd (show b∈([]:List Addr) from hb) (by simp),hok,.of_eq hg⟩
  refine codeAny_mono ((F _ hKb (nsK hns)).run callerA [] s₁ H ⟨[.ref a],[]⟩ [.ref a] [.ref a] _ _ hr e0 (hbind s₁ (.ref a)) (.cons rfl .nil) (hsp H hO hS)) fun r s' h=>?_
  cases r with
  | error e=>exact (hCX H e s' h).elim
  | ok fl=>
   cases fl with
   | next=>exact False.elim h
   | brk=>exact False.elim h
   | cont=>exact False.elim h
   | ret u=>
    obtain ⟨v,H',os,bare,un,hok',r',q⟩:=h
    have q':v=.bl true:=q
    subst q'
    obtain rfl:u=Value.bool true:=r'
    refine ⟨rfl,OldK.of_keep fun b o e=>?_,os,bare⟩
    cases q:H b with
    | none=>exact un.keep b o e q (by intro z;exact absurd (show b∈([]:List Addr) from z) (by simp)) (by simp)
    | some u=>
     rcases hO b with z | ⟨ob,xs,z⟩
     ·rw [q] at z;cases z
     ·have z2:=un.frzs b ob _ z
      obtain ⟨e1,_⟩:=hok b _ z
      obtain ⟨e2,_⟩:=hok' b _ z2
      rw [e] at e1;cases e1
      exact e2
 cases hk:K.lookup a with
 | some o=>
  -- the script is one of the module's own objects
  have e:=KX a o hk
  rw [ha] at e
  cases e
  refine core (fun _=>none) (fun _=>.inl rfl) (.inr ⟨_,vs.toArray,_,hk,rfl,rfl,rfl,by rw [List.size_toArray,lenV];exact hl,by simpa using rv⟩) (fun b u z=>by have z':(none:Option HO)=some u:=z;cases z') (fun b z=>absurd rfl z) fun z=>absurd rfl z
 | none=>
  refine core (fun b=>if b=a then some (.frz { cls:=.type "list",data:=.seq vs.toArray } (.lst (ns.map V.int))) else none) (fun b=>?_) (.inl (.inr ⟨{ cls:=.type "list",data:=.seq vs.toArray },if_pos rfl⟩)) (fun b u z=>?_) (fun b z=>?_) fun _=>hk
  ·by_cases hb:b=a
   ·exact .inr ⟨_,_,if_pos hb⟩
   ·exact .inl (if_neg hb)
  ·by_cases hb:b=a
   ·have z':=(if_pos hb).symm.trans z
    cases z'
    subst hb
    exact ⟨ha,by rw [List.length_map];exact hl,vs,_,rv,ha⟩
   ·have z':=(if_neg hb).symm.trans z
    cases z'
  ·by_cases hb:b=a
   ·exact hb
   ·exact absurd (if_neg hb) z
end L2

namespace L2
open PySem PySem.Spec PyProof.Rows

noncomputable abbrev KOf {K:PySem.W.Frag} {h:Heap} (_:K.In h):PySem.W.Frag:=K

theorem QfR {l:PySem.W.OpenLaw} {n k:Nat} {q:Program} {loose:List Str} {XP:(Str->Option Value)->Heap->Prop} {YP:World->Heap->Prop} {d:DefRec} {K:Params->PySem.W.Frag} {CX:World->CXT} {sp:World->Sp} {x:Str}
  (hn:l.most=some n) (hn2:n<=sizeLine) (hdf:d.params.defaults=[]) (hr:Room k callerA)
  (hY:∀ (w:World) (h:Heap),YP w h->(K w.params).In h)
  (F:∀ (w:World) (mg:Str->Option Value) (fa:Addr) (h:Heap),(K w.params).In h->h.Ns mainGlobals mg->mg d.name=some (.ref fa) ->
   ∃ fd:FuncData,(∀ (s:Shared) (u:Value),BindsTo s fd ⟨[u],[]⟩ [(x,u)]) /\
    ∀ base:Heap,(K w.params).In base->base.Ns mainGlobals mg->FnOk l.prog w (K w.params) mg base (CX w) k fa fd [x] (sp w))
  (hsp:∀ (w:World) (H:Hp) (a:Addr) (ns:List Int),ns.length<=n->QiX H->SqL (K w.params) H a (ns.map V.int)->sp w [.ref a] H (fun v _=>v=.bl true) fun _ _ _=>False)
  (hCX:∀ (w:World) (H:Hp) (s:Shared) (e:Value) (s':Shared),CX w [] H s (fun _ _ _=>False) e s'->False) :
  PySem.W.WalkO q loose XP YP l.row.toRowW d [] (fun f vs=>PySem.call f vs):=by
 refine Att.attach_call hn hdf fun w s₀ s₁ mg mb fa o pm cd doc a vs ns G Y ho hd hcd hmg hobj hints hlen hg=>?_
 have KX:=hY w _ Y
 obtain ⟨fd,hb,hF⟩:=F w mg fa _ KX G.T.g hmg
 exact Qdo KX G.T.g G.T.b G.T.builtins G.T.nolimit hg hobj hints (Nat.le_trans hlen hn2) hr hF hb (fun H hO hS=>hsp w H a ns hlen hO hS) fun H e s'=>hCX w H s₁ e s'
end L2


namespace L2
open PySem PySem.Spec PyProof.Rows

noncomputable def VZ (s:Stmt):Arguments:=match s with
 | .FunctionDef _ a _ _ _ _ _ _ _ _=>a
 | _=>{ posonlyargs:=[],args:=[],vararg:=none,kwonlyargs:=[],kw_defaults:=[],kwarg:=none,defaults:=[] }
noncomputable def J9 (s:Stmt):List Stmt:=match s with
 | .FunctionDef _ _ b _ _ _ _ _ _ _=>b
 | _=>[]
noncomputable def Qp (s:Stmt):Scope:=match s with
 | .FunctionDef _ _ _ _ _ _ sc _ _ _=>sc
 | _=>{ kind:=.function,names:=[],isGenerator:=false,isCoroutine:=false }

noncomputable abbrev CX0:CXT:=fun _ _ _ _ _ _=>False
noncomputable abbrev E0:XK:=fun _ _ _=>False
theorem QjK {X:Cx}:UM CX0 X E0:=fun _ _ _ _ _ _ _ h=>h.elim

structure Fun (K:PySem.W.Frag) (x qual:Str) (st:Stmt) (f:Addr) (fd:FuncData):Prop where
 ex:∃ (oc:Value) (od:Option Addr) (kV doc pm:Value) (an:Option Addr) (cdv ct:Value) (osl:Array (Option Value)),
  fd=PySem.W.fnOf x qual (VZ st) (J9 st) (Qp st) .none kV doc pm an cdv ct/\K.lookup f=some ⟨oc,od,.func fd,osl⟩/\PySem.W.codeIn K cdv qual=true
 kp:PySem.W.keepIn K (.ref f)=true
section
variable {P:Program} {w:World} {K:PySem.W.Frag} {mg:Str->Option Value} {base:Heap}
theorem Fun.ok {x qual:Str} {st:Stmt} {f:Addr} {fd:FuncData} {N ps:List Str} {k:Nat} {sp:Sp} (F:Fun K x qual st f fd) (S:FnScope N ps (Qp st)) (len:∀ vs H Q E,sp vs H Q E->vs.length=ps.length)
  (hbody:∀ (cdv:Value) (A:Around) (outer:List Env) (s:Shared) (H:Hp) (vs:List V) (Q:VK) (E:XK),Room k (A.deeper (envOfC qual (Qp st) s.heap.objs.size f cdv))->sp vs H Q E ->
   ∃ t,PSs (QdK CX0 P w K mg base N qual (Qp st) f cdv A outer s H E).nox (J9 st) t/\t { nx:=fun _ H'=>Q .non H',rt:=Q } (start N vs) H):FnOk P w K mg base CX0 (k+1) f fd ps sp:=by
 obtain ⟨oc,od,kV,doc,pm,an,cdv,ct,osl,rfl,lk,hcd⟩:=F.ex
 refine QiP lk hcd S len fun A outer s H vs Q E hr hsp=>?_
 obtain ⟨t,h,q⟩:=hbody cdv A outer s H vs Q E hr hsp
 exact ⟨t,h.nox,q⟩
theorem Fun.binds {x qual:Str} {st:Stmt} {f:Addr} {fd:FuncData} {ps:List Str} (F:Fun K x qual st f fd)
  (h:∀ (kV doc pm:Value) (an:Option Addr) (cdv ct:Value) (us:List Value),us.length=ps.length->bindArgs (PySem.W.fnOf x qual (VZ st) (J9 st) (Qp st) .none kV doc pm an cdv ct) ⟨us,[]⟩=pure (ps.zip us)):Binds K fd ps []:=by
 obtain ⟨oc,od,kV,doc,pm,an,cdv,ct,osl,rfl,lk,hcd⟩:=F.ex
 exact .all (h kV doc pm an cdv ct)
theorem QdM {x qual:Str} {st:Stmt} {f:Addr} {oc:Value} {od an:Option Addr} {osl:Array (Option Value)} {kV doc pm cdv ct:Value} (l:K.lookup f=some ⟨oc,od,.func (PySem.W.fnOf x qual (VZ st) (J9 st) (Qp st) .none kV doc pm an cdv ct),osl⟩)
  (c:PySem.W.codeIn K cdv qual=true) (k:PySem.W.keepIn K (.ref f)=true):Fun K x qual st f (PySem.W.fnOf x qual (VZ st) (J9 st) (Qp st) .none kV doc pm an cdv ct):=⟨⟨oc,od,kV,doc,pm,an,cdv,ct,osl,rfl,l,c⟩,k⟩
end
section
variable {X:Cx}
end

theorem Qfr {A B:Prop} (h:B):if false=true then A else B:=by
 rw [if_neg Bool.false_ne_true]
 exact h
theorem Qd5 {A B:Prop} (h:A):if true=true then A else B:=by
 rw [if_pos rfl]
 exact h
end L2

namespace L2
open PySem PySem.Spec PyProof.Rows

section
variable {κ:Type} [DecidableEq κ]
noncomputable def U6 (kvs:List (κ×V)) (k:κ):Option V:=(kvs.find? fun kv=>decide (kv.1=k)).map (·.2)
noncomputable def Qc7 (kvs:List (κ×V)) (k:κ) (v:V):List (κ×V):=
 if (kvs.any fun kv=>decide (kv.1=k))=true then kvs.map (fun kv=>if kv.1=k then (kv.1,v) else kv) else kvs++[(k,v)]
theorem Qcz {p:κ×V} {r:List (κ×V)} {k:κ} (e:p.1=k):U6 (p::r) k=some p.2:=by simp [U6,List.find?_cons,e]
theorem QcU {p:κ×V} {r:List (κ×V)} {k:κ} (e:¬ p.1=k):U6 (p::r) k=U6 r k:=by simp [U6,List.find?_cons,e]
theorem W9 (kvs:List (κ×V)) (k:κ) (v:V):(Qc7 kvs k v).length<=kvs.length+1:=by
 unfold Qc7
 split
 ·rw [List.length_map];omega
 ·rw [List.length_append,List.length_cons,List.length_nil];omega
theorem RelO.isSome_eq {o:Option V} {u:Option Value} (r:RelO o u):o.isSome=u.isSome:=by
 cases o with
 | none=>cases u with
  | none=>rfl
  | some _=>exact (show False from r).elim
 | some _=>cases u with
  | none=>exact (show False from r).elim
  | some _=>rfl
theorem RelO.getD {o:Option V} {u:Option Value} {d:V} {d':Value} (r:RelO o u) (rd:RelV d d'):RelV (o.getD d) (u.getD d'):=by
 cases o with
 | none=>cases u with
  | none=>exact rd
  | some _=>exact (show False from r).elim
 | some _=>cases u with
  | none=>exact (show False from r).elim
  | some _=>exact r

theorem KV.val {kvs:List (κ×V)} {vs:List (κ×Value)} (r:KV kvs vs) (k:κ):RelO (U6 kvs k) (valueAt vs k):=by
 unfold KV at r
 induction r with
 | nil=>exact True.intro
 | @cons p q ps qs h t ih=>
  obtain ⟨h1,h2⟩:=h
  by_cases e:p.1=k
  ·have e':q.1=k:=h1.symm.trans e
   have b:valueAt (q::qs) k=some q.2:=by simp [valueAt,List.find?_cons,e']
   rw [Qcz e,b];exact h2
  ·have e':¬ q.1=k:=fun z=>e (h1.trans z)
   have b:valueAt (q::qs) k=valueAt qs k:=by simp [valueAt,List.find?_cons,e']
   rw [QcU e,b];exact ih
theorem KV.any {kvs:List (κ×V)} {vs:List (κ×Value)} (r:KV kvs vs) (k:κ):(kvs.any fun kv=>decide (kv.1=k))=vs.any fun kv=>decide (kv.1=k):=by
 unfold KV at r
 induction r with
 | nil=>rfl
 | cons h t ih=>rw [List.any_cons,List.any_cons,ih,h.1]
theorem KV.repl {kvs:List (κ×V)} {vs:List (κ×Value)} (r:KV kvs vs) (k:κ) {y:V} {u:Value} (ry:RelV y u) :
  KV (kvs.map fun kv=>if kv.1=k then (kv.1,y) else kv) (vs.map fun kv=>if kv.1=k then (kv.1,u) else kv):=by
 unfold KV at r ⊢
 induction r with
 | nil=>exact .nil
 | @cons p q ps qs h t ih=>
  rw [List.map_cons,List.map_cons]
  refine .cons ?_ ih
  obtain ⟨h1,h2⟩:=h
  by_cases e:p.1=k
  ·rw [if_pos e,if_pos (h1.symm.trans e)];exact ⟨h1,ry⟩
  ·rw [if_neg e,if_neg (fun z=>e (h1.trans z))];exact ⟨h1,h2⟩
theorem KV.put {kvs:List (κ×V)} {vs:List (κ×Value)} (r:KV kvs vs) (k:κ) {y:V} {u:Value} (ry:RelV y u):KV (Qc7 kvs k y) (stored vs k u):=by
 unfold Qc7 stored
 rw [r.any k]
 by_cases e:(vs.any fun kv=>decide (kv.1=k))=true
 ·rw [if_pos e,if_pos e];exact r.repl k ry
 ·rw [if_neg e,if_neg e];exact Paired.snoc r ⟨rfl,ry⟩
theorem KV.keys {kvs:List (κ×V)} {vs:List (κ×Value)} (r:KV kvs vs):kvs.map (·.1)=vs.map (·.1):=by
 unfold KV at r
 induction r with
 | nil=>rfl
 | cons h t ih=>rw [List.map_cons,List.map_cons,ih,h.1]
theorem KV.length {kvs:List (κ×V)} {vs:List (κ×Value)} (r:KV kvs vs):kvs.length=vs.length:=Paired.length r
end


theorem QhW {P:Program} {w:World} {k:Key} {u:Value} (r:RelV (kV k) u):(JW P w).is k u=true:=by
 cases k with
 | inl i=>obtain ⟨t,e⟩:=(show ∃ t,u=Value.int i t from r);subst e;exact Uf P w i t
 | inr x=>obtain ⟨t,e⟩:=(show ∃ t,u=Value.str x t from r);subst e;exact WN P w x t
section
variable {P:Program} {w:World} {H:Hp} {h:Heap} {a:Addr}
theorem Qi2 {u:HO} (ok:HOk P w H h) (e:Rd H a u):ObjOk P w H h a u:=e.ok ok
theorem Qgp {kvs:List (Key×V)} (ok:HOk P w H h) (e:Rd H a (.dK kvs)):kvs.length<=sizeLine/\(a == sysModules)=false/\∃ vs,KV kvs vs/\h.DictOf (JW P w) a vs:=
 show ObjOk P w H h a (.dK kvs) from Qi2 ok e
theorem Qhu {kvs:List (Key×V)} (ok:HOk P w H h) (e:H a=some (.dK kvs)):kvs.length<=sizeLine/\(a == sysModules)=false/\∃ vs,KV kvs vs/\h.DictOf (JW P w) a vs:=Qgp ok (.inl e)
end

noncomputable def DGet (H:Hp) (a:Addr) (y:V) (r:Option V):Prop:=∃ kvs k,Rd H a (.dK kvs)/\y=kV k/\r=U6 kvs k
noncomputable def DPut (H:Hp) (a:Addr) (y v:V) (H':Hp):Prop:=∃ kvs k,H a=some (.dK kvs)/\y=kV k/\kvs.length < sizeLine/\H'=upd H a (.dK (Qc7 kvs k v))
theorem DGet.k {H:Hp} {a:Addr} {kvs:List (Key×V)} {k:Key} (e:H a=some (.dK kvs)):DGet H a (kV k) (U6 kvs k):=⟨kvs,k,.inl e,rfl,rfl⟩
theorem DPut.k {H:Hp} {a:Addr} {kvs:List (Key×V)} {k:Key} {v:V} (e:H a=some (.dK kvs)) (hl:kvs.length < sizeLine):DPut H a (kV k) v (upd H a (.dK (Qc7 kvs k v))):=⟨kvs,k,e,rfl,hl,rfl⟩


section
variable {X:Cx} {pins:List (Addr×Obj)} {σ:St} {H:Hp} {s:Shared} {a:Addr} {y v:V} {u r:Value} {o:Option V} {A:Around} {E:Value->Shared->Prop}

theorem Inv.big (I:Inv X pins σ H s):sysModules < s.heap.objs.size:=by
 have h:mainGlobals < s.heap.objs.size:=(I.mod.glob.keeps I.bk).lt
 exact Nat.lt_trans (by decide) h

theorem QbY {h':Heap} {t':Nat} {ob:HO} (I:Inv X pins σ H s) (mu:Mut (H a)) (hs:Heap.SameBut a s.heap h') (he:∃ q,h'.get? a=some q) (new:ObjOk X.prog X.w (upd H a ob) h' a ob) :
  Inv X pins σ (upd H a ob) { s with heap:=h',toks:=t' }:=
 I.write (x:=a) (e:=a) mu (.inl rfl) (fun b q hb z=>(hs.2 b hb).trans z) he new
theorem Qg0 {P:Program} {w:World} {H':Hp} {h':Heap} {kvs:List (Key×V)} {vs:List (Key×Value)} (z:kvs.length<=sizeLine) (hd:(a == sysModules)=false) (rel:KV kvs vs) (dd:h'.DictOf (JW P w) a vs) :
  ObjOk P w H' h' a (.dK kvs):=⟨z,hd,vs,rel,dd⟩
theorem QaA {H':Hp} {Q:Unit->Shared->Prop} (hu:A.units+1 < cLine) (I:Inv X pins σ H s) (g:DPut H a y v H') (ry:RelV y u) (rv:RelV v r) (h:∀ s',Inv X pins σ H' s'->Q () s') :
  wpAny (model X.prog X.w) A (setItem (.ref a) u r) Q E s:=by
 obtain ⟨kvs,k,e,ey,l,eH⟩:=g
 subst ey eH
 obtain ⟨z,hd,vs,rel,dd⟩:=Qhu I.hok e
 have hz:vs.length<=sizeLine:=by rw [<- rel.length];exact z
 have hl:(Qc7 kvs k v).length<=sizeLine:=by have:=W9 kvs k v;omega
 refine wpAny_setItem_pairs (hsz:=hz) (QhW ry) dd fun h' dd' hs=>h _ ?_
 have he:∃ q,h'.get? a=some q:=let ⟨q,_,_,hq,_⟩:=dd';⟨q,hq⟩
 exact QbY I (by rw [e];exact True.intro) hs he (Qg0 hl hd (rel.put k rv) dd')
end

section
variable {X:Cx} {pins:List (Addr×Obj)} {σ:St} {H:Hp} {s:Shared} {a:Addr} {kvs:List (Key×V)} {k:Key} {u:Value} {A:Around} {E:Value->Shared->Prop}
end


noncomputable def QgY (td ty tv:TE):TS:=fun D σ H=>tv σ H fun v H1=>td σ H1 fun x H2=>ty σ H2 fun y H3=>∃ a H4,x=.ref a/\DPut H3 a y v H4/\D.nx σ H4
section
variable {X:Cx} {o i e value:Expr} {pos pos' tpos:Pos} {td ty tv:TE}
theorem QeT (hu:X.A.units+1 < cLine) (ho:PE X o td) (hi:PE X i ty) (hv:PE X value tv) (hs:swapsWith value (some (.Subscript o i pos')) pos.line X.env=pure false) :
  PS X (.Assign [.Subscript o i pos'] value pos) (QgY td ty tv):=by
 intro pins s σ H D I h
 refine wpAny_Assign_Subscript (thn (hv pins s σ H _ I h) fun r s1 ⟨v,H1,I1,rv,q1⟩=>thn (ho pins s1 σ H1 _ I1 q1) fun u s2 ⟨x,H2,I2,rx,q2⟩=>thn (hi pins s2 σ H2 _ I2 q2) fun iv s3 ⟨y,H3,I3,ry,a,H4,ex,g,q3⟩=>?_) hs
 subst ex
 obtain rfl:u=Value.ref a:=rx
 exact QaA hu I3 g ry rv fun s4 I4=>⟨σ,H4,I4,q3⟩
end


theorem Qcq {P:Program} {w:World} {H:Hp} (h:Heap) (hb:sysModules < h.objs.size):ObjOk P w H (h.push { cls:=.type "dict",data:=.dict #[] }) h.objs.size (.dK []):=
 ⟨Nat.zero_le _,beq_eq_false_iff_ne.mpr (Ne.symm (Nat.ne_of_lt hb)),[],.nil,Heap.DictOf.new h⟩
theorem Qc4 {P:Program} {w:World} {H:Hp} (h:Heap) (hb:sysModules < h.objs.size):ObjOk P w H (h.push { cls:=.type "dict",data:=.dict #[] }) h.objs.size (.dT []):=
 ⟨Nat.zero_le _,beq_eq_false_iff_ne.mpr (Ne.symm (Nat.ne_of_lt hb)),[],.nil,_,#[],0,Heap.get?_push_size _ rfl,⟨rfl,rfl,rfl⟩,rfl,rfl,List.nodup_nil⟩
noncomputable def Qgn:TE:=fun _ H Q=>∀ p,H p=none->Q (.ref p) (upd H p (.dK []))
noncomputable def Qhx:TE:=fun _ H Q=>∀ p,H p=none->Q (.ref p) (upd H p (.dT []))
section
variable {X:Cx} {pos:Pos}
theorem Qc1:PE X (.Dict [] [] pos) Qgn:=fun pins s σ H Q I h=>
 wpAny_Dict_empty ⟨.ref s.heap.objs.size,_,I.laid (a:=s.heap.objs.size) (o:=.dK []) (t':=s.toks) (fun _ _ q=>Heap.get?_push_of_some _ q) (Nat.le_refl _) (Qcq s.heap I.big),rfl,h _ (I.hok.fresh (Nat.le_refl _))⟩
theorem Qdq:PE X (.Dict [] [] pos) Qhx:=fun pins s σ H Q I h=>
 wpAny_Dict_empty ⟨.ref s.heap.objs.size,_,I.laid (a:=s.heap.objs.size) (o:=.dT []) (t':=s.toks) (fun _ _ q=>Heap.get?_push_of_some _ q) (Nat.le_refl _) (Qc4 s.heap I.big),rfl,h _ (I.hok.fresh (Nat.le_refl _))⟩
end

structure M2 (X:Cx) (o:Expr) (m:Str) (apos:Pos) (e f:Expr) (cpos:Pos):Prop where
 base:attributeBase o m X.env (eval o X.env)=eval o X.env
 few:((backTo cpos (starEach [e,f] X.env)).all (fun x=>!x.1) && (backToKw cpos (keywordEach [] X.env)).all (fun x=>x.1.isSome)
  && decide (([e,f]:List Expr).length+([]:List Keyword).length+(if ([]:List Keyword).isEmpty then 0 else 1) < 30))=true
 line:(apos.endLine == cpos.line)=true
 trees:backTo cpos (starEach [e,f] X.env)=[(false,eval e X.env),(false,eval f X.env)]

section
variable {X:Cx} {pins:List (Addr×Obj)} {σ:St} {H:Hp} {s:Shared} {a:Addr} {y d:V} {u r:Value} {o:Option V} {A:Around} {E:Value->Shared->Prop}
theorem Qhn {Q:Value->Shared->Prop} (hu:A.units+1 < cLine) (I:Inv X pins σ H s) (g:DGet H a y o) (ry:RelV y u) (rd:RelV d r) (h:∀ w' s',Inv X pins σ H s'->RelV (o.getD d) w'->Q w' s') :
  wpAny (model X.prog X.w) A (call (.builtin "dict.get") [.ref a,u,r]) Q E s:=by
 obtain ⟨kvs,k,e,ey,l⟩:=g
 subst ey
 obtain ⟨z,hd,vs,rel,dd⟩:=Qgp I.hok e
 refine call_meetsIn PySem.F.slot_dict_get dd.typeIs PySem.F.entry_dict_get (PySem.F.args_dict_get_3 _ _ _) (meets_dict_get_default (JW X.prog X.w) a (QhW ry) hd r) ⟨_,dd.mapOf,h _ _ (I.tok _) ?_⟩
 rw [l]
 exact (rel.val k).getD rd
end

section
variable {X:Cx} {o e f:Expr} {apos cpos:Pos} {td ty tx:TE}
end

section
variable {X:Cx} {pins:List (Addr×Obj)} {σ:St} {H:Hp} {s:Shared} {a:Addr} {kvs:List (Key×V)} {A:Around} {E:Value->Shared->Prop}
end


section
variable {X:Cx} {pins:List (Addr×Obj)} {σ:St} {H:Hp} {s:Shared} {a:Addr} {y:V} {u:Value} {A:Around} {E:Value->Shared->Prop}
end
end L2

namespace L2
open PySem PySem.Spec PyProof.Rows
section
variable {X:Cx}
end
section
variable {κ:Type} [DecidableEq κ]
end
end L2

namespace Mi
open PySem PySem.Spec PyProof.Rows L2

inductive W where
 | non | bl (b:Bool) | int (i:Int) | str (x:Str) | tup (ws:List W) | lst (ws:List W) | frz (ws:List W) | ref (n:Nat) | ty (n:String)
inductive MO where
 | lst (ws:List W)
 | dic (kvs:List (Key×W))
 | dct (kvs:List (W×W))
noncomputable abbrev MH:=List MO
noncomputable abbrev MSt:=List (Option W)

structure Rn where
 ρ:Nat->Addr
 N:Nat
 F:Hp
 G:Hp
structure Ext (R R':Rn):Prop where
 n:R.N<=R'.N
 ρ:∀ n,n < R.N->R'.ρ n=R.ρ n
 f:∀ a o,R.F a=some o->R'.F a=some o
 g:R'.G=R.G
theorem Ext.refl (R:Rn):Ext R R:=⟨Nat.le_refl _,fun _ _=>rfl,fun _ _ h=>h,rfl⟩
theorem Ext.trans {R R1 R2:Rn} (a:Ext R R1) (b:Ext R1 R2):Ext R R2:=
 ⟨Nat.le_trans a.n b.n,fun n h=>(b.ρ n (Nat.lt_of_lt_of_le h a.n)).trans (a.ρ n h),fun x o h=>b.f x o (a.f x o h),b.g.trans a.g⟩

theorem Z5 {K:PySem.W.Frag} {F F':Hp} (e:∀ a o,F a=some o->F' a=some o) {a:Addr} {xs:List V} (h:SqT K F a xs):SqT K F' a xs:=by
 rcases h with (h | ⟨o,h⟩) | h
 ·exact .inl (.inl (e _ _ h))
 ·exact .inl (.inr ⟨o,e _ _ h⟩)
 ·exact .inr h
theorem ZP {K:PySem.W.Frag} {F F':Hp} (e:∀ a o,F a=some o->F' a=some o) {a:Addr} {xs:List V} (h:SqL K F a xs):SqL K F' a xs:=by
 rcases h with (h | ⟨o,h⟩) | h
 ·exact .inl (.inl (e _ _ h))
 ·exact .inl (.inr ⟨o,e _ _ h⟩)
 ·exact .inr h

section
variable (K:PySem.W.Frag)
mutual
noncomputable def Rw (R:Rn):W->V->Prop
 | .non,v=>v=.non
 | .bl b,v=>v=.bl b
 | .int i,v=>v=.int i
 | .str x,v=>v=.str x
 | .tup ws,v=>∃ a xs,v=.ref a/\SqT K R.F a xs/\Rws R ws xs
 | .lst ws,v=>∃ a xs,v=.ref a/\R.F a=some (.lst xs)/\Rws R ws xs
 | .frz ws,v=>∃ a xs,v=.ref a/\SqL K R.F a xs/\Rws R ws xs
 | .ref n,v=>n < R.N/\v=.ref (R.ρ n)
 | .ty n,v=>v=.ty n
noncomputable def Rws (R:Rn):List W->List V->Prop
 | [],vs=>vs=[]
 | w::ws,vs=>∃ v vs',vs=v::vs'/\Rw R w v/\Rws R ws vs'
end
end
section
variable {K:PySem.W.Frag} {R R':Rn}
mutual
theorem Rw.mono (e:Ext R R'):∀ (w:W) (v:V),Rw K R w v->Rw K R' w v
 | .non,_,h=>by unfold Rw at h ⊢;exact h
 | .bl _,_,h=>by unfold Rw at h ⊢;exact h
 | .int _,_,h=>by unfold Rw at h ⊢;exact h
 | .str _,_,h=>by unfold Rw at h ⊢;exact h
 | .ty _,_,h=>by unfold Rw at h ⊢;exact h
 | .tup ws,_,h=>by
  unfold Rw at h ⊢
  obtain ⟨a,xs,e1,e2,e3⟩:=h
  exact ⟨a,xs,e1,Z5 e.f e2,Rws.mono e ws xs e3⟩
 | .lst ws,_,h=>by
  unfold Rw at h ⊢
  obtain ⟨a,xs,e1,e2,e3⟩:=h
  exact ⟨a,xs,e1,e.f a _ e2,Rws.mono e ws xs e3⟩
 | .frz ws,_,h=>by
  unfold Rw at h ⊢
  obtain ⟨a,xs,e1,e2,e3⟩:=h
  exact ⟨a,xs,e1,ZP e.f e2,Rws.mono e ws xs e3⟩
 | .ref n,_,h=>by
  unfold Rw at h ⊢
  obtain ⟨e1,e2⟩:=h
  exact ⟨Nat.lt_of_lt_of_le e1 e.n,by rw [e.ρ n e1];exact e2⟩
theorem Rws.mono (e:Ext R R'):∀ (ws:List W) (vs:List V),Rws K R ws vs->Rws K R' ws vs
 | [],_,h=>by unfold Rws at h ⊢;exact h
 | w::ws,_,h=>by
  unfold Rws at h ⊢
  obtain ⟨v,vs',e1,e2,e3⟩:=h
  exact ⟨v,vs',e1,Rw.mono e w v e2,Rws.mono e ws vs' e3⟩
end
theorem Rws.nil_iff {vs:List V}:Rws K R [] vs ↔ vs=[]:=by unfold Rws;exact Iff.rfl
theorem Rws.cons_iff {w:W} {ws:List W} {vs:List V}:Rws K R (w::ws) vs ↔ ∃ v vs',vs=v::vs'/\Rw K R w v/\Rws K R ws vs':=by
 constructor
 ·intro h;unfold Rws at h;exact h
 ·intro h;unfold Rws;exact h
theorem Rws.nil:Rws K R [] []:=Rws.nil_iff.mpr rfl
theorem Rws.cons {w:W} {ws:List W} {v:V} {vs:List V} (a:Rw K R w v) (b:Rws K R ws vs):Rws K R (w::ws) (v::vs):=Rws.cons_iff.mpr ⟨v,vs,rfl,a,b⟩
theorem Rws.paired:∀ {ws:List W} {vs:List V},Rws K R ws vs->Paired (Rw K R) ws vs
 | [],vs,h=>by rw [Rws.nil_iff] at h;subst h;exact .nil
 | w::ws,vs,h=>by
  rw [Rws.cons_iff] at h
  obtain ⟨v,vs',rfl,a,b⟩:=h
  exact .cons a (Rws.paired b)
theorem Rws.of:∀ {ws:List W} {vs:List V},Paired (Rw K R) ws vs->Rws K R ws vs
 | _,_,.nil=>Rws.nil
 | _,_,.cons a b=>Rws.cons a (Rws.of b)
theorem Rws.length {ws:List W} {vs:List V} (h:Rws K R ws vs):ws.length=vs.length:=Paired.length h.paired
theorem Rws.get:∀ {ws:List W} {vs:List V} {i:Nat} {w:W},Rws K R ws vs->ws[i]?=some w->∃ v,vs[i]?=some v/\Rw K R w v
 | [],_,_,_,_,e=>by simp at e
 | w::ws,vs,0,x,h,e=>by
  rw [Rws.cons_iff] at h
  obtain ⟨v,vs',rfl,a,b⟩:=h
  simp at e;subst e
  exact ⟨v,by simp,a⟩
 | w::ws,vs,i+1,x,h,e=>by
  rw [Rws.cons_iff] at h
  obtain ⟨v,vs',rfl,a,b⟩:=h
  obtain ⟨y,h1,h2⟩:=Rws.get (i:=i) b (by simpa using e)
  exact ⟨y,by simpa using h1,h2⟩
theorem Rws.append:∀ {ws us:List W} {vs xs:List V},Rws K R ws vs->Rws K R us xs->Rws K R (ws++us) (vs++xs)
 | [],us,vs,xs,h,q=>by rw [Rws.nil_iff] at h;subst h;exact q
 | w::ws,us,vs,xs,h,q=>by
  rw [Rws.cons_iff] at h
  obtain ⟨v,vs',rfl,a,b⟩:=h
  exact Rws.cons a (Rws.append b q)
theorem Rws.take:∀ {ws:List W} {vs:List V} (n:Nat),Rws K R ws vs->Rws K R (ws.take n) (vs.take n)
 | _,_,0,_=>by simp;exact Rws.nil
 | [],vs,n+1,h=>by rw [Rws.nil_iff] at h;subst h;simp;exact Rws.nil
 | w::ws,vs,n+1,h=>by
  rw [Rws.cons_iff] at h
  obtain ⟨v,vs',rfl,a,b⟩:=h
  exact Rws.cons a (Rws.take n b)
theorem Rws.drop:∀ {ws:List W} {vs:List V} (n:Nat),Rws K R ws vs->Rws K R (ws.drop n) (vs.drop n)
 | _,_,0,h=>by simpa using h
 | [],vs,n+1,h=>by rw [Rws.nil_iff] at h;subst h;simp;exact Rws.nil
 | w::ws,vs,n+1,h=>by
  rw [Rws.cons_iff] at h
  obtain ⟨v,vs',rfl,a,b⟩:=h
  exact Rws.drop n b
theorem Rws.set:∀ {ws:List W} {vs:List V} {w:W} {v:V} (n:Nat),Rws K R ws vs->Rw K R w v->Rws K R (ws.set n w) (vs.set n v)
 | [],vs,_,_,n,h,_=>by rw [Rws.nil_iff] at h;subst h;simp;exact Rws.nil
 | x::ws,vs,w,v,0,h,q=>by
  rw [Rws.cons_iff] at h
  obtain ⟨y,vs',rfl,a,b⟩:=h
  exact Rws.cons q b
 | x::ws,vs,w,v,n+1,h,q=>by
  rw [Rws.cons_iff] at h
  obtain ⟨y,vs',rfl,a,b⟩:=h
  exact Rws.cons a (Rws.set n b q)
end

noncomputable def Ww:Nat->W->Option Tr
 | 0,_=>none
 | _+1,.int i=>some (.i i)
 | _+1,.bl b=>some (.i (if b then 1 else 0))
 | _+1,.str x=>some (.s x)
 | n+1,.tup ws=>(ws.mapM (Ww n)).map .t
 | _+1,_=>none
noncomputable def nrm:W->Option Tr
 | .tup ws=>Ww 8 (.tup ws)
 | _=>none
section
variable (K:PySem.W.Frag)
noncomputable def Ro (R:Rn):MO->Option HO->Prop
 | .lst ws,o=>∃ xs,o=some (.lst xs)/\Rws K R ws xs
 | .dic kvs,o=>∃ kx:List (Key×V),o=some (.dK kx)/\Paired (fun p q=>p.1=q.1/\Rw K R p.2 q.2) kvs kx
 | .dct kvs,o=>∃ kx:List (Tr×Addr×V),o=some (.dT kx)/\Paired (fun p q=>Rw K R p.1 (.ref q.2.1)/\nrm p.1=some q.1/\Rw K R p.2 q.2.2) kvs kx
structure Rh (R:Rn) (h:MH) (H:Hp):Prop where
 len:R.N=h.length
 sub:∀ a o,R.F a=some o->H a=some o
 sep:∀ n,n < R.N->R.F (R.ρ n)=none
 inj:∀ m n,m < R.N->n < R.N->R.ρ m=R.ρ n->m=n
 obj:∀ n o,h[n]?=some o->Ro K R o (H (R.ρ n))
 gsub:∀ a o,R.G a=some o->H a=some o
 gsep:∀ n,n < R.N->R.G (R.ρ n)=none
 gf:∀ a o,R.G a=some o->R.F a=none
noncomputable def Rst (R:Rn) (σi:MSt) (σ:L2.St):Prop:=σi.length=σ.length/\∀ (i:Nat) (w:W),σi[i]?=some (some w)->∃ v,σ[i]?=some (some v)/\Rw K R w v
end
section
variable {K:PySem.W.Frag} {R R':Rn} {h:MH} {H:Hp} {σi:MSt} {σ:L2.St}
theorem Ro.mono (e:Ext R R') {o:MO} {u:Option HO} (q:Ro K R o u):Ro K R' o u:=by
 cases o with
 | lst ws=>obtain ⟨xs,e1,e2⟩:=q;exact ⟨xs,e1,Rws.mono e ws xs e2⟩
 | dic kvs=>obtain ⟨kx,e1,e2⟩:=q;exact ⟨kx,e1,Paired.mapP e2 fun a b z=>⟨z.1,Rw.mono e _ _ z.2⟩⟩
 | dct kvs=>obtain ⟨kx,e1,e2⟩:=q;exact ⟨kx,e1,Paired.mapP e2 fun a b z=>⟨Rw.mono e _ _ z.1,z.2.1,Rw.mono e _ _ z.2.2⟩⟩
theorem Ro.some {o:MO} {u:Option HO} (q:Ro K R o u):∃ x,u=some x:=by
 cases o with
 | lst ws=>obtain ⟨xs,e1,e2⟩:=q;exact ⟨_,e1⟩
 | dic kvs=>obtain ⟨kx,e1,e2⟩:=q;exact ⟨_,e1⟩
 | dct kvs=>obtain ⟨kx,e1,e2⟩:=q;exact ⟨_,e1⟩
theorem Rst.mono (e:Ext R R') (q:Rst K R σi σ):Rst K R' σi σ:=⟨q.1,fun i w h=>by
 obtain ⟨v,h1,h2⟩:=q.2 i w h
 exact ⟨v,h1,Rw.mono e _ _ h2⟩⟩
theorem Rst.set {i:Nat} {w:W} {v:V} (q:Rst K R σi σ) (r:Rw K R w v):Rst K R (σi.set i (some w)) (σ.set i (some v)):=by
 refine ⟨by rw [List.length_set,List.length_set];exact q.1,fun j u e=>?_⟩
 rw [List.getElem?_set] at e ⊢
 by_cases hij:i=j
 ·subst hij
  rw [if_pos rfl] at e ⊢
  by_cases hl:i < σi.length
  ·rw [if_pos hl] at e
   rw [if_pos (q.1 ▸ hl)]
   cases e
   exact ⟨v,rfl,r⟩
  ·rw [if_neg hl] at e;cases e
 ·rw [if_neg hij] at e ⊢
  exact q.2 j u e
theorem Rh.there (q:Rh K R h H) {n:Nat} (hn:n < R.N):∃ o u,h[n]?=some o/\H (R.ρ n)=some u:=by
 have hl:n < h.length:=q.len ▸ hn
 obtain ⟨u,hu⟩:=(q.obj n h[n] (List.getElem?_eq_getElem hl)).some
 exact ⟨h[n],u,List.getElem?_eq_getElem hl,hu⟩
theorem Rh.ne (q:Rh K R h H) {p:Addr} (hp:H p=none) {n:Nat} (hn:n < R.N):R.ρ n≠p:=fun e=>by
 obtain ⟨o,u,_,hu⟩:=q.there hn
 rw [e,hp] at hu;cases hu
theorem Rh.fix (q:Rh K R h H) {p:Addr} {o:HO} (hp:H p=none) :
  Ext R { R with F:=upd R.F p o }/\Rh K { R with F:=upd R.F p o } h (upd H p o):=by
 have hF:R.F p=none:=by
  cases e:R.F p with
  | none=>rfl
  | some u=>have:=q.sub p u e;rw [hp] at this;cases this
 have x:Ext R { R with F:=upd R.F p o }:=⟨Nat.le_refl _,fun _ _=>rfl,fun a u e=>by
  show upd R.F p o a=some u
  rw [QI (fun z=>by rw [z,hF] at e;cases e)];exact e,rfl⟩
 have hG:∀ a u,R.G a=some u->a≠p:=fun a u e z=>by have:=q.gsub a u e;rw [z,hp] at this;cases this
 refine ⟨x,q.len,fun a u e=>?_,fun n hn=>?_,q.inj,fun n u e=>?_,fun a u e=>?_,q.gsep,fun a u e=>?_⟩
 rotate_right 2
 ·rw [QI (hG a u e)];exact q.gsub a u e
 ·show upd R.F p o a=none
  rw [QI (hG a u e)];exact q.gf a u e
 ·by_cases z:a=p
  ·subst z
   have e':upd R.F a o a=some u:=e
   rw [JI] at e' ⊢;exact e'
  ·have e':upd R.F p o a=some u:=e
   rw [QI z] at e' ⊢;exact q.sub a u e'
 ·show upd R.F p o (R.ρ n)=none
  rw [QI (q.ne hp hn)];exact q.sep n hn
 ·have hn:n < R.N:=by rw [q.len];exact (List.getElem?_eq_some_iff.mp e).1
  show Ro K _ u (upd H p o (R.ρ n))
  rw [QI (q.ne hp hn)]
  exact (q.obj n u e).mono x
theorem Rh.tup (q:Rh K R h H) {p:Addr} {ws:List W} {xs:List V} (hp:H p=none) (r:Rws K R ws xs) :
  ∃ R',Ext R R'/\Rh K R' h (upd H p (.tup xs))/\Rw K R' (.tup ws) (.ref p):=by
 obtain ⟨x,y⟩:=q.fix (o:=.tup xs) hp
 refine ⟨_,x,y,?_⟩
 unfold Rw
 exact ⟨p,xs,rfl,SqT.of JI,Rws.mono x _ _ r⟩
theorem Rh.lstI (q:Rh K R h H) {p:Addr} {ws:List W} {xs:List V} (hp:H p=none) (r:Rws K R ws xs) :
  ∃ R',Ext R R'/\Rh K R' h (upd H p (.lst xs))/\Rw K R' (.lst ws) (.ref p):=by
 obtain ⟨x,y⟩:=q.fix (o:=.lst xs) hp
 refine ⟨_,x,y,?_⟩
 unfold Rw
 exact ⟨p,xs,rfl,JI,Rws.mono x _ _ r⟩
theorem Rh.new (q:Rh K R h H) {p:Addr} {o:HO} {mo:MO} (hp:H p=none) (r:∀ R',Ext R R'->Ro K R' mo (some o)) :
  ∃ R',Ext R R'/\Rh K R' (h++[mo]) (upd H p o)/\Rw K R' (.ref h.length) (.ref p):=by
 let R':Rn:={ ρ:=fun n=>if n=R.N then p else R.ρ n,N:=R.N+1,F:=R.F,G:=R.G }
 have hr:∀ n,n < R.N->R'.ρ n=R.ρ n:=fun n hn=>if_neg (Nat.ne_of_lt hn)
 have hq:R'.ρ R.N=p:=if_pos rfl
 have x:Ext R R':=⟨Nat.le_succ _,hr,fun _ _ e=>e,rfl⟩
 have hG:∀ a u,R.G a=some u->a≠p:=fun a u e z=>by have:=q.gsub a u e;rw [z,hp] at this;cases this
 have hF:R.F p=none:=by
  cases e:R.F p with
  | none=>rfl
  | some u=>have:=q.sub p u e;rw [hp] at this;cases this
 have below:∀ n,n < R.N+1->n < R.N\/n=R.N:=fun n hn=>Nat.lt_or_eq_of_le (Nat.le_of_lt_succ hn)
 have hgs:∀ n,n < R.N+1->R.G (R'.ρ n)=none:=fun n hn=>by
  rcases below n hn with hn | hn
  ·rw [hr n hn];exact q.gsep n hn
  ·subst hn
   rw [hq]
   cases e:R.G p with
   | none=>rfl
   | some u=>exact absurd rfl (hG p u e)
 refine ⟨R',x,⟨?_,fun a u e=>?_,fun n hn=>?_,fun m n hm hn e=>?_,fun n u e=>?_,fun a u e=>by rw [QI (hG a u e)];exact q.gsub a u e,hgs,q.gf⟩,?_⟩
 ·show R.N+1=_
  rw [List.length_append,q.len];rfl
 ·have z:a≠p:=fun z=>by have e':R.F a=some u:=e;rw [z,hF] at e';cases e'
  rw [QI z];exact q.sub a u e
 ·rcases below n hn with hn | hn
  ·rw [hr n hn];exact q.sep n hn
  ·subst hn;rw [hq];exact hF
 ·rcases below m hm with hm | hm<;>rcases below n hn with hn | hn
  ·rw [hr m hm,hr n hn] at e;exact q.inj m n hm hn e
  ·subst hn;rw [hr m hm,hq] at e;exact absurd e (q.ne hp hm)
  ·subst hm;rw [hr n hn,hq] at e;exact absurd e.symm (q.ne hp hn)
  ·rw [hm,hn]
 ·have hn:n < R.N+1:=by
   have:=(List.getElem?_eq_some_iff.mp e).1
   rw [List.length_append,<- q.len] at this;exact this
  rcases below n hn with hn | hn
  ·rw [hr n hn,QI (q.ne hp hn)]
   rw [List.getElem?_append_left (by rw [<- q.len];exact hn)] at e
   exact (q.obj n u e).mono x
  ·subst hn
   rw [hq,JI]
   rw [List.getElem?_append_right (by rw [q.len];exact Nat.le_refl _),q.len,Nat.sub_self] at e
   cases e
   exact r R' x
 ·unfold Rw
  refine ⟨by rw [<- q.len];exact Nat.lt_succ_self _,?_⟩
  rw [<- q.len,hq]
theorem Rh.put (q:Rh K R h H) {n:Nat} {o:HO} {mo:MO} (hn:n < R.N) (r:Ro K R mo (some o)):Rh K R (h.set n mo) (upd H (R.ρ n) o):=by
 refine ⟨by rw [List.length_set];exact q.len,fun a u e=>?_,q.sep,q.inj,fun m u e=>?_,fun a u e=>?_,q.gsep,q.gf⟩
 rotate_right
 ·have z:a≠R.ρ n:=fun z=>by rw [z,q.gsep n hn] at e;cases e
  rw [QI z];exact q.gsub a u e
 ·have z:a≠R.ρ n:=fun z=>by rw [z,q.sep n hn] at e;cases e
  rw [QI z];exact q.sub a u e
 ·by_cases z:n=m
  ·subst z
   rw [JI]
   rw [List.getElem?_set_self (by rw [<- q.len];exact hn)] at e
   cases e
   exact r
  ·have hm:m < R.N:=by
    have:=(List.getElem?_eq_some_iff.mp e).1
    rw [List.length_set,<- q.len] at this;exact this
   rw [List.getElem?_set_ne z] at e
   rw [QI (fun w=>z (q.inj m n hm hn w).symm)]
   exact q.obj m u e
theorem Rh.tupAt (q:Rh K R h H) {ws:List W} {v:V} (r:Rw K R (.tup ws) v):∃ a xs,v=.ref a/\SqT K H a xs/\Rws K R ws xs:=by
 unfold Rw at r
 obtain ⟨a,xs,e1,e2,e3⟩:=r
 exact ⟨a,xs,e1,Z5 q.sub e2,e3⟩
theorem Rh.lstAt (q:Rh K R h H) {ws:List W} {v:V} (r:Rw K R (.lst ws) v):∃ a xs,v=.ref a/\H a=some (.lst xs)/\Rws K R ws xs:=by
 unfold Rw at r
 obtain ⟨a,xs,e1,e2,e3⟩:=r
 exact ⟨a,xs,e1,q.sub a _ e2,e3⟩
theorem Rh.frzAt (q:Rh K R h H) {ws:List W} {v:V} (r:Rw K R (.frz ws) v):∃ a xs,v=.ref a/\SqL K H a xs/\Rws K R ws xs:=by
 unfold Rw at r
 obtain ⟨a,xs,e1,e2,e3⟩:=r
 exact ⟨a,xs,e1,ZP q.sub e2,e3⟩
noncomputable def lsW (h:MH):W->Option (List W)
 | .lst ws=>some ws
 | .frz ws=>some ws
 | .ref n=>match h[n]? with | some (.lst ws)=>some ws | _=>none
 | _=>none
noncomputable def loW (h:MH):W->Option (List W)
 | .lst ws=>some ws
 | .ref n=>match h[n]? with | some (.lst ws)=>some ws | _=>none
 | _=>none
theorem Rh.loAt (q:Rh K R h H) {w:W} {v:V} {ws:List W} (r:Rw K R w v) (e:loW h w=some ws):∃ a xs,v=.ref a/\H a=some (.lst xs)/\Rws K R ws xs:=by
 cases w with
 | lst us=>cases e;exact q.lstAt r
 | ref n=>
  simp only [loW] at e
  split at e
  ·rename_i us hn
   cases e
   unfold Rw at r
   obtain ⟨xs,h1,h2⟩:=q.obj n _ hn
   exact ⟨_,xs,r.2,h1,h2⟩
  ·cases e
 | _=>cases e
theorem Rh.lsAt (q:Rh K R h H) {w:W} {v:V} {ws:List W} (r:Rw K R w v) (e:lsW h w=some ws):∃ a xs,v=.ref a/\SqL K H a xs/\Rws K R ws xs:=by
 cases w with
 | lst us=>cases e;obtain ⟨a,xs,e1,e2,e3⟩:=q.lstAt r;exact ⟨a,xs,e1,SqL.of e2,e3⟩
 | frz us=>cases e;exact q.frzAt r
 | ref n=>
  simp only [lsW] at e
  split at e
  ·rename_i us hn
   cases e
   unfold Rw at r
   obtain ⟨xs,h1,h2⟩:=q.obj n _ hn
   exact ⟨_,xs,r.2,SqL.of h1,h2⟩
  ·cases e
 | _=>cases e
theorem Rh.refAt (q:Rh K R h H) {n:Nat} {v:V} {ws:List W} (r:Rw K R (.ref n) v) (e:h[n]?=some (.lst ws)) :
  n < R.N/\v=.ref (R.ρ n)/\∃ xs,H (R.ρ n)=some (.lst xs)/\Rws K R ws xs:=by
 unfold Rw at r
 exact ⟨r.1,r.2,q.obj n _ e⟩
end
theorem Rw.non_eq {K:PySem.W.Frag} {R:Rn} {v:V} (r:Rw K R .non v):v=.non:=by unfold Rw at r;exact r
theorem Rw.bl_eq {K:PySem.W.Frag} {R:Rn} {v:V} {b:Bool} (r:Rw K R (.bl b) v):v=.bl b:=by unfold Rw at r;exact r
theorem Rw.int_eq {K:PySem.W.Frag} {R:Rn} {v:V} {i:Int} (r:Rw K R (.int i) v):v=.int i:=by unfold Rw at r;exact r
theorem Rw.str_eq {K:PySem.W.Frag} {R:Rn} {v:V} {x:Str} (r:Rw K R (.str x) v):v=.str x:=by unfold Rw at r;exact r
theorem Rw.ty_eq {K:PySem.W.Frag} {R:Rn} {v:V} {n:String} (r:Rw K R (.ty n) v):v=.ty n:=by unfold Rw at r;exact r
theorem Rw.ty {K:PySem.W.Frag} {R:Rn} (n:String):Rw K R (.ty n) (.ty n):=by unfold Rw;rfl
theorem Rw.non {K:PySem.W.Frag} {R:Rn}:Rw K R .non .non:=by unfold Rw;rfl
theorem Rw.bl {K:PySem.W.Frag} {R:Rn} (b:Bool):Rw K R (.bl b) (.bl b):=by unfold Rw;rfl
theorem Rw.int {K:PySem.W.Frag} {R:Rn} (i:Int):Rw K R (.int i) (.int i):=by unfold Rw;rfl
theorem Rw.str {K:PySem.W.Frag} {R:Rn} (x:Str):Rw K R (.str x) (.str x):=by unfold Rw;rfl
end Mi

namespace Mi
open PySem PySem.Spec PyProof.Rows L2

noncomputable abbrev ME:=MSt->MH->Option (W×MH)
noncomputable abbrev MT:=MSt->MH->Option (Bool×MH)
noncomputable abbrev MA:=MSt->MH->Option (List W×MH)
inductive MF where
 | nx (σ:MSt) (h:MH) | rt (w:W) (h:MH) | bk (σ:MSt) (h:MH) | ct (σ:MSt) (h:MH)
noncomputable abbrev SM:=MSt->MH->Option MF
noncomputable abbrev FM:=List W->MH->Option (W×MH)

section
variable (K:PySem.W.Frag)
noncomputable def After (R:Rn) (w:W) (h':MH) (Q:VK):Prop:=∀ R' H' v,Ext R R'->Rh K R' h' H'->Rw K R' w v->Q v H'
noncomputable def tI (m:ME):TE:=fun σ H Q=>∃ R σi h w h',Rh K R h H/\Rst K R σi σ/\m σi h=some (w,h')/\After K R w h' Q
noncomputable def tIT (m:MT):TT:=fun σ H Q=>∃ R σi h b h',Rh K R h H/\Rst K R σi σ/\m σi h=some (b,h')/\∀ R' H',Ext R R'->Rh K R' h' H'->Q b H'
noncomputable def tIA (m:MA):TA:=fun σ H Q=>∃ R σi h ws h',Rh K R h H/\Rst K R σi σ/\m σi h=some (ws,h')/\∀ R' H' vs,Ext R R'->Rh K R' h' H'->Rws K R' ws vs->Q vs H'
noncomputable def Ends (R:Rn) (D:L2.Ends):MF->Prop
 | .nx σi h=>∀ R' H' σ,Ext R R'->Rh K R' h H'->Rst K R' σi σ->D.nx σ H'
 | .bk σi h=>∀ R' H' σ,Ext R R'->Rh K R' h H'->Rst K R' σi σ->D.bk σ H'
 | .ct σi h=>∀ R' H' σ,Ext R R'->Rh K R' h H'->Rst K R' σi σ->D.ct σ H'
 | .rt w h=>After K R w h D.rt
noncomputable def tS (m:SM):TS:=fun D σ H=>∃ R σi h r,Rh K R h H/\Rst K R σi σ/\m σi h=some r/\Ends K R D r
noncomputable def spM (n:Nat) (m:FM):Sp:=fun vs H Q _=>∃ R ws h w h',ws.length=n/\Rh K R h H/\Rws K R ws vs/\m ws h=some (w,h')/\After K R w h' Q
end
noncomputable def PM (X:Cx) (e:Expr) (m:ME):Prop:=PE X e (tI X.K m)
noncomputable def PMT (X:Cx) (e:Expr) (m:MT):Prop:=PT X e (tIT X.K m)
noncomputable def PMA (X:Cx) (es:List Expr) (m:MA):Prop:=PA X es (tIA X.K m)
noncomputable def PMS (X:Cx) (st:Stmt) (m:SM):Prop:=PS X st (tS X.K m)
noncomputable def Qb1 (X:Cx) (st:List Stmt) (m:SM):Prop:=PSs X st (tS X.K m)

section
variable {K:PySem.W.Frag} {R R1 R2:Rn}
theorem After.ext {w:W} {h':MH} {Q:VK} (a:After K R w h' Q) (x:Ext R R1):After K R1 w h' Q:=fun R' H' v e=>a R' H' v (x.trans e)
theorem Ends.ext {D:L2.Ends} {r:MF} (a:Ends K R D r) (x:Ext R R1):Ends K R1 D r:=by
 cases r with
 | nx σ h=>exact fun R' H' v e=>a R' H' v (x.trans e)
 | bk σ h=>exact fun R' H' v e=>a R' H' v (x.trans e)
 | ct σ h=>exact fun R' H' v e=>a R' H' v (x.trans e)
 | rt w h=>exact After.ext a x
end
theorem Q7 {X:Cx} {e:Expr} {t t':TE} (h:PE X e t) (i:∀ σ H Q,t' σ H Q->t σ H Q):PE X e t':=fun pins s σ H Q I q=>h pins s σ H Q I (i _ _ _ q)
theorem QbD {X:Cx} {e:Expr} {t t':TT} (h:PT X e t) (i:∀ σ H Q,t' σ H Q->t σ H Q):PT X e t':=fun pins s σ H Q I q=>h pins s σ H Q I (i _ _ _ q)
theorem Qd1 {X:Cx} {e:Expr} {t t':TT} (h:PW X e t) (i:∀ σ H Q,t' σ H Q->t σ H Q):PW X e t':=fun wh pins s σ H Q I q=>h wh pins s σ H Q I (i _ _ _ q)
theorem QdR {X:Cx} {es:List Expr} {t t':TA} (h:PA X es t) (i:∀ σ H Q,t' σ H Q->t σ H Q):PA X es t':=fun pos pins s σ H Q I q=>h pos pins s σ H Q I (i _ _ _ q)
theorem VG {X:Cx} {st:Stmt} {t t':TS} (h:PS X st t) (i:∀ D σ H,t' D σ H->t D σ H):PS X st t':=fun pins s σ H D I q=>h pins s σ H D I (i _ _ _ q)
theorem QaL {X:Cx} {st:List Stmt} {t t':TS} (h:PSs X st t) (i:∀ D σ H,t' D σ H->t D σ H):PSs X st t':=fun pins s σ H D I q=>h pins s σ H D I (i _ _ _ q)

noncomputable def Qg (i:Nat):ME:=fun σ h=>match σ[i]? with | some (some w)=>some (w,h) | _=>none
noncomputable def mC (w:W):ME:=fun _ h=>some (w,h)
section
variable {X:Cx}
theorem Qb (i:Nat) {x:Str} {pos:Pos} (hN:X.N[i]?=some x:=by rfl) (hv:Vis X.env.scope x:=by first | exact Or.inl rfl | exact Or.inr (Or.inl rfl) | exact Or.inr (Or.inr rfl)) (hd:(x == ("__debug__":Str))=false:=by decide)
  (hcd:(x == ("__classdict__":Str))=false:=by decide):PM X (.Name x pos) (Qg i):=Q7 (QhR hN hv hd hcd) <| by
 rintro σ H Q ⟨R,σi,h,w,h',rh,st,e,k⟩
 unfold Qg at e
 split at e
 ·rename_i w' e'
  cases e
  obtain ⟨v,h1,h2⟩:=st.2 i _ e'
  exact ⟨v,h1,k R H v (Ext.refl _) rh h2⟩
 ·cases e
theorem QbG {w:W} {v:V} (r:∀ R,Rw X.K R w v) {σ:L2.St} {H:Hp} {Q:VK} (q:tI X.K (mC w) σ H Q):tC v σ H Q:=by
 obtain ⟨R,σi,h,w',h',rh,st,e,k⟩:=q
 cases e
 exact k R H v (Ext.refl _) rh (r R)
theorem Qe {i j pos}:PM X (.Constant (.int i) j pos) (mC (.int i)):=Q7 QgG fun _ _ _=>QbG fun _=>Rw.int _
theorem V2 {b j pos}:PM X (.Constant (.bool b) j pos) (mC (.bl b)):=Q7 Qip fun _ _ _=>QbG fun _=>Rw.bl _
theorem XA {j pos}:PM X (.Constant .none j pos) (mC .non):=Q7 QhC fun _ _ _=>QbG fun _=>Rw.non
theorem QfS {x:Str} {w:W} {v:V} {u:Value} {pos:Pos} (hg:Gl X x) (hm:X.mg x=none) (hv:bootBuiltins x=some u) (r:RelV v u) (rw:∀ R,Rw X.K R w v) (hn:x≠"__name__":=by decide) (hd:(x == ("__debug__":Str))=false:=by decide):PM X (.Name x pos) (mC w):=
 Q7 (Qd6 hg hm hv r hn hd) fun _ _ _=>QbG rw
theorem QW {x j pos}:PM X (.Constant (.str x) j pos) (mC (.str x)):=Q7 Qg1 fun _ _ _=>QbG fun _=>Rw.str _
end

noncomputable def Qm (f:W->W->MH->Option (W×MH)) (ma mb:ME):ME:=fun σ h=>(ma σ h).bind fun p=>(mb σ p.2).bind fun q=>f p.1 q.1 q.2
noncomputable def F1 (K:PySem.W.Frag) (f:W->MH->Option (W×MH)) (x:V) (H:Hp) (Q:VK):Prop:=∃ R h a w h',Rh K R h H/\Rw K R a x/\f a h=some (w,h')/\After K R w h' Q
noncomputable def F2 (K:PySem.W.Frag) (f:W->W->MH->Option (W×MH)) (x y:V) (H:Hp) (Q:VK):Prop:=∃ R h a b w h',Rh K R h H/\Rw K R a x/\Rw K R b y/\f a b h=some (w,h')/\After K R w h' Q
noncomputable def Fs (K:PySem.W.Frag) (f:List W->MH->Option (W×MH)) (xs:List V) (H:Hp) (Q:VK):Prop:=∃ R h ws w h',Rh K R h H/\Rws K R ws xs/\f ws h=some (w,h')/\After K R w h' Q
noncomputable def mUn (f:W->MH->Option (W×MH)) (ma:ME):ME:=fun σ h=>(ma σ h).bind fun p=>f p.1 p.2
noncomputable def mFn (f:List W->MH->Option (W×MH)) (ma:MA):ME:=fun σ h=>(ma σ h).bind fun p=>f p.1 p.2
section
variable {K:PySem.W.Frag} {σ:L2.St} {H:Hp} {Q:VK}
theorem un1 {f:W->MH->Option (W×MH)} {ma:ME} (q:tI K (mUn f ma) σ H Q):tI K ma σ H fun x H1=>F1 K f x H1 Q:=by
 obtain ⟨R,σi,h,w,h',rh,st,e,k⟩:=q
 obtain ⟨⟨a,h1⟩,ea,e2⟩:=Option.bind_eq_some_iff.mp e
 exact ⟨R,σi,h,a,h1,rh,st,ea,fun R1 H1 x x1 rh1 rx=>⟨R1,h1,a,w,h',rh1,rx,e2,k.ext x1⟩⟩
theorem QgQ {f:W->W->MH->Option (W×MH)} {ma mb:ME} (q:tI K (Qm f ma mb) σ H Q):tI K ma σ H fun x H1=>tI K mb σ H1 fun y H2=>F2 K f x y H2 Q:=by
 obtain ⟨R,σi,h,w,h',rh,st,e,k⟩:=q
 obtain ⟨⟨a,h1⟩,ea,e2⟩:=Option.bind_eq_some_iff.mp e
 obtain ⟨⟨b,h2⟩,eb,e3⟩:=Option.bind_eq_some_iff.mp e2
 exact ⟨R,σi,h,a,h1,rh,st,ea,fun R1 H1 x x1 rh1 rx=>⟨R1,σi,h1,b,h2,rh1,st.mono x1,eb,fun R2 H2 y x2 rh2 ry=>
  ⟨R2,h2,a,b,w,h',rh2,Rw.mono x2 _ _ rx,ry,e3,k.ext (x1.trans x2)⟩⟩⟩
theorem Gy {f:List W->MH->Option (W×MH)} {ma:MA} (q:tI K (mFn f ma) σ H Q):tIA K ma σ H fun xs H1=>Fs K f xs H1 Q:=by
 obtain ⟨R,σi,h,w,h',rh,st,e,k⟩:=q
 obtain ⟨⟨a,h1⟩,ea,e2⟩:=Option.bind_eq_some_iff.mp e
 exact ⟨R,σi,h,a,h1,rh,st,ea,fun R1 H1 x x1 rh1 rx=>⟨R1,h1,a,w,h',rh1,rx,e2,k.ext x1⟩⟩
end
noncomputable def VC:Expr->Bool
 | .Starred ..=>true
 | _=>false
noncomputable def VV (es:List Expr):Bool:=es.all fun e=>!VC e
theorem Zh {e:Expr} {es:List Expr} {env:Env} (h:VC e=false):starEach (e::es) env=(false,eval e env)::starEach es env:=by
 cases e<;>first | rfl | cases h
theorem J4 {es:List Expr} {env:Env} {pos:Pos} (h:VV es=true):(backTo pos (starEach es env)).any (·.1)=false:=by
 induction es with
 | nil=>rfl
 | cons e es ih=>
  unfold VV at h ih
  rw [List.all_cons,Bool.and_eq_true] at h
  have he:VC e=false:=by simpa using h.1
  rw [Zh he]
  have:=ih h.2
  unfold backTo at this ⊢
  rw [List.map_cons,List.any_cons,this];rfl
theorem Qc2 {es:List Expr} {env:Env} {pos:Pos} (h:VV es=true):(backTo pos (starEach es env)).all (fun x=>!x.1)=true:=by
 have:=J4 (env:=env) (pos:=pos) h
 rw [List.all_eq_not_any_not]
 simp only [Bool.not_not]
 rw [this];rfl
noncomputable def Ql:MA:=fun _ h=>some ([],h)
noncomputable def Qc (ma:ME) (mr:MA):MA:=fun σ h=>(ma σ h).bind fun p=>(mr σ p.2).bind fun q=>some (p.1::q.1,q.2)
section
variable {X:Cx} {e:Expr} {es:List Expr} {m:ME} {ms:MA} {pos:Pos}
theorem Qd:PMA X [] Ql:=QdR QgF <| by
 rintro σ H Q ⟨R,σi,h,ws,h',rh,st,e,k⟩
 cases e
 exact k R H [] (Ext.refl _) rh Rws.nil
theorem Qa (ha:PM X e m) (hr:PMA X es ms) (hs:VC e=false:=by rfl):PMA X (e::es) (Qc m ms):=
 QdR (Qfc ha hr (Zh hs)) fun σ H Q ⟨R,σi,h,ws,h',rh,st,e,k⟩=>by
  obtain ⟨⟨a,h1⟩,ea,e2⟩:=Option.bind_eq_some_iff.mp e
  obtain ⟨⟨b,h2⟩,eb,e3⟩:=Option.bind_eq_some_iff.mp e2
  cases e3
  exact ⟨R,σi,h,a,h1,rh,st,ea,fun R1 H1 x x1 rh1 rx=>⟨R1,σi,h1,b,h2,rh1,st.mono x1,eb,fun R2 H2 ys x2 rh2 ry=>
   k R2 H2 (x::ys) (x1.trans x2) rh2 (Rws.cons (Rw.mono x2 _ _ rx) ry)⟩⟩
noncomputable def Jj (ws:List W) (h:MH):Option (W×MH):=if ws.length<=sizeLine then some (.tup ws,h) else none
noncomputable def Xs (ws:List W) (h:MH):Option (W×MH):=if ws.length<=sizeLine then some (.lst ws,h) else none
noncomputable def Ky (ws:List W) (h:MH):Option (W×MH):=if ws.length<=sizeLine then some (.ref h.length,h++[.lst ws]) else none
theorem QF {x1} (h:PMA X es ms):PM X (.Tuple es x1 pos) (mFn Jj ms):=Q7 (Qhj h) fun σ H Q q=>by
 obtain ⟨R,σi,h0,ws,h1,rh,st,e,k⟩:=Gy q
 refine ⟨R,σi,h0,ws,h1,rh,st,e,fun R1 H1 vs x1 rh1 rx=>?_⟩
 obtain ⟨R2,h2,ws2,w,h3,rh2,rx2,e2,k2⟩:=k R1 H1 vs x1 rh1 rx
 unfold Jj at e2
 split at e2
 ·rename_i hl
  cases e2
  refine ⟨by rw [<- rx2.length];exact hl,fun p hp=>?_⟩
  obtain ⟨R3,x3,rh3,rw3⟩:=rh2.tup hp rx2
  exact k2 R3 _ _ x3 rh3 rw3
 ·cases e2
theorem ZG (h:PMA X es ms):PM X (.List es pos) (mFn Xs ms):=Q7 (QdZ h) fun σ H Q q=>by
 obtain ⟨R,σi,h0,ws,h1,rh,st,e,k⟩:=Gy q
 refine ⟨R,σi,h0,ws,h1,rh,st,e,fun R1 H1 vs x1 rh1 rx=>?_⟩
 obtain ⟨R2,h2,ws2,w,h3,rh2,rx2,e2,k2⟩:=k R1 H1 vs x1 rh1 rx
 unfold Xs at e2
 split at e2
 ·rename_i hl
  cases e2
  refine ⟨by rw [<- rx2.length];exact hl,fun p hp=>?_⟩
  obtain ⟨R3,x3,rh3,rw3⟩:=rh2.lstI hp rx2
  exact k2 R3 _ _ x3 rh3 rw3
 ·cases e2
theorem Jo (h:PMA X es ms):PM X (.List es pos) (mFn Ky ms):=Q7 (QdZ h) fun σ H Q q=>by
 obtain ⟨R,σi,h0,ws,h1,rh,st,e,k⟩:=Gy q
 refine ⟨R,σi,h0,ws,h1,rh,st,e,fun R1 H1 vs x1 rh1 rx=>?_⟩
 obtain ⟨R2,h2,ws2,w,h3,rh2,rx2,e2,k2⟩:=k R1 H1 vs x1 rh1 rx
 unfold Ky at e2
 split at e2
 ·rename_i hl
  cases e2
  refine ⟨by rw [<- rx2.length];exact hl,fun p hp=>?_⟩
  obtain ⟨R3,x3,rh3,rw3⟩:=rh2.new (mo:=.lst ws2) (o:=.lst vs) hp fun R' x'=>⟨vs,rfl,Rws.mono x' _ _ rx2⟩
  exact k2 R3 _ _ x3 rh3 rw3
 ·cases e2
end
noncomputable def OpM (K:PySem.W.Frag) (r:R2) (f:W->W->MH->Option (W×MH)):Prop:=∀ x y H Q,F2 K f x y H Q->r x y H Q
noncomputable def Qfi (K:PySem.W.Frag) (r:List V->Hp->VK->Prop) (f:List W->MH->Option (W×MH)):Prop:=∀ xs H Q,Fs K f xs H Q->r xs H Q
section
variable {X:Cx} {a b c:Expr} {ma mb mc:ME} {pos:Pos}
theorem JQ {K:PySem.W.Frag} {m:ME} {σ:L2.St} {H:Hp} {Q Q':VK} (h:tI K m σ H Q) (i:∀ v H,Q v H->Q' v H):tI K m σ H Q':=by
 obtain ⟨R,σi,h,w,h',rh,st,e,k⟩:=h
 exact ⟨R,σi,h,w,h',rh,st,e,fun R' H' v a b c=>i _ _ (k R' H' v a b c)⟩
theorem Yy {K:PySem.W.Frag} {m:MA} {σ:L2.St} {H:Hp} {Q Q':List V->Hp->Prop} (h:tIA K m σ H Q) (i:∀ v H,Q v H->Q' v H):tIA K m σ H Q':=by
 obtain ⟨R,σi,h,w,h',rh,st,e,k⟩:=h
 exact ⟨R,σi,h,w,h',rh,st,e,fun R' H' v a b c=>i _ _ (k R' H' v a b c)⟩
theorem QU {op:Operator} {r:R2} {f:W->W->MH->Option (W×MH)} (ho:OpR X (binaryOp op) r) (hf:OpM X.K r f) (ha:PM X a ma) (hb:PM X b mb):PM X (.BinOp a op b pos) (Qm f ma mb):=
 Q7 (QiT ho ha hb) fun _ _ _ q=>JQ (QgQ q) fun _ _ q1=>JQ q1 fun _ _ q2=>hf _ _ _ _ q2
theorem QgO {op:CmpOp} {r:R2} {f:W->W->MH->Option (W×MH)} (ho:OpR X (compareOp op) r) (hf:OpM X.K r f) (ha:PM X a ma) (hb:PM X b mb) (hm:behindInMarks op b=false:=by rfl):PM X (.Compare a [op] [b] pos) (Qm f ma mb):=
 Q7 (QfK ho ha hb hm) fun _ _ _ q=>JQ (QgQ q) fun _ _ q1=>JQ q1 fun _ _ q2=>hf _ _ _ _ q2
noncomputable def QA (m:ME):MT:=fun σ h=>(m σ h).bind fun p=>match p.1 with | .bl b=>some (b,p.2) | _=>none
theorem Qcw {K:PySem.W.Frag} {m:ME} {σ:L2.St} {H:Hp} {Q:Bool->Hp->Prop} (q:tIT K (QA m) σ H Q):tI K m σ H fun x H'=>∃ k,x=.bl k/\Q k H':=by
 obtain ⟨R,σi,h,b,h',rh,st,e,k⟩:=q
 obtain ⟨⟨w,h1⟩,ew,e2⟩:=Option.bind_eq_some_iff.mp e
 cases w<;>simp only at e2<;>first | (cases e2;exact ⟨R,σi,h,_,_,rh,st,ew,fun R' H' v x rh' rv=>⟨_,rv.bl_eq,k R' H' x rh'⟩⟩) | (cases e2)
theorem Qr {op:CmpOp} {r:R2} {f:W->W->MH->Option (W×MH)} (ho:OpR X (compareOp op) r) (hf:OpM X.K r f) (ha:PM X a ma) (hb:PM X b mb) (hm:behindInMarks op b=false:=by rfl):PMT X (.Compare a [op] [b] pos) (QA (Qm f ma mb)):=
 QbD (QeP ho ha hb hm) fun _ _ _ q=>JQ (QgQ (Qcw q)) fun _ _ q1=>JQ q1 fun _ _ q2=>hf _ _ _ _ q2
noncomputable def Qkp (f f':W->W->MH->Option (W×MH)) (ma mb mc:ME):ME:=fun σ h=>(ma σ h).bind fun p=>(mb σ p.2).bind fun q=>(f p.1 q.1 q.2).bind fun z=>match z.1 with
 | .bl true=>(mc σ z.2).bind fun y=>f' q.1 y.1 y.2
 | .bl false=>some (.bl false,z.2)
 | _=>none
noncomputable def Qix (ma mb:ME):ME:=fun σ h=>(ma σ h).bind fun p=>match p.1 with | .bl true=>mb σ p.2 | .bl false=>some (.bl false,p.2) | _=>none
noncomputable def QiI (ma:ME):ME:=fun σ h=>(ma σ h).bind fun p=>match p.1 with | .bl b=>some (.bl (!b),p.2) | _=>none
noncomputable def Vc (ma mb:MT):MT:=fun σ h=>(ma σ h).bind fun p=>match p.1 with | true=>mb σ p.2 | false=>some (false,p.2)
noncomputable def GB (ma mb:MT):MT:=fun σ h=>(ma σ h).bind fun p=>match p.1 with | true=>some (true,p.2) | false=>mb σ p.2
noncomputable def Wa (ma:MT):MT:=fun σ h=>(ma σ h).bind fun p=>some (!p.1,p.2)
noncomputable def mIf (t:MT) (ma mb:ME):ME:=fun σ h=>(t σ h).bind fun p=>match p.1 with | true=>ma σ p.2 | false=>mb σ p.2
variable {rest:List Expr} {ta tb:MT}
theorem Qgo {op} (h:PM X a ma):PM X (.BoolOp op [a] pos) ma:=Qg2 h
theorem Qhr (ha:PM X a ma) (hb:PM X (.BoolOp .And (b::rest) pos) mb):PM X (.BoolOp .And (a::b::rest) pos) (Qix ma mb):=Q7 (Qgm ha hb) <| by
 rintro σ H Q ⟨R,σi,h,w,h',rh,st,e,k⟩
 obtain ⟨⟨a,h1⟩,ea,e2⟩:=Option.bind_eq_some_iff.mp e
 refine ⟨R,σi,h,a,h1,rh,st,ea,fun R1 H1 x x1 rh1 rx=>?_⟩
 cases a with
 | bl t=>
  refine ⟨t,rx.bl_eq,?_⟩
  cases t with
  | true=>exact Qd5 ⟨R1,σi,h1,w,h',rh1,st.mono x1,e2,k.ext x1⟩
  | false=>cases e2;exact Qfr (k R1 H1 _ x1 rh1 (Rw.bl _))
 | non=>cases e2
 | int _=>cases e2
 | str _=>cases e2
 | tup _=>cases e2
 | lst _=>cases e2
 | frz _=>cases e2
 | ref _=>cases e2
 | ty _=>cases e2
theorem QhK (ha:PM X a ma):PM X (.UnaryOp .Not a pos) (QiI ma):=Q7 (Qga ha) <| by
 rintro σ H Q ⟨R,σi,h,w,h',rh,st,e,k⟩
 obtain ⟨⟨a,h1⟩,ea,e2⟩:=Option.bind_eq_some_iff.mp e
 refine ⟨R,σi,h,a,h1,rh,st,ea,fun R1 H1 x x1 rh1 rx=>?_⟩
 cases a with
 | bl t=>cases e2;exact ⟨t,rx.bl_eq,k R1 H1 _ x1 rh1 (Rw.bl _)⟩
 | non=>cases e2
 | int _=>cases e2
 | str _=>cases e2
 | tup _=>cases e2
 | lst _=>cases e2
 | frz _=>cases e2
 | ref _=>cases e2
 | ty _=>cases e2
noncomputable def PMW (X:Cx) (e:Expr) (m:MT):Prop:=PW X e (tIT X.K m)
theorem PMW.pt {e:Expr} {m:MT} (h:PMW X e m):PMT X e m:=PW.pt h
theorem Qe6 {K:PySem.W.Frag} {σ:L2.St} {H:Hp} {Q:Bool->Hp->Prop} (q:tIT K (Vc ta tb) σ H Q):QkH (tIT K ta) (tIT K tb) σ H Q:=by
 obtain ⟨R,σi,h,w,h',rh,st,e,k⟩:=q
 obtain ⟨⟨a,h1⟩,ea,e2⟩:=Option.bind_eq_some_iff.mp e
 refine ⟨R,σi,h,a,h1,rh,st,ea,fun R1 H1 x1 rh1=>?_⟩
 cases a with
 | true=>exact Qd5 ⟨R1,σi,h1,w,h',rh1,st.mono x1,e2,fun R2 H2 x2=>k R2 H2 (x1.trans x2)⟩
 | false=>cases e2;exact Qfr (k R1 H1 x1 rh1)
theorem QgT {K:PySem.W.Frag} {σ:L2.St} {H:Hp} {Q:Bool->Hp->Prop} (q:tIT K (GB ta tb) σ H Q):tOr (tIT K ta) (tIT K tb) σ H Q:=by
 obtain ⟨R,σi,h,w,h',rh,st,e,k⟩:=q
 obtain ⟨⟨a,h1⟩,ea,e2⟩:=Option.bind_eq_some_iff.mp e
 refine ⟨R,σi,h,a,h1,rh,st,ea,fun R1 H1 x1 rh1=>?_⟩
 cases a with
 | true=>cases e2;exact Qd5 (k R1 H1 x1 rh1)
 | false=>exact Qfr ⟨R1,σi,h1,w,h',rh1,st.mono x1,e2,fun R2 H2 x2=>k R2 H2 (x1.trans x2)⟩
theorem Jh (ha:PMT X a ta):PMW X (.BoolOp .And [a] pos) ta:=Qex ha
theorem Xq (ha:PMT X a ta):PMW X (.BoolOp .Or [a] pos) ta:=QhP ha
theorem JB (ha:PMT X a ta) (hb:PMW X (.BoolOp .And (b::rest) pos) tb):PMW X (.BoolOp .And (a::b::rest) pos) (Vc ta tb):=Qd1 (Qgb ha hb) fun _ _ _=>Qe6
theorem XB (ha:PMT X a ta) (hb:PMW X (.BoolOp .Or (b::rest) pos) tb):PMW X (.BoolOp .Or (a::b::rest) pos) (GB ta tb):=Qd1 (QjM ha hb) fun _ _ _=>QgT
theorem Kc (ha:PMT X a ta):PMT X (.UnaryOp .Not a pos) (Wa ta):=QbD (Qgg ha) <| by
 rintro σ H Q ⟨R,σi,h,w,h',rh,st,e,k⟩
 obtain ⟨⟨a,h1⟩,ea,e2⟩:=Option.bind_eq_some_iff.mp e
 cases e2
 exact ⟨R,σi,h,a,h1,rh,st,ea,fun R1 H1 x1 rh1=>k R1 H1 x1 rh1⟩
theorem Qhe (ht:PMT X c ta) (ha:PM X a ma) (hb:PM X b mb):PM X (.IfExp c a b pos) (mIf ta ma mb):=Q7 (Qc5 ht ha hb) <| by
 rintro σ H Q ⟨R,σi,h,w,h',rh,st,e,k⟩
 obtain ⟨⟨t,h1⟩,ea,e2⟩:=Option.bind_eq_some_iff.mp e
 refine ⟨R,σi,h,t,h1,rh,st,ea,fun R1 H1 x1 rh1=>?_⟩
 cases t with
 | true=>exact Qd5 ⟨R1,σi,h1,w,h',rh1,st.mono x1,e2,k.ext x1⟩
 | false=>exact Qfr ⟨R1,σi,h1,w,h',rh1,st.mono x1,e2,k.ext x1⟩
noncomputable def Qf3 (h:MH):W->Option Bool
 | .non=>some false
 | .bl b=>some b
 | .int i=>some (i != 0)
 | .str x=>if x.length<=sizeLine then some ((x.length:Int) != 0) else none
 | .tup ws=>some (!ws.isEmpty)
 | .lst ws=>some (!ws.isEmpty)
 | .frz ws=>some (!ws.isEmpty)
 | .ref n=>match h[n]? with | some (.lst ws)=>some (!ws.isEmpty) | some (.dic kvs)=>some (!kvs.isEmpty) | _=>none
 | .ty _=>none
noncomputable def WJ (m:ME):MT:=fun σ h=>(m σ h).bind fun p=>(Qf3 p.2 p.1).map fun b=>(b,p.2)
theorem Rws.isEmpty {K:PySem.W.Frag} {R:Rn} {ws:List W} {vs:List V} (r:Rws K R ws vs):ws.isEmpty=vs.isEmpty:=by
 have:=r.length
 cases ws<;>cases vs<;>simp at this ⊢
theorem Qg4 {K:PySem.W.Frag} {R:Rn} {h:MH} {H:Hp} {w:W} {v:V} {b:Bool} (rh:Rh K R h H) (r:Rw K R w v) (e:Qf3 h w=some b):QjL K v H b:=by
 cases w with
 | non=>rw [r.non_eq];cases e;rfl
 | bl b=>rw [r.bl_eq];cases e;rfl
 | int i=>rw [r.int_eq];cases e;rfl
 | str x=>
  rw [r.str_eq]
  simp only [Qf3] at e
  split at e
  ·rename_i hl;cases e;exact ⟨hl,rfl⟩
  ·cases e
 | tup ws=>
  obtain ⟨a,xs,rfl,h1,h2⟩:=rh.tupAt r
  cases e
  exact .inr (.inl ⟨xs,h1,by rw [h2.isEmpty]⟩)
 | lst ws=>
  obtain ⟨a,xs,rfl,h1,h2⟩:=rh.lstAt r
  cases e
  exact .inl ⟨xs,SqL.of h1,by rw [h2.isEmpty]⟩
 | frz ws=>
  obtain ⟨a,xs,rfl,h1,h2⟩:=rh.frzAt r
  cases e
  exact .inl ⟨xs,h1,by rw [h2.isEmpty]⟩
 | ref n=>
  simp only [Qf3] at e
  split at e
  ·rename_i ws hn
   cases e
   obtain ⟨_,rfl,xs,h1,h2⟩:=rh.refAt r hn
   exact .inl ⟨xs,SqL.of h1,by rw [h2.isEmpty]⟩
  ·rename_i kvs hn
   cases e
   unfold Rw at r
   obtain ⟨kx,h1,h2⟩:=rh.obj n _ hn
   rw [r.2]
   refine .inr (.inr ⟨kx,h1,?_⟩)
   have:=Paired.length h2
   cases kvs<;>cases kx<;>simp at this ⊢
  ·cases e
 | ty _=>cases e
theorem JP (ha:PM X a ma) (he:∀ whole,isTrue a X.env whole=(do let v <- whole;standAt a.pos;holding [v] (truthy v)):=by intro _;rfl):PMT X a (WJ ma):=
 QbD (Qc0 ha he) fun σ H Q ⟨R,σi,h,w,h',rh,st,e,k⟩=>by
  obtain ⟨⟨a,h1⟩,ea,e2⟩:=Option.bind_eq_some_iff.mp e
  obtain ⟨b,eb,e3⟩:=Option.map_eq_some_iff.mp e2
  cases e3
  exact ⟨R,σi,h,a,_,rh,st,ea,fun R1 H1 x x1 rh1 rx=>⟨_,Qg4 rh1 rx eb,k R1 H1 x1 rh1⟩⟩
end
end Mi

namespace Mi
open PySem PySem.Spec PyProof.Rows L2

noncomputable def Wk:Expr->Bool
 | .ListComp ..=>true
 | .SetComp ..=>true
 | .DictComp ..=>true
 | _=>false
theorem XO {e:Expr} {t:Option Expr} {l:Nat} {env:Env} (h:Wk e=false):swapsWith e t l env=pure false:=by
 cases e<;>first | rfl | cases h
noncomputable def ZH:SM:=fun σ h=>some (.nx σ h)
noncomputable def QJ (a b:SM):SM:=fun σ h=>(a σ h).bind fun r=>match r with | .nx σ' h'=>b σ' h' | r=>some r
noncomputable def J2 (m:ME):SM:=fun σ h=>(m σ h).map fun p=>.rt p.1 p.2
noncomputable def Vo (t:MT) (a b:SM):SM:=fun σ h=>(t σ h).bind fun p=>match p.1 with | true=>a σ p.2 | false=>b σ p.2
noncomputable def ZU (m:ME):SM:=fun σ h=>(m σ h).map fun p=>.nx σ p.2
noncomputable def Zi (i:Nat) (m:ME):SM:=fun σ h=>(m σ h).map fun p=>.nx (σ.set i (some p.1)) p.2
noncomputable def QmE (i:Nat) (f:W->W->MH->Option (W×MH)) (m:ME):SM:=fun σ h=>match σ[i]? with
 | some (some x)=>(m σ h).bind fun p=>(f x p.1 p.2).map fun q=>.nx (σ.set i (some q.1)) q.2
 | _=>none
section
variable {X:Cx} {st:Stmt} {rest:List Stmt} {a b:SM} {e:Expr} {m:ME} {pos:Pos}
theorem QK:Qb1 X [] ZH:=QaL Qd8 <| by
 rintro D σ H ⟨R,σi,h,r,rh,s,e,k⟩
 cases e
 exact k R H σ (Ext.refl _) rh s
theorem QhM {K:PySem.W.Frag} {D:L2.Ends} {σ:L2.St} {H:Hp} (q:tS K (QJ a b) D σ H):Qk2 (tS K a) (tS K b) D σ H:=by
 obtain ⟨R,σi,h,r,rh,s,e,k⟩:=q
 obtain ⟨r1,e1,e2⟩:=Option.bind_eq_some_iff.mp e
 refine ⟨R,σi,h,r1,rh,s,e1,?_⟩
 cases r1 with
 | nx σ1 h1=>exact fun R1 H1 σ' x1 rh1 s1=>⟨R1,σ1,h1,r,rh1,s1,e2,Ends.ext k x1⟩
 | rt w h1=>cases e2;exact k
 | bk σ1 h1=>cases e2;exact k
 | ct σ1 h1=>cases e2;exact k
theorem Qf (h1:PMS X st a) (h2:Qb1 X rest b):Qb1 X (st::rest) (QJ a b):=QaL (Qcn h1 h2) fun _ _ _=>QhM
theorem Qj (h1:PMS X st a):Qb1 X [st] a:=QeI h1
theorem QE (he:PM X e m) (hs:Wk e=false:=by rfl):PMS X (.Expr e pos) (ZU m):=VG (Qfq he (XO hs)) <| by
 rintro D σ H ⟨R,σi,h,r,rh,s,e,k⟩
 obtain ⟨⟨w,h1⟩,e1,e2⟩:=Option.map_eq_some_iff.mp e
 cases e2
 exact ⟨R,σi,h,w,h1,rh,s,e1,fun R1 H1 v x1 rh1 _=>k R1 H1 σ x1 rh1 (s.mono x1)⟩
theorem Qu (he:PM X e m):PMS X (.Return (some e) pos) (J2 m):=VG (Qgy he) <| by
 rintro D σ H ⟨R,σi,h,r,rh,s,e,k⟩
 obtain ⟨⟨w,h1⟩,e1,e2⟩:=Option.map_eq_some_iff.mp e
 cases e2
 exact ⟨R,σi,h,w,h1,rh,s,e1,k⟩
theorem QT {c:Expr} {sa sb:List Stmt} {t:MT} (hc:PMT X c t) (ha:Qb1 X sa a) (hb:Qb1 X sb b):PMS X (.If c sa sb pos) (Vo t a b):=VG (QiE hc ha hb) <| by
 rintro D σ H ⟨R,σi,h,r,rh,s,e,k⟩
 obtain ⟨⟨z,h1⟩,e1,e2⟩:=Option.bind_eq_some_iff.mp e
 refine ⟨R,σi,h,z,h1,rh,s,e1,fun R1 H1 x1 rh1=>?_⟩
 cases z with
 | true=>exact Qd5 ⟨R1,σi,h1,r,rh1,s.mono x1,e2,Ends.ext k x1⟩
 | false=>exact Qfr ⟨R1,σi,h1,r,rh1,s.mono x1,e2,Ends.ext k x1⟩
theorem Qn {i:Nat} {x:Str} {pos':Pos} (hN:X.N.Nodup) (hi:X.N[i]?=some x) (hx:Loc X.env.scope x) (he:PM X e m) (hs:Wk e=false:=by rfl) (hf:X.fn x=true\/X.env.scope.names.lookup x=some .local:=by first | exact .inl rfl | exact .inr rfl | assumption) :
  PMS X (.Assign [.Name x pos'] e pos) (Zi i m):=VG (Qgi hN hi hx he (XO hs) hf) <| by
 rintro D σ H ⟨R,σi,h,r,rh,s,e,k⟩
 obtain ⟨⟨w,h1⟩,e1,e2⟩:=Option.map_eq_some_iff.mp e
 cases e2
 exact ⟨R,σi,h,w,h1,rh,s,e1,fun R1 H1 v x1 rh1 rv=>k R1 H1 _ x1 rh1 ((s.mono x1).set rv)⟩
end

noncomputable def QfZ (r:Option MF):Option (W×MH):=match r with | some (.rt w h)=>some (w,h) | some (.nx _ h)=>some (.non,h) | _=>none
noncomputable def Zo (more:Nat) (m:SM):FM:=fun ws h=>QfZ (m (ws.map some++List.replicate more none) h)
theorem Rst.start {K:PySem.W.Frag} {R:Rn} {ws:List W} {vs:List V} {N:List Str} (r:Rws K R ws vs) (k:Nat) (hk:N.length=ws.length+k):Rst K R (ws.map some++List.replicate k none) (start N vs):=by
 have hl:=r.length
 unfold L2.start
 refine ⟨by simp [hk,hl],fun i w e=>?_⟩
 by_cases hi:i < ws.length
 ·rw [List.getElem?_append_left (by simpa using hi)] at e
  rw [List.getElem?_append_left (by simpa [<- hl] using hi)]
  rw [List.getElem?_map] at e ⊢
  obtain ⟨w',hw',e'⟩:=Option.map_eq_some_iff.mp e
  cases e'
  obtain ⟨v,h1,h2⟩:=r.get hw'
  exact ⟨v,by rw [h1];rfl,h2⟩
 ·rw [List.getElem?_append_right (by simpa using hi)] at e
  rw [List.getElem?_replicate] at e
  split at e<;>cases e
section
variable {P:Program} {w:World} {K:PySem.W.Frag} {mg:Str->Option Value} {base:Heap}
theorem QiL {x qual:Str} {st:Stmt} {f:Addr} {fd:FuncData} {N ps:List Str} {k more:Nat} {m:SM} (F:Fun K x qual st f fd) (S:FnScope N ps (Qp st)) (hN:N.length=ps.length+more)
  (hbody:∀ (cdv:Value) (A:Around) (outer:List Env) (s:Shared) (H:Hp) (E:XK),Room k (A.deeper (envOfC qual (Qp st) s.heap.objs.size f cdv))->Qb1 (QdK CX0 P w K mg base N qual (Qp st) f cdv A outer s H E).nox (J9 st) m) :
  FnOk P w K mg base CX0 (k+1) f fd ps (spM K ps.length (Zo more m)):=by
 refine F.ok S (fun vs H Q E q=>?_) (fun cdv A outer s H vs Q E hr q=>?_)
 ·obtain ⟨R,ws,h,w,h',hl,rh,rws,_⟩:=q
  rw [<- rws.length];exact hl
 ·refine ⟨_,hbody cdv A outer s H E hr,?_⟩
  obtain ⟨R,ws,h,w,h',hl,rh,rws,e,kk⟩:=q
  have st:=Rst.start (N:=N) rws more (by rw [hN,hl])
  unfold Zo QfZ at e
  split at e
  ·rename_i w' h1 e1
   cases e
   exact ⟨R,_,h,_,rh,st,e1,kk⟩
  ·rename_i σ1 h1 e1
   cases e
   exact ⟨R,_,h,_,rh,st,e1,fun R1 H1 σ' x1 rh1 _=>kk R1 H1 .non x1 rh1 Rw.non⟩
  ·cases e
end
section
variable {X:Cx} {CX:CXT} {k:Nat} {f:Addr} {fd:FuncData} {ps:List Str} {g:FM} {E:XK} {x:Str} {p pos:Pos} {e:Expr} {es:List Expr} {ms:MA}
noncomputable def Qv (n:Nat) (g:FM) (ms:MA):ME:=mFn (fun ws h=>if ws.length=n then g ws h else none) ms
theorem Qea {K:PySem.W.Frag} {n:Nat} {σ:L2.St} {H:Hp} {Q:VK} (q:tI K (Qv n g ms) σ H Q):QhL (spM K n g) [] E (tIA K ms) σ H Q:=by
 refine Yy (Gy q) fun vs H1 ⟨R,h,ws,w,h',rh,rws,e,k⟩=>?_
 dsimp only at e
 split at e
 ·rename_i hl
  exact ⟨R,ws,h,w,h',hl,rh,by rw [List.append_nil];exact rws,e,k⟩
 ·cases e
theorem Qe2 (F:FnOk X.prog X.w X.K X.mg X.base CX k f fd ps (spM X.K ps.length g)) (hr:Room k X.A) (hg:Gl X x) (hm:X.mg x=some (.ref f)) (hk:PySem.W.keepIn X.K (.ref f)=true) (hb:Binds X.K fd ps []) (hx:UM CX X E)
  (ha:PMA X (e::es) ms) (hdb:(x == ("__debug__":Str))=false:=by decide) (he:VC e=false:=by rfl) (hpl:VV es=true:=by rfl) :
  PM X (.Call (.Name x p) (e::es) [] pos) (Qv ps.length g ms):=Q7 (Qfg F hr hg hm hk hb .nil hx ha hdb (Zh he) (J4 hpl)) fun _ _ _=>Qea
end
section
variable {X:Cx} {x:Str} {p pos:Pos} {e:Expr} {es:List Expr} {ms:MA} {id T:String} {r:List V->Hp->VK->Prop} {f:List W->MH->Option (W×MH)}
theorem Qx (hc:CallR X (.builtin id) r) (hf:Qfi X.K r f) (hg:Gl X x) (hm:X.mg x=none) (hv:bootBuiltins x=some (.builtin id)) (ha:PMA X (e::es) ms) (hn:x≠"__name__":=by decide) (hdb:(x == ("__debug__":Str))=false:=by decide)
  (he:VC e=false:=by rfl) (hpl:VV es=true:=by rfl):PM X (.Call (.Name x p) (e::es) [] pos) (mFn f ms):=
 Q7 (QcH hc hg hm hv ha hn hdb (Zh he) (J4 hpl)) fun _ _ _ q=>Yy (Gy q) fun _ _ q1=>hf _ _ _ q1
theorem Jp (hc:CallR X (.type T) r) (hf:Qfi X.K r f) (hg:Gl X x) (hm:X.mg x=none) (hv:bootBuiltins x=some (.type T)) (ha:PMA X (e::es) ms) (hn:x≠"__name__":=by decide) (hdb:(x == ("__debug__":Str))=false:=by decide)
  (he:VC e=false:=by rfl) (hpl:VV es=true:=by rfl):PM X (.Call (.Name x p) (e::es) [] pos) (mFn f ms):=
 Q7 (QbP hc hg hm hv ha hn hdb (Zh he) (J4 hpl)) fun _ _ _ q=>Yy (Gy q) fun _ _ q1=>hf _ _ _ q1
end
noncomputable def live (src:Option Nat) (items:List W) (h:MH):Prop:=∀ n,src=some n->h[n]?=some (.lst items)
noncomputable abbrev MI:=MSt->MH->Option (List W×Option Nat×MH)
structure ItOk (K:PySem.W.Frag) (R:Rn) (J:It) (items:List W) (src:Option Nat):Prop where
 go:∀ i w R' h H,Ext R R'->Rh K R' h H->live src items h->items[i]?=some w->J.go i H
 yld:∀ i w R' h H x H',Ext R R'->Rh K R' h H->live src items h->items[i]?=some w->J.yld i H x H'->∃ R'',Ext R' R''/\Rh K R'' h H'/\Rw K R'' w x
 stop:∀ i R' h H,Ext R R'->Rh K R' h H->live src items h->items.length<=i->J.stop i H
noncomputable def tII (K:PySem.W.Frag) (m:MI):TI:=fun σ H C=>∃ R σi h items src h',Rh K R h H/\Rst K R σi σ/\m σi h=some (items,src,h')/\∀ R' H' J,Ext R R'->Rh K R' h' H'->ItOk K R' J items src->C J H'
noncomputable def PMI (X:Cx) (tg iter:Expr) (m:MI):Prop:=PI X tg iter (tII X.K m)
theorem YT {X:Cx} {tg iter:Expr} {t t':TI} (h:PI X tg iter t) (i:∀ σ H C,t' σ H C->t σ H C):PI X tg iter t':=fun pins s σ H C I q=>h pins s σ H C I (i _ _ _ q)
noncomputable abbrev MG:=W->MSt->MH->Option MSt
noncomputable def tIG (K:PySem.W.Frag) (b:MG):TG:=fun v σ H C=>∃ R σi h w σ1,Rh K R h H/\Rst K R σi σ/\Rw K R w v/\b w σi h=some σ1/\∀ R' H' σ',Ext R R'->Rh K R' h H'->Rst K R' σ1 σ'->C σ' H'
noncomputable def PMG (X:Cx) (tg:Expr) (b:MG):Prop:=PG X tg (tIG X.K b)
theorem QdP {X:Cx} {tg:Expr} {t t':TG} (h:PG X tg t) (i:∀ v σ H C,t' v σ H C->t v σ H C):PG X tg t':=fun pins s σ H v u C I r q=>h pins s σ H v u C I r (i _ _ _ _ q)
noncomputable def Jy (i:Nat):MG:=fun w σ _=>some (σ.set i (some w))
theorem QM {X:Cx} {i:Nat} {x:Str} {pos:Pos} (hN:X.N.Nodup) (hi:X.N[i]?=some x) (hx:Loc X.env.scope x) (hf:X.fn x=true\/X.env.scope.names.lookup x=some .local:=by first | exact .inl rfl | exact .inr rfl | assumption) :
  PMG X (.Name x pos) (Jy i):=QdP (QaX hN hi hx hf) <| by
 rintro v σ H C ⟨R,σi,h,w,σ1,rh,st,rw,e,k⟩
 cases e
 exact k R H _ (Ext.refl _) rh (st.set rw)
open Classical in
noncomputable def VA (items:List W) (src:Option Nat) (b:MG) (body:SM):List W->SM
 | [],σ,h=>if live src items h then some (.nx σ h) else none
 | w::r,σ,h=>if live src items h then (b w σ h).bind fun σ1=>(body σ1 h).bind fun z=>match z with
   | .nx σ2 h2=>VA items src b body r σ2 h2
   | .ct σ2 h2=>VA items src b body r σ2 h2
   | .bk σ2 h2=>some (.nx σ2 h2)
   | .rt v h2=>some (.rt v h2)
  else none
noncomputable def VM (mi:MI) (b:MG) (body:SM):SM:=fun σ h=>(mi σ h).bind fun p=>VA p.1 p.2.1 b body p.1 σ p.2.2
section
variable {X:Cx} {tg iter:Expr} {body:List Stmt} {mi:MI} {b:MG} {m:SM} {pos:Pos}
theorem Qhc {K:PySem.W.Frag} {D:L2.Ends} {σ:L2.St} {H:Hp} (q:tS K (VM mi b m) D σ H):QkX (tII K mi) (tIG K b) (tS K m) D σ H:=by
 obtain ⟨R,σi,h,r,rh,s,e,k⟩:=q
 obtain ⟨⟨items,src,h1⟩,e1,e2⟩:=Option.bind_eq_some_iff.mp e
 refine ⟨R,σi,h,items,src,h1,rh,s,e1,fun R1 H1 J x1 rh1 it=>?_⟩
 refine ⟨fun i n σ H=>i+n=items.length/\∃ R2 σ2 h2,Ext R1 R2/\Rh K R2 h2 H/\Rst K R2 σ2 σ/\∃ r,VA items src b m (items.drop i) σ2 h2=some r/\Ends K R2 D r,⟨items.length,by simp,R1,σi,h1,Ext.refl _,rh1,s.mono x1,r,by simpa using e2,Ends.ext k x1⟩,?_⟩
 rintro i n σ2' H2 ⟨hin,R2,σ2,h2,x2,rh2,s2,r2,e3,k2⟩
 by_cases hi:i < items.length
 ·obtain ⟨w,hw⟩:∃ w,items[i]?=some w:=⟨items[i],List.getElem?_eq_getElem hi⟩
  have hd:items.drop i=w::items.drop (i+1):=by
   rw [List.drop_eq_getElem_cons hi]
   rw [List.getElem?_eq_getElem hi] at hw
   cases hw;rfl
  rw [hd] at e3
  unfold VA at e3
  split at e3
  ·rename_i hl
   obtain ⟨σ3,e4,e5⟩:=Option.bind_eq_some_iff.mp e3
   obtain ⟨z,e6,e7⟩:=Option.bind_eq_some_iff.mp e5
   refine .inr ⟨it.go i w R2 h2 H2 x2 rh2 hl hw,fun σ' H'=>∃ R3 σ4 h4,Ext R1 R3/\Rh K R3 h4 H'/\Rst K R3 σ4 σ'/\∃ r,VA items src b m (items.drop (i+1)) σ4 h4=some r/\Ends K R3 D r,fun σ' H' hn=>⟨n - 1,by omega,by omega,hn⟩,fun x H' hy=>?_⟩
   obtain ⟨R3,x3,rh3,rw3⟩:=it.yld i w R2 h2 H2 x H' x2 rh2 hl hw hy
   refine ⟨R3,σ2,h2,w,σ3,rh3,s2.mono x3,rw3,e4,fun R4 H4 σ4' x4 rh4 s4=>?_⟩
   refine ⟨R4,σ3,h2,z,rh4,s4,e6,?_⟩
   cases z with
   | nx σ5 h5=>exact fun R5 H5 σ5' x5 rh5 s5=>⟨R5,σ5,h5,x2.trans (x3.trans (x4.trans x5)),rh5,s5,r2,e7,Ends.ext k2 (x3.trans (x4.trans x5))⟩
   | ct σ5 h5=>exact fun R5 H5 σ5' x5 rh5 s5=>⟨R5,σ5,h5,x2.trans (x3.trans (x4.trans x5)),rh5,s5,r2,e7,Ends.ext k2 (x3.trans (x4.trans x5))⟩
   | bk σ5 h5=>cases e7;exact fun R5 H5 σ5' x5 rh5 s5=>k2 R5 H5 σ5' (x3.trans (x4.trans x5)) rh5 s5
   | rt v h5=>cases e7;exact After.ext k2 (x3.trans x4)
  ·cases e3
 ·have hd:items.drop i=[]:=List.drop_eq_nil_of_le (by omega)
  rw [hd] at e3
  unfold VA at e3
  split at e3
  ·rename_i hl
   cases e3
   exact .inl ⟨it.stop i R2 h2 H2 x2 rh2 hl (by omega),k2 R2 H2 σ2' (Ext.refl _) rh2 s2⟩
  ·cases e3
theorem ZS (hp:PassesOwn (model X.prog X.w) X.A X.env X.xe) (hc:X.calm=true) (hi:PMI X tg iter mi) (hg:PMG X tg b) (hb:Qb1 X body m)
  (hs:∀ x,foldedSetIterable iter X.env x=pure x:=by intro _;rfl):PMS X (.For tg iter body [] pos) (VM mi b m):=VG (Qhl hp hc hi hg hb hs) fun _ _ _=>Qhc
end
noncomputable def Q0 (t:MT) (body:SM):Nat->SM
 | 0,_,_=>none
 | n+1,σ,h=>(t σ h).bind fun p=>match p.1 with
  | false=>some (.nx σ p.2)
  | true=>(body σ p.2).bind fun z=>match z with
   | .nx σ2 h2=>Q0 t body n σ2 h2
   | .ct σ2 h2=>Q0 t body n σ2 h2
   | .bk σ2 h2=>some (.nx σ2 h2)
   | .rt v h2=>some (.rt v h2)
section
variable {X:Cx} {c:Expr} {body:List Stmt} {t:MT} {m:SM} {pos:Pos}
theorem Qdh {K:PySem.W.Frag} {n:Nat} {D:L2.Ends} {σ:L2.St} {H:Hp} (q:tS K (Q0 t m n) D σ H):QdT (tIT K t) (tS K m) D σ H:=by
 obtain ⟨R,σi,h,r,rh,s,e,k⟩:=q
 refine ⟨fun n σ H=>∃ R2 σ2 h2,Rh K R2 h2 H/\Rst K R2 σ2 σ/\∃ r,Q0 t m n σ2 h2=some r/\Ends K R2 D r,⟨n,R,σi,h,rh,s,r,e,k⟩,?_⟩
 rintro n σ2' H2 ⟨R2,σ2,h2,rh2,s2,r2,e2,k2⟩
 cases n with
 | zero=>cases e2
 | succ n=>
  unfold Q0 at e2
  obtain ⟨⟨z,h3⟩,e3,e4⟩:=Option.bind_eq_some_iff.mp e2
  refine ⟨R2,σ2,h2,z,h3,rh2,s2,e3,fun R3 H3 x3 rh3=>?_⟩
  cases z with
  | false=>
   cases e4
   exact Qfr (k2 R3 H3 σ2' x3 rh3 (s2.mono x3))
  | true=>
   obtain ⟨y,e5,e6⟩:=Option.bind_eq_some_iff.mp e4
   refine Qd5 ⟨fun σ' H'=>∃ R4 σ4 h4,Rh K R4 h4 H'/\Rst K R4 σ4 σ'/\∃ r,Q0 t m n σ4 h4=some r/\Ends K R4 D r,fun σ' H' hn=>⟨n,Nat.lt_succ_self _,hn⟩,?_⟩
   refine ⟨R3,σ2,h3,y,rh3,s2.mono x3,e5,?_⟩
   cases y with
   | nx σ5 h5=>exact fun R5 H5 σ5' x5 rh5 s5=>⟨R5,σ5,h5,rh5,s5,r2,e6,Ends.ext k2 (x3.trans x5)⟩
   | ct σ5 h5=>exact fun R5 H5 σ5' x5 rh5 s5=>⟨R5,σ5,h5,rh5,s5,r2,e6,Ends.ext k2 (x3.trans x5)⟩
   | bk σ5 h5=>cases e6;exact fun R5 H5 σ5' x5 rh5 s5=>k2 R5 H5 σ5' (x3.trans x5) rh5 s5
   | rt v h5=>cases e6;exact After.ext k2 x3
theorem Kp (n:Nat) (hp:PassesOwn (model X.prog X.w) X.A X.env X.xe) (hc:PMT X c t) (hb:Qb1 X body m):PMS X (.While c body [] pos) (Q0 t m n):=VG (Qdm hp hc hb) fun _ _ _=>Qdh
end
end Mi

namespace Mi
open PySem PySem.Spec PyProof.Rows L2

section
variable {prog:Program} {w:World} {A:Around} {E:Value->Shared->Prop} {R:Result->Shared->Prop} {s:Shared}
theorem WV {elt target iter:Expr} {ifs:List Expr} {scope:Scope} {pos:Pos} {it acc:Value} {env:Env} (I:Nat->Shared->Prop)
  (turn:∀ n s,I n s->wpAny (model prog w) A (pyNext it) (fun r s₁=>match r with
   | none=>R (.ok .next) s₁
   | some v=>wpAny (model prog w) A (letOwnedTupleGo target it v) (fun _ s₁'=>wpAny (model prog w) A (assign target env v) (fun _ s₂=>
     wpAny (model prog w) A (forIn ifs true fun c r=>if r=true then do let ok <- isTrue c env (eval c env);pure (ForInStep.yield ok) else pure (ForInStep.yield r)) (fun ok s₃=>
      if ok=true then wpAny (model prog w) A (eval elt env) (fun x s₄=>
       wpAny (model prog w) A (call (.builtin "list.append") [acc,x]) (fun _ s₅=>∃ m,m < n/\I m s₅) (fun _ _=>False) s₄) (fun _ _=>False) s₃
      else ∃ m,m < n/\I m s₃) (fun _ _=>False) s₂) (fun _ _=>False) s₁') (fun _ _=>False) s₁) (fun _ _=>False) s)
  (n:Nat) (h:I n s) :
  codeAny (model prog w) A (.compLoop (.ListComp elt [⟨target,iter,ifs,0⟩] scope pos) 0 it acc env) R s:=by
 refine codeAny_loop rfl I (fun n s hI=>?_) n h
 show wpAny _ A ((compTurn (.ListComp elt [⟨target,iter,ifs,0⟩] scope pos) 0 it acc env).onRaise (fun x=>do noteFrame x env;theTreesLotGoes x)) _ _ s
 refine wpAny_noted ?_
 rw [compTurn_list]
 refine wpAny_bind (wpAny_standAt (wpAny_bind (wpAny_mono (turn n s hI) (fun r s₁ h₁=>?_) fun _ _ h'=>h'.elim)))
 cases r with
 | none=>exact wpAny_pure h₁
 | some v=>
  refine wpAny_bind (wpAny_mono h₁ (fun _ s₁' h₁'=>?_) fun _ _ h'=>h'.elim)
  refine wpAny_bind (wpAny_mono h₁' (fun _ s₂ h₂=>wpAny_bind (wpAny_mono h₂ (fun ok s₃ h₃=>?_) fun _ _ h'=>h'.elim)) fun _ _ h'=>h'.elim)
  cases ok with
  | false=>exact wpAny_pure ⟨rfl,h₃⟩
  | true=>
   exact wpAny_bind (wpAny_bind (wpAny_mono h₃ (fun x s₄ h₄=>wpAny_bind (wpAny_mono h₄ (fun _ s₅ h₅=>wpAny_pure (wpAny_pure ⟨rfl,h₅⟩)) fun _ _ h'=>h'.elim)) fun _ _ h'=>h'.elim))
end

theorem sz {h:Heap} {b:Addr} {o:Obj} {n:Nat} (e:h.get? b=some o) (hn:h.objs.size<=n):¬ b=n:=fun z=>by
 have h1:@LT.lt Nat instLTNat b h.objs.size:=Heap.lt_size e
 subst z
 exact Nat.lt_irrefl _ (Nat.lt_of_lt_of_le h1 hn)
noncomputable abbrev blk (X:Cx) (scope:Scope) (cl:List (Str×Addr)) (Nb:List Str) (s₀:Shared) (H₀:Hp) (C:Addr) (ex:List Addr) (pn:List (Addr×Obj)):Cx:=
 { X with N:=Nb,s₀:=s₀,H₀:=H₀,env:=compEnvC scope cl C X.env,outer:=X.stack,stack:=X.stack,ex:=ex,fn:=fun _=>false,pn:=pn,xe:=fun _ _=>False }

structure BlkOk (X:Cx) (scope:Scope) (cl:List (Str×Addr)) (Nb:List Str) (cp:List (Option Nat)):Prop where
 clos:closureFor scope X.env=pure cl
 cell:∀ y∈scope.names,y.2≠.cell
 kind:scope.kind=.function
 names:∀ y∈scope.names,y.2=.local->scope.names.lookup y.1=some .local
 sub:∀ x c,cl.lookup x=some c->X.env.cells.lookup x=some c
 has:∀ x,((relabel scope X.env).names.lookup x=some .cell\/(relabel scope X.env).names.lookup x=some .free)->∃ c,cl.lookup x=some c
 len:cp.length=Nb.length
 cap:∀ (i j:Nat) (x:Str),cp[i]?=some (some j)->Nb[i]?=some x->X.N[j]?=some x/\Vis X.env.scope x/\(X.env.kindOf x=some .cell\/X.env.kindOf x=some .free)/\((relabel scope X.env).names.lookup x=some .cell\/(relabel scope X.env).names.lookup x=some .free)

noncomputable def Wn (cp:List (Option Nat)) (σ:L2.St):L2.St:=cp.map fun o=>match o with | none=>none | some j=>match σ[j]? with | some v=>v | none=>none

noncomputable def Qch (wi:TI) (cp:List (Option Nat)) (g:TG) (tt:TT) (te:TE):TE:=fun σ H Q=>wi σ H fun J H1=>∃ W:Nat->Nat->List V->L2.St->Hp->Prop,(∃ m,W 0 m [] (Wn cp σ) H1)/\∀ i m acc τ H,W i m acc τ H ->
 (J.stop i H/\∀ D,H D=none->Q (.ref D) (upd H D (.lst acc))) \/
 (J.go i H/\∀ x H',J.yld i H x H'->g x τ H' fun τ2 H2=>tt τ2 H2 fun b H3=>if b=true then te τ2 H3 fun v H4=>acc.length < sizeLine/\∃ m',m' < m/\W (i+1) m' (acc++[v]) τ2 H4 else ∃ m',m' < m/\W (i+1) m' acc τ2 H3)

theorem Inv.track {X:Cx} {pins:List (Addr×Obj)} {σ:L2.St} {H:Hp} {s:Shared} {D:Addr} {o:HO} (I:Inv X pins σ H s) (hn:H D=none) (h0:X.s₀.heap.objs.size<=D) (hL:X.env.locals≠D) (hc:∀ x c,X.env.cells.lookup x=some c->c≠D)
  (hp:∀ p∈X.pn++pins,p.1≠D) (ob:ObjOk X.prog X.w (upd H D o) s.heap D o):Inv X pins σ (upd H D o) s where
 ok:=I.ok
 os:=I.os
 bare:=I.bare
 base:={
  keep:=I.base.keep
  slot:=I.base.slot
  free:=fun b q e n nx=>by
   have:b≠D:=sz e h0
   rw [QI this];exact I.base.free b q e n nx
  there:=I.base.there
  tups:=fun b xs e=>by
   have q:=I.base.tups b xs e
   rw [QI (fun z=>by rw [z,hn] at q;cases q)];exact q
  frzs:=fun b q u e=>by
   have z:=I.base.frzs b q u e
   rw [QI (fun y=>by rw [y,hn] at z;cases z)];exact z
  tbls:=fun b ps e=>by
   obtain ⟨more,q⟩:=I.base.tbls b ps e
   exact ⟨more,by rw [QI (fun z=>by rw [z,hn] at q;cases q)];exact q⟩ }
 loc:=I.loc
 cell:=I.cell
 free:=by rw [QI hL];exact I.free
 freeC:=fun x c e=>by rw [QI (hc x c e)];exact I.freeC x c e
 pin:=fun p hp'=>by
  obtain ⟨a,b,c⟩:=I.pin p hp'
  exact ⟨a,by rw [QI (hp p hp')];exact b,c⟩
 hok:=fun a u e=>by
  by_cases z:a=D
  ·subst z
   rw [JI] at e;cases e
   exact ob
  ·rw [QI z] at e
   refine (I.hok a u e).stay (fun _ _ _ q=>q) (fun b q=>?_) (fun b xs q=>?_)
   ·rw [QI (fun y=>by rw [y,hn] at q;cases q)];exact q
   ·rw [QI (fun y=>by rw [y,hn] at q;cases q)];exact q
 len:=I.len

section
variable {X:Cx} {elt tg iter:Expr} {ifs:List Expr} {scope:Scope} {pos:Pos} {cl:List (Str×Addr)} {Nb:List Str} {cp:List (Option Nat)} {wi:TI} {g:TG} {tt:TT} {te:TE}

theorem Cx.Ok.blk {pins:List (Addr×Obj)} {σ:L2.St} {H:Hp} {s:Shared} {C:Addr} {fp:List Addr} {pn:List (Addr×Obj)} (B:BlkOk X scope cl Nb cp) (I:Inv X pins σ H s) (hf:∀ b∈fp,GW X pins H b) (hfs:∀ b∈fp,b < s.heap.objs.size) (hC:s.heap.objs.size<=C) :
  (blk X scope cl Nb s H C fp pn).Ok where
 mod:=I.ok.mod
 kind:=B.kind
 glob:=I.ok.glob
 blt:=I.ok.blt
 above:=hC
 inj:=fun x y c h1 h2=>I.ok.inj x y c (B.sub x c h1) (B.sub y c h2)
 has:=fun x h=>B.has x h
 cab:=fun x c h=>absurd h (by simp)
 hd:=I.ok.hd
 frames:=I.ok.frames
 stk:=.inl rfl
 exf:=fun b hb=>⟨fun z=>by have:=hfs b hb;rw [z] at this;exact absurd hC (Nat.not_le.mpr this),fun x c e=>(hf b hb).2.2.2.2.1 x c (B.sub x c e)⟩
 bs:=I.bs
 bsz:=Nat.le_trans I.ok.bsz I.sz
 noex:=fun b o e hb=>by
  rcases (hf b hb).2.2.2.1 with z | z
  ·exact I.ok.noex b o e z
  ·exact sz e (Nat.le_trans I.ok.bsz z) rfl
 exfs:=fun b hb z=>by
  have:=I.stkSub b z
  rcases List.mem_cons.mp this with q | q
  ·exact (hf b hb).2.1 q
  ·exact (hf b hb).2.2.1 q
 funs:=I.stack
 frf:=fun b hb=>I.stkFree b hb

theorem QbB {cp:List (Option Nat)} {σ:L2.St} {i:Nat} {v:V} (e:(Wn cp σ)[i]?=some (some v)):∃ j,cp[i]?=some (some j)/\σ[j]?=some (some v):=by
 unfold Wn at e
 rw [List.getElem?_map] at e
 obtain ⟨o,h1,h2⟩:=Option.map_eq_some_iff.mp e
 cases o with
 | none=>cases h2
 | some j=>
  refine ⟨j,h1,?_⟩
  simp only at h2
  split at h2
  ·rename_i u hu;rw [hu,h2]
  ·cases h2

theorem Inv.blk {pins:List (Addr×Obj)} {σ:L2.St} {H:Hp} {s:Shared} {C:Addr} {fp:List Addr} {h':Heap} {m:Str->Option Value} {tk:Nat} (B:BlkOk X scope cl Nb cp) (I:Inv X pins σ H s) (hf:∀ b∈fp,GW X pins H b) (hfs:∀ b∈fp,b < s.heap.objs.size)
  (hC:s.heap.objs.size<=C) (hns:h'.Ns C m) (hk:∀ b o,s.heap.get? b=some o->h'.get? b=some o):Inv (Mi.blk X scope cl Nb s H C fp (X.pn++pins)) [] (Wn cp σ) H { s with heap:=h',toks:=tk } where
 ok:=Cx.Ok.blk B I hf hfs hC
 os:=rfl
 bare:=I.bare
 base:=Un.kept hk
 loc:=by
  refine ⟨m,hns,fun i x v hN e hv=>?_⟩
  obtain ⟨j,h1,h2⟩:=QbB e
  obtain ⟨hX,hvis,hkd,hkb⟩:=B.cap i j x h1 hN
  obtain ⟨m0,n0,lk⟩:=I.loc
  obtain ⟨u,r,l⟩:=lk j x v hX h2 hvis
  refine ⟨u,r,?_⟩
  rcases l with ⟨h,_⟩ | ⟨_,c,hc,hcell⟩
  ·rcases hkd with z | z<;>rw [z] at h<;>cases h
  ·refine .inr ⟨hkb,?_⟩
   obtain ⟨c',hc'⟩:=B.has x hkb
   have:=B.sub x c' hc'
   rw [hc] at this;cases this
   exact ⟨c,hc',by
    obtain ⟨o,h3,h4⟩:=hcell
    exact ⟨o,hk _ _ h3,h4⟩⟩
 cell:=fun x c e=>by
  obtain ⟨v,o,h3,h4⟩:=I.cell x c (B.sub x c e)
  exact ⟨v,o,hk _ _ h3,h4⟩
 free:=I.hok.fresh hC
 freeC:=fun x c e=>I.freeC x c (B.sub x c e)
 pin:=fun p hp=>by
  rw [List.append_nil] at hp
  obtain ⟨a,b,c,d,e⟩:=I.pin p hp
  refine ⟨hk _ _ a,b,fun z=>?_,fun z=>?_,e⟩
  ·have:=Heap.lt_size a;rw [z] at this;exact absurd hC (Nat.not_le.mpr this)
  ·rcases List.mem_cons.mp (I.stkSub _ z) with q | q
   ·exact c q
   ·exact d q
 hok:=I.hok.kept hk
 len:=by unfold Wn;rw [List.length_map];exact B.len

noncomputable def QiO (X:Cx) (pins:List (Addr×Obj)) (σ:L2.St) (use:Option (Value->Sem Unit)) (Q:VK) (Q':Value->Shared->Prop):Prop:=
 ∀ (D C:Addr) (H':Hp) (s':Shared) (m:Str->Option Value),Inv X pins σ H' s'->s'.heap.Ns C m->H' C=none->¬ C=X.env.locals->X.s₀.heap.objs.size<=C->(∀ x c,X.env.cells.lookup x=some c->c≠C)->(∀ p∈X.pn++pins,p.1≠C)->Q (.ref D) H' ->
  compPost (model X.prog X.w) X.A X.xe use Q' (.ref D) C (.ok .next) s'
theorem Ur {use:Option (Value->Sem Unit)} {Q':Value->Shared->Prop} {pins:List (Addr×Obj)} {s:Shared} {σ:L2.St} {H:Hp} {Q:VK} {newp:Pos} (hc:X.calm=true) (B:BlkOk X scope cl Nb cp) (hi:PI X tg iter wi) (hg:∀ s₀ H₀ C ex pn,PG (Mi.blk X scope cl Nb s₀ H₀ C ex pn) tg g)
  (ht:∀ s₀ H₀ C ex pn,∀ (pins:List (Addr×Obj)) (s:Shared) (τ:L2.St) (H:Hp) (Q:Bool->Hp->Prop),Inv (Mi.blk X scope cl Nb s₀ H₀ C ex pn) pins τ H s->tt τ H Q ->
   wpAny (model X.prog X.w) X.A (forIn ifs true fun c r=>if r=true then do let ok <- isTrue c (compEnvC scope cl C X.env) (eval c (compEnvC scope cl C X.env));pure (ForInStep.yield ok) else pure (ForInStep.yield r)) (TP (Mi.blk X scope cl Nb s₀ H₀ C ex pn) pins τ Q) (fun _ _=>False) s)
  (he:∀ s₀ H₀ C ex pn,PE (Mi.blk X scope cl Nb s₀ H₀ C ex pn) elt te) (hs:∀ x,foldedSetIterable iter X.env x=pure x)
  (I:Inv X pins σ H s) (h:Qch wi cp g tt te σ H Q) (hfin:QiO X pins σ use Q Q') :
  wpAny (model X.prog X.w) X.A (comprehension (.ListComp elt [⟨tg,iter,ifs,0⟩] scope pos) scope X.env newp (newList []) false (eval iter X.env) use) Q' X.xe s:=by
 refine wpAny_comprehension_free (use:=use) rfl hs B.clos B.kind B.names (wpAny_mono (hi pins s σ H _ I h) (fun xv s₁ h₁=>wpAny_mono h₁ (fun itv s₂ h₂=>?_) fun _ _ e=>e) fun _ _ e=>e)
 obtain ⟨it,fp,tn,J,H2,rfl,I2,T,st2,f2,W,⟨m0,w0⟩,turn⟩:=h₂
 have hfs:∀ b∈fp,b < s₂.heap.objs.size:=fun b hb=>by
  obtain ⟨o,e,_⟩:=T.obj _ _ st2 b hb
  exact Heap.lt_size e
 refine wpAny_newObj_type (wpAny_newFunctionEnv B.cell (by intro y hy;simp at hy) (fun h₁ hns₁ hsb₁=>?_) B.kind)
 dsimp only at hns₁ hsb₁ ⊢
 generalize hH2:s₂.heap.push { cls:=.type "list",dict:=none,data:=.seq ([]:List Value).toArray }=G2 at hns₁ hsb₁ ⊢
 have hCz:G2.objs.size=s₂.heap.objs.size+1:=by rw [<- hH2,Heap.size_push]
 generalize hCC:G2.objs.size=C at hns₁ hsb₁ ⊢
 rw [hCC] at hCz
 have hCle:s₂.heap.objs.size<=C:=by omega
 have hDC:s₂.heap.objs.size≠C:=by omega
 have old:∀ b o,s₂.heap.get? b=some o->h₁.get? b=some o:=fun b o e=>hsb₁.extBut b o (sz e hCle) (Heap.get?_push_of_some _ (hH2 ▸ Heap.get?_push_of_some _ e))
 have hacc:h₁.get? s₂.heap.objs.size=some { cls:=.type "list",data:=.seq ([]:List Value).toArray }:=hsb₁.extBut _ _ hDC (Heap.get?_push_of_some _ (hH2 ▸ Heap.get?_push_size _ rfl))
 generalize hD:s₂.heap.objs.size=D at hacc hDC hCle hCz ⊢
 have hDle:s₂.heap.objs.size<=D:=Nat.le_of_eq hD
 have hCle2:s₂.heap.objs.size<=C:=Nat.le_trans hDle hCle
 -- the block's context
 have I3:=Inv.blk (tk:=s₂.toks+([]:List (Str×Value)).length) B I2 f2 hfs (C:=C) (Nat.le_trans (Nat.le_of_eq hD) hCle) hns₁ old
 have hDfp:D∉fp:=fun z=>Nat.lt_irrefl _ (Nat.lt_of_lt_of_le (hfs D z) hDle)
 have hCfp:C∉fp:=fun z=>Nat.lt_irrefl _ (Nat.lt_of_lt_of_le (hfs C z) hCle2)
 -- D in the block: not a frame's,not a cell's,not pinned
 have dcell:∀ x c,cl.lookup x=some c->c≠D:=fun x c e z=>by
  obtain ⟨v,o,h3,_⟩:=I2.cell x c (B.sub x c e)
  exact sz h3 hDle z
 have dpin:∀ p∈X.pn++pins,p.1≠D:=fun p hp z=>sz (I2.pin p hp).1 hDle z
 have cpin:∀ p∈X.pn++pins,p.1≠C:=fun p hp z=>sz (I2.pin p hp).1 hCle2 z
 have dfs:D∉frs X.stack:=fun z=>by
  rcases List.mem_cons.mp (I2.stkSub _ z) with q | q
  ·exact Nat.lt_irrefl _ (Nat.lt_of_lt_of_le (q ▸ I2.lt:D < s₂.heap.objs.size) hDle)
  ·exact I2.nofs hDle q
 have fpst:∀ {H':Hp} {pl:List (Addr×Obj)},(∀ b∈fp,H' b=none)->(∀ p∈pl,p.1=D)->∀ b∈fp,GW (Mi.blk X scope cl Nb s₂ H2 C fp (X.pn++pins)) pl H' b:=fun {H' pl} hn hpl b hb=>
  ⟨hn b hb,fun (z:b=C)=>hCfp (z ▸ hb),fun z=>by
   rcases List.mem_cons.mp (I2.stkSub _ z) with q | q
   ·exact (f2 b hb).2.1 q
   ·exact (f2 b hb).2.2.1 q,.inl hb,fun x c e=>(f2 b hb).2.2.2.2.1 x c (B.sub x c e),fun p hp z=>by
   rcases List.mem_append.mp hp with q | q
   ·exact (f2 b hb).2.2.2.2.2 p q z
   ·rw [hpl p q] at z;exact hDfp (z ▸ hb)⟩
 have fp0:∀ {H':Hp},(∀ b∈fp,H' b=none)->∀ b∈fp,GW X pins H' b:=fun hn b hb=>⟨hn b hb,(f2 b hb).2⟩
 -- the end
 have fin:∀ {τ:L2.St} {H':Hp} {s':Shared} {acc:List V} {its:List Value} {n:Nat} {mC:Str->Option Value},Inv (Mi.blk X scope cl Nb s₂ H2 C fp (X.pn++pins)) [] τ H' s'->H' D=none->s'.heap.get? D=some { cls:=.type "list",data:=.seq its.toArray n }->Vals acc its->acc.length<=sizeLine->s'.heap.Ns C mC ->
   (∀ D,H' D=none->Q (.ref D) (upd H' D (.lst acc)))->compPost (model X.prog X.w) X.A X.xe use Q' (.ref D) C (.ok .next) s':=by
  intro τ H' s' acc its n mC Ib hDH hDo r hz hns q
  have Ie:Inv X pins σ H' s':=I2.call' (ch:=fp) (Ib.os) Ib.base Ib.hok Ib.bare fun b hb=>⟨(f2 b hb).2.2.2.1,(f2 b hb).2.1,(f2 b hb).2.2.2.2.1,(f2 b hb).2.2.2.2.2⟩
  have hsz:X.s₀.heap.objs.size<=s₂.heap.objs.size:=I2.sz
  have It:Inv X pins σ (upd H' D (.lst acc)) s':=Inv.track Ie hDH (Nat.le_trans hsz hDle) (fun z=>Nat.lt_irrefl _ (Nat.lt_of_lt_of_le (z ▸ I2.lt:D < s₂.heap.objs.size) hDle)) (fun x c e z=>by
   obtain ⟨v,o,h3,_⟩:=I2.cell x c e
   exact sz h3 hDle z) dpin ⟨hz,its,n,r,hDo⟩
  exact hfin D C _ s' mC It hns (by rw [QI (Ne.symm hDC)];exact Ib.free) (fun z=>Nat.lt_irrefl _ (Nat.lt_of_lt_of_le (z ▸ I2.lt:C < s₂.heap.objs.size) hCle2)) (Nat.le_trans hsz hCle2) (fun x c e z=>by
   obtain ⟨v,o,h3,_⟩:=I2.cell x c e
   exact sz h3 hCle2 z) cpin (q D hDH)
 have loop:∀ s₃:Shared,s₃={ s₂ with heap:=h₁,toks:=s₂.toks+([]:List (Str×Value)).length } ->
   codeAny (model X.prog X.w) X.A (.compLoop (.ListComp elt [⟨tg,iter,ifs,0⟩] scope pos) 0 (.ref it) (.ref D) (compEnvC scope cl C X.env))
    (compPost (model X.prog X.w) X.A X.xe use Q' (.ref D) C) s₃:=by
  rintro s₃ rfl
  refine WV (fun n s'=>∃ i τ H' acc its k,Inv (Mi.blk X scope cl Nb s₂ H2 C fp (X.pn++pins)) [] τ H' s'/\tn i s'.heap/\(∀ b∈fp,H' b=none)/\H' D=none/\s'.heap.get? D=some { cls:=.type "list",data:=.seq (its:List Value).toArray k }/\Vals acc its/\acc.length<=sizeLine/\W i n acc τ H') ?_ m0
   ⟨0,Wn cp σ,H2,[],[],_,I3,T.keep _ _ _ st2 (fun b hb o e=>old b o e),fun b hb=>(f2 b hb).1,I2.hok.fresh hDle,hacc,.nil,Nat.zero_le _,w0⟩
  rintro n s3 ⟨i,τ,H3,acc,its,k,Ib,st3,fr3,hDH,hDo,r3,hz3,w3⟩
  have pinD:∀ {τ':L2.St} {H':Hp} {s':Shared},Inv (Mi.blk X scope cl Nb s₂ H2 C fp (X.pn++pins)) [] τ' H' s'->H' D=none->s'.heap.get? D=some { cls:=.type "list",data:=.seq its.toArray k } ->
    Inv (Mi.blk X scope cl Nb s₂ H2 C fp (X.pn++pins)) [(D,{ cls:=.type "list",data:=.seq its.toArray k })] τ' H' s':=fun {τ' H' s'} I' hn ho=>I'.pins_of fun p hp=>by
   rw [List.mem_singleton] at hp;subst hp
   exact ⟨ho,hn,hDC,dfs,by intro v;simp⟩
  have IbD:=pinD Ib hDH hDo
  have onlyD:∀ p∈[(D,({ cls:=.type "list",data:=.seq its.toArray k }:Obj))],p.1=D:=fun p hp=>by rw [List.mem_singleton] at hp;subst hp;rfl
  have ofD:∀ {τ':L2.St} {H':Hp} {s':Shared},Inv (Mi.blk X scope cl Nb s₂ H2 C fp (X.pn++pins)) [(D,{ cls:=.type "list",data:=.seq its.toArray k })] τ' H' s'->s'.heap.get? D=some { cls:=.type "list",data:=.seq its.toArray k }/\H' D=none:=fun I'=>by
   obtain ⟨a,b,_⟩:=I'.pin (D,_) (List.mem_append_right _ (List.mem_singleton.mpr rfl))
   exact ⟨a,b⟩
  rcases turn i n acc τ H3 w3 with ⟨stop,qn⟩ | ⟨go,step⟩
  ·refine wpAny_mono (T.done (Mi.blk X scope cl Nb s₂ H2 C fp (X.pn++pins)) rfl rfl rfl hc i _ s3 τ H3 (fun _ _=>False) IbD (fpst fr3 onlyD) st3 stop) (fun r s4 ⟨hr,I4⟩=>?_) fun _ _ z=>z.elim
   subst hr
   obtain ⟨o4,n4⟩:=ofD I4
   obtain ⟨m4,ns4,_⟩:=I4.loc
   have I4':Inv (Mi.blk X scope cl Nb s₂ H2 C fp (X.pn++pins)) [] τ H3 s4:=I4.pins_of fun p hp=>by cases hp
   exact fin I4' n4 o4 r3 hz3 ns4 qn
  ·refine wpAny_mono (T.item (Mi.blk X scope cl Nb s₂ H2 C fp (X.pn++pins)) rfl rfl rfl hc i _ s3 τ H3 (fun _ _=>False) IbD (fpst fr3 onlyD) st3 go) (fun r s4 ⟨u,hr,h4⟩=>?_) fun _ _ z=>z.elim
   subst hr
   refine wpAny_mono h4 (fun _ s5 ⟨x,H5,I5,r5,y5,st5,fr5⟩=>?_) fun _ _ z=>z.elim
   have I5':=I5.pinned (fpst fr5 onlyD) (T.obj _ _ st5)
   refine wpAny_mono (hg s₂ H2 C fp (X.pn++pins) _ s5 τ H5 x u _ I5' r5 (step x H5 y5)) (fun _ s6 ⟨τ6,H6,I6,q6⟩=>?_) fun _ _ z=>z.elim
   refine wpAny_mono (ht s₂ H2 C fp (X.pn++pins) _ s6 τ6 H6 _ I6 q6) (fun ok s7 ⟨H7,I7,q7⟩=>?_) fun _ _ z=>z.elim
   have keepT:∀ {τ':L2.St} {H':Hp} {s':Shared},Inv (Mi.blk X scope cl Nb s₂ H2 C fp (X.pn++pins)) ([(D,{ cls:=.type "list",data:=.seq its.toArray k })]++Y6 fp s5.heap) τ' H' s'->tn (i+1) s'.heap/\(∀ b∈fp,H' b=none)/\s'.heap.get? D=some { cls:=.type "list",data:=.seq its.toArray k }/\H' D=none:=fun {τ' H' s'} I'=>by
    refine ⟨T.keep _ _ _ st5 fun b hb o e=>(I'.pin (b,o) (List.mem_append_right _ (List.mem_append_right _ (VJ hb e)))).1,fun b hb=>?_,?_⟩
    ·obtain ⟨o,e,d⟩:=T.obj _ _ st5 b hb
     exact (I'.pin (b,o) (List.mem_append_right _ (List.mem_append_right _ (VJ hb e)))).2.1
    ·obtain ⟨a,b,_⟩:=I'.pin (D,{ cls:=.type "list",data:=.seq its.toArray k }) (List.mem_append_right _ (List.mem_append_left _ (List.mem_singleton.mpr rfl)))
     exact ⟨a,b⟩
   cases ok with
   | false=>
    rw [if_neg Bool.false_ne_true] at q7 ⊢
    obtain ⟨m',hm,w7⟩:=q7
    obtain ⟨t7,f7,o7,n7⟩:=keepT I7
    exact ⟨m',hm,i+1,τ6,H7,acc,its,k,I7.pins_of (fun p hp=>by cases hp),t7,f7,n7,o7,r3,hz3,w7⟩
   | true=>
    rw [if_pos rfl] at q7 ⊢
    refine wpAny_mono (he s₂ H2 C fp (X.pn++pins) _ s7 τ6 H7 _ I7 q7) (fun y s8 ⟨v8,H8,I8,r8,hlt,m',hm,w8⟩=>?_) fun _ _ z=>z.elim
    obtain ⟨t8,f8,o8,n8⟩:=keepT I8
    have hlen:=r3.length
    refine call_meets F.slot_list_append ⟨_,o8,rfl⟩ F.entry_list_append (F.args_list_append_2 _ _) (PySem.list_append D its.toArray k y (by rw [List.size_toArray];omega)) ⟨o8,?_⟩
    have q:=PySem.IsL.update o8 (·.push y)
    have hf:its.toArray.push y=(its++[y]).toArray:=by simp
    rw [hf] at q
    have I8':Inv (Mi.blk X scope cl Nb s₂ H2 C fp (X.pn++pins)) [] τ6 H8 s8:=I8.pins_of fun p hp=>by cases hp
    have I9:Inv (Mi.blk X scope cl Nb s₂ H2 C fp (X.pn++pins)) [] τ6 H8 { s8 with heap:=s8.heap.update D (Obj.mapSeq (·.push y)),toks:=s8.toks }:=
     I8'.turned (it:=D) (fun b o hb e=>(Heap.get?_update_other s8.heap (Obj.mapSeq (·.push y)) (Ne.symm hb)).trans e) n8 hDC (.inr hDle) (fun x c e=>dcell x c e) fun p hp=>by
      rw [List.append_nil] at hp;exact dpin p hp
    refine ⟨m',hm,i+1,τ6,H8,acc++[v8],its++[y],_,I9,T.keep _ _ _ t8 (fun b hb o e=>(Heap.get?_update_other s8.heap (Obj.mapSeq (·.push y)) (fun (z:D=b)=>hDfp (z ▸ hb))).trans e),f8,n8,q,r3.append (.cons r8 .nil),by rw [List.length_append,List.length_singleton];omega,w8⟩
 exact codeAny_compStart_list (loop _ rfl) (T.self _ 0 _ _ _ (T.keep _ _ _ st2 (fun b hb o e=>old b o e)) (loop _ rfl))
theorem QbV (hc:X.calm=true) (B:BlkOk X scope cl Nb cp) (hi:PI X tg iter wi) (hg:∀ s₀ H₀ C ex pn,PG (Mi.blk X scope cl Nb s₀ H₀ C ex pn) tg g)
  (ht:∀ s₀ H₀ C ex pn,∀ (pins:List (Addr×Obj)) (s:Shared) (τ:L2.St) (H:Hp) (Q:Bool->Hp->Prop),Inv (Mi.blk X scope cl Nb s₀ H₀ C ex pn) pins τ H s->tt τ H Q ->
   wpAny (model X.prog X.w) X.A (forIn ifs true fun c r=>if r=true then do let ok <- isTrue c (compEnvC scope cl C X.env) (eval c (compEnvC scope cl C X.env));pure (ForInStep.yield ok) else pure (ForInStep.yield r)) (TP (Mi.blk X scope cl Nb s₀ H₀ C ex pn) pins τ Q) (fun _ _=>False) s)
  (he:∀ s₀ H₀ C ex pn,PE (Mi.blk X scope cl Nb s₀ H₀ C ex pn) elt te) (hs:∀ x,foldedSetIterable iter X.env x=pure x:=by intro _;rfl) :
  PE X (.ListComp elt [⟨tg,iter,ifs,0⟩] scope pos) (Qch wi cp g tt te):=by
 intro pins s σ H Q I h
 rw [eval_ListComp]
 refine Ur hc B hi hg ht he hs I h fun D C H' s' m I' hns hn hL h0 hcell hp q=>⟨m,hns,fun h'' sb=>?_⟩
 exact ⟨.ref D,H',I'.turned (t':=s'.toks) (it:=C) (fun b o hb e=>sb.extBut b o hb e) hn hL (.inr h0) hcell hp,rfl,q⟩
theorem Qa6 {i:Nat} {x:Str} {pos' spos:Pos} (hN:X.N.Nodup) (hix:X.N[i]?=some x) (hx:Loc X.env.scope x) (hf:X.fn x=true\/X.env.scope.names.lookup x=some .local) (hsw:swapsWith (.ListComp elt [⟨tg,iter,ifs,0⟩] scope pos) (some (.Name x pos')) spos.line X.env=pure true)
  (hc:X.calm=true) (B:BlkOk X scope cl Nb cp) (hi:PI X tg iter wi) (hg:∀ s₀ H₀ C ex pn,PG (Mi.blk X scope cl Nb s₀ H₀ C ex pn) tg g)
  (ht:∀ s₀ H₀ C ex pn,∀ (pins:List (Addr×Obj)) (s:Shared) (τ:L2.St) (H:Hp) (Q:Bool->Hp->Prop),Inv (Mi.blk X scope cl Nb s₀ H₀ C ex pn) pins τ H s->tt τ H Q ->
   wpAny (model X.prog X.w) X.A (forIn ifs true fun c r=>if r=true then do let ok <- isTrue c (compEnvC scope cl C X.env) (eval c (compEnvC scope cl C X.env));pure (ForInStep.yield ok) else pure (ForInStep.yield r)) (TP (Mi.blk X scope cl Nb s₀ H₀ C ex pn) pins τ Q) (fun _ _=>False) s)
  (he:∀ s₀ H₀ C ex pn,PE (Mi.blk X scope cl Nb s₀ H₀ C ex pn) elt te) (hs:∀ x,foldedSetIterable iter X.env x=pure x:=by intro _;rfl) :
  PS X (.Assign [.Name x pos'] (.ListComp elt [⟨tg,iter,ifs,0⟩] scope pos) spos) (Qie (Qch wi cp g tt te) (Qaa i)):=by
 intro pins s σ H D I h
 rw [exec_Assign_Name_used _ _ _ _ hsw]
 refine wpAny_bind (wpAny_standAt (wpAny_bind ?_))
 show wpAny _ X.A (do let _ <- comprehension (.ListComp elt [⟨tg,iter,ifs,0⟩] scope pos) scope X.env _ (newList []) false (eval iter X.env) (some (assign (.Name x pos') X.env))) _ _ s
 refine wpAny_bind (wpAny_mono (Ur (use:=some (assign (.Name x pos') X.env)) (Q':=fun _ s'=>SP X pins D .next s') hc B hi hg ht he hs I h fun D' C H' s' m I' hns hn hL h0 hcell hp q=>?_) (fun _ s' hq=>wpAny_pure (wpAny_pure hq)) fun _ _ e=>e)
 show wpAny _ X.A (assign (.Name x pos') X.env (.ref D')) _ _ s'
 refine wpAny_assign_Name (We (v:=.ref D') I' hN hix hx rfl (fun s5 I5 ⟨a,sb,ha⟩=>?_) hf)
 have hne:C≠a:=fun z=>by
  rcases ha with ha | ha
  ·exact hL (z.trans ha)
  ·exact hcell x a ha z.symm
 exact ⟨m,hns.sameBut sb hne,fun h'' sb2=>⟨_,H',I5.turned (t':=s5.toks) (it:=C) (fun b o hb e=>sb2.extBut b o hb e) hn hL (.inr h0) hcell hp,q⟩⟩
end
end Mi

namespace Mi
open PySem PySem.Spec PyProof.Rows L2

noncomputable def IterR (X:Cx) (tg:Expr) (r:V->Hp->(It->Hp->Prop)->Prop):Prop:=
 ∀ (pins:List (Addr×Obj)) (s:Shared) (σ:L2.St) (H:Hp) (x:V) (v:Value) (C:It->Hp->Prop),Inv X pins σ H s->RelV x v->r x H C->wpAny (model X.prog X.w) X.A (pyIter v) (PIE X pins σ tg C) X.xe s
section
variable {X:Cx} {tg:Expr}
theorem IterR.or {r r':V->Hp->(It->Hp->Prop)->Prop} (h:IterR X tg r) (h':IterR X tg r'):IterR X tg (fun x H C=>r x H C\/r' x H C):=fun pins s σ H x v C I rx q=>by
 rcases q with q | q
 ·exact h pins s σ H x v C I rx q
 ·exact h' pins s σ H x v C I rx q
theorem it_list:IterR X tg (fun x H C=>∃ a,x=.ref a/\(∃ xs,SqL X.K H a xs)/\C (Itl X.K a) H):=by
 intro pins s1 σ H1 x v C I1 r1 q1
 obtain ⟨a,e,⟨xs,hq⟩,q⟩:=q1
 subst e
 cases r1
 obtain ⟨its,rv,p,hz⟩:=I1.list hq
 refine wpAny_pyIter_list p.isList ?_
 refine ⟨s1.heap.objs.size,[s1.heap.objs.size],_,_,H1,rfl,I1.kept (t':=s1.toks) fun b o e=>Heap.get?_push_of_some _ e,Qab a _,⟨_,Heap.get?_push_size _ rfl,rfl,rfl⟩,fun b hb=>?_,q⟩
 have e:b=s1.heap.objs.size:=by simpa using hb
 subst e
 exact I1.fpOk (Nat.le_refl _) (I1.hok.fresh (Nat.le_refl _))
theorem Qhv:IterR X tg (fun x H C=>∃ a,x=.ref a/\(∃ xs,SqT X.K H a xs)/\C (Itt X.K a) H):=by
 intro pins s1 σ H1 x v C I1 r1 q1
 obtain ⟨a,e,⟨xs,hq⟩,q⟩:=q1
 subst e
 cases r1
 obtain ⟨its,rv,p,hz⟩:=I1.tuple hq
 refine wpAny_pyIter_tuple (show s1.heap.IsTuple a its.toArray from p) ?_
 refine ⟨s1.heap.objs.size,[s1.heap.objs.size],_,_,H1,rfl,I1.kept (t':=s1.toks) fun b o e=>Heap.get?_push_of_some _ e,GD a _,⟨_,Heap.get?_push_size _ rfl,rfl,rfl⟩,fun b hb=>?_,q⟩
 have e:b=s1.heap.objs.size:=by simpa using hb
 subst e
 exact I1.fpOk (Nat.le_refl _) (I1.hok.fresh (Nat.le_refl _))
noncomputable def Its (x:Str):It:=⟨fun i _=>i < x.cps.size,fun i H v H'=>H'=H/\∃ c,x.cps[i]?=some c/\v=.str ⟨#[c]⟩,fun i _=>x.cps.size<=i⟩
noncomputable def Wl (x:Str):List W:=x.cps.toList.map fun c=>.str ⟨#[c]⟩
theorem Qcd {P:Program} {w:World} {K:PySem.W.Frag} {tg:Expr} (it:Addr) (x:Str) (ty:String) (t:Tok) (hty:ty="str_ascii_iterator"\/ty="str_iterator") :
  Turn P w K tg (Its x) [it] it (fun i h=>i<=x.cps.size/\h.IsStrIter it ty x t i) where
 mem:=by simp
 obj:=fun i h st b hb=>by
  have e:b=it:=by simpa using hb
  subst e
  obtain ⟨_,o,e,c,d⟩:=st
  exact ⟨o,e,fun v z=>by rw [d] at z;cases z⟩
 keep:=fun i h h' st k=>⟨st.1,let ⟨o,ho,r⟩:=st.2;⟨o,k it (by simp) o ho,r⟩⟩
 item:=by
  intro X hP hw hK hc i pins s σ H E I hf st hg
  subst hP hw hK
  obtain ⟨hi,st⟩:=st
  obtain ⟨f0,f1,f2,f3,f4,f5⟩:=hf it (by simp)
  have hg':i < x.cps.size:=hg
  have hx:x.cps[i]?=some (x.cps[i]'hg'):=Array.getElem?_eq_getElem hg'
  have fin:∀ h':Heap,h'.IsStrIter it ty x t (i+1)->Heap.SameBut it s.heap h'->∃ u,some (Value.str ⟨#[x.cps[i]'hg']⟩ s.toks)=some u/\wpAny (model X.prog X.w) X.A (letOwnedTupleGo tg (.ref it) u) (fun _ s2=>∃ y H',Inv X pins σ H' s2/\RelV y u/\(Its x).yld i H y H'/\(i+1<=x.cps.size/\s2.heap.IsStrIter it ty x t (i+1))/\∀ b∈[it],H' b=none) E { s with heap:=h',toks:=s.toks+1 }:=fun h' st' sb=>by
   have I1:Inv X pins σ H { s with heap:=h',toks:=s.toks+1 }:=I.turned (fun b o hb e=>(sb.2 b hb).trans e) f0 f1 f3 f4 f5
   obtain ⟨o,e,c,d⟩:=id st'
   refine ⟨_,rfl,Qbm (s:={ s with heap:=h',toks:=s.toks+1 }) e c d (by rcases hty with z | z<;>rw [z]<;>decide) ⟨.str ⟨#[x.cps[i]'hg']⟩,H,I1,⟨_,rfl⟩,⟨rfl,_,hx,rfl⟩,⟨hg,st'⟩,fun b hb=>(hf b hb).1⟩⟩
  rcases hty with z | z
  ·subst z
   exact wpAny_pyNext_ascii_item st hx fin
  ·subst z
   exact wpAny_pyNext_wide_item st hx fin
 done:=by
  intro X hP hw hK hc i pins s σ H E I hf st hg
  subst hP hw hK
  obtain ⟨hi,st⟩:=st
  obtain ⟨f0,f1,f2,f3,f4,f5⟩:=hf it (by simp)
  have hx:x.cps[i]?=none:=by have:x.cps.size<=i:=hg;simp;omega
  rcases hty with z | z
  ·subst z
   exact wpAny_pyNext_ascii_end (I.ok.hd hc) st hx fun h' eb=>⟨rfl,I.turned (t':=s.toks) (fun b o hb e=>eb b o hb e) f0 f1 f3 f4 f5⟩
  ·subst z
   exact wpAny_pyNext_wide_end (I.ok.hd hc) st hx fun h' eb=>⟨rfl,I.turned (t':=s.toks) (fun b o hb e=>eb b o hb e) f0 f1 f3 f4 f5⟩
 self:=fun _ _ _ _ _ st h=>by
  rcases hty with z | z
  ·subst z;exact wpAny_pyIter_striter_ascii st.2 h
  ·subst z;exact wpAny_pyIter_striter_wide st.2 h
theorem Qhg:IterR X tg (fun x H C=>∃ y,x=.str y/\C (Its y) H):=by
 intro pins s1 σ H1 x v C I1 r1 q1
 obtain ⟨y,rfl,q⟩:=q1
 obtain ⟨t,rfl⟩:=r1
 have fin:∀ ty,(ty="str_ascii_iterator"\/ty="str_iterator")->PIE X pins σ tg C (.ref s1.heap.objs.size) { s1 with heap:=s1.heap.push { cls:=.type ty,data:=.fields #[.str y t,.int 0 0] } }:=fun ty hty=>by
  refine ⟨s1.heap.objs.size,[s1.heap.objs.size],_,_,H1,rfl,I1.kept (t':=s1.toks) fun b o e=>Heap.get?_push_of_some _ e,Qcd _ y ty t hty,⟨Nat.zero_le _,_,Heap.get?_push_size _ rfl,rfl,rfl⟩,fun b hb=>?_,q⟩
  have e:b=s1.heap.objs.size:=by simpa using hb
  subst e
  exact I1.fpOk (Nat.le_refl _) (I1.hok.fresh (Nat.le_refl _))
 cases ha:y.cps.all (· < 128)
 ·exact wpAny_pyIter_wide ha (fin _ (.inr rfl))
 ·exact wpAny_pyIter_ascii ha (fin _ (.inl rfl))
end
noncomputable def XE (h:MH):W->Option (List W×Option Nat)
 | .tup ws=>some (ws,none)
 | .lst ws=>some (ws,none)
 | .frz ws=>some (ws,none)
 | .str x=>some (Wl x,none)
 | .ref n=>match h[n]? with | some (.lst ws)=>some (ws,some n) | _=>none
 | _=>none
noncomputable def QY (m:ME):MI:=fun σ h=>(m σ h).bind fun p=>(XE p.2 p.1).map fun q=>(q.1,q.2,p.2)
section
variable {K:PySem.W.Frag} {R:Rn}
theorem Y0 {a:Addr} {xs:List V} {ws:List W} (hq:SqL K R.F a xs) (r:Rws K R ws xs):ItOk K R (Itl K a) ws none where
 go:=fun i w R' h H x rh _ e=>by
  obtain ⟨v,h1,_⟩:=r.get e
  exact ⟨xs,v,ZP (fun b o z=>rh.sub b o (x.f b o z)) hq,h1⟩
 yld:=fun i w R' h H x H' e rh _ ew hy=>by
  obtain ⟨rfl,hx⟩:=hy
  obtain ⟨v,h1,h2⟩:=r.get ew
  have:=hx xs (ZP (fun b o z=>rh.sub b o (e.f b o z)) hq)
  rw [h1] at this;cases this
  exact ⟨R',Ext.refl _,rh,Rw.mono e _ _ h2⟩
 stop:=fun i R' h H x rh _ hl=>⟨xs,ZP (fun b o z=>rh.sub b o (x.f b o z)) hq,by rw [<- r.length];exact hl⟩
theorem Qcj {a:Addr} {xs:List V} {ws:List W} (hq:SqT K R.F a xs) (r:Rws K R ws xs):ItOk K R (Itt K a) ws none where
 go:=fun i w R' h H x rh _ e=>by
  obtain ⟨v,h1,_⟩:=r.get e
  exact ⟨xs,v,Z5 (fun b o z=>rh.sub b o (x.f b o z)) hq,h1⟩
 yld:=fun i w R' h H x H' e rh _ ew hy=>by
  obtain ⟨rfl,hx⟩:=hy
  obtain ⟨v,h1,h2⟩:=r.get ew
  have:=hx xs (Z5 (fun b o z=>rh.sub b o (e.f b o z)) hq)
  rw [h1] at this;cases this
  exact ⟨R',Ext.refl _,rh,Rw.mono e _ _ h2⟩
 stop:=fun i R' h H x rh _ hl=>⟨xs,Z5 (fun b o z=>rh.sub b o (x.f b o z)) hq,by rw [<- r.length];exact hl⟩
theorem Qcp {n:Nat} {ws:List W} (hn:n < R.N):ItOk K R (Itl K (R.ρ n)) ws (some n) where
 go:=fun i w R' h H x rh hl e=>by
  obtain ⟨xs,h1,h2⟩:=rh.obj n _ (hl n rfl)
  obtain ⟨v,h3,_⟩:=h2.get e
  rw [x.ρ n hn] at h1
  exact ⟨xs,v,SqL.of h1,h3⟩
 yld:=fun i w R' h H x H' e rh hl ew hy=>by
  obtain ⟨rfl,hx⟩:=hy
  obtain ⟨xs,h1,h2⟩:=rh.obj n _ (hl n rfl)
  obtain ⟨v,h3,h4⟩:=h2.get ew
  rw [e.ρ n hn] at h1
  have:=hx xs (SqL.of h1)
  rw [h3] at this;cases this
  exact ⟨R',Ext.refl _,rh,h4⟩
 stop:=fun i R' h H x rh hl hle=>by
  obtain ⟨xs,h1,h2⟩:=rh.obj n _ (hl n rfl)
  rw [x.ρ n hn] at h1
  exact ⟨xs,SqL.of h1,by rw [<- h2.length];exact hle⟩
theorem QcV {x:Str}:ItOk K R (Its x) (Wl x) none where
 go:=fun i w R' h H _ _ _ e=>by
  have:=(List.getElem?_eq_some_iff.mp e).1
  show i < x.cps.size
  simpa [Wl] using this
 yld:=fun i w R' h H v H' e rh _ ew hy=>by
  obtain ⟨rfl,c,hc,rfl⟩:=hy
  unfold Wl at ew
  rw [List.getElem?_map,Array.getElem?_toList,hc] at ew
  cases ew
  exact ⟨R',Ext.refl _,rh,Rw.str _⟩
 stop:=fun i R' h H _ _ _ hl=>by
  show x.cps.size<=i
  simpa [Wl] using hl
theorem KL {lo:Int} {n:Nat}:ItOk K R (Itr lo n) ((List.range n).map fun (i:Nat)=>W.int (lo+(i:Int))) none where
 go:=fun i w R' h H _ _ _ e=>by
  have:=(List.getElem?_eq_some_iff.mp e).1
  show i < n
  simpa using this
 yld:=fun i w R' h H v H' e rh _ ew hy=>by
  obtain ⟨rfl,rfl⟩:=hy
  rw [List.getElem?_map] at ew
  obtain ⟨j,hj,e2⟩:=Option.map_eq_some_iff.mp ew
  rw [List.getElem?_range (by have:=(List.getElem?_eq_some_iff.mp hj).1;simpa using this)] at hj
  cases hj
  cases e2
  exact ⟨R',Ext.refl _,rh,Rw.int _⟩
 stop:=fun i R' h H _ _ _ hl=>by
  show n<=i
  simpa using hl
end
section
variable {X:Cx} {tg a b c:Expr} {ma:ME} {ms:MA} {pos p:Pos}
theorem Zs (ha:PM X a ma):PMI X tg a (QY ma):=by
 intro pins s σ H C I q
 obtain ⟨R,σi,h,items,src,h',rh,st,e,k⟩:=q
 obtain ⟨⟨w,h1⟩,e1,e2⟩:=Option.bind_eq_some_iff.mp e
 obtain ⟨⟨its,sr⟩,e3,e4⟩:=Option.map_eq_some_iff.mp e2
 cases e4
 refine thn (ha pins s σ H _ I ⟨R,σi,h,w,h1,rh,st,e1,fun R1 H1 v x1 rh1 rv=>?_⟩) fun v s1 ⟨x,H1,I1,r1,q1⟩=>((it_list.or Qhv).or Qhg) pins s1 σ H1 x v C I1 r1 q1
 cases w with
 | tup ws=>
  cases e3
  obtain ⟨ad,xs,rfl,h2,h3⟩:=rh1.tupAt rv
  unfold Rw at rv
  obtain ⟨ad',xs',e5,e6,e7⟩:=rv
  cases e5
  exact .inl (.inr ⟨_,rfl,⟨xs,h2⟩,k R1 H1 _ x1 rh1 (Qcj e6 e7)⟩)
 | lst ws=>
  cases e3
  unfold Rw at rv
  obtain ⟨ad',xs',rfl,e6,e7⟩:=rv
  exact .inl (.inl ⟨_,rfl,⟨xs',SqL.of (rh1.sub _ _ e6)⟩,k R1 H1 _ x1 rh1 (Y0 (SqL.of e6) e7)⟩)
 | frz ws=>
  cases e3
  unfold Rw at rv
  obtain ⟨ad',xs',rfl,e6,e7⟩:=rv
  exact .inl (.inl ⟨_,rfl,⟨xs',ZP rh1.sub e6⟩,k R1 H1 _ x1 rh1 (Y0 e6 e7)⟩)
 | str y=>
  cases e3
  rw [rv.str_eq]
  exact .inr ⟨y,rfl,k R1 H1 _ x1 rh1 QcV⟩
 | ref n=>
  simp only [XE] at e3
  split at e3
  ·rename_i ws hn
   cases e3
   obtain ⟨hlt,rfl,xs,h2,h3⟩:=rh1.refAt rv hn
   exact .inl (.inl ⟨_,rfl,⟨xs,SqL.of h2⟩,k R1 H1 _ x1 rh1 (Qcp hlt)⟩)
  ·cases e3
 | _=>cases e3
noncomputable def QR (lo:Int) (n:Nat):List W:=(List.range n).map fun (i:Nat)=>W.int (lo+(i:Int))
noncomputable def Yi (ms:MA):MI:=fun σ h=>(ms σ h).bind fun p=>match p.1 with
 | [.int j]=>if -(2 ^ 62)<=j/\j < 2 ^ 62 then some (QR 0 j.toNat,none,p.2) else none
 | _=>none
noncomputable def QhV (ms:MA):MI:=fun σ h=>(ms σ h).bind fun p=>match p.1 with
 | [.int i,.int j]=>if -(2 ^ 62)<=i/\i < 2 ^ 62/\-(2 ^ 62)<=j/\j < 2 ^ 62 then some (QR i (j - i).toNat,none,p.2) else none
 | _=>none
theorem XF (hg:Gl X "range") (hm:X.mg "range"=none) (ha:PMA X [a] ms) (hs:starEach [a] X.env=[(false,eval a X.env)]:=by rfl):PMI X tg (.Call (.Name "range" p) [a] [] pos) (Yi ms):=
 YT (Qbf hg hm ha hs) fun σ H C ⟨R,σi,h,items,src,h',rh,st,e,k⟩=>by
  obtain ⟨⟨ws,h1⟩,e1,e2⟩:=Option.bind_eq_some_iff.mp e
  refine ⟨R,σi,h,ws,h1,rh,st,e1,fun R1 H1 vs x1 rh1 rv=>?_⟩
  split at e2
  ·rename_i j hj
   simp only at hj
   subst hj
   split at e2
   ·rename_i hb
    cases e2
    rw [Rws.cons_iff] at rv
    obtain ⟨v,vs',rfl,r1,r2⟩:=rv
    rw [Rws.nil_iff] at r2
    subst r2
    rw [r1.int_eq]
    exact ⟨j,rfl,hb.1,hb.2,k R1 H1 _ x1 rh1 KL⟩
   ·cases e2
  ·cases e2
theorem Qhh (hg:Gl X "range") (hm:X.mg "range"=none) (ha:PMA X [a,b] ms) (hs:starEach [a,b] X.env=[(false,eval a X.env),(false,eval b X.env)]:=by rfl) (hs2:starEach [b] X.env=[(false,eval b X.env)]:=by rfl):PMI X tg (.Call (.Name "range" p) [a,b] [] pos) (QhV ms):=
 YT (QbR hg hm ha hs hs2) fun σ H C ⟨R,σi,h,items,src,h',rh,st,e,k⟩=>by
  obtain ⟨⟨ws,h1⟩,e1,e2⟩:=Option.bind_eq_some_iff.mp e
  refine ⟨R,σi,h,ws,h1,rh,st,e1,fun R1 H1 vs x1 rh1 rv=>?_⟩
  split at e2
  ·rename_i i j hj
   simp only at hj
   subst hj
   split at e2
   ·rename_i hb
    cases e2
    rw [Rws.cons_iff] at rv
    obtain ⟨v,vs',rfl,r1,r2⟩:=rv
    rw [Rws.cons_iff] at r2
    obtain ⟨v2,vs2,rfl,r3,r4⟩:=r2
    rw [Rws.nil_iff] at r4
    subst r4
    rw [r1.int_eq,r3.int_eq]
    exact ⟨i,j,rfl,hb,k R1 H1 _ x1 rh1 KL⟩
   ·cases e2
  ·cases e2
end
noncomputable def QcZ (cp:List (Option Nat)) (σ:MSt):MSt:=cp.map fun o=>match o with | none=>none | some j=>match σ[j]? with | some v=>v | none=>none
theorem Rst.cap {K:PySem.W.Frag} {R:Rn} {σi:MSt} {σ:L2.St} (s:Rst K R σi σ) (cp:List (Option Nat)):Rst K R (QcZ cp σi) (Wn cp σ):=by
 unfold QcZ Wn
 refine ⟨by simp,fun i w e=>?_⟩
 rw [List.getElem?_map] at e ⊢
 obtain ⟨o,h1,h2⟩:=Option.map_eq_some_iff.mp e
 rw [h1]
 cases o with
 | none=>cases h2
 | some j=>
  simp only at h2
  split at h2
  ·rename_i u hu
   subst h2
   obtain ⟨v,h3,h4⟩:=s.2 j w hu
   exact ⟨v,by simp [h3],h4⟩
  ·cases h2
open Classical in
noncomputable def ZK (fin:List W->MH->Option (W×MH)) (items:List W) (src:Option Nat) (b:MG) (mt:MT) (me:ME):List W->List W->MSt->MH->Option (W×MH)
 | [],acc,_,h=>if live src items h then fin acc h else none
 | w::r,acc,τ,h=>if live src items h then (b w τ h).bind fun τ1=>(mt τ1 h).bind fun q=>match q.1 with
   | true=>(me τ1 q.2).bind fun v=>if acc.length < sizeLine then ZK fin items src b mt me r (acc++[v.1]) τ1 v.2 else none
   | false=>ZK fin items src b mt me r acc τ1 q.2
  else none
noncomputable def Zw (fin:List W->MH->Option (W×MH)) (mi:MI) (cp:List (Option Nat)) (b:MG) (mt:MT) (me:ME):ME:=fun σ h=>(mi σ h).bind fun p=>ZK fin p.1 p.2.1 b mt me p.1 [] (QcZ cp σ) p.2.2
noncomputable def XR:MT:=fun _ h=>some (true,h)
noncomputable def Vu (acc:List W) (h:MH):Option (W×MH):=some (.lst acc,h)
noncomputable def Qev (acc:List W) (h:MH):Option (W×MH):=some (.ref h.length,h++[.lst acc])
noncomputable def Uo (K:PySem.W.Frag) (fin:List W->MH->Option (W×MH)):Prop:=∀ R h H acc accV w h' D,Rh K R h H->Rws K R acc accV->fin acc h=some (w,h')->H D=none->∃ R',Ext R R'/\Rh K R' h' (upd H D (.lst accV))/\Rw K R' w (.ref D)
theorem JA {K:PySem.W.Frag}:Uo K Vu:=fun R h H acc accV w h' D rh r e hD=>by
 cases e
 exact rh.lstI hD r
theorem QaN {K:PySem.W.Frag}:Uo K Qev:=fun R h H acc accV w h' D rh r e hD=>by
 cases e
 exact rh.new hD fun R' x'=>⟨accV,rfl,Rws.mono x' _ _ r⟩
section
variable {X:Cx} {elt tg iter c:Expr} {scope:Scope} {pos:Pos} {cl:List (Str×Addr)} {Nb:List Str} {cp:List (Option Nat)} {mi:MI} {b:MG} {mt:MT} {me:ME} {fin:List W->MH->Option (W×MH)}
theorem YJ {K:PySem.W.Frag} (hf:Uo K fin) {σ:L2.St} {H:Hp} {Q:VK} (q:tI K (Zw fin mi cp b mt me) σ H Q):Qch (tII K mi) cp (tIG K b) (tIT K mt) (tI K me) σ H Q:=by
 obtain ⟨R,σi,h,w,h',rh,s,e,k⟩:=q
 obtain ⟨⟨items,src,h1⟩,e1,e2⟩:=Option.bind_eq_some_iff.mp e
 refine ⟨R,σi,h,items,src,h1,rh,s,e1,fun R1 H1 J x1 rh1 it=>?_⟩
 refine ⟨fun i n acc τ H=>i+n=items.length/\∃ R2 σ2 h2 accW,Ext R1 R2/\Rh K R2 h2 H/\Rst K R2 σ2 τ/\Rws K R2 accW acc/\ZK fin items src b mt me (items.drop i) accW σ2 h2=some (w,h')/\After K R2 w h' Q,⟨items.length,by simp,R1,QcZ cp σi,h1,[],Ext.refl _,rh1,(s.mono x1).cap cp,Rws.nil,by simpa using e2,k.ext x1⟩,?_⟩
 rintro i n acc τ H2 ⟨hin,R2,σ2,h2,accW,x2,rh2,s2,ra,e3,k2⟩
 by_cases hi:i < items.length
 ·obtain ⟨y,hy⟩:∃ y,items[i]?=some y:=⟨items[i],List.getElem?_eq_getElem hi⟩
  have hd:items.drop i=y::items.drop (i+1):=by
   rw [List.drop_eq_getElem_cons hi]
   rw [List.getElem?_eq_getElem hi] at hy
   cases hy;rfl
  rw [hd] at e3
  unfold ZK at e3
  split at e3
  ·rename_i hl
   obtain ⟨σ3,e4,e5⟩:=Option.bind_eq_some_iff.mp e3
   obtain ⟨⟨t,h3⟩,e6,e7⟩:=Option.bind_eq_some_iff.mp e5
   refine .inr ⟨it.go i y R2 h2 H2 x2 rh2 hl hy,fun x H' hyl=>?_⟩
   obtain ⟨R3,x3,rh3,rw3⟩:=it.yld i y R2 h2 H2 x H' x2 rh2 hl hy hyl
   refine ⟨R3,σ2,h2,y,σ3,rh3,s2.mono x3,rw3,e4,fun R4 H4 τ4 x4 rh4 s4=>?_⟩
   refine ⟨R4,σ3,h2,t,h3,rh4,s4,e6,fun R5 H5 x5 rh5=>?_⟩
   cases t with
   | true=>
    obtain ⟨⟨v,h4⟩,e8,e9⟩:=Option.bind_eq_some_iff.mp e7
    dsimp only at e9
    split at e9
    ·rename_i hz
     refine Qd5 ⟨R5,σ3,h3,v,h4,rh5,s4.mono x5,e8,fun R6 H6 u x6 rh6 rv=>⟨by rw [<- ra.length];exact hz,n - 1,by omega,by omega,R6,σ3,h4,accW++[v],x2.trans (x3.trans (x4.trans (x5.trans x6))),rh6,s4.mono (x5.trans x6),?_,e9,k2.ext (x3.trans (x4.trans (x5.trans x6)))⟩⟩
     exact Rws.append (Rws.mono (x3.trans (x4.trans (x5.trans x6))) _ _ ra) (Rws.cons rv Rws.nil)
    ·cases e9
   | false=>
    exact Qfr ⟨n - 1,by omega,by omega,R5,σ3,h3,accW,x2.trans (x3.trans (x4.trans x5)),rh5,s4.mono x5,Rws.mono (x3.trans (x4.trans x5)) _ _ ra,e7,k2.ext (x3.trans (x4.trans x5))⟩
  ·cases e3
 ·have hd:items.drop i=[]:=List.drop_eq_nil_of_le (by omega)
  rw [hd] at e3
  unfold ZK at e3
  split at e3
  ·rename_i hl
   refine .inl ⟨it.stop i R2 h2 H2 x2 rh2 hl (by omega),fun D hD=>?_⟩
   obtain ⟨R3,x3,rh3,rw3⟩:=hf R2 h2 H2 accW acc w h' D rh2 ra e3 hD
   exact k2 R3 _ _ x3 rh3 rw3
  ·cases e3
theorem VS (hf:Uo X.K fin) (hc:X.calm=true) (B:BlkOk X scope cl Nb cp) (hi:PMI X tg iter mi) (hg:∀ s₀ H₀ C ex pn,PMG (Mi.blk X scope cl Nb s₀ H₀ C ex pn) tg b)
  (he:∀ s₀ H₀ C ex pn,PM (Mi.blk X scope cl Nb s₀ H₀ C ex pn) elt me) (hs:∀ x,foldedSetIterable iter X.env x=pure x:=by intro _;rfl) :
  PM X (.ListComp elt [⟨tg,iter,[],0⟩] scope pos) (Zw fin mi cp b XR me):=
 Q7 (QbV (g:=tIG X.K b) (te:=tI X.K me) (tt:=tIT X.K XR) hc B hi hg (fun s₀ H₀ C ex pn pins s τ H Q I q=>wpAny_tests_nil (by
  obtain ⟨R,σi,h,t,h',rh,st,e,k⟩:=q
  cases e
  exact ⟨H,I,k R H (Ext.refl _) rh⟩)) he hs) fun _ _ _ q=>YJ hf q
theorem Yl (hf:Uo X.K fin) (hc:X.calm=true) (B:BlkOk X scope cl Nb cp) (hi:PMI X tg iter mi) (hg:∀ s₀ H₀ C ex pn,PMG (Mi.blk X scope cl Nb s₀ H₀ C ex pn) tg b)
  (ht:∀ s₀ H₀ C ex pn,PMT (Mi.blk X scope cl Nb s₀ H₀ C ex pn) c mt)
  (he:∀ s₀ H₀ C ex pn,PM (Mi.blk X scope cl Nb s₀ H₀ C ex pn) elt me) (hs:∀ x,foldedSetIterable iter X.env x=pure x:=by intro _;rfl) :
  PM X (.ListComp elt [⟨tg,iter,[c],0⟩] scope pos) (Zw fin mi cp b mt me):=
 Q7 (QbV (g:=tIG X.K b) (te:=tI X.K me) (tt:=tIT X.K mt) hc B hi hg (fun s₀ H₀ C ex pn pins s τ H Q I q=>wpAny_tests_one (ht s₀ H₀ C ex pn pins s τ H Q I q)) he hs) fun _ _ _ q=>YJ hf q
end
end Mi

namespace Mi
open PySem PySem.Spec PyProof.Rows L2 PySem.SeqAt

mutual
noncomputable def eqW:W->W->Bool
 | .non,.non=>true
 | .bl a,.bl b=>a == b
 | .bl a,.int b=>(if a then 1 else 0) == b
 | .int a,.bl b=>a == (if b then 1 else 0)
 | .int a,.int b=>a == b
 | .str a,.str b=>a == b
 | .tup a,.tup b=>Ks a b
 | .lst a,.lst b=>Ks a b
 | _,_=>false
noncomputable def Ks:List W->List W->Bool
 | [],[]=>true
 | x::xs,y::ys=>eqW x y && Ks xs ys
 | _,_=>false
end
noncomputable def ZV {α β:Type} (f:α->Option β):List α->Option (List β)
 | []=>some []
 | x::xs=>(f x).bind fun y=>(ZV f xs).map (y::·)
noncomputable def drf (h:MH):Nat->W->Option W
 | 0,_=>none
 | n+1,w=>match w with
  | .tup ws=>(ZV (drf h n) ws).map .tup
  | .lst ws=>(ZV (drf h n) ws).map .lst
  | .frz ws=>(ZV (drf h n) ws).map .lst
  | .ref k=>match h[k]? with | some (.lst ws)=>(ZV (drf h n) ws).map .lst | _=>none
  | .ty _=>none
  | .non=>some .non
  | .bl b=>some (.bl b)
  | .int i=>some (.int i)
  | .str x=>some (.str x)
theorem QN {α β:Type} {f:α->Option β}:∀ {xs:List α} {ys:List β},ZV f xs=some ys->xs.length=ys.length/\∀ (i:Nat) x,xs[i]?=some x->∃ y,ys[i]?=some y/\f x=some y
 | [],ys,e=>by cases e;exact ⟨rfl,fun i x h=>by simp at h⟩
 | x::xs,ys,e=>by
  obtain ⟨y,h1,h2⟩:=Option.bind_eq_some_iff.mp e
  obtain ⟨zs,h3,h4⟩:=Option.map_eq_some_iff.mp h2
  subst h4
  obtain ⟨l,q⟩:=QN h3
  refine ⟨by simp [l],fun i z hz=>?_⟩
  cases i with
  | zero=>simp at hz;subst hz;exact ⟨y,by simp,h1⟩
  | succ i=>simp at hz;obtain ⟨u,h5,h6⟩:=q i z hz;exact ⟨u,by simp [h5],h6⟩
theorem Xa:∀ {a b:List W},a.length≠b.length->Ks a b=false
 | [],[],h=>absurd rfl h
 | [],_::_,_=>by unfold Ks;rfl
 | _::_,[],_=>by unfold Ks;rfl
 | x::xs,y::ys,h=>by
  unfold Ks
  rw [Xa (a:=xs) (b:=ys) (fun z=>h (by simp [z])),Bool.and_false]
theorem Xh:∀ {a b:List W},a.length=b.length->Ks a b=(List.range a.length).all fun j=>match a[j]?,b[j]? with | some x,some y=>eqW x y | _,_=>false
 | [],[],_=>by unfold Ks;rfl
 | x::xs,y::ys,h=>by
  have ih:=Xh (a:=xs) (b:=ys) (by simpa using h)
  unfold Ks
  rw [ih,List.length_cons,List.range_succ_eq_map,List.all_cons,List.all_map]
  simp [Function.comp_def]
inductive Kd (K:PySem.W.Frag) (R:Rn) (h:MH) (H:Hp) (n:Nat) (v:V):W->Prop where
 | flat {a:W} (f:QeO v=true) (e:(v=.non/\a=.non)\/(∃ b,v=.bl b/\a=.bl b)\/(∃ i,v=.int i/\a=.int i)\/∃ x,v=.str x/\a=.str x):Kd K R h H n v a
 | lst {ad:Addr} {xs:List V} {ws as:List W} (e:v=.ref ad) (q:SqL K H ad xs) (r:Rws K R ws xs) (m:ZV (drf h n) ws=some as):Kd K R h H n v (.lst as)
 | tup {ad:Addr} {xs:List V} {ws as:List W} (e:v=.ref ad) (q:SqT K H ad xs) (r:Rws K R ws xs) (m:ZV (drf h n) ws=some as):Kd K R h H n v (.tup as)
theorem VT {K:PySem.W.Frag} {R:Rn} {h:MH} {H:Hp} {n:Nat} {w a:W} {v:V} (rh:Rh K R h H) (r:Rw K R w v) (e:drf h (n+1) w=some a):Kd K R h H n v a:=by
 cases w with
 | non=>rw [r.non_eq];cases e;exact .flat rfl (.inl ⟨rfl,rfl⟩)
 | bl b=>rw [r.bl_eq];cases e;exact .flat rfl (.inr (.inl ⟨b,rfl,rfl⟩))
 | int i=>rw [r.int_eq];cases e;exact .flat rfl (.inr (.inr (.inl ⟨i,rfl,rfl⟩)))
 | str x=>rw [r.str_eq];cases e;exact .flat rfl (.inr (.inr (.inr ⟨x,rfl,rfl⟩)))
 | tup ws=>
  obtain ⟨ad,xs,e1,q,r1⟩:=rh.tupAt r
  obtain ⟨as,m,e2⟩:=Option.map_eq_some_iff.mp e
  subst e2
  exact .tup e1 q r1 m
 | lst ws=>
  obtain ⟨ad,xs,e1,q,r1⟩:=rh.lstAt r
  obtain ⟨as,m,e2⟩:=Option.map_eq_some_iff.mp e
  subst e2
  exact .lst e1 (SqL.of q) r1 m
 | frz ws=>
  obtain ⟨ad,xs,e1,q,r1⟩:=rh.frzAt r
  obtain ⟨as,m,e2⟩:=Option.map_eq_some_iff.mp e
  subst e2
  exact .lst e1 q r1 m
 | ref k=>
  simp only [drf] at e
  split at e
  ·rename_i ws hk
   obtain ⟨as,m,e2⟩:=Option.map_eq_some_iff.mp e
   subst e2
   obtain ⟨_,e1,xs,q,r1⟩:=rh.refAt r hk
   exact .lst e1 (SqL.of q) r1 m
  ·cases e
 | ty _=>cases e
section
variable {X:Cx} {pins:List (Addr×Obj)} {σ:L2.St} {H:Hp} {s:Shared} {R:Rn} {h:MH}
theorem Kk {K:PySem.W.Frag} {n:Nat} (ih:∀ w1 w2 v a b,Rw K R w1 v->Rw K R w2 v->drf h n w1=some a->drf h n w2=some b->a=b) :
  ∀ {ws1 ws2:List W} {xs:List V} {a b:List W},Rws K R ws1 xs->Rws K R ws2 xs->ZV (drf h n) ws1=some a->ZV (drf h n) ws2=some b->a=b
 | [],ws2,xs,a,b,r1,r2,m1,m2=>by
  rw [Rws.nil_iff] at r1;subst r1
  cases ws2 with
  | nil=>cases m1;cases m2;rfl
  | cons w ws=>rw [Rws.cons_iff] at r2;obtain ⟨_,_,z,_⟩:=r2;cases z
 | w::ws1,ws2,xs,a,b,r1,r2,m1,m2=>by
  rw [Rws.cons_iff] at r1
  obtain ⟨v,xs',rfl,p1,p2⟩:=r1
  cases ws2 with
  | nil=>rw [Rws.nil_iff] at r2;cases r2
  | cons w' ws2=>
   rw [Rws.cons_iff] at r2
   obtain ⟨_,_,z,q1,q2⟩:=r2
   cases z
   obtain ⟨y,h1,h2⟩:=Option.bind_eq_some_iff.mp m1
   obtain ⟨zs,h3,h4⟩:=Option.map_eq_some_iff.mp h2
   obtain ⟨y',h1',h2'⟩:=Option.bind_eq_some_iff.mp m2
   obtain ⟨zs',h3',h4'⟩:=Option.map_eq_some_iff.mp h2'
   subst h4 h4'
   rw [ih w w' v y y' p1 q1 h1 h1',Kk ih p2 q2 h3 h3']
theorem XD (I:Inv X pins σ H s) {a:Addr} {xs ys:List V} (q:SqL X.K H a xs) (q':SqT X.K H a ys):False:=by
 obtain ⟨its,_,p,_⟩:=I.list q
 obtain ⟨its',_,p',_⟩:=I.tuple q'
 obtain ⟨o,n,h1,h2,_⟩:=p
 obtain ⟨o',h1',h2',_⟩:=p'
 rw [h1] at h1';cases h1'
 rw [h2] at h2'
 exact absurd h2' (by simp)
theorem XM (I:Inv X pins σ H s) (rh:Rh X.K R h H):∀ (n:Nat) (w1 w2:W) (v:V) (a b:W),Rw X.K R w1 v->Rw X.K R w2 v->drf h n w1=some a->drf h n w2=some b->a=b
 | 0,_,_,_,_,_,_,_,e,_=>by cases e
 | n+1,w1,w2,v,a,b,r1,r2,e1,e2=>by
  have ih:=XM I rh n
  cases VT rh r1 e1 with
  | flat f z=>
   cases VT rh r2 e2 with
   | flat f' z'=>
    rcases z with ⟨rfl,rfl⟩ | ⟨_,rfl,rfl⟩ | ⟨_,rfl,rfl⟩ | ⟨_,rfl,rfl⟩<;>rcases z' with ⟨z1,rfl⟩ | ⟨_,z1,rfl⟩ | ⟨_,z1,rfl⟩ | ⟨_,z1,rfl⟩<;>cases z1<;>rfl
   | lst e=>subst e;cases f
   | tup e=>subst e;cases f
  | lst e q r m=>
   subst e
   cases VT rh r2 e2 with
   | flat f=>cases f
   | lst e' q' r' m'=>cases e';have:=I.list_inj q q';subst this;rw [Kk ih r r' m m']
   | tup e' q'=>cases e';exact (XD I q q').elim
  | tup e q r m=>
   subst e
   cases VT rh r2 e2 with
   | flat f=>cases f
   | lst e' q'=>cases e';exact (XD I q' q).elim
   | tup e' q' r' m'=>cases e';have:=I.tuple_inj q q';subst this;rw [Kk ih r r' m m']
mutual
theorem K6:∀ (n:Nat) (w a:W),drf h n w=some a->eqW a a=true
 | 0,_,_,e=>by cases e
 | n+1,w,a,e=>by
  cases w with
  | non=>cases e;unfold eqW;rfl
  | bl b=>cases e;unfold eqW;simp
  | int i=>cases e;unfold eqW;simp
  | str x=>cases e;unfold eqW;simp
  | tup ws=>obtain ⟨as,m,e2⟩:=Option.map_eq_some_iff.mp e;subst e2;unfold eqW;exact Vy n ws as m
  | lst ws=>obtain ⟨as,m,e2⟩:=Option.map_eq_some_iff.mp e;subst e2;unfold eqW;exact Vy n ws as m
  | frz ws=>obtain ⟨as,m,e2⟩:=Option.map_eq_some_iff.mp e;subst e2;unfold eqW;exact Vy n ws as m
  | ref k=>
   simp only [drf] at e
   split at e
   ·rename_i ws hk
    obtain ⟨as,m,e2⟩:=Option.map_eq_some_iff.mp e;subst e2;unfold eqW;exact Vy n ws as m
   ·cases e
  | ty _=>cases e
theorem Vy:∀ (n:Nat) (ws as:List W),ZV (drf h n) ws=some as->Ks as as=true
 | n,[],_,m=>by cases m;unfold Ks;rfl
 | n,w::ws,_,m=>by
  obtain ⟨y,h1,h2⟩:=Option.bind_eq_some_iff.mp m
  obtain ⟨zs,h3,h4⟩:=Option.map_eq_some_iff.mp h2
  subst h4
  unfold Ks
  rw [K6 n w y h1,Vy n ws zs h3];rfl
end
theorem VN {n:Nat} {A:Around} (ih:∀ w1 w2 v1 v2 u1 u2 a b,Rw X.K R w1 v1->Rw X.K R w2 v2->RelV v1 u1->RelV v2 u2->drf h n w1=some a->drf h n w2=some b->EqAt A s u1 u2 (eqW a b))
  {ws1 ws2 as bs:List W} {xs ys:List V} {its its2:List Value} (r1:Rws X.K R ws1 xs) (r2:Rws X.K R ws2 ys) (v1:Vals xs its) (v2:Vals ys its2) (m1:ZV (drf h n) ws1=some as) (m2:ZV (drf h n) ws2=some bs)
  (j:Nat) (h1:j < its.toArray.size) (h2:j < its2.toArray.size):EqAt A s its.toArray[j] its2.toArray[j] (match as[j]?,bs[j]? with | some x,some y=>eqW x y | _,_=>false):=by
 have l1:=r1.length;have l2:=v1.length;have l3:=r2.length;have l4:=v2.length
 rw [List.size_toArray] at h1 h2
 obtain ⟨w1,hw1⟩:∃ w,ws1[j]?=some w:=⟨ws1[j]'(by omega),List.getElem?_eq_getElem _⟩
 obtain ⟨w2,hw2⟩:∃ w,ws2[j]?=some w:=⟨ws2[j]'(by omega),List.getElem?_eq_getElem _⟩
 obtain ⟨x,hx,rx⟩:=r1.get hw1
 obtain ⟨y,hy,ry⟩:=r2.get hw2
 obtain ⟨u,hu,ru⟩:=v1.get hx
 obtain ⟨t,ht,rt⟩:=v2.get hy
 obtain ⟨a,ha,ea⟩:=(QN m1).2 j w1 hw1
 obtain ⟨b,hb,eb⟩:=(QN m2).2 j w2 hw2
 rw [ha,hb]
 have e1:its.toArray[j]=u:=by
  have:=hu;rw [List.getElem?_eq_getElem h1] at this;simpa using this
 have e2:its2.toArray[j]=t:=by
  have:=ht;rw [List.getElem?_eq_getElem h2] at this;simpa using this
 rw [e1,e2]
 exact ih w1 w2 x y u t a b rx ry ru rt ea eb
theorem UY (I:Inv X pins σ H s) {n:Nat} {A:Around} (hu:A.units < cLine) (ih:∀ w1 w2 v1 v2 u1 u2 a b,Rw X.K R w1 v1->Rw X.K R w2 v2->RelV v1 u1->RelV v2 u2->drf h n w1=some a->drf h n w2=some b->EqAt A.in1 s u1 u2 (eqW a b))
  {ad bd:Addr} {ws1 ws2 as bs:List W} {xs ys:List V} (q1:SqL X.K H ad xs) (q2:SqL X.K H bd ys) (r1:Rws X.K R ws1 xs) (r2:Rws X.K R ws2 ys) (m1:ZV (drf h n) ws1=some as) (m2:ZV (drf h n) ws2=some bs):RcAt A s (.ref ad) (.ref bd) (Ks as bs):=by
 obtain ⟨its,v1,p1,_⟩:=I.list q1
 obtain ⟨its2,v2,p2,_⟩:=I.list q2
 have l1:=r1.length;have l2:=v1.length;have l3:=r2.length;have l4:=v2.length
 have l5:=(QN m1).1;have l6:=(QN m2).1
 by_cases hl:as.length=bs.length
 ·rw [Xh hl]
  have:=RcAt.lists (A:=A) p1.isList p2.isList (by rw [List.size_toArray,List.size_toArray];omega) hu (fun j h1 h2=>VN ih r1 r2 v1 v2 m1 m2 j h1 h2)
  rw [List.size_toArray] at this
  rw [show as.length=its.length by omega]
  exact this
 ·rw [Xa hl]
  exact RcAt.lists_lengths p1.isList p2.isList (by rw [List.size_toArray,List.size_toArray];simp;omega) hu
theorem G8 (I:Inv X pins σ H s) {n:Nat} {A:Around} (hu:A.units < cLine) (ih:∀ w1 w2 v1 v2 u1 u2 a b,Rw X.K R w1 v1->Rw X.K R w2 v2->RelV v1 u1->RelV v2 u2->drf h n w1=some a->drf h n w2=some b->EqAt A.in1 s u1 u2 (eqW a b))
  {ad bd:Addr} {ws1 ws2 as bs:List W} {xs ys:List V} (q1:SqT X.K H ad xs) (q2:SqT X.K H bd ys) (r1:Rws X.K R ws1 xs) (r2:Rws X.K R ws2 ys) (m1:ZV (drf h n) ws1=some as) (m2:ZV (drf h n) ws2=some bs):RcAt A s (.ref ad) (.ref bd) (Ks as bs):=by
 obtain ⟨its,v1,p1,_⟩:=I.tuple q1
 obtain ⟨its2,v2,p2,_⟩:=I.tuple q2
 have l1:=r1.length;have l2:=v1.length;have l3:=r2.length;have l4:=v2.length
 have l5:=(QN m1).1;have l6:=(QN m2).1
 have:=RcAt.tuples (A:=A) (show s.heap.IsTuple ad its.toArray from p1) (show s.heap.IsTuple bd its2.toArray from p2) hu (fun j h1 h2=>VN ih r1 r2 v1 v2 m1 m2 j h1 h2)
 rw [List.size_toArray,List.size_toArray] at this
 by_cases hl:as.length=bs.length
 ·rw [Xh hl]
  rw [show min its.length its2.length=as.length by omega,show (its.length == its2.length)=true by simp;omega,Bool.and_true] at this
  exact this
 ·rw [Xa hl]
  rw [show (its.length == its2.length)=false by simp;omega,Bool.and_false] at this
  exact this
theorem UW (I:Inv X pins σ H s) (rh:Rh X.K R h H):∀ (n:Nat) (A:Around),A.units+n < cLine->∀ (w1 w2:W) (v1 v2:V) (u1 u2:Value) (a b:W),Rw X.K R w1 v1->Rw X.K R w2 v2->RelV v1 u1->RelV v2 u2->drf h n w1=some a->drf h n w2=some b->EqAt A s u1 u2 (eqW a b)
 | 0,_,_,_,_,_,_,_,_,_,_,_,_,_,_,e,_=>by cases e
 | n+1,A,hu,w1,w2,v1,v2,u1,u2,a,b,r1,r2,t1,t2,e1,e2=>by
  have hu0:A.units < cLine:=by omega
  have ih:=UW I rh n A.in1 (by show A.units+1+n < cLine;omega)
  have isl:∀ {ad:Addr} {xs:List V},SqL X.K H ad xs->∃ its:Array Value,s.heap.IsList ad its:=fun q=>by
   obtain ⟨its,_,p,_⟩:=I.list q;exact ⟨_,p.isList⟩
  have ist:∀ {ad:Addr} {xs:List V},SqT X.K H ad xs->∃ its:Array Value,s.heap.IsTuple ad its:=fun q=>by
   obtain ⟨its,_,p,_⟩:=I.tuple q;exact ⟨_,p⟩
  cases VT rh r1 e1 with
  | flat f z=>
   cases VT rh r2 e2 with
   | flat f' z'=>
    have:=Qgq (A:=A) (s:=s) t1 t2 f f'
    rcases z with ⟨rfl,rfl⟩ | ⟨_,rfl,rfl⟩ | ⟨_,rfl,rfl⟩ | ⟨_,rfl,rfl⟩<;>rcases z' with ⟨rfl,rfl⟩ | ⟨_,rfl,rfl⟩ | ⟨_,rfl,rfl⟩ | ⟨_,rfl,rfl⟩<;>(unfold eqW;exact this)
   | lst e q=>
    subst e
    cases t2
    obtain ⟨its,p⟩:=isl q
    rcases z with ⟨rfl,rfl⟩ | ⟨_,rfl,rfl⟩ | ⟨_,rfl,rfl⟩ | ⟨_,rfl,rfl⟩
    ·cases t1;unfold eqW;exact EqAt.none_list p hu0
    ·cases t1;unfold eqW;exact EqAt.bool_list _ p hu0
    ·obtain ⟨t,rfl⟩:=t1;unfold eqW;exact EqAt.int_list _ t p hu0
    ·obtain ⟨t,rfl⟩:=t1;unfold eqW;exact EqAt.str_list _ t p hu0
   | tup e q=>
    subst e
    cases t2
    obtain ⟨its,p⟩:=ist q
    rcases z with ⟨rfl,rfl⟩ | ⟨_,rfl,rfl⟩ | ⟨_,rfl,rfl⟩ | ⟨_,rfl,rfl⟩
    ·cases t1;unfold eqW;exact EqAt.none_tuple p hu0
    ·cases t1;unfold eqW;exact EqAt.bool_tuple _ p hu0
    ·obtain ⟨t,rfl⟩:=t1;unfold eqW;exact EqAt.int_tuple _ t p hu0
    ·obtain ⟨t,rfl⟩:=t1;unfold eqW;exact EqAt.str_tuple _ t p hu0
  | @lst ad1 _ _ _ e q r m=>
   subst e
   cases t1
   obtain ⟨its,p⟩:=isl q
   have k2:=VT rh r2 e2
   cases k2 with
   | flat f' z'=>
    rcases z' with ⟨rfl,rfl⟩ | ⟨_,rfl,rfl⟩ | ⟨_,rfl,rfl⟩ | ⟨_,rfl,rfl⟩
    ·cases t2;unfold eqW;exact EqAt.list_none p hu0
    ·cases t2;unfold eqW;exact EqAt.list_bool _ p hu0
    ·obtain ⟨t,rfl⟩:=t2;unfold eqW;exact EqAt.list_int _ t p hu0
    ·obtain ⟨t,rfl⟩:=t2;unfold eqW;exact EqAt.list_str _ t p hu0
   | @lst ad2 _ _ _ e' q' r' m'=>
    subst e'
    cases t2
    by_cases hab:ad1=ad2
    ·subst hab
     have:=XM I rh (n+1) w1 w2 _ _ _ r1 r2 e1 e2
     rw [this,K6 (n+1) w2 _ e2]
     exact EqAt.same _
    ·unfold eqW
     exact EqAt.of_refs hab (UY I hu0 ih q q' r r' m m')
   | tup e' q'=>
    subst e'
    cases t2
    obtain ⟨its',p'⟩:=ist q'
    unfold eqW;exact EqAt.list_tuple p p' hu0
  | @tup ad1 _ _ _ e q r m=>
   subst e
   cases t1
   obtain ⟨its,p⟩:=ist q
   have k2:=VT rh r2 e2
   cases k2 with
   | flat f' z'=>
    rcases z' with ⟨rfl,rfl⟩ | ⟨_,rfl,rfl⟩ | ⟨_,rfl,rfl⟩ | ⟨_,rfl,rfl⟩
    ·cases t2;unfold eqW;exact EqAt.tuple_none p hu0
    ·cases t2;unfold eqW;exact EqAt.tuple_bool _ p hu0
    ·obtain ⟨t,rfl⟩:=t2;unfold eqW;exact EqAt.tuple_int _ t p hu0
    ·obtain ⟨t,rfl⟩:=t2;unfold eqW;exact EqAt.tuple_str _ t p hu0
   | lst e' q'=>
    subst e'
    cases t2
    obtain ⟨its',p'⟩:=isl q'
    unfold eqW;exact EqAt.tuple_list p p' hu0
   | @tup ad2 _ _ _ e' q' r' m'=>
    subst e'
    cases t2
    by_cases hab:ad1=ad2
    ·subst hab
     have:=XM I rh (n+1) w1 w2 _ _ _ r1 r2 e1 e2
     rw [this,K6 (n+1) w2 _ e2]
     exact EqAt.same _
    ·unfold eqW
     exact EqAt.of_refs hab (G8 I hu0 ih q q' r r' m m')
end
end Mi

namespace Mi
open PySem PySem.Spec PyProof.Rows L2 PySem.SeqAt
section
variable {X:Cx} {pins:List (Addr×Obj)} {σ:L2.St} {H:Hp} {s:Shared} {R:Rn} {h:MH}
theorem GN (I:Inv X pins σ H s) {n:Nat} {A:Around} (hu:A.units < cLine) (ih:∀ w1 w2 v1 v2 u1 u2 a b,Rw X.K R w1 v1->Rw X.K R w2 v2->RelV v1 u1->RelV v2 u2->drf h n w1=some a->drf h n w2=some b->EqAt A.in1 s u1 u2 (eqW a b))
  {ad bd:Addr} {ws1 ws2 as bs:List W} {xs ys:List V} (q1:SqL X.K H ad xs) (q2:SqL X.K H bd ys) (r1:Rws X.K R ws1 xs) (r2:Rws X.K R ws2 ys) (m1:ZV (drf h n) ws1=some as) (m2:ZV (drf h n) ws2=some bs):RcNeAt A s (.ref ad) (.ref bd) (!Ks as bs):=by
 obtain ⟨its,v1,p1,_⟩:=I.list q1
 obtain ⟨its2,v2,p2,_⟩:=I.list q2
 have l1:=r1.length;have l2:=v1.length;have l3:=r2.length;have l4:=v2.length
 have l5:=(QN m1).1;have l6:=(QN m2).1
 by_cases hl:as.length=bs.length
 ·rw [Xh hl]
  have:=RcNeAt.lists (A:=A) p1.isList p2.isList (by rw [List.size_toArray,List.size_toArray];omega) hu (fun j h1 h2=>VN ih r1 r2 v1 v2 m1 m2 j h1 h2)
  rw [List.size_toArray] at this
  rw [show as.length=its.length by omega]
  exact this
 ·rw [Xa hl]
  exact RcNeAt.lists_lengths p1.isList p2.isList (by rw [List.size_toArray,List.size_toArray];simp;omega) hu
theorem G7 (I:Inv X pins σ H s) {n:Nat} {A:Around} (hu:A.units < cLine) (ih:∀ w1 w2 v1 v2 u1 u2 a b,Rw X.K R w1 v1->Rw X.K R w2 v2->RelV v1 u1->RelV v2 u2->drf h n w1=some a->drf h n w2=some b->EqAt A.in1 s u1 u2 (eqW a b))
  {ad bd:Addr} {ws1 ws2 as bs:List W} {xs ys:List V} (q1:SqT X.K H ad xs) (q2:SqT X.K H bd ys) (r1:Rws X.K R ws1 xs) (r2:Rws X.K R ws2 ys) (m1:ZV (drf h n) ws1=some as) (m2:ZV (drf h n) ws2=some bs):RcNeAt A s (.ref ad) (.ref bd) (!Ks as bs):=by
 obtain ⟨its,v1,p1,_⟩:=I.tuple q1
 obtain ⟨its2,v2,p2,_⟩:=I.tuple q2
 have l1:=r1.length;have l2:=v1.length;have l3:=r2.length;have l4:=v2.length
 have l5:=(QN m1).1;have l6:=(QN m2).1
 have:=RcNeAt.tuples (A:=A) (show s.heap.IsTuple ad its.toArray from p1) (show s.heap.IsTuple bd its2.toArray from p2) hu (fun j h1 h2=>VN ih r1 r2 v1 v2 m1 m2 j h1 h2)
 rw [List.size_toArray,List.size_toArray] at this
 by_cases hl:as.length=bs.length
 ·rw [Xh hl]
  rw [show min its.length its2.length=as.length by omega,show (its.length == its2.length)=true by simp;omega,Bool.and_true] at this
  exact this
 ·rw [Xa hl]
  rw [show (its.length == its2.length)=false by simp;omega,Bool.and_false] at this
  exact this
theorem Qhw (I:Inv X pins σ H s) (rh:Rh X.K R h H) (n:Nat) (A:Around) (hu:A.units+n < cLine) (w1 w2:W) (v1 v2:V) (u1 u2:Value) (a b:W) (r1:Rw X.K R w1 v1) (r2:Rw X.K R w2 v2) (t1:RelV v1 u1) (t2:RelV v2 u2) (e1:drf h n w1=some a) (e2:drf h n w2=some b):RcAt A s u1 u2 (eqW a b):=by
 cases n with
 | zero=>cases e1
 | succ n=>
  have hu0:A.units < cLine:=by omega
  have ih:=UW I rh n A.in1 (by show A.units+1+n < cLine;omega)
  have isl:∀ {ad:Addr} {xs:List V},SqL X.K H ad xs->∃ its:Array Value,s.heap.IsList ad its:=fun q=>by
   obtain ⟨its,_,p,_⟩:=I.list q;exact ⟨_,p.isList⟩
  have ist:∀ {ad:Addr} {xs:List V},SqT X.K H ad xs->∃ its:Array Value,s.heap.IsTuple ad its:=fun q=>by
   obtain ⟨its,_,p,_⟩:=I.tuple q;exact ⟨_,p⟩
  cases VT rh r1 e1 with
  | flat f z=>
   cases VT rh r2 e2 with
   | flat f' z'=>
    rcases z with ⟨rfl,rfl⟩ | ⟨_,rfl,rfl⟩ | ⟨_,rfl,rfl⟩ | ⟨_,rfl,rfl⟩<;>rcases z' with ⟨rfl,rfl⟩ | ⟨_,rfl,rfl⟩ | ⟨_,rfl,rfl⟩ | ⟨_,rfl,rfl⟩<;>first | (obtain ⟨t1',rfl⟩:=t1) | cases t1
    ·first | (obtain ⟨t2',rfl⟩:=t2) | cases t2
     unfold eqW;exact RcAt.none_none
    ·first | (obtain ⟨t2',rfl⟩:=t2) | cases t2
     unfold eqW;exact RcAt.none_bool _
    ·first | (obtain ⟨t2',rfl⟩:=t2) | cases t2
     unfold eqW;exact RcAt.none_int _ _
    ·first | (obtain ⟨t2',rfl⟩:=t2) | cases t2
     unfold eqW;exact RcAt.none_str _ _
    ·first | (obtain ⟨t2',rfl⟩:=t2) | cases t2
     unfold eqW;exact RcAt.bool_none _
    ·first | (obtain ⟨t2',rfl⟩:=t2) | cases t2
     unfold eqW;exact RcAt.bool_bool _ _
    ·first | (obtain ⟨t2',rfl⟩:=t2) | cases t2
     unfold eqW;exact RcAt.bool_int _ _ _
    ·first | (obtain ⟨t2',rfl⟩:=t2) | cases t2
     unfold eqW;exact RcAt.bool_str _ _ _
    ·first | (obtain ⟨t2',rfl⟩:=t2) | cases t2
     unfold eqW;exact RcAt.int_none _ _
    ·first | (obtain ⟨t2',rfl⟩:=t2) | cases t2
     unfold eqW;exact RcAt.int_bool _ _ _
    ·first | (obtain ⟨t2',rfl⟩:=t2) | cases t2
     unfold eqW;exact RcAt.int_int _ _ _ _
    ·first | (obtain ⟨t2',rfl⟩:=t2) | cases t2
     unfold eqW;exact RcAt.int_str _ _ _ _
    ·first | (obtain ⟨t2',rfl⟩:=t2) | cases t2
     unfold eqW;exact RcAt.str_none _ _
    ·first | (obtain ⟨t2',rfl⟩:=t2) | cases t2
     unfold eqW;exact RcAt.str_bool _ _ _
    ·first | (obtain ⟨t2',rfl⟩:=t2) | cases t2
     unfold eqW;exact RcAt.str_int _ _ _ _
    ·first | (obtain ⟨t2',rfl⟩:=t2) | cases t2
     unfold eqW;exact RcAt.str_str _ _ _ _
   | lst e q=>
    subst e
    cases t2
    obtain ⟨its,p⟩:=isl q
    rcases z with ⟨rfl,rfl⟩ | ⟨_,rfl,rfl⟩ | ⟨_,rfl,rfl⟩ | ⟨_,rfl,rfl⟩
    ·cases t1;unfold eqW;exact RcAt.none_list p hu0
    ·cases t1;unfold eqW;exact RcAt.bool_list _ p hu0
    ·obtain ⟨t,rfl⟩:=t1;unfold eqW;exact RcAt.int_list _ t p hu0
    ·obtain ⟨t,rfl⟩:=t1;unfold eqW;exact RcAt.str_list _ t p hu0
   | tup e q=>
    subst e
    cases t2
    obtain ⟨its,p⟩:=ist q
    rcases z with ⟨rfl,rfl⟩ | ⟨_,rfl,rfl⟩ | ⟨_,rfl,rfl⟩ | ⟨_,rfl,rfl⟩
    ·cases t1;unfold eqW;exact RcAt.none_tuple p hu0
    ·cases t1;unfold eqW;exact RcAt.bool_tuple _ p hu0
    ·obtain ⟨t,rfl⟩:=t1;unfold eqW;exact RcAt.int_tuple _ t p hu0
    ·obtain ⟨t,rfl⟩:=t1;unfold eqW;exact RcAt.str_tuple _ t p hu0
  | @lst ad1 _ _ _ e q r m=>
   subst e
   cases t1
   obtain ⟨its,p⟩:=isl q
   have k2:=VT rh r2 e2
   cases k2 with
   | flat f' z'=>
    rcases z' with ⟨rfl,rfl⟩ | ⟨_,rfl,rfl⟩ | ⟨_,rfl,rfl⟩ | ⟨_,rfl,rfl⟩
    ·cases t2;unfold eqW;exact RcAt.list_none p hu0
    ·cases t2;unfold eqW;exact RcAt.list_bool _ p hu0
    ·obtain ⟨t,rfl⟩:=t2;unfold eqW;exact RcAt.list_int _ t p hu0
    ·obtain ⟨t,rfl⟩:=t2;unfold eqW;exact RcAt.list_str _ t p hu0
   | tup e' q'=>
    subst e'
    cases t2
    obtain ⟨its',p'⟩:=ist q'
    unfold eqW;exact RcAt.list_tuple p p' hu0
   | lst e' q' r' m'=>
    subst e'
    cases t2
    unfold eqW
    exact UY I hu0 ih q q' r r' m m'
  | @tup ad1 _ _ _ e q r m=>
   subst e
   cases t1
   obtain ⟨its,p⟩:=ist q
   have k2:=VT rh r2 e2
   cases k2 with
   | flat f' z'=>
    rcases z' with ⟨rfl,rfl⟩ | ⟨_,rfl,rfl⟩ | ⟨_,rfl,rfl⟩ | ⟨_,rfl,rfl⟩
    ·cases t2;unfold eqW;exact RcAt.tuple_none p hu0
    ·cases t2;unfold eqW;exact RcAt.tuple_bool _ p hu0
    ·obtain ⟨t,rfl⟩:=t2;unfold eqW;exact RcAt.tuple_int _ t p hu0
    ·obtain ⟨t,rfl⟩:=t2;unfold eqW;exact RcAt.tuple_str _ t p hu0
   | lst e' q'=>
    subst e'
    cases t2
    obtain ⟨its',p'⟩:=isl q'
    unfold eqW;exact RcAt.tuple_list p p' hu0
   | tup e' q' r' m'=>
    subst e'
    cases t2
    unfold eqW
    exact G8 I hu0 ih q q' r r' m m'
theorem Qcb (I:Inv X pins σ H s) (rh:Rh X.K R h H) (n:Nat) (A:Around) (hu:A.units+n < cLine) (w1 w2:W) (v1 v2:V) (u1 u2:Value) (a b:W) (r1:Rw X.K R w1 v1) (r2:Rw X.K R w2 v2) (t1:RelV v1 u1) (t2:RelV v2 u2) (e1:drf h n w1=some a) (e2:drf h n w2=some b):RcNeAt A s u1 u2 (!eqW a b):=by
 cases n with
 | zero=>cases e1
 | succ n=>
  have hu0:A.units < cLine:=by omega
  have ih:=UW I rh n A.in1 (by show A.units+1+n < cLine;omega)
  have isl:∀ {ad:Addr} {xs:List V},SqL X.K H ad xs->∃ its:Array Value,s.heap.IsList ad its:=fun q=>by
   obtain ⟨its,_,p,_⟩:=I.list q;exact ⟨_,p.isList⟩
  have ist:∀ {ad:Addr} {xs:List V},SqT X.K H ad xs->∃ its:Array Value,s.heap.IsTuple ad its:=fun q=>by
   obtain ⟨its,_,p,_⟩:=I.tuple q;exact ⟨_,p⟩
  cases VT rh r1 e1 with
  | flat f z=>
   cases VT rh r2 e2 with
   | flat f' z'=>
    rcases z with ⟨rfl,rfl⟩ | ⟨_,rfl,rfl⟩ | ⟨_,rfl,rfl⟩ | ⟨_,rfl,rfl⟩<;>rcases z' with ⟨rfl,rfl⟩ | ⟨_,rfl,rfl⟩ | ⟨_,rfl,rfl⟩ | ⟨_,rfl,rfl⟩<;>first | (obtain ⟨t1',rfl⟩:=t1) | cases t1
    ·first | (obtain ⟨t2',rfl⟩:=t2) | cases t2
     unfold eqW;exact RcNeAt.none_none
    ·first | (obtain ⟨t2',rfl⟩:=t2) | cases t2
     unfold eqW;exact RcNeAt.none_bool _
    ·first | (obtain ⟨t2',rfl⟩:=t2) | cases t2
     unfold eqW;exact RcNeAt.none_int _ _
    ·first | (obtain ⟨t2',rfl⟩:=t2) | cases t2
     unfold eqW;exact RcNeAt.none_str _ _
    ·first | (obtain ⟨t2',rfl⟩:=t2) | cases t2
     unfold eqW;exact RcNeAt.bool_none _
    ·first | (obtain ⟨t2',rfl⟩:=t2) | cases t2
     unfold eqW;exact RcNeAt.bool_bool _ _
    ·first | (obtain ⟨t2',rfl⟩:=t2) | cases t2
     unfold eqW;exact RcNeAt.bool_int _ _ _
    ·first | (obtain ⟨t2',rfl⟩:=t2) | cases t2
     unfold eqW;exact RcNeAt.bool_str _ _ _
    ·first | (obtain ⟨t2',rfl⟩:=t2) | cases t2
     unfold eqW;exact RcNeAt.int_none _ _
    ·first | (obtain ⟨t2',rfl⟩:=t2) | cases t2
     unfold eqW;exact RcNeAt.int_bool _ _ _
    ·first | (obtain ⟨t2',rfl⟩:=t2) | cases t2
     unfold eqW;exact RcNeAt.int_int _ _ _ _
    ·first | (obtain ⟨t2',rfl⟩:=t2) | cases t2
     unfold eqW;exact RcNeAt.int_str _ _ _ _
    ·first | (obtain ⟨t2',rfl⟩:=t2) | cases t2
     unfold eqW;exact RcNeAt.str_none _ _
    ·first | (obtain ⟨t2',rfl⟩:=t2) | cases t2
     unfold eqW;exact RcNeAt.str_bool _ _ _
    ·first | (obtain ⟨t2',rfl⟩:=t2) | cases t2
     unfold eqW;exact RcNeAt.str_int _ _ _ _
    ·first | (obtain ⟨t2',rfl⟩:=t2) | cases t2
     unfold eqW;exact RcNeAt.str_str _ _ _ _
   | lst e q=>
    subst e
    cases t2
    obtain ⟨its,p⟩:=isl q
    rcases z with ⟨rfl,rfl⟩ | ⟨_,rfl,rfl⟩ | ⟨_,rfl,rfl⟩ | ⟨_,rfl,rfl⟩
    ·cases t1;unfold eqW;exact RcNeAt.none_list p hu0
    ·cases t1;unfold eqW;exact RcNeAt.bool_list _ p hu0
    ·obtain ⟨t,rfl⟩:=t1;unfold eqW;exact RcNeAt.int_list _ t p hu0
    ·obtain ⟨t,rfl⟩:=t1;unfold eqW;exact RcNeAt.str_list _ t p hu0
   | tup e q=>
    subst e
    cases t2
    obtain ⟨its,p⟩:=ist q
    rcases z with ⟨rfl,rfl⟩ | ⟨_,rfl,rfl⟩ | ⟨_,rfl,rfl⟩ | ⟨_,rfl,rfl⟩
    ·cases t1;unfold eqW;exact RcNeAt.none_tuple p hu0
    ·cases t1;unfold eqW;exact RcNeAt.bool_tuple _ p hu0
    ·obtain ⟨t,rfl⟩:=t1;unfold eqW;exact RcNeAt.int_tuple _ t p hu0
    ·obtain ⟨t,rfl⟩:=t1;unfold eqW;exact RcNeAt.str_tuple _ t p hu0
  | @lst ad1 _ _ _ e q r m=>
   subst e
   cases t1
   obtain ⟨its,p⟩:=isl q
   have k2:=VT rh r2 e2
   cases k2 with
   | flat f' z'=>
    rcases z' with ⟨rfl,rfl⟩ | ⟨_,rfl,rfl⟩ | ⟨_,rfl,rfl⟩ | ⟨_,rfl,rfl⟩
    ·cases t2;unfold eqW;exact RcNeAt.list_none p hu0
    ·cases t2;unfold eqW;exact RcNeAt.list_bool _ p hu0
    ·obtain ⟨t,rfl⟩:=t2;unfold eqW;exact RcNeAt.list_int _ t p hu0
    ·obtain ⟨t,rfl⟩:=t2;unfold eqW;exact RcNeAt.list_str _ t p hu0
   | tup e' q'=>
    subst e'
    cases t2
    obtain ⟨its',p'⟩:=ist q'
    unfold eqW;exact RcNeAt.list_tuple p p' hu0
   | lst e' q' r' m'=>
    subst e'
    cases t2
    unfold eqW
    exact GN I hu0 ih q q' r r' m m'
  | @tup ad1 _ _ _ e q r m=>
   subst e
   cases t1
   obtain ⟨its,p⟩:=ist q
   have k2:=VT rh r2 e2
   cases k2 with
   | flat f' z'=>
    rcases z' with ⟨rfl,rfl⟩ | ⟨_,rfl,rfl⟩ | ⟨_,rfl,rfl⟩ | ⟨_,rfl,rfl⟩
    ·cases t2;unfold eqW;exact RcNeAt.tuple_none p hu0
    ·cases t2;unfold eqW;exact RcNeAt.tuple_bool _ p hu0
    ·obtain ⟨t,rfl⟩:=t2;unfold eqW;exact RcNeAt.tuple_int _ t p hu0
    ·obtain ⟨t,rfl⟩:=t2;unfold eqW;exact RcNeAt.tuple_str _ t p hu0
   | lst e' q'=>
    subst e'
    cases t2
    obtain ⟨its',p'⟩:=isl q'
    unfold eqW;exact RcNeAt.tuple_list p p' hu0
   | tup e' q' r' m'=>
    subst e'
    cases t2
    unfold eqW
    exact G7 I hu0 ih q q' r r' m m'
end
noncomputable def wEq (a b:W) (h:MH):Option (W×MH):=(drf h 40 a).bind fun x=>(drf h 40 b).map fun y=>(.bl (eqW x y),h)
noncomputable def wNe (a b:W) (h:MH):Option (W×MH):=(drf h 40 a).bind fun x=>(drf h 40 b).map fun y=>(.bl (!eqW x y),h)
theorem Qk {K:PySem.W.Frag} {f:W->W->MH->Option (W×MH)}:OpM K (F2 K f) f:=fun _ _ _ _ q=>q
section
variable {X:Cx}
theorem Q4 (hu:X.A.units+64 < cLine):OpR X (compareOp .Eq) (F2 X.K wEq):=by
 intro pins s σ H x y v u Q I rx ry q
 obtain ⟨R,h,a,b,w,h',rh,ra,rb,e,k⟩:=q
 obtain ⟨a',e1,e2⟩:=Option.bind_eq_some_iff.mp e
 obtain ⟨b',e3,e4⟩:=Option.map_eq_some_iff.mp e2
 cases e4
 exact Qhw I rh 40 X.A (by omega) a b x y v u a' b' ra rb rx ry e1 e3 _ _ _ _ ⟨.bl _,H,I,rfl,k R H _ (Ext.refl _) rh (Rw.bl _)⟩
theorem QdA (hu:X.A.units+64 < cLine):OpR X (compareOp .NotEq) (F2 X.K wNe):=by
 intro pins s σ H x y v u Q I rx ry q
 obtain ⟨R,h,a,b,w,h',rh,ra,rb,e,k⟩:=q
 obtain ⟨a',e1,e2⟩:=Option.bind_eq_some_iff.mp e
 obtain ⟨b',e3,e4⟩:=Option.map_eq_some_iff.mp e2
 cases e4
 exact Qcb I rh 40 X.A (by omega) a b x y v u a' b' ra rb rx ry e1 e3 _ _ _ _ ⟨.bl _,H,I,rfl,k R H _ (Ext.refl _) rh (Rw.bl _)⟩
noncomputable def inW (x:W) (xs:List W):Bool:=xs.any fun y=>eqW y x
noncomputable def wIn (neg:Bool) (a b:W) (h:MH):Option (W×MH):=match b with
 | .tup ys=>(drf h 40 a).bind fun x=>(ZV (drf h 40) ys).map fun zs=>(.bl (if neg then !inW x zs else inW x zs),h)
 | b=>(lsW h b).bind fun ys=>(drf h 40 a).bind fun x=>(ZV (drf h 40) ys).map fun zs=>(.bl (if neg then !inW x zs else inW x zs),h)
open Classical in
noncomputable def GU (K:PySem.W.Frag) (R:Rn) (h:MH) (x:W) (u:Value):Bool:=decide (∃ w v a,Rw K R w v/\RelV v u/\drf h 40 w=some a/\eqW a x=true)
open Classical in
theorem Up {pins:List (Addr×Obj)} {σ:L2.St} {H:Hp} {s:Shared} {R:Rn} {h:MH} (I:Inv X pins σ H s) (rh:Rh X.K R h H) {x w a:W} {v:V} {u:Value} (r:Rw X.K R w v) (t:RelV v u) (e:drf h 40 w=some a):GU X.K R h x u=eqW a x:=by
 unfold GU
 by_cases q:eqW a x=true
 ·rw [q];exact decide_eq_true ⟨w,v,a,r,t,e,q⟩
 ·have q':eqW a x=false:=by simpa using q
  rw [q']
  refine decide_eq_false fun ⟨w',v',a',r',t',e',z⟩=>?_
  have:=t.inj t'
  subst this
  rw [XM I rh 40 w w' v a a' r r' e e',z] at q'
  cases q'
theorem W7 {pins:List (Addr×Obj)} {σ:L2.St} {H:Hp} {s:Shared} {R:Rn} {h:MH} (I:Inv X pins σ H s) (rh:Rh X.K R h H) {x:W}:∀ {ws as:List W} {xs:List V} {us:List Value},Rws X.K R ws xs->Vals xs us->ZV (drf h 40) ws=some as->us.any (GU X.K R h x)=inW x as
 | [],_,_,_,r,t,m=>by
  rw [Rws.nil_iff] at r;subst r;cases t;cases m;rfl
 | w::ws,_,_,_,r,t,m=>by
  rw [Rws.cons_iff] at r
  obtain ⟨v,xs',rfl,r1,r2⟩:=r
  cases t with
  | cons t1 t2=>
   obtain ⟨y,h1,h2⟩:=Option.bind_eq_some_iff.mp m
   obtain ⟨zs,h3,h4⟩:=Option.map_eq_some_iff.mp h2
   subst h4
   have ih:=W7 I rh (x:=x) r2 t2 h3
   unfold inW at ih ⊢
   rw [List.any_cons,List.any_cons,Up I rh r1 t1 h1,ih]
theorem Xn {pins:List (Addr×Obj)} {σ:L2.St} {H:Hp} {s:Shared} {R:Rn} {h:MH} (I:Inv X pins σ H s) (rh:Rh X.K R h H) {A:Around} (hu:A.units+40 < cLine) {a x:W} {v:V} {u:Value} (ra:Rw X.K R a v) (ta:RelV v u) (ea:drf h 40 a=some x) {ws as:List W} {xs:List V} {us:List Value}
  (r:Rws X.K R ws xs) (t:Vals xs us) (m:ZV (drf h 40) ws=some as):∀ y∈us,EqAt A s y u (GU X.K R h x y):=by
 intro y hy
 obtain ⟨i,hi,e⟩:=List.mem_iff_getElem.mp hy
 have l1:=r.length;have l2:=t.length
 obtain ⟨w,hw⟩:∃ w,ws[i]?=some w:=⟨ws[i]'(by omega),List.getElem?_eq_getElem _⟩
 obtain ⟨v',hv,rv⟩:=r.get hw
 obtain ⟨u',hu',ru⟩:=t.get hv
 rw [List.getElem?_eq_getElem hi,e] at hu'
 cases hu'
 obtain ⟨b,hb,eb⟩:=(QN m).2 i w hw
 rw [Up I rh rv ru eb]
 exact UW I rh 40 A hu w a v' v y u b x rv ra ru ta eb ea
theorem QgJ (hu:X.A.units+64 < cLine):OpR X (compareOp .In) (F2 X.K (wIn false)):=by
 intro pins s σ H x y v u Q I rx ry q
 obtain ⟨R,h,a,b,w,h',rh,ra,rb,e,k⟩:=q
 have hu':X.A.in1.units+40 < cLine:=by show X.A.units+1+40 < cLine;omega
 have main:∀ ys,((drf h 40 a).bind fun x=>(ZV (drf h 40) ys).map fun zs=>((W.bl (if false then !inW x zs else inW x zs),h):W×MH))=some (w,h')->∃ x' zs,drf h 40 a=some x'/\ZV (drf h 40) ys=some zs/\w=.bl (inW x' zs)/\h'=h:=fun ys e=>by
  obtain ⟨x',e1,e2⟩:=Option.bind_eq_some_iff.mp e
  obtain ⟨zs,e3,e4⟩:=Option.map_eq_some_iff.mp e2
  cases e4
  exact ⟨x',zs,e1,e3,rfl,rfl⟩
 have fin:∀ {x':W} {zs ws:List W} {xs:List V} {its:List Value},Rws X.K R ws xs->Vals xs its->drf h 40 a=some x'->ZV (drf h 40) ws=some zs->w=.bl (inW x' zs)->h'=h->EP X pins σ Q (.bool (its.toArray.any (GU X.K R h x'))) s:=fun {x' zs ws xs its} r t ea em ew eh=>by
  subst ew eh
  rw [List.any_toArray,W7 I rh r t em]
  exact ⟨.bl _,H,I,rfl,k R H _ (Ext.refl _) rh (Rw.bl _)⟩
 unfold wIn at e
 split at e
 ·rename_i ys
  obtain ⟨x',zs,e1,e3,ew,eh⟩:=main ys e
  obtain ⟨ad,xs,rfl,q1,r1⟩:=rh.tupAt rb
  cases ry
  obtain ⟨its,t1,p1,_⟩:=I.tuple q1
  exact in_tupleAt (GU X.K R h x') (show s.heap.IsTuple ad its.toArray from p1) (fun z hz=>Xn I rh hu' ra rx e1 r1 t1 e3 z (by simpa using hz)) (fin r1 t1 e1 e3 ew eh)
 ·obtain ⟨ys,e0,e⟩:=Option.bind_eq_some_iff.mp e
  obtain ⟨x',zs,e1,e3,ew,eh⟩:=main ys e
  obtain ⟨ad,xs,rfl,q1,r1⟩:=rh.lsAt rb e0
  cases ry
  obtain ⟨its,t1,p1,_⟩:=I.list q1
  exact in_listAt (GU X.K R h x') p1.isList (fun z hz=>Xn I rh hu' ra rx e1 r1 t1 e3 z (by simpa using hz)) (fin r1 t1 e1 e3 ew eh)
theorem Qa4 (hu:X.A.units+64 < cLine):OpR X (compareOp .NotIn) (F2 X.K (wIn true)):=by
 intro pins s σ H x y v u Q I rx ry q
 obtain ⟨R,h,a,b,w,h',rh,ra,rb,e,k⟩:=q
 have hu':X.A.in1.units+40 < cLine:=by show X.A.units+1+40 < cLine;omega
 have main:∀ ys,((drf h 40 a).bind fun x=>(ZV (drf h 40) ys).map fun zs=>((W.bl (if true then !inW x zs else inW x zs),h):W×MH))=some (w,h')->∃ x' zs,drf h 40 a=some x'/\ZV (drf h 40) ys=some zs/\w=.bl (!inW x' zs)/\h'=h:=fun ys e=>by
  obtain ⟨x',e1,e2⟩:=Option.bind_eq_some_iff.mp e
  obtain ⟨zs,e3,e4⟩:=Option.map_eq_some_iff.mp e2
  cases e4
  exact ⟨x',zs,e1,e3,rfl,rfl⟩
 have fin:∀ {x':W} {zs ws:List W} {xs:List V} {its:List Value},Rws X.K R ws xs->Vals xs its->drf h 40 a=some x'->ZV (drf h 40) ws=some zs->w=.bl (!inW x' zs)->h'=h->EP X pins σ Q (.bool (!its.toArray.any (GU X.K R h x'))) s:=fun {x' zs ws xs its} r t ea em ew eh=>by
  subst ew eh
  rw [List.any_toArray,W7 I rh r t em]
  exact ⟨.bl _,H,I,rfl,k R H _ (Ext.refl _) rh (Rw.bl _)⟩
 unfold wIn at e
 split at e
 ·rename_i ys
  obtain ⟨x',zs,e1,e3,ew,eh⟩:=main ys e
  obtain ⟨ad,xs,rfl,q1,r1⟩:=rh.tupAt rb
  cases ry
  obtain ⟨its,t1,p1,_⟩:=I.tuple q1
  exact notIn_tupleAt (GU X.K R h x') (show s.heap.IsTuple ad its.toArray from p1) (fun z hz=>Xn I rh hu' ra rx e1 r1 t1 e3 z (by simpa using hz)) (fin r1 t1 e1 e3 ew eh)
 ·obtain ⟨ys,e0,e⟩:=Option.bind_eq_some_iff.mp e
  obtain ⟨x',zs,e1,e3,ew,eh⟩:=main ys e
  obtain ⟨ad,xs,rfl,q1,r1⟩:=rh.lsAt rb e0
  cases ry
  obtain ⟨its,t1,p1,_⟩:=I.list q1
  exact notIn_listAt (GU X.K R h x') p1.isList (fun z hz=>Xn I rh hu' ra rx e1 r1 t1 e3 z (by simpa using hz)) (fin r1 t1 e1 e3 ew eh)
end
end Mi

namespace Mi
open PySem PySem.Spec PyProof.Rows L2

noncomputable def Vt (a b:W) (h:MH):Option (W×MH):=match a,b with
 | .int i,.int j=>some (.int (i+j),h)
 | .str x,.str y=>if x.length+y.length<=sizeLine then some (.str (x++y),h) else none
 | .tup xs,.tup ys=>if xs.length+ys.length<=sizeLine then some (.tup (xs++ys),h) else none
 | a,b=>(loW h a).bind fun xs=>(loW h b).bind fun ys=>if xs.length+ys.length<=sizeLine then some (.lst (xs++ys),h) else none
noncomputable def Gx (a b:W) (h:MH):Option (W×MH):=match a,b with | .int i,.int j=>some (.int (i - j),h) | _,_=>none
noncomputable def Qgu (a b:W) (h:MH):Option (W×MH):=match a,b with | .int i,.int j=>if (-(2 ^ 64) < i/\i < 2 ^ 64)\/(-(2 ^ 64) < j/\j < 2 ^ 64) then some (.int (i*j),h) else none | _,_=>none
noncomputable def Qe3 (a b:W) (h:MH):Option (W×MH):=match a,b with | .int i,.int j=>if 0 < j/\j < 1073741824 then some (.int (i / j),h) else none | _,_=>none
noncomputable def Qas (a b:W) (h:MH):Option (W×MH):=match a,b with | .int i,.int j=>if 0 < j then some (.int (i % j),h) else none | _,_=>none
noncomputable def QeJ (a b:W) (h:MH):Option (W×MH):=match a,b with | .int i,.int j=>if 0<=j/\j<=1000000/\i.natAbs < 2 ^ 64 then some (.int (i ^ j.toNat),h) else none | _,_=>none
noncomputable def wLt (a b:W) (h:MH):Option (W×MH):=match a,b with | .int i,.int j=>some (.bl (decide (i < j)),h) | .str x,.str y=>some (.bl (decide (x.cps.toList < y.cps.toList)),h) | _,_=>none
noncomputable def wGt (a b:W) (h:MH):Option (W×MH):=match a,b with | .int i,.int j=>some (.bl (decide (j < i)),h) | _,_=>none
noncomputable def wGe (a b:W) (h:MH):Option (W×MH):=match a,b with | .int i,.int j=>some (.bl (decide (j<=i)),h) | _,_=>none
noncomputable def XW:W->Bool
 | .non=>true
 | _=>false
noncomputable def KM (a b:W) (h:MH):Option (W×MH):=match b with
 | .non=>some (.bl (!XW a),h)
 | _=>none
theorem QgI {K:PySem.W.Frag} {R:Rn} {a:W} {v:V} (r:Rw K R a v):decide (v=.non)=XW a:=by
 cases a with
 | non=>rw [r.non_eq];rfl
 | bl _=>rw [r.bl_eq];rfl
 | int _=>rw [r.int_eq];rfl
 | str _=>rw [r.str_eq];rfl
 | ty _=>rw [r.ty_eq];rfl
 | tup _=>unfold Rw at r;obtain ⟨_,_,rfl,_⟩:=r;rfl
 | lst _=>unfold Rw at r;obtain ⟨_,_,rfl,_⟩:=r;rfl
 | frz _=>unfold Rw at r;obtain ⟨_,_,rfl,_⟩:=r;rfl
 | ref _=>unfold Rw at r;obtain ⟨_,rfl⟩:=r;rfl
section
variable {X:Cx}
noncomputable def QiF (K:PySem.W.Frag):R2:=fun x y H Q=>∃ a b xs ys,x=.ref a/\y=.ref b/\SqT K H a xs/\SqT K H b ys/\xs.length+ys.length<=sizeLine /\
 (xs=[]->Q (.ref b) H)/\(xs≠[]->ys=[]->Q (.ref a) H)/\(xs≠[]->ys≠[]->∀ p,H p=none->Q (.ref p) (upd H p (.tup (xs++ys))))
theorem op_catA:OpR X (binaryOp .Add) (QiF X.K):=by
 intro pins s σ H x y v u Q I rx ry h
 obtain ⟨a,b,xs,ys,rfl,rfl,ha,hb,hz,q0,q1,q2⟩:=h
 by_cases hx:xs=[]
 ·subst hx
  cases rx
  cases ry
  obtain ⟨its,r1,p1,_⟩:=I.tuple ha
  obtain ⟨its2,r2,p2,_⟩:=I.tuple hb
  cases r1
  obtain ⟨⟨cls,dd,data,sl⟩,ho,hc,n,hd⟩:=id p1
  obtain ⟨⟨cls2,dd2,data2,sl2⟩,ho2,hc2,n2,hd2⟩:=id p2
  simp only at hc hd hc2 hd2
  subst hc hd hc2 hd2
  exact concat_meets ⟨_,ho,rfl⟩ ⟨_,ho2,rfl⟩ noFill_tuple_add seq_tuple_add PySem.F.slot_tuple_add PySem.F.entry_tuple_add (PySem.F.args_tuple_add_2 _ _)
   (tuple_addW0 a b #[] its2.toArray n n2 dd dd2 sl sl2 (by simp)) ⟨ho,ho2,⟨.ref b,H,I,rfl,q0 rfl⟩⟩
 ·exact Qft pins s σ H _ _ v u Q I rx ry ⟨a,b,xs,ys,rfl,rfl,ha,hb,hx,hz,q1 hx,q2 hx⟩
theorem QQ:OpR X (binaryOp .Add) (F2 X.K Vt):=by
 intro pins s σ H x y v u Q I rx ry q
 refine (op_add.or (op_add_str.or (op_catA.or Qg9))) pins s σ H x y v u Q I rx ry ?_
 obtain ⟨R,h,a,b,w,h',rh,ra,rb,e,k⟩:=q
 unfold Vt at e
 split at e
 ·cases e
  exact .inl ⟨_,_,ra.int_eq,rb.int_eq,k R H _ (Ext.refl _) rh (Rw.int _)⟩
 ·split at e
  ·rename_i hl
   cases e
   exact .inr (.inl ⟨_,_,ra.str_eq,rb.str_eq,hl,k R H _ (Ext.refl _) rh (Rw.str _)⟩)
  ·cases e
 ·split at e
  ·rename_i xs ys hl
   cases e
   obtain ⟨ad,xv,e1,q1,r1⟩:=rh.tupAt ra
   obtain ⟨bd,yv,e2,q2,r2⟩:=rh.tupAt rb
   have l1:=r1.length;have l2:=r2.length
   refine .inr (.inr (.inl ⟨ad,bd,xv,yv,e1,e2,q1,q2,by omega,fun z=>?_,fun _ z=>?_,fun _ _ p hp=>?_⟩))
   ·subst z
    have:xs=[]:=List.length_eq_zero_iff.mp l1
    subst this
    exact k R H _ (Ext.refl _) rh (e2 ▸ rb)
   ·subst z
    have:ys=[]:=List.length_eq_zero_iff.mp l2
    subst this
    rw [List.append_nil] at k
    exact k R H _ (Ext.refl _) rh (e1 ▸ ra)
   ·obtain ⟨R3,x3,rh3,rw3⟩:=rh.tup hp (Rws.append r1 r2)
    exact k R3 _ _ x3 rh3 rw3
  ·cases e
 ·obtain ⟨xs,e1,e⟩:=Option.bind_eq_some_iff.mp e
  obtain ⟨ys,e2,e⟩:=Option.bind_eq_some_iff.mp e
  split at e
  ·rename_i hl
   cases e
   obtain ⟨ad,xv,f1,q1,r1⟩:=rh.loAt ra e1
   obtain ⟨bd,yv,f2,q2,r2⟩:=rh.loAt rb e2
   have l1:=r1.length;have l2:=r2.length
   refine .inr (.inr (.inr ⟨ad,bd,xv,yv,f1,f2,q1,q2,by omega,fun p hp=>?_⟩))
   obtain ⟨R3,x3,rh3,rw3⟩:=rh.lstI hp (Rws.append r1 r2)
   exact k R3 _ _ x3 rh3 rw3
  ·cases e
theorem Vp:OpR X (binaryOp .Sub) (F2 X.K Gx):=by
 intro pins s σ H x y v u Q I rx ry q
 refine QgV pins s σ H x y v u Q I rx ry ?_
 obtain ⟨R,h,a,b,w,h',rh,ra,rb,e,k⟩:=q
 unfold Gx at e
 split at e
 ·cases e
  exact ⟨_,_,ra.int_eq,rb.int_eq,k R H _ (Ext.refl _) rh (Rw.int _)⟩
 ·cases e
theorem Qd4:OpR X (binaryOp .Mult) (F2 X.K Qgu):=by
 intro pins s σ H x y v u Q I rx ry q
 refine QgN pins s σ H x y v u Q I rx ry ?_
 obtain ⟨R,h,a,b,w,h',rh,ra,rb,e,k⟩:=q
 unfold Qgu at e
 split at e
 ·split at e
  ·rename_i hl
   cases e
   exact ⟨_,_,ra.int_eq,rb.int_eq,hl,k R H _ (Ext.refl _) rh (Rw.int _)⟩
  ·cases e
 ·cases e
theorem Qal:OpR X (binaryOp .FloorDiv) (F2 X.K Qe3):=by
 intro pins s σ H x y v u Q I rx ry q
 refine Qem pins s σ H x y v u Q I rx ry ?_
 obtain ⟨R,h,a,b,w,h',rh,ra,rb,e,k⟩:=q
 unfold Qe3 at e
 split at e
 ·split at e
  ·rename_i hl
   cases e
   exact ⟨_,_,ra.int_eq,rb.int_eq,hl,k R H _ (Ext.refl _) rh (Rw.int _)⟩
  ·cases e
 ·cases e
theorem Xo:OpR X (binaryOp .Mod) (F2 X.K Qas):=by
 intro pins s σ H x y v u Q I rx ry q
 refine QgW pins s σ H x y v u Q I rx ry ?_
 obtain ⟨R,h,a,b,w,h',rh,ra,rb,e,k⟩:=q
 unfold Qas at e
 split at e
 ·split at e
  ·rename_i hl
   cases e
   exact ⟨_,_,ra.int_eq,rb.int_eq,hl,k R H _ (Ext.refl _) rh (Rw.int _)⟩
  ·cases e
 ·cases e
theorem QaZ:OpR X (binaryOp .Pow) (F2 X.K QeJ):=by
 intro pins s σ H x y v u Q I rx ry q
 refine Qf8 pins s σ H x y v u Q I rx ry ?_
 obtain ⟨R,h,a,b,w,h',rh,ra,rb,e,k⟩:=q
 unfold QeJ at e
 split at e
 ·split at e
  ·rename_i hl
   cases e
   exact ⟨_,_,ra.int_eq,rb.int_eq,hl,k R H _ (Ext.refl _) rh (Rw.int _)⟩
  ·cases e
 ·cases e
theorem Wx:OpR X (compareOp .Lt) (F2 X.K wLt):=by
 intro pins s σ H x y v u Q I rx ry q
 refine (op_lt.or QaW) pins s σ H x y v u Q I rx ry ?_
 obtain ⟨R,h,a,b,w,h',rh,ra,rb,e,k⟩:=q
 unfold wLt at e
 split at e
 ·cases e
  exact .inl ⟨_,_,ra.int_eq,rb.int_eq,k R H _ (Ext.refl _) rh (Rw.bl _)⟩
 ·cases e
  exact .inr ⟨_,_,ra.str_eq,rb.str_eq,k R H _ (Ext.refl _) rh (Rw.bl _)⟩
 ·cases e
theorem Vn:OpR X (compareOp .Gt) (F2 X.K wGt):=by
 intro pins s σ H x y v u Q I rx ry q
 refine QiH pins s σ H x y v u Q I rx ry ?_
 obtain ⟨R,h,a,b,w,h',rh,ra,rb,e,k⟩:=q
 unfold wGt at e
 split at e
 ·cases e
  exact ⟨_,_,ra.int_eq,rb.int_eq,k R H _ (Ext.refl _) rh (Rw.bl _)⟩
 ·cases e
theorem Qg5:OpR X (compareOp .GtE) (F2 X.K wGe):=by
 intro pins s σ H x y v u Q I rx ry q
 refine Qjb pins s σ H x y v u Q I rx ry ?_
 obtain ⟨R,h,a,b,w,h',rh,ra,rb,e,k⟩:=q
 unfold wGe at e
 split at e
 ·cases e
  exact ⟨_,_,ra.int_eq,rb.int_eq,k R H _ (Ext.refl _) rh (Rw.bl _)⟩
 ·cases e
theorem X4:OpR X (compareOp .IsNot) (F2 X.K KM):=by
 intro pins s σ H x y v u Q I rx ry q
 refine QeN pins s σ H x y v u Q I rx ry ?_
 obtain ⟨R,h,a,b,w,h',rh,ra,rb,e,k⟩:=q
 unfold KM at e
 split at e
 ·cases e
  exact ⟨rb.non_eq,by rw [QgI ra];exact k R H _ (Ext.refl _) rh (Rw.bl _)⟩
 ·cases e
noncomputable def UQ (a:W) (h:MH):Option (W×MH):=match a with | .int i=>some (.int (-i),h) | _=>none
theorem VH {a:Expr} {ma:ME} {pos:Pos} (ha:PM X a ma):PM X (.UnaryOp .USub a pos) (mUn UQ ma):=Q7 (Qjm Qgj ha) fun σ H Q q=>JQ (un1 q) <| by
 rintro x H1 ⟨R,h,a,w,h',rh,ra,e,k⟩
 unfold UQ at e
 split at e
 ·cases e
  exact ⟨_,ra.int_eq,k R H1 _ (Ext.refl _) rh (Rw.int _)⟩
 ·cases e
noncomputable def wIx (a b:W) (h:MH):Option (W×MH):=match b with
 | .int i=>match a with
  | .tup ws=>(atI ws i).map fun w=>(w,h)
  | .str x=>if x.length<=sizeLine then (atI x.cps.toList i).map fun c=>(.str ⟨#[c]⟩,h) else none
  | a=>(lsW h a).bind fun ws=>(atI ws i).map fun w=>(w,h)
 | _=>none
theorem Qaq {K:PySem.W.Frag} {R:Rn} {ws:List W} {xs:List V} (r:Rws K R ws xs) {i:Int} {w:W} (e:atI ws i=some w):∃ v,atI xs i=some v/\Rw K R w v:=by
 unfold atI at e ⊢
 rw [<- r.length]
 obtain ⟨j,e1,e2⟩:=Option.bind_eq_some_iff.mp e
 obtain ⟨v,e3,e4⟩:=r.get e2
 exact ⟨v,by rw [e1];exact e3,e4⟩
theorem QfA:IxR X (F2 X.K wIx):=by
 intro value slice pins s σ H x y v u Q I rx ry q hs
 refine Qht value slice pins s σ H x y v u Q I rx ry ?_ hs
 obtain ⟨R,h,a,b,w,h',rh,ra,rb,e,k⟩:=q
 unfold wIx at e
 split at e
 ·rename_i i
  split at e
  ·rename_i ws
   obtain ⟨w1,e1,e2⟩:=Option.map_eq_some_iff.mp e
   cases e2
   obtain ⟨ad,xs,rfl,q1,r1⟩:=rh.tupAt ra
   obtain ⟨v1,e3,r3⟩:=Qaq r1 e1
   exact .inr (.inl ⟨ad,xs,i,v1,rfl,rb.int_eq,q1,e3,k R H _ (Ext.refl _) rh r3⟩)
  ·split at e
   ·rename_i hl
    obtain ⟨c,e1,e2⟩:=Option.map_eq_some_iff.mp e
    cases e2
    exact .inr (.inr ⟨_,i,c,ra.str_eq,rb.int_eq,hl,e1,k R H _ (Ext.refl _) rh (Rw.str _)⟩)
   ·cases e
  ·obtain ⟨ws,e0,e⟩:=Option.bind_eq_some_iff.mp e
   obtain ⟨w1,e1,e2⟩:=Option.map_eq_some_iff.mp e
   cases e2
   obtain ⟨ad,xs,rfl,q1,r1⟩:=rh.lsAt ra e0
   obtain ⟨v1,e3,r3⟩:=Qaq r1 e1
   exact .inl ⟨ad,xs,i,v1,rfl,rb.int_eq,q1,e3,k R H _ (Ext.refl _) rh r3⟩
 ·cases e
theorem Qo {a b:Expr} {ma mb:ME} {pos:Pos} (ha:PM X a ma) (hb:PM X b mb) (hs:Uk b:=by intro _ _;rfl):PM X (.Subscript a b pos) (Qm wIx ma mb):=
 Q7 (Qir QfA ha hb hs) fun _ _ _ q=>JQ (QgQ q) fun _ _ q1=>JQ q1 fun _ _ q2=>q2
noncomputable def JS (ws:List W) (h:MH):Option (W×MH):=match ws with
 | [.str x]=>if x.length<=sizeLine then some (.int x.length,h) else none
 | [.tup ws]=>some (.int ws.length,h)
 | [a]=>(lsW h a).map fun ws=>(.int ws.length,h)
 | _=>none
theorem Qs {K:PySem.W.Frag} {f:List W->MH->Option (W×MH)}:Qfi K (Fs K f) f:=fun _ _ _ q=>q
theorem Gc {K:PySem.W.Frag} {R:Rn} {a:W} {xs:List V} (r:Rws K R [a] xs):∃ v,xs=[v]/\Rw K R a v:=by
 rw [Rws.cons_iff] at r
 obtain ⟨v,vs,rfl,r1,r2⟩:=r
 rw [Rws.nil_iff] at r2
 subst r2
 exact ⟨v,rfl,r1⟩
theorem Qfv {K:PySem.W.Frag} {R:Rn} {a b:W} {xs:List V} (r:Rws K R [a,b] xs):∃ v u,xs=[v,u]/\Rw K R a v/\Rw K R b u:=by
 rw [Rws.cons_iff] at r
 obtain ⟨v,vs,rfl,r1,r2⟩:=r
 obtain ⟨u,rfl,r3⟩:=Gc r2
 exact ⟨v,u,rfl,r1,r3⟩
theorem Qy:CallR X (.builtin "len") (Fs X.K JS):=by
 intro pins s σ H xs us Q I r q
 refine (call_len_seq.or Y2) pins s σ H xs us Q I r ?_
 obtain ⟨R,h,ws,w,h',rh,rw,e,k⟩:=q
 unfold JS at e
 split at e
 ·split at e
  ·rename_i hl
   cases e
   obtain ⟨v,rfl,r1⟩:=Gc rw
   exact .inr ⟨_,by rw [r1.str_eq],hl,k R H _ (Ext.refl _) rh (Rw.int _)⟩
  ·cases e
 ·cases e
  obtain ⟨v,rfl,r1⟩:=Gc rw
  obtain ⟨ad,xs,rfl,q1,r2⟩:=rh.tupAt r1
  exact .inl ⟨ad,xs,rfl,.inr q1,by rw [<- r2.length];exact k R H _ (Ext.refl _) rh (Rw.int _)⟩
 ·obtain ⟨ys,e1,e2⟩:=Option.map_eq_some_iff.mp e
  cases e2
  obtain ⟨v,rfl,r1⟩:=Gc rw
  obtain ⟨ad,xs,rfl,q1,r2⟩:=rh.lsAt r1 e1
  exact .inl ⟨ad,xs,rfl,.inl q1,by rw [<- r2.length];exact k R H _ (Ext.refl _) rh (Rw.int _)⟩
 ·cases e
noncomputable def VW (ws:List W) (h:MH):Option (W×MH):=match ws with
 | [.tup ws]=>some (.tup ws,h)
 | [a]=>(lsW h a).map fun ws=>(.tup ws,h)
 | _=>none
noncomputable def Qbe (ws:List W) (h:MH):Option (W×MH):=match ws with
 | [.tup ws]=>some (.lst ws,h)
 | [a]=>(lsW h a).map fun ws=>(.lst ws,h)
 | _=>none
theorem Jc:CallR X (.type "tuple") (Fs X.K VW):=by
 intro pins s σ H xs us Q I r q
 refine K1 pins s σ H xs us Q I r ?_
 obtain ⟨R,h,ws,w,h',rh,rw,e,k⟩:=q
 unfold VW at e
 split at e
 ·cases e
  obtain ⟨v,rfl,r1⟩:=Gc rw
  obtain ⟨ad,xs,rfl,q1,r2⟩:=rh.tupAt r1
  exact ⟨ad,xs,rfl,.inr ⟨q1,k R H _ (Ext.refl _) rh r1⟩⟩
 ·obtain ⟨ys,e1,e2⟩:=Option.map_eq_some_iff.mp e
  cases e2
  obtain ⟨v,rfl,r1⟩:=Gc rw
  obtain ⟨ad,xs,rfl,q1,r2⟩:=rh.lsAt r1 e1
  refine ⟨ad,xs,rfl,.inl ⟨q1,fun p hp=>?_⟩⟩
  obtain ⟨R3,x3,rh3,rw3⟩:=rh.tup hp r2
  exact k R3 _ _ x3 rh3 rw3
 ·cases e
theorem KK:CallR X (.type "list") (Fs X.K Qbe):=by
 intro pins s σ H xs us Q I r q
 refine Wz pins s σ H xs us Q I r ?_
 obtain ⟨R,h,ws,w,h',rh,rw,e,k⟩:=q
 unfold Qbe at e
 split at e
 ·cases e
  obtain ⟨v,rfl,r1⟩:=Gc rw
  obtain ⟨ad,xs,rfl,q1,r2⟩:=rh.tupAt r1
  refine ⟨ad,xs,rfl,.inr q1,fun p hp=>?_⟩
  obtain ⟨R3,x3,rh3,rw3⟩:=rh.lstI hp r2
  exact k R3 _ _ x3 rh3 rw3
 ·obtain ⟨ys,e1,e2⟩:=Option.map_eq_some_iff.mp e
  cases e2
  obtain ⟨v,rfl,r1⟩:=Gc rw
  obtain ⟨ad,xs,rfl,q1,r2⟩:=rh.lsAt r1 e1
  refine ⟨ad,xs,rfl,.inl q1,fun p hp=>?_⟩
  obtain ⟨R3,x3,rh3,rw3⟩:=rh.lstI hp r2
  exact k R3 _ _ x3 rh3 rw3
 ·cases e
end
end Mi

namespace Mi
open PySem PySem.Spec PyProof.Rows L2

section
variable {prog:Program} {w:World} {A:Around} {E:Value->Shared->Prop} {s:Shared}
theorem V1 {t sl:Addr} {items:Array Value} {vl vu:Value} {lo hi:Option Int} {Q:Value->Shared->Prop} (ht:IsTup s.heap t items) (hs:s.heap.IsSliceOf sl vl vu .none) (pl:IsPart vl lo) (pu:IsPart vu hi)
  (hw:HT.sIx items.size 0 lo=0/\HT.sIx items.size items.size hi=items.size) (h:Q (.ref t) s):wpAny (model prog w) A (getItem (.ref t) (.ref sl)) Q E s:=by
 obtain ⟨os,hos,hcs,hds⟩:=id hs
 have hTs:s.TypeIs (.ref sl) "slice":=⟨os,hos,hcs⟩
 unfold getItem
 try with_reducible refine wpAny_holding ?_
 first | refine wpAny_bind (wpAny_pure ?_) | skip
 refine wpAny_bind (wpAny_sequenceKey ht.typeIs (by decide) ?_)
 refine wpAny_bind (wpAny_callSpecial?_slot (name:=Str.ofString "__getitem__") ht.typeIs PyProof.Rows.slot_tuple_getitem
  (wpAny_call_entry PyProof.Rows.slot_tuple_getitem ht.typeIs entry_tuple_getitem ?_ (args_tuple_getitem _ _)))
 show wpAny _ _ (Builtin.Tuple.tupleItemsOf (.ref t) >>= _) _ _ s
 refine wpAny_bind (tupleItemsOf_ ht ?_)
 refine wpAny_bind (wpAny_typeOf hTs ?_)
 rw [if_pos (by decide)]
 refine wpAny_bind (HT.sliceApplied_gen hs pl pu ?_)
 have hno:((((HT.sIx items.size 0 lo:Nat):Int) == 0 && (1:Int) == 1 && (HT.sIx items.size items.size hi - HT.sIx items.size 0 lo) == items.size)=true):=by
  rw [hw.1,hw.2];simp
 show wpAny _ _ (if (((HT.sIx items.size 0 lo:Nat):Int) == 0 && (1:Int) == 1 && (HT.sIx items.size items.size hi - HT.sIx items.size 0 lo) == items.size)=true then _ else _) _ _ s
 rw [if_pos hno]
 refine wpAny_bind (m:=Builtin.Tuple.tupleIsExact _) ?_
 unfold Builtin.Tuple.tupleIsExact
 refine wpAny_bind (wpAny_typeOf ht.typeIs (wpAny_pure ?_))
 rw [if_pos (by decide)]
 exact wpAny_bind (wpAny_rule (wpAny_pure ⟨_,rfl,wpAny_pure h⟩))
end
noncomputable def Gj {α:Type} (xs:List α) (lo hi:Option Int):List α:=(xs.drop (HT.sIx xs.length 0 lo)).take (HT.sIx xs.length xs.length hi - HT.sIx xs.length 0 lo)
noncomputable def wSl (a:W) (lo hi:Option Int) (h:MH):Option (W×MH):=match a with
 | .tup ws=>some (.tup (Gj ws lo hi),h)
 | .str x=>if x.length<=sizeLine then some (.str (Txt.slice x lo hi),h) else none
 | a=>(lsW h a).map fun ws=>(.lst (Gj ws lo hi),h)
theorem Qbb {K:PySem.W.Frag} {R:Rn} {ws:List W} {xs:List V} (r:Rws K R ws xs) (lo hi:Option Int):Rws K R (Gj ws lo hi) (QcJ xs lo hi):=by
 unfold Gj QcJ
 rw [r.length]
 exact (r.drop _).take _
theorem Gh {α:Type} {xs:List α} {lo hi:Option Int} (h:HT.sIx xs.length 0 lo=0/\HT.sIx xs.length xs.length hi=xs.length):Gj xs lo hi=xs:=by
 unfold Gj
 rw [h.1,h.2];simp
noncomputable abbrev MOp:=MSt->MH->Option (Option Int×MH)
noncomputable def tIO (K:PySem.W.Frag) (m:MOp):TO:=fun σ H Q=>∃ R σi h o h',Rh K R h H/\Rst K R σi σ/\m σi h=some (o,h')/\∀ R' H',Ext R R'->Rh K R' h' H'->Q o H'
noncomputable def PMO (X:Cx) (e:Option Expr) (m:MOp):Prop:=PO X e (tIO X.K m)
noncomputable def W0:MOp:=fun _ h=>some (none,h)
noncomputable def Kf (m:ME):MOp:=fun σ h=>(m σ h).bind fun p=>match p.1 with | .int i=>some (some i,p.2) | _=>none
noncomputable def mSl (ma:ME) (ml mh:MOp):ME:=fun σ h=>(ma σ h).bind fun p=>(ml σ p.2).bind fun q=>(mh σ q.2).bind fun r=>wSl p.1 q.1 r.1 r.2
section
variable {X:Cx}
theorem sl_tupA:SlR X (fun x lo hi H Q=>∃ a xs,x=.ref a/\SqT X.K H a xs/\((HT.sIx xs.length 0 lo=0/\HT.sIx xs.length xs.length hi=xs.length)->Q (.ref a) H) /\
  (¬ (HT.sIx xs.length 0 lo=0/\HT.sIx xs.length xs.length hi=xs.length)->∀ p,H p=none->Q (.ref p) (upd H p (.tup (QcJ xs lo hi))))):=by
 intro pins s σ H x v vl vu lo hi sl Q I rx hs pl pu h
 obtain ⟨a,xs,rfl,hx,q1,q2⟩:=h
 by_cases hw:HT.sIx xs.length 0 lo=0/\HT.sIx xs.length xs.length hi=xs.length
 ·cases rx
  obtain ⟨its,r,ht,hz⟩:=I.tuple hx
  have hlen:its.toArray.size=xs.length:=by rw [List.size_toArray];exact r.length.symm
  refine ⟨"tuple",_,PyProof.Rows.slot_tuple_getitem.lookup,ht.typeIs,?_⟩
  exact V1 ht hs pl pu (by rw [hlen];exact hw) ⟨.ref a,H,I,rfl,q1 hw⟩
 ·exact Qf7 pins s σ H (.ref a) v vl vu lo hi sl Q I rx hs pl pu ⟨a,xs,rfl,hx,hw,q2 hw⟩
theorem Qhb:SlR X (fun x lo hi H Q=>∃ z,x=.str z/\z.length<=sizeLine/\Q (.str (Txt.slice z lo hi)) H):=by
 intro pins s σ H x v vl vu lo hi sl Q I rx hs pl pu h
 obtain ⟨z,rfl,hz,q⟩:=h
 obtain ⟨t,rfl⟩:=rx
 refine ⟨"str",_,PySem.F.slot_str_getitem.lookup,typeIs_str _ _ _,?_⟩
 have fin:∀ (t':Tok) (k:Nat),EP X pins σ Q (.str (Txt.slice z lo hi) t') { s with toks:=k }:=fun t' k=>⟨.str _,H,I.tok _,⟨t',rfl⟩,q⟩
 cases pl with
 | none=>
  cases pu with
  | none=>exact wpAny_getItem_str_slice (l:=none) (u:=none) (st:=none) hs rfl (post_val_or_str ⟨Nat.le_trans (Txt.slice_le z _ _) hz,fin⟩)
  | int j tj=>exact wpAny_getItem_str_slice (l:=none) (u:=some (j,tj)) (st:=none) hs rfl (post_val_or_str ⟨Nat.le_trans (Txt.slice_le z _ _) hz,fin⟩)
 | int i ti=>
  cases pu with
  | none=>exact wpAny_getItem_str_slice (l:=some (i,ti)) (u:=none) (st:=none) hs rfl (post_val_or_str ⟨Nat.le_trans (Txt.slice_le z _ _) hz,fin⟩)
  | int j tj=>exact wpAny_getItem_str_slice (l:=some (i,ti)) (u:=some (j,tj)) (st:=none) hs rfl (post_val_or_str ⟨Nat.le_trans (Txt.slice_le z _ _) hz,fin⟩)
theorem XL:PMO X none W0:=fun pins s σ H Q I ⟨R,σi,h,o,h',rh,st,e,k⟩=>by
 cases e
 exact QfN pins s σ H Q I (k R H (Ext.refl _) rh)
theorem VQ {e:Expr} {m:ME} (he:PM X e m):PMO X (some e) (Kf m):=fun pins s σ H Q I ⟨R,σi,h,o,h',rh,st,e1,k⟩=>by
 refine QfP he pins s σ H Q I ?_
 obtain ⟨⟨w,h1⟩,e2,e3⟩:=Option.bind_eq_some_iff.mp e1
 refine ⟨R,σi,h,w,h1,rh,st,e2,fun R1 H1 v x1 rh1 rv=>?_⟩
 cases w<;>simp only at e3<;>first | (cases e3;exact ⟨_,rv.int_eq,k R1 H1 x1 rh1⟩) | cases e3
theorem Xl {a:Expr} {lo hi:Option Expr} {ma:ME} {ml mh:MOp} {pos p2:Pos} (ha:PM X a ma) (hl:PMO X lo ml) (hh:PMO X hi mh):PM X (.Subscript a (.Slice lo hi none p2) pos) (mSl ma ml mh):=
 Q7 (Qb4 (sl_list.or (sl_tupA.or Qhb)) ha hl hh) fun σ H Q ⟨R,σi,h,w,h',rh,st,e,k⟩=>by
  obtain ⟨⟨a,h1⟩,ea,e2⟩:=Option.bind_eq_some_iff.mp e
  obtain ⟨⟨l,h2⟩,el,e3⟩:=Option.bind_eq_some_iff.mp e2
  obtain ⟨⟨u,h3⟩,eu,e4⟩:=Option.bind_eq_some_iff.mp e3
  refine ⟨R,σi,h,a,h1,rh,st,ea,fun R1 H1 x x1 rh1 rx=>⟨R1,σi,h1,l,h2,rh1,st.mono x1,el,fun R2 H2 x2 rh2=>⟨R2,σi,h2,u,h3,rh2,st.mono (x1.trans x2),eu,fun R3 H3 x3 rh3=>?_⟩⟩⟩
  have rx3:=Rw.mono (x2.trans x3) _ _ rx
  have k3:=k.ext (x1.trans (x2.trans x3))
  dsimp only at e4
  unfold wSl at e4
  split at e4
  ·cases e4
   obtain ⟨ad,xs,rfl,q1,r1⟩:=rh3.tupAt rx3
   refine .inr (.inl ⟨ad,xs,rfl,q1,fun hw=>?_,fun _ p hp=>?_⟩)
   ·rw [Gh (by rw [r1.length];exact hw)] at k3
    exact k3 R3 H3 _ (Ext.refl _) rh3 rx3
   ·obtain ⟨R4,x4,rh4,rw4⟩:=rh3.tup hp (Qbb r1 l u)
    exact k3 R4 _ _ x4 rh4 rw4
  ·split at e4
   ·rename_i hz
    cases e4
    exact .inr (.inr ⟨_,rx3.str_eq,hz,k3 R3 H3 _ (Ext.refl _) rh3 (Rw.str _)⟩)
   ·cases e4
  ·obtain ⟨ys,e5,e6⟩:=Option.map_eq_some_iff.mp e4
   cases e6
   obtain ⟨ad,xs,rfl,q1,r1⟩:=rh3.lsAt rx3 e5
   refine .inl ⟨ad,xs,rfl,q1,fun p hp=>?_⟩
   obtain ⟨R4,x4,rh4,rw4⟩:=rh3.lstI hp (Qbb r1 l u)
   exact k3 R4 _ _ x4 rh4 rw4
end
noncomputable def Qb2 (X:Cx) (id:String) (f:W->List W->MH->Option (W×MH)):Prop:=
 MtR X id (fun x xs H Q=>∃ R h a ws w h',Rh X.K R h H/\Rw X.K R a x/\Rws X.K R ws xs/\f a ws h=some (w,h')/\After X.K R w h' Q)
noncomputable def tyW (h:MH) (T:String):W->Bool
 | .str _=>T == "str"
 | .int _=>T == "int"
 | .lst _=>T == "list"
 | .frz _=>T == "list"
 | .ref n=>match h[n]? with | some (.lst _)=>T == "list" | some (.dic _)=>T == "dict" | some (.dct _)=>T == "dict" | none=>false
 | _=>false
noncomputable def mMt (T:String) (f:W->List W->MH->Option (W×MH)) (mo:ME) (ms:MA):ME:=fun σ h=>(mo σ h).bind fun p=>if tyW p.2 T p.1=true then (ms σ p.2).bind fun q=>f p.1 q.1 q.2 else none
theorem G9 {K:PySem.W.Frag} {R:Rn} {h:MH} {H:Hp} {T:String} {a:W} {x:V} (rh:Rh K R h H) (r:Rw K R a x) (e:tyW h T a=true):tyV K T x H:=by
 cases a with
 | str _=>rw [r.str_eq];exact eq_of_beq e
 | int _=>rw [r.int_eq];exact eq_of_beq e
 | lst _=>
  obtain ⟨ad,xs,rfl,q,_⟩:=rh.lstAt r
  exact .inl ⟨eq_of_beq e,xs,SqL.of q⟩
 | frz _=>
  obtain ⟨ad,xs,rfl,q,_⟩:=rh.frzAt r
  exact .inl ⟨eq_of_beq e,xs,q⟩
 | ref n=>
  simp only [tyW] at e
  split at e
  ·rename_i ws hn
   obtain ⟨_,rfl,xs,h1,_⟩:=rh.refAt r hn
   exact .inl ⟨eq_of_beq e,xs,SqL.of h1⟩
  ·rename_i kvs hn
   unfold Rw at r
   obtain ⟨kx,h1,_⟩:=rh.obj n _ hn
   rw [r.2]
   exact .inr (.inr (.inl ⟨eq_of_beq e,.inl ⟨kx,h1⟩⟩))
  ·rename_i kvs hn
   unfold Rw at r
   obtain ⟨kx,h1,_⟩:=rh.obj n _ hn
   rw [r.2]
   exact .inr (.inr (.inl ⟨eq_of_beq e,.inr ⟨kx,h1⟩⟩))
  ·cases e
 | _=>cases e
section
variable {X:Cx} {o e:Expr} {es:List Expr} {mo:ME} {ms:MA} {name:Str} {apos cpos:Pos} {T id:String} {f:W->List W->MH->Option (W×MH)}
theorem QgP {X:Cx} {e:Expr} {es:List Expr} {cpos:Pos} (hfew:decide ((e::es).length < 30)=true) (hs:VC e=false) (hp:VV es=true) :
  ((backTo cpos (starEach (e::es) X.env)).all (fun x=>!x.1) && (backToKw cpos (keywordEach [] X.env)).all (fun x=>x.1.isSome)
   && decide ((e::es).length+([]:List Keyword).length+(if ([]:List Keyword).isEmpty then 0 else 1) < 30))=true:=by
 rw [Qc2 (by unfold VV at hp ⊢;rw [List.all_cons,hs,hp];rfl)]
 exact hfew
theorem JD (pa:PlainAttrs T) (slot:Slot T name id) (hty:typeOf (.builtin id)=pure (.type "method_descriptor")) (hm:Qb2 X id f) (ho:PM X o mo) (ha:PMA X (e::es) ms)
  (hbase:attributeBase o name X.env (eval o X.env)=eval o X.env:=by rfl) (hfew:decide ((e::es).length < 30)=true:=by rfl)
  (hline:(apos.endLine == cpos.line)=true:=by rfl) (hs:VC e=false:=by rfl) (hplain:VV es=true:=by rfl) :
  PM X (.Call (.Attribute o name apos) (e::es) [] cpos) (mMt T f mo ms):=
 Q7 (QjN pa slot hty hm ho ha hbase (QgP hfew hs hplain) hline (Zh hs) (J4 hplain)) fun σ H Q ⟨R,σi,h,w,h',rh,st,e,k⟩=>by
  obtain ⟨⟨a,h1⟩,ea,e2⟩:=Option.bind_eq_some_iff.mp e
  dsimp only at e2
  split at e2
  ·rename_i ht
   obtain ⟨⟨ws,h2⟩,es,e3⟩:=Option.bind_eq_some_iff.mp e2
   exact ⟨R,σi,h,a,h1,rh,st,ea,fun R1 H1 x x1 rh1 rx=>⟨G9 rh1 rx ht,R1,σi,h1,ws,h2,rh1,st.mono x1,es,fun R2 H2 xs x2 rh2 rxs=>⟨R2,h2,a,ws,w,h',rh2,Rw.mono x2 _ _ rx,rxs,e3,k.ext (x1.trans x2)⟩⟩⟩
  ·cases e2
theorem QdU (pa:PlainAttrs T) (slot:Slot T name id) (hty:typeOf (.builtin id)=pure (.type "method_descriptor")) (hm:Qb2 X id f) (ho:PM X o mo)
  (hbase:attributeBase o name X.env (eval o X.env)=eval o X.env:=by rfl) (hline:(apos.endLine == cpos.line)=true:=by rfl):PM X (.Call (.Attribute o name apos) [] [] cpos) (mMt T f mo Ql):=
 Q7 (Qgk pa slot hty hm ho hbase hline) fun σ H Q ⟨R,σi,h,w,h',rh,st,e,k⟩=>by
  obtain ⟨⟨a,h1⟩,ea,e2⟩:=Option.bind_eq_some_iff.mp e
  dsimp only at e2
  split at e2
  ·rename_i ht
   obtain ⟨⟨ws,h2⟩,es,e3⟩:=Option.bind_eq_some_iff.mp e2
   cases es
   exact ⟨R,σi,h,a,h1,rh,st,ea,fun R1 H1 x x1 rh1 rx=>⟨G9 rh1 rx ht,R1,h1,a,[],w,h',rh1,rx,Rws.nil,e3,k.ext x1⟩⟩
  ·cases e2
end
noncomputable def QZ (a:W) (ws:List W) (h:MH):Option (W×MH):=match a,ws with
 | .ref n,[w]=>match h[n]? with | some (.lst xs)=>if xs.length < sizeLine then some (.non,h.set n (.lst (xs++[w]))) else none | _=>none
 | _,_=>none
noncomputable def Kb (a:W) (ws:List W) (h:MH):Option (W×MH):=match a,ws with
 | .ref n,[w]=>match h[n]? with | some (.lst xs)=>(loW h w).bind fun ys=>if xs.length+ys.length<=sizeLine then some (.non,h.set n (.lst (xs++ys))) else none | _=>none
 | _,_=>none
noncomputable def Qgr (a:W) (ws:List W) (h:MH):Option (W×MH):=match a,ws with
 | .ref n,[]=>match h[n]? with | some (.lst xs)=>(xs[xs.length - 1]?).map fun w=>(w,h.set n (.lst xs.dropLast)) | _=>none
 | _,_=>none
section
variable {X:Cx}
theorem Rws.dropLast {K:PySem.W.Frag} {R:Rn} {ws:List W} {vs:List V} (r:Rws K R ws vs):Rws K R ws.dropLast vs.dropLast:=by
 rw [List.dropLast_eq_take,List.dropLast_eq_take,r.length]
 exact r.take _
theorem QD:Qb2 X "list.append" QZ:=by
 intro pins s σ H x xs v us Q I rx rv q
 refine Qbs pins s σ H x xs v us Q I rx rv ?_
 obtain ⟨R,h,a,ws,w,h',rh,ra,rws,e,k⟩:=q
 unfold QZ at e
 split at e
 ·rename_i n w1
  split at e
  ·rename_i ys hn
   split at e
   ·rename_i hl
    cases e
    obtain ⟨hlt,rfl,xv,h1,r1⟩:=rh.refAt ra hn
    obtain ⟨y,rfl,ry⟩:=Gc rws
    refine ⟨_,xv,y,rfl,rfl,h1,by rw [<- r1.length];exact hl,?_⟩
    exact k R _ _ (Ext.refl _) (rh.put hlt ⟨_,rfl,Rws.append r1 (Rws.cons ry Rws.nil)⟩) Rw.non
   ·cases e
  ·cases e
 ·cases e
theorem KP:Qb2 X "list.extend" Kb:=by
 intro pins s σ H x xs v us Q I rx rv q
 refine Qad pins s σ H x xs v us Q I rx rv ?_
 obtain ⟨R,h,a,ws,w,h',rh,ra,rws,e,k⟩:=q
 unfold Kb at e
 split at e
 ·rename_i n w1
  split at e
  ·rename_i ys hn
   obtain ⟨zs,e1,e⟩:=Option.bind_eq_some_iff.mp e
   split at e
   ·rename_i hl
    cases e
    obtain ⟨hlt,rfl,xv,h1,r1⟩:=rh.refAt ra hn
    obtain ⟨y,rfl,ry⟩:=Gc rws
    obtain ⟨bd,yv,rfl,h2,r2⟩:=rh.loAt ry e1
    refine ⟨_,bd,xv,yv,rfl,rfl,h1,h2,by rw [<- r1.length,<- r2.length];exact hl,?_⟩
    exact k R _ _ (Ext.refl _) (rh.put hlt ⟨_,rfl,Rws.append r1 r2⟩) Rw.non
   ·cases e
  ·cases e
 ·cases e
theorem Qbq:Qb2 X "list.pop" Qgr:=by
 intro pins s σ H x xs v us Q I rx rv q
 refine QhG pins s σ H x xs v us Q I rx rv ?_
 obtain ⟨R,h,a,ws,w,h',rh,ra,rws,e,k⟩:=q
 unfold Qgr at e
 split at e
 ·rename_i n
  split at e
  ·rename_i ys hn
   obtain ⟨w1,e1,e2⟩:=Option.map_eq_some_iff.mp e
   cases e2
   obtain ⟨hlt,rfl,xv,h1,r1⟩:=rh.refAt ra hn
   rw [Rws.nil_iff] at rws
   subst rws
   obtain ⟨y,e3,ry⟩:=r1.get e1
   refine ⟨_,xv,y,rfl,rfl,h1,by rw [<- r1.length];exact e3,?_⟩
   exact k R _ _ (Ext.refl _) (rh.put hlt ⟨_,rfl,r1.dropLast⟩) ry
  ·cases e
 ·cases e
end
noncomputable def Gm (h:MH):W->Option String
 | .non=>some "NoneType"
 | .bl _=>some "bool"
 | .int _=>some "int"
 | .str _=>some "str"
 | .tup _=>some "tuple"
 | .lst _=>some "list"
 | .frz _=>some "list"
 | .ref n=>match h[n]? with | some (.lst _)=>some "list" | some (.dic _)=>some "dict" | some (.dct _)=>some "dict" | none=>none
 | .ty _=>none
noncomputable def VF (k T:String):Bool:=k == T || (k == "bool" && T == "int")
noncomputable def XC (T:String):Bool:=T == "str" || T == "int" || T == "bool" || T == "list" || T == "tuple" || T == "dict"
noncomputable def Qd3 (ws:List W) (h:MH):Option (W×MH):=match ws with
 | [a,.ty T]=>if XC T=true then (Gm h a).map fun k=>(.bl (VF k T),h) else none
 | _=>none
theorem Km {K:PySem.W.Frag} {k T:String} (hk:k="NoneType"\/k="bool"\/k="int"\/k="str"\/k="tuple"\/k="list"\/k="dict") (hT:XC T=true):PySem.W.kitOne K (.type k) (.type T)=some (VF k T):=by
 have hT':T="str"\/T="int"\/T="bool"\/T="list"\/T="tuple"\/T="dict":=by
  unfold XC at hT
  simp only [Bool.or_eq_true,beq_iff_eq] at hT
  rcases hT with ((((h | h) | h) | h) | h) | h<;>simp [h]
 rcases hk with rfl | rfl | rfl | rfl | rfl | rfl | rfl<;>rcases hT' with rfl | rfl | rfl | rfl | rfl | rfl<;>first | rfl | decide +kernel
section
variable {X:Cx}
theorem Xg:CallR X (.builtin "isinstance") (Fs X.K Qd3):=by
 intro pins s σ H xs us Q I r q
 obtain ⟨R,h,ws,w,h',rh,rws,e,k⟩:=q
 unfold Qd3 at e
 split at e
 ·rename_i a T
  split at e
  ·rename_i hT
   obtain ⟨kd,e1,e2⟩:=Option.map_eq_some_iff.mp e
   cases e2
   obtain ⟨x,y,rfl,ra,rb⟩:=Qfv rws
   obtain ⟨u,u2,rfl,ru,ru2⟩:=Uj r
   rw [rb.ty_eq] at ru2
   cases ru2
   have fin:∀ tk,EP X pins σ Q (.bool (VF kd T)) { s with toks:=tk }:=fun tk=>⟨.bl _,H,I.tok _,rfl,k R H _ (Ext.refl _) rh (Rw.bl _)⟩
   have one:∀ {t:String},TyOf X.K H x (.type t)->kd=t->(t="NoneType"\/t="bool"\/t="int"\/t="str"\/t="tuple"\/t="list"\/t="dict")->wpAny (model X.prog X.w) X.A (call (.builtin "isinstance") [u,.type T]) (EP X pins σ Q) X.xe s:=fun {t} ty et ht=>by
    subst et
    exact Qau I ru ty (Km ht hT) fin
   cases a with
   | non=>cases e1;rw [ra.non_eq] at one;exact one .non rfl (by simp)
   | bl b=>cases e1;rw [ra.bl_eq] at one;exact one (.bl b) rfl (by simp)
   | int i=>cases e1;rw [ra.int_eq] at one;exact one (.int i) rfl (by simp)
   | str z=>cases e1;rw [ra.str_eq] at one;exact one (.str z) rfl (by simp)
   | tup ys=>
    cases e1
    obtain ⟨ad,yv,rfl,q1,_⟩:=rh.tupAt ra
    cases ru
    obtain ⟨its,_,p,_⟩:=I.tuple q1
    obtain ⟨o,h1,h2,_⟩:=p
    exact PySem.W.kia_one PySem.W.kitx_tuple I.kIn ⟨o,h1,h2⟩ (Km (by simp) hT) (fun z=>nomatch z) fin
   | lst ys=>
    cases e1
    obtain ⟨ad,yv,rfl,q1,_⟩:=rh.lstAt ra
    exact one (.lst q1) rfl (by simp)
   | frz ys=>
    cases e1
    obtain ⟨ad,yv,rfl,q1,_⟩:=rh.frzAt ra
    cases ru
    obtain ⟨its,_,p,_⟩:=I.list q1
    obtain ⟨o,n,h1,h2,_⟩:=p
    exact PySem.W.kia_one PySem.W.kitx_list I.kIn ⟨o,h1,h2⟩ (Km (by simp) hT) (fun z=>nomatch z) fin
   | ref n=>
    simp only [Gm] at e1
    split at e1
    ·rename_i ys hn
     cases e1
     obtain ⟨_,rfl,yv,h1,_⟩:=rh.refAt ra hn
     exact one (.lst h1) rfl (by simp)
    ·rename_i kvs hn
     cases e1
     unfold Rw at ra
     obtain ⟨kx,h1,_⟩:=rh.obj n _ hn
     rw [ra.2] at one
     exact one (.dK h1) rfl (by simp)
    ·rename_i kvs hn
     cases e1
     unfold Rw at ra
     obtain ⟨kx,h1,_⟩:=rh.obj n _ hn
     rw [ra.2] at one
     exact one (.dT h1) rfl (by simp)
    ·cases e1
   | ty _=>cases e1
  ·cases e
 ·cases e
end
end Mi

namespace Mi
open PySem PySem.Spec PyProof.Rows L2

structure Cal (P:Program) (w:World) (K:PySem.W.Frag) (mg:Str->Option Value) (base:Heap) (k:Nat) (x:Str) (ps:List Str) (g:FM):Prop where
 ex:∃ (f:Addr) (fd:FuncData),FnOk P w K mg base CX0 k f fd ps (spM K ps.length g)/\mg x=some (.ref f)/\PySem.W.keepIn K (.ref f)=true/\Binds K fd ps []/\∃ (oc:Value) (od:Option Addr) (osl:Array (Option Value)),K.lookup f=some ⟨oc,od,.func fd,osl⟩
structure DefAt (K:PySem.W.Frag) (mg:Str->Option Value) (x:Str) (st:Stmt) (ps:List Str):Prop where
 ex:∃ (f:Addr) (fd:FuncData),Fun K x x st f fd/\mg x=some (.ref f)/\Binds K fd ps []
theorem QH {K:PySem.W.Frag} {h:Heap} {mg:Str->Option Value} {x:Str} {st:Stmt} {ps:List Str} {f:Addr} {oc:Value} {od an:Option Addr} {sl:Array (Option Value)} {kV doc pm cd ct:Value} (X:K.In h) (G:h.Ns mainGlobals mg)
  (a:PySem.W.nsIn K mainGlobals x=some (some (.ref f))) (l:K.lookup f=some ⟨oc,od,.func (PySem.W.fnOf x x (VZ st) (J9 st) (Qp st) .none kV doc pm an cd ct),sl⟩) (c:PySem.W.codeIn K cd x=true) (k:PySem.W.keepIn K (.ref f)=true)
  (b:∀ (kV doc pm:Value) (an:Option Addr) (cdv ct:Value) (us:List Value),us.length=ps.length->bindArgs (PySem.W.fnOf x x (VZ st) (J9 st) (Qp st) .none kV doc pm an cdv ct) ⟨us,[]⟩=pure (ps.zip us)):DefAt K mg x st ps:=
 ⟨f,_,QdM l c k,PySem.W.mg_of X G a,(QdM l c k).binds b⟩
structure Glob (K:PySem.W.Frag) (mg:Str->Option Value) (x:Str) (w:W):Prop where
 ex:∃ (v:V) (u:Value),mg x=some u/\RelV v u/\∀ R,Rw K R w v
theorem Qid {K:PySem.W.Frag} {h:Heap} {mg:Str->Option Value} {x:Str} {i:Int} {t:Tok} (X:K.In h) (G:h.Ns mainGlobals mg) (a:PySem.W.nsIn K mainGlobals x=some (some (.int i t))):Glob K mg x (.int i):=
 ⟨.int i,_,PySem.W.mg_of X G a,⟨t,rfl⟩,fun _=>Rw.int i⟩
noncomputable def QhD:List Str->List W:=List.map W.str
theorem Uu {K:PySem.W.Frag} {R:Rn}:∀ (ys:List Str),Rws K R (QhD ys) (ys.map V.str)
 | []=>Rws.nil
 | y::ys=>Rws.cons (Rw.str y) (Uu ys)
theorem Wm:∀ {its:List Value} {ys:List Str},StrsAre its ys->Vals (ys.map V.str) its
 | _,_,.nil=>.nil
 | _,_,.cons y t r=>.cons ⟨t,rfl⟩ (Wm r)
theorem QgD {K:PySem.W.Frag} {h:Heap} {mg:Str->Option Value} {x:Str} {c:Addr} {dd:Option Addr} {its:Array Value} {n:Nat} {sl:Array (Option Value)} {ys:List Str} (X:K.In h) (G:h.Ns mainGlobals mg) (a:PySem.W.nsIn K mainGlobals x=some (some (.ref c)))
  (l:K.lookup c=some ⟨.type "tuple",dd,.seq its n,sl⟩) (hz:its.size<=sizeLine) (hs:StrsAre its.toList ys):Glob K mg x (.tup (QhD ys)):=
 ⟨.ref c,_,PySem.W.mg_of X G a,rfl,fun R=>by
  unfold Rw
  exact ⟨c,_,rfl,.inr ⟨_,its,n,l,rfl,rfl,hz,Wm hs⟩,Uu ys⟩⟩
section
variable {X:Cx} {k n:Nat} {g:FM} {x:Str} {ps:List Str} {p pos:Pos} {e:Expr} {es:List Expr} {ms:MA}
theorem Qi (C:Cal X.prog X.w X.K X.mg X.base k x ps g) (hr:Room k X.A) (hg:Gl X x) (ha:PMA X (e::es) ms) (hn:ps.length=n:=by rfl)
  (hdb:(x == ("__debug__":Str))=false:=by decide) (he:VC e=false:=by rfl) (hpl:VV es=true:=by rfl) :
  PM X (.Call (.Name x p) (e::es) [] pos) (Qv n g ms):=by
 obtain ⟨f,fd,F,hm,hk,hb,_⟩:=C.ex
 subst hn
 exact Qe2 F hr hg hm hk hb QjK ha hdb he hpl
theorem QcL {T:String} (hg:Gl X x) (hm:X.mg x=none) (hv:bootBuiltins x=some (.type T)) (hn:x≠"__name__":=by decide) (hd:(x == ("__debug__":Str))=false:=by decide):PM X (.Name x pos) (mC (.ty T)):=
 QfS hg hm hv (v:=.ty T) rfl (fun _=>Rw.ty _) hn hd
end
section
variable {P:Program} {w:World} {K:PySem.W.Frag} {mg:Str->Option Value} {base:Heap}
theorem Zk {x:Str} {st:Stmt} {N ps:List Str} {k more:Nat} {m:SM} (d:DefAt K mg x st ps) (S:FnScope N ps (Qp st)) (hN:N.length=ps.length+more)
  (hbody:∀ (f:Addr) (cdv:Value) (A:Around) (outer:List Env) (s:Shared) (H:Hp) (E:XK),Room k (A.deeper (envOfC x (Qp st) s.heap.objs.size f cdv))->Qb1 (QdK CX0 P w K mg base N x (Qp st) f cdv A outer s H E).nox (J9 st) m) :
  Cal P w K mg base (k+1) x ps (Zo more m):=by
 obtain ⟨f,fd,F,hm,hb⟩:=d.ex
 obtain ⟨oc,od,kV,doc,pm,an,cdv,ct,osl,e,lk,hcd⟩:=F.ex
 exact ⟨f,fd,QiL F S hN (fun cdv A outer s H E hr=>hbody f cdv A outer s H E hr),hm,F.kp,hb,oc,od,osl,lk⟩
theorem Cal.imp {x:Str} {ps:List Str} {k:Nat} {g g':FM} (C:Cal P w K mg base k x ps g) (h:∀ vs H Q E,spM K ps.length g' vs H Q E->spM K ps.length g vs H Q E):Cal P w K mg base k x ps g':=by
 obtain ⟨f,fd,F,r⟩:=C.ex
 exact ⟨f,fd,F.imp h,r⟩
theorem Cal.eq {x:Str} {ps:List Str} {k:Nat} {g g':FM} (C:Cal P w K mg base k x ps g) (h:∀ ws hp r,ws.length=ps.length->g' ws hp=some r->g ws hp=some r):Cal P w K mg base k x ps g':=
 C.imp fun _ _ _ _ ⟨R,ws,hp,w,h',hl,rh,rws,e,k⟩=>⟨R,ws,hp,w,h',hl,rh,rws,h ws hp _ hl e,k⟩
end
theorem Ux {K:PySem.W.Frag} {R:Rn}:∀ (ns:List Int),Rws K R (ns.map W.int) (ns.map V.int)
 | []=>Rws.nil
 | n::ns=>Rws.cons (Rw.int n) (Ux ns)
theorem Qjv {l:PySem.W.OpenLaw} {q:Program} {loose:List Str} {XP:(Str->Option Value)->Heap->Prop} {YP:World->Heap->Prop} {d:DefRec} {K:Params->PySem.W.Frag} {st:Stmt} {sem:FM} {k:Nat} (hn:l.most=some 63) (hdf:d.params.defaults=[]) (hr:Room k callerA) (hdn:d.name="law")
  (hY:∀ (w:World) (h:Heap),YP w h->(K w.params).In h)
  (hb:∀ (kV doc pm:Value) (an:Option Addr) (cdv ct:Value) (s:Shared) (u:Value),BindsTo s (PySem.W.fnOf "law" "law" (VZ st) (J9 st) (Qp st) .none kV doc pm an cdv ct) ⟨[u],[]⟩ [("script",u)])
  (F:∀ (w:World) (mg:Str->Option Value) (h:Heap),(K w.params).In h->h.Ns mainGlobals mg ->
   DefAt (K w.params) mg "law" st ["script"]/\∀ base:Heap,(K w.params).In base->base.Ns mainGlobals mg->Cal l.prog w (K w.params) mg base k "law" ["script"] sem)
  (main:∀ ns:List Int,ns.length<=63->∃ h',sem [.frz (ns.map W.int)] []=some (.bl true,h')) :
  PySem.W.WalkO q loose XP YP l.row.toRowW d [] (fun f vs=>PySem.call f vs):=by
 refine L2.QfR (n:=63) (k:=k) (x:="script") (CX:=fun _=>CX0) (sp:=fun w=>spM (K w.params) 1 sem) hn (by decide) hdf hr hY ?_ ?_ fun _ _ _ _ _ z=>z
 ·intro w mg fa h KX G hmg
  obtain ⟨D,Fn⟩:=F w mg h KX G
  obtain ⟨f,fd,Fu,hm,_⟩:=D.ex
  rw [hdn] at hmg
  rw [hm] at hmg
  cases hmg
  obtain ⟨oc,od,kV,doc,pm,an,cdv,ct,osl,e,lk,hcd⟩:=Fu.ex
  refine ⟨fd,fun s u=>?_,fun base kb nb=>?_⟩
  rotate_left
  ·obtain ⟨f',fd',F',hm',_,_,oc',od',osl',lk'⟩:=(Fn base kb nb).ex
   rw [hm] at hm'
   cases hm'
   rw [lk] at lk'
   cases lk'
   exact F'
  rw [e]
  exact hb kV doc pm an cdv ct s u
 ·intro w H a ns hl hO hS
  obtain ⟨h',e⟩:=main ns hl
  refine ⟨⟨fun _=>0,0,H,fun _=>none⟩,[.frz (ns.map W.int)],[],.bl true,h',rfl,⟨rfl,fun _ _ z=>z,fun n hn=>absurd hn (Nat.not_lt_zero _),fun m n hm=>absurd hm (Nat.not_lt_zero _),(fun n o z=>by simp at z),(fun _ _ z=>by cases z),(fun _ _=>rfl),(fun _ _ z=>by cases z)⟩,?_,e,fun R' H' v _ _ rv=>rv.bl_eq⟩
  refine Rws.cons ?_ Rws.nil
  unfold Rw
  exact ⟨a,_,rfl,hS,Ux ns⟩
end Mi

namespace Mi
open PySem PySem.Spec PyProof.Rows L2

noncomputable def Qa7 (scope:Scope):Bool:=scope.names.all fun y=>y.2 != .cell && (y.2 != .local || scope.names.lookup y.1 == some .local)
noncomputable def QiQ (N:List Str) (xs scope:Scope) (cp:List (Option Nat)) (Nb:List Str):Bool:=(cp.zip Nb).all fun p=>match p.1 with
 | none=>true
 | some j=>N[j]? == some p.2 && (xs.names.lookup p.2 == some .cell || xs.names.lookup p.2 == some .free) && scope.names.lookup p.2 == some .free
noncomputable def Qdw (scope:Scope) (ks:List Str):Bool:=scope.names.all fun y=>y.2 != .free || ks.contains y.1
theorem JK {env:Env}:∀ {names:List (Str×NameKind)} {x:Str},names.lookup x=some .free ->
  (names.map fun (n,k)=>if (k == NameKind.free && env.scope.kind == .function && env.kindOf n == some .cell) then (n,NameKind.cell) else (n,k)).lookup x=some .cell \/
  (names.map fun (n,k)=>if (k == NameKind.free && env.scope.kind == .function && env.kindOf n == some .cell) then (n,NameKind.cell) else (n,k)).lookup x=some .free
 | [],_,h=>by simp at h
 | (n,k)::r,x,h=>by
  have ih:=@JK env r x
  rw [List.map_cons]
  dsimp only
  cases hx:x == n with
  | true=>
   simp only [List.lookup_cons,hx] at h
   cases h
   by_cases hc:(NameKind.free == NameKind.free && env.scope.kind == .function && env.kindOf n == some .cell)=true
   ·rw [if_pos hc];exact .inl (by simp [List.lookup_cons,hx])
   ·rw [if_neg hc];exact .inr (by simp [List.lookup_cons,hx])
  | false=>
   simp only [List.lookup_cons,hx] at h
   by_cases hc:(k == NameKind.free && env.scope.kind == .function && env.kindOf n == some .cell)=true
   ·rw [if_pos hc];simp only [List.lookup_cons,hx];exact ih h
   ·rw [if_neg hc];simp only [List.lookup_cons,hx];exact ih h
theorem ZJ {env:Env}:∀ {names:List (Str×NameKind)} {x:Str} {k':NameKind},(∀ y∈names,y.2≠.cell)->(k'=.cell\/k'=.free) ->
  (names.map fun (n,k)=>if (k == NameKind.free && env.scope.kind == .function && env.kindOf n == some .cell) then (n,NameKind.cell) else (n,k)).lookup x=some k'->(x,NameKind.free)∈names
 | [],_,_,_,_,h=>by simp at h
 | (n,k)::r,x,k',hn,hk,h=>by
  rw [List.map_cons] at h
  dsimp only at h
  have ih:=@ZJ env r x k' (fun y hy=>hn y (List.mem_cons_of_mem _ hy)) hk
  cases hx:x == n with
  | true=>
   have:x=n:=eq_of_beq hx
   subst this
   by_cases hc:(k == NameKind.free && env.scope.kind == .function && env.kindOf x == some .cell)=true
   ·have:k=.free:=by
     simp only [Bool.and_eq_true,beq_iff_eq] at hc;exact hc.1.1
    subst this
    exact List.mem_cons_self
   ·rw [if_neg hc] at h
    simp [List.lookup_cons] at h
    subst h
    rcases hk with z | z
    ·exact absurd z (hn (x,k) List.mem_cons_self)
    ·subst z;exact List.mem_cons_self
  | false=>
   refine List.mem_cons_of_mem _ (ih ?_)
   by_cases hc:(k == NameKind.free && env.scope.kind == .function && env.kindOf n == some .cell)=true
   ·rw [if_pos hc] at h;simpa only [List.lookup_cons,hx] using h
   ·rw [if_neg hc] at h;simpa only [List.lookup_cons,hx] using h
theorem Gd {cl:List (Str×Addr)} {x:Str} {c:Addr} (h:cl.lookup x=some c):(x,c)∈cl:=by
 induction cl with
 | nil=>simp at h
 | cons p r ih=>
  obtain ⟨n,a⟩:=p
  cases hx:x == n with
  | true=>
   simp only [List.lookup_cons,hx] at h
   cases h
   rw [eq_of_beq hx];exact List.mem_cons_self
  | false=>
   simp only [List.lookup_cons,hx] at h
   exact List.mem_cons_of_mem _ (ih h)
theorem K4 {cl:List (Str×Addr)} {x:Str} (h:x∈cl.map (·.1)):∃ c,cl.lookup x=some c:=by
 induction cl with
 | nil=>simp at h
 | cons p r ih=>
  obtain ⟨n,a⟩:=p
  cases hx:x == n with
  | true=>exact ⟨a,by simp only [List.lookup_cons,hx]⟩
  | false=>
   rcases List.mem_cons.mp h with z | z
   ·dsimp only at z;rw [z,beq_self_eq_true] at hx;cases hx
   ·obtain ⟨c,hc⟩:=ih z
    exact ⟨c,by simp only [List.lookup_cons,hx];exact hc⟩
theorem KS {X:Cx} {scope xs:Scope} {cl:List (Str×Addr)} {N Nb ks:List Str} {cp:List (Option Nat)} (clos:closureFor scope X.env=pure cl) (kind:scope.kind=.function) (hs:Qa7 scope=true) (hk:cl.map (·.1)=ks) (hks:Qdw scope ks=true)
  (hsub:∀ p∈cl,X.env.cells.lookup p.1=some p.2) (hN:X.N=N) (hx:X.env.scope=xs) (hl:cp.length=Nb.length) (hc:QiQ N xs scope cp Nb=true):BlkOk X scope cl Nb cp:=by
 have hcell:∀ y∈scope.names,y.2≠.cell:=fun y hy=>by
  have:=List.all_eq_true.mp hs y hy
  simp only [Bool.and_eq_true,bne_iff_ne] at this
  exact this.1
 refine ⟨clos,hcell,kind,fun y hy hl=>?_,fun x c h=>hsub _ (Gd h),fun x h=>?_,hl,fun i j x h1 h2=>?_⟩
 ·have:=List.all_eq_true.mp hs y hy
  simp only [Bool.and_eq_true,Bool.or_eq_true,bne_iff_ne,beq_iff_eq] at this
  rcases this.2 with z | z
  ·exact absurd hl z
  ·exact z
 ·have hm:(x,NameKind.free)∈scope.names:=by
   rcases h with h | h
   ·exact ZJ hcell (.inl rfl) h
   ·exact ZJ hcell (.inr rfl) h
  have:=List.all_eq_true.mp hks _ hm
  simp only [Bool.or_eq_true,bne_iff_ne,ne_eq,not_true_eq_false,false_or,List.contains_iff_mem] at this
  exact K4 (by rw [hk];exact this)
 ·have hz:(cp.zip Nb)[i]?=some (some j,x):=by rw [List.getElem?_zip_eq_some];exact ⟨h1,h2⟩
  have:=List.all_eq_true.mp hc _ (List.mem_of_getElem? hz)
  simp only [Bool.and_eq_true,Bool.or_eq_true,beq_iff_eq] at this
  obtain ⟨⟨a,b⟩,c⟩:=this
  refine ⟨by rw [hN];exact a,?_,?_,JK c⟩
  ·rw [hx]
   rcases b with b | b
   ·exact .inr (.inl b)
   ·exact .inr (.inr b)
  ·unfold Env.kindOf
   rw [hx];exact b
theorem Jn {X:Cx} {scope:Scope} {Nb:List Str} {cp:List (Option Nat)} (kind:scope.kind=.function) (hs:Qa7 scope=true) (hks:Qdw scope []=true) (hl:cp.length=Nb.length) (hc:cp.all (·.isNone)=true):BlkOk X scope [] Nb cp:=by
 have hfree:∀ y∈scope.names,y.2≠.free:=fun y hy z=>by
  have:=List.all_eq_true.mp hks y hy
  simp [z] at this
 have hcell:∀ y∈scope.names,y.2≠.cell:=fun y hy=>by
  have:=List.all_eq_true.mp hs y hy
  simp only [Bool.and_eq_true,bne_iff_ne] at this
  exact this.1
 refine ⟨closureFor_none hfree,hcell,kind,fun y hy hl=>?_,fun x c h=>by simp at h,fun x h=>?_,hl,fun i j x h1 h2=>?_⟩
 ·have:=List.all_eq_true.mp hs y hy
  simp only [Bool.and_eq_true,Bool.or_eq_true,bne_iff_ne,beq_iff_eq] at this
  rcases this.2 with z | z
  ·exact absurd hl z
  ·exact z
 ·have hm:(x,NameKind.free)∈scope.names:=by
   rcases h with h | h
   ·exact ZJ hcell (.inl rfl) h
   ·exact ZJ hcell (.inr rfl) h
  exact absurd rfl (hfree _ hm)
 ·have:=List.all_eq_true.mp hc _ (List.mem_of_getElem? h1)
  simp at this
end Mi

namespace Mi
open PySem PySem.Spec PyProof.Rows L2
theorem Zl (items:List W) (h:MH):live none items h:=fun _ z=>by cases z
theorem VO {fin:List W->MH->Option (W×MH)} {items:List W} {mt:MT} {me:ME} {caps:MSt} {h:MH} {f:W->W} {p:W->Bool}:∀ (rest acc:List W) (o:Option W),
  (∀ w∈rest,mt (some w::caps) h=some (p w,h))->(∀ w∈rest,p w=true->me (some w::caps) h=some (f w,h))->acc.length+rest.length<=sizeLine ->
  ZK fin items none (Jy 0) mt me rest acc (o::caps) h=fin (acc++(rest.filter p).map f) h
 | [],acc,o,_,_,_=>by
  unfold ZK
  rw [if_pos (Zl _ _)];simp
 | w::rest,acc,o,ht,he,hl=>by
  unfold ZK
  rw [if_pos (Zl _ _)]
  have h1:Jy 0 w (o::caps) h=some (some w::caps):=rfl
  rw [h1,Option.bind_some,ht w List.mem_cons_self,Option.bind_some]
  have hl':acc.length+(rest.length+1)<=sizeLine:=by simpa using hl
  cases hp:p w with
  | true=>
   simp only [hp]
   rw [he w List.mem_cons_self hp,Option.bind_some,if_pos (by omega)]
   rw [VO rest (acc++[f w]) (some w) (fun x hx=>ht x (List.mem_cons_of_mem _ hx)) (fun x hx=>he x (List.mem_cons_of_mem _ hx)) (by simp;omega)]
   simp [List.filter_cons,hp]
  | false=>
   simp only [hp]
   rw [VO rest acc (some w) (fun x hx=>ht x (List.mem_cons_of_mem _ hx)) (fun x hx=>he x (List.mem_cons_of_mem _ hx)) (by omega)]
   simp [List.filter_cons,hp]
theorem Qcg {items:List W} {b:MG} {body:SM} {σ:MSt} {h:MH}:VA items none b body [] σ h=some (.nx σ h):=by
 rw [VA,if_pos (Zl _ _)]
end Mi

namespace Mi
open PySem PySem.Spec PyProof.Rows L2
section
variable {σ σ1:MSt} {h h1 h2 h3:MH} {a b c w:W} {ws:List W} {ma mb mc:ME} {ms:MA} {mt mu:MT} {s1 s2:SM} {f f':W->W->MH->Option (W×MH)} {g:List W->MH->Option (W×MH)} {z:MF}
end
theorem Qbx {i j:Int} {h:MH} (c:(-(2 ^ 64) < i/\i < 2 ^ 64)\/(-(2 ^ 64) < j/\j < 2 ^ 64)):Qgu (.int i) (.int j) h=some (.int (i*j),h):=by unfold Qgu;exact if_pos c
theorem Qeb {i j:Int} {h:MH} (c:0 < j/\j < 1073741824):Qe3 (.int i) (.int j) h=some (.int (i / j),h):=by unfold Qe3;exact if_pos c
theorem Qe7 {i j:Int} {h:MH} (c:0 < j):Qas (.int i) (.int j) h=some (.int (i % j),h):=by unfold Qas;exact if_pos c
theorem QeW {i j:Int} {h:MH} (c:0<=j/\j<=1000000/\i.natAbs < 2 ^ 64):QeJ (.int i) (.int j) h=some (.int (i ^ j.toNat),h):=by unfold QeJ;exact if_pos c
theorem QfL {x:Str} {i:Int} {h:MH} {d:Nat} (hl:x.length<=sizeLine) (e:atI x.cps.toList i=some d):wIx (.str x) (.int i) h=some (.str ⟨#[d]⟩,h):=by
 unfold wIx;simp only;rw [if_pos hl,e];rfl
end Mi

namespace Mi
open PySem PySem.Spec PyProof.Rows L2
noncomputable def Qb3 (mo mi mv:ME):SM:=fun σ h=>(mv σ h).bind fun v=>(mo σ v.2).bind fun o=>(mi σ o.2).bind fun i=>match o.1,i.1 with
 | .ref n,.int k=>match i.2[n]? with
  | some (.lst xs)=>(ixN xs.length k).map fun j=>.nx σ (i.2.set n (.lst (xs.set j v.1)))
  | _=>none
 | _,_=>none
section
variable {X:Cx} {o i e:Expr} {mo mi mv:ME} {pos pos':Pos}
theorem QgU {K:PySem.W.Frag} {D:L2.Ends} {σ:L2.St} {H:Hp} (q:tS K (Qb3 mo mi mv) D σ H):Qie (tI K mv) (QkD (tI K mo) (tI K mi) Qg6) D σ H:=by
 obtain ⟨R,σi,h,r,rh,s,e,k⟩:=q
 obtain ⟨⟨v,h1⟩,e1,e2⟩:=Option.bind_eq_some_iff.mp e
 obtain ⟨⟨ob,h2⟩,e3,e4⟩:=Option.bind_eq_some_iff.mp e2
 obtain ⟨⟨ix,h3⟩,e5,e6⟩:=Option.bind_eq_some_iff.mp e4
 refine ⟨R,σi,h,v,h1,rh,s,e1,fun R1 H1 x x1 rh1 rx=>⟨R1,σi,h1,ob,h2,rh1,s.mono x1,e3,fun R2 H2 y x2 rh2 ry=>⟨R2,σi,h2,ix,h3,rh2,s.mono (x1.trans x2),e5,fun R3 H3 z x3 rh3 rz=>?_⟩⟩⟩
 dsimp only at e6
 split at e6
 ·rename_i n kk
  split at e6
  ·rename_i xs hn
   obtain ⟨j,e7,e8⟩:=Option.map_eq_some_iff.mp e6
   cases e8
   obtain ⟨hlt,ey,xv,h4,r4⟩:=rh3.refAt (Rw.mono x3 _ _ ry) hn
   refine ⟨_,xv,kk,j,ey,rz.int_eq,h4,by rw [<- r4.length];exact e7,?_⟩
   exact k R3 _ σ (x1.trans (x2.trans x3)) (rh3.put hlt ⟨_,rfl,r4.set j (Rw.mono (x2.trans x3) _ _ rx)⟩) (s.mono (x1.trans (x2.trans x3)))
  ·cases e6
 ·cases e6
theorem V4 (ho:PM X o mo) (hi:PM X i mi) (he:PM X e mv)
  (ha:∀ v,assign (.Subscript o i pos') X.env v=(do
   let ov <- holding [v] (eval o X.env)
   let iv <- holding [v,ov] (eval i X.env)
   standAt pos'
   holding [v,ov,iv] (setItem ov iv v)
   release [v,ov,iv] []):=by intro _;rfl)
  (hs:Wk e=false:=by rfl) (hw:swappedStores [.Subscript o i pos'] e X.env=pure none:=by rfl):PMS X (.Assign [.Subscript o i pos'] e pos) (Qb3 mo mi mv):=
 VG (Qdx he (Qgx ho hi set_list ha) (show swapsWith e (some (.Subscript o i pos')) pos.line X.env=pure false from XO hs) hw rfl) fun _ _ _=>QgU
end
section
variable {X:Cx} {o i e:Expr} {mo mi mv:ME} {pos pos':Pos}
end
end Mi

namespace Mi
open PySem PySem.Spec PyProof.Rows L2
end Mi

namespace Mi
open PySem PySem.Spec PyProof.Rows L2 PySem.SeqAt
noncomputable def Wr (a:W) (ws:List W) (h:MH):Option (W×MH):=match ws with
 | [w]=>(lsW h a).bind fun ys=>(drf h 40 w).bind fun x=>(ZV (drf h 40) ys).bind fun zs=>(zs.findIdx? fun y=>eqW y x).map fun j=>(.int (j:Nat),h)
 | _=>none
theorem QaK {X:Cx} (hu:X.A.units+64 < cLine):Qb2 X "list.index" Wr:=by
 intro pins s σ H x xs v us Q I rx rv q
 obtain ⟨R,h,a,ws,w,h',rh,ra,rws,e,k⟩:=q
 unfold Wr at e
 split at e
 ·rename_i w1
  obtain ⟨ys,e1,e⟩:=Option.bind_eq_some_iff.mp e
  obtain ⟨x',e2,e⟩:=Option.bind_eq_some_iff.mp e
  obtain ⟨zs,e3,e⟩:=Option.bind_eq_some_iff.mp e
  obtain ⟨j,e4,e5⟩:=Option.map_eq_some_iff.mp e
  cases e5
  obtain ⟨y,rfl,ry⟩:=Gc rws
  obtain ⟨u,rfl,ru⟩:=Uc rv
  obtain ⟨ad,xv,rfl,q1,r1⟩:=rh.lsAt ra e1
  cases rx
  obtain ⟨its,t1,p1,hz⟩:=I.list q1
  have hu':X.A.in1.units+40 < cLine:=by show X.A.units+1+40 < cLine;omega
  have l1:=r1.length;have l2:=t1.length;have l3:=(QN e3).1
  obtain ⟨hj,hhit,hbefore⟩:=List.findIdx?_eq_some_iff_getElem.mp e4
  have at_:∀ m (hm:m < its.toArray.size),GU X.K R h x' its.toArray[m]=eqW (zs[m]'(by rw [List.size_toArray] at hm;omega)) x':=by
   intro m hm
   rw [List.size_toArray] at hm
   obtain ⟨w2,hw2⟩:∃ w2,ys[m]?=some w2:=⟨ys[m]'(by omega),List.getElem?_eq_getElem _⟩
   obtain ⟨v2,hv2,rv2⟩:=r1.get hw2
   obtain ⟨u2,hu2,ru2⟩:=t1.get hv2
   obtain ⟨b,hb,eb⟩:=(QN e3).2 m w2 hw2
   have eu:its.toArray[m]=u2:=by have:=hu2;rw [List.getElem?_eq_getElem hm] at this;simpa using this
   have ez:zs[m]'(by omega)=b:=by have:=hb;rw [List.getElem?_eq_getElem (by omega)] at this;simpa using this
   rw [eu,ez]
   exact Up I rh rv2 ru2 eb
  obtain ⟨ob,n,ho,hc,hdd,hd⟩:=p1
  obtain ⟨cls,dd,data,sl⟩:=ob
  simp only at hc hd
  subst hc hd
  have hjs:j < its.toArray.size:=by rw [List.size_toArray];omega
  refine call_meets PySem.F.slot_list_index ⟨_,ho,rfl⟩ PySem.F.entry_list_index (PySem.F.args_list_index_2 _ _)
   (list_indexAt ad its.toArray n dd sl u (GU X.K R h x') j hjs ?_ ?_ ?_) ⟨ho,fun z hz'=>Xn I rh hu' ry ru e2 r1 t1 e3 z (by simpa using hz'),?_⟩
  ·have:(sizeLine:Nat) < 2 ^ 62:=by decide
   have hj2:j < 2 ^ 62:=by omega
   omega
  ·rw [at_ j hjs];exact hhit
  ·intro m hm hmj
   rw [at_ m hm]
   simpa using hbefore m hmj
  ·exact ⟨.int j,H,I.tok _,⟨_,rfl⟩,k R H _ (Ext.refl _) rh (Rw.int _)⟩
 ·cases e
end Mi

namespace Mi
open PySem PySem.Spec PyProof.Rows L2
inductive TabIs:List DictEntry->List (Str×Int)->Prop where
 | nil:TabIs [] []
 | cons {e:DictEntry} {x:Str} {i:Int} {t t':Tok} {es:List DictEntry} {tab:List (Str×Int)} (hk:e.key=.str x t) (hv:e.val=.int i t') (r:TabIs es tab):TabIs (e::es) ((x,i)::tab)
structure GTab (w:World) (K:PySem.W.Frag) (mg:Str->Option Value) (x:Str) (tab:List (Str×Int)):Prop where
 ex:∃ (a:Addr) (es:List DictEntry) (n:Nat),mg x=some (.ref a)/\K.lookup a=some ⟨.type "dict",none,.dict es.toArray n,#[]⟩/\PySem.W.KeysLit w.params es/\(a == sysModules)=false/\TabIs es tab
theorem Qjy {w:World} {K:PySem.W.Frag} {h:Heap} {mg:Str->Option Value} {x:Str} {c:Addr} {es:List DictEntry} {n:Nat} {tab:List (Str×Int)} (X:K.In h) (G:h.Ns mainGlobals mg) (a:PySem.W.nsIn K mainGlobals x=some (some (.ref c)))
  (l:K.lookup c=some ⟨.type "dict",none,.dict es.toArray n,#[]⟩) (k:PySem.W.KeysLit w.params es) (s:(c == sysModules)=false) (t:TabIs es tab):GTab w K mg x tab:=
 ⟨c,es,n,PySem.W.mg_of X G a,l,k,s,t⟩
section
variable {X:Cx} {c:Addr} {es:List DictEntry} {n:Nat} {tab:List (Str×Int)}
variable {a:Expr} {ma:ME} {x:Str} {pos pos':Pos}
end
end Mi

namespace Mi
open PySem PySem.Spec PyProof.Rows L2
theorem Qfz (a b:Int) (h:MH):wEq (.int a) (.int b) h=some (.bl (a == b),h):=by unfold wEq;simp [drf,eqW]
theorem Qet (a b:Str) (h:MH):wEq (.str a) (.str b) h=some (.bl (a == b),h):=by unfold wEq;simp [drf,eqW]
theorem Gu (lo:Int) (n:Nat):(QR lo n).length=n:=by unfold QR;simp
end Mi

namespace Mi
open PySem PySem.Spec PyProof.Rows L2
end Mi

namespace Mi
open PySem PySem.Spec PyProof.Rows L2
noncomputable def Qic (lo c:Int) (n:Nat):It:=⟨fun i _=>i < n,fun i H x H'=>H'=H/\x=.int (lo+i*c),fun i _=>n<=i⟩
theorem Qay {P:Program} {w:World} {K:PySem.W.Frag} {tg:Expr} (it:Addr) (lo c:Int) (n:Nat):Turn P w K tg (Qic lo c n) [it] it (fun i h=>IsRangeIter h it (lo+(i:Nat)*c) ((n:Int) - (i:Nat)) c) where
 mem:=by simp
 obj:=fun i h st b hb=>by
  have e:b=it:=by simpa using hb
  subst e
  exact ⟨_,st,fun v z=>by
   have z':Data.fields _=Data.cell v:=z
   cases z'⟩
 keep:=fun i h h' st k=>k it (by simp) _ st
 item:=by
  intro X hP hw hK hc i pins s σ H E I hf st hg
  subst hP hw hK
  obtain ⟨f0,f1,f2,f3,f4,f5⟩:=hf it (by simp)
  have W:=Walks.range (prog:=X.prog) (w:=X.w) (I.ok.hd hc) it lo c n
  refine W.item i s _ _ hg st fun v h' tk hv st' kk=>?_
  obtain ⟨t,rfl⟩:=hv
  have I1:Inv X pins σ H { s with heap:=h',toks:=tk }:=I.turned (fun b o hb e=>kk b o (by simpa using hb) e) f0 f1 f3 f4 f5
  exact ⟨_,rfl,Qbm (s:={ s with heap:=h',toks:=tk }) (n:="range_iterator") st' rfl rfl (by decide) ⟨.int (lo+i*c),H,I1,⟨t,rfl⟩,⟨rfl,rfl⟩,st',fun b hb=>(hf b hb).1⟩⟩
 done:=by
  intro X hP hw hK hc i pins s σ H E I hf st hg
  subst hP hw hK
  obtain ⟨f0,f1,f2,f3,f4,f5⟩:=hf it (by simp)
  exact wpAny_pyNext_range_end (I.ok.hd hc) st (by have:n<=i:=hg;omega) fun h' eb=>⟨rfl,I.turned (t':=s.toks) (fun b o hb e=>eb b o hb e) f0 f1 f3 f4 f5⟩
 self:=fun _ _ _ _ _ st h=>wpAny_pyIter_rangeiter st h
theorem Y7 {a b c:Int} (hc:c≠0):0<=Builtin.Range.rangeSize a b c:=by
 unfold Builtin.Range.rangeSize
 split
 ·split
  ·have:0<=(b - a - 1) / c:=Int.ediv_nonneg (by omega) (by omega)
   omega
  ·exact Int.le_refl _
 ·split
  ·have:0<=(a - b - 1) / (-c):=Int.ediv_nonneg (by omega) (by omega)
   omega
  ·exact Int.le_refl _
section
variable {X:Cx} {tg:Expr}
theorem Qfh {pins:List (Addr×Obj)} {σ:L2.St} {H:Hp} {s:Shared} {R:It->Hp->Prop} {E:Value->Shared->Prop} {lo hi c:Int} {t u v:Tok} {tk:Nat} (I:Inv X pins σ H s) (hc:c≠0) (h1:Builtin.Range.small lo hi c=true)
  (q:R (Qic lo c (Builtin.Range.rangeSize lo hi c).toNat) H):wpAny (model X.prog X.w) X.A (pyIter (.ref s.heap.objs.size)) (PIE X pins σ tg R) E { s with heap:=s.heap.push { cls:=.type "range",data:=.fields #[.int lo t,.int hi u,.int c v] },toks:=tk }:=by
 refine wpAny_pyIter_range (IsRange.new ..) h1 ?_
 have I1:Inv X pins σ H { s with heap:=s.heap.push { cls:=.type "range",data:=.fields #[.int lo t,.int hi u,.int c v] },toks:=tk }:=I.kept fun b o e=>Heap.get?_push_of_some _ e
 refine ⟨(s.heap.push { cls:=.type "range",data:=.fields #[.int lo t,.int hi u,.int c v] }).objs.size,[(s.heap.push { cls:=.type "range",data:=.fields #[.int lo t,.int hi u,.int c v] }).objs.size],_,_,H,rfl,
  I1.kept (t':=tk) fun b o e=>Heap.get?_push_of_some _ e,Qay _ lo c (Builtin.Range.rangeSize lo hi c).toNat,?_,fun b hb=>?_,q⟩
 ·have e1:lo+((0:Nat):Int)*c=lo:=by simp
  have e2:(((Builtin.Range.rangeSize lo hi c).toNat:Nat):Int) - ((0:Nat):Int)=Builtin.Range.rangeSize lo hi c:=by
   have:=Y7 (a:=lo) (b:=hi) hc
   omega
  show IsRangeIter _ _ (lo+((0:Nat):Int)*c) ((((Builtin.Range.rangeSize lo hi c).toNat:Nat):Int) - ((0:Nat):Int)) c
  rw [e1,e2]
  exact Heap.get?_push_size _ rfl
 ·have e:b=(s.heap.push { cls:=.type "range",data:=.fields #[.int lo t,.int hi u,.int c v] }).objs.size:=by simpa using hb
  subst e
  exact I1.fpOk (Nat.le_refl _) (I1.hok.fresh (Nat.le_refl _))
noncomputable def QiY (ta:TA):TI:=fun σ H R=>ta σ H fun vs H1=>∃ i j c:Int,vs=[.int i,.int j,.int c]/\(c≠0/\c.natAbs < 1073741824/\Builtin.Range.small i j c=true)/\R (Qic i c (Builtin.Range.rangeSize i j c).toNat) H1
theorem QbF {a b d:Expr} {ta:TA} {p pos:Pos} (hg:Gl X "range") (hm:X.mg "range"=none) (ha:PA X [a,b,d] ta) (hs:starEach [a,b,d] X.env=[(false,eval a X.env),(false,eval b X.env),(false,eval d X.env)]:=by rfl) (hs2:starEach [b,d] X.env=[(false,eval b X.env),(false,eval d X.env)]:=by rfl) :
  PI X tg (.Call (.Name "range" p) [a,b,d] [] pos) (QiY ta):=by
 intro pins s σ H R I h
 refine Call_ (Vz I hg hm boot_range (PyProof.Rows.callWith_type1 (thn (ha pos pins s σ H _ I h) fun us s1 ⟨vs,H1,I1,r1,q1⟩=>?_) (by rw [hs,hs2]) (by rw [hs2];rfl)))
 obtain ⟨i,j,c,e,⟨q1,q2,q3⟩,q⟩:=q1
 subst e
 cases r1 with
 | cons r rr=>
  cases rr with
  | cons r' rr=>
   cases rr with
   | cons r'' rr=>
    cases rr
    obtain ⟨t,rfl⟩:=r
    obtain ⟨t',rfl⟩:=r'
    obtain ⟨t'',rfl⟩:=r''
    exact call_range_3 q1 (Qfh I1 q1 q3 q) (.inl (PyProof.noPylong_small q2))
end
noncomputable def Vh (lo c:Int) (n:Nat):List W:=(List.range n).map fun (i:Nat)=>W.int (lo+(i:Int)*c)
section
variable {K:PySem.W.Frag} {R:Rn}
theorem QbQ {lo c:Int} {n:Nat}:ItOk K R (Qic lo c n) (Vh lo c n) none where
 go:=fun i w R' h H _ _ _ e=>by
  have:=(List.getElem?_eq_some_iff.mp e).1
  show i < n
  simpa [Vh] using this
 yld:=fun i w R' h H v H' e rh _ ew hy=>by
  obtain ⟨rfl,rfl⟩:=hy
  unfold Vh at ew
  rw [List.getElem?_map] at ew
  obtain ⟨j,hj,e2⟩:=Option.map_eq_some_iff.mp ew
  rw [List.getElem?_range (by have:=(List.getElem?_eq_some_iff.mp hj).1;simpa using this)] at hj
  cases hj
  cases e2
  exact ⟨R',Ext.refl _,rh,Rw.int _⟩
 stop:=fun i R' h H _ _ _ hl=>by
  show n<=i
  simpa [Vh] using hl
end
noncomputable def Qh4 (ms:MA):MI:=fun σ h=>(ms σ h).bind fun p=>match p.1 with
 | [.int i,.int j,.int c]=>if c≠0/\c.natAbs < 1073741824/\Builtin.Range.small i j c=true then some (Vh i c (Builtin.Range.rangeSize i j c).toNat,none,p.2) else none
 | _=>none
section
variable {X:Cx} {tg a b d:Expr} {ms:MA} {p pos:Pos}
theorem QhU (hg:Gl X "range") (hm:X.mg "range"=none) (ha:PMA X [a,b,d] ms) (hs:starEach [a,b,d] X.env=[(false,eval a X.env),(false,eval b X.env),(false,eval d X.env)]:=by rfl) (hs2:starEach [b,d] X.env=[(false,eval b X.env),(false,eval d X.env)]:=by rfl):PMI X tg (.Call (.Name "range" p) [a,b,d] [] pos) (Qh4 ms):=
 YT (QbF hg hm ha hs hs2) fun σ H C ⟨R,σi,h,items,src,h',rh,st,e,k⟩=>by
  obtain ⟨⟨ws,h1⟩,e1,e2⟩:=Option.bind_eq_some_iff.mp e
  refine ⟨R,σi,h,ws,h1,rh,st,e1,fun R1 H1 vs x1 rh1 rv=>?_⟩
  split at e2
  ·rename_i i j c hj
   simp only at hj
   subst hj
   split at e2
   ·rename_i hb
    cases e2
    rw [Rws.cons_iff] at rv
    obtain ⟨v,vs',rfl,r1,r2⟩:=rv
    rw [Rws.cons_iff] at r2
    obtain ⟨v2,vs2,rfl,r3,r4⟩:=r2
    rw [Rws.cons_iff] at r4
    obtain ⟨v3,vs3,rfl,r5,r6⟩:=r4
    rw [Rws.nil_iff] at r6
    subst r6
    rw [r1.int_eq,r3.int_eq,r5.int_eq]
    exact ⟨i,j,c,rfl,hb,k R1 H1 _ x1 rh1 QbQ⟩
   ·cases e2
  ·cases e2
end
end Mi

namespace Mi
open PySem PySem.Spec PyProof.Rows L2
noncomputable def QbC (kvs:List (Key×W)) (k:Key):Option W:=(kvs.find? fun kv=>decide (kv.1=k)).map (·.2)
noncomputable def Qck (kvs:List (Key×W)) (k:Key) (v:W):List (Key×W):=
 if (kvs.any fun kv=>decide (kv.1=k))=true then kvs.map (fun kv=>if kv.1=k then (kv.1,v) else kv) else kvs++[(k,v)]
noncomputable def Qf0:W->Option Key
 | .int i=>some (.inl i)
 | .str x=>some (.inr x)
 | _=>none
section
variable {K:PySem.W.Frag} {R:Rn}
noncomputable abbrev DicR (K:PySem.W.Frag) (R:Rn):List (Key×W)->List (Key×V)->Prop:=Paired fun p q=>p.1=q.1/\Rw K R p.2 q.2
theorem Yt {w:W} {v:V} {k:Key} (r:Rw K R w v) (e:Qf0 w=some k):v=kV k:=by
 cases w with
 | int i=>cases e;exact r.int_eq
 | str x=>cases e;exact r.str_eq
 | _=>cases e
theorem WZ {k:Key}:∀ {kvs:List (Key×W)} {kx:List (Key×V)},DicR K R kvs kx->(QbC kvs k=none/\U6 kx k=none)\/∃ w v,QbC kvs k=some w/\U6 kx k=some v/\Rw K R w v
 | _,_,.nil=>.inl ⟨rfl,rfl⟩
 | p::ps,q::qs,.cons h t=>by
  by_cases e:p.1=k
  ·have e':q.1=k:=h.1 ▸ e
   exact .inr ⟨p.2,q.2,by simp [QbC,List.find?_cons,e],by simp [U6,List.find?_cons,e'],h.2⟩
  ·have e':¬ q.1=k:=h.1 ▸ e
   have h1:QbC (p::ps) k=QbC ps k:=by simp only [QbC,List.find?_cons,e,decide_false]
   have h2:U6 (q::qs) k=U6 qs k:=by simp only [U6,List.find?_cons,e',decide_false]
   rcases WZ (k:=k) t with z | ⟨w,v,z1,z2,z3⟩
   ·exact .inl ⟨h1.trans z.1,h2.trans z.2⟩
   ·exact .inr ⟨w,v,h1.trans z1,h2.trans z2,z3⟩
theorem Qag {k:Key}:∀ {kvs:List (Key×W)} {kx:List (Key×V)},DicR K R kvs kx->(kvs.any fun kv=>decide (kv.1=k))=kx.any fun kv=>decide (kv.1=k)
 | _,_,.nil=>rfl
 | _,_,.cons (a:=p) (b:=q) h t=>by
  rw [List.any_cons,List.any_cons,Qag t,h.1]
theorem UG {k:Key} {w:W} {v:V} (r:Rw K R w v):∀ {kvs:List (Key×W)} {kx:List (Key×V)},DicR K R kvs kx->DicR K R (kvs.map (fun kv=>if kv.1=k then (kv.1,w) else kv)) (kx.map (fun kv=>if kv.1=k then (kv.1,v) else kv))
 | _,_,.nil=>.nil
 | _,_,.cons (a:=p) (b:=q) h t=>by
  rw [List.map_cons,List.map_cons]
  refine .cons ?_ (UG r t)
  by_cases e:p.1=k
  ·rw [if_pos e,if_pos (h.1 ▸ e)];exact ⟨h.1,r⟩
  ·rw [if_neg e,if_neg (h.1 ▸ e)];exact h
theorem Qfy {k:Key} {w:W} {v:V} {kvs:List (Key×W)} {kx:List (Key×V)} (d:DicR K R kvs kx) (r:Rw K R w v):DicR K R (Qck kvs k w) (Qc7 kx k v):=by
 unfold Qck Qc7
 rw [Qag d]
 split
 ·exact UG r d
 ·exact Paired.snoc d ⟨rfl,r⟩
theorem Rh.dicAt {h:MH} {H:Hp} (q:Rh K R h H) {n:Nat} {v:V} {kvs:List (Key×W)} (r:Rw K R (.ref n) v) (e:h[n]?=some (.dic kvs)) :
  n < R.N/\v=.ref (R.ρ n)/\∃ kx,H (R.ρ n)=some (.dK kx)/\DicR K R kvs kx:=by
 unfold Rw at r
 exact ⟨r.1,r.2,q.obj n _ e⟩
end
noncomputable def QeX:ME:=fun _ h=>some (.ref h.length,h++[.dic []])
noncomputable def Qfu (h:MH):W->Option (List (Key×W))
 | .ref n=>match h[n]? with | some (.dic kvs)=>some kvs | _=>none
 | _=>none
theorem Yp {h:MH} {a:W} {kvs:List (Key×W)} (e:Qfu h a=some kvs):∃ n,a=.ref n/\h[n]?=some (.dic kvs):=by
 cases a with
 | ref n=>
  simp only [Qfu] at e
  split at e
  ·rename_i us hn
   cases e
   exact ⟨n,rfl,hn⟩
  ·cases e
 | _=>cases e
noncomputable def Qj7 (a b:W) (h:MH):Option (W×MH):=(Qfu h a).bind fun kvs=>(Qf0 b).bind fun k=>(QbC kvs k).map fun v=>(v,h)
noncomputable def Gi (mo mi mv:ME):SM:=fun σ h=>(mv σ h).bind fun v=>(mo σ v.2).bind fun o=>(mi σ o.2).bind fun i=>(Qf0 i.1).bind fun k=>match o.1 with
 | .ref n=>match i.2[n]? with
  | some (.dic kvs)=>if kvs.length < sizeLine then some (.nx σ (i.2.set n (.dic (Qck kvs k v.1)))) else none
  | _=>none
 | _=>none
section
variable {X:Cx} {o i e a b:Expr} {mo mi mv ma mb:ME} {pos pos':Pos}
theorem Qfm:PM X (.Dict [] [] pos) QeX:=Q7 Qc1 fun σ H Q q=>by
 obtain ⟨R,σi,h,w,h',rh,st,e,k⟩:=q
 cases e
 intro p hp
 obtain ⟨R3,x3,rh3,rw3⟩:=rh.new (mo:=.dic []) (o:=.dK []) hp fun R' x'=>⟨[],rfl,.nil⟩
 exact k R3 _ _ x3 rh3 rw3
theorem Qd7 {K:PySem.W.Frag} {D:L2.Ends} {σ:L2.St} {H:Hp} (q:tS K (Gi mo mi mv) D σ H):QgY (tI K mo) (tI K mi) (tI K mv) D σ H:=by
 obtain ⟨R,σi,h,r,rh,s,e,k⟩:=q
 obtain ⟨⟨v,h1⟩,e1,e2⟩:=Option.bind_eq_some_iff.mp e
 obtain ⟨⟨ob,h2⟩,e3,e4⟩:=Option.bind_eq_some_iff.mp e2
 obtain ⟨⟨ix,h3⟩,e5,e6⟩:=Option.bind_eq_some_iff.mp e4
 obtain ⟨kk,e7,e8⟩:=Option.bind_eq_some_iff.mp e6
 refine ⟨R,σi,h,v,h1,rh,s,e1,fun R1 H1 x x1 rh1 rx=>⟨R1,σi,h1,ob,h2,rh1,s.mono x1,e3,fun R2 H2 y x2 rh2 ry=>⟨R2,σi,h2,ix,h3,rh2,s.mono (x1.trans x2),e5,fun R3 H3 z x3 rh3 rz=>?_⟩⟩⟩
 dsimp only at e8
 split at e8
 ·rename_i n
  split at e8
  ·rename_i kvs hn
   split at e8
   ·rename_i hlen
    cases e8
    obtain ⟨hlt,ey,kx,h4,r4⟩:=rh3.dicAt (Rw.mono x3 _ _ ry) hn
    have ez:=Yt rz e7
    subst ez
    refine ⟨_,_,ey,DPut.k h4 (by rw [<- Paired.length r4];exact hlen),?_⟩
    exact k R3 _ σ (x1.trans (x2.trans x3)) (rh3.put hlt ⟨_,rfl,Qfy r4 (Rw.mono (x2.trans x3) _ _ rx)⟩) (s.mono (x1.trans (x2.trans x3)))
   ·cases e8
  ·cases e8
 ·cases e8
theorem U0 (hu:X.A.units+64 < cLine) (ho:PM X o mo) (hi:PM X i mi) (he:PM X e mv) (hs:Wk e=false:=by rfl):PMS X (.Assign [.Subscript o i pos'] e pos) (Gi mo mi mv):=
 VG (QeT (by omega) ho hi he (show swapsWith e (some (.Subscript o i pos')) pos.line X.env=pure false from XO hs)) fun _ _ _=>Qd7
end
end Mi

namespace Mi
open PySem PySem.Spec PyProof.Rows L2
theorem U4 {α:Type} (xs:List α) (x:α):atI (xs++[x]) (-1)=some x:=by
 unfold atI ixN
 rw [if_neg (by decide),if_pos (by simp;omega),Option.bind_some]
 have:((-1:Int)+((xs++[x]).length:Nat)).toNat=xs.length:=by simp;omega
 rw [this];simp
theorem KR {lo c:Int} {n j:Nat} {w:W} (e:(Vh lo c n)[j]?=some w):j < n/\w=.int (lo+(j:Int)*c):=by
 unfold Vh at e
 rw [List.getElem?_map] at e
 obtain ⟨i,h1,rfl⟩:=Option.map_eq_some_iff.mp e
 obtain ⟨hl,h2⟩:=List.getElem?_eq_some_iff.mp h1
 rw [List.length_range] at hl
 rw [List.getElem_range] at h2
 subst h2
 exact ⟨hl,rfl⟩
end Mi

namespace Mi
open PySem PySem.Spec PyProof.Rows L2
mutual
noncomputable def pur:W->Bool
 | .tup ws=>Jv ws
 | .lst ws=>Jv ws
 | .frz ws=>Jv ws
 | .ref _=>false
 | _=>true
noncomputable def Jv:List W->Bool
 | []=>true
 | w::ws=>pur w && Jv ws
end
noncomputable def GT:MO->Bool
 | .lst ws=>Jv ws
 | .dic kvs=>Jv (kvs.map (·.2))
 | .dct kvs=>Jv (kvs.map (·.2))
mutual
noncomputable def th (f:Nat->Option W):W->Option W
 | .tup ws=>(ths f ws).map .tup
 | .lst ws=>(ths f ws).map .lst
 | .frz ws=>(ths f ws).map .frz
 | .ref j=>f j
 | w=>some w
noncomputable def ths (f:Nat->Option W):List W->Option (List W)
 | []=>some []
 | w::ws=>(th f w).bind fun x=>(ths f ws).map (x::·)
end
noncomputable def thO (f:Nat->Option W):MO->Option MO
 | .lst ws=>(ths f ws).map .lst
 | .dic kvs=>(ths f (kvs.map (·.2))).map fun vs=>.dic ((kvs.map (·.1)).zip vs)
 | .dct kvs=>(ths f (kvs.map (·.2))).map fun vs=>.dct ((kvs.map (·.1)).zip vs)
noncomputable def res (kp:Nat->Option Nat) (g:MH):Nat->Nat->Option W
 | 0,j=>(kp j).map .ref
 | d+1,j=>match kp j with
  | some n=>some (.ref n)
  | none=>match g[j]? with
   | some (.lst ws)=>(ths (res kp g d) ws).map .lst
   | _=>none
noncomputable def VX (ns js:List Nat) (N j:Nat):Option Nat:=match ns[j]? with
 | some n=>some n
 | none=>(js.findIdx? (· == j)).map (N+·)
noncomputable def V6:Nat->List W->Option (List W×List Nat)
 | _,[]=>some ([],[])
 | k,.ref n::ws=>(V6 (k+1) ws).map fun p=>(.ref k::p.1,n::p.2)
 | k,w::ws=>if pur w then (V6 k ws).map fun p=>(w::p.1,p.2) else none
noncomputable def QP:List Nat->List MO->MH->MH
 | n::ns,o::os,h=>QP ns os (h.set n o)
 | _,_,h=>h
noncomputable def QaM (h:MH) (n:Nat):Option MO:=match h[n]? with | some o=>if GT o then some o else none | none=>none
noncomputable def Qds (fr:W->List Nat) (m:FM) (as:List W) (ns:List Nat) (h:MH):Option (W×MH):=
 if ns.Nodup then (ZV (QaM h) ns).bind fun h0=>(m as h0).bind fun p=>
  if (fr p.1).Nodup/\(∀ j∈fr p.1,ns.length<=j) then
   (th (res (VX ns (fr p.1) h.length) p.2 3) p.1).bind fun w=>
   (ZV (fun j=>(p.2[j]?).bind (thO (res (VX ns (fr p.1) h.length) p.2 3))) (List.range ns.length)).bind fun os=>
   (ZV (fun j=>(p.2[j]?).bind (thO (res (VX ns (fr p.1) h.length) p.2 3))) (fr p.1)).map fun us=>
   (w,QP ns os h++us)
  else none
 else none
noncomputable def box (fr:W->List Nat) (m:FM):FM:=fun ws h=>(V6 0 ws).bind fun a=>Qds fr m a.1 a.2 h
section
variable {K:PySem.W.Frag} {R R':Rn}
mutual
theorem Rw.pur_mono (hf:∀ a o,R.F a=some o->R'.F a=some o):∀ (w:W) (v:V),pur w=true->Rw K R w v->Rw K R' w v
 | .non,_,_,h=>by unfold Rw at h ⊢;exact h
 | .bl _,_,_,h=>by unfold Rw at h ⊢;exact h
 | .int _,_,_,h=>by unfold Rw at h ⊢;exact h
 | .str _,_,_,h=>by unfold Rw at h ⊢;exact h
 | .ty _,_,_,h=>by unfold Rw at h ⊢;exact h
 | .tup ws,_,p,h=>by
  unfold Rw at h ⊢
  obtain ⟨a,xs,e1,e2,e3⟩:=h
  exact ⟨a,xs,e1,Z5 hf e2,Rws.pur_mono hf ws xs (by unfold pur at p;exact p) e3⟩
 | .lst ws,_,p,h=>by
  unfold Rw at h ⊢
  obtain ⟨a,xs,e1,e2,e3⟩:=h
  exact ⟨a,xs,e1,hf a _ e2,Rws.pur_mono hf ws xs (by unfold pur at p;exact p) e3⟩
 | .frz ws,_,p,h=>by
  unfold Rw at h ⊢
  obtain ⟨a,xs,e1,e2,e3⟩:=h
  exact ⟨a,xs,e1,ZP hf e2,Rws.pur_mono hf ws xs (by unfold pur at p;exact p) e3⟩
 | .ref n,_,p,h=>by unfold pur at p;cases p
theorem Rws.pur_mono (hf:∀ a o,R.F a=some o->R'.F a=some o):∀ (ws:List W) (vs:List V),Jv ws=true->Rws K R ws vs->Rws K R' ws vs
 | [],_,_,h=>by unfold Rws at h ⊢;exact h
 | w::ws,_,p,h=>by
  unfold Rws at h ⊢
  obtain ⟨v,vs',e1,e2,e3⟩:=h
  unfold Jv at p
  rw [Bool.and_eq_true] at p
  exact ⟨v,vs',e1,Rw.pur_mono hf w v p.1 e2,Rws.pur_mono hf ws vs' p.2 e3⟩
end
mutual
theorem Rw.th_ok {f:Nat->Option W} (hf:∀ a o,R.F a=some o->R'.F a=some o) (hr:∀ j v w,Rw K R (.ref j) v->f j=some w->Rw K R' w v):∀ (w:W) (v:V) (w':W),th f w=some w'->Rw K R w v->Rw K R' w' v
 | .non,_,_,e,h=>by unfold th at e;cases e;unfold Rw at h ⊢;exact h
 | .bl _,_,_,e,h=>by unfold th at e;cases e;unfold Rw at h ⊢;exact h
 | .int _,_,_,e,h=>by unfold th at e;cases e;unfold Rw at h ⊢;exact h
 | .str _,_,_,e,h=>by unfold th at e;cases e;unfold Rw at h ⊢;exact h
 | .ty _,_,_,e,h=>by unfold th at e;cases e;unfold Rw at h ⊢;exact h
 | .tup ws,_,_,e,h=>by
  unfold th at e
  obtain ⟨us,h1,h2⟩:=Option.map_eq_some_iff.mp e
  subst h2
  unfold Rw at h ⊢
  obtain ⟨a,xs,e1,e2,e3⟩:=h
  exact ⟨a,xs,e1,Z5 hf e2,Rws.th_ok hf hr ws xs us h1 e3⟩
 | .lst ws,_,_,e,h=>by
  unfold th at e
  obtain ⟨us,h1,h2⟩:=Option.map_eq_some_iff.mp e
  subst h2
  unfold Rw at h ⊢
  obtain ⟨a,xs,e1,e2,e3⟩:=h
  exact ⟨a,xs,e1,hf a _ e2,Rws.th_ok hf hr ws xs us h1 e3⟩
 | .frz ws,_,_,e,h=>by
  unfold th at e
  obtain ⟨us,h1,h2⟩:=Option.map_eq_some_iff.mp e
  subst h2
  unfold Rw at h ⊢
  obtain ⟨a,xs,e1,e2,e3⟩:=h
  exact ⟨a,xs,e1,ZP hf e2,Rws.th_ok hf hr ws xs us h1 e3⟩
 | .ref n,v,w',e,h=>by unfold th at e;exact hr n v w' h e
theorem Rws.th_ok {f:Nat->Option W} (hf:∀ a o,R.F a=some o->R'.F a=some o) (hr:∀ j v w,Rw K R (.ref j) v->f j=some w->Rw K R' w v):∀ (ws:List W) (vs:List V) (ws':List W),ths f ws=some ws'->Rws K R ws vs->Rws K R' ws' vs
 | [],_,_,e,h=>by unfold ths at e;cases e;unfold Rws at h ⊢;exact h
 | w::ws,_,_,e,h=>by
  unfold ths at e
  obtain ⟨x,h1,h2⟩:=Option.bind_eq_some_iff.mp e
  obtain ⟨us,h3,h4⟩:=Option.map_eq_some_iff.mp h2
  subst h4
  unfold Rws at h
  obtain ⟨v,vs',e1,e2,e3⟩:=h
  subst e1
  exact Rws.cons (Rw.th_ok hf hr w v x h1 e2) (Rws.th_ok hf hr ws vs' us h3 e3)
end
theorem DicR.vals:∀ {kvs:List (Key×W)} {kx:List (Key×V)},Paired (fun p q=>p.1=q.1/\Rw K R p.2 q.2) kvs kx->Rws K R (kvs.map (·.2)) (kx.map (·.2))/\kvs.map (·.1)=kx.map (·.1)
 | _,_,.nil=>⟨Rws.nil,rfl⟩
 | _,_,.cons h t=>by
  obtain ⟨a,b⟩:=DicR.vals t
  exact ⟨Rws.cons h.2 a,by rw [List.map_cons,List.map_cons,b,h.1]⟩
theorem DicR.zip:∀ {ks:List Key} {kx:List (Key×V)} {us:List W},ks=kx.map (·.1)->Rws K R us (kx.map (·.2))->Paired (fun p q=>p.1=q.1/\Rw K R p.2 q.2) (ks.zip us) kx
 | _,[],us,e,h=>by
  subst e
  exact .nil
 | _,q::kx,us,e,h=>by
  subst e
  rw [List.map_cons] at h
  cases us with
  | nil=>rw [Rws.nil_iff] at h;cases h
  | cons u us=>
   rw [Rws.cons_iff] at h
   obtain ⟨v,vs,e1,e2,e3⟩:=h
   cases e1
   exact .cons ⟨rfl,e2⟩ (DicR.zip rfl e3)
theorem U2:∀ (n:Nat) (w:W) (k:Tr),Ww n w=some k->pur w=true
 | 0,_,_,e=>by simp [Ww] at e
 | n+1,w,k,e=>by
  cases w with
  | tup ws=>
   simp only [Ww] at e
   obtain ⟨ks,e1,hk⟩:=Option.map_eq_some_iff.mp e
   unfold pur
   clear e hk
   induction ws generalizing ks with
   | nil=>rfl
   | cons x ws ih=>
    rw [List.mapM_cons] at e1
    obtain ⟨k1,h1,e2⟩:=Option.bind_eq_some_iff.mp e1
    obtain ⟨ks1,h2,_⟩:=Option.bind_eq_some_iff.mp e2
    unfold Jv
    rw [U2 n x k1 h1,ih ks1 h2];rfl
  | lst ws=>simp [Ww] at e
  | frz ws=>simp [Ww] at e
  | ref j=>simp [Ww] at e
  | _=>rfl
theorem QaE {w:W} {k:Tr} (e:nrm w=some k):pur w=true:=by
 cases w with
 | tup ws=>exact U2 8 _ k e
 | _=>cases e
theorem DctR.vals:∀ {kvs:List (W×W)} {kx:List (Tr×Addr×V)},Paired (fun p q=>Rw K R p.1 (.ref q.2.1)/\nrm p.1=some q.1/\Rw K R p.2 q.2.2) kvs kx->Rws K R (kvs.map (·.2)) (kx.map (·.2.2))/\Paired (fun p q=>Rw K R p (.ref q.2.1)/\nrm p=some q.1) (kvs.map (·.1)) kx
 | _,_,.nil=>⟨Rws.nil,.nil⟩
 | _,_,.cons h t=>by
  obtain ⟨a,b⟩:=DctR.vals t
  exact ⟨Rws.cons h.2.2 a,.cons ⟨h.1,h.2.1⟩ b⟩
theorem DctR.zip:∀ {ks:List W} {kx:List (Tr×Addr×V)} {us:List W},Paired (fun p q=>Rw K R p (.ref q.2.1)/\nrm p=some q.1) ks kx->Rws K R us (kx.map (·.2.2))->Paired (fun p q=>Rw K R p.1 (.ref q.2.1)/\nrm p.1=some q.1/\Rw K R p.2 q.2.2) (ks.zip us) kx
 | _,[],us,.nil,h=>.nil
 | _,q::kx,us,.cons e t,h=>by
  rw [List.map_cons] at h
  cases us with
  | nil=>rw [Rws.nil_iff] at h;cases h
  | cons u us=>
   rw [Rws.cons_iff] at h
   obtain ⟨v,vs,e1,e2,e3⟩:=h
   cases e1
   exact .cons ⟨e.1,e.2,e2⟩ (DctR.zip t e3)
theorem UB {f:Nat->Option W} (hf:∀ a o,R.F a=some o->R'.F a=some o) (hr:∀ j v w,Rw K R (.ref j) v->f j=some w->Rw K R' w v) {o o':MO} {u:Option HO} (e:thO f o=some o') (h:Ro K R o u):Ro K R' o' u:=by
 cases o with
 | lst ws=>
  unfold thO at e
  obtain ⟨us,h1,h2⟩:=Option.map_eq_some_iff.mp e
  subst h2
  obtain ⟨xs,e1,e2⟩:=h
  exact ⟨xs,e1,Rws.th_ok hf hr ws xs us h1 e2⟩
 | dic kvs=>
  unfold thO at e
  obtain ⟨us,h1,h2⟩:=Option.map_eq_some_iff.mp e
  subst h2
  obtain ⟨kx,e1,e2⟩:=h
  obtain ⟨a,b⟩:=DicR.vals e2
  exact ⟨kx,e1,DicR.zip b (Rws.th_ok hf hr _ _ us h1 a)⟩
 | dct kvs=>
  unfold thO at e
  obtain ⟨us,h1,h2⟩:=Option.map_eq_some_iff.mp e
  subst h2
  obtain ⟨kx,e1,e2⟩:=h
  obtain ⟨a,b⟩:=DctR.vals e2
  exact ⟨kx,e1,DctR.zip (Paired.mapP b fun p q z=>⟨Rw.pur_mono hf _ _ (QaE z.2) z.1,z.2⟩) (Rws.th_ok hf hr _ _ us h1 a)⟩
theorem W8 (hf:∀ a o,R.F a=some o->R'.F a=some o) {o:MO} {u:Option HO} (p:GT o=true) (h:Ro K R o u):Ro K R' o u:=by
 cases o with
 | lst ws=>
  obtain ⟨xs,e1,e2⟩:=h
  exact ⟨xs,e1,Rws.pur_mono hf ws xs p e2⟩
 | dic kvs=>
  obtain ⟨kx,e1,e2⟩:=h
  refine ⟨kx,e1,?_⟩
  have p':Jv (kvs.map (·.2))=true:=p
  clear p e1
  revert p'
  induction e2 with
  | nil=>exact fun _=>.nil
  | cons h t ih=>
   intro p'
   rw [List.map_cons] at p'
   unfold Jv at p'
   rw [Bool.and_eq_true] at p'
   exact .cons ⟨h.1,Rw.pur_mono hf _ _ p'.1 h.2⟩ (ih p'.2)
 | dct kvs=>
  obtain ⟨kx,e1,e2⟩:=h
  refine ⟨kx,e1,?_⟩
  have p':Jv (kvs.map (·.2))=true:=p
  clear p e1
  revert p'
  induction e2 with
  | nil=>exact fun _=>.nil
  | cons h t ih=>
   intro p'
   rw [List.map_cons] at p'
   unfold Jv at p'
   rw [Bool.and_eq_true] at p'
   exact .cons ⟨Rw.pur_mono hf _ _ (QaE h.2.1) h.1,h.2.1,Rw.pur_mono hf _ _ p'.1 h.2.2⟩ (ih p'.2)
theorem WP {R0:Rn} (hf:∀ a o,R.F a=some o->R0.F a=some o) {all:List Nat} (hρ:∀ (i n:Nat),all[i]?=some n->i < R0.N/\R0.ρ i=R.ρ n):∀ {ws:List W} {vs:List V} {pre:List Nat} {as:List W} {ns:List Nat},V6 pre.length ws=some (as,ns)->all=pre++ns->Rws K R ws vs->Rws K R0 as vs
 | [],vs,pre,as,ns,e,ha,h=>by
  unfold V6 at e;cases e
  rw [Rws.nil_iff] at h;subst h
  exact Rws.nil
 | w::ws,vs,pre,as,ns,e,ha,h=>by
  rw [Rws.cons_iff] at h
  obtain ⟨v,vs',rfl,h1,h2⟩:=h
  by_cases hw:∃ n,w=.ref n
  ·obtain ⟨n,rfl⟩:=hw
   unfold V6 at e
   obtain ⟨⟨as',ns'⟩,e1,e2⟩:=Option.map_eq_some_iff.mp e
   cases e2
   refine Rws.cons ?_ (WP hf hρ (pre:=pre++[n]) (ns:=ns') (by rw [List.length_append];exact e1) (by rw [ha];simp) h2)
   obtain ⟨z1,z2⟩:=hρ pre.length n (by rw [ha];simp)
   unfold Rw at h1 ⊢
   exact ⟨z1,by rw [z2];exact h1.2⟩
  ·have e':(if pur w then (V6 pre.length ws).map fun p=>(w::p.1,p.2) else none)=some (as,ns):=by
    rw [<- e]
    cases w<;>first | (exact absurd ⟨_,rfl⟩ hw) | (conv=>rhs;unfold V6)
   split at e'
   ·rename_i hp
    obtain ⟨⟨as',ns'⟩,e1,e2⟩:=Option.map_eq_some_iff.mp e'
    cases e2
    exact Rws.cons (Rw.pur_mono hf w v hp h1) (WP hf hρ e1 ha h2)
   ·cases e'
theorem Jd:∀ (ns:List Nat) (os:List MO) (h:MH),(QP ns os h).length=h.length
 | [],_,h=>by unfold QP;rfl
 | _::_,[],h=>by unfold QP;rfl
 | n::ns,o::os,h=>by unfold QP;rw [Jd ns os,List.length_set]
theorem V7:∀ (ns:List Nat) (os:List MO) (h:MH) (n:Nat),n∉ns->(QP ns os h)[n]?=h[n]?
 | [],_,h,n,_=>by unfold QP;rfl
 | _::_,[],h,n,_=>by unfold QP;rfl
 | m::ns,o::os,h,n,hn=>by
  unfold QP
  rw [V7 ns os _ n (fun z=>hn (List.mem_cons_of_mem _ z)),List.getElem?_set_ne (fun z=>hn (by rw [z];exact List.mem_cons_self))]
theorem KJ:∀ (ns:List Nat) (os:List MO) (h:MH) (i n:Nat),ns.Nodup->ns.length=os.length->ns[i]?=some n->n < h.length->(QP ns os h)[n]?=os[i]?
 | [],_,h,i,n,_,_,e,_=>by simp at e
 | m::ns,[],h,i,n,_,hl,_,_=>by simp at hl
 | m::ns,o::os,h,0,n,hd,hl,e,hn=>by
  simp at e;subst e
  unfold QP
  rw [V7 ns os _ m (List.nodup_cons.mp hd).1,List.getElem?_set_self hn];rfl
 | m::ns,o::os,h,i+1,n,hd,hl,e,hn=>by
  unfold QP
  rw [KJ ns os (h.set m o) i n (List.nodup_cons.mp hd).2 (by simpa using hl) (by simpa using e) (by rw [List.length_set];exact hn)]
  simp
end
end Mi

namespace Mi
open PySem PySem.Spec PyProof.Rows L2
theorem YI:∀ {ws:List W} {k:Nat} {as:List W} {ns:List Nat},V6 k ws=some (as,ns)->as.length=ws.length
  | [],k,as,ns,e=>by unfold V6 at e;cases e;rfl
  | w::ws,k,as,ns,e=>by
    cases w<;>unfold V6 at e<;>first
      | (obtain ⟨⟨as',ns'⟩,e1,e2⟩:=Option.map_eq_some_iff.mp e
         cases e2
         simp [YI e1])
      | (split at e
         · obtain ⟨⟨as',ns'⟩,e1,e2⟩:=Option.map_eq_some_iff.mp e
           cases e2
           simp [YI e1]
         · cases e)
theorem YU {js:List Nat} {j i:Nat} (e:js.findIdx? (· == j)=some i):js[i]?=some j:=by
 rw [List.findIdx?_eq_some_iff_getElem] at e
 obtain ⟨h,h1,_⟩:=e
 rw [List.getElem?_eq_getElem h]
 simp at h1
 rw [h1]
theorem Wi {js:List Nat} {j:Nat} (e:js.findIdx? (· == j)=none):j∉js:=by
 rw [List.findIdx?_eq_none_iff] at e
 intro z
 have:=e j z
 simp at this
theorem Qae {h:MH} {n:Nat} {o:MO} (e:QaM h n=some o):h[n]?=some o/\GT o=true:=by
 unfold QaM at e
 split at e
 ·rename_i o' h'
  split at e
  ·rename_i hp;cases e;exact ⟨h',hp⟩
  ·cases e
 ·cases e
theorem Y3 {js:List Nat} (h:js.Nodup) {i i' j:Nat} (e:js[i]?=some j) (e':js[i']?=some j):i=i':=
 (List.getElem?_inj (List.getElem?_eq_some_iff.mp e).1 h).mp (e.trans e'.symm)
section
variable {K:PySem.W.Frag}
open Classical in
theorem Qhp {n:Nat} {fr:W->List Nat} {m:FM} {vs:List V} {H:Hp} {Q:VK} {E:XK} (q:spM K n (box fr m) vs H Q E):spM K n m vs H Q E:=by
 obtain ⟨R,ws,h,wx,h2,hl,rh,rws,e,k⟩:=q
 unfold box at e
 obtain ⟨⟨as,ns⟩,e1,e2⟩:=Option.bind_eq_some_iff.mp e
 unfold Qds at e2
 split at e2
 case isFalse=>cases e2
 rename_i hd
 obtain ⟨h0,e3,e4⟩:=Option.bind_eq_some_iff.mp e2
 obtain ⟨⟨w,g⟩,e5,e6⟩:=Option.bind_eq_some_iff.mp e4
 dsimp only at e6
 split at e6
 case isFalse=>cases e6
 rename_i hj
 obtain ⟨hjd,hjk⟩:=hj
 obtain ⟨wy,e7,e8⟩:=Option.bind_eq_some_iff.mp e6
 obtain ⟨os,e9,e10⟩:=Option.bind_eq_some_iff.mp e8
 obtain ⟨us,e11,e12⟩:=Option.map_eq_some_iff.mp e10
 cases e12
 generalize hjs:fr w=js at *
 have hns:∀ (i x:Nat),ns[i]?=some x->x < R.N/\∃ o,h[x]?=some o/\h0[i]?=some o/\GT o=true:=fun i x hx=>by
  obtain ⟨o,z1,z2⟩:=(QN e3).2 i x hx
  obtain ⟨z3,z4⟩:=Qae z2
  exact ⟨by rw [rh.len];exact (List.getElem?_eq_some_iff.mp z3).1,o,z3,z1,z4⟩
 have hmem:∀ x,x∈ns->∃ i:Nat,ns[i]?=some x:=fun x hx=>List.mem_iff_getElem?.mp hx
 let R0:Rn:={ ρ:=fun i=>R.ρ (ns.getD i 0),N:=ns.length,F:=R.F,G:=fun a=>if ∃ x,x < R.N/\x∉ns/\R.ρ x=a then H a else R.G a }
 have hρ:∀ (i x:Nat),ns[i]?=some x->i < R0.N/\R0.ρ i=R.ρ x:=fun i x hx=>by
  refine ⟨(List.getElem?_eq_some_iff.mp hx).1,?_⟩
  show R.ρ (ns.getD i 0)=_
  rw [List.getD_eq_getElem?_getD,hx];rfl
 have hat:∀ i:Nat,i < ns.length->∃ x,ns[i]?=some x:=fun i hi=>⟨ns[i],List.getElem?_eq_getElem hi⟩
 have hGo:∀ x,x < R.N->x∉ns->R0.G (R.ρ x)=H (R.ρ x):=fun x hx hn=>if_pos ⟨x,hx,hn,rfl⟩
 have hGs:∀ a o,R.G a=some o->R0.G a=some o:=fun a o z=>by
  show (if ∃ x,x < R.N/\x∉ns/\R.ρ x=a then H a else R.G a)=some o
  split
  ·exact rh.gsub a o z
  ·exact z
 have rh0:Rh K R0 h0 H:=by
  refine ⟨(QN e3).1,rh.sub,fun i hi=>?_,fun i j hi hj ee=>?_,fun i o hi=>?_,fun a o ha=>?_,fun i hi=>?_,fun a o ha=>?_⟩
  ·obtain ⟨x,hx⟩:=hat i hi
   rw [(hρ i x hx).2]
   exact rh.sep x (hns i x hx).1
  ·obtain ⟨x,hx⟩:=hat i hi
   obtain ⟨y,hy⟩:=hat j hj
   rw [(hρ i x hx).2,(hρ j y hy).2] at ee
   have:=rh.inj x y (hns i x hx).1 (hns j y hy).1 ee
   subst this
   exact Y3 hd hx hy
  ·have hi':i < ns.length:=by rw [(QN e3).1];exact (List.getElem?_eq_some_iff.mp hi).1
   obtain ⟨x,hx⟩:=hat i hi'
   obtain ⟨_,o',z1,z2,z3⟩:=hns i x hx
   rw [hi] at z2;cases z2
   rw [(hρ i x hx).2]
   exact W8 (R:=R) (R':=R0) (fun _ _ z=>z) z3 (rh.obj x o z1)
  ·have ha':(if ∃ x,x < R.N/\x∉ns/\R.ρ x=a then H a else R.G a)=some o:=ha
   split at ha'
   ·exact ha'
   ·exact rh.gsub a o ha'
  ·obtain ⟨x,hx⟩:=hat i hi
   rw [(hρ i x hx).2]
   show (if ∃ y,y < R.N/\y∉ns/\R.ρ y=R.ρ x then H (R.ρ x) else R.G (R.ρ x))=none
   rw [if_neg]
   ·exact rh.gsep x (hns i x hx).1
   ·rintro ⟨y,hy,hyn,ey⟩
    have:=rh.inj y x hy (hns i x hx).1 ey
    subst this
    exact hyn (List.mem_iff_getElem?.mpr ⟨i,hx⟩)
  ·have ha':(if ∃ x,x < R.N/\x∉ns/\R.ρ x=a then H a else R.G a)=some o:=ha
   split at ha'
   ·rename_i hx
    obtain ⟨x,hx,_,rfl⟩:=hx
    exact rh.sep x hx
   ·exact rh.gf a o ha'
 refine ⟨R0,as,h0,w,g,(YI e1).trans hl,rh0,WP (R:=R) (R0:=R0) (pre:=[]) (fun _ _ z=>z) hρ e1 rfl rws,e5,fun R1 H1 v x1 rh1 rv=>?_⟩
 have hG1:R1.G=R0.G:=x1.g
 have hρ1:∀ (i x:Nat),ns[i]?=some x->i < R1.N/\R1.ρ i=R.ρ x:=fun i x hx=>by
  obtain ⟨z1,z2⟩:=hρ i x hx
  exact ⟨Nat.lt_of_lt_of_le z1 x1.n,(x1.ρ i z1).trans z2⟩
 have hj1:∀ (i j:Nat),js[i]?=some j->ns.length<=j/\j < R1.N/\∃ o u,us[i]?=some u/\g[j]?=some o/\thO (res (VX ns js h.length) g 3) o=some u:=fun i j hij=>by
  obtain ⟨u,z1,z2⟩:=(QN e11).2 i j hij
  obtain ⟨o,z3,z4⟩:=Option.bind_eq_some_iff.mp z2
  exact ⟨hjk j (List.mem_iff_getElem?.mpr ⟨i,hij⟩),by rw [rh1.len];exact (List.getElem?_eq_some_iff.mp z3).1,o,u,z1,z3,z4⟩
 have hapart:∀ x,x < R.N->∀ j,ns.length<=j->j < R1.N->R1.ρ j≠R.ρ x:=fun x hx j hj hjn ee=>by
  by_cases hm:x∈ns
  ·obtain ⟨i,hi⟩:=hmem x hm
   obtain ⟨z1,z2⟩:=hρ1 i x hi
   have:=rh1.inj j i hjn z1 (ee.trans z2.symm)
   have:=(List.getElem?_eq_some_iff.mp hi).1
   omega
  ·have z:=rh1.gsep j hjn
   rw [hG1,ee,hGo x hx hm] at z
   obtain ⟨_,u,_,hu⟩:=rh.there hx
   rw [hu] at z;cases z
 let R2:Rn:={ ρ:=fun n=>if n < R.N then R.ρ n else R1.ρ (js.getD (n - R.N) 0),N:=R.N+js.length,F:=fun a=>match R1.F a with | some o=>some o | none=>if ∃ j,ns.length<=j/\j < R1.N/\j∉js/\R1.ρ j=a then H1 a else none,G:=R.G }
 have r2lo:∀ x,x < R.N->R2.ρ x=R.ρ x:=fun x hx=>if_pos hx
 have r2hi:∀ (i j:Nat),js[i]?=some j->R2.ρ (R.N+i)=R1.ρ j:=fun i j hij=>by
  show (if R.N+i < R.N then R.ρ (R.N+i) else R1.ρ (js.getD (R.N+i - R.N) 0))=_
  rw [if_neg (by omega),Nat.add_sub_cancel_left,List.getD_eq_getElem?_getD,hij];rfl
 have f1:∀ a o,R1.F a=some o->R2.F a=some o:=fun a o z=>by
  show (match R1.F a with | some o=>some o | none=>if ∃ j,ns.length<=j/\j < R1.N/\j∉js/\R1.ρ j=a then H1 a else none)=some o
  rw [z]
 have fnone:∀ a,R1.F a=none->(¬ ∃ j,ns.length<=j/\j < R1.N/\j∉js/\R1.ρ j=a)->R2.F a=none:=fun a z1 z2=>by
  show (match R1.F a with | some o=>some o | none=>if ∃ j,ns.length<=j/\j < R1.N/\j∉js/\R1.ρ j=a then H1 a else none)=none
  rw [z1];exact if_neg z2
 have fnew:∀ j,ns.length<=j->j < R1.N->j∉js->R2.F (R1.ρ j)=H1 (R1.ρ j):=fun j a b c=>by
  show (match R1.F (R1.ρ j) with | some o=>some o | none=>if ∃ j',ns.length<=j'/\j' < R1.N/\j'∉js/\R1.ρ j'=R1.ρ j then H1 (R1.ρ j) else none)=_
  rw [rh1.sep j b];exact if_pos ⟨j,a,b,c,rfl⟩
 have hx2:Ext R R2:=⟨Nat.le_add_right _ _,fun x hx=>r2lo x hx,fun a o z=>f1 a o (x1.f a o z),rfl⟩
 have split2:∀ x,x < R2.N->x < R.N\/∃ i j:Nat,x=R.N+i/\js[i]?=some j:=fun x hx=>by
  have hx':x < R.N+js.length:=hx
  by_cases z:x < R.N
  ·exact .inl z
  ·exact .inr ⟨x - R.N,js[x - R.N]'(by omega),by omega,List.getElem?_eq_getElem (by omega)⟩
 have hr:∀ d j v w,Rw K R1 (.ref j) v->res (VX ns js h.length) g d j=some w->Rw K R2 w v:=by
  have kp_ok:∀ j v x,Rw K R1 (.ref j) v->VX ns js h.length j=some x->Rw K R2 (.ref x) v:=fun j v x r z=>by
   unfold Rw at r ⊢
   unfold VX at z
   split at z
   ·rename_i y hy
    cases z
    obtain ⟨z1,z2⟩:=hρ1 j x hy
    have hxn:=(hns j x hy).1
    exact ⟨Nat.lt_of_lt_of_le hxn hx2.n,by rw [r2lo x hxn,<- z2];exact r.2⟩
   ·obtain ⟨i,z1,z2⟩:=Option.map_eq_some_iff.mp z
    have hij:=YU z1
    subst z2
    rw [<- rh.len,r2hi i j hij]
    exact ⟨Nat.add_lt_add_left (List.getElem?_eq_some_iff.mp hij).1 _,r.2⟩
  intro d
  induction d with
  | zero=>
   intro j v w r z
   unfold res at z
   obtain ⟨x,z1,z2⟩:=Option.map_eq_some_iff.mp z
   subst z2
   exact kp_ok j v x r z1
  | succ d ih=>
   intro j v w r z
   unfold res at z
   split at z
   ·rename_i x hx
    cases z
    exact kp_ok j v x r hx
   ·rename_i hnone
    split at z
    ·rename_i ws' hg
     obtain ⟨us',z1,z2⟩:=Option.map_eq_some_iff.mp z
     subst z2
     obtain ⟨xs,o1,o2⟩:=rh1.obj j _ hg
     have hr1:j < R1.N/\v=.ref (R1.ρ j):=by unfold Rw at r;exact r
     unfold VX at hnone
     split at hnone
     ·cases hnone
     ·rename_i hnj
      have hnj':j∉js:=Wi (by simpa using hnone)
      unfold Rw
      refine ⟨R1.ρ j,xs,hr1.2,?_,Rws.th_ok f1 ih ws' xs us' z1 o2⟩
      rw [fnew j (List.getElem?_eq_none_iff.mp hnj) hr1.1 hnj']
      exact o1
    ·cases z
 refine k R2 H1 v hx2 ⟨?_,fun a o ha=>?_,fun x hx=>?_,fun x y hx hy ee=>?_,fun x o hx=>?_,fun a o ha=>?_,fun x hx=>?_,fun a o ha=>?_⟩ (Rw.th_ok f1 (hr 3) w v _ e7 rv)
 ·show R.N+js.length=_
  rw [List.length_append,Jd,<- (QN e11).1,rh.len]
 ·have ha':(match R1.F a with | some o=>some o | none=>if ∃ j,ns.length<=j/\j < R1.N/\j∉js/\R1.ρ j=a then H1 a else none)=some o:=ha
  split at ha'
  ·rename_i o' ho'
   cases ha'
   exact rh1.sub a _ ho'
  ·split at ha'
   ·exact ha'
   ·cases ha'
 ·rcases split2 x hx with hx | ⟨i,j,rfl,hij⟩
  ·rw [r2lo x hx]
   refine fnone _ ?_ (fun ⟨j,a,b,_,c⟩=>hapart x hx j a b c)
   by_cases hm:x∈ns
   ·obtain ⟨i,hi⟩:=hmem x hm
    obtain ⟨z1,z2⟩:=hρ1 i x hi
    rw [<- z2];exact rh1.sep i z1
   ·obtain ⟨_,u,_,hu⟩:=rh.there hx
    exact rh1.gf _ u (by rw [hG1,hGo x hx hm];exact hu)
  ·obtain ⟨z1,z2,_⟩:=hj1 i j hij
   rw [r2hi i j hij]
   refine fnone _ (rh1.sep j z2) (fun ⟨j',a,b,c,d⟩=>?_)
   have:=rh1.inj j' j b z2 d
   subst this
   exact c (List.mem_iff_getElem?.mpr ⟨i,hij⟩)
 ·rcases split2 x hx with hx | ⟨i,j,rfl,hij⟩<;>rcases split2 y hy with hy | ⟨i',j',rfl,hij'⟩
  ·rw [r2lo x hx,r2lo y hy] at ee;exact rh.inj x y hx hy ee
  ·rw [r2lo x hx,r2hi i' j' hij'] at ee
   obtain ⟨z1,z2,_⟩:=hj1 i' j' hij'
   exact absurd ee.symm (hapart x hx j' z1 z2)
  ·rw [r2lo y hy,r2hi i j hij] at ee
   obtain ⟨z1,z2,_⟩:=hj1 i j hij
   exact absurd ee (hapart y hy j z1 z2)
  ·rw [r2hi i j hij,r2hi i' j' hij'] at ee
   obtain ⟨_,z2,_⟩:=hj1 i j hij
   obtain ⟨_,z2',_⟩:=hj1 i' j' hij'
   have:=rh1.inj j j' z2 z2' ee
   subst this
   rw [Y3 hjd hij hij']
 ·have hx':x < R2.N:=by
   have:=(List.getElem?_eq_some_iff.mp hx).1
   rw [List.length_append,Jd,<- (QN e11).1,<- rh.len] at this
   exact this
  rcases split2 x hx' with hn | ⟨i,j,rfl,hij⟩
  ·rw [List.getElem?_append_left (by rw [Jd,<- rh.len];exact hn)] at hx
   rw [r2lo x hn]
   by_cases hm:x∈ns
   ·obtain ⟨i,hi⟩:=hmem x hm
    obtain ⟨z1,z2⟩:=hρ1 i x hi
    have hil:=(List.getElem?_eq_some_iff.mp hi).1
    rw [KJ ns os h i x hd (by rw [<- (QN e9).1,List.length_range]) hi (by rw [<- rh.len];exact hn)] at hx
    obtain ⟨u,y1,y2⟩:=(QN e9).2 i i (by rw [List.getElem?_range hil])
    rw [hx] at y1;cases y1
    obtain ⟨o',y3,y4⟩:=Option.bind_eq_some_iff.mp y2
    rw [<- z2]
    exact UB f1 (hr 3) y4 (rh1.obj i o' y3)
   ·rw [V7 ns os h x hm] at hx
    obtain ⟨_,u,_,hu⟩:=rh.there hn
    have hu1:H1 (R.ρ x)=some u:=rh1.gsub _ u (by rw [hG1,hGo x hn hm];exact hu)
    have:=rh.obj x o hx
    rw [hu] at this
    rw [hu1]
    exact this.mono hx2
  ·obtain ⟨z1,z2,o',u,y1,y2,y3⟩:=hj1 i j hij
   rw [List.getElem?_append_right (by rw [Jd,<- rh.len];omega),Jd,<- rh.len,Nat.add_sub_cancel_left,y1] at hx
   cases hx
   rw [r2hi i j hij]
   exact UB f1 (hr 3) y3 (rh1.obj j o' y2)
 ·exact rh1.gsub a o (by rw [hG1];exact hGs a o ha)
 ·rcases split2 x hx with hx | ⟨i,j,rfl,hij⟩
  ·rw [r2lo x hx];exact rh.gsep x hx
  ·rw [r2hi i j hij]
   obtain ⟨_,z2,_⟩:=hj1 i j hij
   cases z:R2.G (R1.ρ j) with
   | none=>rfl
   | some u=>
    have z3:=rh1.gsep j z2
    rw [hG1,hGs _ u z] at z3;cases z3
 ·have hg:R1.G a=some o:=by rw [hG1];exact hGs a o ha
  refine fnone a (rh1.gf a o hg) (fun ⟨j,_,b,_,d⟩=>?_)
  have z3:=rh1.gsep j b
  rw [d,hg] at z3;cases z3
theorem Cal.box {P:Program} {w:World} {mg:Str->Option Value} {base:Heap} {x:Str} {ps:List Str} {k:Nat} {g:FM} (fr:W->List Nat) (C:Cal P w K mg base k x ps g):Cal P w K mg base k x ps (Mi.box fr g):=
 C.imp fun _ _ _ _ q=>Qhp q
end
noncomputable def frN:W->List Nat:=fun _=>[]
noncomputable def frR:W->List Nat
 | .ref j=>[j]
 | _=>[]
end Mi

namespace Mi
open PySem PySem.Spec PyProof.Rows L2
noncomputable def Wp:List Nat->List W->MSt->Option MSt
 | [],[],σ=>some σ
 | i::is,w::ws,σ=>Wp is ws (σ.set i (some w))
 | _,_,_=>none
noncomputable def Va (is:List Nat):MG:=fun w σ _=>match w with | .tup ws=>Wp is ws σ | _=>none
noncomputable def GO:List Nat->TGs
 | []=>QkV
 | i::is=>Qgc (Qaa i) (GO is)
theorem J5 {X:Cx}:PGs X [] (GO []):=QfI
theorem QO {X:Cx} {i:Nat} {x:Str} {pos:Pos} {es:List Expr} {is:List Nat} (hN:X.N.Nodup) (hi:X.N[i]?=some x) (hx:Loc X.env.scope x) (h:PGs X es (GO is)) (hf:X.fn x=true\/X.env.scope.names.lookup x=some .local)
  : PGs X (.Name x pos::es) (GO (i::is)):=Qc8 (QaX hN hi hx hf) h
theorem UF {K:PySem.W.Frag} {R:Rn} {H:Hp} {C:L2.St->Hp->Prop}:∀ {is:List Nat} {ws:List W} {xs:List V} {σi σ1:MSt} {σ:L2.St},Wp is ws σi=some σ1->Rws K R ws xs->Rst K R σi σ->(∀ σ',Rst K R σ1 σ'->C σ' H)->GO is xs σ H C
 | [],[],xs,σi,σ1,σ,e,r,s,k=>by
  cases e
  rw [Rws.nil_iff] at r
  exact ⟨r,k σ s⟩
 | i::is,w::ws,xs,σi,σ1,σ,e,r,s,k=>by
  rw [Rws.cons_iff] at r
  obtain ⟨v,vs,rfl,r1,r2⟩:=r
  exact ⟨v,vs,rfl,UF (is:=is) e r2 (s.set r1) k⟩
 | [],_::_,_,_,_,_,e,_,_,_=>by cases e
 | _::_,[],_,_,_,_,e,_,_,_=>by cases e
theorem Y5:∀ {is:List Nat} {ws:List W} {σ σ1:MSt},Wp is ws σ=some σ1->ws.length=is.length
 | [],[],_,_,_=>rfl
 | i::is,w::ws,σ,σ1,e=>by
  have:=Y5 (is:=is) (ws:=ws) e
  simp [this]
 | [],_::_,_,_,e=>by cases e
 | _::_,[],_,_,e=>by cases e
theorem J3 {X:Cx} {es:List Expr} {is:List Nat} {k:Nat} {pos:Pos} (hc:X.calm=true) (h:PGs X es (GO is)) (hn:(assignEach es X.env).length=is.length) (hs:(assignEach es X.env).findIdx? (·.1)=none):PMG X (.Tuple es k pos) (Va is):=
 QdP (Qhy hc h hn hs) fun v σ H C ⟨R,σi,h,w,σ1,rh,st,rw,e,q⟩=>by
  unfold Va at e
  split at e
  ·rename_i ws
   obtain ⟨ad,xs,rfl,q1,r1⟩:=rh.tupAt rw
   exact ⟨ad,xs,rfl,q1,by rw [<- r1.length];exact Y5 e,UF e r1 st fun σ' s'=>q R H σ' (Ext.refl _) rh s'⟩
  ·cases e
noncomputable def QjO (g:MG) (m:ME):SM:=fun σ h=>(m σ h).bind fun p=>(g p.1 σ p.2).map fun σ1=>.nx σ1 p.2
theorem QfG {X:Cx} {tg e:Expr} {g:MG} {m:ME} {pos:Pos} (he:PM X e m) (hg:PMG X tg g) (hs:swapsWithSole [tg] e pos.line X.env=pure false) (hw:swappedStores [tg] e X.env=pure none) (h1:(assignEach [tg] X.env).map (·.2)=[assign tg X.env]) :
  PMS X (.Assign [tg] e pos) (QjO g m):=VG (Qdx he hg hs hw h1) <| by
 rintro D σ H ⟨R,σi,h,r,rh,s,e,k⟩
 obtain ⟨⟨w,h1⟩,e1,e2⟩:=Option.bind_eq_some_iff.mp e
 obtain ⟨σ1,e3,e4⟩:=Option.map_eq_some_iff.mp e2
 cases e4
 exact ⟨R,σi,h,w,h1,rh,s,e1,fun R1 H1 v x1 rh1 rv=>⟨R1,σi,h1,w,σ1,rh1,s.mono x1,rv,e3,fun R' H' σ' x' rh' s'=>k R' H' σ' (x1.trans x') rh' s'⟩⟩
noncomputable def QhE (ws:List W) (h:MH):Option (W×MH):=match ws with
 | [.int i,.int j]=>some (.int (if j > i then j else i),h)
 | _=>none
noncomputable def QgH (ws:List W) (h:MH):Option (W×MH):=match ws with
 | [.int i,.int j]=>some (.int (if j < i then j else i),h)
 | _=>none
section
variable {X:Cx}
theorem Qaf (hc:X.calm=true):CallR X (.builtin "max") (Fs X.K QhE):=by
 intro pins s σ H xs us Q I r q
 refine QbZ hc pins s σ H xs us Q I r ?_
 obtain ⟨R,h,ws,w,h',rh,rw,e,k⟩:=q
 unfold QhE at e
 split at e
 ·cases e
  obtain ⟨v,u,rfl,r1,r2⟩:=Qfv rw
  exact ⟨_,_,by rw [r1.int_eq,r2.int_eq],k R H _ (Ext.refl _) rh (Rw.int _)⟩
 ·cases e
theorem QbM (hc:X.calm=true):CallR X (.builtin "min") (Fs X.K QgH):=by
 intro pins s σ H xs us Q I r q
 refine G6 hc pins s σ H xs us Q I r ?_
 obtain ⟨R,h,ws,w,h',rh,rw,e,k⟩:=q
 unfold QgH at e
 split at e
 ·cases e
  obtain ⟨v,u,rfl,r1,r2⟩:=Qfv rw
  exact ⟨_,_,by rw [r1.int_eq,r2.int_eq],k R H _ (Ext.refl _) rh (Rw.int _)⟩
 ·cases e
noncomputable def rep (x:Str) (n:Int):Str:=⟨((List.replicate n.toNat x.cps.toList).flatten).toArray⟩
theorem Wy:∀ (l:List (Array Nat)) (a:Array Nat),l.foldl (·++·) a=(a.toList++(l.map Array.toList).flatten).toArray
 | [],a=>by simp
 | b::l,a=>by rw [List.foldl_cons,Wy l];simp
theorem Qdy (x:Str) (n:Int):(⟨(List.replicate n.toNat x.cps).foldl (·++·) #[]⟩:Str)=rep x n:=by
 unfold rep
 rw [Wy]
 simp
theorem QcR (x:Str) {n:Int} (h:n < 1):Str.empty=rep x n:=by
 unfold rep
 rw [show n.toNat=0 by omega];rfl
theorem Qes (x:Str):x=rep x 1:=by
 unfold rep
 simp
theorem QfD {x:Str} (n:Int) (h:(x.length == 0)=true):x=rep x n:=by
 unfold rep
 have:x.cps=#[]:=by
  have:x.cps.size=0:=by simpa [Str.length] using h
  exact Array.eq_empty_of_size_eq_zero this
 obtain ⟨c⟩:=x
 simp at this
 subst this
 simp
noncomputable def Xd (a b:W) (h:MH):Option (W×MH):=match a,b with
 | .str x,.int n=>if n < 1000/\-1000 < n/\x.length < 1000 then some (.str (rep x n),h) else none
 | a,b=>Qgu a b h
theorem Qe4:OpR X (binaryOp .Mult) (fun x y H Q=>∃ z n,x=.str z/\y=.int n/\(n < 1000/\-1000 < n/\z.length < 1000)/\Q (.str (rep z n)) H):=by
  intro pins s σ H x y v u Q I rx ry ⟨z,n,e1,e2,⟨h1,h2,h3⟩,q⟩
  subst e1 e2
  obtain ⟨t,rfl⟩:=rx
  obtain ⟨t',rfl⟩:=ry
  have hm:z.length*n.toNat < 1000000:=by
    calc z.length*n.toNat<=999*999:=Nat.mul_le_mul (by omega) (by omega)
      _ < 1000000:=by decide
  refine PySem.P.mul_str (by rw [decide_eq_false (by omega),decide_eq_false (by omega)];rfl) (fun a _=>?_) (fun a _=>?_) ?_
  · have:(2 ^ 63 - 1) / n >= 1000:=by
      rw [ge_iff_le,Int.le_ediv_iff_mul_le (by omega)];omega
    omega
  · unfold Builtin.Str.tooLong
    exact decide_eq_false (by show ¬ _;have:sizeLine=16777216:=by decide
                              omega)
  · have done:∀ (y:Str) (tk:Tok) (s':Shared),y=rep z n->Inv X pins σ H s'->EP X pins σ Q (.str y tk) s':=fun y tk s' ey I'=>⟨.str y,H,I',⟨_,rfl⟩,by rw [ey];exact q⟩
    split
    · rename_i hn
      exact ⟨by decide,done _ _ _ (QcR z hn) (I.tok _)⟩
    · split
      · rename_i hn ho
        rw [Bool.or_eq_true] at ho
        refine done _ _ _ ?_ I
        rcases ho with ho | ho
        · have:n=1:=by simpa using ho
          subst this;exact Qes z
        · exact QfD n ho
      · refine ⟨?_,done _ _ _ (Qdy z n) (I.tok _)⟩
        rw [Qdy]
        have hl:(rep z n).length=n.toNat*z.length:=by
          unfold rep Str.length
          simp
        rw [hl,Nat.mul_comm]
        have:sizeLine=16777216:=by decide
        omega
theorem VP:OpR X (binaryOp .Mult) (F2 X.K Xd):=by
 intro pins s σ H x y v u Q I rx ry q
 obtain ⟨R,h,a,b,w,h',rh,ra,rb,e,k⟩:=q
 unfold Xd at e
 split at e
 ·split at e
  ·rename_i hl
   cases e
   exact Qe4 pins s σ H x y v u Q I rx ry ⟨_,_,ra.str_eq,rb.int_eq,hl,k R H _ (Ext.refl _) rh (Rw.str _)⟩
  ·cases e
 ·exact Qd4 pins s σ H x y v u Q I rx ry ⟨R,h,a,b,w,h',rh,ra,rb,e,k⟩
end
section
variable {X:Cx} {elt tg iter c:Expr} {scope:Scope} {pos pos' spos:Pos} {cl:List (Str×Addr)} {Nb:List Str} {cp:List (Option Nat)} {mi:MI} {b:MG} {mt:MT} {me m:ME} {fin:List W->MH->Option (W×MH)} {i:Nat} {x:Str} {e:Expr}
theorem Qa9 {K:PySem.W.Frag} {D:L2.Ends} {σ:L2.St} {H:Hp} (q:tS K (Zi i m) D σ H):tI K m σ H fun v H1=>Qaa i v σ H1 D.nx:=by
 obtain ⟨R,σi,h,r,rh,s,e,k⟩:=q
 obtain ⟨⟨w,h1⟩,e1,e2⟩:=Option.map_eq_some_iff.mp e
 cases e2
 exact ⟨R,σi,h,w,h1,rh,s,e1,fun R1 H1 v x1 rh1 rv=>k R1 H1 _ x1 rh1 ((s.mono x1).set rv)⟩
theorem Xb (hN:X.N.Nodup) (hix:X.N[i]?=some x) (hx:Loc X.env.scope x) (hfn:X.fn x=true\/X.env.scope.names.lookup x=some .local) (hf:Uo X.K fin) (hc:X.calm=true) (B:BlkOk X scope cl Nb cp) (hi:PMI X tg iter mi) (hg:∀ s₀ H₀ C ex pn,PMG (Mi.blk X scope cl Nb s₀ H₀ C ex pn) tg b)
  (he:∀ s₀ H₀ C ex pn,PM (Mi.blk X scope cl Nb s₀ H₀ C ex pn) elt me) (hs:∀ x,foldedSetIterable iter X.env x=pure x) (hsw:swapsWith (.ListComp elt [⟨tg,iter,[],0⟩] scope pos) (some (.Name x pos')) spos.line X.env=pure true) :
  PMS X (.Assign [.Name x pos'] (.ListComp elt [⟨tg,iter,[],0⟩] scope pos) spos) (Zi i (Zw fin mi cp b XR me)):=
 VG (Qa6 (g:=tIG X.K b) (te:=tI X.K me) (tt:=tIT X.K XR) hN hix hx hfn hsw hc B hi hg (fun s₀ H₀ C ex pn pins s τ H Q I q=>wpAny_tests_nil (by
  obtain ⟨R,σi,h,t,h',rh,st,e,k⟩:=q
  cases e
  exact ⟨H,I,k R H (Ext.refl _) rh⟩)) he hs) fun _ _ _ q=>YJ hf (Qa9 q)
theorem Qbr (hN:X.N.Nodup) (hix:X.N[i]?=some x) (hx:Loc X.env.scope x) (hfn:X.fn x=true\/X.env.scope.names.lookup x=some .local) (hf:Uo X.K fin) (hc:X.calm=true) (B:BlkOk X scope cl Nb cp) (hi:PMI X tg iter mi) (hg:∀ s₀ H₀ C ex pn,PMG (Mi.blk X scope cl Nb s₀ H₀ C ex pn) tg b)
  (ht:∀ s₀ H₀ C ex pn,PMT (Mi.blk X scope cl Nb s₀ H₀ C ex pn) c mt)
  (he:∀ s₀ H₀ C ex pn,PM (Mi.blk X scope cl Nb s₀ H₀ C ex pn) elt me) (hs:∀ x,foldedSetIterable iter X.env x=pure x) (hsw:swapsWith (.ListComp elt [⟨tg,iter,[c],0⟩] scope pos) (some (.Name x pos')) spos.line X.env=pure true) :
  PMS X (.Assign [.Name x pos'] (.ListComp elt [⟨tg,iter,[c],0⟩] scope pos) spos) (Zi i (Zw fin mi cp b mt me)):=
 VG (Qa6 (g:=tIG X.K b) (te:=tI X.K me) (tt:=tIT X.K mt) hN hix hx hfn hsw hc B hi hg (fun s₀ H₀ C ex pn pins s τ H Q I q=>wpAny_tests_one (ht s₀ H₀ C ex pn pins s τ H Q I q)) he hs) fun _ _ _ q=>YJ hf (Qa9 q)
end
end Mi

namespace Mi
open PySem PySem.Spec PyProof.Rows L2
set_option checkBinderAnnotations false in
noncomputable def ob {α β:Type} [f:α->Option β] (x:Option α):Option β:=x.bind f
set_option checkBinderAnnotations false in
noncomputable def om {α β:Type} [f:α->β] (x:Option α):Option β:=x.map f
@[simp] theorem Qfl {α β:Type} {a:α} {f:α->Option β}:@ob _ _ f (some a)=f a:=id rfl
@[simp] theorem QjE {α β:Type} {a:α} {f:α->β}:@om _ _ f (some a)=some (f a):=id rfl
noncomputable def QiU (b:SM):MF->Option MF
 | .nx σ h=>b σ h
 | r=>some r
section
variable {σ σ':MSt} {h h':MH} {a b:SM} {m ma mb mc:ME} {t u:MT} {ms:MA} {w x y:W} {ws:List W}
@[simp] theorem Qin:QiU b (.nx σ h)=b σ h:=id rfl
@[simp] theorem QiJ:QiU b (.rt w h)=some (.rt w h):=id rfl
@[simp] theorem QlZ:QJ a b σ h=@ob _ _ (QiU b) (a σ h):=by
 unfold QJ
 refine congrArg (fun f_=>@ob _ _ f_ (a σ h)) (funext fun r=>?_)
 cases r<;>rfl
@[simp] theorem QjZ:ZH σ h=some (.nx σ h):=id rfl
@[simp] theorem QlA:J2 m σ h=@om _ _ (fun p=>.rt p.1 p.2) (m σ h):=id rfl
noncomputable def onB (a b:SM) (σ:MSt) (p:Bool×MH):Option MF:=if p.1=true then a σ p.2 else b σ p.2
@[simp] theorem QjB (c:Bool):onB a b σ (c,h)=if c=true then a σ h else b σ h:=id rfl
@[simp] theorem Ql3:Vo t a b σ h=@ob _ _ (onB a b σ) (t σ h):=by
 unfold Vo
 refine congrArg (fun f_=>@ob _ _ f_ (t σ h)) (funext fun p=>?_)
 obtain ⟨c,h⟩:=p
 cases c<;>rfl
@[simp] theorem Qk1:ZU m σ h=@om _ _ (fun p=>.nx σ p.2) (m σ h):=id rfl
@[simp 500] theorem Ql6 {i:Nat}:Zi i m σ h=@om _ _ (fun p=>.nx (σ.set i (some p.1)) p.2) (m σ h):=id rfl
@[simp 1100] theorem Qmm {v0 x:Option W} {r:MSt}:List.set (v0::r) 0 x=x::r:=id rfl
@[simp 1100] theorem Qmn {v0 v1 x:Option W} {r:MSt}:List.set (v0::v1::r) 1 x=v0::x::r:=id rfl
@[simp 1100] theorem QlU {v0 v1 v2 x:Option W} {r:MSt}:List.set (v0::v1::v2::r) 2 x=v0::v1::x::r:=id rfl
@[simp 1100] theorem Qmo {v0 v1 v2 v3 x:Option W} {r:MSt}:List.set (v0::v1::v2::v3::r) 3 x=v0::v1::v2::x::r:=id rfl
@[simp 1100] theorem Qk4 {v0 v1 v2 v3 v4 x:Option W} {r:MSt}:List.set (v0::v1::v2::v3::v4::r) 4 x=v0::v1::v2::v3::x::r:=id rfl
@[simp 1100] theorem QlY {v0 v1 v2 v3 v4 v5 x:Option W} {r:MSt}:List.set (v0::v1::v2::v3::v4::v5::r) 5 x=v0::v1::v2::v3::v4::x::r:=id rfl
@[simp 1100] theorem QlW {v0 v1 v2 v3 v4 v5 v6 x:Option W} {r:MSt}:List.set (v0::v1::v2::v3::v4::v5::v6::r) 6 x=v0::v1::v2::v3::v4::v5::x::r:=id rfl
@[simp 1100] theorem Qlj {v0 v1 v2 v3 v4 v5 v6 v7 x:Option W} {r:MSt}:List.set (v0::v1::v2::v3::v4::v5::v6::v7::r) 7 x=v0::v1::v2::v3::v4::v5::v6::x::r:=id rfl
@[simp 1100] theorem Qlr {v0 v1 v2 v3 v4 v5 v6 v7 v8 x:Option W} {r:MSt}:List.set (v0::v1::v2::v3::v4::v5::v6::v7::v8::r) 8 x=v0::v1::v2::v3::v4::v5::v6::v7::x::r:=id rfl
@[simp 1100] theorem Qli {v0 v1 v2 v3 v4 v5 v6 v7 v8 v9 x:Option W} {r:MSt}:List.set (v0::v1::v2::v3::v4::v5::v6::v7::v8::v9::r) 9 x=v0::v1::v2::v3::v4::v5::v6::v7::v8::x::r:=id rfl
@[simp] theorem QlO {g:MG}:QjO g m σ h=@ob _ _ (fun p=>@om _ _ (fun σ1=>.nx σ1 p.2) (g p.1 σ p.2)) (m σ h):=id rfl
@[simp] theorem QgX {o:W} {r:MSt}:Qg 0 (some o::r) h=some (o,h):=id rfl
@[simp] theorem QjY {v0:Option W} {o:W} {r:MSt}:Qg 1 (v0::some o::r) h=some (o,h):=id rfl
@[simp] theorem Qkj {v0 v1:Option W} {o:W} {r:MSt}:Qg 2 (v0::v1::some o::r) h=some (o,h):=id rfl
@[simp] theorem QjX {v0 v1 v2:Option W} {o:W} {r:MSt}:Qg 3 (v0::v1::v2::some o::r) h=some (o,h):=id rfl
@[simp] theorem Qkg {v0 v1 v2 v3:Option W} {o:W} {r:MSt}:Qg 4 (v0::v1::v2::v3::some o::r) h=some (o,h):=id rfl
@[simp] theorem QkO {v0 v1 v2 v3 v4:Option W} {o:W} {r:MSt}:Qg 5 (v0::v1::v2::v3::v4::some o::r) h=some (o,h):=id rfl
@[simp] theorem QkP {v0 v1 v2 v3 v4 v5:Option W} {o:W} {r:MSt}:Qg 6 (v0::v1::v2::v3::v4::v5::some o::r) h=some (o,h):=id rfl
@[simp] theorem QkM {v0 v1 v2 v3 v4 v5 v6:Option W} {o:W} {r:MSt}:Qg 7 (v0::v1::v2::v3::v4::v5::v6::some o::r) h=some (o,h):=id rfl
@[simp] theorem Qkz {v0 v1 v2 v3 v4 v5 v6 v7:Option W} {o:W} {r:MSt}:Qg 8 (v0::v1::v2::v3::v4::v5::v6::v7::some o::r) h=some (o,h):=id rfl
@[simp] theorem QjV {v0 v1 v2 v3 v4 v5 v6 v7 v8:Option W} {o:W} {r:MSt}:Qg 9 (v0::v1::v2::v3::v4::v5::v6::v7::v8::some o::r) h=some (o,h):=id rfl
@[simp 400] theorem Qj2 {i:Nat} {o:Option W} {r:MSt}:Qg (i+1) (o::r) h=Qg i r h:=by
 unfold Qg;rw [List.getElem?_cons_succ]
@[simp] theorem s_c:mC w σ h=some (w,h):=id rfl
@[simp 500] theorem Qlq {f:W->W->MH->Option (W×MH)}:Qm f ma mb σ h=@ob _ _ (fun p=>@ob _ _ (fun q=>f p.1 q.1 q.2) (mb σ p.2)) (ma σ h):=id rfl
@[simp] theorem Qmt {f:W->MH->Option (W×MH)}:mUn f ma σ h=@ob _ _ (fun p=>f p.1 p.2) (ma σ h):=id rfl
@[simp] theorem Qmf {f:List W->MH->Option (W×MH)}:mFn f ms σ h=@ob _ _ (fun p=>f p.1 p.2) (ms σ h):=id rfl
@[simp] theorem Qj8 {n:Nat} {g:FM}:Qv n g ms σ h=@ob _ _ (fun p=>if p.1.length=n then g p.1 p.2 else none) (ms σ h):=id rfl
@[simp] theorem Qjl:Ql σ h=some ([],h):=id rfl
@[simp 600] theorem QkS {f:W->W->MH->Option (W×MH)}:Qm f ma (mC w) σ h=@ob _ _ (fun p=>f p.1 w p.2) (ma σ h):=id rfl
@[simp 600] theorem QjD:Qc (mC w) ms σ h=@ob _ _ (fun q=>some (w::q.1,q.2)) (ms σ h):=id rfl
@[simp 610] theorem Qjz:Qc m Ql σ h=@ob _ _ (fun p=>some ([p.1],p.2)) (m σ h):=id rfl
@[simp 620] theorem Qil:Qc (mC w) Ql σ h=some ([w],h):=id rfl
@[simp 600] theorem Qkt {i:Nat}:Zi i (mC w) σ h=some (.nx (σ.set i (some w)) h):=id rfl
@[simp 500] theorem QgE:Qc m ms σ h=@ob _ _ (fun p=>@ob _ _ (fun q=>some (p.1::q.1,q.2)) (ms σ p.2)) (m σ h):=id rfl
noncomputable def asB (p:W×MH):Option (Bool×MH):=match p.1 with | .bl b=>some (b,p.2) | _=>none
@[simp] theorem Qkq (c:Bool):asB (.bl c,h)=some (c,h):=id rfl
@[simp 500] theorem QjU:QA m σ h=@ob _ _ asB (m σ h):=id rfl
@[simp] theorem QkG:Wa t σ h=@om _ _ (fun p=>(!p.1,p.2)) (t σ h):=by
 unfold Wa
 first | rfl | (cases t σ h<;>rfl)
noncomputable def Qgz (u:MT) (σ:MSt) (p:Bool×MH):Option (Bool×MH):=if p.1=true then u σ p.2 else some (false,p.2)
noncomputable def QjS (u:MT) (σ:MSt) (p:Bool×MH):Option (Bool×MH):=if p.1=true then some (true,p.2) else u σ p.2
@[simp] theorem QhA (c:Bool):Qgz u σ (c,h)=if c=true then u σ h else some (false,h):=id rfl
@[simp] theorem Qig (c:Bool):QjS u σ (c,h)=if c=true then some (true,h) else u σ h:=id rfl
@[simp 500] theorem Uv:Vc t u σ h=@ob _ _ (Qgz u σ) (t σ h):=by
 unfold Vc
 refine congrArg (fun f_=>@ob _ _ f_ (t σ h)) (funext fun p=>?_)
 obtain ⟨c,h⟩:=p
 cases c<;>rfl
@[simp 500] theorem Qll:GB t u σ h=@ob _ _ (QjS u σ) (t σ h):=by
 unfold GB
 refine congrArg (fun f_=>@ob _ _ f_ (t σ h)) (funext fun p=>?_)
 obtain ⟨c,h⟩:=p
 cases c<;>rfl
noncomputable def Qkd (ma mb:ME) (σ:MSt) (p:Bool×MH):Option (W×MH):=if p.1=true then ma σ p.2 else mb σ p.2
@[simp] theorem Qia (c:Bool):Qkd ma mb σ (c,h)=if c=true then ma σ h else mb σ h:=id rfl
@[simp] theorem Qmy:mIf t ma mb σ h=@ob _ _ (Qkd ma mb σ) (t σ h):=by
 unfold mIf
 refine congrArg (fun f_=>@ob _ _ f_ (t σ h)) (funext fun p=>?_)
 obtain ⟨c,h⟩:=p
 cases c<;>rfl
@[simp] theorem Qlb:WJ m σ h=@ob _ _ (fun p=>@om _ _ (fun b=>(b,p.2)) (Qf3 p.2 p.1)) (m σ h):=by
 unfold WJ
 rfl
@[simp] theorem Qmw {T:String} {f:W->List W->MH->Option (W×MH)}:mMt T f m ms σ h=@ob _ _ (fun p=>if tyW p.2 T p.1=true then @ob _ _ (fun q=>f p.1 q.1 q.2) (ms σ p.2) else none) (m σ h):=id rfl
end
section
variable {h:MH} {i j:Int} {x y:Str} {ws us:List W} {w:W}
@[simp] theorem QlE:Vt (.int i) (.int j) h=some (.int (i+j),h):=id rfl
@[simp] theorem Ql4:Gx (.int i) (.int j) h=some (.int (i - j),h):=id rfl
@[simp] theorem Qmv:wLt (.int i) (.int j) h=some (.bl (decide (i < j)),h):=id rfl
@[simp] theorem QmI:wGt (.int i) (.int j) h=some (.bl (decide (j < i)),h):=id rfl
@[simp] theorem QmH:wGe (.int i) (.int j) h=some (.bl (decide (j<=i)),h):=id rfl
@[simp] theorem QlC:UQ (.int i) h=some (.int (-i),h):=id rfl
@[simp] theorem Ql1 (c:0 < j):Qas (.int i) (.int j) h=some (.int (i % j),h):=Qe7 c
@[simp] theorem Qle (c:0 < j) (c':j < 1073741824):Qe3 (.int i) (.int j) h=some (.int (i / j),h):=Qeb ⟨c,c'⟩
@[simp] theorem Qki (c:-18446744073709551616 < j) (c':j < 18446744073709551616):Xd (.int i) (.int j) h=some (.int (i*j),h):=Qbx (.inr ⟨c,c'⟩)
@[simp] theorem Qkm (c:-18446744073709551616 < i) (c':i < 18446744073709551616):Xd (.int i) (.int j) h=some (.int (i*j),h):=Qbx (.inl ⟨c,c'⟩)
@[simp] theorem Qmq (c:0<=j) (c':j<=1000000) (c'':i.natAbs < 18446744073709551616):QeJ (.int i) (.int j) h=some (.int (i ^ j.toNat),h):=QeW ⟨c,c',c''⟩
theorem Qbd (c:j < 1000/\-1000 < j/\x.length < 1000):Xd (.str x) (.int j) h=some (.str (rep x j),h):=if_pos c
@[simp] theorem Qjt:QhE [.int i,.int j] h=some (.int (if j > i then j else i),h):=id rfl
@[simp] theorem Qi6:QgH [.int i,.int j] h=some (.int (if j < i then j else i),h):=id rfl
@[simp] theorem Qmr:Jj ws h=if ws.length<=sizeLine then some (.tup ws,h) else none:=id rfl
@[simp] theorem Qlh:Xs ws h=if ws.length<=sizeLine then some (.lst ws,h) else none:=id rfl
@[simp] theorem Qk8:Ky ws h=if ws.length<=sizeLine then some (.ref h.length,h++[.lst ws]) else none:=id rfl
@[simp] theorem QlK:wIx (.tup ws) (.int i) h=@om _ _ (fun w=>(w,h)) (atI ws i):=id rfl
@[simp] theorem Qme:wIx (.lst ws) (.int i) h=@om _ _ (fun w=>(w,h)) (atI ws i):=id rfl
@[simp] theorem Qmd:wIx (.frz ws) (.int i) h=@om _ _ (fun w=>(w,h)) (atI ws i):=id rfl
@[simp] theorem Qlv {n:Nat}:wIx (.ref n) (.int i) h=@ob _ _ (fun (ws:List W)=>@om _ _ (fun w=>(w,h)) (atI ws i)) (match h[n]? with | some (.lst ws)=>some ws | _=>none):=id rfl
@[simp] theorem Qkx:JS [.tup ws] h=some (.int ws.length,h):=id rfl
@[simp] theorem QkF:JS [.lst ws] h=some (.int ws.length,h):=id rfl
@[simp] theorem Qge:JS [.frz ws] h=some (.int ws.length,h):=id rfl
@[simp] theorem Qkl {n:Nat}:JS [.ref n] h=@om _ _ (fun (ws:List W)=>(.int ws.length,h)) (match h[n]? with | some (.lst ws)=>some ws | _=>none):=id rfl
theorem Q6 {α:Type} {xs:List α} {n:Nat}:atI xs (n:Int)=xs[n]?:=by
 cases e:xs[n]? with
 | some x=>exact Qeg e
 | none=>
  unfold atI ixN
  have:xs.length<=n:=List.getElem?_eq_none_iff.mp e
  rw [if_pos (by omega)]
  rw [if_neg (by omega)]
  rfl
@[simp] theorem Qmg {α:Type} {xs:List α}:atI xs 0=xs[0]?:=Q6 (n:=0)
@[simp] theorem Qms {α:Type} {xs:List α}:atI xs 1=xs[1]?:=Q6 (n:=1)
@[simp] theorem Qj9 {α:Type} {xs:List α} {y:α}:atI (xs++[y]) (-1)=some y:=U4 xs y
@[simp] theorem QlF {n:Nat}:ixN (n+1) 0=some 0:=by unfold ixN;rw [if_pos (by decide),if_pos (by omega)];rfl
@[simp] theorem Qk3 {n:Nat}:ixN (n+2) 1=some 1:=by unfold ixN;rw [if_pos (by decide),if_pos (by omega)];rfl
@[simp] theorem QlT {n:Nat}:ixN (n+3) 2=some 2:=by unfold ixN;rw [if_pos (by decide),if_pos (by omega)];rfl
theorem QfH {n k:Nat} (hk:k < n):ixN n (k:Int)=some k:=by unfold ixN;rw [if_pos (by omega),if_pos (by omega)];simp
@[simp] theorem QkI {n:Nat}:ixN (n+1) (-1)=some n:=by unfold ixN;rw [if_neg (by decide),if_pos (by omega)];congr 1;omega
noncomputable def putAt (o i v:W) (σ:MSt) (h:MH):Option MF:=match o,i with
 | .ref n,.int k=>match h[n]? with
  | some (.lst xs)=>@om _ _ (fun j=>.nx σ (h.set n (.lst (xs.set j v)))) (ixN xs.length k)
  | _=>none
 | _,_=>none
@[simp] theorem QlG {mo mi mv:ME} {σ:MSt}:Qb3 mo mi mv σ h=@ob _ _ (fun v=>@ob _ _ (fun o=>@ob _ _ (fun i=>putAt o.1 i.1 v.1 σ i.2) (mi σ o.2)) (mo σ v.2)) (mv σ h):=id rfl
@[simp] theorem Qjd {n:Nat} {v:W} {σ:MSt}:putAt (.ref n) (.int i) v σ h=match h[n]? with
  | some (.lst xs)=>@om _ _ (fun j=>.nx σ (h.set n (.lst (xs.set j v)))) (ixN xs.length i)
  | _=>none:=id rfl
@[simp] theorem Qko {w:W}:QfZ (some (.rt w h))=some (w,h):=id rfl
@[simp] theorem Qkr {σ:MSt}:QfZ (some (.nx σ h))=some (.non,h):=id rfl
@[simp] theorem Qib {n:Nat} {w:W}:QZ (.ref n) [w] h=match h[n]? with | some (.lst xs)=>if xs.length < sizeLine then some (.non,h.set n (.lst (xs++[w]))) else none | _=>none:=id rfl
@[simp] theorem Qh3 {n:Nat} {w:W}:Kb (.ref n) [w] h=match h[n]? with | some (.lst xs)=>@ob _ _ (fun ys=>if xs.length+ys.length<=sizeLine then some (.non,h.set n (.lst (xs++ys))) else none) (loW h w) | _=>none:=id rfl
@[simp] theorem QlI:loW h (.lst ws)=some ws:=id rfl
@[simp] theorem Qlt {n:Nat}:Qgr (.ref n) [] h=match h[n]? with | some (.lst xs)=>@om _ _ (fun w=>(w,h.set n (.lst xs.dropLast))) (xs[xs.length - 1]?) | _=>none:=id rfl
@[simp] theorem QlB {n:Nat} {T:String}:tyW h T (.ref n)=match h[n]? with | some (.lst _)=>T == "list" | some (.dic _)=>T == "dict" | some (.dct _)=>T == "dict" | none=>false:=id rfl
@[simp] theorem Qk7 {T:String}:tyW h T (.lst ws)=(T == "list"):=id rfl
@[simp] theorem Qka {b:Bool}:Qf3 h (.bl b)=some b:=id rfl
@[simp] theorem Qik:VW [.lst ws] h=some (.tup ws,h):=id rfl
@[simp] theorem Qh5 {n:Nat}:VW [.ref n] h=@om _ _ (fun (ws:List W)=>(.tup ws,h)) (match h[n]? with | some (.lst ws)=>some ws | _=>none):=id rfl
@[simp] theorem QmJ {ma:ME} {ml mh:MOp} {σ:MSt}:mSl ma ml mh σ h=@ob _ _ (fun p=>@ob _ _ (fun q=>@ob _ _ (fun r=>wSl p.1 q.1 r.1 r.2) (mh σ q.2)) (ml σ p.2)) (ma σ h):=id rfl
@[simp] theorem QmD {σ:MSt}:W0 σ h=some (none,h):=id rfl
noncomputable def asI (p:W×MH):Option (Option Int×MH):=match p.1 with | .int i=>some (some i,p.2) | _=>none
@[simp] theorem Qjo:asI (.int i,h)=some (some i,h):=id rfl
@[simp] theorem Qmx {m:ME} {σ:MSt}:Kf m σ h=@ob _ _ asI (m σ h):=id rfl
@[simp] theorem Qma {lo hi:Option Int}:wSl (.tup ws) lo hi h=some (.tup (Gj ws lo hi),h):=id rfl
@[simp] theorem Qlc {lo hi:Option Int}:wSl (.lst ws) lo hi h=some (.lst (Gj ws lo hi),h):=id rfl
@[simp] theorem QkZ:Vt (.tup ws) (.tup us) h=if ws.length+us.length<=sizeLine then some (.tup (ws++us),h) else none:=id rfl
@[simp] theorem QkQ:Vt (.str x) (.str y) h=if x.length+y.length<=sizeLine then some (.str (x++y),h) else none:=id rfl
@[simp] theorem Qje {a:W}:KM a .non h=some (.bl (!XW a),h):=id rfl
@[simp] theorem Qh9:XW .non=true:=id rfl
@[simp] theorem Qih:XW (.str x)=false:=id rfl
@[simp] theorem Qk5 {a:W} {T:String}:Qd3 [a,.ty T] h=if XC T=true then @om _ _ (fun k=>(.bl (VF k T),h)) (Gm h a) else none:=id rfl
@[simp] theorem Qlo:Gm h (.int i)=some "int":=id rfl
@[simp] theorem Qlw:Gm h (.tup ws)=some "tuple":=id rfl
@[simp] theorem Qld:Gm h (.lst ws)=some "list":=id rfl
@[simp] theorem Qmu:XC "int"=true:=by decide
@[simp] theorem QmA:XC "bool"=true:=by decide
@[simp] theorem QmF:XC "list"=true:=by decide
@[simp] theorem QmC:XC "tuple"=true:=by decide
end
mutual
noncomputable def pln:W->Bool
 | .tup ws=>Xr ws
 | .lst ws=>Xr ws
 | .frz _=>false
 | .ref _=>false
 | .ty _=>false
 | _=>true
noncomputable def Xr:List W->Bool
 | []=>true
 | w::ws=>pln w && Xr ws
end
mutual
noncomputable def dep:W->Nat
 | .tup ws=>Kw ws+1
 | .lst ws=>Kw ws+1
 | _=>1
noncomputable def Kw:List W->Nat
 | []=>0
 | w::ws=>max (dep w) (Kw ws)
end
mutual
theorem V5 (h:MH):∀ (w:W) (n:Nat),pln w=true->dep w<=n->drf h n w=some w
 | .non,n+1,_,_=>rfl
 | .bl _,n+1,_,_=>rfl
 | .int _,n+1,_,_=>rfl
 | .str _,n+1,_,_=>rfl
 | .tup ws,n+1,p,d=>by
  unfold pln at p
  unfold dep at d
  show (ZV (drf h n) ws).map W.tup=_
  rw [Xj h ws n p (by omega)];rfl
 | .lst ws,n+1,p,d=>by
  unfold pln at p
  unfold dep at d
  show (ZV (drf h n) ws).map W.lst=_
  rw [Xj h ws n p (by omega)];rfl
 | .frz _,_,p,_=>by unfold pln at p;cases p
 | .ref _,_,p,_=>by unfold pln at p;cases p
 | .ty _,_,p,_=>by unfold pln at p;cases p
 | .non,0,_,d=>by unfold dep at d;omega
 | .bl _,0,_,d=>by unfold dep at d;omega
 | .int _,0,_,d=>by unfold dep at d;omega
 | .str _,0,_,d=>by unfold dep at d;omega
 | .tup _,0,_,d=>by unfold dep at d;omega
 | .lst _,0,_,d=>by unfold dep at d;omega
theorem Xj (h:MH):∀ (ws:List W) (n:Nat),Xr ws=true->Kw ws<=n->ZV (drf h n) ws=some ws
 | [],_,_,_=>rfl
 | w::ws,n,p,d=>by
  unfold Xr at p
  unfold Kw at d
  rw [Bool.and_eq_true] at p
  rw [ZV,V5 h w n p.1 (by omega),Option.bind_some,Xj h ws n p.2 (by omega)];rfl
end
mutual
theorem U5:∀ (w:W),pln w=true->eqW w w=true
 | .non,_=>by unfold eqW;rfl
 | .bl _,_=>by unfold eqW;simp
 | .int _,_=>by unfold eqW;simp
 | .str _,_=>by unfold eqW;simp
 | .tup ws,p=>by unfold pln at p;unfold eqW;exact X2 ws p
 | .lst ws,p=>by unfold pln at p;unfold eqW;exact X2 ws p
 | .frz _,p=>by unfold pln at p;cases p
 | .ref _,p=>by unfold pln at p;cases p
 | .ty _,p=>by unfold pln at p;cases p
theorem X2:∀ (ws:List W),Xr ws=true->Ks ws ws=true
 | [],_=>by unfold Ks;rfl
 | w::ws,p=>by
  unfold Xr at p
  rw [Bool.and_eq_true] at p
  unfold Ks
  rw [U5 w p.1,X2 ws p.2];rfl
end
theorem QkE {a b:W} {h:MH} (pa:pln a=true) (pb:pln b=true) (da:dep a<=40) (db:dep b<=40):wEq a b h=some (.bl (eqW a b),h):=by
 unfold wEq;rw [V5 h a 40 pa da,V5 h b 40 pb db];rfl
theorem Ql9 {a b:W} {h:MH} (pa:pln a=true) (pb:pln b=true) (da:dep a<=40) (db:dep b<=40):wNe a b h=some (.bl (!eqW a b),h):=by
 unfold wNe;rw [V5 h a 40 pa da,V5 h b 40 pb db];rfl
@[simp] theorem Qjh {i j:Int} {h:MH}:wEq (.int i) (.int j) h=some (.bl (i == j),h):=Qfz i j h
@[simp] theorem Qi4 {x y:Str} {h:MH}:wEq (.str x) (.str y) h=some (.bl (x == y),h):=Qet x y h
mutual
theorem X5:∀ (w:W),pln w=true->pur w=true
 | .non,_=>rfl
 | .bl _,_=>rfl
 | .int _,_=>rfl
 | .str _,_=>rfl
 | .tup ws,p=>by unfold pln at p;unfold pur;exact Zt ws p
 | .lst ws,p=>by unfold pln at p;unfold pur;exact Zt ws p
 | .frz _,p=>by unfold pln at p;cases p
 | .ref _,p=>by unfold pln at p;cases p
 | .ty _,p=>by unfold pln at p;cases p
theorem Zt:∀ (ws:List W),Xr ws=true->Jv ws=true
 | [],_=>rfl
 | w::ws,p=>by
  unfold Xr at p
  rw [Bool.and_eq_true] at p
  unfold Jv
  rw [X5 w p.1,Zt ws p.2];rfl
end
mutual
theorem Uw (f:Nat->Option W):∀ (w:W),pur w=true->th f w=some w
 | .non,_=>rfl
 | .bl _,_=>rfl
 | .int _,_=>rfl
 | .str _,_=>rfl
 | .ty _,_=>rfl
 | .tup ws,p=>by unfold pur at p;unfold th;rw [Z6 f ws p];rfl
 | .lst ws,p=>by unfold pur at p;unfold th;rw [Z6 f ws p];rfl
 | .frz ws,p=>by unfold pur at p;unfold th;rw [Z6 f ws p];rfl
 | .ref _,p=>by unfold pur at p;cases p
theorem Z6 (f:Nat->Option W):∀ (ws:List W),Jv ws=true->ths f ws=some ws
 | [],_=>rfl
 | w::ws,p=>by
  unfold Jv at p
  rw [Bool.and_eq_true] at p
  unfold ths
  rw [Uw f w p.1,Z6 f ws p.2];rfl
end
theorem Z4 {m:FM} {ws:List W} {w:W} {g h:MH} (hp:Jv ws=true) (e:m ws []=some (w,g)) (hw:pur w=true):box frN m ws h=some (w,h):=by
 have hr:V6 0 ws=some (ws,[]):=by
  generalize 0=k
  clear e
  induction ws with
  | nil=>rfl
  | cons a r ih=>
   unfold Jv at hp
   rw [Bool.and_eq_true] at hp
   have:=ih hp.2
   cases a<;>first | (unfold pur at hp;cases hp.1;done) | (unfold V6;rw [if_pos hp.1,this];rfl)
 unfold box
 rw [hr,Option.bind_some]
 unfold Qds
 rw [if_pos List.nodup_nil]
 simp only [ZV,Option.bind_some,e,frN,List.length_nil,List.range_zero]
 rw [if_pos ⟨List.nodup_nil,by simp⟩,Uw _ w hw]
 simp [QP]
theorem Jb {m:FM} {ws:List W} {w:W} {o o':MO} {n:Nat} {g h:MH} (hp:Jv ws=true) (hn:h[n]?=some o) (ho:GT o=true) (e:m (.ref 0::ws) [o]=some (w,o'::g)) (hw:pur w=true) (ho':∃ us,o'=.lst us/\Jv us=true):box frN m (.ref n::ws) h=some (w,h.set n o'):=by
 obtain ⟨us,rfl,hus⟩:=ho'
 have hr:∀ k,V6 k ws=some (ws,[]):=by
  clear e
  induction ws with
  | nil=>intro k;rfl
  | cons a r ih=>
   intro k
   unfold Jv at hp
   rw [Bool.and_eq_true] at hp
   have:=ih hp.2 k
   cases a<;>first | (unfold pur at hp;cases hp.1;done) | (unfold V6;rw [if_pos hp.1,this];rfl)
 unfold box
 have hr':V6 0 (.ref n::ws)=some (.ref 0::ws,[n]):=by
  unfold V6
  rw [hr];rfl
 rw [hr',Option.bind_some]
 unfold Qds
 rw [if_pos (by simp)]
 have hpk:QaM h n=some o:=by unfold QaM;rw [hn];simp [ho]
 simp only [ZV,hpk,Option.bind_some,Option.map_some,e,frN,List.length_singleton]
 rw [if_pos ⟨List.nodup_nil,by simp⟩,Uw _ w hw]
 simp [QP,List.range_succ,ZV,thO,Z6 _ us hus]
theorem V0 {m:FM} {args as:List W} {ns:List Nat} {os os':List MO} {g h:MH} {w w':W} (hr:V6 0 args=some (as,ns)) (hd:ns.Nodup) (ho:ZV (QaM h) ns=some os) (e:m as os=some (w,os'++g)) (hl:os'.length=ns.length)
  (hos:∀ o∈os',∃ us,o=.lst us/\Jv us=true) (hw:th (res (VX ns [] h.length) (os'++g) 3) w=some w'):box frN m args h=some (w',QP ns os' h):=by
 unfold box
 rw [hr,Option.bind_some]
 unfold Qds
 rw [if_pos hd,ho]
 simp only [Option.bind_some,e]
 rw [if_pos (show (frN w).Nodup/\∀ j∈frN w,ns.length<=j from ⟨List.nodup_nil,fun j hj=>by simp [frN] at hj⟩)]
 show (th (res (VX ns [] h.length) (os'++g) 3) w).bind _=_
 rw [hw,Option.bind_some]
 show (ZV (fun j=>((os'++g)[j]?).bind (thO (res (VX ns [] h.length) (os'++g) 3))) (List.range ns.length)).bind (fun os=>(ZV (fun j=>((os'++g)[j]?).bind (thO (res (VX ns [] h.length) (os'++g) 3))) []).map fun us=>(w',QP ns os h++us))=_
 have:ZV (fun j=>((os'++g)[j]?).bind (thO (res (VX ns [] h.length) (os'++g) 3))) (List.range ns.length)=some os':=by
  rw [<- hl]
  have key:∀ (k:Nat) (xs:List MO),(∀ i o,xs[i]?=some o->(os'++g)[k+i]?=some o)->(∀ o∈xs,∃ us,o=.lst us/\Jv us=true)->ZV (fun j=>((os'++g)[j]?).bind (thO (res (VX ns [] h.length) (os'++g) 3))) (List.range' k xs.length)=some xs:=by
   intro k xs
   induction xs generalizing k with
   | nil=>intro _ _;rfl
   | cons x xs ih=>
    intro h1 h2
    obtain ⟨us,hu,hp⟩:=h2 x List.mem_cons_self
    rw [List.length_cons,List.range'_succ]
    unfold ZV
    have h0:=h1 0 x rfl
    rw [Nat.add_zero] at h0
    rw [h0,Option.bind_some,ih (k+1) (fun i o hi=>by have:=h1 (i+1) o (by simpa using hi);rw [show k+1+i=k+(i+1) by omega];exact this) fun o hx=>h2 o (List.mem_cons_of_mem _ hx),hu]
    show ((ths _ us).map MO.lst).bind _=_
    rw [Z6 _ us hp];rfl
  rw [List.range_eq_range']
  exact key 0 os' (fun i o hi=>by rw [Nat.zero_add,List.getElem?_append_left (List.getElem?_eq_some_iff.mp hi).1];exact hi) hos
 rw [this]
 simp [ZV]
@[simp] theorem Qei {os:List MO} {h:MH}:QP [] os h=h:=by unfold QP;rfl
@[simp] theorem QdF {n:Nat} {ns:List Nat} {o:MO} {os:List MO} {h:MH}:QP (n::ns) (o::os) h=QP ns os (h.set n o):=by rw [QP]
theorem XT {h:MH} {n:Nat} {us:List W} (e:h[n]?=some (.lst us)) (hp:Jv us=true):QaM h n=some (.lst us):=by unfold QaM;rw [e];simp [GT,hp]
theorem VR {fin:List W->MH->Option (W×MH)} {mi:MI} {cp:List (Option Nat)} {me:ME} {σ caps:MSt} {h:MH} {items:List W} (f:W->W) (hi:mi σ h=some (items,none,h)) (hc:∃ o,QcZ cp σ=o::caps) (he:∀ w∈items,me (some w::caps) h=some (f w,h)) (hl:items.length<=sizeLine) :
  Zw fin mi cp (Jy 0) XR me σ h=fin (items.map f) h:=by
 obtain ⟨o,hc⟩:=hc
 unfold Zw
 rw [hi,Option.bind_some]
 simp only [hc]
 rw [VO (p:=fun _=>true) (f:=f) items [] o (fun _ _=>rfl) (fun w hw _=>he w hw) (by simpa using hl),List.filter_eq_self.mpr (fun _ _=>rfl)]
 rfl
theorem Qbi {fin:List W->MH->Option (W×MH)} {mi:MI} {cp:List (Option Nat)} {mt:MT} {me:ME} {σ caps:MSt} {h:MH} {items:List W} (f:W->W) (p:W->Bool) (hi:mi σ h=some (items,none,h)) (hc:∃ o,QcZ cp σ=o::caps) (ht:∀ w∈items,mt (some w::caps) h=some (p w,h)) (he:∀ w∈items,p w=true->me (some w::caps) h=some (f w,h)) (hl:items.length<=sizeLine) :
  Zw fin mi cp (Jy 0) mt me σ h=fin ((items.filter p).map f) h:=by
 obtain ⟨o,hc⟩:=hc
 unfold Zw
 rw [hi,Option.bind_some]
 simp only [hc]
 rw [VO (p:=p) (f:=f) items [] o ht he (by simpa using hl)]
 simp
theorem UA {α:Type} {items:List W} {b:MG} {me:ME} {fin:List W->MH->Option (W×MH)} (P:List α->MSt->MH->Prop) (enc:α->W):∀ (rest:List W) (acc:List α) (τ:MSt) (h:MH),P acc τ h->acc.length+rest.length<=sizeLine ->
  (∀ w∈rest,∀ acc τ h,P acc τ h->∃ τ1 x h1,b w τ h=some τ1/\me τ1 h=some (enc x,h1)/\P (acc++[x]) τ1 h1) ->
  ∃ acc' τ' h',ZK fin items none b XR me rest (acc.map enc) τ h=fin (acc'.map enc) h'/\P acc' τ' h'/\acc'.length=acc.length+rest.length
 | [],acc,τ,h,hp,_,_=>⟨acc,τ,h,by unfold ZK;rw [if_pos (Zl _ _)],hp,by simp⟩
 | w::rest,acc,τ,h,hp,hl,hs=>by
  have hl':acc.length+(rest.length+1)<=sizeLine:=by simpa using hl
  obtain ⟨τ1,x,h1,e1,e2,p1⟩:=hs w List.mem_cons_self acc τ h hp
  obtain ⟨acc',τ',h',e3,p3,l3⟩:=UA (items:=items) (b:=b) (me:=me) (fin:=fin) P enc rest (acc++[x]) τ1 h1 p1 (by simp;omega) fun y hy=>hs y (List.mem_cons_of_mem _ hy)
  refine ⟨acc',τ',h',?_,p3,by rw [l3];simp;omega⟩
  unfold ZK
  rw [if_pos (Zl _ _),e1,Option.bind_some]
  show (some (true,h)).bind _=_
  rw [Option.bind_some]
  simp only [e2,Option.bind_some]
  rw [if_pos (by rw [List.length_map];omega)]
  rw [List.map_append,List.map_cons,List.map_nil] at e3
  exact e3
theorem ZT {items:List W} {b:MG} {body:SM} (P:Nat->MSt->MH->Prop):∀ (r:List W) (n:Nat) (σ:MSt) (h:MH),P n σ h ->
  (∀ (j:Nat) (w:W),r[j]?=some w->∀ σ h,P (n+j) σ h->∃ σ1,b w σ h=some σ1/\∃ σ2 h2,(body σ1 h=some (.nx σ2 h2)\/body σ1 h=some (.ct σ2 h2))/\P (n+j+1) σ2 h2) ->
  ∃ σ' h',VA items none b body r σ h=some (.nx σ' h')/\P (n+r.length) σ' h'
 | [],n,σ,h,hp,_=>⟨σ,h,Qcg,hp⟩
 | w::r,n,σ,h,hp,hs=>by
  obtain ⟨σ1,e1,σ2,h2,e2,p2⟩:=hs 0 w rfl σ h hp
  obtain ⟨σ',h',e3,p3⟩:=ZT (items:=items) (b:=b) (body:=body) P r (n+1) σ2 h2 p2 fun j x hx σ h hp=>by
   have:=hs (j+1) x (by simpa using hx) σ h (by rw [show n+(j+1)=n+1+j by omega];exact hp)
   rw [show n+(j+1)+1=n+1+j+1 by omega] at this
   exact this
  refine ⟨σ',h',?_,by rw [List.length_cons,show n+(r.length+1)=n+1+r.length by omega];exact p3⟩
  rw [VA,if_pos (Zl _ _),e1,Option.bind_some]
  rcases e2 with e2 | e2<;>rw [e2]<;>exact e3
theorem XZ {t:MT} {body:SM} (P:Nat->MSt->MH->Prop):∀ (n f:Nat) (σ:MSt) (h:MH),n < f->P n σ h ->
  (∀ n σ h,P n σ h->(t σ h=some (false,h)/\n=0)\/(t σ h=some (true,h)/\∃ m σ2 h2,m < n/\(body σ h=some (.nx σ2 h2)\/body σ h=some (.ct σ2 h2))/\P m σ2 h2)) ->
  ∃ σ' h',Q0 t body f σ h=some (.nx σ' h')/\P 0 σ' h'
 | n,0,_,_,hf,_,_=>by omega
 | n,f+1,σ,h,hf,hp,hs=>by
  rcases hs n σ h hp with ⟨e,hn⟩ | ⟨e,m,σ2,h2,hm,e2,p2⟩
  ·subst hn
   exact ⟨σ,h,by rw [Q0,e];rfl,hp⟩
  ·obtain ⟨σ',h',e3,p3⟩:=XZ P m f σ2 h2 (by omega) p2 hs
   refine ⟨σ',h',?_,p3⟩
   rw [Q0,e]
   rcases e2 with e2 | e2<;>simp only [Option.bind_some,e2]<;>exact e3
noncomputable def eqS (y:Str) (p:W×MH):Option (Bool×MH):=@ob _ _ asB (wEq p.1 (.str y) p.2)
noncomputable def eqN (j:Int) (p:W×MH):Option (Bool×MH):=@ob _ _ asB (wEq p.1 (.int j) p.2)
@[simp 650] theorem QkN {ma:ME} {σ:MSt} {h:MH} {y:Str}:QA (Qm wEq ma (mC (.str y))) σ h=@ob _ _ (eqS y) (ma σ h):=by
 unfold QA Qm mC eqS ob
 cases ma σ h<;>rfl
@[simp 650] theorem QkC {ma:ME} {σ:MSt} {h:MH} {j:Int}:QA (Qm wEq ma (mC (.int j))) σ h=@ob _ _ (eqN j) (ma σ h):=by
 unfold QA Qm mC eqN ob
 cases ma σ h<;>rfl
@[simp] theorem Qiy {x y:Str} {h:MH}:eqS y (.str x,h)=some (x == y,h):=by unfold eqS;rw [Qi4];rfl
@[simp] theorem Qiq {i j:Int} {h:MH}:eqN j (.int i,h)=some (i == j,h):=by unfold eqN;rw [Qjh];rfl
end Mi

namespace Mi
open PySem PySem.Spec PyProof.Rows L2
section
variable {X:Cx}
end
end Mi
namespace Mi
open PySem PySem.Spec PyProof.Rows L2
end Mi
namespace Mi
open PySem PySem.Spec PyProof.Rows L2
section
open PySem.AutoSeq1
end
section
variable {X:Cx}
end
end Mi

namespace L2
open PySem PySem.Spec PyProof.Rows
noncomputable def RawD (h:Heap) (d:Addr) (es:Array DictEntry) (ep:Nat):Prop:=∃ o,h.get? d=some o/\o.ExactDict/\o.data=.dict es ep
theorem RawD.typeIs {s:Shared} {d:Addr} {es:Array DictEntry} {ep:Nat} (m:RawD s.heap d es ep):s.TypeIs (.ref d) "dict":=let ⟨o,ho,hc,_⟩:=m;⟨o,ho,hc.1⟩
theorem RawD.lt {h:Heap} {d:Addr} {es:Array DictEntry} {ep:Nat} (m:RawD h d es ep):d < h.objs.size:=let ⟨_,ho,_⟩:=m;Heap.lt_size ho
theorem RawD.at {h h':Heap} {d:Addr} {es:Array DictEntry} {ep:Nat} (m:RawD h d es ep) (k:∀ o,h.get? d=some o->h'.get? d=some o):RawD h' d es ep:=let ⟨o,ho,r⟩:=m;⟨o,k o ho,r⟩
section
variable {prog:Program} {w:World} {A:Around} {E:Value->Shared->Prop} {s:Shared} {it d:Addr} {es:Array DictEntry} {i ep:Nat}
end
end L2

namespace Mi
open PySem PySem.Spec PyProof.Rows L2
noncomputable def TrH (K:PySem.W.Frag) (H:Hp):Nat->Tr->V->Prop
 | 0,_,_=>False
 | _+1,.i k,v=>v=.int k\/∃ b:Bool,v=.bl b/\k=if b then 1 else 0
 | _+1,.s x,v=>v=.str x
 | n+1,.t ks,v=>∃ a xs,v=.ref a/\SqT K H a xs/\Paired (TrH K H n) ks xs
theorem QbN {α β γ:Type} {F:α->β->Prop} {G:β->γ->Prop} {M:α->γ->Prop} (f:∀ a b c,F a b->G b c->M a c):∀ {l₁:List α} {l₂:List β} {l₃:List γ},Paired F l₁ l₂->Paired G l₂ l₃->Paired M l₁ l₃
 | _,_,_,.nil,.nil=>.nil
 | _,_,_,.cons a s,.cons b t=>.cons (f _ _ _ a b) (QbN f s t)
section
variable {X:Cx} {pins:List (Addr×Obj)} {σ:L2.St} {H:Hp} {s:Shared}
theorem Qeq (I:Inv X pins σ H s):∀ {n:Nat} (k:Tr) (v:V) (u:Value),TrH X.K H n k v->RelV v u->IsT s.heap n k u
 | 0,_,_,_,x,_=>x.elim
 | n+1,.i k,v,u,x,r=>by
  rcases x with rfl | ⟨b,rfl,hk⟩
  ·exact .inl r
  ·exact .inr ⟨b,r,hk⟩
 | n+1,.s y,v,u,x,r=>by
  cases (show v=.str y from x)
  exact r
 | n+1,.t ks,v,u,x,r=>by
  obtain ⟨a,xs,rfl,q,p⟩:=x
  obtain ⟨its,r',pl,_⟩:=I.tuple q
  cases (show u=Value.ref a from r)
  exact ⟨a,its.toArray,rfl,pl,by simpa using QbN (fun k v u h1 h2=>Qeq I k v u h1 h2) p r'⟩
end
section
variable {K:PySem.W.Frag} {R:Rn} {h:MH} {H:Hp}
theorem QhY (rh:Rh K R h H):∀ (n:Nat) (w:W) (v:V) (k:Tr),Rw K R w v->Ww n w=some k->TrH K H n k v
 | 0,_,_,_,_,e=>by simp [Ww] at e
 | n+1,w,v,k,r,e=>by
  cases w with
  | int i=>simp only [Ww] at e;cases e;exact .inl r.int_eq
  | bl b=>simp only [Ww] at e;cases e;exact .inr ⟨b,r.bl_eq,rfl⟩
  | str x=>simp only [Ww] at e;cases e;exact r.str_eq
  | tup ws=>
   simp only [Ww] at e
   obtain ⟨ks,e1,e2⟩:=Option.map_eq_some_iff.mp e
   subst e2
   obtain ⟨a,xs,rfl,q,r1⟩:=rh.tupAt r
   refine ⟨a,xs,rfl,q,?_⟩
   clear e r q
   induction ws generalizing ks xs with
   | nil=>
    rw [Rws.nil_iff] at r1;subst r1
    rw [List.mapM_nil] at e1
    cases (show some []=some ks from e1)
    exact .nil
   | cons x ws ih=>
    rw [List.mapM_cons] at e1
    obtain ⟨k1,h1,e2⟩:=Option.bind_eq_some_iff.mp e1
    obtain ⟨ks1,h2,e3⟩:=Option.bind_eq_some_iff.mp e2
    cases (show some (k1::ks1)=some ks from e3)
    rw [Rws.cons_iff] at r1
    obtain ⟨y,ys,rfl,p1,p2⟩:=r1
    exact .cons (QhY rh n x y k1 p1 h1) (ih ks1 h2 ys p2)
  | _=>simp [Ww] at e
theorem QaP (rh:Rh K R h H) {w:W} {v:V} {k:Tr} (r:Rw K R w v) (e:nrm w=some k):TrH K H 8 k v:=by
 cases w with
 | tup ws=>exact QhY rh 8 _ v k r e
 | _=>cases e
theorem QeF (rh:Rh K R h H) {w:W} {v:V} {k:Tr} (r:Rw K R w v) (e:nrm w=some k):∃ a,v=.ref a:=by
 cases w with
 | tup ws=>obtain ⟨a,xs,rfl,_⟩:=rh.tupAt r;exact ⟨a,rfl⟩
 | _=>cases e
end
noncomputable def Ws (kvs:List (W×W)) (k:Tr):Option W:=(kvs.find? fun p=>decide (nrm p.1=some k)).map (·.2)
noncomputable def Qf2 (kvs:List (W×W)) (k:Tr) (kw v:W):List (W×W):=if (Ws kvs k).isSome=true then kvs.map (fun p=>if nrm p.1=some k then (p.1,v) else p) else kvs++[(kw,v)]
noncomputable def Ud (kx:List (Tr×Addr×V)) (k:Tr):Option V:=(kx.find? fun p=>decide (p.1=k)).map (·.2.2)
noncomputable def Qfx (kx:List (Tr×Addr×V)) (k:Tr) (b:Addr) (v:V):List (Tr×Addr×V):=if (Ud kx k).isSome=true then kx.map (fun p=>if p.1=k then (p.1,p.2.1,v) else p) else kx++[(k,b,v)]
noncomputable abbrev DctR (K:PySem.W.Frag) (R:Rn):List (W×W)->List (Tr×Addr×V)->Prop:=Paired fun p q=>Rw K R p.1 (.ref q.2.1)/\nrm p.1=some q.1/\Rw K R p.2 q.2.2
noncomputable abbrev Qf1:List (Tr×Addr×V)->List (Tr×Addr×Value)->Prop:=Paired fun p q=>p.1=q.1/\p.2.1=q.2.1/\RelV p.2.2 q.2.2
section
variable {K:PySem.W.Frag} {R:Rn}
theorem X3 {k:Tr}:∀ {kvs:List (W×W)} {kx:List (Tr×Addr×V)},DctR K R kvs kx->(Ws kvs k=none/\Ud kx k=none)\/∃ w v,Ws kvs k=some w/\Ud kx k=some v/\Rw K R w v
 | _,_,.nil=>.inl ⟨rfl,rfl⟩
 | p::ps,q::qs,.cons h t=>by
  by_cases e:q.1=k
  ·have e':nrm p.1=some k:=by rw [h.2.1,e]
   exact .inr ⟨p.2,q.2.2,by simp [Ws,List.find?_cons,e'],by simp [Ud,List.find?_cons,e],h.2.2⟩
  ·have e':¬ nrm p.1=some k:=by rw [h.2.1];exact fun z=>e (Option.some.inj z)
   have h1:Ws (p::ps) k=Ws ps k:=by simp only [Ws,List.find?_cons,e',decide_false]
   have h2:Ud (q::qs) k=Ud qs k:=by simp only [Ud,List.find?_cons,e,decide_false]
   rcases X3 (k:=k) t with z | ⟨w,v,z1,z2,z3⟩
   ·exact .inl ⟨h1.trans z.1,h2.trans z.2⟩
   ·exact .inr ⟨w,v,h1.trans z1,h2.trans z2,z3⟩
theorem QcX {k:Tr} {kvs:List (W×W)} {kx:List (Tr×Addr×V)} (d:DctR K R kvs kx):(Ws kvs k).isSome=(Ud kx k).isSome:=by
 rcases X3 (k:=k) d with z | ⟨w,v,z1,z2,_⟩
 ·rw [z.1,z.2];rfl
 ·rw [z1,z2];rfl
theorem Qfa {k:Tr} {kw w:W} {b:Addr} {v:V} {kvs:List (W×W)} {kx:List (Tr×Addr×V)} (d:DctR K R kvs kx) (rk:Rw K R kw (.ref b)) (hk:nrm kw=some k) (r:Rw K R w v):DctR K R (Qf2 kvs k kw w) (Qfx kx k b v):=by
 unfold Qf2 Qfx
 rw [QcX d]
 split
 ·rename_i hz
  clear hz rk hk
  induction d with
  | nil=>exact .nil
  | @cons p q ps qs h t ih=>
   rw [List.map_cons,List.map_cons]
   refine .cons ?_ ih
   by_cases e:q.1=k
   ·rw [if_pos e,if_pos (by rw [h.2.1,e])];exact ⟨h.1,h.2.1,r⟩
   ·rw [if_neg e,if_neg (by rw [h.2.1];exact fun z=>e (Option.some.inj z))];exact h
 ·exact Paired.snoc d ⟨rk,hk,r⟩
theorem YO {k:Tr}:∀ {kx:List (Tr×Addr×V)} {xs:List (Tr×Addr×Value)},Qf1 kx xs->RelO (Ud kx k) ((atKey xs k).map (·.2))
 | _,_,.nil=>True.intro
 | p::ps,q::qs,.cons h t=>by
  have ih:=YO (k:=k) t
  by_cases e:p.1=k
  ·have e':q.1=k:=h.1.symm.trans e
   have a1:Ud (p::ps) k=some p.2.2:=by simp [Ud,List.find?_cons,e]
   have a2:atKey (q::qs) k=some q.2:=by simp [atKey,List.find?_cons,e']
   rw [a1,a2];exact h.2.2
  ·have e':¬ q.1=k:=fun z=>e (h.1.trans z)
   have a1:Ud (p::ps) k=Ud ps k:=by simp only [Ud,List.find?_cons,e,decide_false]
   have a2:atKey (q::qs) k=atKey qs k:=by simp [atKey,List.find?_cons,e']
   rw [a1,a2];exact ih
theorem QcE {k:Tr} {kx:List (Tr×Addr×V)} {xs:List (Tr×Addr×Value)} (d:Qf1 kx xs):(Ud kx k).isSome=(atKey xs k).isSome:=by
 have:=(YO (k:=k) d).isSome_eq
 rwa [Option.isSome_map] at this
theorem QfJ {k:Tr} {b:Addr} {v:V} {u:Value} {kx:List (Tr×Addr×V)} {xs:List (Tr×Addr×Value)} (d:Qf1 kx xs) (r:RelV v u):Qf1 (Qfx kx k b v) (storedH xs k b u):=by
 unfold Qfx storedH
 rw [QcE d]
 split
 ·rename_i hz
  clear hz
  induction d with
  | nil=>exact .nil
  | @cons p q ps qs h t ih=>
   rw [List.map_cons,List.map_cons]
   refine .cons ?_ ih
   unfold PySem.putAt
   by_cases e:p.1=k
   ·rw [if_pos e,if_pos (h.1.symm.trans e)];exact ⟨h.1,h.2.1,r⟩
   ·rw [if_neg e,if_neg (fun z=>e (h.1.trans z))];exact h
 ·exact Paired.snoc d ⟨rfl,rfl,r⟩
theorem QcS {kx:List (Tr×Addr×V)} {k:Tr} {b:Addr} {v:V}:(Qfx kx k b v).length<=kx.length+1:=by
 unfold Qfx
 split
 ·rw [List.length_map];omega
 ·rw [List.length_append];simp
end
section
variable {X:Cx} {pins:List (Addr×Obj)} {σ:L2.St} {H:Hp} {s:Shared} {R:Rn} {h:MH}
theorem QbO (I:Inv X pins σ H s) (rh:Rh X.K R h H) {n:Nat} {kvs:List (W×W)} (hn:h[n]?=some (.dct kvs)) :
  ∃ kx xs,H (R.ρ n)=some (.dT kx)/\DctR X.K R kvs kx/\kx.length<=sizeLine/\(R.ρ n == sysModules)=false/\Qf1 kx xs/\s.heap.DictOfH (Qt X.prog X.w) (R.ρ n) xs:=by
 obtain ⟨kx,e1,e2⟩:=rh.obj n _ hn
 obtain ⟨z,y,xs,r,o,es,ep,h1,h2,h3,h4,h5⟩:=I.hok _ _ e1
 refine ⟨kx,xs,e1,e2,z,y,r,o,es,ep,h1,h2,h3,h4,?_,h5⟩
 clear h4 h5 z e1 hn
 induction r generalizing kvs with
 | nil=>intro x hx;exact nomatch hx
 | @cons p q ps qs hq t ih=>
  cases e2 with
  | cons d1 d2=>
   intro x hx
   rcases List.mem_cons.mp hx with e | hx
   ·subst e
    have:=Qeq I _ _ _ (QaP rh d1.1 d1.2.1) (show RelV (.ref p.2.1) (Value.ref p.2.1) from rfl)
    rw [hq.1,hq.2.1] at this
    exact this
   ·exact ih d2 x hx
theorem Qdt (I:Inv X pins σ H s) (rh:Rh X.K R h H) {w:W} {v:V} {u:Value} {k:Tr} (r:Rw X.K R w v) (ru:RelV v u) (e:nrm w=some k):∃ b,v=.ref b/\u=.ref b/\(Qt X.prog X.w).is s.heap k b:=by
 obtain ⟨b,rfl⟩:=QeF rh r e
 cases (show u=Value.ref b from ru)
 exact ⟨b,rfl,rfl,Qeq I _ _ _ (QaP rh r e) (show RelV (.ref b) (Value.ref b) from rfl)⟩
theorem QbT {h':Heap} {t':Nat} {a:Addr} {kx kx':List (Tr×Addr×V)} {xs':List (Tr×Addr×Value)} (I:Inv X pins σ H s) (e:H a=some (.dT kx)) (z:kx'.length<=sizeLine) (lo:(a == sysModules)=false) (r:Qf1 kx' xs')
  (hs:Heap.SameBut a s.heap h') (dd:h'.DictOfH (Qt X.prog X.w) a xs'):Inv X pins σ (upd H a (.dT kx')) { s with heap:=h',toks:=t' }:=by
 obtain ⟨o,es,ep,h1,h2,h3,h4,_,h5⟩:=dd
 exact QbY I (by rw [e];exact True.intro) hs ⟨o,h1⟩ ⟨z,lo,xs',r,o,es,ep,h1,h2,h3,h4,h5⟩
end
noncomputable def Qda (h:MH):W->Option (List (W×W))
 | .ref n=>match h[n]? with | some (.dct kvs)=>some kvs | _=>none
 | _=>none
theorem YH {h:MH} {a:W} {kvs:List (W×W)} (e:Qda h a=some kvs):∃ n,a=.ref n/\h[n]?=some (.dct kvs):=by
 cases a with
 | ref n=>
  simp only [Qda] at e
  split at e
  ·rename_i us hn
   cases e
   exact ⟨n,rfl,hn⟩
  ·cases e
 | _=>cases e
noncomputable def Qef:ME:=fun _ h=>some (.ref h.length,h++[.dct []])
noncomputable def Qdd (a b v:W) (h:MH):Option MH:=match a with
 | .ref n=>match h[n]? with
  | some (.dct kvs)=>(nrm b).bind fun k=>if kvs.length < sizeLine then some (h.set n (.dct (Qf2 kvs k b v))) else none
  | _=>none
 | _=>none
noncomputable def Qfn (a:W) (ws:List W) (h:MH):Option (W×MH):=match ws with
 | [b,v]=>(Qda h a).bind fun kvs=>(nrm b).bind fun k=>match Ws kvs k with
  | some x=>some (x,h)
  | none=>(Qdd a b v h).map fun h'=>(v,h')
 | _=>none
noncomputable def Qbp (a:W) (ws:List W) (h:MH):Option (W×MH):=match ws with
 | [b,v]=>(Qda h a).bind fun kvs=>(nrm b).map fun k=>((Ws kvs k).getD v,h)
 | _=>none
section
variable {X:Cx} {o i e a b:Expr} {mo mi mv ma mb:ME} {pos pos':Pos}
theorem Qe0:PM X (.Dict [] [] pos) Qef:=Q7 Qdq fun σ H Q q=>by
 obtain ⟨R,σi,h,w,h',rh,st,e,k⟩:=q
 cases e
 intro p hp
 obtain ⟨R3,x3,rh3,rw3⟩:=rh.new (mo:=.dct []) (o:=.dT []) hp fun R' x'=>⟨[],rfl,.nil⟩
 exact k R3 _ _ x3 rh3 rw3
theorem Qgv (hu:X.A.units+64 < cLine):(Qt X.prog X.w).room X.A.in1:=by show X.A.units+1+8 < cLine;omega
theorem QcP {h h':MH} {a b v:W} (e:Qdd a b v h=some h'):∃ n kvs k,a=.ref n/\h[n]?=some (.dct kvs)/\nrm b=some k/\kvs.length < sizeLine/\h'=h.set n (.dct (Qf2 kvs k b v)):=by
 unfold Qdd at e
 split at e
 ·rename_i n
  split at e
  ·rename_i kvs hn
   obtain ⟨k,e1,e2⟩:=Option.bind_eq_some_iff.mp e
   split at e2
   ·rename_i hl
    cases e2
    exact ⟨n,kvs,k,rfl,hn,e1,hl,rfl⟩
   ·cases e2
  ·cases e
 ·cases e
end
section
variable {prog:Program} {w:World} {A:Around} {E:Value->Shared->Prop} {s:Shared} {d a:Addr} {k:Tr} {xs:List (Tr×Addr×Value)}
theorem Qe5 {dflt:Value} {Q:Value->Shared->Prop} (hu:(Qt prog w).room A) (hkey:(Qt prog w).is s.heap k a) (hm:s.heap.DictOfH (Qt prog w) d xs) (hsz:xs.length<=sizeLine)
  (h1:∀ p,atKey xs k=some p->Q p.2 { s with toks:=s.toks+(Qt prog w).draws k })
  (h2:atKey xs k=none->∀ h',h'.DictOfH (Qt prog w) d (storedH xs k a dflt)->Heap.SameBut d s.heap h'->Q dflt { s with heap:=h',toks:=s.toks+(Qt prog w).draws k }):wpAny (model prog w) A (dictSetDefault d (.ref a) dflt) Q E s:=by
 obtain ⟨o,es,ep,ho,hc,hd,he,his,hn⟩:=hm
 unfold dictSetDefault
 refine wpAny_holding (wpAny_bind ((Qt prog w).pyHash hu hkey (wpAny_bind (wpAny_dictFind_heap (s:={ s with toks:=s.toks+(Qt prog w).draws k }) hu hkey ho hd he his hn ?_ ?_))))
 ·intro hno
  have hnot:k∉xs.map (·.1):=not_mem_keys_of_get hno
  have en:=atKey_none_of_get hno
  refine wpAny_bind (wpAny_rule (wpAny_bind (wpAny_updateDictKeys (hz:=by have e:=size_of_entries he;omega) (s:={ s with toks:=s.toks+(Qt prog w).draws k }) ho hd (wpAny_pure (h2 en _ ⟨_,_,ep+1,Heap.get?_update_self _ ho (Obj.isFreed_of_dict (Obj.data_mapDictKeys hd _)),hc.mapDictKeys _,Obj.data_mapDictKeys hd _,?_,?_,?_⟩ (Heap.SameBut.update ..))))))
  ·rw [storedH_new en]
   simp [he,entryOfKey]
  ·rw [storedH_new en]
   intro x hx
   rcases List.mem_append.mp hx with hx | hx
   ·exact (Qt prog w).keeps (his x hx) ho hd (Heap.SameBut.update ..)
   ·cases List.mem_singleton.mp hx
    exact (Qt prog w).keeps hkey ho hd (Heap.SameBut.update ..)
  ·rw [storedH_new en,List.map_append,List.nodup_append]
   exact ⟨hn,by simp,fun x hx y hy e=>hnot (by rw [List.map_cons,List.map_nil,List.mem_singleton] at hy;rw [e,hy] at hx;exact hx)⟩
 ·intro j p hj
  refine wpAny_bind (wpAny_dictEntries (s:={ s with toks:=s.toks+(Qt prog w).draws k }) ho hd ?_)
  rw [entry_at he j,hj]
  exact wpAny_bind (wpAny_rule (wpAny_pure (h1 p (atKey_of_get hn hj))))
end
theorem Qak {prog:Program} {w:World} (d a:Addr) (lo:(d == sysModules)=false) (dflt:Value) :
  MeetsIn prog w (Builtin.«dict.setdefault» ⟨[.ref d,.ref a,dflt],[]⟩) (fun A R s=>(Qt prog w).room A.in1/\∃ k xs,(Qt prog w).is s.heap k a/\s.heap.DictOfH (Qt prog w) d xs/\xs.length<=sizeLine /\
   (∀ p,atKey xs k=some p->R (.ok (.ret p.2)) { s with toks:=s.toks+(Qt prog w).draws k }) /\
   (atKey xs k=none->∀ h',h'.DictOfH (Qt prog w) d (storedH xs k a dflt)->Heap.SameBut d s.heap h'->R (.ok (.ret dflt)) { s with heap:=h',toks:=s.toks+(Qt prog w).draws k })):=
 .of_wp fun A R s ⟨hu,k,xs,hkey,hm,hz,h1,h2⟩=>by
  unfold Builtin.«dict.setdefault» Builtin.Dict.keyAndDefault
  refine wpAny_bind (wpAny_bind (wpAny_notOrdered_dict hm.typeIs ?_))
  refine (show wpAny _ _ (pure (d,Value.ref a,some dflt)) _ _ s from wpAny_pure ?_)
  refine (show wpAny _ _ (if (d == sysModules)=true then _ else (dictSetDefault d (.ref a) dflt >>= _)) _ _ s from ?_)
  rw [if_neg (by rw [lo];exact Bool.false_ne_true)]
  exact wpAny_bind (Qe5 hu hkey hm hz (fun p hp=>wpAny_pure ⟨p.2,rfl,h1 p hp⟩) fun hn h' hm' hs'=>wpAny_pure ⟨dflt,rfl,h2 hn h' hm' hs'⟩)
section
variable {X:Cx}
theorem QfU (hu:X.A.units+64 < cLine):Qb2 X "dict.setdefault" Qfn:=by
 intro pins s σ H x xs v us Q I rx rv q
 obtain ⟨R,h,a,ws,w,h',rh,ra,rws,e,k⟩:=q
 unfold Qfn at e
 split at e
 ·rename_i b dv
  obtain ⟨kvs,e1,e2⟩:=Option.bind_eq_some_iff.mp e
  obtain ⟨kk,e3,e4⟩:=Option.bind_eq_some_iff.mp e2
  obtain ⟨n,rfl,hn⟩:=YH e1
  obtain ⟨y,dz,rfl,rb,rd⟩:=Qfv rws
  obtain ⟨uy,uz,rfl,ry,rz⟩:=Uj rv
  obtain ⟨kx,xs,hx,dr,zl,lo,rr,dd⟩:=QbO I rh hn
  obtain ⟨c,rfl,rfl,hkey⟩:=Qdt I rh rb ry e3
  have ra':=ra
  unfold Rw at ra'
  obtain ⟨hlt,rfl⟩:=ra'
  obtain rfl:v=Value.ref (R.ρ n):=rx
  have hlen:=Paired.length dr
  have hlen2:=Paired.length rr
  have he:=YO (k:=kk) rr
  refine call_meetsIn PySem.F.slot_dict_setdefault dd.typeIs PySem.F.entry_dict_setdefault (PySem.F.args_dict_setdefault_3 _ _ _) (Qak _ c lo uz) ⟨Qgv hu,kk,xs,hkey,dd,by omega,fun p hp=>?_,fun hno h'' dd' hs=>?_⟩
  ·rw [hp] at he
   rcases X3 (k:=kk) dr with z | ⟨w',v',z1,z2,z3⟩
   ·rw [z.2] at he;exact he.elim
   ·rw [z1] at e4
    cases e4
    rw [z2] at he
    exact ⟨v',H,I.tok _,he,k R H _ (Ext.refl _) rh z3⟩
  ·rw [hno] at he
   rcases X3 (k:=kk) dr with z | ⟨w',v',z1,z2,z3⟩
   ·rw [z.1] at e4
    obtain ⟨h3,e5,e6⟩:=Option.map_eq_some_iff.mp e4
    cases e6
    obtain ⟨n',kvs',k',en,hn',hk',hl,rfl⟩:=QcP e5
    cases en
    rw [hn] at hn';cases hn'
    rw [e3] at hk';cases hk'
    have hz:(Qfx kx kk c dz).length<=sizeLine:=by have:=QcS (kx:=kx) (k:=kk) (b:=c) (v:=dz);omega
    exact ⟨dz,_,QbT I hx hz lo (QfJ rr rz) hs dd',rz,k R _ _ (Ext.refl _) (rh.put hlt ⟨_,rfl,Qfa dr rb e3 rd⟩) rd⟩
   ·rw [z2] at he;exact he.elim
 ·cases e
theorem Qb7 (hu:X.A.units+64 < cLine):Qb2 X "dict.get" Qbp:=by
 intro pins s σ H x xs v us Q I rx rv q
 obtain ⟨R,h,a,ws,w,h',rh,ra,rws,e,k⟩:=q
 unfold Qbp at e
 split at e
 ·rename_i b dv
  obtain ⟨kvs,e1,e2⟩:=Option.bind_eq_some_iff.mp e
  obtain ⟨kk,e3,e4⟩:=Option.map_eq_some_iff.mp e2
  cases e4
  obtain ⟨n,rfl,hn⟩:=YH e1
  obtain ⟨y,z,rfl,rb,rd⟩:=Qfv rws
  obtain ⟨uy,uz,rfl,ry,rz⟩:=Uj rv
  obtain ⟨kx,xs,hx,dr,zl,lo,rr,dd⟩:=QbO I rh hn
  obtain ⟨c,rfl,rfl,hkey⟩:=Qdt I rh rb ry e3
  unfold Rw at ra
  obtain ⟨hlt,rfl⟩:=ra
  obtain rfl:v=Value.ref (R.ρ n):=rx
  have he:=YO (k:=kk) rr
  refine call_meetsIn PySem.F.slot_dict_get dd.typeIs PySem.F.entry_dict_get (PySem.F.args_dict_get_3 _ _ _) (meetsH_dict_get_default (Qt X.prog X.w) (R.ρ n) c lo uz) ⟨Qgv hu,kk,xs,hkey,dd,?_⟩
  rcases X3 (k:=kk) dr with z | ⟨w',v',z1,z2,z3⟩
  ·rw [z.2] at he
   rw [RelO.none_of he]
   rw [z.1] at k
   exact ⟨_,H,I.tok _,rz,k R H _ (Ext.refl _) rh rd⟩
  ·rw [z2] at he
   obtain ⟨u,hu1,hu2⟩:=RelO.some_of he
   rw [hu1]
   rw [z1] at k
   exact ⟨v',H,I.tok _,hu2,k R H _ (Ext.refl _) rh z3⟩
 ·cases e
end
end Mi

namespace L2
open PySem PySem.Spec PyProof.Rows
section
variable {X:Cx} {pins:List (Addr×Obj)} {σ:St} {H:Hp} {s:Shared} {h':Heap} {t':Nat} {ch:List Addr}
theorem Inv.turnedL {H':Hp} (I:Inv X pins σ H s) (k:∀ b o,b∉ch->s.heap.get? b=some o->h'.get? b=some o) (hf:∀ b∈ch,GW X pins H b) (hs:∀ b u,H b=some u->H' b=some u) (hn:∀ b o,s.heap.get? b=some o->H b=none->H' b=none)
  (new:∀ b u,H b=none->H' b=some u->ObjOk X.prog X.w H' h' b u):Inv X pins σ H' { s with heap:=h',toks:=t' }:=by
 have nit:∀ b u,H b=some u->b∉ch:=fun b u e z=>by rw [(hf b z).1] at e;cases e
 refine I.step (g':=s.gens) (d':=s.drawn) (ch:=ch) (fun b hb=>⟨(hf b hb).2.2.2.1,(hf b hb).2.1,(hf b hb).2.2.2.2.1,(hf b hb).2.2.2.2.2⟩) (fun b o _ _ hc e _=>k b o hc e) (fun b o _ _ hc e _=>⟨o.slots,k b o hc e⟩) (fun b o _ e n=>hn b o e n)
  (fun b o hc e=>⟨o,k b o hc e⟩) (fun b xs e=>hs b _ e) (fun b o u e=>hs b _ e) (fun b ps e=>⟨#[],by rw [hs b _ e];simp⟩) (fun m hm=>?_) (fun b u e=>?_) I.bare
 ·obtain ⟨o,es,ep,ho,r⟩:=hm
  exact ⟨o,es,ep,k _ o (fun z=>(hf _ z).2.1 rfl) ho,r⟩
 ·cases q:H b with
  | none=>exact new b u q e
  | some u'=>
   rw [hs b u' q] at e
   cases e
   refine (I.hok b _ q).stay (fun c v hc q'=>k c v ?_ q') (fun c z=>hs c _ z) fun c xs z=>hs c _ z
   rcases hc with z | z
   ·rw [z];exact nit b _ q
   ·exact nit c _ z
theorem Inv.turnedN {T:Addr} {xs:List V} (I:Inv X pins σ H s) (k:∀ b o,b∉ch->s.heap.get? b=some o->h'.get? b=some o) (hf:∀ b∈ch,GW X pins H b) (hT:s.heap.objs.size<=T) (new:ObjOk X.prog X.w (upd H T (.tup xs)) h' T (.tup xs)) :
  Inv X pins σ (upd H T (.tup xs)) { s with heap:=h',toks:=t' }:=by
 have hn:=I.hok.fresh hT
 refine I.turnedL k hf (fun b u e=>by rw [QI (JJ e hn)];exact e) (fun b o e n=>by rw [QI (fun z=>by rw [z] at e;exact absurd (Heap.lt_size e) (Nat.not_lt.mpr hT))];exact n) fun b u n e=>?_
 by_cases z:b=T
 ·subst z;rw [JI] at e;cases e;exact new
 ·rw [QI z,n] at e;cases e
end
end L2
namespace Mi
open PySem PySem.Spec PyProof.Rows L2
section
variable {K:PySem.W.Frag} {R:Rn}
end
section
variable {X:Cx} {tg a b:Expr} {ms:MA} {p pos tpos:Pos} {elts:List Expr} {kk:Nat}
end
end Mi

namespace Mi
open PySem PySem.Spec PyProof.Rows L2
section
variable {prog:Program} {w:World} {A:Around} {E:Value->Shared->Prop} {s:Shared}
end
section
variable {X:Cx} {k v:Expr} {mk mv:ME} {pos:Pos}
end
end Mi

namespace St
open PySem PySem.Spec PyProof.Rows
theorem KG (t:SetTable) (n:Nat):(t.orStandIn n).led=t.led/\(t.plain=false->(t.orStandIn n).plain=false):=by
 unfold SetTable.orStandIn
 split
 ·exact ⟨rfl,id⟩
 ·exact ⟨rfl,fun _=>rfl⟩
theorem WW (t:SetTable) (es:Array (Int×Value)) (g:Int) (x:Value):(layNew t es g x).2.1.led=t.led/\(t.plain=false->(layNew t es g x).2.1.plain=false):=by
 unfold layNew
 split
 ·exact KG _ _
 ·exact ⟨rfl,fun _=>rfl⟩
theorem Qbn {m f v:Nat} {l p:Bool} {hs:Array Int} {r:SetTable×Array Nat} (e:SetTable.laid m f v l p hs=some r):r.1.led=l/\r.1.plain=p:=by
 unfold SetTable.laid at e
 obtain ⟨o,_,e2⟩:=Option.bind_eq_some_iff.mp e
 cases e2
 exact ⟨rfl,rfl⟩
theorem Ys (t:SetTable) (es:Array (Int×Value)) (n:Nat):(relayAll t es n).2.1.led=t.led/\(t.plain=false->(relayAll t es n).2.1.plain=false):=by
 unfold relayAll
 split
 ·rename_i t' od e
  have hk:=Qbn e
  dsimp only
  split
  ·exact ⟨hk.1,fun hp=>hk.2.trans hp⟩
  ·exact ⟨rfl,fun _=>rfl⟩
 ·exact ⟨rfl,fun _=>rfl⟩
section
variable {prog:Program} {w:World} {A:Around} {E:Value->Shared->Prop} {s:Shared}
noncomputable def SetL (prog:Program) (w:World) (h:Heap) (a:Addr) (ks:List Str) (led:Bool):Prop:=
 ∃ o es ep t,h.get? a=some o/\o.ExactSet/\o.data=.set es ep t/\ElemsOf (strKind prog w) es.toList/\es.size < scanBound/\t.fits es.size=true/\t.led=led/\(es.size=0\/t.plain=false)/\ks.Nodup/\es.size=ks.length/\∀ k,k∈ks ↔ ∃ e∈es.toList,(strKind prog w).is k e.2=true
theorem SetL.at {h h':Heap} {a:Addr} {ks:List Str} {led:Bool} (x:SetL prog w h a ks led) (e:∀ o,h.get? a=some o->h'.get? a=some o):SetL prog w h' a ks led:=let ⟨o,es,ep,t,ho,r⟩:=x;⟨o,es,ep,t,e _ ho,r⟩
theorem SetL.lt {h:Heap} {a:Addr} {ks:List Str} {led:Bool} (x:SetL prog w h a ks led):a < h.objs.size:=let ⟨_,_,_,_,ho,_⟩:=x;Heap.lt_size ho
theorem SetL.typeIs {a:Addr} {ks:List Str} {led:Bool} (x:SetL prog w s.heap a ks led):s.TypeIs (.ref a) "set":=let ⟨o,_,_,_,ho,hx,_⟩:=x;⟨o,ho,hx.1⟩
theorem stored {h:Heap} {a:Addr} {o:Obj} {es es':Array (Int×Value)} {ep:Nat} {t t':SetTable} {ks:List Str} (ho:h.get? a=some o) (hx:o.ExactSet) (hd:o.data=.set es ep t) (h1:ElemsOf (strKind prog w) es'.toList) (h2:es'.size < scanBound) (h3:t'.fits es'.size=true) (h5:es'.size=0\/t'.plain=false) (h6:ks.Nodup) (h7:es'.size=ks.length) (h8:∀ k,k∈ks ↔ ∃ e∈es'.toList,(strKind prog w).is k e.2=true) :
  (h.update a (Obj.putSet es' t')).get? a=some (Obj.putSet es' t' o)/\(Obj.putSet es' t' o).ExactSet/\(∃ ep',(Obj.putSet es' t' o).data=.set es' ep' t')/\SetL prog w (h.update a (Obj.putSet es' t')) a ks t'.led:=by
 have g1:(h.update a (Obj.putSet es' t')).get? a=some (Obj.putSet es' t' o):=Heap.get?_update_self _ ho (by rw [putSet_of es' t' hd];rfl)
 have g2:(Obj.putSet es' t' o).ExactSet:=by rw [putSet_of es' t' hd];exact hx
 have g3:∃ ep',(Obj.putSet es' t' o).data=.set es' ep' t':=by rw [putSet_of es' t' hd];exact ⟨_,rfl⟩
 obtain ⟨ep',g4⟩:=g3
 exact ⟨g1,g2,⟨ep',g4⟩,_,es',ep',t',g1,g2,g4,h1,h2,h3,rfl,h5,h6,h7,h8⟩
theorem QdE (x:Str) (c:Tok):(strKind prog w).is x (.str x c)=true:=by
 show Value.isStrOf x (.str x c)=true
 simp [Value.isStrOf]
theorem Qmb {a:Addr} {ks:List Str} {led:Bool} {x:Str} {c:Tok} {Q:Bool->Shared->Prop} (hS:SetL prog w s.heap a ks led) (room:ks.length+1 < scanBound)
  (h:∀ b h',Heap.SameBut a s.heap h'->SetL prog w h' a (if x∈ks then ks else ks++[x]) led->Q b { s with heap:=h' }) :
  wpAny (model prog w) A (setAddHashed a (.str x c) ((strKind prog w).hash x)) Q E s:=by
 obtain ⟨o,es,ep,t,ho,hx,hd,hel,hb,hf,hled,hpl,hnd,hn,hmem⟩:=hS
 have hk:(strKind prog w).is x (.str x c)=true:=QdE x c
 have hsc:(Value.str x c).scannable=true:=rfl
 have quiet:∀ (b:Bool) {s₁:Shared} {Q₁:Unit->Shared->Prop},Q₁ () s₁->wpAny (model prog w) A (match b with | true=>rule "set.scan.the-table-gave-way" | false=>pure ()) Q₁ E s₁:=fun b _ _ q=>by cases b<;>first | exact wpAny_pure q | exact wpAny_rule q
 unfold setAddHashed setAddHashedIn
 refine wpAny_holding (wpAny_bind (wpAny_setState_of ho hd hf ?_))
 dsimp only
 rw [byScan_of hsc hb hel,if_pos rfl]
 unfold setAddByScan
 refine wpAny_bind (wpAny_bind (wpAny_rule (wpAny_bind (wpAny_setScan_of hk ho hd hf hel ?_))))
 cases hr:List.findIdx? (fun e=>(strKind prog w).is x e.2) es.toList with
 | some j=>
  obtain ⟨hj,pj,_⟩:=List.findIdx?_eq_some_iff_getElem.mp hr
  have hin:x∈ks:=(hmem x).mpr ⟨es.toList[j],List.getElem_mem hj,pj⟩
  refine wpAny_pure (wpAny_pure ?_)
  have q:=h false s.heap (Heap.SameBut.refl a s.heap) ⟨o,es,ep,t,ho,hx,hd,hel,hb,hf,hled,hpl,by rw [if_pos hin];exact hnd,by rw [if_pos hin];exact hn,by rw [if_pos hin];exact hmem⟩
  exact q
 | none=>
  have hin:x∉ks:=fun hin=>by
   obtain ⟨e,he,p⟩:=(hmem x).mp hin
   have:=List.findIdx?_eq_none_iff.mp hr e he
   rw [p] at this;cases this
  rw [if_neg hin] at h
  have pm:=layNew_perm t es ((strKind prog w).hash x) (.str x c)
  have ft:=layNew_fits t es ((strKind prog w).hash x) (.str x c)
  have kp:=WW t es ((strKind prog w).hash x) (.str x c)
  dsimp only
  generalize layNew t es ((strKind prog w).hash x) (.str x c)=L at pm ft kp ⊢
  obtain ⟨es1,t1,dum,gv⟩:=L
  dsimp only at pm ft kp ⊢
  rw [Array.toList_push] at pm
  have el1:ElemsOf (strKind prog w) es1.toList:=(hel.push hk hsc).perm pm
  have sz1:es1.size=(ks++[x]).length:=by rw [<- Array.length_toList,pm.length_eq,List.length_append,Array.length_toList,List.length_append,hn];rfl
  have b1:es1.size < scanBound:=by rw [sz1,List.length_append,List.length_singleton];exact room
  have nd1:(ks++[x]).Nodup:=by
   rw [List.nodup_append]
   exact ⟨hnd,by simp,fun u hu v hv e=>hin (by rw [List.mem_singleton.mp hv] at e;rw [<- e];exact hu)⟩
  have mem1:∀ k,k∈ks++[x] ↔ ∃ e∈es1.toList,(strKind prog w).is k e.2=true:=fun k=>by
   rw [List.mem_append,List.mem_singleton,hmem k]
   constructor
   ·rintro (⟨e,he,p⟩ | rfl)
    ·exact ⟨e,pm.mem_iff.mpr (List.mem_append_left _ he),p⟩
    ·exact ⟨_,pm.mem_iff.mpr (List.mem_append_right _ (List.mem_singleton.mpr rfl)),hk⟩
   ·rintro ⟨e,he,p⟩
    rcases List.mem_append.mp (pm.mem_iff.mp he) with q | q
    ·exact .inl ⟨e,q,p⟩
    ·rw [List.mem_singleton.mp q] at p
     exact .inr ((strKind prog w).inj _ _ _ p hk)
  -- the table is stored,and laid anew where it is too full
  have fin:∀ (t2:SetTable),t2.fits es1.size=true->t2.led=led->t2.plain=false->wpAny (model prog w) A (do
    storeSet a es1 t2
    if (!dum && t2.tooFull)=true then do
      (match (relayAll t2 es1 (SetTable.grown es1.size)).2.2 with | true=>rule "set.scan.the-table-gave-way" | false=>pure ())
      storeSet a (relayAll t2 es1 (SetTable.grown es1.size)).1 (relayAll t2 es1 (SetTable.grown es1.size)).2.1
      pure (some true)
     else pure (some true)) (fun r s'=>∃ v,r=some v/\∃ h',Heap.SameBut a s.heap h'/\SetL prog w h' a (ks++[x]) led/\s'={ s with heap:=h' }) E s:=by
   intro t2 f2 l2 p2
   refine wpAny_bind (wpAny_storeSet_of ho hd ?_ (fits_of_scanBound b1))
   obtain ⟨g1,g2,⟨ep1,g3⟩,g4⟩:=stored (prog:=prog) (w:=w) ho hx hd el1 b1 f2 (.inr p2) nd1 sz1 mem1
   rw [l2] at g4
   have sb:=Heap.SameBut.update s.heap a (Obj.putSet es1 t2)
   split
   ·have pm2:=relayAll_perm t2 es1 (SetTable.grown es1.size)
    have ft2:=relayAll_fits t2 es1 (SetTable.grown es1.size)
    have kp2:=Ys t2 es1 (SetTable.grown es1.size)
    generalize relayAll t2 es1 (SetTable.grown es1.size)=R at pm2 ft2 kp2 ⊢
    obtain ⟨es2,t3,gv2⟩:=R
    dsimp only at pm2 ft2 kp2 ⊢
    have sz2:es2.size=es1.size:=by rw [<- Array.length_toList,pm2.length_eq,Array.length_toList]
    have b2:es2.size < scanBound:=by rw [sz2];exact b1
    refine wpAny_bind (quiet _ (wpAny_bind (wpAny_storeSet_of g1 g3 (wpAny_pure ⟨true,rfl,_,sb.trans (Heap.SameBut.update _ a _),?_,rfl⟩) (fits_of_scanBound b2))))
    obtain ⟨_,_,_,g5⟩:=stored (prog:=prog) (w:=w) (ks:=ks++[x]) g1 g2 g3 (el1.perm pm2) b2 ft2 (.inr (kp2.2 p2)) nd1 (sz2.trans sz1) (fun k=>(mem1 k).trans ⟨fun ⟨e,he,q⟩=>⟨e,pm2.mem_iff.mpr he,q⟩,fun ⟨e,he,q⟩=>⟨e,pm2.mem_iff.mp he,q⟩⟩)
    rw [kp2.1,l2] at g5
    exact g5
   ·exact wpAny_pure ⟨true,rfl,_,sb,g4,rfl⟩
  have out:∀ r s',(∃ v,r=some v/\∃ h',Heap.SameBut a s.heap h'/\SetL prog w h' a (ks++[x]) led/\s'={ s with heap:=h' })->wpAny (model prog w) A (match r with | some added=>pure added | none=>setAddHashedIn a (.str x c) ((strKind prog w).hash x) 99999) Q E s':=by
   rintro r s' ⟨v,rfl,h',q1,q2,rfl⟩
   exact wpAny_pure (h v h' q1 q2)
  refine wpAny_bind (quiet _ ?_)
  cases hp:t1.plain with
  | true=>
   rw [if_pos rfl,hashByValue_scannable 8 hsc]
   refine wpAny_bind (wpAny_pure ?_)
   exact wpAny_mono (fin { t1 with plain:=false } (SetTable.fits_plain_off ft) (kp.1.trans hled) rfl) out fun _ _ q=>q
  | false=>
   rw [if_neg (by simp)]
   refine wpAny_bind (wpAny_pure ?_)
   exact wpAny_mono (fin t1 ft (kp.1.trans hled) hp) out fun _ _ q=>q
end
end St

namespace St
open PySem PySem.Spec PyProof.Rows
noncomputable def uniq (l:List Str):List Str:=l.foldl (fun u x=>if x∈u then u else u++[x]) []
theorem uniq_snoc (l:List Str) (x:Str):uniq (l++[x])=if x∈uniq l then uniq l else uniq l++[x]:=by unfold uniq;rw [List.foldl_append];rfl
theorem Qce:∀ (n:Nat) (l:List Str),l.length=n->(uniq l).length<=n:=by
 intro n
 induction n with
 | zero=>intro l h;rw [List.length_eq_zero_iff.mp h];exact Nat.le_refl _
 | succ n ih=>
  intro l h
  obtain ⟨u,x,rfl⟩:∃ u x,l=u++[x]:=⟨l.dropLast,l.getLast (fun z=>by rw [z] at h;cases h),(List.dropLast_concat_getLast _).symm⟩
  rw [uniq_snoc]
  have:=ih u (by simp at h;exact h)
  split
  ·omega
  ·rw [List.length_append,List.length_singleton];omega
theorem uniq_mem:∀ (n:Nat) (l:List Str),l.length=n->∀ y,y∈uniq l ↔ y∈l:=by
 intro n
 induction n with
 | zero=>intro l h y;rw [List.length_eq_zero_iff.mp h];exact Iff.rfl
 | succ n ih=>
  intro l h y
  obtain ⟨u,x,rfl⟩:∃ u x,l=u++[x]:=⟨l.dropLast,l.getLast (fun z=>by rw [z] at h;cases h),(List.dropLast_concat_getLast _).symm⟩
  have q:=ih u (by simp at h;exact h)
  rw [uniq_snoc,List.mem_append,List.mem_singleton]
  split
  ·rename_i hx
   rw [q y]
   exact ⟨.inl,fun z=>z.elim id fun e=>by rw [e];exact (q x).mp hx⟩
  ·rw [List.mem_append,List.mem_singleton,q y]
section
variable {prog:Program} {w:World} {A:Around} {R:Result->Shared->Prop} {I:Addr} {fp wr:List Addr} {G:Array GenState->Array GenState->Prop} {n:Nat} {P:Nat->Value->Prop} {St':Nat->Shared->Prop}
theorem Qi3 (W:WalksS prog w A.in1 I fp wr G n P St') (S:Addr) (hSf:S∉fp) (led:Bool) (l:List Str) (hl:l.length=n) (hv:∀ i v,P i v->∃ x c,l[i]?=some x/\v=.str x c) (hb:n+1 < scanBound) :
  ∀ (k i:Nat) (s:Shared),n - i=k->i<=n->St' i s->SetL prog w s.heap S (uniq (l.take i)) led ->
   (∀ s',Moved (S::wr) G s s'->SetL prog w s'.heap S (uniq l) led->R (.ok (.ret .none)) s') ->
   codeAny (model prog w) A (.builtin "set.update.loop" ⟨[.ref S,.ref I],[]⟩) R s:=by
 have nw:S∉wr:=fun z=>hSf (W.sub _ z)
 have sub:∀ b∈wr,b∈S::wr:=fun b z=>List.mem_cons_of_mem _ z
 intro k
 induction k with
 | zero=>
  intro i s hk hi st hS hR
  obtain rfl:i=n:=by omega
  refine codeAny_builtin F.entry_set_update_loop ?_
  rw [Around.under_plainId F.plain_set_update_loop _]
  show wpAny _ A.in1 (pyNext (.ref I) >>= _) _ _ s
  refine wpAny_bind (W.done s _ _ st fun s' hm=>wpAny_pure (hR s' (hm.mono sub) ?_))
  rw [List.take_of_length_le (by omega)] at hS
  exact hS.at fun o e=>hm.heap S _ nw e
 | succ k ih=>
  intro i s hk hi st hS hR
  have lt:i < n:=by omega
  refine codeAny_builtin F.entry_set_update_loop ?_
  rw [Around.under_plainId F.plain_set_update_loop _]
  show wpAny _ A.in1 (pyNext (.ref I) >>= _) _ _ s
  refine wpAny_bind (W.item i s _ _ lt st fun v s' hP st' hm=>?_)
  obtain ⟨x,c,hx,rfl⟩:=hv i v hP
  have hS':SetL prog w s'.heap S (uniq (l.take i)) led:=hS.at fun o e=>hm.heap S _ nw e
  show wpAny _ A.in1 (holding [Value.str x c] (setAdd S (.str x c)) >>= _) _ _ s'
  refine wpAny_bind (wpAny_holding ?_)
  unfold setAdd
  refine wpAny_holding (wpAny_bind ((strKind prog w).pyHash (k:=x) (QdE x c) ?_))
  have room:(uniq (l.take i)).length+1 < scanBound:=by
   have:=Qce _ (l.take i) rfl
   rw [List.length_take] at this
   omega
  refine Qmb (s:={ s' with toks:=s'.toks+1 }) hS' room fun b h' sb hS2=>?_
  have hS3:SetL prog w h' S (uniq (l.take (i+1))) led:=by
   rw [List.take_add_one,hx,Option.toList_some,uniq_snoc];exact hS2
  refine wpAny_pure ⟨plainId_quiet F.plain_set_update_loop _,ih (i+1) _ (by omega) lt (W.frame _ s' _ _ st' (Nat.le_succ _) fun b z o e=>?_) hS3 fun s'' hm2 q=>?_⟩
  ·exact (sb.2 b (fun e':b=S=>hSf (by rw [<- e'];exact z))).trans e
  ·refine hR s'' (Moved.trans W.gtrans ((hm.mono sub).then_heap (Nat.le_succ _) fun b o z e=>?_) hm2) q
   exact (sb.2 b (fun e':b=S=>z (by rw [e'];exact List.mem_cons_self))).trans e
end
end St

namespace St
open PySem PySem.Spec PyProof.Rows
section
variable {prog:Program} {w:World} {A:Around} {E:Value->Shared->Prop} {s:Shared}
noncomputable abbrev Kq (w:World):Bool:=!(w.params.followText "set-order")
noncomputable abbrev Q5 (b:Bool):Obj:={ cls:=.type "set",dict:=none,data:=.set #[] 0 (.fresh 0 0 b) }
theorem QlX (a:Value) {Q₁:Value->Shared->Prop} (h:Q₁ (.ref s.heap.objs.size) { s with heap:=s.heap.push (Q5 (Kq w)) }) :
  codeAny (model prog w) A (.call (.builtin "set.__new__") ⟨[.type "set",a],[]⟩) (wants Q₁ E) s:=by
 refine codeAny_of_tree (show wpAny _ A.in1 (do checkBuiltinCall "set.__new__" ⟨[.type "set",a],[]⟩;again (.builtin "set.__new__" ⟨[.type "set",a],[]⟩)) _ _ s from ?_)
 refine wpAny_bind (wpAny_of_eq (F.newCall_set_1 a) (wpAny_pure ⟨plainId_quiet F.plain_set_new _,codeAny_builtin (F.entry_set_new) ?_⟩))
 rw [Around.under_plainId F.plain_set_new _];unfold Builtin.«set.__new__» Builtin.Frozenset.newClass
 have hsub:=sub_set_self
 obtain ⟨hp,g,d,tk,os⟩:=s
 dsimp only
 wp_walk
 refine wpAny_askSetting (wpAny_pure ?_)
 dsimp only
 simp only [newObj]
 exact wpAny_bind (wpAny_alloc (wpAny_pure (wpAny_pure h)))
theorem Gf {h:Heap} {a:Addr} {b:Bool} (e:h.get? a=some (Q5 b)):SetL prog w h a [] b:=
 ⟨_,#[],0,_,e,⟨rfl,rfl,rfl⟩,rfl,fun x hx=>by simp at hx,by decide,rfl,rfl,.inl rfl,List.nodup_nil,rfl,fun k=>by simp⟩
theorem Qit {l:Addr} {items:Array Value} {ss:List Str} {Q:Value->Shared->Prop} (hh:A.handled=none) (hl:s.heap.IsList l items) (hi:StrsAre items.toList ss) (hb:items.size+1 < scanBound)
  (h:∀ (h':Heap) (tk:Nat),SetL prog w h' s.heap.objs.size (uniq ss) (Kq w)->(∀ b o,b < s.heap.objs.size->s.heap.get? b=some o->h'.get? b=some o)->Q (.ref s.heap.objs.size) { s with heap:=h',toks:=tk }) :
  wpAny (model prog w) A (Builtin.«set.__init__» ⟨[.ref s.heap.objs.size,.ref l],[]⟩) (fun fin s'=>fin=.done (.ret .none)/\Q (.ref s.heap.objs.size) s') E { s with heap:=s.heap.push (Q5 (Kq w)) }:=by
 have hS:(s.heap.push (Q5 (Kq w))).get? s.heap.objs.size=some (Q5 (Kq w)):=Heap.get?_push_size _ rfl
 have hT:Shared.TypeIs { s with heap:=s.heap.push (Q5 (Kq w)) } (.ref s.heap.objs.size) "set":=⟨_,hS,rfl⟩
 obtain ⟨ol,hol,hcl,nl,hdl⟩:=hl
 obtain ⟨ocls,odict,odata,oslots⟩:=ol
 simp only at hcl hdl
 subst hcl hdl
 have hol':(s.heap.push (Q5 (Kq w))).get? l=some { cls:=.type "list",dict:=odict,data:=.seq items nl,slots:=oslots }:=Heap.get?_push_of_some _ hol
 have hl1:(s.heap.push (Q5 (Kq w))).IsList l items:=⟨_,hol',rfl,nl,rfl⟩
 have n1:=F.sub_list_set
 have n2:=F.sub_list_frozenset
 have n3:(Value.type "list" == Value.type "dict")=false:=by decide
 unfold Builtin.«set.__init__» noKeywords Builtin.Frozenset.updateFrom
 generalize hPI:pyIter=PI
 wp_walk
 subst hPI
 refine wpAny_pyIter_list hl1 (wpAny_bind (wpAny_runValue ?_))
 have hlS:l < s.heap.objs.size:=Heap.lt_size hol
 have szp:(s.heap.push (Q5 (Kq w))).objs.size=s.heap.objs.size+1:=Heap.size_push _ _
 have ne1:l≠(s.heap.push (Q5 (Kq w))).objs.size:=by rw [szp];exact Nat.ne_of_lt (Nat.lt_succ_of_lt hlS)
 have nf:s.heap.objs.size∉[(s.heap.push (Q5 (Kq w))).objs.size,l]:=by
  rw [szp]
  simp only [List.mem_cons,List.not_mem_nil,or_false,not_or]
  exact ⟨Nat.ne_of_lt (Nat.lt_succ_self _),Nat.ne_of_gt hlS⟩
 have hln:ss.length=items.size:=by have:=StrsAre.length hi;rw [Array.length_toList] at this;exact this.symm
 have hv:∀ (i:Nat) (v:Value),items[i]?=some v->∃ x c,ss[i]?=some x/\v=.str x c:=fun i v e=>by
  have e':items.toList[i]?=some v:=by rw [Array.getElem?_toList];exact e
  obtain ⟨x,c,rfl⟩:=hi.all v (List.mem_iff_getElem?.mpr ⟨i,e'⟩)
  refine ⟨x,c,?_,rfl⟩
  rw [<- hi.strs,List.getElem?_map,e']
  rfl
 refine Qi3 ((Walks.list (show A.in1.handled=none by simp [hh]) _ l ne1 items).toS) s.heap.objs.size nf (Kq w) ss hln hv hb (items.size - 0) 0 _ (by omega) (Nat.zero_le _) ⟨⟨_,Heap.get?_push_size _ rfl,rfl,rfl⟩,hl1.push _⟩ (Gf (Heap.get?_push_of_some _ hS)) fun s' hm hS'=>?_
 obtain ⟨h',g',d',tk',os'⟩:=s'
 have eg:g'=s.gens:=hm.gens
 have ed:d'=s.drawn:=hm.drawn
 have eo:os'=s.os:=hm.os
 subst eg ed eo
 refine wpAny_pure (wpAny_pure ⟨rfl,h h' tk' hS' fun b o lt e=>?_⟩)
 refine hm.heap b o ?_ (Heap.get?_push_of_some _ (Heap.get?_push_of_some _ e))
 simp only [List.mem_cons,List.not_mem_nil,or_false,not_or]
 exact ⟨Nat.ne_of_lt lt,by rw [szp];exact Nat.ne_of_lt (Nat.lt_succ_of_lt lt)⟩
theorem set_list {l:Addr} {items:Array Value} {ss:List Str} {Q:Value->Shared->Prop} (hh:A.handled=none) (hl:s.heap.IsList l items) (hi:StrsAre items.toList ss) (hb:items.size+1 < scanBound)
  (h:∀ (h':Heap) (tk:Nat),SetL prog w h' s.heap.objs.size (uniq ss) (Kq w)->(∀ b o,b < s.heap.objs.size->s.heap.get? b=some o->h'.get? b=some o)->Q (.ref s.heap.objs.size) { s with heap:=h',toks:=tk }) :
  wpAny (model prog w) A (call (.type "set") [.ref l]) Q E s:=by
 have body:∀ (A':Around),A'.handled=none->wpAny (model prog w) A' (Builtin.«set.__init__» ⟨[.ref s.heap.objs.size,.ref l],[]⟩) (fun fin s'=>fin=.done (.ret .none)/\Q (.ref s.heap.objs.size) s') E { s with heap:=s.heap.push (Q5 (Kq w)) }:=by
  intro A' hA
  exact Qit hA hl hi hb h
 obtain ⟨c,tl,hmro⟩:=F.called_set.mro
 have m1:=F.called_set.made
 have m2:=F.called_set.sub
 refine wpAny_call (codeAny_of_tree (show wpAny _ _ (callAny (.type "set") _) _ _ _ from ?_))
 refine wpAny_pure ⟨Code.quiet_builtin _ (by decide +kernel),codeAny_builtin (F.entry_type_call) ?_⟩
 rw [Around.under_plain (weight_type_call_type "set" [Value.ref l] []) rfl]
 have m3:=F.called_set.notType
 have m4:=F.called_set.canCreate
 have m5:=F.typeCall_set_1 (Value.ref l)
 repeat (any_goals (first | assumption | wp_step))
 refine codeAny_mono (QlX (Value.ref l) (E:=E) (Q₁:=fun obj s₁=>obj=.ref s.heap.objs.size/\s₁={ s with heap:=s.heap.push (Q5 (Kq w)) }) ⟨rfl,rfl⟩) fun r s₁ hr=>?_
 cases r with
 | error e=>exact hr
 | ok fl=>
  cases fl with
  | ret obj=>
   obtain ⟨rfl,rfl⟩:=hr
   have hS:(s.heap.push (Q5 (Kq w))).get? s.heap.objs.size=some (Q5 (Kq w)):=Heap.get?_push_size _ rfl
   have hT:Shared.TypeIs { s with heap:=s.heap.push (Q5 (Kq w)) } (.ref s.heap.objs.size) "set":=⟨_,hS,rfl⟩
   have m6:=F.called_set.init.lookup
   have m7:=F.called_set.init.bind (.ref s.heap.objs.size)
   repeat (any_goals (first | assumption | wp_step))
   refine codeAny_mono (codeAny_call_builtin (R:=wants (fun r s₂=>r=.none/\Q (.ref s.heap.objs.size) s₂) E) F.called_set.init.plain F.entry_set_init (check_set_init_1 hT (wpAny_mono (body _ (by simp [hh])) (fun fin s' q=>?_) fun _ _ q=>q))) fun r₂ s₂ hr₂=>?_
   ·obtain ⟨rfl,q⟩:=q
    exact ⟨rfl,q⟩
   ·cases r₂ with
    | error e=>exact hr₂
    | ok fl₂=>
     cases fl₂ with
     | ret r=>
      obtain ⟨rfl,q⟩:=hr₂
      repeat (any_goals (first | assumption | wp_step))
     | _=>exact hr₂.elim
  | _=>exact hr.elim
end
end St

namespace St
open PySem PySem.Spec PyProof.Rows
theorem slotN:Slot "set_iterator" "__next__" "set_iterator.__next__":=.of (owner:="set_iterator") (n:="__next__") (by rw [typeLookup_type,builtinLookup_eq_fast];kernel_rfl) (by decide +kernel) (by decide +kernel) (by decide +kernel) (by first | exact .inl (by decide +kernel) | exact .inr (by decide +kernel)) (by rw [isSubtype_type];kernel_rfl)
theorem Qdz:entryFor table "set_iterator.__next__"=some Builtin.«set_iterator.__next__»:=entryFor_of_tree (by kernel_rfl)
theorem QhQ (a:Value):argsOk "set_iterator.__next__" ⟨[a],[]⟩:=by unfold argsOk;kernel_rfl
theorem Qgs:entryFor table "set.__iter__"=some Builtin.«frozenset.__iter__»:=entryFor_alias (id':="frozenset.__iter__") (by kernel_rfl) rfl (by decide +kernel) (by kernel_rfl)
theorem KU {α:Type} {l:List α} {j:Nat} (lt:j < l.length):List.Perm (l[j]::l.eraseIdx j) l:=by
 rw [List.eraseIdx_eq_take_drop_succ]
 have e:l=l.take j++l[j]::l.drop (j+1):=by rw [<- List.drop_eq_getElem_cons lt,List.take_append_drop]
 conv=>rhs;rw [e]
 exact List.perm_middle.symm
theorem Qb0 {α:Type} (nx:Nat->Nat):∀ (f k:Nat) (l:List α) (o:Array α),f=l.length->List.Perm (pickOrder.go nx f k l o).toList (o.toList++l)
 | 0,k,l,o,h=>by
  rw [List.length_eq_zero_iff.mp h.symm,List.append_nil];exact .rfl
 | f+1,k,l,o,h=>by
  unfold pickOrder.go
  have lt:nx k % l.length < l.length:=Nat.mod_lt _ (by omega)
  generalize nx k % l.length=j at lt
  rw [List.getElem?_eq_getElem lt]
  refine (Qb0 nx f (k+1) (l.eraseIdx j) (o.push l[j]) (by rw [List.length_eraseIdx_of_lt lt];omega)).trans ?_
  rw [Array.toList_push,List.append_assoc,List.singleton_append]
  exact List.Perm.append_left _ (KU lt)
theorem QbW {α:Type} (nx:Nat->Nat) (xs:Array α):List.Perm (pickOrder nx xs).toList xs.toList:=by
 have:=Qb0 nx xs.size 0 xs.toList #[] (by simp)
 simpa [pickOrder] using this
section
variable {prog:Program} {w:World} {A:Around} {E:Value->Shared->Prop} {s:Shared}
theorem Qhd {M:Model} {src:Source} {n:Nat} {Q:Nat->Shared->Prop} (hn:n≠0) (h:∀ j d,j < n->Q j { s with drawn:=d }):wpAny M A (choose src n) Q E s:=fun Γ p _=>by
 show Sem.wp M Γ (.choose src n fun i=>pure i) _ _ p s
 rw [Sem.wp_choose]
 exact ⟨hn,h _ _ (Nat.mod_lt _ (Nat.pos_of_ne_zero hn))⟩
theorem Y1 {α:Type}:∀ (n:Nat) (xs:List α) (s:Shared) (Q:List α->Shared->Prop),n=xs.length->(∀ ys d,List.Perm ys xs->Q ys { s with drawn:=d })->wpAny (model prog w) A (drawOrder n xs) Q E s
 | 0,xs,s,Q,hn,h=>by
  have e:=List.length_eq_zero_iff.mp hn.symm
  subst e
  exact wpAny_pure (h [] s.drawn .rfl)
 | n+1,[],s,Q,hn,h=>by cases hn
 | n+1,x::xs,s,Q,hn,h=>by
  unfold drawOrder
  refine wpAny_bind (Qhd (by simp) fun j d0 lt=>?_)
  rw [List.getElem?_eq_getElem lt]
  refine wpAny_bind (Y1 n _ _ _ (by rw [List.length_eraseIdx_of_lt lt];simp at hn ⊢;omega) fun ys d p=>wpAny_pure (h _ d ?_))
  exact (p.cons _).trans (KU lt)
end
end St

namespace St
open PySem PySem.Spec PyProof.Rows
section
variable {prog:Program} {w:World} {A:Around} {E:Value->Shared->Prop} {s:Shared}
noncomputable abbrev Qb8 (f:Value) (i:Nat) (S:Addr) (n ep:Nat):Obj:={ cls:=.type "set_iterator",data:=.fields #[f,.int i 0,.ref S,.int n 0,.int ep 0] }
inductive How (w:World) (S T:Addr) (h:Heap) (es:Array (Int×Value)) (ep:Nat) (t:SetTable) (vs:List Value):Nat->Value->Prop where
 | tup {i:Nat} {ps:List Nat} (hT:h.get? T=some { cls:=.type "tuple",data:=.seq (ps.map fun (p:Nat)=>rawInt p).toArray 0 }) (hl:ps.length=vs.length) (hp:∀ (j p:Nat),ps[j]?=some p->∃ e,es[p]?=some e/\vs[j]?=some e.2):How w S T h es ep t vs i (.ref T)
 | text {i:Nat} (c:Nat) (hb:w.params.followText "set-order"=true) (hv:vs=(pickOrder (w.params.setOrder S ep) es).toList.map (·.2)):How w S T h es ep t vs i (.int c 0)
 | few {i:Nat} (c:Nat) (hb:w.params.followText "set-order"=false) (hled:t.led=true) (hs:es.size<=1) (hpl:t.place.size=es.size) (hv:vs=es.toList.map (·.2)) (hc:(i=0/\c=0)\/(∃ j,t.place=#[j]/\i=1/\c=j+1)):How w S T h es ep t vs i (.int c 0)
noncomputable def ItS (w:World) (I S T:Addr) (vs:List Value) (i:Nat) (h:Heap):Prop:=
 ∃ f o es ep t,h.get? I=some (Qb8 f i S vs.length ep)/\h.get? S=some o/\o.data=.set es ep t/\t.fits es.size=true/\es.size=vs.length/\How w S T h es ep t vs i f
theorem How.keep {S T:Addr} {h h':Heap} {es:Array (Int×Value)} {ep:Nat} {t:SetTable} {vs:List Value} {i:Nat} {f:Value} (x:How w S T h es ep t vs i f) (k:∀ o,h.get? T=some o->h'.get? T=some o):How w S T h' es ep t vs i f:=by
 cases x with
 | tup hT hl hp=>exact .tup (k _ hT) hl hp
 | text c hb hv=>exact .text c hb hv
 | few c hb hled hs hpl hv hc=>exact .few c hb hled hs hpl hv hc
theorem Qe1 (k:Nat):rawInt (k:Int)=Value.int k 0:=rfl
theorem Qmc {f x a b c d:Value}:(#[f,a,b,c,d]:Array Value).setIfInBounds 0 x=#[x,a,b,c,d]:=by rfl
theorem QlR {f x a b c d:Value}:(#[f,a,b,c,d]:Array Value).setIfInBounds 1 x=#[f,x,b,c,d]:=by rfl
theorem UC {h:Heap} {I S:Addr} {f:Value} {i n ep:Nat} (e:h.get? I=some (Qb8 f i S n ep)) (k:Nat) (x:Value):(h.update I (Obj.mapFields (·.setIfInBounds k x))).get? I=some { cls:=.type "set_iterator",data:=.fields ((#[f,.int i 0,.ref S,.int n 0,.int ep 0]:Array Value).setIfInBounds k x) }:=Heap.get?_update_self _ e rfl
theorem Qgl (j:Nat):SetTable.below #[j] 0=0:=by simp [SetTable.below,SetTable.below.go]
theorem Qgf (j:Nat):SetTable.below #[j] (j+1)=1:=by simp [SetTable.below,SetTable.below.go]
theorem Qls {h:Heap} {I S:Addr} {f x y:Value} {i n ep:Nat} (e:h.get? I=some (Qb8 f i S n ep)):((h.update I (Obj.mapFields (·.setIfInBounds 0 x))).update I (Obj.mapFields (·.setIfInBounds 1 y))).get? I=some { cls:=.type "set_iterator",data:=.fields #[x,y,.ref S,.int n 0,.int ep 0] }:=by
 have g1:=UC e 0 x
 rw [Qmc] at g1
 exact Heap.get?_update_self (Obj.mapFields (·.setIfInBounds 1 y)) g1 rfl
theorem Xz {S:Addr} {o:Obj} {es:Array (Int×Value)} {ep c i:Nat} {t:SetTable} {Q:Option (Value×Nat)->Shared->Prop} (e2:s.heap.get? S=some o) (e3:o.data=.set es ep t) (ft:t.fits es.size=true) (hb:w.params.followText "set-order"=true)
  (h:Q (((pickOrder (w.params.setOrder S ep) es)[i]?).map fun e=>(e.2,c)) s):wpAny (model prog w) A (setNext S c i ep) Q E s:=by
 unfold setNext
 refine wpAny_bind (wpAny_setState_of e2 e3 ft ?_)
 dsimp only
 unfold setsByText
 refine wpAny_bind (wpAny_bind (wpAny_askSetting (wpAny_pure ?_)))
 show wpAny _ _ (if (w.params.followText "set-order")=true then _ else _) _ _ _
 rw [if_pos hb]
 rw [if_neg (by simp)]
 refine wpAny_bind ?_
 unfold setWalk
 refine wpAny_bind (wpAny_setState_of e2 e3 ft ?_)
 dsimp only
 unfold setsByText
 refine wpAny_bind (wpAny_bind (wpAny_askSetting (wpAny_pure ?_)))
 show wpAny _ _ (if (w.params.followText "set-order")=true then _ else _) _ _ _
 rw [if_pos hb]
 refine wpAny_bind (wpAny_askSetting (wpAny_pure ?_))
 exact wpAny_pure h
theorem Ke {S:Addr} {o:Obj} {es:Array (Int×Value)} {ep c i:Nat} {t:SetTable} {Q:Option (Value×Nat)->Shared->Prop} (e2:s.heap.get? S=some o) (e3:o.data=.set es ep t) (ft:t.fits es.size=true) (hb:w.params.followText "set-order"=false) (hled:t.led=true) (hs:es.size<=1)
    (h:Q (match es[SetTable.below t.place c]?,t.place[SetTable.below t.place c]? with | some (_,x),some j=>some (x,j+1) | _,_=>none) s):wpAny (model prog w) A (setNext S c i ep) Q E s:=by
  unfold setNext
  refine wpAny_bind (wpAny_setState_of e2 e3 ft ?_)
  dsimp only
  unfold setsByText
  refine wpAny_bind (wpAny_bind (wpAny_askSetting (wpAny_pure ?_)))
  show wpAny _ _ (if (w.params.followText "set-order")=true then _ else _) _ _ _
  rw [if_neg (by rw [hb];simp)]
  show wpAny _ _ (if (!t.plain && decide (es.size > 1))=true then _ else _) _ _ _
  rw [if_neg (by have:¬ es.size > 1:=by omega
                 simp [this])]
  show wpAny _ _ ((if (!t.led && !es.isEmpty)=true then unsupported "set:maker-not-led" else pure ()) >>= _) _ _ _
  rw [if_neg (by rw [hled];simp)]
  exact wpAny_bind (wpAny_pure (wpAny_pure h))
theorem YA {S:Addr} {o:Obj} {es:Array (Int×Value)} {ep p:Nat} {t:SetTable} {e:Int×Value} {Q:Value->Shared->Prop} (e2:s.heap.get? S=some o) (e3:o.data=.set es ep t) (ft:t.fits es.size=true) (hp:es[p]?=some e) (h:Q e.2 s):wpAny (model prog w) A (setNextDrawn S p ep) Q E s:=by
 unfold setNextDrawn
 refine wpAny_bind (wpAny_setState_of e2 e3 ft ?_)
 dsimp only
 rw [if_neg (by simp),hp]
 exact wpAny_pure h
theorem QbU {I S T:Addr} {vs:List Value} {i:Nat} {Q:Option Value->Shared->Prop} (hIS:S≠I) (hIT:T≠I) (st:ItS w I S T vs i s.heap) (hi:i < vs.length)
  (hQ:∀ v h',vs[i]?=some v->ItS w I S T vs (i+1) h'->Heap.SameBut I s.heap h'->Q (some v) { s with heap:=h' }):wpAny (model prog w) A (pyNext (.ref I)) Q E s:=by
 obtain ⟨f,o,es,ep,t,e1,e2,e3,ft,hsz,hw⟩:=st
 have hT:s.TypeIs (.ref I) "set_iterator":=⟨_,e1,rfl⟩
 unfold pyNext
 refine wpAny_bind (wpAny_attempt (wpAny_callSpecial?_slot (name:=Str.ofString "__next__") hT slotN (wpAny_call_entry slotN hT Qdz ?_ (QhQ _))))
 unfold Builtin.«set_iterator.__next__»
 refine wpAny_bind (wpAny_pure (wpAny_bind (wpAny_fieldsOf e1 rfl ?_)))
 dsimp only
 refine wpAny_bind (wpAny_setEntries_of e2 e3 ft ?_)
 rw [if_neg (by simp [hsz])]
 have two:∀ (x y:Value),Heap.SameBut I s.heap ((s.heap.update I (Obj.mapFields (·.setIfInBounds 0 x))).update I (Obj.mapFields (·.setIfInBounds 1 y))):=fun x y=>(Heap.SameBut.update ..).trans (Heap.SameBut.update ..)
 have on:∀ (x:Value) (nx:Nat),vs[i]?=some x->How w S T s.heap es ep t vs (i+1) (.int nx 0)->wpAny (model prog w) A.in1 (do
   setField (Value.ref I) 0 (rawInt (nx:Int))
   setField (Value.ref I) 1 (rawInt ((i:Int)+1))
   ret x) (fun fin s'=>∃ v,fin=Fin.done (Flow.ret v)/\wpAny (model prog w) A (pure (some v)) Q E s') (fun e s'=>wpAny (model prog w) A (do if (<- isInstance e (Value.type "StopIteration"))=true then pure none else throw e) Q E s') s:=by
  intro x nx hx hw'
  refine wpAny_bind (wpAny_setField e1 rfl (by simp) (wpAny_bind (wpAny_setField (UC e1 0 _) rfl (by simp) (wpAny_pure ⟨x,rfl,wpAny_pure (hQ x _ hx ?_ (two _ _))⟩))))
  refine ⟨.int nx 0,o,es,ep,t,Qls e1,?_,e3,ft,hsz,hw'.keep fun o' e=>?_⟩
  ·rw [(two _ _).2 S hIS];exact e2
  ·rw [(two _ _).2 T hIT];exact e
 cases hw with
 | @tup ps hTT hl hp=>
  simp only [Int.toNat_natCast]
  refine wpAny_bind (wpAny_seqItems hTT rfl ?_)
  dsimp only
  have hpi:ps[i]?=some ps[i]:=List.getElem?_eq_getElem (by omega)
  generalize ps[i]=q at hpi
  obtain ⟨e,he,hv⟩:=hp i q hpi
  have:((ps.map fun (p:Nat)=>rawInt p).toArray)[i]?=some (Value.int (q:Int) 0):=by simp [hpi,Qe1]
  rw [this]
  dsimp only
  refine wpAny_bind (YA e2 e3 ft (p:=q) he (wpAny_bind (wpAny_setField e1 rfl (by simp) (wpAny_pure ⟨e.2,rfl,wpAny_pure (hQ e.2 _ hv ?_ (Heap.SameBut.update ..))⟩))))
  have sb:Heap.SameBut I s.heap (s.heap.update I (Obj.mapFields (·.setIfInBounds 1 (rawInt ((i:Int)+1))))):=Heap.SameBut.update ..
  refine ⟨.ref T,o,es,ep,t,?_,by rw [sb.2 S hIS];exact e2,e3,ft,hsz,How.keep (.tup hTT hl hp) fun o' e=>by rw [sb.2 T hIT];exact e⟩
  have g:=UC e1 1 (rawInt ((i:Int)+1))
  rw [QlR] at g
  exact g
 | text c hb hv=>
  simp only [Int.toNat_natCast]
  refine wpAny_bind (Xz e2 e3 ft (i:=i) (c:=c) hb ?_)
  subst hv
  have hlt:i < (pickOrder (w.params.setOrder S ep) es).size:=by simpa using hi
  rw [Array.getElem?_eq_getElem hlt]
  exact on _ c (by rw [List.getElem?_map,Array.getElem?_toList,Array.getElem?_eq_getElem hlt];rfl) (.text c hb rfl)
 | few c hb hled hs hpl hv hc=>
  simp only [Int.toNat_natCast]
  refine wpAny_bind (Ke e2 e3 ft (i:=i) (c:=c) hb hled hs ?_)
  subst hv
  have h1:es.size=1:=by rw [List.length_map,Array.length_toList] at hi;omega
  have i0:i=0:=by rw [List.length_map,Array.length_toList] at hi;omega
  subst i0
  rcases hc with ⟨_,rfl⟩ | ⟨j,_,z,_⟩
  ·obtain ⟨j,hj⟩:∃ j,t.place=#[j]:=by
    have hz:t.place.toList.length=1:=by rw [Array.length_toList];omega
    obtain ⟨j,hj⟩:=List.length_eq_one_iff.mp hz
    exact ⟨j,Array.toList_inj.mp hj⟩
   obtain ⟨e,he⟩:∃ e,es[0]?=some e:=⟨es[0],Array.getElem?_eq_getElem (by omega)⟩
   rw [hj,Qgl,he]
   exact on e.2 (j+1) (by rw [List.getElem?_map,Array.getElem?_toList,he];rfl) (.few (j+1) hb hled hs hpl rfl (.inr ⟨j,hj,rfl,rfl⟩))
  ·omega
end
end St

namespace St
open PySem PySem.Spec PyProof.Rows
section
variable {prog:Program} {w:World} {A:Around} {E:Value->Shared->Prop} {s:Shared}
theorem U9 {B:Around} {Q:Option Value->Shared->Prop} (hh:B.handled=none) (hQ:∀ h',(∀ b o,s.heap.get? b=some o->h'.get? b=some o)->Q none { s with heap:=h' }) :
  wpAny (model prog w) B (newExc (.type "StopIteration") [] >>= raiseNew) (fun (fin:Fin) s'=>∃ v,fin=Fin.done (Flow.ret v)/\wpAny (model prog w) A (pure (some v)) Q E s') (fun e s'=>wpAny (model prog w) A (do if (<- isInstance e (Value.type "StopIteration"))=true then pure none else throw e) Q E s') s:=by
 refine wpAny_bind ?_
 simp only [newExc,newTuple]
 refine wpAny_bind (wpAny_newObj_type ?_ (by size_fits))
 refine wpAny_bind (m:=firstArgMember _ _) (wpAny_of_eq (a:=Value.none) (by first | rfl | (simp only [firstArgMember];rfl)) (wpAny_newObj_type ?_ (by size_fits)))
 simp only [raiseNew]
 refine wpAny_bind (wpAny_handled ?_)
 rw [hh]
 refine wpAny_bind (wpAny_pure (wpAny_throw ?_));refine wpAny_bind (wpAny_isInstance (T:="StopIteration") (b:=true) ⟨_,Heap.get?_push_size _ rfl,rfl⟩ isSubtype_stop ?_)
 refine wpAny_pure (hQ _ ?_)
 exact fun b o e=>Heap.get?_push_of_some _ (Heap.get?_push_of_some _ e)
theorem Yb {I S T:Addr} {vs:List Value} {Q:Option Value->Shared->Prop} (hh:A.handled=none) (hIS:S≠I) (hIT:T≠I) (st:ItS w I S T vs vs.length s.heap)
  (hQ:∀ h',Heap.ExtBut I s.heap h'->Q none { s with heap:=h' }):wpAny (model prog w) A (pyNext (.ref I)) Q E s:=by
 obtain ⟨f,o,es,ep,t,e1,e2,e3,ft,hsz,hw⟩:=st
 have hT:s.TypeIs (.ref I) "set_iterator":=⟨_,e1,rfl⟩
 unfold pyNext
 refine wpAny_bind (wpAny_attempt (wpAny_callSpecial?_slot (name:=Str.ofString "__next__") hT slotN (wpAny_call_entry slotN hT Qdz ?_ (QhQ _))))
 unfold Builtin.«set_iterator.__next__»
 refine wpAny_bind (wpAny_pure (wpAny_bind (wpAny_fieldsOf e1 rfl ?_)))
 dsimp only
 refine wpAny_bind (wpAny_setEntries_of e2 e3 ft ?_)
 rw [if_neg (by simp [hsz])]
 have hA:A.in1.handled=none:=hh
 have one:wpAny (model prog w) A.in1 (do
   setField (Value.ref I) 2 Value.none
   raiseNew (<- newExc (Value.type "StopIteration") [])) (fun (fin:Fin) s'=>∃ v,fin=Fin.done (Flow.ret v)/\wpAny (model prog w) A (pure (some v)) Q E s') (fun e s'=>wpAny (model prog w) A (do if (<- isInstance e (Value.type "StopIteration"))=true then pure none else throw e) Q E s') s:=by
  refine wpAny_bind (wpAny_setField e1 rfl (by simp) (U9 hA fun h' k=>hQ h' fun b o' hb e=>k b o' ?_))
  rw [(Heap.SameBut.update ..).2 b hb];exact e
 cases hw with
 | @tup ps hTT hl hp=>
  simp only [Int.toNat_natCast]
  refine wpAny_bind (wpAny_seqItems hTT rfl ?_)
  dsimp only
  rw [show ((ps.map fun (p:Nat)=>rawInt p).toArray)[vs.length]?=none by simp [hl]]
  refine wpAny_bind (wpAny_setField e1 rfl (by simp) (wpAny_bind (wpAny_setField (UC e1 0 _) rfl (by simp) (U9 hA fun h' k=>hQ h' fun b o' hb e=>k b o' ?_))))
  rw [((Heap.SameBut.update s.heap I _).trans (Heap.SameBut.update ..)).2 b hb];exact e
 | text c hb hv=>
  simp only [Int.toNat_natCast]
  refine wpAny_bind (Xz e2 e3 ft (i:=vs.length) (c:=c) hb ?_)
  rw [show (pickOrder (w.params.setOrder S ep) es)[vs.length]?=none by rw [hv];simp]
  exact one
 | few c hb hled hs hpl hv hc=>
  simp only [Int.toNat_natCast]
  refine wpAny_bind (Ke e2 e3 ft (i:=vs.length) (c:=c) hb hled hs ?_)
  rcases hc with ⟨z,rfl⟩ | ⟨j,hj,z,rfl⟩
  ·have h0:es=#[]:=Array.size_eq_zero_iff.mp (by omega)
   subst h0
   exact one
  ·rw [hj,Qgf,show es[1]?=none from Array.getElem?_eq_none (by omega)]
   exact one
theorem QhX (hh:A.handled=none) (I S T:Addr) (hIS:S≠I) (hIT:T≠I) (vs:List Value) (self:∀ i (s:Shared) (Q:Value->Shared->Prop) (E:Value->Shared->Prop),ItS w I S T vs i s.heap->Q (.ref I) s->wpAny (model prog w) A (pyIter (.ref I)) Q E s) :
  Walks prog w A I [I,S,T] [I] vs.length (fun i v=>vs[i]?=some v) (fun i h=>ItS w I S T vs i h) where
 sub:=fun b hb=>by simp at hb;simp [hb]
 frame:=fun i h h' ⟨f,o,es,ep,t,e1,e2,e3,ft,hsz,hw⟩ k=>⟨f,o,es,ep,t,k I (by simp) _ e1,k S (by simp) _ e2,e3,ft,hsz,hw.keep fun o e=>k T (by simp) o e⟩
 item:=fun i s Q E hi st hQ=>QbU hIS hIT st hi fun v h' hv st' sb=>hQ v h' s.toks hv st' fun b o hb e=>by rw [sb.2 b (fun z=>hb (by simp [z]))];exact e
 done:=fun s Q E st hQ=>Yb hh hIS hIT st fun h' x=>hQ h' s.toks fun b o hb e=>x b o (fun z=>hb (by simp [z])) e
 self:=self
end
end St

namespace St
open PySem PySem.Spec PyProof.Rows
theorem Qdu:Slot "set_iterator" "__iter__" "set_iterator.__iter__":=.of (owner:="set_iterator") (n:="__iter__") (by rw [typeLookup_type,builtinLookup_eq_fast];kernel_rfl) (by decide +kernel) (by decide +kernel) (by decide +kernel) (by first | exact .inl (by decide +kernel) | exact .inr (by decide +kernel)) (by rw [isSubtype_type];kernel_rfl)
theorem Qej:entryFor table "set_iterator.__iter__"=some Builtin.«dict_keyiterator.__iter__»:=entryFor_alias (id':="dict_keyiterator.__iter__") (by kernel_rfl) rfl (by decide +kernel) (by kernel_rfl)
theorem QhI (a:Value):argsOk "set_iterator.__iter__" ⟨[a],[]⟩:=by unfold argsOk;kernel_rfl
theorem KT:∀ (ks ks':List Str),ks.Nodup->(∀ k∈ks,k∈ks')->ks'.length=ks.length->ks'.Perm ks
 | [],ks',_,_,h=>by rw [List.length_eq_zero_iff.mp h]
 | k::r,ks',nd,c,h=>by
  have hk:=c k List.mem_cons_self
  rw [List.nodup_cons] at nd
  refine (List.perm_cons_erase hk).trans (List.Perm.cons k (KT r (ks'.erase k) nd.2 (fun x hx=>?_) ?_))
  ·exact (List.mem_erase_of_ne (fun z=>nd.1 (by rw [<- z];exact hx))).mpr (c x (List.mem_cons_of_mem _ hx))
  ·rw [List.length_erase_of_mem hk,h];rfl
section
variable {prog:Program} {w:World} {A:Around} {E:Value->Shared->Prop} {s:Shared}
theorem Qjk {I S T:Addr} {vs:List Value} {i:Nat} {Q:Value->Shared->Prop} (st:ItS w I S T vs i s.heap) (h:Q (.ref I) s):wpAny (model prog w) A (pyIter (.ref I)) Q E s:=by
 obtain ⟨f,o,es,ep,t,e1,_⟩:=st
 have hT:s.TypeIs (.ref I) "set_iterator":=⟨_,e1,rfl⟩
 refine wpAny_pyIter_slot hT Qdu (wpAny_call_entry Qdu hT Qej ?_ (QhI _))
 exact wpAny_pure ⟨_,rfl,"set_iterator",_,hT,slotN.lookup,h⟩
theorem QfT {h:Heap} {a:Addr} {ks:List Str} {led:Bool} {es:Array (Int×Value)} {vs:List Value} (h1:ElemsOf (strKind prog w) es.toList) (h6:ks.Nodup) (h7:es.size=ks.length) (h8:∀ k,k∈ks ↔ ∃ e∈es.toList,(strKind prog w).is k e.2=true) (p:vs.Perm (es.toList.map (·.2))):∃ ss,StrsAre vs ss/\ss.Perm ks:=by
 have hv:∀ v∈vs,∃ x c,v=.str x c:=fun v hv=>by
  obtain ⟨e,he,rfl⟩:=List.mem_map.mp (p.mem_iff.mp hv)
  obtain ⟨⟨k,hk,_⟩,_⟩:=h1 e he
  obtain ⟨c,hc⟩:=Value.isStrOf_shape hk
  exact ⟨k,c,hc⟩
 refine ⟨vs.map strOf,strsAre_map vs hv,KT ks _ h6 (fun k hk=>?_) ?_⟩
 ·obtain ⟨e,he,hke⟩:=(h8 k).mp hk
  obtain ⟨c,hc⟩:=Value.isStrOf_shape hke
  exact List.mem_map.mpr ⟨e.2,p.mem_iff.mpr (List.mem_map.mpr ⟨e,he,rfl⟩),by rw [hc];rfl⟩
 ·rw [List.length_map,p.length_eq,List.length_map,Array.length_toList,h7]
noncomputable abbrev atP (es:Array (Int×Value)) (i:Nat):Value:=(es.getD i (0,.none)).2
theorem GG {es:Array (Int×Value)} {ps:List Nat} (p:ps.Perm (List.range es.size)):(ps.map (atP es)).Perm (es.toList.map (·.2))/\∀ (j q:Nat),ps[j]?=some q->∃ e,es[q]?=some e/\(ps.map (atP es))[j]?=some e.2:=by
 constructor
 ·refine (p.map _).trans ?_
  have:(List.range es.size).map (atP es)=es.toList.map (·.2):=by
   apply List.ext_getElem?
   intro j
   rw [List.getElem?_map,List.getElem?_map]
   by_cases lt:j < es.size
   ·simp [atP,Array.getD,lt]
   ·rw [List.getElem?_eq_none (by simpa using lt),List.getElem?_eq_none (by simpa using lt)]
    rfl
  rw [this]
 ·intro j q hq
  have lt:q < es.size:=List.mem_range.mp (p.mem_iff.mp (List.mem_iff_getElem?.mpr ⟨j,hq⟩))
  refine ⟨es[q],Array.getElem?_eq_getElem lt,?_⟩
  rw [List.getElem?_map,hq]
  simp [atP,Array.getD,lt]
theorem Qjx {S:Addr} {ks:List Str} {Q:Value->Shared->Prop} (hS:SetL prog w s.heap S ks (Kq w))
  (h:∀ h' d I T vs,(∀ b o,s.heap.get? b=some o->h'.get? b=some o)->s.heap.objs.size<=I->(T=S\/s.heap.objs.size<=T)->S≠I->T≠I->(∃ ss,StrsAre vs ss/\ss.Perm ks)->vs.length=ks.length->ItS w I S T vs 0 h'->Q (.ref I) { s with heap:=h',drawn:=d }) :
  wpAny (model prog w) A (pyIter (.ref S)) Q E s:=by
 have hT:=hS.typeIs
 obtain ⟨o,es,ep,t,e2,hx,e3,hel,hb,ft,hled,hpl,hnd,hn,hmem⟩:=hS
 have str:∀ {vs:List Value},vs.Perm (es.toList.map (·.2))->∃ ss,StrsAre vs ss/\ss.Perm ks:=fun p=>QfT (h:=s.heap) (a:=S) (led:=true) hel hnd hn hmem p
 have fp:t.place.size=es.size:=by
  simp only [SetTable.fits,Bool.and_eq_true,beq_iff_eq] at ft
  exact ft.1
 have hlt:=Heap.lt_size e2
 refine wpAny_pyIter_slot hT F.slot_set_iter (wpAny_call_entry F.slot_set_iter hT Qgs ?_ (F.args_set_iter_1 _))
 unfold Builtin.«frozenset.__iter__» Builtin.Frozenset.slot0
 refine wpAny_bind (wpAny_bind (wpAny_pure (wpAny_pure ?_)))
 unfold Builtin.Frozenset.sizeOf
 refine wpAny_bind (wpAny_bind (wpAny_setEntries_of e2 e3 ft (wpAny_pure ?_)))
 refine wpAny_bind (wpAny_bind (wpAny_setState_of e2 e3 ft ?_))
 dsimp only
 unfold setsByText
 refine wpAny_bind (wpAny_bind (wpAny_askSetting (wpAny_pure (wpAny_pure ?_))))
 show wpAny _ _ (if (!(w.params.followText "set-order") && (!t.plain && decide (es.size > 1)))=true then _ else _) _ _ _
 have made:∀ (c:Int) (vs:List Value),c=0->vs.Perm (es.toList.map (·.2))->How w S S (s.heap.push (Qb8 (.int (0:Nat) 0) 0 S es.size ep)) es ep t vs 0 (.int (0:Nat) 0)->wpAny (model prog w) A.in1 (do
   let first <- pure (rawInt c)
   ret (<- newFields "set_iterator" [first,rawInt 0,Value.ref S,rawInt (es.size:Int),rawInt ((<- setEpoch S):Int)])) (fun fin s'=>∃ v,fin=Fin.done (Flow.ret v)/\∃ T' r,s'.TypeIs v T'/\typeLookup (Value.type T') (Str.ofString "__next__")=pure (some r)/\Q v s') E s:=by
  intro c vs hc p hw
  subst hc
  refine wpAny_bind (wpAny_pure (wpAny_bind (wpAny_setEpoch_of e2 e3 ft (wpAny_bind (wpAny_newObj_type (wpAny_pure ⟨_,rfl,"set_iterator",_,⟨_,Heap.get?_push_size _ rfl,rfl⟩,slotN.lookup,?_⟩))))))
  have hvl:es.size=vs.length:=by rw [p.length_eq,List.length_map,Array.length_toList]
  refine h _ s.drawn s.heap.objs.size S vs (fun b o' e=>Heap.get?_push_of_some _ e) (Nat.le_refl _) (.inl rfl) (Nat.ne_of_lt hlt) (Nat.ne_of_lt hlt) (str p) (by rw [<- hvl,hn]) ?_
  exact ⟨.int (0:Nat) 0,o,es,ep,t,by rw [<- hvl];exact Heap.get?_push_size _ rfl,Heap.get?_push_of_some _ e2,e3,ft,hvl,hw⟩
 cases hbt:w.params.followText "set-order" with
 | true=>
  rw [if_neg (by simp)]
  exact made 0 ((pickOrder (w.params.setOrder S ep) es).toList.map (·.2)) rfl ((QbW _ es).map _) (.text 0 hbt rfl)
 | false=>
  by_cases hs:es.size > 1
  ·have hp:t.plain=false:=by
    rcases hpl with z | z
    ·omega
    ·exact z
   rw [if_pos (by simp [hp,hs])]
   refine wpAny_bind (Y1 es.size (List.range es.size) s _ (by simp) fun ps d p=>?_)
   have pl:ps.length=es.size:=by rw [p.length_eq,List.length_range]
   refine wpAny_bind (wpAny_newTuple ?_ (by rw [List.length_map,pl];exact fits_of_scanBound hb))
   refine wpAny_bind (wpAny_setEpoch_of (s:={ s with drawn:=d,heap:=s.heap.push { cls:=.type "tuple",data:=.seq (ps.map fun (i:Nat)=>rawInt i).toArray } }) (Heap.get?_push_of_some _ e2) e3 ft ?_)
   refine wpAny_bind (wpAny_newObj_type (wpAny_pure ⟨_,rfl,"set_iterator",_,⟨_,Heap.get?_push_size _ rfl,rfl⟩,slotN.lookup,?_⟩))
   obtain ⟨q1,q2⟩:=GG p
   have hvl:es.size=(ps.map (atP es)).length:=by rw [List.length_map,pl]
   have szp:(s.heap.push { cls:=.type "tuple",data:=.seq (ps.map fun (i:Nat)=>rawInt i).toArray }).objs.size=s.heap.objs.size+1:=Heap.size_push _ _
   refine h _ d _ s.heap.objs.size (ps.map (atP es)) (fun b o' e=>Heap.get?_push_of_some _ (Heap.get?_push_of_some _ e)) (by show s.heap.objs.size<=(s.heap.push _).objs.size;rw [szp];omega) (.inr (Nat.le_refl _)) (by show S≠(s.heap.push _).objs.size;rw [szp];exact Nat.ne_of_lt (Nat.lt_succ_of_lt hlt)) (by show s.heap.objs.size≠(s.heap.push _).objs.size;rw [szp];exact Nat.ne_of_lt (Nat.lt_succ_self _)) (str q1) (by rw [<- hvl,hn]) ?_
   refine ⟨.ref s.heap.objs.size,o,es,ep,t,by rw [<- hvl];exact Heap.get?_push_size _ rfl,Heap.get?_push_of_some _ (Heap.get?_push_of_some _ e2),e3,ft,hvl,.tup (ps:=ps) (Heap.get?_push_of_some _ (Heap.get?_push_size _ rfl)) (by rw [<- hvl,pl]) q2⟩
  ·rw [if_neg (by simp [hs])]
   exact made 0 (es.toList.map (·.2)) rfl .rfl (.few 0 hbt (by rw [hled];simp [Kq,hbt]) (by omega) fp rfl (.inl ⟨rfl,rfl⟩))
end
end St

namespace St
open PySem PySem.Spec PyProof.Rows
section
variable {prog:Program} {w:World} {A:Around} {E:Value->Shared->Prop} {s:Shared}
theorem Qji {S:Addr} {Q:Bool->Shared->Prop} (hT:s.TypeIs (.ref S) "set") (h:Q false s):wpAny (model prog w) A (Builtin.List.listLengthHint (.ref S)) Q E s:=by
 unfold Builtin.List.listLengthHint
 refine wpAny_bind (wpAny_specialOf hT F.slot_set_len.lookup ?_)
 generalize hid:("set.__len__":String)=id1
 wp_delta
 rw [show splitId id1=some ("set","__len__") from by subst hid;decide +kernel]
 subst hid
 refine wpAny_bind (wpAny_isInstance (T:="set") (b:=true) hT (by rw [isSubtype_type];kernel_rfl) ?_)
 refine wpAny_ite_split (fun z=>absurd z (by decide)) (fun _=>wpAny_ite_split (fun _=>?_) (fun z=>absurd (by decide +kernel) z))
 exact wpAny_bind (wpAny_typeOf hT (wpAny_pure h))
noncomputable abbrev lsO (xs:Array Value) (c:Nat):Obj:={ cls:=.type "list",dict:=none,data:=.seq xs c,slots:=#[] }
theorem QfE {R:Result->Shared->Prop} {S N:Addr} {ks:List Str} (hh:A.handled=none) (hS:SetL prog w s.heap S ks (Kq w)) (hNS:N≠S) (res:Value) (c₀:Nat) (hN:s.heap.get? N=some (lsO #[] c₀)) (hz:ks.length<=sizeLine)
  (hR:∀ h' d tk vs c',(∃ ss,StrsAre vs ss/\ss.Perm ks)->(∀ b o,b≠N->s.heap.get? b=some o->h'.get? b=some o)->h'.get? N=some (lsO vs.toArray c')->R (.ok (.ret res)) { s with heap:=h',drawn:=d,toks:=tk }) :
  wpAny (model prog w) A.in1 (Builtin.List.listExtendWith (.ref N) (.ref S) res) (fun fin s'=>match fin with | .done f=>R (.ok f) s' | .again c'=>c'.quiet=true/\codeAny (model prog w) A c' R s') (fun e s'=>R (.error e) s') s:=by
 unfold Builtin.List.listExtendWith
 refine wpAny_bind (wpAny_typeOf (T:="set") hS.typeIs ?_)
 have n1:Builtin.List.listSameRef (.ref N) (.ref S)=false:=by simp [Builtin.List.listSameRef,hNS]
 have n2:(Value.type "set" == Value.type "list")=false:=by decide
 have n3:(Value.type "set" == Value.type "tuple")=false:=by decide
 simp only [n1,n2,n3,Bool.or_false,Bool.false_eq_true,if_false]
 refine wpAny_bind (Qjx hS fun h1 d I T vs k1 hI hTT hSI hTI str hvl st=>?_)
 have hN1:=k1 _ _ hN
 have nlt:N < s.heap.objs.size:=Heap.lt_size hN
 have hNI:N≠I:=fun z=>absurd hI (by rw [<- z];exact Nat.not_le.mpr nlt)
 have hNT:N≠T:=by
  rcases hTT with z | z
  ·rw [z];exact hNS
  ·exact fun e=>absurd z (by rw [<- e];exact Nat.not_le.mpr nlt)
 have nf:N∉[I,S,T]:=by
  simp only [List.mem_cons,List.not_mem_nil,or_false,not_or]
  exact ⟨hNI,hNS,hNT⟩
 have W:=QhX (prog:=prog) (w:=w) (A:=A.in1.in1) (by simp [hh]) I S T hSI hTI vs (fun i s Q E st q=>Qjk st q)
 have key:∀ (h2:Heap) (c₁:Nat),ItS w I S T vs 0 h2->(∀ b o,b≠N->s.heap.get? b=some o->h2.get? b=some o)->h2.get? N=some (lsO #[] c₁)->codeAny (model prog w) A (.builtin "list.extend.loop" ⟨[.ref N,.ref I,res],[]⟩) R { s with heap:=h2,drawn:=d }:=by
  intro h2 c₁ st2 k2 hN2
  refine codeAny_extend_loopS (Walks.of_in1 W).toS (by rw [hvl];exact hz) N nf res vs.length 0 _ #[] c₁ rfl (Nat.zero_le _) st2 hN2 (ItemsOf.nil _) fun s' acc c' hm hN' hacc=>?_
  rw [Moved.eq_with hm]
  have ea:acc=vs.toArray:=by
   apply Array.ext_getElem?
   intro j
   by_cases hj:j < acc.size
   ·have q:=hacc.2 j acc[j] (Array.getElem?_eq_getElem hj)
    rw [Array.getElem?_eq_getElem hj,List.getElem?_toArray,q]
   ·rw [Array.getElem?_eq_none (by omega),List.getElem?_toArray,List.getElem?_eq_none (by have:=hacc.1;omega)]
  rw [ea] at hN'
  refine hR s'.heap d s'.toks vs c' str (fun b o hb e=>hm.heap b o (fun hmem=>?_) (k2 b o hb e)) hN'
  rcases List.mem_cons.mp hmem with z | z
  ·exact hb z
  ·rw [List.mem_singleton.mp z] at e
   exact absurd (Heap.lt_size e) (Nat.not_lt.mpr hI)
 refine wpAny_bind (wpAny_holding (Qji (hS.at fun o e=>k1 _ _ e).typeIs ?_))
 refine wpAny_ite_split (fun _=>?_) (fun _=>wpAny_pure ⟨plainId_quiet F.plain_extend_loop _,key h1 c₀ st (fun b o _ e=>k1 b o e) hN1⟩)
 refine wpAny_bind (wpAny_rule (wpAny_bind ?_))
 show wpAny _ _ (updateSeq N (·.push .none) >>= fun _=>updateSeq N (·.pop)) _ _ _
 refine wpAny_bind (wpAny_updateSeq hN1 rfl ?_)
 have hN2:=Heap.get?_update_self (Obj.mapSeq (·.push Value.none)) hN1 rfl
 refine wpAny_updateSeq (hz:=by seq_fits) hN2 rfl ?_
 have hN3:=Heap.get?_update_self (Obj.mapSeq (·.pop)) hN2 rfl
 have oth:∀ b o,b≠N->h1.get? b=some o->((h1.update N (Obj.mapSeq (·.push Value.none))).update N (Obj.mapSeq (·.pop))).get? b=some o:=fun b o hb e=>(Heap.get?_update_other _ _ (Ne.symm hb)).trans ((Heap.get?_update_other _ _ (Ne.symm hb)).trans e)
 refine wpAny_pure ⟨plainId_quiet F.plain_extend_loop _,key _ _ (W.frame 0 _ _ st fun b hb o e=>oth b o (fun z=>nf (by rw [<- z];exact hb)) e) (fun b o hb e=>oth b o hb (k1 b o e)) hN3⟩
end
end St

namespace St
open PySem PySem.Spec PyProof.Rows
section
variable {prog:Program} {w:World} {A:Around} {E:Value->Shared->Prop} {s:Shared}
theorem Qc3 {S:Addr} {ks:List Str} {Q:List Value->Shared->Prop} (hh:A.handled=none) (hS:SetL prog w s.heap S ks (Kq w)) (hz:ks.length<=sizeLine)
  (h:∀ h' d tk vs,(∃ ss,StrsAre vs ss/\ss.Perm ks)->(∀ b o,s.heap.get? b=some o->h'.get? b=some o)->s.heap.objs.size<=h'.objs.size->Q vs { s with heap:=h',drawn:=d,toks:=tk }):wpAny (model prog w) A (collect (.ref S)) Q E s:=by
 unfold collect
 refine wpAny_bind (wpAny_runValue (codeAny_builtin entry_proto_collect' (show wpAny _ _ (do again (.builtin "list.__iadd__" ⟨[<- newList [],.ref S],[]⟩)) _ _ s from ?_)))
 refine wpAny_bind (wpAny_newList (wpAny_pure ⟨Code.quiet_builtin _ (by decide +kernel),codeAny_builtin (entry_list_iadd') ?_⟩))
 have hlt:=hS.lt
 rw [Around.under_plainId F.plain_list_iadd _]
 have fin:∀ (r:Result) (s':Shared),(r=.ok (.ret (.ref s.heap.objs.size))/\∃ h' d tk vs c',(∃ ss,StrsAre vs ss/\ss.Perm ks)/\(∀ b o,s.heap.get? b=some o->h'.get? b=some o)/\h'.get? s.heap.objs.size=some (lsO vs.toArray c')/\s'={ s with heap:=h',drawn:=d,toks:=tk })->(match r with
   | .ok (.ret v)=>wpAny (model prog w) A (match v with
    | .ref a=>do
     match (<- load a).data with
     | .seq xs _=>pure xs.toList
     | _=>unsupported "internal:collect"
    | _=>unsupported "internal:collect") Q E s'
   | .ok _=>False
   | .error e=>E e s'):=by
  rintro r s' ⟨rfl,h',d,tk,vs,c',str,k,hN,rfl⟩
  refine wpAny_bind (wpAny_load hN ?_)
  show wpAny _ _ (pure vs.toArray.toList) Q E _
  rw [List.toList_toArray]
  exact wpAny_pure (h h' d tk vs str k (Nat.le_of_lt (Heap.lt_size hN)))
 refine wpAny_mono (QfE (A:=A) (s:={ s with heap:=s.heap.push (lsO #[] 0) }) (R:=fun r s'=>r=.ok (.ret (.ref s.heap.objs.size))/\∃ h' d tk vs c',(∃ ss,StrsAre vs ss/\ss.Perm ks)/\(∀ b o,s.heap.get? b=some o->h'.get? b=some o)/\h'.get? s.heap.objs.size=some (lsO vs.toArray c')/\s'={ s with heap:=h',drawn:=d,toks:=tk }) hh (hS.at fun o e=>Heap.get?_push_of_some _ e) (Nat.ne_of_gt hlt) (.ref s.heap.objs.size) 0 (Heap.get?_push_size _ rfl) hz fun h' d tk vs c' str k hN=>⟨rfl,h',d,tk,vs,c',str,fun b o e=>k b o (Nat.ne_of_lt (Heap.lt_size e)) (Heap.get?_push_of_some _ e),hN,rfl⟩) ?_ ?_
 ·intro f s' q
  cases f with
  | done f=>exact fin _ _ q
  | again c'=>exact ⟨q.1,codeAny_mono q.2 fun r s₁ hr=>fin r s₁ hr⟩
 ·intro e s' q
  exact fin _ _ q
theorem sortedS' {S:Addr} {ks:List Str} {Q:Value->Shared->Prop} (hh:A.handled=none) (hS:SetL prog w s.heap S ks (Kq w)) (hz:ks.length < 64)
  (h:∀ (D:Addr) h' d tk (vs:List Value) (ss:List Str) c,StrsAre vs ss->ss.Perm ks->sortedS ss=true->(∀ b o,s.heap.get? b=some o->h'.get? b=some o)->s.heap.objs.size<=D->h'.get? D=some (lsO vs.toArray c)->Q (.ref D) { s with heap:=h',drawn:=d,toks:=tk }) :
  wpAny (model prog w) A (call (.builtin "sorted") [.ref S]) Q E s:=by
 refine Calls.call_function_entry kind_sorted plain_sorted entry_sorted (args_sorted1 _) ?_
 unfold Builtin.«sorted»
 refine wpAny_bind (m:=checkCount "sorted" 1 1 _) (wpAny_pure (wpAny_bind (Qc3 (by simp [hh]) hS (by rw [sizeLine_eq];omega) fun h1 d tk vs str k1 hle=>?_)))
 obtain ⟨ss,st,pm⟩:=str
 have hvl:vs.length < 64:=by rw [StrsAre.length st,pm.length_eq];exact hz
 refine wpAny_bind (wpAny_newList ?_ (by rw [sizeLine_eq];omega))
 have hoL:(h1.push (seqObj "list" vs.toArray 0)).get? h1.objs.size=some (seqObj "list" vs.toArray 0):=Heap.get?_push_size _ rfl
 refine wpAny_bind (wpAny_holding (wpAny_call_entry slot_list_sort ⟨_,hoL,rfl⟩ entry_list_sort (list_sort_treeK (κ:=PyProof.Rows.strKind) strKind_oneLt hoL st.keysOf (fun v₁ v₂ rest e=>keyKind_strs (by rw [<- e];exact st)) hvl fun st' a1 a2=>⟨_,rfl,?_⟩) (args_list_sort _)))
 obtain ⟨ss',b1,b2,b3⟩:=sorted_out_str st a1 a2
 obtain ⟨c,hc⟩:=sortedHeap_at (out:=(arrOf st').map (·.2)) hoL
 refine wpAny_pure ⟨_,rfl,h h1.objs.size _ d tk ((arrOf st').map (·.2)).toList ss' c b1 (b2.trans pm) b3 (fun b o e=>?_) hle ?_⟩
 ·have e1:=Heap.get?_push_of_some (seqObj "list" vs.toArray 0) (k1 b o e)
  rw [sortedHeap_old (Nat.ne_of_lt (Heap.lt_size (k1 b o e))) (Heap.lt_size e1)]
  exact e1
 ·rw [Array.toArray_toList];exact hc
end
end St

namespace St
open PySem PySem.Spec PyProof.Rows
theorem le_of_lt {a b:Str}:ltCps b.cps.toList a.cps.toList=false ↔ a.cps.toList<=b.cps.toList:=by
 rw [ltCps_eq,decide_eq_false_iff_not]
 exact Iff.rfl
theorem Xv:∀ (x:Str) (r:List Str),risingS x r=true->∀ z∈r,x.cps.toList<=z.cps.toList
 | x,[],_,z,hz=>by cases hz
 | x,y::r,h,z,hz=>by
  have h':(!ltCps y.cps.toList x.cps.toList && risingS y r)=true:=h
  rw [Bool.and_eq_true,Bool.not_eq_true'] at h'
  have xy:=le_of_lt.mp h'.1
  rcases List.mem_cons.mp hz with rfl | hz
  ·exact xy
  ·exact List.le_trans xy (Xv y r h'.2 z hz)
theorem XY {x:Str} {r:List Str} (h:sortedS (x::r)=true):sortedS r=true:=by
 cases r with
 | nil=>rfl
 | cons y r=>
  have h':(!ltCps y.cps.toList x.cps.toList && risingS y r)=true:=h
  rw [Bool.and_eq_true] at h'
  exact h'.2
theorem str_eq {a b:Str} (h:a.cps.toList=b.cps.toList):a=b:=by
 obtain ⟨a⟩:=a
 obtain ⟨b⟩:=b
 congr 1
 exact Array.toList_inj.mp h
theorem KQ:∀ (a b:List Str),a.Perm b->sortedS a=true->sortedS b=true->a=b
 | [],b,p,_,_=>(List.nil_perm.mp p).symm
 | x::r,[],p,_,_=>by cases List.perm_nil.mp p
 | x::r,y::t,p,ha,hb=>by
  have hx:x=y:=by
   have h1:y∈x::r:=p.mem_iff.mpr List.mem_cons_self
   have h2:x∈y::t:=p.mem_iff.mp List.mem_cons_self
   rcases List.mem_cons.mp h1 with z | z
   ·exact z.symm
   ·rcases List.mem_cons.mp h2 with q | q
    ·exact q
    ·exact str_eq (List.le_antisymm (Xv x r ha y z) (Xv y t hb x q))
  subst hx
  rw [KQ r t (List.Perm.cons_inv p) (XY ha) (XY hb)]
open Classical in
noncomputable def srt (ks:List Str):List Str:=if h:∃ ss:List Str,ss.Perm ks/\sortedS ss=true then h.choose else []
theorem srt_eq {ss ks:List Str} (p:ss.Perm ks) (h:sortedS ss=true):srt ks=ss:=by
 have hx:∃ ss:List Str,ss.Perm ks/\sortedS ss=true:=⟨ss,p,h⟩
 unfold srt
 rw [dif_pos hx]
 exact KQ _ _ (hx.choose_spec.1.trans p.symm) hx.choose_spec.2 h
end St
namespace Mi
open PySem PySem.Spec PyProof.Rows L2
noncomputable def txW:List W->Option (List Str)
 | []=>some []
 | .str x::r=>(txW r).map (x::·)
 | _=>none
@[simp] theorem QeM (l:List Str):txW (l.map .str)=some l:=by
 induction l with
 | nil=>rfl
 | cons x l ih=>rw [List.map_cons,txW,ih];rfl
theorem QdN:∀ {ws:List W} {ss:List Str},txW ws=some ss->ws=ss.map .str
 | [],ss,e=>by cases e;rfl
 | .str x::r,ss,e=>by
  obtain ⟨t,e1,e2⟩:=Option.map_eq_some_iff.mp e
  subst e2
  rw [QdN e1];rfl
theorem Qd2 {K:PySem.W.Frag} {R:Rn}:∀ {ss:List Str} {xs:List V} {us:List Value},Rws K R (ss.map .str) xs->Vals xs us->StrsAre us ss
 | [],xs,us,r,v=>by
  rw [List.map_nil,Rws.nil_iff] at r
  subst r
  cases v
  exact .nil
 | x::ss,xs,us,r,v=>by
  rw [List.map_cons] at r
  unfold Rws at r
  obtain ⟨y,ys,rfl,r1,r2⟩:=r
  unfold Rw at r1
  subst r1
  cases v with
  | cons h t=>
   obtain ⟨c,rfl⟩:=h
   exact .cons x c (Qd2 r2 t)
theorem WR {K:PySem.W.Frag} {R:Rn}:∀ {ss:List Str} {us:List Value},StrsAre us ss->Vals (ss.map V.str) us/\Rws K R (ss.map W.str) (ss.map V.str)
 | [],_,.nil=>⟨.nil,by unfold Rws;rfl⟩
 | _::_,_,.cons x c h=>by
  obtain ⟨a,b⟩:=WR (K:=K) (R:=R) h
  refine ⟨.cons ⟨c,rfl⟩ a,?_⟩
  rw [List.map_cons,List.map_cons]
  unfold Rws
  exact ⟨_,_,rfl,by unfold Rw;rfl,b⟩
noncomputable def QlV (ws:List W) (h:MH):Option (W×MH):=match ws with
 | [a]=>(lsW h a).bind fun ys=>(txW ys).bind fun ss=>if ss.length < 64 then some (.lst ((St.srt ss).map .str),h) else none
 | _=>none
noncomputable def VE (ws:List W) (h:MH):Option (W×MH):=match ws with
 | [a]=>(lsW h a).bind fun ys=>(txW ys).bind fun ss=>if ss.length < 4000/\(St.uniq ss).length < 64 then some (.ref h.length,h++[.lst ((St.srt (St.uniq ss)).map .str)]) else none
 | _=>none
section
variable {X:Cx}
theorem Inv.drew {pins:List (Addr×Obj)} {σ:L2.St} {H:Hp} {s:Shared} (I:Inv X pins σ H s) (d:Drawn):Inv X pins σ H { s with drawn:=d }:=⟨I.ok,I.os,I.bare,I.base,I.loc,I.cell,I.free,I.freeC,I.pin,I.hok,I.len⟩
theorem Wo {e:Expr} {me:ME} {p1 p2 pos1 pos2:Pos} (hc:X.calm=true) (hg:Gl X "sorted") (hm:X.mg "sorted"=none) (hg2:Gl X "set") (hm2:X.mg "set"=none) (he:PM X e me) (hs:VC e=false:=by rfl) :
  PM X (.Call (.Name "sorted" p1) [.Call (.Name "set" p2) [e] [] pos2] [] pos1) (mFn VE (Qc me Ql)):=by
 intro pins s σ H Q I ⟨R,σi,h,w,h',rh,st,e1,kk⟩
 obtain ⟨⟨as,h2⟩,e2,e3⟩:=Option.bind_eq_some_iff.mp e1
 obtain ⟨⟨a,h1⟩,e4,e5⟩:=Option.bind_eq_some_iff.mp e2
 obtain ⟨⟨bs,h3⟩,e6,e7⟩:=Option.bind_eq_some_iff.mp e5
 cases e6
 cases e7
 refine wpAny_Call_Name_kw (Vz I hg hm boot_sorted (PyProof.Rows.callWith_builtin1 ?_ (Zh rfl) (J4 rfl)) (by decide) (by decide))
 rw [Zh (e:=.Call (.Name "set" p2) [e] [] pos2) rfl]
 refine Calls.spliced_cons (wpAny_Call_Name_kw (Vz I hg2 hm2 boot_set (PyProof.Rows.callWith_type1 ?_ (Zh hs) (J4 rfl)) (by decide) (by decide)))
 rw [Zh hs]
 refine Calls.spliced_cons (thn (he pins s σ H (fun v H2=>∃ R2,Ext R R2/\Rh X.K R2 h1 H2/\Rw X.K R2 a v) I ⟨R,σi,h,a,h1,rh,st,e4,fun R2 H2 v x rh2 ra=>⟨R2,x,rh2,ra⟩⟩) fun u s1 ⟨v,H1,I1,ru,R2,x2,rh2,ra⟩=>Calls.spliced_nil ?_)
 obtain ⟨ys,e8,e9⟩:=Option.bind_eq_some_iff.mp e3
 obtain ⟨ss,e10,e11⟩:=Option.bind_eq_some_iff.mp e9
 split at e11
 ·rename_i hz
  cases e11
  obtain ⟨ad,xs,rfl,q1,r2⟩:=rh2.lsAt ra e8
  cases ru
  rw [QdN e10] at r2
  obtain ⟨its,rv,pl,hl⟩:=I1.list q1
  have hS:=Qd2 r2 rv
  have hln:=StrsAre.length hS
  refine St.set_list (I1.ok.hd hc) pl.isList (by rw [List.toList_toArray];exact hS) (by rw [List.size_toArray,hln];show ss.length+1 < 4096;omega) fun g1 tk1 hSet k1=>Calls.spliced_nil ?_
  refine St.sortedS' (s:={ s1 with heap:=g1,toks:=tk1 }) (I1.ok.hd hc) hSet hz.2 fun D g2 d tk2 vs so c b1 b2 b3 k2 hle hD=>?_
  obtain ⟨v1,v2⟩:=WR (K:=X.K) (R:=R2) b1
  have hD':s1.heap.objs.size<=D:=Nat.le_trans (Nat.le_of_lt hSet.lt) hle
  have hp:=I1.hok.fresh hD'
  have eq:=St.srt_eq b2 b3
  obtain ⟨R3,x3,rh3,rw3⟩:=rh2.new (mo:=.lst (so.map .str)) (o:=.lst (so.map V.str)) hp fun R' x'=>⟨_,rfl,(WR (K:=X.K) (R:=R') b1).2⟩
  rw [eq] at kk
  refine ⟨.ref D,_,Inv.drew (I1.laid (t':=tk2) (fun b o e=>k2 b o (k1 b o (Heap.lt_size e) e)) hD' (show ObjOk X.prog X.w _ _ _ (.lst _) from ⟨?_,vs,c,v1,hD⟩)) d,rfl,kk R3 _ _ (x2.trans x3) rh3 rw3⟩
  rw [List.length_map,b2.length_eq,sizeLine_eq];omega
 ·cases e11
end
end Mi

namespace St
open PySem PySem.Spec PyProof.Rows
open AutoSeq1 (wpAny_loadPart')
theorem QcC (l:Addr) (items:Array Value) (n:Nat) (dct:Option Addr) (sl:Array (Option Value)) :
  Meets (Builtin.«enumerate.__new__» ⟨[.type "enumerate",.ref l],[]⟩) (fun _ R s=>s.heap.get? l=some { cls:=.type "tuple",dict:=dct,data:=.seq items n,slots:=sl } /\
   R (.ok (.ret (.ref (s.heap.push { cls:=.type "tuple_iterator",data:=.fields #[.ref l,.int 0 0] }).objs.size)))
    { s with heap:=(s.heap.push { cls:=.type "tuple_iterator",data:=.fields #[.ref l,.int 0 0] }).push { cls:=.type "enumerate",data:=.fields #[.none,.bool false,.ref s.heap.objs.size,rawInt 0,.none,.none] } }):=
 .of_wp fun prog w A R s h=>by
  obtain ⟨hp,g,d,tk,os⟩:=s
  obtain ⟨hl,h⟩:=h
  have hsub:=sub_enumerate
  have hT:Heap.IsTuple (Shared.heap ⟨hp,g,d,tk,os⟩) l items:=⟨_,hl,rfl,n,rfl⟩
  wp_walk using wpAny_loadPart' hl
  refine wpAny_stack_any fun st=>wpAny_pure ?_
  split
  ·rename_i c _ _ _ _ _
   cases (c == Value.type "enumerate")
   ·wp_walk using wpAny_loadPart' hl,wpAny_pyIter_tuple hT
    exact ⟨_,rfl,h⟩
   ·wp_walk using wpAny_loadPart' hl,wpAny_pyIter_tuple hT
    exact ⟨_,rfl,h⟩
  ·wp_walk using wpAny_loadPart' hl,wpAny_pyIter_tuple hT
   exact ⟨_,rfl,h⟩
section
variable {prog:Program} {w:World} {A:Around} {E:Value->Shared->Prop} {s:Shared}
theorem enumT {l:Addr} {items:Array Value} {Q:Value->Shared->Prop} (hL:s.heap.IsTuple l items)
  (h:∀ h',IsEnum h' (s.heap.objs.size+1) s.heap.objs.size 0 .none->h'.IsTupleIter s.heap.objs.size l 0->(∀ b o,s.heap.get? b=some o->h'.get? b=some o)->Q (.ref (s.heap.objs.size+1)) { s with heap:=h' }) :
  wpAny (model prog w) A (call (.type "enumerate") [.ref l]) Q E s:=by
 obtain ⟨⟨c,dct,dt,sl⟩,hl,hc,n,hd⟩:=hL
 simp only at hc hd
 subst hc hd
 refine callType_new F.called_enumerate (by decide) (F.typeCall_enumerate_1 _) (F.newCall_enumerate_1 _) (fun obj=>F.args_object_init_2 obj _) F.entry_enumerate_new (QcC l items n dct sl) ⟨hl,?_⟩
 have hz:(s.heap.push { cls:=.type "tuple_iterator",data:=.fields #[.ref l,.int 0 0] }).objs.size=s.heap.objs.size+1:=Heap.size_push ..
 show _/\_
 rw [hz]
 have he:IsEnum ((s.heap.push { cls:=.type "tuple_iterator",data:=.fields #[.ref l,.int 0 0] }).push { cls:=.type "enumerate",data:=.fields #[.none,.bool false,.ref s.heap.objs.size,rawInt 0,.none,.none] }) (s.heap.objs.size+1) s.heap.objs.size 0 .none:=by
  rw [<- hz];exact Heap.get?_push_size _ rfl
 exact ⟨⟨_,he,rfl⟩,h _ he ⟨_,Heap.get?_push_of_some _ (Heap.get?_push_size _ rfl),rfl,rfl⟩ fun b o x=>Heap.get?_push_of_some _ (Heap.get?_push_of_some _ x)⟩
theorem Gz {it l:Addr} {i:Nat} {items:Array Value} {x:Value} {Q:Value->Shared->Prop} (hit:s.heap.IsTupleIter it l i) (hl:s.heap.IsTuple l items) (hx:items[i]?=some x)
  (hQ:∀ h',h'.IsTupleIter it l (i+1)->Heap.SameBut it s.heap h'->Q x { s with heap:=h' }):wpAny (model prog w) A (Builtin.SmallTypes.nextOf (.ref it)) Q E s:=by
 obtain ⟨o,ho,hc,hd⟩:=id hit
 obtain ⟨ol,hol,_,nl,hdl⟩:=hl
 unfold Builtin.SmallTypes.nextOf
 refine wpAny_bind (wpAny_callSpecial?_slot (name:=Str.ofString "__next__") hit.typeIs F.slot_tuple_iterator_next (wpAny_call_entry F.slot_tuple_iterator_next hit.typeIs F.entry_tuple_iterator_next ?_ (F.args_tuple_iterator_next_1 _)))
 refine (show wpAny _ _ (field (.ref it) 0 >>= _) _ _ s from wpAny_bind (wpAny_field ho hd (x:=.ref l) rfl (show wpAny _ _ (if (Value.ref l == Value.none)=true then _ else _) _ _ s from ?_)))
 rw [if_neg (show ¬ ((Value.ref l == Value.none)=true) from Bool.false_ne_true)];refine (show wpAny _ _ (field (.ref it) 1 >>= _) _ _ s from wpAny_bind (wpAny_field ho hd (x:=.int i 0) rfl ?_))
 refine (show wpAny _ _ (seqItems? (.ref l) >>= _) _ _ s from wpAny_bind (wpAny_seqItems hol hdl ?_));simp only [Int.toNat_natCast,hx]
 refine wpAny_bind (wpAny_setField ho hd (by simp) (wpAny_pure ⟨x,rfl,wpAny_pure (hQ _ ⟨_,Heap.get?_update_self _ ho (Obj.isFreed_of_fields (Obj.data_mapFields hd _)),(Obj.cls_mapFields ..).trans hc,by rw [Obj.data_mapFields hd];simp [rawInt]⟩ (Heap.SameBut.update ..))⟩))
theorem GZ {it l:Addr} {i:Nat} {items:Array Value} {Q:Value->Shared->Prop} (hh:A.handled=none) (hit:s.heap.IsTupleIter it l i) (hl:s.heap.IsTuple l items) (hx:items[i]?=none)
  (hE:∀ h' e,Heap.ExtBut it s.heap h'->(∃ o,h'.get? e=some o/\o.cls=.type "StopIteration")->E (.ref e) { s with heap:=h' }):wpAny (model prog w) A (Builtin.SmallTypes.nextOf (.ref it)) Q E s:=by
 obtain ⟨o,ho,hc,hd⟩:=id hit
 obtain ⟨ol,hol,_,nl,hdl⟩:=hl
 unfold Builtin.SmallTypes.nextOf
 refine wpAny_bind (wpAny_callSpecial?_slot (name:=Str.ofString "__next__") hit.typeIs F.slot_tuple_iterator_next (wpAny_call_entry F.slot_tuple_iterator_next hit.typeIs F.entry_tuple_iterator_next ?_ (F.args_tuple_iterator_next_1 _)))
 refine (show wpAny _ _ (field (.ref it) 0 >>= _) _ _ s from wpAny_bind (wpAny_field ho hd (x:=.ref l) rfl (show wpAny _ _ (if (Value.ref l == Value.none)=true then _ else _) _ _ s from ?_)))
 rw [if_neg (show ¬ ((Value.ref l == Value.none)=true) from Bool.false_ne_true)];refine (show wpAny _ _ (field (.ref it) 1 >>= _) _ _ s from wpAny_bind (wpAny_field ho hd (x:=.int i 0) rfl ?_))
 refine (show wpAny _ _ (seqItems? (.ref l) >>= _) _ _ s from wpAny_bind (wpAny_seqItems hol hdl ?_));simp only [Int.toNat_natCast,hx]
 refine wpAny_bind (wpAny_rule (wpAny_bind (wpAny_setField ho hd (by simp) (wpAny_bind ?_))))
 simp only [newExc,newTuple]
 refine wpAny_bind (wpAny_newObj_type ?_ (by size_fits))
 refine wpAny_bind (m:=firstArgMember _ _) (wpAny_of_eq (a:=Value.none) (by first | rfl | (simp only [firstArgMember];rfl)) (wpAny_newObj_type ?_ (by size_fits)))
 simp only [raiseNew]
 refine wpAny_bind (wpAny_handled ?_)
 first | rw [show A.in1.handled=none from hh] | rw [hh]
 exact wpAny_bind (wpAny_pure (wpAny_throw (hE _ _ (((Heap.SameBut.update ..).extBut.push _).push _) ⟨_,Heap.get?_push_size _ rfl,rfl⟩)))
theorem tit_at {h h':Heap} {a t:Addr} {i:Nat} (x:h.IsTupleIter a t i) (e:∀ o,h.get? a=some o->h'.get? a=some o):h'.IsTupleIter a t i:=let ⟨o,ho,r⟩:=x;⟨o,e _ ho,r⟩
theorem Qf9 {h h':Heap} {a:Addr} {items:Array Value} (x:h.IsTuple a items) (e:∀ o,h.get? a=some o->h'.get? a=some o):h'.IsTuple a items:=let ⟨o,ho,r⟩:=x;⟨o,e _ ho,r⟩
theorem drawsT (hh:A.handled=none) (it l:Addr) (hne:l≠it) (items:Array Value):Draws prog w A it [it,l] items.size (fun i v=>items[i]?=some v) (fun i h=>h.IsTupleIter it l i/\h.IsTuple l items) where
 live:=fun _ _ x=>let ⟨o,h,_⟩:=x.1;⟨o,h⟩
 frame:=fun _ _ _ st hk=>⟨tit_at st.1 fun o e=>hk it (by simp) o e,Qf9 st.2 fun o e=>hk l (by simp) o e⟩
 item:=fun i s Q E hi st hQ=>Gz st.1 st.2 (x:=items[i]) (by simp [hi]) fun h' hit' sb=>hQ _ h' s.toks (by simp [hi]) ⟨hit',st.2.extBut sb.extBut hne⟩ sb
 done:=fun s Q E st hE=>GZ hh st.1 st.2 (by simp) hE
end
end St

namespace L2
open PySem PySem.Spec PyProof.Rows
noncomputable def Ite (K:PySem.W.Frag) (a:Addr) (n:Nat):It:=
  ⟨fun i H=>i < n/\∃ xs,SqT K H a xs/\xs.length=n,
   fun i H v H'=>∃ T x,v=.ref T/\H T=none/\H'=upd H T (.tup [.int i,x])/\∀ xs,SqT K H a xs->xs[i]?=some x,
   fun i H=>n<=i/\∃ xs,SqT K H a xs/\xs.length=n⟩
theorem Qam {P:Program} {w:World} {K:PySem.W.Frag} {elts:List Expr} {kk:Nat} {pos:Pos} (l e it:Addr) (n:Nat) (hei:e≠it) (hle:l≠e) (hli:l≠it):Turn P w K (.Tuple elts kk pos) (Ite K l n) [e,it] e (fun i h=>i<=n/\(∃ old,IsEnum h e it i old)/\h.IsTupleIter it l i) where
 mem:=by simp
 obj:=fun i h st b hb=>by
  obtain ⟨_,⟨old,he⟩,⟨o1,e1,c1,d1⟩⟩:=st
  have hb':b=e\/b=it:=by simpa using hb
  rcases hb' with rfl | rfl
  ·exact ⟨_,he,fun v q=>nomatch q⟩
  ·exact ⟨o1,e1,fun v q=>by rw [d1] at q;cases q⟩
 keep:=fun i h h' st k=>by
  obtain ⟨hi,⟨old,he⟩,h1⟩:=st
  exact ⟨hi,⟨old,k e (by simp) _ he⟩,St.tit_at h1 fun o x=>k it (by simp) o x⟩
 item:=by
  intro X hP hw hK hc i pins s σ H E I hf st hg
  subst hP hw hK
  obtain ⟨hi,xs,hq,hn⟩:=hg
  obtain ⟨its,rv,p,hz⟩:=I.tuple hq
  have hl:=rv.length
  obtain ⟨_,se,s1⟩:=st
  have W:=WalksT.enumerateD (prog:=X.prog) (w:=X.w) (St.drawsT (A:=X.A.in1) (I.ok.hd hc) it l hli its.toArray) e hei (by simp [hei,Ne.symm hle]) (by simp)
  refine W.item i s _ _ (by rw [List.size_toArray];omega) ⟨se,s1,p⟩ fun T vals h' tk hP hT hTup hMid hk=>?_
  obtain ⟨t,u,hu,rfl⟩:=hP
  refine ⟨.ref T,rfl,W.go elts kk pos i T _ _ _ hMid fun h'' hSt hk2=>?_⟩
  obtain ⟨x,hx⟩:∃ x,xs[i]?=some x:=⟨xs[i]'(by omega),List.getElem?_eq_getElem _⟩
  obtain ⟨v,hv,r⟩:=rv.get hx
  have e1:v=u:=by have:=hu;rw [List.getElem?_toArray,hv] at this;exact Option.some.inj this
  subst e1
  have hTw:=W.apart i T _ hMid
  have hT2:IsTup h'' T #[.int i t,v]:=by
   obtain ⟨o,ho,hc',q⟩:=hTup
   exact ⟨o,hk2 T o hTw ho,hc',q⟩
  have hHT:=I.hok.fresh hT
  refine ⟨.ref T,_,I.turnedN (ch:=[e,it]) (t':=tk) (xs:=[.int i,x]) (fun b o hb e=>hk2 b o hb (hk b o hb e)) hf hT ⟨by simp [sizeLine_eq],[.int i t,v],.cons ⟨t,rfl⟩ (.cons r .nil),hT2⟩,rfl,⟨T,x,rfl,hHT,rfl,fun ys hy=>by rw [I.tuple_inj hy hq];exact hx⟩,⟨hi,hSt.1,hSt.2.1⟩,fun b hb=>?_⟩
  rw [QI (fun q=>?_)]
  ·exact (hf b hb).1
  ·obtain ⟨o,ho,_⟩:∃ o,s.heap.get? b=some o/\True:=by
    obtain ⟨old,he⟩:=se
    obtain ⟨o1,e1,_⟩:=s1
    have hb':b=e\/b=it:=by simpa using hb
    rcases hb' with rfl | rfl
    ·exact ⟨_,he,trivial⟩
    ·exact ⟨o1,e1,trivial⟩
   rw [q] at ho
   exact absurd (Heap.lt_size ho) (Nat.not_lt.mpr hT)
 done:=by
  intro X hP hw hK hc i pins s σ H E I hf st hg
  subst hP hw hK
  obtain ⟨hi,xs,hq,hn⟩:=hg
  obtain ⟨its,rv,p,hz⟩:=I.tuple hq
  have hl:=rv.length
  obtain ⟨hi2,se,s1⟩:=st
  have W:=WalksT.enumerateD (prog:=X.prog) (w:=X.w) (St.drawsT (A:=X.A.in1) (I.ok.hd hc) it l hli its.toArray) e hei (by simp [hei,Ne.symm hle]) (by simp)
  have hin:its.toArray.size=i:=by rw [List.size_toArray];omega
  refine W.done s _ _ (by rw [hin];exact ⟨se,s1,p⟩) fun h' tk hk=>⟨rfl,?_⟩
  exact I.turnedL (ch:=[e,it]) (fun b o hb e=>hk b o hb e) hf (fun _ _ e=>e) (fun _ _ _ n=>n) fun b u n e=>by rw [n] at e;cases e
 self:=fun _ _ _ _ _ st h=>let ⟨_,he⟩:=st.2.1;wpAny_pyIter_enum he h
noncomputable def Qjf (K:PySem.W.Frag) (ta:TA):TI:=fun σ H R=>ta σ H fun vs H1=>∃ a xs,vs=[.ref a]/\SqT K H1 a xs/\R (Ite K a xs.length) H1
theorem Qfb {X:Cx} {elts:List Expr} {kk:Nat} {tpos:Pos} {a:Expr} {ta:TA} {p pos:Pos} (hg:Gl X "enumerate") (hm:X.mg "enumerate"=none) (ha:PA X [a] ta) (hs:starEach [a] X.env=[(false,eval a X.env)]:=by rfl) :
  PI X (.Tuple elts kk tpos) (.Call (.Name "enumerate" p) [a] [] pos) (Qjf X.K ta):=by
 intro pins s σ H R I h
 refine Call_ (Vz I hg hm boot_enumerate (PyProof.Rows.callWith_type1 (thn (ha pos pins s σ H _ I h) fun us s1 ⟨vs,H1,I1,r1,q1⟩=>?_) hs rfl))
 obtain ⟨ad,xs,e,hq,q⟩:=q1
 subst e
 obtain ⟨u,rfl,ru⟩:=Uc r1
 cases ru
 obtain ⟨its,rv,pl,hz⟩:=I1.tuple hq
 have hlt:ad < s1.heap.objs.size:=let ⟨_,ho,_⟩:=pl;Heap.lt_size ho
 refine St.enumT pl fun h' he hit hk=>wpAny_pyIter_enum he ?_
 refine ⟨s1.heap.objs.size+1,[s1.heap.objs.size+1,s1.heap.objs.size],_,_,H1,rfl,I1.kept (t':=s1.toks) hk,Qam ad _ _ xs.length (Nat.succ_ne_self _) (Nat.ne_of_lt (Nat.lt_succ_of_lt hlt)) (Nat.ne_of_lt hlt),⟨Nat.zero_le _,⟨_,he⟩,hit⟩,fun b hb=>?_,q⟩
 have hb':s1.heap.objs.size<=b:=by
  simp at hb
  rcases hb with h | h<;>(rw [h];first | exact Nat.le_refl _ | exact Nat.le_add_right _ _)
 exact I1.fpOk hb' (I1.hok.fresh hb')
end L2
namespace Mi
open PySem PySem.Spec PyProof.Rows L2
noncomputable def JY (ws:List W):List W:=ws.zipIdx.map fun q=>.tup [.int q.2,q.1]
noncomputable def UP (ms:MA):MI:=fun σ h=>(ms σ h).bind fun p=>match p.1 with
 | [.tup ws]=>some (JY ws,none,p.2)
 | _=>none
section
variable {K:PySem.W.Frag} {R:Rn}
theorem Qbc {a:Addr} {xs:List V} {ws:List W} (hq:SqT K R.F a xs) (r:Rws K R ws xs):ItOk K R (Ite K a xs.length) (JY ws) none where
 go:=fun i w R' h H x rh _ e=>by
  have hl:=(List.getElem?_eq_some_iff.mp e).1
  have l1:=r.length
  unfold JY at hl
  rw [List.length_map,List.length_zipIdx] at hl
  exact ⟨by omega,xs,Z5 (fun b o z=>rh.sub b o (x.f b o z)) hq,rfl⟩
 yld:=fun i w R' h H x H' e rh _ ew hy=>by
  obtain ⟨T,x1,rfl,hT,rfl,hx⟩:=hy
  unfold JY at ew
  rw [List.getElem?_map,List.getElem?_zipIdx] at ew
  obtain ⟨⟨w1,j⟩,h1,rfl⟩:=Option.map_eq_some_iff.mp ew
  obtain ⟨w2,h2,h3⟩:=Option.map_eq_some_iff.mp h1
  cases h3
  obtain ⟨v,g1,g2⟩:=r.get h2
  have e1:=hx xs (Z5 (fun b o z=>rh.sub b o (e.f b o z)) hq)
  rw [g1] at e1;cases e1
  rw [Nat.zero_add]
  exact rh.tup hT (Rws.cons (by unfold Rw;rfl) (Rws.cons (Rw.mono e _ _ g2) Rws.nil))
 stop:=fun i R' h H x rh _ hl=>by
  have l1:=r.length
  unfold JY at hl
  rw [List.length_map,List.length_zipIdx] at hl
  exact ⟨by omega,xs,Z5 (fun b o z=>rh.sub b o (x.f b o z)) hq,rfl⟩
end
section
variable {X:Cx} {tg a:Expr} {ms:MA} {p pos tpos:Pos} {elts:List Expr} {kk:Nat}
theorem QcT (hg:Gl X "enumerate") (hm:X.mg "enumerate"=none) (ha:PMA X [a] ms) (hs:starEach [a] X.env=[(false,eval a X.env)]:=by rfl):PMI X (.Tuple elts kk tpos) (.Call (.Name "enumerate" p) [a] [] pos) (UP ms):=
 YT (Qfb hg hm ha hs) fun σ H C ⟨R,σi,h,items,src,h',rh,st,e,k⟩=>by
  obtain ⟨⟨ws,h1⟩,e1,e2⟩:=Option.bind_eq_some_iff.mp e
  refine ⟨R,σi,h,ws,h1,rh,st,e1,fun R1 H1 vs x1 rh1 rv=>?_⟩
  split at e2
  ·rename_i us hj
   simp only at hj
   subst hj
   cases e2
   obtain ⟨v,rfl,r1⟩:=Gc rv
   unfold Rw at r1
   obtain ⟨ad,xs,rfl,hF,rr⟩:=r1
   exact ⟨ad,xs,rfl,Z5 rh1.sub hF,k R1 H1 _ x1 rh1 (Qbc hF rr)⟩
  ·cases e2
end
end Mi

namespace Dc
open PySem PySem.Spec PyProof.Rows
section
variable {prog:Program} {w:World} {A:Around} {E:Value->Shared->Prop} {s:Shared}
end
end Dc

namespace Dc
open PySem PySem.Spec PyProof.Rows
section
variable {prog:Program} {w:World} {K:Type} [DecidableEq K] {knd:KeyKind prog w K} {A:Around} {E:Value->Shared->Prop} {s:Shared}
noncomputable def PairAt (knd:KeyKind prog w K) (h:Heap) (v:Value) (p:K×Value):Prop:=∃ a o n key,v=.ref a/\h.get? a=some o/\o.cls=.type "tuple"/\o.data=.seq #[key,p.2] n/\knd.is p.1 key=true
theorem PairAt.keep {h h':Heap} {v:Value} {p:K×Value} (x:PairAt knd h v p) (k:∀ a o,v=.ref a->h.get? a=some o->h'.get? a=some o):PairAt knd h' v p:=by
 obtain ⟨a,o,n,key,rfl,h1,h2,h3,h4⟩:=x
 exact ⟨a,o,n,key,rfl,k a o rfl h1,h2,h3,h4⟩
end
end Dc

namespace Dc
open PySem PySem.Spec PyProof.Rows PySem.W
section
variable {prog:Program} {w:World} {A:Around} {E:Value->Shared->Prop} {s:Shared}
end
end Dc

namespace Dc
open PySem PySem.Spec PyProof.Rows PySem.W
section
variable {prog:Program} {w:World} {A:Around} {E:Value->Shared->Prop} {s:Shared}
end
end Dc

namespace Dc
open PySem PySem.Spec PyProof.Rows PySem.W
section
variable {prog:Program} {w:World} {A:Around} {E:Value->Shared->Prop} {s:Shared}
end
end Dc

namespace Mi
open PySem PySem.Spec PyProof.Rows L2
section
variable {X:Cx} {pins:List (Addr×Obj)} {σ:L2.St} {H H':Hp} {s:Shared} {h':Heap}
end
section
variable {K:PySem.W.Frag} {h:MH}
end
end Mi

namespace Mi
open PySem PySem.Spec PyProof.Rows L2
section
variable {X:Cx}
end
end Mi

namespace Mi
open PySem PySem.Spec PyProof.Rows L2
theorem YQ {α β:Type}:∀ (l:List (α×β)),(l.map (·.1)).zip (l.map (·.2))=l
 | []=>rfl
 | p::l=>by rw [List.map_cons,List.map_cons,List.zip_cons_cons,YQ l]
theorem QfX (f:Nat->Option W):∀ (o:MO),GT o=true->thO f o=some o
 | .lst ws,p=>by show (ths f ws).map MO.lst=_;rw [Z6 f ws p];rfl
 | .dic kvs,p=>by show (ths f (kvs.map (·.2))).map (fun vs=>MO.dic ((kvs.map (·.1)).zip vs))=_;rw [Z6 f _ p,Option.map_some,YQ]
 | .dct kvs,p=>by show (ths f (kvs.map (·.2))).map (fun vs=>MO.dct ((kvs.map (·.1)).zip vs))=_;rw [Z6 f _ p,Option.map_some,YQ]
noncomputable def frD:W->List Nat
 | .tup (.ref j::_)=>[j]
 | _=>[]
@[simp] theorem Qky {n:Nat} {h:MH}:Qfu h (.ref n)=match h[n]? with | some (.dic kvs)=>some kvs | _=>none:=id rfl
noncomputable def QaC (o:W) (k:Key) (v:W) (σ:MSt) (h:MH):Option MF:=match o with
 | .ref n=>match h[n]? with
  | some (.dic kvs)=>if kvs.length < sizeLine then some (.nx σ (h.set n (.dic (Qck kvs k v)))) else none
  | _=>none
 | _=>none
@[simp] theorem QjR {mo mi mv:ME} {σ:MSt} {h:MH}:Gi mo mi mv σ h=@ob _ _ (fun v=>@ob _ _ (fun o=>@ob _ _ (fun i=>@ob _ _ (fun k=>QaC o.1 k v.1 σ i.2) (Qf0 i.1)) (mi σ o.2)) (mo σ v.2)) (mv σ h):=by
 unfold Gi ob QaC
 rfl
@[simp] theorem QkB {x:Str}:Qf0 (.str x)=some (.inr x):=id rfl
@[simp] theorem Qh7 {n:Nat} {k:Key} {v:W} {σ:MSt} {h:MH}:QaC (.ref n) k v σ h=match h[n]? with
  | some (.dic kvs)=>if kvs.length < sizeLine then some (.nx σ (h.set n (.dic (Qck kvs k v)))) else none
  | _=>none:=id rfl
end Mi

namespace Mi
open PySem PySem.Spec PyProof.Rows L2
section
variable {X:Cx}
end
theorem Qee {m:FM} {args as:List W} {ns:List Nat} {os os':List MO} {g h:MH} {w:W} (hr:V6 0 args=some (as,ns)) (hd:ns.Nodup) (ho:ZV (QaM h) ns=some os) (e:m as os=some (w,os'++g)) (hl:os'.length=ns.length) (hp:∀ o∈os',GT o=true) (hw:pur w=true):box frN m args h=some (w,QP ns os' h):=by
 unfold box
 rw [hr,Option.bind_some]
 unfold Qds
 rw [if_pos hd,ho]
 simp only [Option.bind_some,e]
 rw [if_pos (show (frN w).Nodup/\∀ j∈frN w,ns.length<=j from ⟨List.nodup_nil,fun j hj=>by simp [frN] at hj⟩),Uw _ w hw,Option.bind_some]
 have key:∀ (f:Nat->Option W) (k:Nat) (xs:List MO),(∀ i o,xs[i]?=some o->(os'++g)[k+i]?=some o)->(∀ o∈xs,GT o=true)->ZV (fun j=>((os'++g)[j]?).bind (thO f)) (List.range' k xs.length)=some xs:=by
  intro f k xs
  induction xs generalizing k with
  | nil=>intro _ _;rfl
  | cons x xs ih=>
   intro h1 h2
   rw [List.length_cons,List.range'_succ]
   unfold ZV
   have h0:=h1 0 x rfl
   rw [Nat.add_zero] at h0
   rw [h0,Option.bind_some,ih (k+1) (fun i o hi=>by have:=h1 (i+1) o (by simpa using hi);rw [show k+1+i=k+(i+1) by omega];exact this) fun o hx=>h2 o (List.mem_cons_of_mem _ hx),QfX _ x (h2 x List.mem_cons_self)]
   rfl
 rw [<- hl,List.range_eq_range',key _ 0 os' (fun i o hi=>by rw [Nat.zero_add,List.getElem?_append_left (List.getElem?_eq_some_iff.mp hi).1];exact hi) hp,Option.bind_some]
 have:frN w=[]:=rfl
 rw [this]
 simp [ZV]
end Mi

namespace Mi
open PySem PySem.Spec PyProof.Rows L2
noncomputable def QcO (a:W) (ws:List W) (h:MH):Option (W×MH):=match ws with
 | [b,v]=>(Qfu h a).bind fun kvs=>(Qf0 b).map fun k=>((QbC kvs k).getD v,h)
 | _=>none
section
variable {X:Cx}
theorem Qdc (hu:X.A.units+64 < cLine):Qb2 X "dict.get" QcO:=by
 intro pins s σ H x xs v us Q I rx rv q
 obtain ⟨R,h,a,ws,w,h',rh,ra,rws,e,k⟩:=q
 unfold QcO at e
 split at e
 ·rename_i b dv
  obtain ⟨kvs,e1,e2⟩:=Option.bind_eq_some_iff.mp e
  obtain ⟨kk,e3,e4⟩:=Option.map_eq_some_iff.mp e2
  cases e4
  obtain ⟨n,rfl,hn⟩:=Yp e1
  obtain ⟨y,z,rfl,rb,rd⟩:=Qfv rws
  obtain ⟨uy,uz,rfl,ry,rz⟩:=Uj rv
  obtain ⟨_,ey,kx,hx,dr⟩:=rh.dicAt ra hn
  have eb:=Yt rb e3
  subst eb ey
  obtain rfl:v=Value.ref (R.ρ n):=rx
  refine Qhn (by omega) I (DGet.k (k:=kk) hx) ry rz fun w' s' I' rw'=>?_
  rcases WZ (k:=kk) dr with z | ⟨w',v',z1,z2,z3⟩
  ·rw [z.2] at rw'
   rw [z.1] at k
   exact ⟨_,H,I',rw',k R H _ (Ext.refl _) rh rd⟩
  ·rw [z2] at rw'
   rw [z1] at k
   exact ⟨_,H,I',rw',k R H _ (Ext.refl _) rh z3⟩
 ·cases e
@[simp] theorem Qkv {x:Str} {a v:W} {h:MH}:QcO a [.str x,v] h=@ob _ _ (fun kvs=>some ((QbC kvs (.inr x)).getD v,h)) (Qfu h a):=id rfl
end
end Mi

namespace Mi
open PySem PySem.Spec PyProof.Rows L2 PySem.W
section
variable {prog:Program} {w:World} {A:Around} {E:Value->Shared->Prop} {s:Shared} {T:String} {r d:Addr} {n:Nat} {P:Nat->Value->Prop} {OK:Heap->Prop} {Q:Value->Shared->Prop}
theorem Qfw (K:KdlSrc prog w T r d n P OK) (hh:A.handled=none) (hok:OK s.heap) (val:Nat->Int) (hval:∀ (i:Nat) (v:Value),P i v->∃ t:Tok,v=Value.int (val i) t)
  (h:∀ (h':Heap) (tk:Nat) (t':Tok),(∀ b o,s.heap.get? b=some o->h'.get? b=some o)->Q (.int (preSum val n) t') { s with heap:=h',toks:=tk }):wpAny (model prog w) A (call (.builtin "sum") [.ref r]) Q E s:=by
 obtain ⟨oI,St,hit,W,st⟩:=K.iter A.in1 s hh hok
 refine call_sum_walkAnyS (hit _ _ ⟨s.heap.objs.size,_,_,_,n,P,_,val,rfl,W.toS,st,fun b hb=>?_,hval,fun s' t' hm=>?_⟩)
 ·show b < (s.heap.push oI).objs.size
  rw [Heap.size_push]
  rcases List.mem_cons.mp hb with e | hb
  ·exact e ▸ Nat.lt_succ_self _
  ·exact List.mem_singleton.mp hb ▸ Nat.lt_succ_of_lt (K.there _ hok).2
 ·rw [Moved.eq_with hm]
  exact h s'.heap s'.toks t' fun b o e=>hm.heap b o (fun hI=>Nat.lt_irrefl _ (by have:=Heap.lt_size e;rwa [List.mem_singleton.mp hI] at this)) (Heap.get?_push_of_some _ e)
end
noncomputable def GL:List (Key×W)->Option Int
 | []=>some 0
 | (_,.int i)::r=>(GL r).map (i+·)
 | _=>none
noncomputable def Qii (p:W×MH):Option (W×MH):=(Qfu p.2 p.1).bind fun kvs=>(GL kvs).map fun i=>(.int i,p.2)
noncomputable def GM (me:ME):ME:=fun σ h=>(me σ h).bind Qii
noncomputable def Qcm (vs:List (Key×Value)) (i:Nat):Int:=match vs[i]? with | some (_,.int n _)=>n | _=>0
theorem YX {p:Key×Value} {vs:List (Key×Value)}:∀ (n:Nat),preSum (Qcm (p::vs)) (n+1)=Qcm (p::vs) 0+preSum (Qcm vs) n
 | 0=>by simp [preSum]
 | n+1=>by
  have:=YX (p:=p) (vs:=vs) n
  rw [preSum,this,preSum]
  have:Qcm (p::vs) (n+1)=Qcm vs n:=rfl
  rw [this];omega
section
variable {X:Cx}
theorem Qby {K:PySem.W.Frag} {R:Rn}:∀ {kvs:List (Key×W)} {kx:List (Key×V)} {vs:List (Key×Value)} {i:Int},DicR K R kvs kx->KV kx vs->GL kvs=some i->preSum (Qcm vs) vs.length=i/\∀ (j:Nat) (k:Key) (v:Value),vs[j]?=some (k,v)->∃ t,v=.int (Qcm vs j) t
 | _,_,_,i,.nil,.nil,e=>by
  cases (show some 0=some i from e)
  exact ⟨rfl,fun j k v h=>by simp at h⟩
 | _,_,_,i,.cons (a:=p) (b:=q) h t,.cons (b:=r) h' t',e=>by
  obtain ⟨pk,pw⟩:=p
  cases pw with
  | int m=>
   obtain ⟨i',e1,e2⟩:=Option.map_eq_some_iff.mp (show (GL _).map (m+·)=some i from e)
   subst e2
   obtain ⟨s1,s2⟩:=Qby t t' e1
   have hv:q.2=.int m:=Rw.int_eq h.2
   obtain ⟨tt,ht⟩:∃ t,r.2=.int m t:=by have:=h'.2;rw [hv] at this;exact this
   have n0:∀ vs,Qcm (r::vs) 0=m:=fun vs=>by obtain ⟨rk,rv⟩:=r;dsimp only at ht;subst ht;rfl
   refine ⟨?_,fun j k v hj=>?_⟩
   ·rw [List.length_cons,YX,n0,s1]
   ·cases j with
    | zero=>
     have:r=(k,v):=by simpa using hj
     subst this
     rw [n0]
     exact ⟨tt,ht⟩
    | succ j=>exact s2 j k v (by simpa using hj)
  | _=>cases (show none=some i from e)
theorem Xw {e:Expr} {me:ME} {p1 p2 pos1 pos2:Pos} (hc:X.calm=true) (hg:Gl X "sum") (hm:X.mg "sum"=none) (he:PM X e me)
  (hbase:attributeBase e "values" X.env (eval e X.env)=eval e X.env:=by rfl) (hline:(p2.endLine == pos2.line)=true:=by rfl) :
  PM X (.Call (.Name "sum" p1) [.Call (.Attribute e "values" p2) [] [] pos2] [] pos1) (GM me):=by
 intro pins s σ H Q I ⟨R,σi,h,w,h',rh,st,e1,kk⟩
 obtain ⟨⟨a,h1⟩,e2,e3⟩:=Option.bind_eq_some_iff.mp e1
 unfold Qii at e3
 obtain ⟨kvs,e4,e5⟩:=Option.bind_eq_some_iff.mp e3
 obtain ⟨i,e6,e7⟩:=Option.map_eq_some_iff.mp e5
 cases e7
 obtain ⟨n,rfl,hn⟩:=Yp e4
 refine wpAny_Call_Name_kw (Vz I hg hm boot_sum (PyProof.Rows.callWith_builtin1 ?_ (Zh rfl) (J4 rfl)) (by decide) (by decide))
 rw [Zh (e:=.Call (.Attribute e "values" p2) [] [] pos2) rfl]
 refine Calls.spliced_cons (wpAny_Call_method0_late hbase hline (thn (he pins s σ H (fun v H2=>∃ R2,Ext R R2/\Rh X.K R2 h1 H2/\Rw X.K R2 (.ref n) v) I ⟨R,σi,h,.ref n,h1,rh,st,e2,fun R2 H2 v x rh2 ra=>⟨R2,x,rh2,ra⟩⟩) fun u s1 ⟨v,H1,I1,ru,R2,x2,rh2,ra⟩=>?_))
 obtain ⟨_,rfl,kx,hx,dr⟩:=rh2.dicAt ra hn
 have hty:tyW h1 "dict" (.ref n)=true:=by simp only [tyW,hn];decide
 obtain ⟨t1,t2⟩:=G4 I1 ru (G9 rh2 ra hty)
 obtain rfl:u=Value.ref (R2.ρ n):=ru
 obtain ⟨z,lo,vs,rel,dd⟩:=Qhu I1.hok hx
 refine ⟨"dict","dict.values",PySem.F.plainAttrs_dict,PySem.F.slot_dict_values,PySem.F.type_dict_values,t1,t2,Calls.callWith_builtin rfl (PySem.evalArgs_none ?_)⟩
 refine call_meetsIn PySem.F.slot_dict_values dd.typeIs PySem.F.entry_dict_values (PySem.F.args_dict_values_1 _) (meets_dict_values (JW X.prog X.w) (R2.ρ n) lo) ⟨⟨vs,dd⟩,Calls.spliced_nil ?_⟩
 obtain ⟨s1',s2'⟩:=Qby dr rel e6
 obtain ⟨o,es,ep,q1,q2,q3,q4⟩:=dd.push { cls:=.type "dict_values",data:=.fields #[.ref (R2.ρ n)] }
 refine Qfw (s:={ s1 with heap:=s1.heap.push { cls:=.type "dict_values",data:=.fields #[.ref (R2.ρ n)] } }) (kdl_values (knd:=JW X.prog X.w) (r:=s1.heap.objs.size) (d:=R2.ρ n) (kvs:=vs) (ep:=ep)) (I1.ok.hd hc) ⟨⟨_,Heap.get?_push_size _ rfl,rfl,rfl⟩,o,es,q1,q2,q3,q4⟩ (Qcm vs) (fun j v ⟨k,hv⟩=>s2' j k v hv) fun h2 tk t' kp=>?_
 have kp':∀ b o,s1.heap.get? b=some o->h2.get? b=some o:=fun b o q=>kp b o (Heap.get?_push_of_some _ q)
 refine ⟨.int i,H1,I1.kept (t':=tk) kp',⟨t',by rw [s1']⟩,kk R2 H1 _ x2 rh2 (Rw.int _)⟩
@[simp] theorem Qj5 {me:ME} {σ:MSt} {h:MH}:GM me σ h=@ob _ _ Qii (me σ h):=id rfl
end
end Mi

namespace L2
open PySem PySem.Spec PyProof.Rows
noncomputable def ItE (K:PySem.W.Frag) (a:Addr) (n:Nat):It:=
  ⟨fun i H=>i < n/\∃ xs,SqL K H a xs/\xs.length=n,
   fun i H v H'=>∃ T x,v=.ref T/\H T=none/\H'=upd H T (.tup [.int i,x])/\∀ xs,SqL K H a xs->xs[i]?=some x,
   fun i H=>n<=i/\∃ xs,SqL K H a xs/\xs.length=n⟩
theorem Gk {P:Program} {w:World} {K:PySem.W.Frag} {elts:List Expr} {kk:Nat} {pos:Pos} (l e it:Addr) (n:Nat) (hei:e≠it) (hle:l≠e) (hli:l≠it):Turn P w K (.Tuple elts kk pos) (ItE K l n) [e,it] e (fun i h=>i<=n/\(∃ old,IsEnum h e it i old)/\h.IsListIter it l i) where
 mem:=by simp
 obj:=fun i h st b hb=>by
  obtain ⟨_,⟨old,he⟩,⟨o1,e1,c1,d1⟩⟩:=st
  have hb':b=e\/b=it:=by simpa using hb
  rcases hb' with rfl | rfl
  ·exact ⟨_,he,fun v q=>nomatch q⟩
  ·exact ⟨o1,e1,fun v q=>by rw [d1] at q;cases q⟩
 keep:=fun i h h' st k=>by
  obtain ⟨hi,⟨old,he⟩,h1⟩:=st
  exact ⟨hi,⟨old,k e (by simp) _ he⟩,h1.at fun o x=>k it (by simp) o x⟩
 item:=by
  intro X hP hw hK hc i pins s σ H E I hf st hg
  subst hP hw hK
  obtain ⟨hi,xs,hq,hn⟩:=hg
  obtain ⟨its,rv,p,hz⟩:=I.list hq
  have hl:=rv.length
  obtain ⟨_,se,s1⟩:=st
  have W:=WalksT.enumerateD (prog:=X.prog) (w:=X.w) (Draws.list (A:=X.A.in1) (I.ok.hd hc) it l hli its.toArray) e hei (by simp [hei,Ne.symm hle]) (by simp)
  refine W.item i s _ _ (by rw [List.size_toArray];omega) ⟨se,s1,p.isList⟩ fun T vals h' tk hP hT hTup hMid hk=>?_
  obtain ⟨t,u,hu,rfl⟩:=hP
  refine ⟨.ref T,rfl,W.go elts kk pos i T _ _ _ hMid fun h'' hSt hk2=>?_⟩
  obtain ⟨x,hx⟩:∃ x,xs[i]?=some x:=⟨xs[i]'(by omega),List.getElem?_eq_getElem _⟩
  obtain ⟨v,hv,r⟩:=rv.get hx
  have e1:v=u:=by have:=hu;rw [List.getElem?_toArray,hv] at this;exact Option.some.inj this
  subst e1
  have hTw:=W.apart i T _ hMid
  have hT2:IsTup h'' T #[.int i t,v]:=by
   obtain ⟨o,ho,hc',q⟩:=hTup
   exact ⟨o,hk2 T o hTw ho,hc',q⟩
  have hHT:=I.hok.fresh hT
  refine ⟨.ref T,_,I.turnedN (ch:=[e,it]) (t':=tk) (xs:=[.int i,x]) (fun b o hb e=>hk2 b o hb (hk b o hb e)) hf hT ⟨by simp [sizeLine_eq],[.int i t,v],.cons ⟨t,rfl⟩ (.cons r .nil),hT2⟩,rfl,⟨T,x,rfl,hHT,rfl,fun ys hy=>by rw [I.list_inj hy hq];exact hx⟩,⟨hi,hSt.1,hSt.2.1⟩,fun b hb=>?_⟩
  rw [QI (fun q=>?_)]
  ·exact (hf b hb).1
  ·obtain ⟨o,ho,_⟩:∃ o,s.heap.get? b=some o/\True:=by
    obtain ⟨old,he⟩:=se
    obtain ⟨o1,e1,_⟩:=s1
    have hb':b=e\/b=it:=by simpa using hb
    rcases hb' with rfl | rfl
    ·exact ⟨_,he,trivial⟩
    ·exact ⟨o1,e1,trivial⟩
   rw [q] at ho
   exact absurd (Heap.lt_size ho) (Nat.not_lt.mpr hT)
 done:=by
  intro X hP hw hK hc i pins s σ H E I hf st hg
  subst hP hw hK
  obtain ⟨hi,xs,hq,hn⟩:=hg
  obtain ⟨its,rv,p,hz⟩:=I.list hq
  have hl:=rv.length
  obtain ⟨hi2,se,s1⟩:=st
  have W:=WalksT.enumerateD (prog:=X.prog) (w:=X.w) (Draws.list (A:=X.A.in1) (I.ok.hd hc) it l hli its.toArray) e hei (by simp [hei,Ne.symm hle]) (by simp)
  have hin:its.toArray.size=i:=by rw [List.size_toArray];omega
  refine W.done s _ _ (by rw [hin];exact ⟨se,s1,p.isList⟩) fun h' tk hk=>⟨rfl,?_⟩
  exact I.turnedL (ch:=[e,it]) (fun b o hb e=>hk b o hb e) hf (fun _ _ e=>e) (fun _ _ _ n=>n) fun b u n e=>by rw [n] at e;cases e
 self:=fun _ _ _ _ _ st h=>let ⟨_,he⟩:=st.2.1;wpAny_pyIter_enum he h
noncomputable def QgS (K:PySem.W.Frag) (ta:TA):TI:=fun σ H R=>ta σ H fun vs H1=>∃ a xs,vs=[.ref a]/\SqL K H1 a xs/\R (ItE K a xs.length) H1
theorem Qdp {X:Cx} {elts:List Expr} {kk:Nat} {tpos:Pos} {a:Expr} {ta:TA} {p pos:Pos} (hg:Gl X "enumerate") (hm:X.mg "enumerate"=none) (ha:PA X [a] ta) (hs:starEach [a] X.env=[(false,eval a X.env)]:=by rfl) :
  PI X (.Tuple elts kk tpos) (.Call (.Name "enumerate" p) [a] [] pos) (QgS X.K ta):=by
 intro pins s σ H R I h
 refine Call_ (Vz I hg hm boot_enumerate (PyProof.Rows.callWith_type1 (thn (ha pos pins s σ H _ I h) fun us s1 ⟨vs,H1,I1,r1,q1⟩=>?_) hs rfl))
 obtain ⟨ad,xs,e,hq,q⟩:=q1
 subst e
 obtain ⟨u,rfl,ru⟩:=Uc r1
 cases ru
 obtain ⟨its,rv,pl,hz⟩:=I1.list hq
 have hlt:ad < s1.heap.objs.size:=let ⟨_,ho,_⟩:=pl.isList;Heap.lt_size ho
 refine call_enumerate_list pl.isList fun h' he hit _ hk=>wpAny_pyIter_enum he ?_
 refine ⟨s1.heap.objs.size+1,[s1.heap.objs.size+1,s1.heap.objs.size],_,_,H1,rfl,I1.kept (t':=s1.toks) hk,Gk ad _ _ xs.length (Nat.succ_ne_self _) (Nat.ne_of_lt (Nat.lt_succ_of_lt hlt)) (Nat.ne_of_lt hlt),⟨Nat.zero_le _,⟨_,he⟩,hit⟩,fun b hb=>?_,q⟩
 have hb':s1.heap.objs.size<=b:=by
  simp at hb
  rcases hb with h | h<;>(rw [h];first | exact Nat.le_refl _ | exact Nat.le_add_right _ _)
 exact I1.fpOk hb' (I1.hok.fresh hb')
end L2
namespace Mi
open PySem PySem.Spec PyProof.Rows L2
noncomputable def YC (ms:MA):MI:=fun σ h=>(ms σ h).bind fun p=>match p.1 with
 | [.lst ws]=>some (JY ws,none,p.2)
 | _=>none
section
variable {K:PySem.W.Frag} {R:Rn}
theorem GR {a:Addr} {xs:List V} {ws:List W} (hq:SqL K R.F a xs) (r:Rws K R ws xs):ItOk K R (ItE K a xs.length) (JY ws) none where
 go:=fun i w R' h H x rh _ e=>by
  have hl:=(List.getElem?_eq_some_iff.mp e).1
  have l1:=r.length
  unfold JY at hl
  rw [List.length_map,List.length_zipIdx] at hl
  exact ⟨by omega,xs,ZP (fun b o z=>rh.sub b o (x.f b o z)) hq,rfl⟩
 yld:=fun i w R' h H x H' e rh _ ew hy=>by
  obtain ⟨T,x1,rfl,hT,rfl,hx⟩:=hy
  unfold JY at ew
  rw [List.getElem?_map,List.getElem?_zipIdx] at ew
  obtain ⟨⟨w1,j⟩,h1,rfl⟩:=Option.map_eq_some_iff.mp ew
  obtain ⟨w2,h2,h3⟩:=Option.map_eq_some_iff.mp h1
  cases h3
  obtain ⟨v,g1,g2⟩:=r.get h2
  have e1:=hx xs (ZP (fun b o z=>rh.sub b o (e.f b o z)) hq)
  rw [g1] at e1;cases e1
  rw [Nat.zero_add]
  exact rh.tup hT (Rws.cons (by unfold Rw;rfl) (Rws.cons (Rw.mono e _ _ g2) Rws.nil))
 stop:=fun i R' h H x rh _ hl=>by
  have l1:=r.length
  unfold JY at hl
  rw [List.length_map,List.length_zipIdx] at hl
  exact ⟨by omega,xs,ZP (fun b o z=>rh.sub b o (x.f b o z)) hq,rfl⟩
end
section
variable {X:Cx} {tg a:Expr} {ms:MA} {p pos tpos:Pos} {elts:List Expr} {kk:Nat}
theorem Qat (hg:Gl X "enumerate") (hm:X.mg "enumerate"=none) (ha:PMA X [a] ms) (hs:starEach [a] X.env=[(false,eval a X.env)]:=by rfl):PMI X (.Tuple elts kk tpos) (.Call (.Name "enumerate" p) [a] [] pos) (YC ms):=
 YT (Qdp hg hm ha hs) fun σ H C ⟨R,σi,h,items,src,h',rh,st,e,k⟩=>by
  obtain ⟨⟨ws,h1⟩,e1,e2⟩:=Option.bind_eq_some_iff.mp e
  refine ⟨R,σi,h,ws,h1,rh,st,e1,fun R1 H1 vs x1 rh1 rv=>?_⟩
  split at e2
  ·rename_i us hj
   simp only at hj
   subst hj
   cases e2
   obtain ⟨v,rfl,r1⟩:=Gc rv
   unfold Rw at r1
   obtain ⟨ad,xs,rfl,hF,rr⟩:=r1
   exact ⟨ad,xs,rfl,ZP rh1.sub (.inl (.inl hF)),k R1 H1 _ x1 rh1 (GR (.inl (.inl hF)) rr)⟩
  ·cases e2
end
end Mi

namespace L2
open PySem PySem.Spec PyProof.Rows PySem.SeqAt
section
variable {prog:Program} {w:World} {A:Around} {E:Value->Shared->Prop} {s:Shared}
theorem QbS {Q:Int->Shared->Prop} (h:Q 0xFCA86420 { s with toks:=s.toks+1 }):wpAny (model prog w) A (pyHash .none) Q E s:=by
 unfold pyHash
 have hv:[Value.none].any Value.onHeap=false:=rfl
 refine wpAny_bind ?_
 rw [cRoomFor,if_neg (by rw [hv];exact Bool.false_ne_true)];refine wpAny_pure (wpAny_bind (wpAny_specialOf (typeIs_none s) F.slot_NoneType_hash.lookup ?_))
 show wpAny _ _ (if (some (Value.builtin "NoneType.__hash__") == some Value.none)=true then _ else _) Q E s
 rw [if_neg (by rw [beq_builtin_none];exact Bool.false_ne_true)];refine wpAny_bind (wpAny_specialOf (typeIs_none s) F.slot_NoneType_hash.lookup ?_)
 show wpAny _ _ (callSpecialIfBoundUnlessNone? .none "__hash__" _ >>= _) Q E s
 refine wpAny_bind (wpAny_callSpecialIfBoundUnlessNone?_slot (typeIs_none s) F.slot_NoneType_hash (wpAny_call_entry F.slot_NoneType_hash (typeIs_none s) F.entry_NoneType_hash (show wpAny _ _ (do ret (<- mkInt 0xFCA86420)) _ _ s from wpAny_ret_mkInt ?_) (F.args_NoneType_hash_1 _)))
 show wpAny _ _ (if (decide (-(2:Int) ^ 63<=0xFCA86420) && decide ((0xFCA86420:Int) < 2 ^ 63))=true then _ else _) Q E _
 rw [if_pos (by decide)]
 exact wpAny_pure h
theorem Qaz {stored:List Value} {Q:Bool->Shared->Prop} (hst:∀ v∈stored,∃ k b,v=.ref b/\(Qt prog w).is s.heap k b) (h:Q false s):wpAny (model prog w) A (tableMayTell .none stored) Q E s:=by
 unfold tableMayTell
 split
 ·exact wpAny_pure h
 ·refine wpAny_bind (m:=eqIsQuiet 8 .none) (wpAny_pure ?_)
  simp only [Bool.not_true,Bool.false_eq_true,if_false]
  refine wpAny_bind (wpAny_forIn_list _ (fun rest r s'=>s'=s/\r=(none,())/\∀ v∈rest,∃ k' b,v=.ref b/\(Qt prog w).is s.heap k' b) _ ?_ ?_ _ _ ⟨rfl,rfl,hst⟩)
  ·rintro x rest r s' ⟨rfl,rfl,hr⟩
   obtain ⟨k',b,rfl,hb⟩:=hr x List.mem_cons_self
   refine wpAny_bind ((Qt prog w).quiet hb ?_)
   simp only [Bool.not_true,Bool.false_eq_true,if_false]
   exact wpAny_pure ⟨rfl,rfl,fun v hv=>hr v (List.mem_cons_of_mem _ hv)⟩
  ·rintro r s' ⟨rfl,rfl,_⟩
   exact wpAny_pure h
theorem Qbu {d:Addr} {g:Int} {o:Obj} {es ep} {xs:List (Tr×Addr×Value)} {Q:Option Nat->Shared->Prop} (hu:A.units < cLine) (ho:s.heap.get? d=some o) (hd:o.data=.dict es ep) (he:es.toList=xs.map (entryOfKey (Qt prog w))) (his:∀ x∈xs,(Qt prog w).is s.heap x.1 x.2.1)
  (hQ:Q none s):wpAny (model prog w) A (dictFind d .none g) Q E s:=by
 have hmem:∀ e∈es,∃ x∈xs,e=entryOfKey (Qt prog w) x:=fun e hin=>by
  have:e∈xs.map (entryOfKey (Qt prog w)):=he ▸ Array.mem_toList_iff.mpr hin
  obtain ⟨x,hx,rfl⟩:=List.mem_map.mp this
  exact ⟨x,hx,rfl⟩
 have hst:∀ v∈(placesWithHash es.size (fun i=>es[i]?.map (·.hash)) g).filterMap (fun i=>es[i]?.map (·.key)),∃ k' b,v=.ref b/\(Qt prog w).is s.heap k' b:=by
  intro v hv
  obtain ⟨i,_,hi⟩:=List.mem_filterMap.mp hv
  obtain ⟨e,hei,rfl⟩:=Option.map_eq_some_iff.mp hi
  obtain ⟨x,hx,rfl⟩:=hmem e (Array.mem_of_getElem? hei)
  exact ⟨x.1,x.2.1,rfl,his x hx⟩
 have eq:∀ {b:Addr} {k:Tr} {R:Bool->Shared->Prop},(Qt prog w).is s.heap k b->R false s->wpAny (model prog w) A (eqBool (.ref b) .none) R E s:=fun {b k R} hb r=>by
  obtain ⟨_,_,its,_,_,ht,_⟩:=Ue (show IsT s.heap 8 k (.ref b) from hb)
  exact EqAt.tuple_none ht hu prog w E R r
 unfold dictFind
 refine wpAny_holding (wpAny_bind (wpAny_dictEntries ho hd ?_))
 dsimp only
 by_cases hall:((Value.none::(placesWithHash es.size (fun i=>es[i]?.map (·.hash)) g).filterMap (fun i=>es[i]?.map (·.key))).all carriedByValue)=true
 ·rw [if_pos hall]
  unfold dictWalkPlain
  refine wpAny_bind (wpAny_forIn_list _ (fun rest r s'=>s'=s/\r=(none,())) _ ?_ ?_ _ _ ⟨rfl,rfl⟩)
  ·rintro x rest r s' ⟨rfl,rfl⟩
   cases hx:es[x]? with
   | none=>exact wpAny_pure ⟨rfl,rfl⟩
   | some e=>
    obtain ⟨y,hy,rfl⟩:=hmem e (Array.mem_of_getElem? hx)
    dsimp only
    split
    ·refine wpAny_bind (wpAny_dictEpoch ho hd (wpAny_bind (eq (his y hy) (wpAny_bind (wpAny_dictEpoch ho hd ?_)))))
     show wpAny _ _ (if (ep != ep)=true then _ else _) _ E _
     rw [if_neg (by simp)]
     simp only [Bool.false_eq_true,if_false]
     exact wpAny_bind (wpAny_rule (wpAny_pure ⟨rfl,rfl⟩))
    ·exact wpAny_pure ⟨rfl,rfl⟩
  ·rintro r s' ⟨rfl,rfl⟩
   exact wpAny_pure hQ
 ·rw [if_neg hall]
  have go:∀ stored:List Value,wpAny (model prog w) A (do
    let mut hit:Option Nat:=none
    for i in placesWithHash es.size (fun i=>es[i]?.map (·.hash)) g do
     if let some e:=es[i]? then
      if e.hash == g then
       let before <- dictEpoch d (keyPart .none)
       let same <- eqBool e.key .none
       if (<- dictEpoch d (keyPart .none)) != before then unsupported "dict.changed-during-lookup"
       if same then
        if hit.isSome then unsupported "dict.find:order-among-keys-of-one-hash"
        rule "dict.find.hit"
        if stored.length < 2 then return some i
        hit:=some i
       else
        rule "dict.find.same-hash-other-key"
        if false && !(0<=g && g < 32) then unsupported "dict.find:asked-again-or-not-hangs-on-the-table"
    return hit) Q E s:=by
   intro stored
   refine wpAny_bind (wpAny_forIn_list _ (fun rest r s'=>s'=s/\r=(none,none)) _ ?_ ?_ _ _ ⟨rfl,rfl⟩)
   ·rintro x rest r s' ⟨rfl,rfl⟩
    cases hx:es[x]? with
    | none=>exact wpAny_pure ⟨rfl,rfl⟩
    | some e=>
     obtain ⟨y,hy,rfl⟩:=hmem e (Array.mem_of_getElem? hx)
     dsimp only
     split
     ·refine wpAny_bind (wpAny_dictEpoch ho hd (wpAny_bind (eq (his y hy) (wpAny_bind (wpAny_dictEpoch ho hd ?_)))))
      show wpAny _ _ (if (ep != ep)=true then _ else _) _ E _
      rw [if_neg (by simp)]
      simp only [Bool.false_eq_true,if_false]
      refine wpAny_bind (wpAny_rule ?_)
      first | rw [if_neg (by simp)] | skip
      first | exact wpAny_pure ⟨rfl,rfl⟩ | exact wpAny_bind (wpAny_pure (wpAny_pure ⟨rfl,rfl⟩))
     ·exact wpAny_pure ⟨rfl,rfl⟩
   ·rintro r s' ⟨rfl,rfl⟩
    exact wpAny_pure hQ
  by_cases hone:(((placesWithHash es.size (fun i=>es[i]?.map (·.hash)) g).filterMap (fun i=>es[i]?.map (·.key))) == [Value.none])=true
  ·rw [if_pos hone]
   refine wpAny_bind (wpAny_pure ?_)
   rw [if_neg (by simp)]
   exact go _
  ·rw [if_neg hone]
   refine wpAny_bind (Qaz hst ?_)
   rw [if_neg (by simp)]
   exact go _
end
end L2

namespace L2
open PySem PySem.Spec PyProof.Rows PySem.SeqAt
theorem Kx {prog:Program} {w:World} (d:Addr) (hd:(d == sysModules)=false) (dflt:Value) :
  MeetsIn prog w (Builtin.«dict.get» ⟨[.ref d,.none,dflt],[]⟩) (fun A R s=>A.in1.units < cLine/\∃ xs,s.heap.DictOfH (Qt prog w) d xs/\R (.ok (.ret dflt)) { s with toks:=s.toks+1 }):=
 .of_wp fun A R s ⟨hu,xs,hm,h⟩=>by
  obtain ⟨o,es,ep,ho,_,hD,he,his,hn⟩:=hm
  show wpAny _ _ (dictGet d .none >>= _) _ _ s
  unfold dictGet
  refine wpAny_bind (wpAny_holding (wpAny_bind (QbS (wpAny_bind (Qbu (s:={ s with toks:=s.toks+1 }) (xs:=xs) hu ho hD he his ?_)))))
  refine wpAny_pure (show wpAny _ _ (Builtin.Dict.missed d .none >>= _) _ _ _ from wpAny_bind (wpAny_missed_other hd (wpAny_pure ⟨dflt,rfl,h⟩)))
end L2
namespace Mi
open PySem PySem.Spec PyProof.Rows L2
noncomputable def X6 (a:W) (ws:List W) (h:MH):Option (W×MH):=match ws with
 | [.non,v]=>(Qda h a).map fun _=>(v,h)
 | _=>Qbp a ws h
theorem Qbk {X:Cx} (hu:X.A.units+64 < cLine):Qb2 X "dict.get" X6:=by
 intro pins s σ H x xs v us Q I rx rv q
 obtain ⟨R,h,a,ws,w,h',rh,ra,rws,e,k⟩:=q
 unfold X6 at e
 split at e
 ·rename_i dv
  obtain ⟨kvs,e1,e2⟩:=Option.map_eq_some_iff.mp e
  cases e2
  obtain ⟨n,rfl,hn⟩:=YH e1
  obtain ⟨y,z,rfl,rb,rd⟩:=Qfv rws
  obtain ⟨uy,uz,rfl,ry,rz⟩:=Uj rv
  obtain ⟨kx,xs,hx,dr,zl,lo,rr,dd⟩:=QbO I rh hn
  unfold Rw at ra
  obtain ⟨hlt,rfl⟩:=ra
  obtain rfl:v=Value.ref (R.ρ n):=rx
  have hy:y=.non:=rb.non_eq
  subst hy
  obtain rfl:uy=Value.none:=ry
  exact call_meetsIn PySem.F.slot_dict_get dd.typeIs PySem.F.entry_dict_get (PySem.F.args_dict_get_3 _ _ _) (Kx (R.ρ n) lo uz) ⟨show X.A.units+1 < cLine by omega,xs,dd,_,H,I.tok _,rz,k R H _ (Ext.refl _) rh rd⟩
 ·exact Qb7 hu pins s σ H x xs v us Q I rx rv ⟨R,h,a,ws,w,h',rh,ra,rws,e,k⟩
@[simp] theorem Qh2 {a v:W} {h:MH}:X6 a [.non,v] h=@om _ _ (fun _=>(v,h)) (Qda h a):=id rfl
end Mi

namespace My
open PySem PySem.Spec PyProof.Rows L2 Mi
noncomputable def top (i:Nat):Stmt:=PySem.Challenge.pw_doneroom_k51_rooms_counted.main.body.getD i (.Pass ⟨0,0,0,0⟩)
section
variable {P:Program} {w:World} {K:PySem.W.Frag} {mg:Str->Option Value} {base:Heap}
noncomputable abbrev Jq:Stmt:=top 12
theorem sc__law_take:FnScope ["feed","many","found"] ["feed","many"] (Qp Jq):=⟨rfl,rfl,rfl,by decide +kernel,rfl,by decide +kernel,by decide +kernel⟩
noncomputable def JH:FM:=Zo 1
  (QJ (Vo (QA (Qm wGt (Qm wIx (Qg 0) (mC (.int 0))) (mC (.int 0)))) (QJ (Zi 2 (Qm Qas (Qm wIx (Qg 0) (mC (.int 0))) (Qg 1)))
  (QJ (Qb3 (Qg 0) (mC (.int 0)) (Qm Qe3 (Qm wIx (Qg 0) (mC (.int 0))) (Qg 1)))
  (J2 (Qg 2)))) ZH)
  (QJ (Qb3 (Qg 0) (mC (.int 1)) (Qm Qas (Qm Vt (Qm Xd (Qm wIx (Qg 0) (mC (.int 1))) (mC (.int 69621))) (mC (.int 12345))) (mC (.int 2147483647))))
  (J2 (Qm Qas (Qm Qe3 (Qm wIx (Qg 0) (mC (.int 1))) (mC (.int 8191))) (Qg 1)))))
set_option maxHeartbeats 4000000 in
theorem K8 (d:DefAt K mg "_law_take" Jq ["feed","many"]):Cal P w K mg base 1 "_law_take" ["feed","many"] JH:=by
 refine Zk (k:=0) (more:=1) d sc__law_take rfl fun f cdv A outer s H E hr=>?_
 have hu:=hr.units
 refine Qf ?_ ?_
 refine QT ?_ ?_ ?_
 refine Qr Vn Qk ?_ ?_
 refine Qo ?_ ?_
 exact Qb 0
 exact Qe
 exact Qe
 refine Qf ?_ ?_
 refine Qn ?_ ?_ ?_ ?_ ?_ ?_
 exact sc__law_take.nd
 exact rfl
 exact (Or.inl rfl)
 refine QU Xo Qk ?_ ?_
 refine Qo ?_ ?_
 exact Qb 0
 exact Qe
 exact Qb 1
 exact rfl
 first | exact .inl rfl | exact .inr rfl
 refine Qf ?_ ?_
 refine V4 ?_ ?_ ?_ ?_ ?_ ?_
 exact Qb 0
 exact Qe
 refine QU Qal Qk ?_ ?_
 refine Qo ?_ ?_
 exact Qb 0
 exact Qe
 exact Qb 1
 exact fun _=>rfl
 exact rfl
 exact rfl
 refine Qj ?_
 refine Qu ?_
 exact Qb 2
 exact QK
 refine Qf ?_ ?_
 refine V4 ?_ ?_ ?_ ?_ ?_ ?_
 exact Qb 0
 exact Qe
 refine QU Xo Qk ?_ ?_
 refine QU QQ Qk ?_ ?_
 refine QU VP Qk ?_ ?_
 refine Qo ?_ ?_
 exact Qb 0
 exact Qe
 exact Qe
 exact Qe
 exact Qe
 exact fun _=>rfl
 exact rfl
 exact rfl
 refine Qj ?_
 refine Qu ?_
 refine QU Xo Qk ?_ ?_
 refine QU Qal Qk ?_ ?_
 refine Qo ?_ ?_
 exact Qb 0
 exact Qe
 exact Qe
 exact Qb 1
noncomputable def Qh:FM:=box frN JH
theorem Ym (d:DefAt K mg "_law_take" Jq ["feed","many"]):Cal P w K mg base 1 "_law_take" ["feed","many"] Qh:=(K8 d).box frN
noncomputable abbrev Zd:Stmt:=top 13
theorem sc__law_names:FnScope ["feed","many","letters","filler","first","step","size","place","back"] ["feed","many"] (Qp Zd):=⟨rfl,rfl,rfl,by decide +kernel,rfl,by decide +kernel,by decide +kernel⟩
noncomputable def Jg:FM:=Zo 7
  (QJ (Zi 2 (mC (.str "abcdefghijklmnopqrstuvwxyz")))
  (QJ (Zi 3 (Qm wIx (Qg 2) (Qv 2 Qh (Qc (Qg 0) (Qc (mC (.int 26)) Ql)))))
  (QJ (Vo (QA (Qm wEq (Qv 2 Qh (Qc (Qg 0) (Qc (mC (.int 3)) Ql))) (mC (.int 0)))) (J2 (Zw Vu (Yi (Qc (Qg 1) Ql)) [none,some 3] (Jy 0) XR (Qm Xd (Qg 1) (Qm Vt (Qg 0) (mC (.int 1)))))) ZH)
  (QJ (Zi 4 (Qv 2 Qh (Qc (Qg 0) (Qc (mC (.int 26)) Ql))))
  (QJ (Zi 5 (Qm wIx (mFn Xs (Qc (mC (.int 1)) (Qc (mC (.int 3)) (Qc (mC (.int 5)) (Qc (mC (.int 7)) (Qc (mC (.int 9)) (Qc (mC (.int 11)) Ql))))))) (Qv 2 Qh (Qc (Qg 0) (Qc (mC (.int 6)) Ql)))))
  (QJ (Zi 6 (Qm wIx (mFn Xs (Qc (mC (.int 1)) (Qc (mC (.int 3)) (Qc (mC (.int 4)) (Qc (mC (.int 5)) (Qc (mC (.int 6)) (Qc (mC (.int 7)) (Qc (mC (.int 8)) (Qc (mC (.int 1)) Ql))))))))) (Qv 2 Qh (Qc (Qg 0) (Qc (mC (.int 8)) Ql)))))
  (QJ (Zi 7 (Qv 2 Qh (Qc (Qg 0) (Qc (Qg 6) Ql))))
  (QJ (Zi 8 (Qm Xd (Qg 3) (Qm Gx (Qm Gx (Qg 6) (mC (.int 1))) (Qg 7))))
  (J2 (Zw Vu (Yi (Qc (Qg 1) Ql)) [none,some 8,some 3,some 7,some 2,some 4,some 5] (Jy 0) XR (Qm Vt (Qm Vt (Qm Xd (Qg 2) (Qg 3)) (Qm wIx (Qg 4) (Qm Qas (Qm Vt (Qg 5) (Qm Xd (Qg 6) (Qg 0))) (mC (.int 26))))) (Qg 1))))))))))))
set_option maxHeartbeats 4000000 in
theorem KF (d:DefAt K mg "_law_names" Zd ["feed","many"]) (b_range:mg "range"=none) (c__law_take:Cal P w K mg base 1 "_law_take" ["feed","many"] Qh):Cal P w K mg base 2 "_law_names" ["feed","many"] Jg:=by
 refine Zk (k:=1) (more:=7) d sc__law_names rfl fun f cdv A outer s H E hr=>?_
 have hu:=hr.units
 refine Qf ?_ ?_
 refine Qn ?_ ?_ ?_ ?_ ?_ ?_
 exact sc__law_names.nd
 exact rfl
 exact (Or.inr rfl)
 exact QW
 exact rfl
 first | exact .inl rfl | exact .inr rfl
 refine Qf ?_ ?_
 refine Qn ?_ ?_ ?_ ?_ ?_ ?_
 exact sc__law_names.nd
 exact rfl
 exact (Or.inr rfl)
 refine Qo ?_ ?_
 exact Qb 2
 refine Qi (k:=1) (ps:=["feed","many"]) ?_ ?_ ?_ ?_ ?_ ?_ ?_ ?_
 exact c__law_take
 exact hr.mono (by decide)
 exact rfl
 refine Qa ?_ ?_
 exact Qb 0
 refine Qa ?_ ?_
 exact Qe
 exact Qd
 exact rfl
 decide
 exact rfl
 exact rfl
 exact rfl
 first | exact .inl rfl | exact .inr rfl
 refine Qf ?_ ?_
 refine QT ?_ ?_ ?_
 refine Qr (Q4 ?_) Qk ?_ ?_
 exact hu
 refine Qi (k:=1) (ps:=["feed","many"]) ?_ ?_ ?_ ?_ ?_ ?_ ?_ ?_
 exact c__law_take
 exact hr.mono (by decide)
 exact rfl
 refine Qa ?_ ?_
 exact Qb 0
 refine Qa ?_ ?_
 exact Qe
 exact Qd
 exact rfl
 decide
 exact rfl
 exact rfl
 exact Qe
 refine Qj ?_
 refine Qu ?_
 refine VS JA ?_ (KS (ks:=["filler"]) (Nb:=["k","filler"]) (cp:=[none,some 3]) (N:=["feed","many","letters","filler","first","step","size","place","back"]) (xs:=(Qp Zd)) rfl rfl (by decide +kernel) rfl (by decide +kernel) (by intro p hp;simp only [List.mem_cons,List.not_mem_nil,or_false] at hp;rcases hp with rfl<;>rfl) rfl rfl rfl (by decide +kernel)) ?_ (fun _ _ _ _ _=>?_) (fun _ _ _ _ _=>?_)
 exact rfl
 refine XF ?_ ?_ ?_ ?_
 exact rfl
 exact b_range
 refine Qa ?_ ?_
 exact Qb 1
 exact Qd
 exact rfl
 exact QM (i:=0) (x:="k") (show List.Nodup (["k","filler"]:List Str) from by decide +kernel) rfl (Or.inl rfl)
 refine QU VP Qk ?_ ?_
 exact Qb 1
 refine QU QQ Qk ?_ ?_
 exact Qb 0
 exact Qe
 exact QK
 refine Qf ?_ ?_
 refine Qn ?_ ?_ ?_ ?_ ?_ ?_
 exact sc__law_names.nd
 exact rfl
 exact (Or.inr rfl)
 refine Qi (k:=1) (ps:=["feed","many"]) ?_ ?_ ?_ ?_ ?_ ?_ ?_ ?_
 exact c__law_take
 exact hr.mono (by decide)
 exact rfl
 refine Qa ?_ ?_
 exact Qb 0
 refine Qa ?_ ?_
 exact Qe
 exact Qd
 exact rfl
 decide
 exact rfl
 exact rfl
 exact rfl
 first | exact .inl rfl | exact .inr rfl
 refine Qf ?_ ?_
 refine Qn ?_ ?_ ?_ ?_ ?_ ?_
 exact sc__law_names.nd
 exact rfl
 exact (Or.inr rfl)
 refine Qo ?_ ?_
 refine ZG ?_
 refine Qa ?_ ?_
 exact Qe
 refine Qa ?_ ?_
 exact Qe
 refine Qa ?_ ?_
 exact Qe
 refine Qa ?_ ?_
 exact Qe
 refine Qa ?_ ?_
 exact Qe
 refine Qa ?_ ?_
 exact Qe
 exact Qd
 refine Qi (k:=1) (ps:=["feed","many"]) ?_ ?_ ?_ ?_ ?_ ?_ ?_ ?_
 exact c__law_take
 exact hr.mono (by decide)
 exact rfl
 refine Qa ?_ ?_
 exact Qb 0
 refine Qa ?_ ?_
 exact Qe
 exact Qd
 exact rfl
 decide
 exact rfl
 exact rfl
 exact rfl
 first | exact .inl rfl | exact .inr rfl
 refine Qf ?_ ?_
 refine Qn ?_ ?_ ?_ ?_ ?_ ?_
 exact sc__law_names.nd
 exact rfl
 exact (Or.inl rfl)
 refine Qo ?_ ?_
 refine ZG ?_
 refine Qa ?_ ?_
 exact Qe
 refine Qa ?_ ?_
 exact Qe
 refine Qa ?_ ?_
 exact Qe
 refine Qa ?_ ?_
 exact Qe
 refine Qa ?_ ?_
 exact Qe
 refine Qa ?_ ?_
 exact Qe
 refine Qa ?_ ?_
 exact Qe
 refine Qa ?_ ?_
 exact Qe
 exact Qd
 refine Qi (k:=1) (ps:=["feed","many"]) ?_ ?_ ?_ ?_ ?_ ?_ ?_ ?_
 exact c__law_take
 exact hr.mono (by decide)
 exact rfl
 refine Qa ?_ ?_
 exact Qb 0
 refine Qa ?_ ?_
 exact Qe
 exact Qd
 exact rfl
 decide
 exact rfl
 exact rfl
 exact rfl
 first | exact .inl rfl | exact .inr rfl
 refine Qf ?_ ?_
 refine Qn ?_ ?_ ?_ ?_ ?_ ?_
 exact sc__law_names.nd
 exact rfl
 exact (Or.inr rfl)
 refine Qi (k:=1) (ps:=["feed","many"]) ?_ ?_ ?_ ?_ ?_ ?_ ?_ ?_
 exact c__law_take
 exact hr.mono (by decide)
 exact rfl
 refine Qa ?_ ?_
 exact Qb 0
 refine Qa ?_ ?_
 exact Qb 6
 exact Qd
 exact rfl
 decide
 exact rfl
 exact rfl
 exact rfl
 first | exact .inl rfl | exact .inr rfl
 refine Qf ?_ ?_
 refine Qn ?_ ?_ ?_ ?_ ?_ ?_
 exact sc__law_names.nd
 exact rfl
 exact (Or.inr rfl)
 refine QU VP Qk ?_ ?_
 exact Qb 3
 refine QU Vp Qk ?_ ?_
 refine QU Vp Qk ?_ ?_
 exact Qb 6
 exact Qe
 exact Qb 7
 exact rfl
 first | exact .inl rfl | exact .inr rfl
 refine Qj ?_
 refine Qu ?_
 refine VS JA ?_ (KS (ks:=["step","place","letters","first","filler","back"]) (Nb:=["k","back","filler","place","letters","first","step"]) (cp:=[none,some 8,some 3,some 7,some 2,some 4,some 5]) (N:=["feed","many","letters","filler","first","step","size","place","back"]) (xs:=(Qp Zd)) rfl rfl (by decide +kernel) rfl (by decide +kernel) (by intro p hp;simp only [List.mem_cons,List.not_mem_nil,or_false] at hp;rcases hp with rfl | rfl | rfl | rfl | rfl | rfl<;>rfl) rfl rfl rfl (by decide +kernel)) ?_ (fun _ _ _ _ _=>?_) (fun _ _ _ _ _=>?_)
 exact rfl
 refine XF ?_ ?_ ?_ ?_
 exact rfl
 exact b_range
 refine Qa ?_ ?_
 exact Qb 1
 exact Qd
 exact rfl
 exact QM (i:=0) (x:="k") (show List.Nodup (["k","back","filler","place","letters","first","step"]:List Str) from by decide +kernel) rfl (Or.inl rfl)
 refine QU QQ Qk ?_ ?_
 refine QU QQ Qk ?_ ?_
 refine QU VP Qk ?_ ?_
 exact Qb 2
 exact Qb 3
 refine Qo ?_ ?_
 exact Qb 4
 refine QU Xo Qk ?_ ?_
 refine QU QQ Qk ?_ ?_
 exact Qb 5
 refine QU VP Qk ?_ ?_
 exact Qb 6
 exact Qb 0
 exact Qe
 exact Qb 1
noncomputable def QB:FM:=box frN Jg
theorem Kr (d:DefAt K mg "_law_names" Zd ["feed","many"]) (b_range:mg "range"=none) (c__law_take:Cal P w K mg base 1 "_law_take" ["feed","many"] Qh):Cal P w K mg base 2 "_law_names" ["feed","many"] QB:=(KF d b_range c__law_take).box frN
noncomputable abbrev Zu:Stmt:=top 15
theorem X0:FnScope ["lines","opened"] ["lines","opened"] (Qp Zu):=⟨rfl,rfl,rfl,by decide +kernel,rfl,by decide +kernel,by decide +kernel⟩
noncomputable def ZR:FM:=Zo 0
  (Vo (QA (Qm wEq (Qm wIx (Qg 1) (mUn UQ (mC (.int 1)))) (mC (.str "either")))) (QJ (ZU (mMt "list" QZ (Qg 0) (Qc (mFn Jj (Qc (mC (.str "or")) Ql)) Ql)))
  (Qb3 (Qg 1) (mUn UQ (mC (.int 1))) (mC (.str "or")))) (QJ (ZU (mMt "list" QZ (Qg 0) (Qc (mFn Jj (Qc (mC (.str "end")) Ql)) Ql)))
  (ZU (mMt "list" Qgr (Qg 1) Ql))))
set_option maxHeartbeats 4000000 in
theorem XJ (d:DefAt K mg "_law_step_on" Zu ["lines","opened"]):Cal P w K mg base 1 "_law_step_on" ["lines","opened"] ZR:=by
 refine Zk (k:=0) (more:=0) d X0 rfl fun f cdv A outer s H E hr=>?_
 have hu:=hr.units
 refine Qj ?_
 refine QT ?_ ?_ ?_
 refine Qr (Q4 ?_) Qk ?_ ?_
 exact hu
 refine Qo ?_ ?_
 exact Qb 1
 refine VH ?_
 exact Qe
 exact QW
 refine Qf ?_ ?_
 refine QE ?_
 refine JD PySem.F.plainAttrs_list PySem.F.slot_list_append PySem.F.type_list_append QD ?_ ?_
 exact Qb 0
 refine Qa ?_ ?_
 refine QF ?_
 refine Qa ?_ ?_
 exact QW
 exact Qd
 exact Qd
 refine Qj ?_
 refine V4 ?_ ?_ ?_ ?_ ?_ ?_
 exact Qb 1
 refine VH ?_
 exact Qe
 exact QW
 exact fun _=>rfl
 exact rfl
 exact rfl
 refine Qf ?_ ?_
 refine QE ?_
 refine JD PySem.F.plainAttrs_list PySem.F.slot_list_append PySem.F.type_list_append QD ?_ ?_
 exact Qb 0
 refine Qa ?_ ?_
 refine QF ?_
 refine Qa ?_ ?_
 exact QW
 exact Qd
 exact Qd
 refine Qj ?_
 refine QE ?_
 refine QdU PySem.F.plainAttrs_list PySem.F.slot_list_pop PySem.F.type_list_pop Qbq ?_
 exact Qb 1
noncomputable def Qw:FM:=box frN ZR
theorem XI (d:DefAt K mg "_law_step_on" Zu ["lines","opened"]):Cal P w K mg base 1 "_law_step_on" ["lines","opened"] Qw:=(XJ d).box frN
noncomputable abbrev Z7:Stmt:=top 14
theorem sc__law_plain:FnScope ["feed","boxes","words","way","x","y","z"] ["feed","boxes","words"] (Qp Z7):=⟨rfl,rfl,rfl,by decide +kernel,rfl,by decide +kernel,by decide +kernel⟩
noncomputable def Ji:FM:=Zo 4
  (QJ (Zi 3 (Qv 2 Qh (Qc (Qg 0) (Qc (mC (.int 10)) Ql))))
  (QJ (Zi 4 (Qm wIx (Qg 1) (Qv 2 Qh (Qc (Qg 0) (Qc (mFn JS (Qc (Qg 1) Ql)) Ql)))))
  (QJ (Zi 5 (Qm wIx (Qg 1) (Qv 2 Qh (Qc (Qg 0) (Qc (mFn JS (Qc (Qg 1) Ql)) Ql)))))
  (QJ (Vo (QA (Qm wLt (Qg 3) (mC (.int 4)))) (QJ (Zi 6 (Qm wIx (Qg 1) (Qv 2 Qh (Qc (Qg 0) (Qc (mFn JS (Qc (Qg 1) Ql)) Ql)))))
  (J2 (mFn Jj (Qc (mC (.str "pair")) (Qc (Qg 4) (Qc (Qm wIx (Qg 2) (Qv 2 Qh (Qc (Qg 0) (Qc (mFn JS (Qc (Qg 2) Ql)) Ql)))) (Qc (Qg 5) (Qc (Qg 6) Ql)))))))) ZH)
  (J2 (Qm wIx (mFn Xs (Qc (mFn Jj (Qc (mC (.str "first")) (Qc (Qg 4) (Qc (Qg 5) Ql)))) (Qc (mFn Jj (Qc (mC (.str "second")) (Qc (Qg 4) (Qc (Qg 5) Ql)))) (Qc (mFn Jj (Qc (mC (.str "same")) (Qc (Qg 4) (Qc (Qg 5) Ql)))) (Qc (mFn Jj (Qc (mC (.str "none")) (Qc (Qg 4) Ql))) (Qc (mFn Jj (Qc (mC (.str "tell")) (Qc (Qg 5) Ql))) (Qc (mFn Jj (Qc (mC (.str "tell")) (Qc (Qg 4) Ql))) Ql))))))) (Qm Gx (Qg 3) (mC (.int 4)))))))))
set_option maxHeartbeats 4000000 in
theorem KD (d:DefAt K mg "_law_plain" Z7 ["feed","boxes","words"]) (b_len:mg "len"=none) (c__law_take:Cal P w K mg base 1 "_law_take" ["feed","many"] Qh):Cal P w K mg base 2 "_law_plain" ["feed","boxes","words"] Ji:=by
 refine Zk (k:=1) (more:=4) d sc__law_plain rfl fun f cdv A outer s H E hr=>?_
 have hu:=hr.units
 refine Qf ?_ ?_
 refine Qn ?_ ?_ ?_ ?_ ?_ ?_
 exact sc__law_plain.nd
 exact rfl
 exact (Or.inl rfl)
 refine Qi (k:=1) (ps:=["feed","many"]) ?_ ?_ ?_ ?_ ?_ ?_ ?_ ?_
 exact c__law_take
 exact hr.mono (by decide)
 exact rfl
 refine Qa ?_ ?_
 exact Qb 0
 refine Qa ?_ ?_
 exact Qe
 exact Qd
 exact rfl
 decide
 exact rfl
 exact rfl
 exact rfl
 first | exact .inl rfl | exact .inr rfl
 refine Qf ?_ ?_
 refine Qn ?_ ?_ ?_ ?_ ?_ ?_
 exact sc__law_plain.nd
 exact rfl
 exact (Or.inl rfl)
 refine Qo ?_ ?_
 exact Qb 1
 refine Qi (k:=1) (ps:=["feed","many"]) ?_ ?_ ?_ ?_ ?_ ?_ ?_ ?_
 exact c__law_take
 exact hr.mono (by decide)
 exact rfl
 refine Qa ?_ ?_
 exact Qb 0
 refine Qa ?_ ?_
 refine Qx Qy Qs ?_ ?_ PySem.boot_len ?_ ?_ ?_ ?_ ?_
 exact rfl
 exact b_len
 refine Qa ?_ ?_
 exact Qb 1
 exact Qd
 decide
 decide
 exact rfl
 exact rfl
 exact Qd
 exact rfl
 decide
 exact rfl
 exact rfl
 exact rfl
 first | exact .inl rfl | exact .inr rfl
 refine Qf ?_ ?_
 refine Qn ?_ ?_ ?_ ?_ ?_ ?_
 exact sc__law_plain.nd
 exact rfl
 exact (Or.inl rfl)
 refine Qo ?_ ?_
 exact Qb 1
 refine Qi (k:=1) (ps:=["feed","many"]) ?_ ?_ ?_ ?_ ?_ ?_ ?_ ?_
 exact c__law_take
 exact hr.mono (by decide)
 exact rfl
 refine Qa ?_ ?_
 exact Qb 0
 refine Qa ?_ ?_
 refine Qx Qy Qs ?_ ?_ PySem.boot_len ?_ ?_ ?_ ?_ ?_
 exact rfl
 exact b_len
 refine Qa ?_ ?_
 exact Qb 1
 exact Qd
 decide
 decide
 exact rfl
 exact rfl
 exact Qd
 exact rfl
 decide
 exact rfl
 exact rfl
 exact rfl
 first | exact .inl rfl | exact .inr rfl
 refine Qf ?_ ?_
 refine QT ?_ ?_ ?_
 refine Qr Wx Qk ?_ ?_
 exact Qb 3
 exact Qe
 refine Qf ?_ ?_
 refine Qn ?_ ?_ ?_ ?_ ?_ ?_
 exact sc__law_plain.nd
 exact rfl
 exact (Or.inl rfl)
 refine Qo ?_ ?_
 exact Qb 1
 refine Qi (k:=1) (ps:=["feed","many"]) ?_ ?_ ?_ ?_ ?_ ?_ ?_ ?_
 exact c__law_take
 exact hr.mono (by decide)
 exact rfl
 refine Qa ?_ ?_
 exact Qb 0
 refine Qa ?_ ?_
 refine Qx Qy Qs ?_ ?_ PySem.boot_len ?_ ?_ ?_ ?_ ?_
 exact rfl
 exact b_len
 refine Qa ?_ ?_
 exact Qb 1
 exact Qd
 decide
 decide
 exact rfl
 exact rfl
 exact Qd
 exact rfl
 decide
 exact rfl
 exact rfl
 exact rfl
 first | exact .inl rfl | exact .inr rfl
 refine Qj ?_
 refine Qu ?_
 refine QF ?_
 refine Qa ?_ ?_
 exact QW
 refine Qa ?_ ?_
 exact Qb 4
 refine Qa ?_ ?_
 refine Qo ?_ ?_
 exact Qb 2
 refine Qi (k:=1) (ps:=["feed","many"]) ?_ ?_ ?_ ?_ ?_ ?_ ?_ ?_
 exact c__law_take
 exact hr.mono (by decide)
 exact rfl
 refine Qa ?_ ?_
 exact Qb 0
 refine Qa ?_ ?_
 refine Qx Qy Qs ?_ ?_ PySem.boot_len ?_ ?_ ?_ ?_ ?_
 exact rfl
 exact b_len
 refine Qa ?_ ?_
 exact Qb 2
 exact Qd
 decide
 decide
 exact rfl
 exact rfl
 exact Qd
 exact rfl
 decide
 exact rfl
 exact rfl
 refine Qa ?_ ?_
 exact Qb 5
 refine Qa ?_ ?_
 exact Qb 6
 exact Qd
 exact QK
 refine Qj ?_
 refine Qu ?_
 refine Qo ?_ ?_
 refine ZG ?_
 refine Qa ?_ ?_
 refine QF ?_
 refine Qa ?_ ?_
 exact QW
 refine Qa ?_ ?_
 exact Qb 4
 refine Qa ?_ ?_
 exact Qb 5
 exact Qd
 refine Qa ?_ ?_
 refine QF ?_
 refine Qa ?_ ?_
 exact QW
 refine Qa ?_ ?_
 exact Qb 4
 refine Qa ?_ ?_
 exact Qb 5
 exact Qd
 refine Qa ?_ ?_
 refine QF ?_
 refine Qa ?_ ?_
 exact QW
 refine Qa ?_ ?_
 exact Qb 4
 refine Qa ?_ ?_
 exact Qb 5
 exact Qd
 refine Qa ?_ ?_
 refine QF ?_
 refine Qa ?_ ?_
 exact QW
 refine Qa ?_ ?_
 exact Qb 4
 exact Qd
 refine Qa ?_ ?_
 refine QF ?_
 refine Qa ?_ ?_
 exact QW
 refine Qa ?_ ?_
 exact Qb 5
 exact Qd
 refine Qa ?_ ?_
 refine QF ?_
 refine Qa ?_ ?_
 exact QW
 refine Qa ?_ ?_
 exact Qb 4
 exact Qd
 exact Qd
 refine QU Vp Qk ?_ ?_
 exact Qb 3
 exact Qe
noncomputable def QC:FM:=box frN Ji
theorem Ku (d:DefAt K mg "_law_plain" Z7 ["feed","boxes","words"]) (b_len:mg "len"=none) (c__law_take:Cal P w K mg base 1 "_law_take" ["feed","many"] Qh):Cal P w K mg base 2 "_law_plain" ["feed","boxes","words"] QC:=(KD d b_len c__law_take).box frN
noncomputable abbrev Ju:Stmt:=top 16
theorem sc__law_part:FnScope ["feed","size","menus","later","opens","dos","lines","opened","k","way"] ["feed","size","menus","later","opens","dos"] (Qp Ju):=⟨rfl,rfl,rfl,by decide +kernel,rfl,by decide +kernel,by decide +kernel⟩
noncomputable abbrev Jf:SM:=(QJ (Zi 9 (Qv 2 Qh (Qc (Qg 0) (Qc (mC (.int 14)) Ql))))
  (Vo (Vc (QA (Qm wLt (Qg 9) (mC (.int 3)))) (QA (Qm wGt (Qg 4) (mC (.int 0))))) (QJ (ZU (mMt "list" QZ (Qg 7) (Qc (Qm wIx (mFn Xs (Qc (mC (.str "either")) (Qc (mC (.str "again")) (Qc (mC (.str "either")) Ql)))) (Qg 9)) Ql)))
  (QJ (ZU (mMt "list" QZ (Qg 6) (Qc (mFn Jj (Qc (Qm wIx (Qg 7) (mUn UQ (mC (.int 1)))) Ql)) Ql)))
  (Zi 4 (Qm Gx (Qg 4) (mC (.int 1)))))) (Vo (Vc (QA (Qm wLt (Qg 9) (mC (.int 6)))) (QA (Qm wGt (mFn JS (Qc (Qg 7) Ql)) (mC (.int 0))))) (ZU (Qv 2 Qw (Qc (Qg 6) (Qc (Qg 7) Ql)))) (Vo (Vc (QA (Qm (wIn false) (Qg 9) (mFn Xs (Qc (mC (.int 6)) (Qc (mC (.int 7)) Ql))))) (Vc (QA (Qm wGt (Qg 5) (mC (.int 0)))) (QA (Qm wGt (mFn JS (Qc (Qg 3) Ql)) (mC (.int 0)))))) (QJ (ZU (mMt "list" QZ (Qg 6) (Qc (mFn Jj (Qc (mC (.str "do")) (Qc (Qm wIx (Qg 3) (Qv 2 Qh (Qc (Qg 0) (Qc (mFn JS (Qc (Qg 3) Ql)) Ql)))) Ql))) Ql)))
  (Zi 5 (Qm Gx (Qg 5) (mC (.int 1))))) (ZU (mMt "list" QZ (Qg 6) (Qc (Qv 3 QC (Qc (Qg 0) (Qc (Qm wIx (Qg 2) (mC (.int 0))) (Qc (Qm wIx (Qg 2) (mC (.int 1))) Ql)))) Ql)))))))
noncomputable abbrev VU:SM:=(ZU (Qv 2 Qw (Qc (Qg 6) (Qc (Qg 7) Ql))))
noncomputable def Vr:FM:=Zo 4
  (QJ (Zi 6 (mFn Ky Ql))
  (QJ (Zi 7 (mFn Ky Ql))
  (QJ (VM (Yi (Qc (Qg 1) Ql)) (Jy 8)
  Jf)
  (QJ (Q0 (QA (Qm wGt (mFn JS (Qc (Qg 7) Ql)) (mC (.int 0)))) VU 1000000)
  (J2 (mFn VW (Qc (Qg 6) Ql)))))))
set_option maxHeartbeats 4000000 in
theorem K3 (d:DefAt K mg "_law_part" Ju ["feed","size","menus","later","opens","dos"]) (b_len:mg "len"=none) (b_range:mg "range"=none) (b_tuple:mg "tuple"=none) (c__law_plain:Cal P w K mg base 2 "_law_plain" ["feed","boxes","words"] QC) (c__law_step_on:Cal P w K mg base 1 "_law_step_on" ["lines","opened"] Qw) (c__law_take:Cal P w K mg base 1 "_law_take" ["feed","many"] Qh):Cal P w K mg base 3 "_law_part" ["feed","size","menus","later","opens","dos"] Vr:=by
 refine Zk (k:=2) (more:=4) d sc__law_part rfl fun f cdv A outer s H E hr=>?_
 have hu:=hr.units
 refine Qf ?_ ?_
 refine Qn ?_ ?_ ?_ ?_ ?_ ?_
 exact sc__law_part.nd
 exact rfl
 exact (Or.inl rfl)
 refine Jo ?_
 exact Qd
 exact rfl
 first | exact .inl rfl | exact .inr rfl
 refine Qf ?_ ?_
 refine Qn ?_ ?_ ?_ ?_ ?_ ?_
 exact sc__law_part.nd
 exact rfl
 exact (Or.inl rfl)
 refine Jo ?_
 exact Qd
 exact rfl
 first | exact .inl rfl | exact .inr rfl
 refine Qf ?_ ?_
 refine ZS ?_ ?_ ?_ ?_ ?_ ?_
 exact PassesOwn.never
 exact rfl
 refine XF ?_ ?_ ?_ ?_
 exact rfl
 exact b_range
 refine Qa ?_ ?_
 exact Qb 1
 exact Qd
 exact rfl
 exact QM (i:=8) (x:="k") sc__law_part.nd rfl (Or.inl rfl)
 refine Qf ?_ ?_
 refine Qn ?_ ?_ ?_ ?_ ?_ ?_
 exact sc__law_part.nd
 exact rfl
 exact (Or.inl rfl)
 refine Qi (k:=1) (ps:=["feed","many"]) ?_ ?_ ?_ ?_ ?_ ?_ ?_ ?_
 exact c__law_take
 exact hr.mono (by decide)
 exact rfl
 refine Qa ?_ ?_
 exact Qb 0
 refine Qa ?_ ?_
 exact Qe
 exact Qd
 exact rfl
 decide
 exact rfl
 exact rfl
 exact rfl
 first | exact .inl rfl | exact .inr rfl
 refine Qj ?_
 refine QT ?_ ?_ ?_
 refine PMW.pt ?_
 refine JB ?_ ?_
 refine Qr Wx Qk ?_ ?_
 exact Qb 9
 exact Qe
 refine Jh ?_
 refine Qr Vn Qk ?_ ?_
 exact Qb 4
 exact Qe
 refine Qf ?_ ?_
 refine QE ?_
 refine JD PySem.F.plainAttrs_list PySem.F.slot_list_append PySem.F.type_list_append QD ?_ ?_
 exact Qb 7
 refine Qa ?_ ?_
 refine Qo ?_ ?_
 refine ZG ?_
 refine Qa ?_ ?_
 exact QW
 refine Qa ?_ ?_
 exact QW
 refine Qa ?_ ?_
 exact QW
 exact Qd
 exact Qb 9
 exact Qd
 refine Qf ?_ ?_
 refine QE ?_
 refine JD PySem.F.plainAttrs_list PySem.F.slot_list_append PySem.F.type_list_append QD ?_ ?_
 exact Qb 6
 refine Qa ?_ ?_
 refine QF ?_
 refine Qa ?_ ?_
 refine Qo ?_ ?_
 exact Qb 7
 refine VH ?_
 exact Qe
 exact Qd
 exact Qd
 refine Qj ?_
 refine Qn ?_ ?_ ?_ ?_ ?_ ?_
 exact sc__law_part.nd
 exact rfl
 exact (Or.inl rfl)
 refine QU Vp Qk ?_ ?_
 exact Qb 4
 exact Qe
 exact rfl
 first | exact .inl rfl | exact .inr rfl
 refine Qj ?_
 refine QT ?_ ?_ ?_
 refine PMW.pt ?_
 refine JB ?_ ?_
 refine Qr Wx Qk ?_ ?_
 exact Qb 9
 exact Qe
 refine Jh ?_
 refine Qr Vn Qk ?_ ?_
 refine Qx Qy Qs ?_ ?_ PySem.boot_len ?_ ?_ ?_ ?_ ?_
 exact rfl
 exact b_len
 refine Qa ?_ ?_
 exact Qb 7
 exact Qd
 decide
 decide
 exact rfl
 exact rfl
 exact Qe
 refine Qj ?_
 refine QE ?_
 refine Qi (k:=1) (ps:=["lines","opened"]) ?_ ?_ ?_ ?_ ?_ ?_ ?_ ?_
 exact c__law_step_on
 exact hr.mono (by decide)
 exact rfl
 refine Qa ?_ ?_
 exact Qb 6
 refine Qa ?_ ?_
 exact Qb 7
 exact Qd
 exact rfl
 decide
 exact rfl
 exact rfl
 refine Qj ?_
 refine QT ?_ ?_ ?_
 refine PMW.pt ?_
 refine JB ?_ ?_
 refine Qr (QgJ ?_) Qk ?_ ?_
 exact hu
 exact Qb 9
 refine ZG ?_
 refine Qa ?_ ?_
 exact Qe
 refine Qa ?_ ?_
 exact Qe
 exact Qd
 refine JB ?_ ?_
 refine Qr Vn Qk ?_ ?_
 exact Qb 5
 exact Qe
 refine Jh ?_
 refine Qr Vn Qk ?_ ?_
 refine Qx Qy Qs ?_ ?_ PySem.boot_len ?_ ?_ ?_ ?_ ?_
 exact rfl
 exact b_len
 refine Qa ?_ ?_
 exact Qb 3
 exact Qd
 decide
 decide
 exact rfl
 exact rfl
 exact Qe
 refine Qf ?_ ?_
 refine QE ?_
 refine JD PySem.F.plainAttrs_list PySem.F.slot_list_append PySem.F.type_list_append QD ?_ ?_
 exact Qb 6
 refine Qa ?_ ?_
 refine QF ?_
 refine Qa ?_ ?_
 exact QW
 refine Qa ?_ ?_
 refine Qo ?_ ?_
 exact Qb 3
 refine Qi (k:=1) (ps:=["feed","many"]) ?_ ?_ ?_ ?_ ?_ ?_ ?_ ?_
 exact c__law_take
 exact hr.mono (by decide)
 exact rfl
 refine Qa ?_ ?_
 exact Qb 0
 refine Qa ?_ ?_
 refine Qx Qy Qs ?_ ?_ PySem.boot_len ?_ ?_ ?_ ?_ ?_
 exact rfl
 exact b_len
 refine Qa ?_ ?_
 exact Qb 3
 exact Qd
 decide
 decide
 exact rfl
 exact rfl
 exact Qd
 exact rfl
 decide
 exact rfl
 exact rfl
 exact Qd
 exact Qd
 refine Qj ?_
 refine Qn ?_ ?_ ?_ ?_ ?_ ?_
 exact sc__law_part.nd
 exact rfl
 exact (Or.inl rfl)
 refine QU Vp Qk ?_ ?_
 exact Qb 5
 exact Qe
 exact rfl
 first | exact .inl rfl | exact .inr rfl
 refine Qj ?_
 refine QE ?_
 refine JD PySem.F.plainAttrs_list PySem.F.slot_list_append PySem.F.type_list_append QD ?_ ?_
 exact Qb 6
 refine Qa ?_ ?_
 refine Qi (k:=2) (ps:=["feed","boxes","words"]) ?_ ?_ ?_ ?_ ?_ ?_ ?_ ?_
 exact c__law_plain
 exact hr.mono (by decide)
 exact rfl
 refine Qa ?_ ?_
 exact Qb 0
 refine Qa ?_ ?_
 refine Qo ?_ ?_
 exact Qb 2
 exact Qe
 refine Qa ?_ ?_
 refine Qo ?_ ?_
 exact Qb 2
 exact Qe
 exact Qd
 exact rfl
 decide
 exact rfl
 exact rfl
 exact Qd
 exact fun _=>rfl
 refine Qf ?_ ?_
 refine Kp 1000000 ?_ ?_ ?_
 exact PassesOwn.never
 refine Qr Vn Qk ?_ ?_
 refine Qx Qy Qs ?_ ?_ PySem.boot_len ?_ ?_ ?_ ?_ ?_
 exact rfl
 exact b_len
 refine Qa ?_ ?_
 exact Qb 7
 exact Qd
 decide
 decide
 exact rfl
 exact rfl
 exact Qe
 refine Qj ?_
 refine QE ?_
 refine Qi (k:=1) (ps:=["lines","opened"]) ?_ ?_ ?_ ?_ ?_ ?_ ?_ ?_
 exact c__law_step_on
 exact hr.mono (by decide)
 exact rfl
 refine Qa ?_ ?_
 exact Qb 6
 refine Qa ?_ ?_
 exact Qb 7
 exact Qd
 exact rfl
 decide
 exact rfl
 exact rfl
 refine Qj ?_
 refine Qu ?_
 refine Jp Jc Qs ?_ ?_ PyProof.Rows.boot_tuple ?_ ?_ ?_ ?_ ?_
 exact rfl
 exact b_tuple
 refine Qa ?_ ?_
 exact Qb 6
 exact Qd
 decide
 decide
 exact rfl
 exact rfl
noncomputable def QS:FM:=box frN Vr
theorem YR (d:DefAt K mg "_law_part" Ju ["feed","size","menus","later","opens","dos"]) (b_len:mg "len"=none) (b_range:mg "range"=none) (b_tuple:mg "tuple"=none) (c__law_plain:Cal P w K mg base 2 "_law_plain" ["feed","boxes","words"] QC) (c__law_step_on:Cal P w K mg base 1 "_law_step_on" ["lines","opened"] Qw) (c__law_take:Cal P w K mg base 1 "_law_take" ["feed","many"] Qh):Cal P w K mg base 3 "_law_part" ["feed","size","menus","later","opens","dos"] QS:=(K3 d b_len b_range b_tuple c__law_plain c__law_step_on c__law_take).box frN
noncomputable abbrev Zq:Stmt:=top 17
theorem sc__law_program:FnScope ["feed","bounds","menus","names","size","found","k"] ["feed","bounds"] (Qp Zq):=⟨rfl,rfl,rfl,by decide +kernel,rfl,by decide +kernel,by decide +kernel⟩
noncomputable abbrev Vk:SM:=(ZU (mMt "list" QZ (Qg 5) (Qc (mFn Jj (Qc (Qm wIx (Qg 3) (Qg 6)) (Qc (Qv 6 QS (Qc (Qg 0) (Qc (Qv 2 Qh (Qc (Qg 0) (Qc (mC (.int 4)) Ql))) (Qc (Qg 2) (Qc (mSl (Qg 3) (Kf (Qm Vt (Qg 6) (mC (.int 1)))) W0) (Qc (mC (.int 1)) (Qc (mC (.int 1)) Ql))))))) Ql))) Ql)))
noncomputable def JF:FM:=Zo 5
  (QJ (Zi 2 (mFn Jj (Qc (Qv 2 QB (Qc (Qg 0) (Qc (Qm Vt (mC (.int 1)) (Qv 2 Qh (Qc (Qg 0) (Qc (Qm wIx (Qg 1) (mC (.int 0))) Ql)))) Ql))) (Qc (Qv 2 QB (Qc (Qg 0) (Qc (Qm Vt (mC (.int 1)) (Qv 2 Qh (Qc (Qg 0) (Qc (Qm wIx (Qg 1) (mC (.int 1))) Ql)))) Ql))) Ql))))
  (QJ (Zi 3 (Qv 2 QB (Qc (Qg 0) (Qc (Qm Vt (mC (.int 1)) (Qv 2 Qh (Qc (Qg 0) (Qc (Qm wIx (Qg 1) (mC (.int 2))) Ql)))) Ql))))
  (QJ (Zi 4 (Qm Gx (Qm wIx (Qg 1) (mC (.int 3))) (Qv 2 Qh (Qc (Qg 0) (Qc (mC (.int 3)) Ql)))))
  (QJ (Vo (QA (Qm wEq (Qv 2 Qh (Qc (Qg 0) (Qc (mC (.int 4)) Ql))) (mC (.int 0)))) (Zi 4 (Qv 2 Qh (Qc (Qg 0) (Qc (Qm Vt (Qg 4) (mC (.int 1))) Ql)))) ZH)
  (QJ (Zi 5 (mFn Ky (Qc (mFn Jj (Qc (Qm wIx (Qg 3) (mC (.int 0))) (Qc (Qv 6 QS (Qc (Qg 0) (Qc (Qg 4) (Qc (Qg 2) (Qc (mSl (Qg 3) (Kf (mC (.int 1))) W0) (Qc (mC (.int 2)) (Qc (mC (.int 2)) Ql))))))) Ql))) Ql)))
  (QJ (VM (QhV (Qc (mC (.int 1)) (Qc (mFn JS (Qc (Qg 3) Ql)) Ql))) (Jy 6)
  Vk)
  (J2 (mFn VW (Qc (Qg 5) Ql)))))))))
set_option maxHeartbeats 4000000 in
theorem XH (d:DefAt K mg "_law_program" Zq ["feed","bounds"]) (b_len:mg "len"=none) (b_range:mg "range"=none) (b_tuple:mg "tuple"=none) (c__law_names:Cal P w K mg base 2 "_law_names" ["feed","many"] QB) (c__law_part:Cal P w K mg base 3 "_law_part" ["feed","size","menus","later","opens","dos"] QS) (c__law_take:Cal P w K mg base 1 "_law_take" ["feed","many"] Qh):Cal P w K mg base 4 "_law_program" ["feed","bounds"] JF:=by
 refine Zk (k:=3) (more:=5) d sc__law_program rfl fun f cdv A outer s H E hr=>?_
 have hu:=hr.units
 refine Qf ?_ ?_
 refine Qn ?_ ?_ ?_ ?_ ?_ ?_
 exact sc__law_program.nd
 exact rfl
 exact (Or.inl rfl)
 refine QF ?_
 refine Qa ?_ ?_
 refine Qi (k:=2) (ps:=["feed","many"]) ?_ ?_ ?_ ?_ ?_ ?_ ?_ ?_
 exact c__law_names
 exact hr.mono (by decide)
 exact rfl
 refine Qa ?_ ?_
 exact Qb 0
 refine Qa ?_ ?_
 refine QU QQ Qk ?_ ?_
 exact Qe
 refine Qi (k:=1) (ps:=["feed","many"]) ?_ ?_ ?_ ?_ ?_ ?_ ?_ ?_
 exact c__law_take
 exact hr.mono (by decide)
 exact rfl
 refine Qa ?_ ?_
 exact Qb 0
 refine Qa ?_ ?_
 refine Qo ?_ ?_
 exact Qb 1
 exact Qe
 exact Qd
 exact rfl
 decide
 exact rfl
 exact rfl
 exact Qd
 exact rfl
 decide
 exact rfl
 exact rfl
 refine Qa ?_ ?_
 refine Qi (k:=2) (ps:=["feed","many"]) ?_ ?_ ?_ ?_ ?_ ?_ ?_ ?_
 exact c__law_names
 exact hr.mono (by decide)
 exact rfl
 refine Qa ?_ ?_
 exact Qb 0
 refine Qa ?_ ?_
 refine QU QQ Qk ?_ ?_
 exact Qe
 refine Qi (k:=1) (ps:=["feed","many"]) ?_ ?_ ?_ ?_ ?_ ?_ ?_ ?_
 exact c__law_take
 exact hr.mono (by decide)
 exact rfl
 refine Qa ?_ ?_
 exact Qb 0
 refine Qa ?_ ?_
 refine Qo ?_ ?_
 exact Qb 1
 exact Qe
 exact Qd
 exact rfl
 decide
 exact rfl
 exact rfl
 exact Qd
 exact rfl
 decide
 exact rfl
 exact rfl
 exact Qd
 exact rfl
 first | exact .inl rfl | exact .inr rfl
 refine Qf ?_ ?_
 refine Qn ?_ ?_ ?_ ?_ ?_ ?_
 exact sc__law_program.nd
 exact rfl
 exact (Or.inl rfl)
 refine Qi (k:=2) (ps:=["feed","many"]) ?_ ?_ ?_ ?_ ?_ ?_ ?_ ?_
 exact c__law_names
 exact hr.mono (by decide)
 exact rfl
 refine Qa ?_ ?_
 exact Qb 0
 refine Qa ?_ ?_
 refine QU QQ Qk ?_ ?_
 exact Qe
 refine Qi (k:=1) (ps:=["feed","many"]) ?_ ?_ ?_ ?_ ?_ ?_ ?_ ?_
 exact c__law_take
 exact hr.mono (by decide)
 exact rfl
 refine Qa ?_ ?_
 exact Qb 0
 refine Qa ?_ ?_
 refine Qo ?_ ?_
 exact Qb 1
 exact Qe
 exact Qd
 exact rfl
 decide
 exact rfl
 exact rfl
 exact Qd
 exact rfl
 decide
 exact rfl
 exact rfl
 exact rfl
 first | exact .inl rfl | exact .inr rfl
 refine Qf ?_ ?_
 refine Qn ?_ ?_ ?_ ?_ ?_ ?_
 exact sc__law_program.nd
 exact rfl
 exact (Or.inl rfl)
 refine QU Vp Qk ?_ ?_
 refine Qo ?_ ?_
 exact Qb 1
 exact Qe
 refine Qi (k:=1) (ps:=["feed","many"]) ?_ ?_ ?_ ?_ ?_ ?_ ?_ ?_
 exact c__law_take
 exact hr.mono (by decide)
 exact rfl
 refine Qa ?_ ?_
 exact Qb 0
 refine Qa ?_ ?_
 exact Qe
 exact Qd
 exact rfl
 decide
 exact rfl
 exact rfl
 exact rfl
 first | exact .inl rfl | exact .inr rfl
 refine Qf ?_ ?_
 refine QT ?_ ?_ ?_
 refine Qr (Q4 ?_) Qk ?_ ?_
 exact hu
 refine Qi (k:=1) (ps:=["feed","many"]) ?_ ?_ ?_ ?_ ?_ ?_ ?_ ?_
 exact c__law_take
 exact hr.mono (by decide)
 exact rfl
 refine Qa ?_ ?_
 exact Qb 0
 refine Qa ?_ ?_
 exact Qe
 exact Qd
 exact rfl
 decide
 exact rfl
 exact rfl
 exact Qe
 refine Qj ?_
 refine Qn ?_ ?_ ?_ ?_ ?_ ?_
 exact sc__law_program.nd
 exact rfl
 exact (Or.inl rfl)
 refine Qi (k:=1) (ps:=["feed","many"]) ?_ ?_ ?_ ?_ ?_ ?_ ?_ ?_
 exact c__law_take
 exact hr.mono (by decide)
 exact rfl
 refine Qa ?_ ?_
 exact Qb 0
 refine Qa ?_ ?_
 refine QU QQ Qk ?_ ?_
 exact Qb 4
 exact Qe
 exact Qd
 exact rfl
 decide
 exact rfl
 exact rfl
 exact rfl
 first | exact .inl rfl | exact .inr rfl
 exact QK
 refine Qf ?_ ?_
 refine Qn ?_ ?_ ?_ ?_ ?_ ?_
 exact sc__law_program.nd
 exact rfl
 exact (Or.inl rfl)
 refine Jo ?_
 refine Qa ?_ ?_
 refine QF ?_
 refine Qa ?_ ?_
 refine Qo ?_ ?_
 exact Qb 3
 exact Qe
 refine Qa ?_ ?_
 refine Qi (k:=3) (ps:=["feed","size","menus","later","opens","dos"]) ?_ ?_ ?_ ?_ ?_ ?_ ?_ ?_
 exact c__law_part
 exact hr.mono (by decide)
 exact rfl
 refine Qa ?_ ?_
 exact Qb 0
 refine Qa ?_ ?_
 exact Qb 4
 refine Qa ?_ ?_
 exact Qb 2
 refine Qa ?_ ?_
 refine Xl ?_ ?_ ?_
 exact Qb 3
 refine VQ ?_
 exact Qe
 exact XL
 refine Qa ?_ ?_
 exact Qe
 refine Qa ?_ ?_
 exact Qe
 exact Qd
 exact rfl
 decide
 exact rfl
 exact rfl
 exact Qd
 exact Qd
 exact rfl
 first | exact .inl rfl | exact .inr rfl
 refine Qf ?_ ?_
 refine ZS ?_ ?_ ?_ ?_ ?_ ?_
 exact PassesOwn.never
 exact rfl
 refine Qhh ?_ ?_ ?_ ?_ ?_
 exact rfl
 exact b_range
 refine Qa ?_ ?_
 exact Qe
 refine Qa ?_ ?_
 refine Qx Qy Qs ?_ ?_ PySem.boot_len ?_ ?_ ?_ ?_ ?_
 exact rfl
 exact b_len
 refine Qa ?_ ?_
 exact Qb 3
 exact Qd
 decide
 decide
 exact rfl
 exact rfl
 exact Qd
 exact rfl
 exact rfl
 exact QM (i:=6) (x:="k") sc__law_program.nd rfl (Or.inl rfl)
 refine Qj ?_
 refine QE ?_
 refine JD PySem.F.plainAttrs_list PySem.F.slot_list_append PySem.F.type_list_append QD ?_ ?_
 exact Qb 5
 refine Qa ?_ ?_
 refine QF ?_
 refine Qa ?_ ?_
 refine Qo ?_ ?_
 exact Qb 3
 exact Qb 6
 refine Qa ?_ ?_
 refine Qi (k:=3) (ps:=["feed","size","menus","later","opens","dos"]) ?_ ?_ ?_ ?_ ?_ ?_ ?_ ?_
 exact c__law_part
 exact hr.mono (by decide)
 exact rfl
 refine Qa ?_ ?_
 exact Qb 0
 refine Qa ?_ ?_
 refine Qi (k:=1) (ps:=["feed","many"]) ?_ ?_ ?_ ?_ ?_ ?_ ?_ ?_
 exact c__law_take
 exact hr.mono (by decide)
 exact rfl
 refine Qa ?_ ?_
 exact Qb 0
 refine Qa ?_ ?_
 exact Qe
 exact Qd
 exact rfl
 decide
 exact rfl
 exact rfl
 refine Qa ?_ ?_
 exact Qb 2
 refine Qa ?_ ?_
 refine Xl ?_ ?_ ?_
 exact Qb 3
 refine VQ ?_
 refine QU QQ Qk ?_ ?_
 exact Qb 6
 exact Qe
 exact XL
 refine Qa ?_ ?_
 exact Qe
 refine Qa ?_ ?_
 exact Qe
 exact Qd
 exact rfl
 decide
 exact rfl
 exact rfl
 exact Qd
 exact Qd
 exact fun _=>rfl
 refine Qj ?_
 refine Qu ?_
 refine Jp Jc Qs ?_ ?_ PyProof.Rows.boot_tuple ?_ ?_ ?_ ?_ ?_
 exact rfl
 exact b_tuple
 refine Qa ?_ ?_
 exact Qb 5
 exact Qd
 decide
 decide
 exact rfl
 exact rfl
noncomputable def Q8:FM:=box frN JF
theorem XG (d:DefAt K mg "_law_program" Zq ["feed","bounds"]) (b_len:mg "len"=none) (b_range:mg "range"=none) (b_tuple:mg "tuple"=none) (c__law_names:Cal P w K mg base 2 "_law_names" ["feed","many"] QB) (c__law_part:Cal P w K mg base 3 "_law_part" ["feed","size","menus","later","opens","dos"] QS) (c__law_take:Cal P w K mg base 1 "_law_take" ["feed","many"] Qh):Cal P w K mg base 4 "_law_program" ["feed","bounds"] Q8:=(XH d b_len b_range b_tuple c__law_names c__law_part c__law_take).box frN
noncomputable abbrev Zc:Stmt:=top 18
theorem sc__law_great:FnScope ["feed","menus","names","way","lines","small","many","opened","k"] ["feed"] (Qp Zc):=⟨rfl,rfl,rfl,by decide +kernel,rfl,by decide +kernel,by decide +kernel⟩
noncomputable abbrev Z2:SM:=(QJ (ZU (mMt "list" QZ (Qg 4) (Qc (Qv 3 QC (Qc (Qg 0) (Qc (Qm wIx (Qg 1) (mC (.int 0))) (Qc (Qm wIx (Qg 1) (mC (.int 1))) Ql)))) Ql)))
  (QJ (ZU (mMt "list" QZ (Qg 7) (Qc (Qm wIx (mFn Xs (Qc (mC (.str "either")) (Qc (mC (.str "again")) Ql))) (Qv 2 Qh (Qc (Qg 0) (Qc (mC (.int 2)) Ql)))) Ql)))
  (ZU (mMt "list" QZ (Qg 4) (Qc (mFn Jj (Qc (Qm wIx (Qg 7) (mUn UQ (mC (.int 1)))) Ql)) Ql)))))
noncomputable abbrev JR:SM:=(QJ (ZU (mMt "list" QZ (Qg 4) (Qc (Qv 3 QC (Qc (Qg 0) (Qc (Qm wIx (Qg 1) (mC (.int 0))) (Qc (Qm wIx (Qg 1) (mC (.int 1))) Ql)))) Ql)))
  (ZU (Qv 2 Qw (Qc (Qg 4) (Qc (Qg 7) Ql)))))
noncomputable def Z3:SM:=(QJ (Vo (QA (Qm wEq (Qg 3) (mC (.int 0)))) (QJ (Zi 4 (Zw Qev (Yi (Qc (Qm Vt (mC (.int 40)) (Qv 2 Qh (Qc (Qg 0) (Qc (mC (.int 9)) Ql)))) Ql)) [none,some 0,some 1] (Jy 0) XR (Qv 3 QC (Qc (Qg 1) (Qc (Qm wIx (Qg 2) (mC (.int 0))) (Qc (Qm wIx (Qg 2) (mC (.int 1))) Ql))))))
  (J2 (mFn Jj (Qc (mFn Jj (Qc (Qm wIx (Qg 2) (mC (.int 0))) (Qc (mFn VW (Qc (Qg 4) Ql)) Ql))) Ql)))) ZH)
  (QJ (Vo (QA (Qm wEq (Qg 3) (mC (.int 1)))) (QJ (Zi 5 (Qv 6 QS (Qc (Qg 0) (Qc (Qv 2 Qh (Qc (Qg 0) (Qc (mC (.int 2)) Ql))) (Qc (Qg 1) (Qc (mFn Xs Ql) (Qc (mC (.int 0)) (Qc (mC (.int 0)) Ql))))))))
  (QJ (Zi 6 (Qm Vt (mC (.int 20)) (Qv 2 Qh (Qc (Qg 0) (Qc (mC (.int 4)) Ql)))))
  (J2 (mFn Jj (Qc (mFn Jj (Qc (Qm wIx (Qg 2) (mC (.int 0))) (Qc (mFn VW (Qc (Zw Vu (Yi (Qc (Qg 6) Ql)) [none,some 2] (Jy 0) XR (mFn Jj (Qc (mC (.str "do")) (Qc (Qm wIx (Qg 1) (mC (.int 1))) Ql)))) Ql)) Ql))) (Qc (mFn Jj (Qc (Qm wIx (Qg 2) (mC (.int 1))) (Qc (Qg 5) Ql))) Ql)))))) ZH)
  (QJ (Zi 4 (mFn Ky Ql))
  (QJ (Zi 7 (mFn Ky Ql))
  (QJ (VM (Yi (Qc (mC (.int 6)) Ql)) (Jy 8)
  Z2)
  (QJ (Q0 (QA (Qm wGt (mFn JS (Qc (Qg 7) Ql)) (mC (.int 0)))) JR 1000000)
  (J2 (mFn VW (Qc (Qm Vt (mFn Xs (Qc (mFn Jj (Qc (Qm wIx (Qg 2) (mC (.int 0))) (Qc (mFn VW (Qc (Qg 4) Ql)) Ql))) Ql)) (Zw Vu (QY (mSl (Qg 2) (Kf (mC (.int 1))) W0)) [none] (Jy 0) XR (mFn Jj (Qc (Qg 0) (Qc (mFn Jj Ql) Ql))))) Ql)))))))))
noncomputable def Jl:FM:=Zo 8
  (QJ (Zi 1 (mFn Jj (Qc (Qv 2 QB (Qc (Qg 0) (Qc (mC (.int 5)) Ql))) (Qc (Qv 2 QB (Qc (Qg 0) (Qc (mC (.int 5)) Ql))) Ql))))
  (QJ (Zi 2 (Qv 2 QB (Qc (Qg 0) (Qc (mC (.int 5)) Ql))))
  (QJ (Zi 3 (Qv 2 Qh (Qc (Qg 0) (Qc (mC (.int 3)) Ql))))
  Z3)))
set_option maxHeartbeats 4000000 in
theorem Kv (d:DefAt K mg "_law_great" Zc ["feed"]) (b_len:mg "len"=none) (b_range:mg "range"=none) (b_tuple:mg "tuple"=none) (c__law_names:Cal P w K mg base 2 "_law_names" ["feed","many"] QB) (c__law_part:Cal P w K mg base 3 "_law_part" ["feed","size","menus","later","opens","dos"] QS) (c__law_plain:Cal P w K mg base 2 "_law_plain" ["feed","boxes","words"] QC) (c__law_step_on:Cal P w K mg base 1 "_law_step_on" ["lines","opened"] Qw) (c__law_take:Cal P w K mg base 1 "_law_take" ["feed","many"] Qh):Cal P w K mg base 4 "_law_great" ["feed"] Jl:=by
 refine Zk (k:=3) (more:=8) d sc__law_great rfl fun f cdv A outer s H E hr=>?_
 have hu:=hr.units
 refine Qf ?_ ?_
 refine Qn ?_ ?_ ?_ ?_ ?_ ?_
 exact sc__law_great.nd
 exact rfl
 exact (Or.inr rfl)
 refine QF ?_
 refine Qa ?_ ?_
 refine Qi (k:=2) (ps:=["feed","many"]) ?_ ?_ ?_ ?_ ?_ ?_ ?_ ?_
 exact c__law_names
 exact hr.mono (by decide)
 exact rfl
 refine Qa ?_ ?_
 exact Qb 0
 refine Qa ?_ ?_
 exact Qe
 exact Qd
 exact rfl
 decide
 exact rfl
 exact rfl
 refine Qa ?_ ?_
 refine Qi (k:=2) (ps:=["feed","many"]) ?_ ?_ ?_ ?_ ?_ ?_ ?_ ?_
 exact c__law_names
 exact hr.mono (by decide)
 exact rfl
 refine Qa ?_ ?_
 exact Qb 0
 refine Qa ?_ ?_
 exact Qe
 exact Qd
 exact rfl
 decide
 exact rfl
 exact rfl
 exact Qd
 exact rfl
 first | exact .inl rfl | exact .inr rfl
 refine Qf ?_ ?_
 refine Qn ?_ ?_ ?_ ?_ ?_ ?_
 exact sc__law_great.nd
 exact rfl
 exact (Or.inr rfl)
 refine Qi (k:=2) (ps:=["feed","many"]) ?_ ?_ ?_ ?_ ?_ ?_ ?_ ?_
 exact c__law_names
 exact hr.mono (by decide)
 exact rfl
 refine Qa ?_ ?_
 exact Qb 0
 refine Qa ?_ ?_
 exact Qe
 exact Qd
 exact rfl
 decide
 exact rfl
 exact rfl
 exact rfl
 first | exact .inl rfl | exact .inr rfl
 refine Qf ?_ ?_
 refine Qn ?_ ?_ ?_ ?_ ?_ ?_
 exact sc__law_great.nd
 exact rfl
 exact (Or.inl rfl)
 refine Qi (k:=1) (ps:=["feed","many"]) ?_ ?_ ?_ ?_ ?_ ?_ ?_ ?_
 exact c__law_take
 exact hr.mono (by decide)
 exact rfl
 refine Qa ?_ ?_
 exact Qb 0
 refine Qa ?_ ?_
 exact Qe
 exact Qd
 exact rfl
 decide
 exact rfl
 exact rfl
 exact rfl
 first | exact .inl rfl | exact .inr rfl
 refine Qf ?_ ?_
 refine QT ?_ ?_ ?_
 refine Qr (Q4 ?_) Qk ?_ ?_
 exact hu
 exact Qb 3
 exact Qe
 refine Qf ?_ ?_
 refine Xb sc__law_great.nd rfl (Or.inl rfl) ?_ QaN ?_ (KS (ks:=["menus","feed"]) (Nb:=["k","feed","menus"]) (cp:=[none,some 0,some 1]) (N:=["feed","menus","names","way","lines","small","many","opened","k"]) (xs:=(Qp Zc)) rfl rfl (by decide +kernel) rfl (by decide +kernel) (by intro p hp;simp only [List.mem_cons,List.not_mem_nil,or_false] at hp;rcases hp with rfl | rfl<;>rfl) rfl rfl rfl (by decide +kernel)) ?_ (fun _ _ _ _ _=>?_) (fun _ _ _ _ _=>?_) ?_ ?_
 first | exact .inl rfl | exact .inr rfl
 exact rfl
 refine XF ?_ ?_ ?_ ?_
 exact rfl
 exact b_range
 refine Qa ?_ ?_
 refine QU QQ Qk ?_ ?_
 exact Qe
 refine Qi (k:=1) (ps:=["feed","many"]) ?_ ?_ ?_ ?_ ?_ ?_ ?_ ?_
 exact c__law_take
 exact hr.mono (by decide)
 exact rfl
 refine Qa ?_ ?_
 exact Qb 0
 refine Qa ?_ ?_
 exact Qe
 exact Qd
 exact rfl
 decide
 exact rfl
 exact rfl
 exact Qd
 exact rfl
 exact QM (i:=0) (x:="k") (show List.Nodup (["k","feed","menus"]:List Str) from by decide +kernel) rfl (Or.inl rfl)
 refine Qi (k:=2) (ps:=["feed","boxes","words"]) ?_ ?_ ?_ ?_ ?_ ?_ ?_ ?_
 exact c__law_plain
 exact hr.mono (by decide)
 exact rfl
 refine Qa ?_ ?_
 exact Qb 1
 refine Qa ?_ ?_
 refine Qo ?_ ?_
 exact Qb 2
 exact Qe
 refine Qa ?_ ?_
 refine Qo ?_ ?_
 exact Qb 2
 exact Qe
 exact Qd
 exact rfl
 decide
 exact rfl
 exact rfl
 exact fun _=>rfl
 exact rfl
 refine Qj ?_
 refine Qu ?_
 refine QF ?_
 refine Qa ?_ ?_
 refine QF ?_
 refine Qa ?_ ?_
 refine Qo ?_ ?_
 exact Qb 2
 exact Qe
 refine Qa ?_ ?_
 refine Jp Jc Qs ?_ ?_ PyProof.Rows.boot_tuple ?_ ?_ ?_ ?_ ?_
 exact rfl
 exact b_tuple
 refine Qa ?_ ?_
 exact Qb 4
 exact Qd
 decide
 decide
 exact rfl
 exact rfl
 exact Qd
 exact Qd
 exact QK
 refine Qf ?_ ?_
 refine QT ?_ ?_ ?_
 refine Qr (Q4 ?_) Qk ?_ ?_
 exact hu
 exact Qb 3
 exact Qe
 refine Qf ?_ ?_
 refine Qn ?_ ?_ ?_ ?_ ?_ ?_
 exact sc__law_great.nd
 exact rfl
 exact (Or.inl rfl)
 refine Qi (k:=3) (ps:=["feed","size","menus","later","opens","dos"]) ?_ ?_ ?_ ?_ ?_ ?_ ?_ ?_
 exact c__law_part
 exact hr.mono (by decide)
 exact rfl
 refine Qa ?_ ?_
 exact Qb 0
 refine Qa ?_ ?_
 refine Qi (k:=1) (ps:=["feed","many"]) ?_ ?_ ?_ ?_ ?_ ?_ ?_ ?_
 exact c__law_take
 exact hr.mono (by decide)
 exact rfl
 refine Qa ?_ ?_
 exact Qb 0
 refine Qa ?_ ?_
 exact Qe
 exact Qd
 exact rfl
 decide
 exact rfl
 exact rfl
 refine Qa ?_ ?_
 exact Qb 1
 refine Qa ?_ ?_
 refine ZG ?_
 exact Qd
 refine Qa ?_ ?_
 exact Qe
 refine Qa ?_ ?_
 exact Qe
 exact Qd
 exact rfl
 decide
 exact rfl
 exact rfl
 exact rfl
 first | exact .inl rfl | exact .inr rfl
 refine Qf ?_ ?_
 refine Qn ?_ ?_ ?_ ?_ ?_ ?_
 exact sc__law_great.nd
 exact rfl
 exact (Or.inl rfl)
 refine QU QQ Qk ?_ ?_
 exact Qe
 refine Qi (k:=1) (ps:=["feed","many"]) ?_ ?_ ?_ ?_ ?_ ?_ ?_ ?_
 exact c__law_take
 exact hr.mono (by decide)
 exact rfl
 refine Qa ?_ ?_
 exact Qb 0
 refine Qa ?_ ?_
 exact Qe
 exact Qd
 exact rfl
 decide
 exact rfl
 exact rfl
 exact rfl
 first | exact .inl rfl | exact .inr rfl
 refine Qj ?_
 refine Qu ?_
 refine QF ?_
 refine Qa ?_ ?_
 refine QF ?_
 refine Qa ?_ ?_
 refine Qo ?_ ?_
 exact Qb 2
 exact Qe
 refine Qa ?_ ?_
 refine Jp Jc Qs ?_ ?_ PyProof.Rows.boot_tuple ?_ ?_ ?_ ?_ ?_
 exact rfl
 exact b_tuple
 refine Qa ?_ ?_
 refine VS JA ?_ (KS (ks:=["names"]) (Nb:=["k","names"]) (cp:=[none,some 2]) (N:=["feed","menus","names","way","lines","small","many","opened","k"]) (xs:=(Qp Zc)) rfl rfl (by decide +kernel) rfl (by decide +kernel) (by intro p hp;simp only [List.mem_cons,List.not_mem_nil,or_false] at hp;rcases hp with rfl<;>rfl) rfl rfl rfl (by decide +kernel)) ?_ (fun _ _ _ _ _=>?_) (fun _ _ _ _ _=>?_)
 exact rfl
 refine XF ?_ ?_ ?_ ?_
 exact rfl
 exact b_range
 refine Qa ?_ ?_
 exact Qb 6
 exact Qd
 exact rfl
 exact QM (i:=0) (x:="k") (show List.Nodup (["k","names"]:List Str) from by decide +kernel) rfl (Or.inl rfl)
 refine QF ?_
 refine Qa ?_ ?_
 exact QW
 refine Qa ?_ ?_
 refine Qo ?_ ?_
 exact Qb 1
 exact Qe
 exact Qd
 exact Qd
 decide
 decide
 exact rfl
 exact rfl
 exact Qd
 refine Qa ?_ ?_
 refine QF ?_
 refine Qa ?_ ?_
 refine Qo ?_ ?_
 exact Qb 2
 exact Qe
 refine Qa ?_ ?_
 exact Qb 5
 exact Qd
 exact Qd
 exact QK
 refine Qf ?_ ?_
 refine Qn ?_ ?_ ?_ ?_ ?_ ?_
 exact sc__law_great.nd
 exact rfl
 exact (Or.inl rfl)
 refine Jo ?_
 exact Qd
 exact rfl
 first | exact .inl rfl | exact .inr rfl
 refine Qf ?_ ?_
 refine Qn ?_ ?_ ?_ ?_ ?_ ?_
 exact sc__law_great.nd
 exact rfl
 exact (Or.inl rfl)
 refine Jo ?_
 exact Qd
 exact rfl
 first | exact .inl rfl | exact .inr rfl
 refine Qf ?_ ?_
 refine ZS ?_ ?_ ?_ ?_ ?_ ?_
 exact PassesOwn.never
 exact rfl
 refine XF ?_ ?_ ?_ ?_
 exact rfl
 exact b_range
 refine Qa ?_ ?_
 exact Qe
 exact Qd
 exact rfl
 exact QM (i:=8) (x:="k") sc__law_great.nd rfl (Or.inl rfl)
 refine Qf ?_ ?_
 refine QE ?_
 refine JD PySem.F.plainAttrs_list PySem.F.slot_list_append PySem.F.type_list_append QD ?_ ?_
 exact Qb 4
 refine Qa ?_ ?_
 refine Qi (k:=2) (ps:=["feed","boxes","words"]) ?_ ?_ ?_ ?_ ?_ ?_ ?_ ?_
 exact c__law_plain
 exact hr.mono (by decide)
 exact rfl
 refine Qa ?_ ?_
 exact Qb 0
 refine Qa ?_ ?_
 refine Qo ?_ ?_
 exact Qb 1
 exact Qe
 refine Qa ?_ ?_
 refine Qo ?_ ?_
 exact Qb 1
 exact Qe
 exact Qd
 exact rfl
 decide
 exact rfl
 exact rfl
 exact Qd
 refine Qf ?_ ?_
 refine QE ?_
 refine JD PySem.F.plainAttrs_list PySem.F.slot_list_append PySem.F.type_list_append QD ?_ ?_
 exact Qb 7
 refine Qa ?_ ?_
 refine Qo ?_ ?_
 refine ZG ?_
 refine Qa ?_ ?_
 exact QW
 refine Qa ?_ ?_
 exact QW
 exact Qd
 refine Qi (k:=1) (ps:=["feed","many"]) ?_ ?_ ?_ ?_ ?_ ?_ ?_ ?_
 exact c__law_take
 exact hr.mono (by decide)
 exact rfl
 refine Qa ?_ ?_
 exact Qb 0
 refine Qa ?_ ?_
 exact Qe
 exact Qd
 exact rfl
 decide
 exact rfl
 exact rfl
 exact Qd
 refine Qj ?_
 refine QE ?_
 refine JD PySem.F.plainAttrs_list PySem.F.slot_list_append PySem.F.type_list_append QD ?_ ?_
 exact Qb 4
 refine Qa ?_ ?_
 refine QF ?_
 refine Qa ?_ ?_
 refine Qo ?_ ?_
 exact Qb 7
 refine VH ?_
 exact Qe
 exact Qd
 exact Qd
 exact fun _=>rfl
 refine Qf ?_ ?_
 refine Kp 1000000 ?_ ?_ ?_
 exact PassesOwn.never
 refine Qr Vn Qk ?_ ?_
 refine Qx Qy Qs ?_ ?_ PySem.boot_len ?_ ?_ ?_ ?_ ?_
 exact rfl
 exact b_len
 refine Qa ?_ ?_
 exact Qb 7
 exact Qd
 decide
 decide
 exact rfl
 exact rfl
 exact Qe
 refine Qf ?_ ?_
 refine QE ?_
 refine JD PySem.F.plainAttrs_list PySem.F.slot_list_append PySem.F.type_list_append QD ?_ ?_
 exact Qb 4
 refine Qa ?_ ?_
 refine Qi (k:=2) (ps:=["feed","boxes","words"]) ?_ ?_ ?_ ?_ ?_ ?_ ?_ ?_
 exact c__law_plain
 exact hr.mono (by decide)
 exact rfl
 refine Qa ?_ ?_
 exact Qb 0
 refine Qa ?_ ?_
 refine Qo ?_ ?_
 exact Qb 1
 exact Qe
 refine Qa ?_ ?_
 refine Qo ?_ ?_
 exact Qb 1
 exact Qe
 exact Qd
 exact rfl
 decide
 exact rfl
 exact rfl
 exact Qd
 refine Qj ?_
 refine QE ?_
 refine Qi (k:=1) (ps:=["lines","opened"]) ?_ ?_ ?_ ?_ ?_ ?_ ?_ ?_
 exact c__law_step_on
 exact hr.mono (by decide)
 exact rfl
 refine Qa ?_ ?_
 exact Qb 4
 refine Qa ?_ ?_
 exact Qb 7
 exact Qd
 exact rfl
 decide
 exact rfl
 exact rfl
 refine Qj ?_
 refine Qu ?_
 refine Jp Jc Qs ?_ ?_ PyProof.Rows.boot_tuple ?_ ?_ ?_ ?_ ?_
 exact rfl
 exact b_tuple
 refine Qa ?_ ?_
 refine QU QQ Qk ?_ ?_
 refine ZG ?_
 refine Qa ?_ ?_
 refine QF ?_
 refine Qa ?_ ?_
 refine Qo ?_ ?_
 exact Qb 2
 exact Qe
 refine Qa ?_ ?_
 refine Jp Jc Qs ?_ ?_ PyProof.Rows.boot_tuple ?_ ?_ ?_ ?_ ?_
 exact rfl
 exact b_tuple
 refine Qa ?_ ?_
 exact Qb 4
 exact Qd
 decide
 decide
 exact rfl
 exact rfl
 exact Qd
 exact Qd
 refine VS JA ?_ (Jn (Nb:=["name"]) (cp:=[none]) rfl (by decide +kernel) (by decide +kernel) rfl rfl) ?_ (fun _ _ _ _ _=>?_) (fun _ _ _ _ _=>?_)
 exact rfl
 refine Zs ?_
 refine Xl ?_ ?_ ?_
 exact Qb 2
 refine VQ ?_
 exact Qe
 exact XL
 exact QM (i:=0) (x:="name") (show List.Nodup (["name"]:List Str) from by decide +kernel) rfl (Or.inl rfl)
 refine QF ?_
 refine Qa ?_ ?_
 exact Qb 0
 refine Qa ?_ ?_
 refine QF ?_
 exact Qd
 exact Qd
 exact Qd
 decide
 decide
 exact rfl
 exact rfl
noncomputable def ZA:FM:=box frN Jl
theorem KA (d:DefAt K mg "_law_great" Zc ["feed"]) (b_len:mg "len"=none) (b_range:mg "range"=none) (b_tuple:mg "tuple"=none) (c__law_names:Cal P w K mg base 2 "_law_names" ["feed","many"] QB) (c__law_part:Cal P w K mg base 3 "_law_part" ["feed","size","menus","later","opens","dos"] QS) (c__law_plain:Cal P w K mg base 2 "_law_plain" ["feed","boxes","words"] QC) (c__law_step_on:Cal P w K mg base 1 "_law_step_on" ["lines","opened"] Qw) (c__law_take:Cal P w K mg base 1 "_law_take" ["feed","many"] Qh):Cal P w K mg base 4 "_law_great" ["feed"] ZA:=(Kv d b_len b_range b_tuple c__law_names c__law_part c__law_plain c__law_step_on c__law_take).box frN
noncomputable abbrev JT:Stmt:=top 19
theorem W5:FnScope ["feed","bounds"] ["feed","bounds"] (Qp JT):=⟨rfl,rfl,rfl,by decide +kernel,rfl,by decide +kernel,by decide +kernel⟩
noncomputable def J0:FM:=Zo 0
  (QJ (Vo (QA (Qm wEq (Qv 2 Qh (Qc (Qg 0) (Qc (mC (.int 8)) Ql))) (mC (.int 5)))) (J2 (Qv 1 ZA (Qc (Qg 0) Ql))) ZH)
  (J2 (Qv 2 Q8 (Qc (Qg 0) (Qc (Qg 1) Ql)))))
set_option maxHeartbeats 4000000 in
theorem Wf (d:DefAt K mg "_law_any" JT ["feed","bounds"]) (c__law_great:Cal P w K mg base 4 "_law_great" ["feed"] ZA) (c__law_program:Cal P w K mg base 4 "_law_program" ["feed","bounds"] Q8) (c__law_take:Cal P w K mg base 1 "_law_take" ["feed","many"] Qh):Cal P w K mg base 5 "_law_any" ["feed","bounds"] J0:=by
 refine Zk (k:=4) (more:=0) d W5 rfl fun f cdv A outer s H E hr=>?_
 have hu:=hr.units
 refine Qf ?_ ?_
 refine QT ?_ ?_ ?_
 refine Qr (Q4 ?_) Qk ?_ ?_
 exact hu
 refine Qi (k:=1) (ps:=["feed","many"]) ?_ ?_ ?_ ?_ ?_ ?_ ?_ ?_
 exact c__law_take
 exact hr.mono (by decide)
 exact rfl
 refine Qa ?_ ?_
 exact Qb 0
 refine Qa ?_ ?_
 exact Qe
 exact Qd
 exact rfl
 decide
 exact rfl
 exact rfl
 exact Qe
 refine Qj ?_
 refine Qu ?_
 refine Qi (k:=4) (ps:=["feed"]) ?_ ?_ ?_ ?_ ?_ ?_ ?_ ?_
 exact c__law_great
 exact hr.mono (by decide)
 exact rfl
 refine Qa ?_ ?_
 exact Qb 0
 exact Qd
 exact rfl
 decide
 exact rfl
 exact rfl
 exact QK
 refine Qj ?_
 refine Qu ?_
 refine Qi (k:=4) (ps:=["feed","bounds"]) ?_ ?_ ?_ ?_ ?_ ?_ ?_ ?_
 exact c__law_program
 exact hr.mono (by decide)
 exact rfl
 refine Qa ?_ ?_
 exact Qb 0
 refine Qa ?_ ?_
 exact Qb 1
 exact Qd
 exact rfl
 decide
 exact rfl
 exact rfl
noncomputable def JM:FM:=box frN J0
theorem WF (d:DefAt K mg "_law_any" JT ["feed","bounds"]) (c__law_great:Cal P w K mg base 4 "_law_great" ["feed"] ZA) (c__law_program:Cal P w K mg base 4 "_law_program" ["feed","bounds"] Q8) (c__law_take:Cal P w K mg base 1 "_law_take" ["feed","many"] Qh):Cal P w K mg base 5 "_law_any" ["feed","bounds"] JM:=(Wf d c__law_great c__law_program c__law_take).box frN
noncomputable abbrev Jx:Stmt:=top 11
theorem sc__law_feed:FnScope ["script","k","cell","digits"] ["script","k"] (Qp Jx):=⟨rfl,rfl,rfl,by decide +kernel,rfl,by decide +kernel,by decide +kernel⟩
noncomputable def Z9:FM:=Zo 2
  (QJ (Zi 2 (mC (.int 0)))
  (QJ (Vo (QA (Qm wLt (Qg 1) (mFn JS (Qc (Qg 0) Ql)))) (Zi 2 (Qm wIx (Qg 0) (Qg 1))) ZH)
  (QJ (Zi 3 (mC (.int 0)))
  (QJ (Vo (QA (Qm wGe (Qg 2) (Qm QeJ (mC (.int 10)) (mC (.int 18))))) (Zi 3 (Qm Gx (Qg 2) (Qm QeJ (mC (.int 10)) (mC (.int 18))))) ZH)
  (J2 (mFn Ky (Qc (Qg 3) (Qc (Qm Vt (Qm Qas (Qm Xd (Qm Qas (Qg 2) (mC (.int 2147483647))) (mC (.int 48271))) (mC (.int 2147483647))) (Qg 1)) Ql))))))))
set_option maxHeartbeats 4000000 in
theorem Yr (d:DefAt K mg "_law_feed" Jx ["script","k"]) (b_len:mg "len"=none):Cal P w K mg base 1 "_law_feed" ["script","k"] Z9:=by
 refine Zk (k:=0) (more:=2) d sc__law_feed rfl fun f cdv A outer s H E hr=>?_
 have hu:=hr.units
 refine Qf ?_ ?_
 refine Qn ?_ ?_ ?_ ?_ ?_ ?_
 exact sc__law_feed.nd
 exact rfl
 exact (Or.inl rfl)
 exact Qe
 exact rfl
 first | exact .inl rfl | exact .inr rfl
 refine Qf ?_ ?_
 refine QT ?_ ?_ ?_
 refine Qr Wx Qk ?_ ?_
 exact Qb 1
 refine Qx Qy Qs ?_ ?_ PySem.boot_len ?_ ?_ ?_ ?_ ?_
 exact rfl
 exact b_len
 refine Qa ?_ ?_
 exact Qb 0
 exact Qd
 decide
 decide
 exact rfl
 exact rfl
 refine Qj ?_
 refine Qn ?_ ?_ ?_ ?_ ?_ ?_
 exact sc__law_feed.nd
 exact rfl
 exact (Or.inl rfl)
 refine Qo ?_ ?_
 exact Qb 0
 exact Qb 1
 exact rfl
 first | exact .inl rfl | exact .inr rfl
 exact QK
 refine Qf ?_ ?_
 refine Qn ?_ ?_ ?_ ?_ ?_ ?_
 exact sc__law_feed.nd
 exact rfl
 exact (Or.inl rfl)
 exact Qe
 exact rfl
 first | exact .inl rfl | exact .inr rfl
 refine Qf ?_ ?_
 refine QT ?_ ?_ ?_
 refine Qr Qg5 Qk ?_ ?_
 exact Qb 2
 refine QU QaZ Qk ?_ ?_
 exact Qe
 exact Qe
 refine Qj ?_
 refine Qn ?_ ?_ ?_ ?_ ?_ ?_
 exact sc__law_feed.nd
 exact rfl
 exact (Or.inl rfl)
 refine QU Vp Qk ?_ ?_
 exact Qb 2
 refine QU QaZ Qk ?_ ?_
 exact Qe
 exact Qe
 exact rfl
 first | exact .inl rfl | exact .inr rfl
 exact QK
 refine Qj ?_
 refine Qu ?_
 refine Jo ?_
 refine Qa ?_ ?_
 exact Qb 3
 refine Qa ?_ ?_
 refine QU QQ Qk ?_ ?_
 refine QU Xo Qk ?_ ?_
 refine QU VP Qk ?_ ?_
 refine QU Xo Qk ?_ ?_
 exact Qb 2
 exact Qe
 exact Qe
 exact Qe
 exact Qb 1
 exact Qd
noncomputable def Zb:FM:=box frR Z9
theorem YG (d:DefAt K mg "_law_feed" Jx ["script","k"]) (b_len:mg "len"=none):Cal P w K mg base 1 "_law_feed" ["script","k"] Zb:=(Yr d b_len).box frR
noncomputable abbrev Z1:Stmt:=top 22
theorem sc__law_words:FnScope ["program","found","name","lines"] ["program"] (Qp Z1):=⟨rfl,rfl,rfl,by decide +kernel,rfl,by decide +kernel,by decide +kernel⟩
noncomputable abbrev VB:SM:=(ZU (mMt "list" Kb (Qg 1) (Qc (Zw Vu (QY (Qg 3)) [none] (Jy 0) (QA (Qm wEq (Qm wIx (Qg 0) (mC (.int 0))) (mC (.str "pair")))) (Qm wIx (Qg 0) (mC (.int 2)))) Ql)))
noncomputable def Vb:FM:=Zo 3
  (QJ (Zi 1 (mFn Ky Ql))
  (QJ (VM (QY (Qg 0)) (Va [2,3])
  VB)
  (J2 (mFn VE (Qc (Qg 1) Ql)))))
set_option maxHeartbeats 4000000 in
theorem Kt (d:DefAt K mg "_law_words" Z1 ["program"]) (b_set:mg "set"=none) (b_sorted:mg "sorted"=none):Cal P w K mg base 1 "_law_words" ["program"] Vb:=by
 refine Zk (k:=0) (more:=3) d sc__law_words rfl fun f cdv A outer s H E hr=>?_
 have hu:=hr.units
 refine Qf ?_ ?_
 refine Qn ?_ ?_ ?_ ?_ ?_ ?_
 exact sc__law_words.nd
 exact rfl
 exact (Or.inl rfl)
 refine Jo ?_
 exact Qd
 exact rfl
 first | exact .inl rfl | exact .inr rfl
 refine Qf ?_ ?_
 refine ZS ?_ ?_ ?_ ?_ ?_ ?_
 exact PassesOwn.never
 exact rfl
 refine Zs ?_
 exact Qb 0
 refine J3 (is:=[2,3]) ?_ ?_ ?_ ?_
 exact rfl
 refine QO (i:=2) (x:="name") sc__law_words.nd rfl (Or.inl rfl) ?_ ?_
 refine QO (i:=3) (x:="lines") sc__law_words.nd rfl (Or.inl rfl) ?_ ?_
 exact J5
 first | exact .inl rfl | exact .inr rfl
 first | exact .inl rfl | exact .inr rfl
 exact rfl
 exact rfl
 refine Qj ?_
 refine QE ?_
 refine JD PySem.F.plainAttrs_list PySem.F.slot_list_extend PySem.F.type_list_extend KP ?_ ?_
 exact Qb 1
 refine Qa ?_ ?_
 refine Yl JA ?_ (Jn (Nb:=["line"]) (cp:=[none]) rfl (by decide +kernel) (by decide +kernel) rfl rfl) ?_ (fun _ _ _ _ _=>?_) (fun _ _ _ _ _=>?_) (fun _ _ _ _ _=>?_)
 exact rfl
 refine Zs ?_
 exact Qb 3
 exact QM (i:=0) (x:="line") (show List.Nodup (["line"]:List Str) from by decide +kernel) rfl (Or.inl rfl)
 refine Qr (Q4 ?_) Qk ?_ ?_
 exact hu
 refine Qo ?_ ?_
 exact Qb 0
 exact Qe
 exact QW
 refine Qo ?_ ?_
 exact Qb 0
 exact Qe
 exact Qd
 exact fun _=>rfl
 refine Qj ?_
 refine Qu ?_
 refine Wo ?_ ?_ ?_ ?_ ?_ ?_ ?_
 exact rfl
 exact rfl
 exact b_sorted
 exact rfl
 exact b_set
 exact Qb 1
 exact rfl
noncomputable def ZC:FM:=box frN Vb
theorem KC (d:DefAt K mg "_law_words" Z1 ["program"]) (b_set:mg "set"=none) (b_sorted:mg "sorted"=none):Cal P w K mg base 1 "_law_words" ["program"] ZC:=(Kt d b_set b_sorted).box frN
noncomputable abbrev Zn:Stmt:=top 23
theorem sc__law_manner:FnScope ["program","feed","places","number","part","words","way","one","found","word","place"] ["program","feed"] (Qp Zn):=⟨rfl,rfl,rfl,by decide +kernel,rfl,by decide +kernel,by decide +kernel⟩
noncomputable abbrev JE:SM:=(ZU (mMt "list" Kb (Qg 2) (Qc (Zw Vu (Yi (Qc (Qm Vt (mFn JS (Qc (Qm wIx (Qg 4) (mC (.int 1))) Ql)) (mC (.int 1))) Ql)) [none,some 3] (Jy 0) XR (mFn Jj (Qc (Qg 1) (Qc (Qg 0) Ql)))) Ql)))
noncomputable abbrev ZO:SM:=(Vo (GB (Vc (QA (Qm wEq (Qg 6) (mC (.int 0)))) (QA (Qm wEq (Qg 10) (Qg 7)))) (Vc (QA (Qm wGt (Qg 6) (mC (.int 1)))) (QA (Qm wEq (Qv 2 Qh (Qc (Qg 1) (Qc (Qm Vt (mC (.int 2)) (Qg 6)) Ql))) (mC (.int 0)))))) (ZU (mMt "list" QZ (Qg 8) (Qc (mFn Jj (Qc (Qg 9) (Qc (Qg 10) Ql))) Ql))) ZH)
noncomputable abbrev Vs:SM:=(VM (QY (Qg 2)) (Jy 10)
  ZO)
noncomputable def JL:FM:=Zo 9
  (QJ (Zi 2 (mFn Ky Ql))
  (QJ (VM (UP (Qc (Qg 0) Ql)) (Va [3,4])
  JE)
  (QJ (Zi 5 (Qv 1 ZC (Qc (Qg 0) Ql)))
  (QJ (Zi 6 (Qv 2 Qh (Qc (Qg 1) (Qc (mC (.int 6)) Ql))))
  (QJ (Zi 7 (Qm wIx (Qg 2) (Qv 2 Qh (Qc (Qg 1) (Qc (mFn JS (Qc (Qg 2) Ql)) Ql)))))
  (QJ (Zi 8 (mFn Ky Ql))
  (QJ (VM (QY (Qg 5)) (Jy 9)
  Vs)
  (J2 (Qg 8)))))))))
set_option maxHeartbeats 4000000 in
theorem Kl (d:DefAt K mg "_law_manner" Zn ["program","feed"]) (b_enumerate:mg "enumerate"=none) (b_len:mg "len"=none) (b_range:mg "range"=none) (c__law_take:Cal P w K mg base 1 "_law_take" ["feed","many"] Qh) (c__law_words:Cal P w K mg base 1 "_law_words" ["program"] ZC):Cal P w K mg base 2 "_law_manner" ["program","feed"] JL:=by
 refine Zk (k:=1) (more:=9) d sc__law_manner rfl fun f cdv A outer s H E hr=>?_
 have hu:=hr.units
 refine Qf ?_ ?_
 refine Qn ?_ ?_ ?_ ?_ ?_ ?_
 exact sc__law_manner.nd
 exact rfl
 exact (Or.inl rfl)
 refine Jo ?_
 exact Qd
 exact rfl
 first | exact .inl rfl | exact .inr rfl
 refine Qf ?_ ?_
 refine ZS ?_ ?_ ?_ ?_ ?_ ?_
 exact PassesOwn.never
 exact rfl
 refine QcT ?_ ?_ ?_ ?_
 exact rfl
 exact b_enumerate
 refine Qa ?_ ?_
 exact Qb 0
 exact Qd
 exact rfl
 refine J3 (is:=[3,4]) ?_ ?_ ?_ ?_
 exact rfl
 refine QO (i:=3) (x:="number") sc__law_manner.nd rfl (Or.inr rfl) ?_ ?_
 refine QO (i:=4) (x:="part") sc__law_manner.nd rfl (Or.inl rfl) ?_ ?_
 exact J5
 first | exact .inl rfl | exact .inr rfl
 first | exact .inl rfl | exact .inr rfl
 exact rfl
 exact rfl
 refine Qj ?_
 refine QE ?_
 refine JD PySem.F.plainAttrs_list PySem.F.slot_list_extend PySem.F.type_list_extend KP ?_ ?_
 exact Qb 2
 refine Qa ?_ ?_
 refine VS JA ?_ (KS (ks:=["number"]) (Nb:=["gap","number"]) (cp:=[none,some 3]) (N:=["program","feed","places","number","part","words","way","one","found","word","place"]) (xs:=(Qp Zn)) rfl rfl (by decide +kernel) rfl (by decide +kernel) (by intro p hp;simp only [List.mem_cons,List.not_mem_nil,or_false] at hp;rcases hp with rfl<;>rfl) rfl rfl rfl (by decide +kernel)) ?_ (fun _ _ _ _ _=>?_) (fun _ _ _ _ _=>?_)
 exact rfl
 refine XF ?_ ?_ ?_ ?_
 exact rfl
 exact b_range
 refine Qa ?_ ?_
 refine QU QQ Qk ?_ ?_
 refine Qx Qy Qs ?_ ?_ PySem.boot_len ?_ ?_ ?_ ?_ ?_
 exact rfl
 exact b_len
 refine Qa ?_ ?_
 refine Qo ?_ ?_
 exact Qb 4
 exact Qe
 exact Qd
 decide
 decide
 exact rfl
 exact rfl
 exact Qe
 exact Qd
 exact rfl
 exact QM (i:=0) (x:="gap") (show List.Nodup (["gap","number"]:List Str) from by decide +kernel) rfl (Or.inl rfl)
 refine QF ?_
 refine Qa ?_ ?_
 exact Qb 1
 refine Qa ?_ ?_
 exact Qb 0
 exact Qd
 exact Qd
 exact fun _=>rfl
 refine Qf ?_ ?_
 refine Qn ?_ ?_ ?_ ?_ ?_ ?_
 exact sc__law_manner.nd
 exact rfl
 exact (Or.inl rfl)
 refine Qi (k:=1) (ps:=["program"]) ?_ ?_ ?_ ?_ ?_ ?_ ?_ ?_
 exact c__law_words
 exact hr.mono (by decide)
 exact rfl
 refine Qa ?_ ?_
 exact Qb 0
 exact Qd
 exact rfl
 decide
 exact rfl
 exact rfl
 exact rfl
 first | exact .inl rfl | exact .inr rfl
 refine Qf ?_ ?_
 refine Qn ?_ ?_ ?_ ?_ ?_ ?_
 exact sc__law_manner.nd
 exact rfl
 exact (Or.inl rfl)
 refine Qi (k:=1) (ps:=["feed","many"]) ?_ ?_ ?_ ?_ ?_ ?_ ?_ ?_
 exact c__law_take
 exact hr.mono (by decide)
 exact rfl
 refine Qa ?_ ?_
 exact Qb 1
 refine Qa ?_ ?_
 exact Qe
 exact Qd
 exact rfl
 decide
 exact rfl
 exact rfl
 exact rfl
 first | exact .inl rfl | exact .inr rfl
 refine Qf ?_ ?_
 refine Qn ?_ ?_ ?_ ?_ ?_ ?_
 exact sc__law_manner.nd
 exact rfl
 exact (Or.inl rfl)
 refine Qo ?_ ?_
 exact Qb 2
 refine Qi (k:=1) (ps:=["feed","many"]) ?_ ?_ ?_ ?_ ?_ ?_ ?_ ?_
 exact c__law_take
 exact hr.mono (by decide)
 exact rfl
 refine Qa ?_ ?_
 exact Qb 1
 refine Qa ?_ ?_
 refine Qx Qy Qs ?_ ?_ PySem.boot_len ?_ ?_ ?_ ?_ ?_
 exact rfl
 exact b_len
 refine Qa ?_ ?_
 exact Qb 2
 exact Qd
 decide
 decide
 exact rfl
 exact rfl
 exact Qd
 exact rfl
 decide
 exact rfl
 exact rfl
 exact rfl
 first | exact .inl rfl | exact .inr rfl
 refine Qf ?_ ?_
 refine Qn ?_ ?_ ?_ ?_ ?_ ?_
 exact sc__law_manner.nd
 exact rfl
 exact (Or.inl rfl)
 refine Jo ?_
 exact Qd
 exact rfl
 first | exact .inl rfl | exact .inr rfl
 refine Qf ?_ ?_
 refine ZS ?_ ?_ ?_ ?_ ?_ ?_
 exact PassesOwn.never
 exact rfl
 refine Zs ?_
 exact Qb 5
 exact QM (i:=9) (x:="word") sc__law_manner.nd rfl (Or.inl rfl)
 refine Qj ?_
 refine ZS ?_ ?_ ?_ ?_ ?_ ?_
 exact PassesOwn.never
 exact rfl
 refine Zs ?_
 exact Qb 2
 exact QM (i:=10) (x:="place") sc__law_manner.nd rfl (Or.inl rfl)
 refine Qj ?_
 refine QT ?_ ?_ ?_
 refine PMW.pt ?_
 refine XB ?_ ?_
 refine PMW.pt ?_
 refine JB ?_ ?_
 refine Qr (Q4 ?_) Qk ?_ ?_
 exact hu
 exact Qb 6
 exact Qe
 refine Jh ?_
 refine Qr (Q4 ?_) Qk ?_ ?_
 exact hu
 exact Qb 10
 exact Qb 7
 refine Xq ?_
 refine PMW.pt ?_
 refine JB ?_ ?_
 refine Qr Vn Qk ?_ ?_
 exact Qb 6
 exact Qe
 refine Jh ?_
 refine Qr (Q4 ?_) Qk ?_ ?_
 exact hu
 refine Qi (k:=1) (ps:=["feed","many"]) ?_ ?_ ?_ ?_ ?_ ?_ ?_ ?_
 exact c__law_take
 exact hr.mono (by decide)
 exact rfl
 refine Qa ?_ ?_
 exact Qb 1
 refine Qa ?_ ?_
 refine QU QQ Qk ?_ ?_
 exact Qe
 exact Qb 6
 exact Qd
 exact rfl
 decide
 exact rfl
 exact rfl
 exact Qe
 refine Qj ?_
 refine QE ?_
 refine JD PySem.F.plainAttrs_list PySem.F.slot_list_append PySem.F.type_list_append QD ?_ ?_
 exact Qb 8
 refine Qa ?_ ?_
 refine QF ?_
 refine Qa ?_ ?_
 exact Qb 9
 refine Qa ?_ ?_
 exact Qb 10
 exact Qd
 exact Qd
 exact QK
 exact fun _=>rfl
 exact fun _=>rfl
 refine Qj ?_
 refine Qu ?_
 exact Qb 8
noncomputable def ZM:FM:=box frN JL
theorem Kh (d:DefAt K mg "_law_manner" Zn ["program","feed"]) (b_enumerate:mg "enumerate"=none) (b_len:mg "len"=none) (b_range:mg "range"=none) (c__law_take:Cal P w K mg base 1 "_law_take" ["feed","many"] Qh) (c__law_words:Cal P w K mg base 1 "_law_words" ["program"] ZC):Cal P w K mg base 2 "_law_manner" ["program","feed"] ZM:=(Kl d b_enumerate b_len b_range c__law_take c__law_words).box frN
noncomputable abbrev Jr:Stmt:=top 21
theorem sc__law_next:FnScope ["program","rows","spot","way","part","k","head","lines","word"] ["program","rows","spot"] (Qp Jr):=⟨rfl,rfl,rfl,by decide +kernel,rfl,by decide +kernel,by decide +kernel⟩
noncomputable def Q1:SM:=(QJ (Vo (QA (Qm wEq (Qg 8) (mC (.str "either")))) (J2 (mFn Xs (Qc (mFn Jj (Qc (Qg 3) (Qc (Qg 4) (Qc (Qm Vt (Qg 5) (mC (.int 1))) (Qc (mC (.bl false)) Ql))))) (Qc (mFn Jj (Qc (Qg 3) (Qc (Qg 4) (Qc (Qm Vt (Qm wIx (Qm wIx (Qm wIx (Qg 1) (Qg 4)) (Qg 5)) (mC (.int 1))) (mC (.int 1))) (Qc (mC (.bl false)) Ql))))) Ql)))) ZH)
  (QJ (Vo (QA (Qm wEq (Qg 8) (mC (.str "or")))) (J2 (mFn Xs (Qc (mFn Jj (Qc (Qg 3) (Qc (Qg 4) (Qc (Qm Vt (Qm wIx (Qm wIx (Qm wIx (Qg 1) (Qg 4)) (Qg 5)) (mC (.int 2))) (mC (.int 1))) (Qc (mC (.bl false)) Ql))))) Ql))) ZH)
  (QJ (Vo (QA (Qm wEq (Qg 8) (mC (.str "again")))) (J2 (mFn Xs (Qc (mFn Jj (Qc (Qg 3) (Qc (Qg 4) (Qc (Qg 5) (Qc (mC (.bl true)) Ql))))) Ql))) ZH)
  (QJ (Vo (Vc (QA (Qm wEq (Qg 8) (mC (.str "end")))) (QA (Qm wEq (Qm wIx (Qm wIx (Qg 7) (Qm wIx (Qm wIx (Qm wIx (Qg 1) (Qg 4)) (Qg 5)) (mC (.int 0)))) (mC (.int 0))) (mC (.str "again"))))) (J2 (mFn Xs (Qc (mFn Jj (Qc (Qg 3) (Qc (Qg 4) (Qc (Qm wIx (Qm wIx (Qm wIx (Qg 1) (Qg 4)) (Qg 5)) (mC (.int 0))) (Qc (mC (.bl true)) Ql))))) Ql))) ZH)
  (QJ (Vo (QA (Qm wEq (Qg 8) (mC (.str "do")))) (J2 (mFn Xs (Qc (mFn Jj (Qc (Qm Vt (Qg 3) (mFn Jj (Qc (mFn Jj (Qc (Qg 4) (Qc (Qg 5) Ql))) Ql))) (Qc (mMt "list" Wr (Zw Vu (QY (Qg 0)) [none,none] (Va [0,1]) XR (Qg 0)) (Qc (Qm wIx (Qm wIx (Qg 7) (Qg 5)) (mC (.int 1))) Ql)) (Qc (mC (.int 0)) (Qc (mC (.bl false)) Ql))))) Ql))) ZH)
  (J2 (mFn Xs (Qc (mFn Jj (Qc (Qg 3) (Qc (Qg 4) (Qc (Qm Vt (Qg 5) (mC (.int 1))) (Qc (mC (.bl false)) Ql))))) Ql))))))))
noncomputable def Q3:FM:=Zo 6
  (QJ (QjO (Va [3,4,5,6]) (Qg 2))
  (QJ (Zi 7 (Qm wIx (Qm wIx (Qg 0) (Qg 4)) (mC (.int 1))))
  (QJ (Vo (WJ (Qg 6)) (J2 (mFn Xs (Qc (mFn Jj (Qc (Qg 3) (Qc (Qg 4) (Qc (Qm Vt (Qm wIx (Qm wIx (Qm wIx (Qg 1) (Qg 4)) (Qg 5)) (mC (.int 2))) (mC (.int 1))) (Qc (mC (.bl false)) Ql))))) (Qc (mFn Jj (Qc (Qg 3) (Qc (Qg 4) (Qc (Qm Vt (Qg 5) (mC (.int 1))) (Qc (mC (.bl false)) Ql))))) Ql)))) ZH)
  (QJ (Vo (Vc (QA (Qm wEq (Qg 5) (mFn JS (Qc (Qg 7) Ql)))) (QA (Qm wGt (mFn JS (Qc (Qg 3) Ql)) (mC (.int 0))))) (J2 (mFn Xs (Qc (mFn Jj (Qc (mSl (Qg 3) W0 (Kf (mUn UQ (mC (.int 1))))) (Qc (Qm wIx (Qm wIx (Qg 3) (mUn UQ (mC (.int 1)))) (mC (.int 0))) (Qc (Qm Vt (Qm wIx (Qm wIx (Qg 3) (mUn UQ (mC (.int 1)))) (mC (.int 1))) (mC (.int 1))) (Qc (mC (.bl false)) Ql))))) Ql))) ZH)
  (QJ (Vo (QA (Qm wEq (Qg 5) (mFn JS (Qc (Qg 7) Ql)))) (J2 (mFn Xs Ql)) ZH)
  (QJ (Zi 8 (Qm wIx (Qm wIx (Qg 7) (Qg 5)) (mC (.int 0))))
  Q1))))))
set_option maxHeartbeats 4000000 in
theorem K9 (d:DefAt K mg "_law_next" Jr ["program","rows","spot"]) (b_len:mg "len"=none):Cal P w K mg base 1 "_law_next" ["program","rows","spot"] Q3:=by
 refine Zk (k:=0) (more:=6) d sc__law_next rfl fun f cdv A outer s H E hr=>?_
 have hu:=hr.units
 refine Qf ?_ ?_
 refine QfG ?_ ?_ ?_ ?_ ?_
 exact Qb 2
 refine J3 (is:=[3,4,5,6]) ?_ ?_ ?_ ?_
 exact rfl
 refine QO (i:=3) (x:="way") sc__law_next.nd rfl (Or.inl rfl) ?_ ?_
 refine QO (i:=4) (x:="part") sc__law_next.nd rfl (Or.inl rfl) ?_ ?_
 refine QO (i:=5) (x:="k") sc__law_next.nd rfl (Or.inl rfl) ?_ ?_
 refine QO (i:=6) (x:="head") sc__law_next.nd rfl (Or.inl rfl) ?_ ?_
 exact J5
 first | exact .inl rfl | exact .inr rfl
 first | exact .inl rfl | exact .inr rfl
 first | exact .inl rfl | exact .inr rfl
 first | exact .inl rfl | exact .inr rfl
 exact rfl
 exact rfl
 exact rfl
 exact rfl
 exact rfl
 refine Qf ?_ ?_
 refine Qn ?_ ?_ ?_ ?_ ?_ ?_
 exact sc__law_next.nd
 exact rfl
 exact (Or.inl rfl)
 refine Qo ?_ ?_
 refine Qo ?_ ?_
 exact Qb 0
 exact Qb 4
 exact Qe
 exact rfl
 first | exact .inl rfl | exact .inr rfl
 refine Qf ?_ ?_
 refine QT ?_ ?_ ?_
 refine JP ?_
 exact Qb 6
 refine Qj ?_
 refine Qu ?_
 refine ZG ?_
 refine Qa ?_ ?_
 refine QF ?_
 refine Qa ?_ ?_
 exact Qb 3
 refine Qa ?_ ?_
 exact Qb 4
 refine Qa ?_ ?_
 refine QU QQ Qk ?_ ?_
 refine Qo ?_ ?_
 refine Qo ?_ ?_
 refine Qo ?_ ?_
 exact Qb 1
 exact Qb 4
 exact Qb 5
 exact Qe
 exact Qe
 refine Qa ?_ ?_
 exact V2
 exact Qd
 refine Qa ?_ ?_
 refine QF ?_
 refine Qa ?_ ?_
 exact Qb 3
 refine Qa ?_ ?_
 exact Qb 4
 refine Qa ?_ ?_
 refine QU QQ Qk ?_ ?_
 exact Qb 5
 exact Qe
 refine Qa ?_ ?_
 exact V2
 exact Qd
 exact Qd
 exact QK
 refine Qf ?_ ?_
 refine QT ?_ ?_ ?_
 refine PMW.pt ?_
 refine JB ?_ ?_
 refine Qr (Q4 ?_) Qk ?_ ?_
 exact hu
 exact Qb 5
 refine Qx Qy Qs ?_ ?_ PySem.boot_len ?_ ?_ ?_ ?_ ?_
 exact rfl
 exact b_len
 refine Qa ?_ ?_
 exact Qb 7
 exact Qd
 decide
 decide
 exact rfl
 exact rfl
 refine Jh ?_
 refine Qr Vn Qk ?_ ?_
 refine Qx Qy Qs ?_ ?_ PySem.boot_len ?_ ?_ ?_ ?_ ?_
 exact rfl
 exact b_len
 refine Qa ?_ ?_
 exact Qb 3
 exact Qd
 decide
 decide
 exact rfl
 exact rfl
 exact Qe
 refine Qj ?_
 refine Qu ?_
 refine ZG ?_
 refine Qa ?_ ?_
 refine QF ?_
 refine Qa ?_ ?_
 refine Xl ?_ ?_ ?_
 exact Qb 3
 exact XL
 refine VQ ?_
 refine VH ?_
 exact Qe
 refine Qa ?_ ?_
 refine Qo ?_ ?_
 refine Qo ?_ ?_
 exact Qb 3
 refine VH ?_
 exact Qe
 exact Qe
 refine Qa ?_ ?_
 refine QU QQ Qk ?_ ?_
 refine Qo ?_ ?_
 refine Qo ?_ ?_
 exact Qb 3
 refine VH ?_
 exact Qe
 exact Qe
 exact Qe
 refine Qa ?_ ?_
 exact V2
 exact Qd
 exact Qd
 exact QK
 refine Qf ?_ ?_
 refine QT ?_ ?_ ?_
 refine Qr (Q4 ?_) Qk ?_ ?_
 exact hu
 exact Qb 5
 refine Qx Qy Qs ?_ ?_ PySem.boot_len ?_ ?_ ?_ ?_ ?_
 exact rfl
 exact b_len
 refine Qa ?_ ?_
 exact Qb 7
 exact Qd
 decide
 decide
 exact rfl
 exact rfl
 refine Qj ?_
 refine Qu ?_
 refine ZG ?_
 exact Qd
 exact QK
 refine Qf ?_ ?_
 refine Qn ?_ ?_ ?_ ?_ ?_ ?_
 exact sc__law_next.nd
 exact rfl
 exact (Or.inl rfl)
 refine Qo ?_ ?_
 refine Qo ?_ ?_
 exact Qb 7
 exact Qb 5
 exact Qe
 exact rfl
 first | exact .inl rfl | exact .inr rfl
 refine Qf ?_ ?_
 refine QT ?_ ?_ ?_
 refine Qr (Q4 ?_) Qk ?_ ?_
 exact hu
 exact Qb 8
 exact QW
 refine Qj ?_
 refine Qu ?_
 refine ZG ?_
 refine Qa ?_ ?_
 refine QF ?_
 refine Qa ?_ ?_
 exact Qb 3
 refine Qa ?_ ?_
 exact Qb 4
 refine Qa ?_ ?_
 refine QU QQ Qk ?_ ?_
 exact Qb 5
 exact Qe
 refine Qa ?_ ?_
 exact V2
 exact Qd
 refine Qa ?_ ?_
 refine QF ?_
 refine Qa ?_ ?_
 exact Qb 3
 refine Qa ?_ ?_
 exact Qb 4
 refine Qa ?_ ?_
 refine QU QQ Qk ?_ ?_
 refine Qo ?_ ?_
 refine Qo ?_ ?_
 refine Qo ?_ ?_
 exact Qb 1
 exact Qb 4
 exact Qb 5
 exact Qe
 exact Qe
 refine Qa ?_ ?_
 exact V2
 exact Qd
 exact Qd
 exact QK
 refine Qf ?_ ?_
 refine QT ?_ ?_ ?_
 refine Qr (Q4 ?_) Qk ?_ ?_
 exact hu
 exact Qb 8
 exact QW
 refine Qj ?_
 refine Qu ?_
 refine ZG ?_
 refine Qa ?_ ?_
 refine QF ?_
 refine Qa ?_ ?_
 exact Qb 3
 refine Qa ?_ ?_
 exact Qb 4
 refine Qa ?_ ?_
 refine QU QQ Qk ?_ ?_
 refine Qo ?_ ?_
 refine Qo ?_ ?_
 refine Qo ?_ ?_
 exact Qb 1
 exact Qb 4
 exact Qb 5
 exact Qe
 exact Qe
 refine Qa ?_ ?_
 exact V2
 exact Qd
 exact Qd
 exact QK
 refine Qf ?_ ?_
 refine QT ?_ ?_ ?_
 refine Qr (Q4 ?_) Qk ?_ ?_
 exact hu
 exact Qb 8
 exact QW
 refine Qj ?_
 refine Qu ?_
 refine ZG ?_
 refine Qa ?_ ?_
 refine QF ?_
 refine Qa ?_ ?_
 exact Qb 3
 refine Qa ?_ ?_
 exact Qb 4
 refine Qa ?_ ?_
 exact Qb 5
 refine Qa ?_ ?_
 exact V2
 exact Qd
 exact Qd
 exact QK
 refine Qf ?_ ?_
 refine QT ?_ ?_ ?_
 refine PMW.pt ?_
 refine JB ?_ ?_
 refine Qr (Q4 ?_) Qk ?_ ?_
 exact hu
 exact Qb 8
 exact QW
 refine Jh ?_
 refine Qr (Q4 ?_) Qk ?_ ?_
 exact hu
 refine Qo ?_ ?_
 refine Qo ?_ ?_
 exact Qb 7
 refine Qo ?_ ?_
 refine Qo ?_ ?_
 refine Qo ?_ ?_
 exact Qb 1
 exact Qb 4
 exact Qb 5
 exact Qe
 exact Qe
 exact QW
 refine Qj ?_
 refine Qu ?_
 refine ZG ?_
 refine Qa ?_ ?_
 refine QF ?_
 refine Qa ?_ ?_
 exact Qb 3
 refine Qa ?_ ?_
 exact Qb 4
 refine Qa ?_ ?_
 refine Qo ?_ ?_
 refine Qo ?_ ?_
 refine Qo ?_ ?_
 exact Qb 1
 exact Qb 4
 exact Qb 5
 exact Qe
 refine Qa ?_ ?_
 exact V2
 exact Qd
 exact Qd
 exact QK
 refine Qf ?_ ?_
 refine QT ?_ ?_ ?_
 refine Qr (Q4 ?_) Qk ?_ ?_
 exact hu
 exact Qb 8
 exact QW
 refine Qj ?_
 refine Qu ?_
 refine ZG ?_
 refine Qa ?_ ?_
 refine QF ?_
 refine Qa ?_ ?_
 refine QU QQ Qk ?_ ?_
 exact Qb 3
 refine QF ?_
 refine Qa ?_ ?_
 refine QF ?_
 refine Qa ?_ ?_
 exact Qb 4
 refine Qa ?_ ?_
 exact Qb 5
 exact Qd
 exact Qd
 refine Qa ?_ ?_
 refine JD PySem.F.plainAttrs_list PySem.F.slot_list_index PySem.F.type_list_index (QaK ?_) ?_ ?_
 exact hu
 refine VS JA ?_ (Jn (Nb:=["name","inner"]) (cp:=[none,none]) rfl (by decide +kernel) (by decide +kernel) rfl rfl) ?_ (fun _ _ _ _ _=>?_) (fun _ _ _ _ _=>?_)
 exact rfl
 refine Zs ?_
 exact Qb 0
 refine J3 (is:=[0,1]) ?_ ?_ ?_ ?_
 exact rfl
 refine QO (i:=0) (x:="name") (show List.Nodup (["name","inner"]:List Str) from by decide +kernel) rfl (Or.inl rfl) ?_ ?_
 refine QO (i:=1) (x:="inner") (show List.Nodup (["name","inner"]:List Str) from by decide +kernel) rfl (Or.inl rfl) ?_ ?_
 exact J5
 first | exact .inl rfl | exact .inr rfl
 first | exact .inl rfl | exact .inr rfl
 exact rfl
 exact rfl
 exact Qb 0
 refine Qa ?_ ?_
 refine Qo ?_ ?_
 refine Qo ?_ ?_
 exact Qb 7
 exact Qb 5
 exact Qe
 exact Qd
 refine Qa ?_ ?_
 exact Qe
 refine Qa ?_ ?_
 exact V2
 exact Qd
 exact Qd
 exact QK
 refine Qj ?_
 refine Qu ?_
 refine ZG ?_
 refine Qa ?_ ?_
 refine QF ?_
 refine Qa ?_ ?_
 exact Qb 3
 refine Qa ?_ ?_
 exact Qb 4
 refine Qa ?_ ?_
 refine QU QQ Qk ?_ ?_
 exact Qb 5
 exact Qe
 refine Qa ?_ ?_
 exact V2
 exact Qd
 exact Qd
noncomputable def Za:FM:=box frN Q3
theorem Yk (d:DefAt K mg "_law_next" Jr ["program","rows","spot"]) (b_len:mg "len"=none):Cal P w K mg base 1 "_law_next" ["program","rows","spot"] Za:=(K9 d b_len).box frN
noncomputable abbrev JU:Stmt:=top 27
theorem sc__law_run:FnScope ["program","rows","feed","most_choices","run","left","others"] ["program","rows","feed","most_choices"] (Qp JU):=⟨rfl,rfl,rfl,by decide +kernel,rfl,by decide +kernel,by decide +kernel⟩
noncomputable abbrev Vq:SM:=(QJ (Vo (QA (Qm wEq (mFn JS (Qc (Qg 6) Ql)) (mC (.int 1)))) (ZU (mMt "list" QZ (Qg 4) (Qc (Qm wIx (Qg 6) (mC (.int 0))) Ql))) (QJ (ZU (mMt "list" QZ (Qg 4) (Qc (Qm wIx (Qg 6) (Qv 2 Qh (Qc (Qg 2) (Qc (mC (.int 2)) Ql)))) Ql)))
  (Zi 5 (Qm Gx (Qg 5) (mC (.int 1))))))
  (Zi 6 (Qv 3 Za (Qc (Qg 0) (Qc (Qg 1) (Qc (Qm wIx (Qg 4) (mUn UQ (mC (.int 1)))) Ql))))))
noncomputable def Vv:FM:=Zo 3
  (QJ (Zi 4 (mFn Ky (Qc (mFn Jj (Qc (mFn Jj Ql) (Qc (mC (.int 0)) (Qc (mC (.int 0)) (Qc (mC (.bl false)) Ql))))) Ql)))
  (QJ (Zi 5 (Qv 2 Qh (Qc (Qg 2) (Qc (Qm Vt (mC (.int 1)) (Qg 3)) Ql))))
  (QJ (Zi 6 (Qv 3 Za (Qc (Qg 0) (Qc (Qg 1) (Qc (Qm wIx (Qg 4) (mC (.int 0))) Ql)))))
  (QJ (Q0 (GB (QA (Qm wEq (mFn JS (Qc (Qg 6) Ql)) (mC (.int 1)))) (Vc (QA (Qm wGt (mFn JS (Qc (Qg 6) Ql)) (mC (.int 1)))) (QA (Qm wGt (Qg 5) (mC (.int 0)))))) Vq 20000000)
  (J2 (Qg 4))))))
set_option maxHeartbeats 4000000 in
theorem WA (d:DefAt K mg "_law_run" JU ["program","rows","feed","most_choices"]) (b_len:mg "len"=none) (c__law_next:Cal P w K mg base 1 "_law_next" ["program","rows","spot"] Za) (c__law_take:Cal P w K mg base 1 "_law_take" ["feed","many"] Qh):Cal P w K mg base 2 "_law_run" ["program","rows","feed","most_choices"] Vv:=by
 refine Zk (k:=1) (more:=3) d sc__law_run rfl fun f cdv A outer s H E hr=>?_
 have hu:=hr.units
 refine Qf ?_ ?_
 refine Qn ?_ ?_ ?_ ?_ ?_ ?_
 exact sc__law_run.nd
 exact rfl
 exact (Or.inl rfl)
 refine Jo ?_
 refine Qa ?_ ?_
 refine QF ?_
 refine Qa ?_ ?_
 refine QF ?_
 exact Qd
 refine Qa ?_ ?_
 exact Qe
 refine Qa ?_ ?_
 exact Qe
 refine Qa ?_ ?_
 exact V2
 exact Qd
 exact Qd
 exact rfl
 first | exact .inl rfl | exact .inr rfl
 refine Qf ?_ ?_
 refine Qn ?_ ?_ ?_ ?_ ?_ ?_
 exact sc__law_run.nd
 exact rfl
 exact (Or.inl rfl)
 refine Qi (k:=1) (ps:=["feed","many"]) ?_ ?_ ?_ ?_ ?_ ?_ ?_ ?_
 exact c__law_take
 exact hr.mono (by decide)
 exact rfl
 refine Qa ?_ ?_
 exact Qb 2
 refine Qa ?_ ?_
 refine QU QQ Qk ?_ ?_
 exact Qe
 exact Qb 3
 exact Qd
 exact rfl
 decide
 exact rfl
 exact rfl
 exact rfl
 first | exact .inl rfl | exact .inr rfl
 refine Qf ?_ ?_
 refine Qn ?_ ?_ ?_ ?_ ?_ ?_
 exact sc__law_run.nd
 exact rfl
 exact (Or.inl rfl)
 refine Qi (k:=1) (ps:=["program","rows","spot"]) ?_ ?_ ?_ ?_ ?_ ?_ ?_ ?_
 exact c__law_next
 exact hr.mono (by decide)
 exact rfl
 refine Qa ?_ ?_
 exact Qb 0
 refine Qa ?_ ?_
 exact Qb 1
 refine Qa ?_ ?_
 refine Qo ?_ ?_
 exact Qb 4
 exact Qe
 exact Qd
 exact rfl
 decide
 exact rfl
 exact rfl
 exact rfl
 first | exact .inl rfl | exact .inr rfl
 refine Qf ?_ ?_
 refine Kp 20000000 ?_ ?_ ?_
 exact PassesOwn.never
 refine PMW.pt ?_
 refine XB ?_ ?_
 refine Qr (Q4 ?_) Qk ?_ ?_
 exact hu
 refine Qx Qy Qs ?_ ?_ PySem.boot_len ?_ ?_ ?_ ?_ ?_
 exact rfl
 exact b_len
 refine Qa ?_ ?_
 exact Qb 6
 exact Qd
 decide
 decide
 exact rfl
 exact rfl
 exact Qe
 refine Xq ?_
 refine PMW.pt ?_
 refine JB ?_ ?_
 refine Qr Vn Qk ?_ ?_
 refine Qx Qy Qs ?_ ?_ PySem.boot_len ?_ ?_ ?_ ?_ ?_
 exact rfl
 exact b_len
 refine Qa ?_ ?_
 exact Qb 6
 exact Qd
 decide
 decide
 exact rfl
 exact rfl
 exact Qe
 refine Jh ?_
 refine Qr Vn Qk ?_ ?_
 exact Qb 5
 exact Qe
 refine Qf ?_ ?_
 refine QT ?_ ?_ ?_
 refine Qr (Q4 ?_) Qk ?_ ?_
 exact hu
 refine Qx Qy Qs ?_ ?_ PySem.boot_len ?_ ?_ ?_ ?_ ?_
 exact rfl
 exact b_len
 refine Qa ?_ ?_
 exact Qb 6
 exact Qd
 decide
 decide
 exact rfl
 exact rfl
 exact Qe
 refine Qj ?_
 refine QE ?_
 refine JD PySem.F.plainAttrs_list PySem.F.slot_list_append PySem.F.type_list_append QD ?_ ?_
 exact Qb 4
 refine Qa ?_ ?_
 refine Qo ?_ ?_
 exact Qb 6
 exact Qe
 exact Qd
 refine Qf ?_ ?_
 refine QE ?_
 refine JD PySem.F.plainAttrs_list PySem.F.slot_list_append PySem.F.type_list_append QD ?_ ?_
 exact Qb 4
 refine Qa ?_ ?_
 refine Qo ?_ ?_
 exact Qb 6
 refine Qi (k:=1) (ps:=["feed","many"]) ?_ ?_ ?_ ?_ ?_ ?_ ?_ ?_
 exact c__law_take
 exact hr.mono (by decide)
 exact rfl
 refine Qa ?_ ?_
 exact Qb 2
 refine Qa ?_ ?_
 exact Qe
 exact Qd
 exact rfl
 decide
 exact rfl
 exact rfl
 exact Qd
 refine Qj ?_
 refine Qn ?_ ?_ ?_ ?_ ?_ ?_
 exact sc__law_run.nd
 exact rfl
 exact (Or.inl rfl)
 refine QU Vp Qk ?_ ?_
 exact Qb 5
 exact Qe
 exact rfl
 first | exact .inl rfl | exact .inr rfl
 refine Qj ?_
 refine Qn ?_ ?_ ?_ ?_ ?_ ?_
 exact sc__law_run.nd
 exact rfl
 exact (Or.inl rfl)
 refine Qi (k:=1) (ps:=["program","rows","spot"]) ?_ ?_ ?_ ?_ ?_ ?_ ?_ ?_
 exact c__law_next
 exact hr.mono (by decide)
 exact rfl
 refine Qa ?_ ?_
 exact Qb 0
 refine Qa ?_ ?_
 exact Qb 1
 refine Qa ?_ ?_
 refine Qo ?_ ?_
 exact Qb 4
 refine VH ?_
 exact Qe
 exact Qd
 exact rfl
 decide
 exact rfl
 exact rfl
 exact rfl
 first | exact .inl rfl | exact .inr rfl
 refine Qj ?_
 refine Qu ?_
 exact Qb 4
noncomputable def JX:FM:=box frN Vv
theorem WE (d:DefAt K mg "_law_run" JU ["program","rows","feed","most_choices"]) (b_len:mg "len"=none) (c__law_next:Cal P w K mg base 1 "_law_next" ["program","rows","spot"] Za) (c__law_take:Cal P w K mg base 1 "_law_take" ["feed","many"] Qh):Cal P w K mg base 2 "_law_run" ["program","rows","feed","most_choices"] JX:=(WA d b_len c__law_next c__law_take).box frN
noncomputable abbrev Q9:Stmt:=top 6
theorem sc_words_by_place:FnScope ["manner","words","word","place"] ["manner"] (Qp Q9):=⟨rfl,rfl,rfl,by decide +kernel,rfl,by decide +kernel,by decide +kernel⟩
noncomputable abbrev ZY:SM:=(ZU (mMt "list" QZ (mMt "dict" Qfn (Qg 1) (Qc (Qg 3) (Qc (mFn Ky Ql) Ql))) (Qc (Qg 2) Ql)))
noncomputable def Q2:FM:=Zo 3
  (QJ (Zi 1 Qef)
  (QJ (VM (QY (Qg 0)) (Va [2,3])
  ZY)
  (J2 (Qg 1))))
set_option maxHeartbeats 4000000 in
theorem Xf (d:DefAt K mg "words_by_place" Q9 ["manner"]):Cal P w K mg base 1 "words_by_place" ["manner"] Q2:=by
 refine Zk (k:=0) (more:=3) d sc_words_by_place rfl fun f cdv A outer s H E hr=>?_
 have hu:=hr.units
 refine Qf ?_ ?_
 refine Qn ?_ ?_ ?_ ?_ ?_ ?_
 exact sc_words_by_place.nd
 exact rfl
 exact (Or.inl rfl)
 exact Qe0
 exact rfl
 first | exact .inl rfl | exact .inr rfl
 refine Qf ?_ ?_
 refine ZS ?_ ?_ ?_ ?_ ?_ ?_
 exact PassesOwn.never
 exact rfl
 refine Zs ?_
 exact Qb 0
 refine J3 (is:=[2,3]) ?_ ?_ ?_ ?_
 exact rfl
 refine QO (i:=2) (x:="word") sc_words_by_place.nd rfl (Or.inl rfl) ?_ ?_
 refine QO (i:=3) (x:="place") sc_words_by_place.nd rfl (Or.inl rfl) ?_ ?_
 exact J5
 first | exact .inl rfl | exact .inr rfl
 first | exact .inl rfl | exact .inr rfl
 exact rfl
 exact rfl
 refine Qj ?_
 refine QE ?_
 refine JD PySem.F.plainAttrs_list PySem.F.slot_list_append PySem.F.type_list_append QD ?_ ?_
 refine JD PySem.F.plainAttrs_dict PySem.F.slot_dict_setdefault PySem.F.type_dict_setdefault (QfU ?_) ?_ ?_
 exact hu
 exact Qb 1
 refine Qa ?_ ?_
 exact Qb 3
 refine Qa ?_ ?_
 refine Jo ?_
 exact Qd
 exact Qd
 refine Qa ?_ ?_
 exact Qb 2
 exact Qd
 exact fun _=>rfl
 refine Qj ?_
 refine Qu ?_
 exact Qb 1
noncomputable def QX:FM:=box frR Q2
theorem Xm (d:DefAt K mg "words_by_place" Q9 ["manner"]):Cal P w K mg base 1 "words_by_place" ["manner"] QX:=(Xf d).box frR
noncomputable abbrev Jt:Stmt:=top 1
theorem WG:FnScope ["line"] ["line"] (Qp Jt):=⟨rfl,rfl,rfl,by decide +kernel,rfl,by decide +kernel,by decide +kernel⟩
noncomputable def ZB:FM:=Zo 0
  (J2 (mIf (Vc (QA (Qm KM (Qg 0) (mC .non))) (QA (Qm wEq (Qm wIx (Qg 0) (mC (.int 0))) (mC (.str "pair"))))) (Qm wIx (Qg 0) (mC (.int 2))) (mC .non)))
set_option maxHeartbeats 4000000 in
theorem YK (d:DefAt K mg "made_word" Jt ["line"]):Cal P w K mg base 1 "made_word" ["line"] ZB:=by
 refine Zk (k:=0) (more:=0) d WG rfl fun f cdv A outer s H E hr=>?_
 have hu:=hr.units
 refine Qj ?_
 refine Qu ?_
 refine Qhe ?_ ?_ ?_
 refine PMW.pt ?_
 refine JB ?_ ?_
 refine Qr X4 Qk ?_ ?_
 exact Qb 0
 exact XA
 refine Jh ?_
 refine Qr (Q4 ?_) Qk ?_ ?_
 exact hu
 refine Qo ?_ ?_
 exact Qb 0
 exact Qe
 exact QW
 refine Qo ?_ ?_
 exact Qb 0
 exact Qe
 exact XA
noncomputable def Zr:FM:=box frN ZB
theorem Yw (d:DefAt K mg "made_word" Jt ["line"]):Cal P w K mg base 1 "made_word" ["line"] Zr:=(YK d).box frN
noncomputable abbrev JO:Stmt:=top 9
theorem sc_add_made:FnScope ["in_use","line","word"] ["in_use","line"] (Qp JO):=⟨rfl,rfl,rfl,by decide +kernel,rfl,by decide +kernel,by decide +kernel⟩
noncomputable def Z0:FM:=Zo 1
  (QJ (Zi 2 (Qv 1 Zr (Qc (Qg 1) Ql)))
  (Vo (QA (Qm KM (Qg 2) (mC .non))) (Gi (Qg 0) (Qg 2) (Qm Vt (mMt "dict" QcO (Qg 0) (Qc (Qg 2) (Qc (mC (.int 0)) Ql))) (mC (.int 1)))) ZH))
set_option maxHeartbeats 4000000 in
theorem Wb (d:DefAt K mg "add_made" JO ["in_use","line"]) (c_made_word:Cal P w K mg base 1 "made_word" ["line"] Zr):Cal P w K mg base 2 "add_made" ["in_use","line"] Z0:=by
 refine Zk (k:=1) (more:=1) d sc_add_made rfl fun f cdv A outer s H E hr=>?_
 have hu:=hr.units
 refine Qf ?_ ?_
 refine Qn ?_ ?_ ?_ ?_ ?_ ?_
 exact sc_add_made.nd
 exact rfl
 exact (Or.inl rfl)
 refine Qi (k:=1) (ps:=["line"]) ?_ ?_ ?_ ?_ ?_ ?_ ?_ ?_
 exact c_made_word
 exact hr.mono (by decide)
 exact rfl
 refine Qa ?_ ?_
 exact Qb 1
 exact Qd
 exact rfl
 decide
 exact rfl
 exact rfl
 exact rfl
 first | exact .inl rfl | exact .inr rfl
 refine Qj ?_
 refine QT ?_ ?_ ?_
 refine Qr X4 Qk ?_ ?_
 exact Qb 2
 exact XA
 refine Qj ?_
 refine U0 ?_ ?_ ?_ ?_ ?_
 exact hu
 exact Qb 0
 exact Qb 2
 refine QU QQ Qk ?_ ?_
 refine JD PySem.F.plainAttrs_dict PySem.F.slot_dict_get PySem.F.type_dict_get (Qdc ?_) ?_ ?_
 exact hu
 exact Qb 0
 refine Qa ?_ ?_
 exact Qb 2
 refine Qa ?_ ?_
 exact Qe
 exact Qd
 exact Qe
 exact rfl
 exact QK
noncomputable def ZW:FM:=box frN Z0
theorem WI (d:DefAt K mg "add_made" JO ["in_use","line"]) (c_made_word:Cal P w K mg base 1 "made_word" ["line"] Zr):Cal P w K mg base 2 "add_made" ["in_use","line"] ZW:=(Wb d c_made_word).box frN
noncomputable abbrev JN:Stmt:=top 3
theorem W3:FnScope ["spot"] ["spot"] (Qp JN):=⟨rfl,rfl,rfl,by decide +kernel,rfl,by decide +kernel,by decide +kernel⟩
noncomputable def J1:FM:=Zo 0
  (J2 (mIf (WJ (Qm wIx (Qg 0) (mC (.int 3)))) (mC .non) (mFn Jj (Qc (Qm wIx (Qg 0) (mC (.int 1))) (Qc (Qm wIx (Qg 0) (mC (.int 2))) Ql)))))
set_option maxHeartbeats 4000000 in
theorem Y4 (d:DefAt K mg "place_of" JN ["spot"]):Cal P w K mg base 1 "place_of" ["spot"] J1:=by
 refine Zk (k:=0) (more:=0) d W3 rfl fun f cdv A outer s H E hr=>?_
 have hu:=hr.units
 refine Qj ?_
 refine Qu ?_
 refine Qhe ?_ ?_ ?_
 refine JP ?_
 refine Qo ?_ ?_
 exact Qb 0
 exact Qe
 exact XA
 refine QF ?_
 refine Qa ?_ ?_
 refine Qo ?_ ?_
 exact Qb 0
 exact Qe
 refine Qa ?_ ?_
 refine Qo ?_ ?_
 exact Qb 0
 exact Qe
 exact Qd
noncomputable def Zy:FM:=box frN J1
theorem Wg (d:DefAt K mg "place_of" JN ["spot"]):Cal P w K mg base 1 "place_of" ["spot"] Zy:=(Y4 d).box frN
noncomputable abbrev Vi:Stmt:=top 4
theorem sc_line_of:FnScope ["program","spot","lines"] ["program","spot"] (Qp Vi):=⟨rfl,rfl,rfl,by decide +kernel,rfl,by decide +kernel,by decide +kernel⟩
noncomputable def JV:FM:=Zo 1
  (QJ (Zi 2 (Qm wIx (Qm wIx (Qg 0) (Qm wIx (Qg 1) (mC (.int 1)))) (mC (.int 1))))
  (QJ (Vo (GB (WJ (Qm wIx (Qg 1) (mC (.int 3)))) (QA (Qm wEq (Qm wIx (Qg 1) (mC (.int 2))) (mFn JS (Qc (Qg 2) Ql))))) (J2 (mC .non)) ZH)
  (J2 (Qm wIx (Qg 2) (Qm wIx (Qg 1) (mC (.int 2)))))))
set_option maxHeartbeats 4000000 in
theorem W1 (d:DefAt K mg "line_of" Vi ["program","spot"]) (b_len:mg "len"=none):Cal P w K mg base 1 "line_of" ["program","spot"] JV:=by
 refine Zk (k:=0) (more:=1) d sc_line_of rfl fun f cdv A outer s H E hr=>?_
 have hu:=hr.units
 refine Qf ?_ ?_
 refine Qn ?_ ?_ ?_ ?_ ?_ ?_
 exact sc_line_of.nd
 exact rfl
 exact (Or.inl rfl)
 refine Qo ?_ ?_
 refine Qo ?_ ?_
 exact Qb 0
 refine Qo ?_ ?_
 exact Qb 1
 exact Qe
 exact Qe
 exact rfl
 first | exact .inl rfl | exact .inr rfl
 refine Qf ?_ ?_
 refine QT ?_ ?_ ?_
 refine PMW.pt ?_
 refine XB ?_ ?_
 refine JP ?_
 refine Qo ?_ ?_
 exact Qb 1
 exact Qe
 refine Xq ?_
 refine Qr (Q4 ?_) Qk ?_ ?_
 exact hu
 refine Qo ?_ ?_
 exact Qb 1
 exact Qe
 refine Qx Qy Qs ?_ ?_ PySem.boot_len ?_ ?_ ?_ ?_ ?_
 exact rfl
 exact b_len
 refine Qa ?_ ?_
 exact Qb 2
 exact Qd
 decide
 decide
 exact rfl
 exact rfl
 refine Qj ?_
 refine Qu ?_
 exact XA
 exact QK
 refine Qj ?_
 refine Qu ?_
 refine Qo ?_ ?_
 exact Qb 2
 refine Qo ?_ ?_
 exact Qb 1
 exact Qe
noncomputable def Zm:FM:=box frN JV
theorem Ug (d:DefAt K mg "line_of" Vi ["program","spot"]) (b_len:mg "len"=none):Cal P w K mg base 1 "line_of" ["program","spot"] Zm:=(W1 d b_len).box frN
noncomputable abbrev Vl:Stmt:=top 8
theorem sc_counted:FnScope ["program","manner","run","giving","in_use","numbers","step","spot","ahead","word"] ["program","manner","run"] (Qp Vl):=⟨rfl,rfl,rfl,by decide +kernel,rfl,by decide +kernel,by decide +kernel⟩
noncomputable abbrev J8:SM:=(Gi (Qg 4) (Qg 9) (mC (.int 0)))
noncomputable abbrev J6:SM:=(QJ (Vo (QA (Qm wGt (Qg 6) (mC (.int 0)))) (ZU (Qv 2 ZW (Qc (Qg 4) (Qc (Qv 2 Zm (Qc (Qg 0) (Qc (Qm wIx (Qg 2) (Qm Gx (Qg 6) (mC (.int 1)))) Ql))) Ql)))) ZH)
  (QJ (Zi 8 (GM (Qg 4)))
  (QJ (VM (QY (mMt "dict" X6 (Qg 3) (Qc (Qv 1 Zy (Qc (Qg 7) Ql)) (Qc (mFn Xs Ql) Ql)))) (Jy 9)
  J8)
  (ZU (mMt "list" QZ (Qg 5) (Qc (mFn Jj (Qc (Qg 8) (Qc (GM (Qg 4)) Ql))) Ql))))))
noncomputable def V3:FM:=Zo 7
  (QJ (Zi 3 (Qv 1 QX (Qc (Qg 1) Ql)))
  (QJ (Zi 4 QeX)
  (QJ (Zi 5 (mFn Ky Ql))
  (QJ (VM (YC (Qc (Qg 2) Ql)) (Va [6,7])
  J6)
  (J2 (Qg 5))))))
set_option maxHeartbeats 4000000 in
theorem WQ (d:DefAt K mg "counted" Vl ["program","manner","run"]) (b_enumerate:mg "enumerate"=none) (b_sum:mg "sum"=none) (c_add_made:Cal P w K mg base 2 "add_made" ["in_use","line"] ZW) (c_line_of:Cal P w K mg base 1 "line_of" ["program","spot"] Zm) (c_place_of:Cal P w K mg base 1 "place_of" ["spot"] Zy) (c_words_by_place:Cal P w K mg base 1 "words_by_place" ["manner"] QX):Cal P w K mg base 3 "counted" ["program","manner","run"] V3:=by
 refine Zk (k:=2) (more:=7) d sc_counted rfl fun f cdv A outer s H E hr=>?_
 have hu:=hr.units
 refine Qf ?_ ?_
 refine Qn ?_ ?_ ?_ ?_ ?_ ?_
 exact sc_counted.nd
 exact rfl
 exact (Or.inl rfl)
 refine Qi (k:=1) (ps:=["manner"]) ?_ ?_ ?_ ?_ ?_ ?_ ?_ ?_
 exact c_words_by_place
 exact hr.mono (by decide)
 exact rfl
 refine Qa ?_ ?_
 exact Qb 1
 exact Qd
 exact rfl
 decide
 exact rfl
 exact rfl
 exact rfl
 first | exact .inl rfl | exact .inr rfl
 refine Qf ?_ ?_
 refine Qn ?_ ?_ ?_ ?_ ?_ ?_
 exact sc_counted.nd
 exact rfl
 exact (Or.inl rfl)
 exact Qfm
 exact rfl
 first | exact .inl rfl | exact .inr rfl
 refine Qf ?_ ?_
 refine Qn ?_ ?_ ?_ ?_ ?_ ?_
 exact sc_counted.nd
 exact rfl
 exact (Or.inl rfl)
 refine Jo ?_
 exact Qd
 exact rfl
 first | exact .inl rfl | exact .inr rfl
 refine Qf ?_ ?_
 refine ZS ?_ ?_ ?_ ?_ ?_ ?_
 exact PassesOwn.never
 exact rfl
 refine Qat ?_ ?_ ?_ ?_
 exact rfl
 exact b_enumerate
 refine Qa ?_ ?_
 exact Qb 2
 exact Qd
 exact rfl
 refine J3 (is:=[6,7]) ?_ ?_ ?_ ?_
 exact rfl
 refine QO (i:=6) (x:="step") sc_counted.nd rfl (Or.inl rfl) ?_ ?_
 refine QO (i:=7) (x:="spot") sc_counted.nd rfl (Or.inl rfl) ?_ ?_
 exact J5
 first | exact .inl rfl | exact .inr rfl
 first | exact .inl rfl | exact .inr rfl
 exact rfl
 exact rfl
 refine Qf ?_ ?_
 refine QT ?_ ?_ ?_
 refine Qr Vn Qk ?_ ?_
 exact Qb 6
 exact Qe
 refine Qj ?_
 refine QE ?_
 refine Qi (k:=2) (ps:=["in_use","line"]) ?_ ?_ ?_ ?_ ?_ ?_ ?_ ?_
 exact c_add_made
 exact hr.mono (by decide)
 exact rfl
 refine Qa ?_ ?_
 exact Qb 4
 refine Qa ?_ ?_
 refine Qi (k:=1) (ps:=["program","spot"]) ?_ ?_ ?_ ?_ ?_ ?_ ?_ ?_
 exact c_line_of
 exact hr.mono (by decide)
 exact rfl
 refine Qa ?_ ?_
 exact Qb 0
 refine Qa ?_ ?_
 refine Qo ?_ ?_
 exact Qb 2
 refine QU Vp Qk ?_ ?_
 exact Qb 6
 exact Qe
 exact Qd
 exact rfl
 decide
 exact rfl
 exact rfl
 exact Qd
 exact rfl
 decide
 exact rfl
 exact rfl
 exact QK
 refine Qf ?_ ?_
 refine Qn ?_ ?_ ?_ ?_ ?_ ?_
 exact sc_counted.nd
 exact rfl
 exact (Or.inl rfl)
 refine Xw ?_ ?_ ?_ ?_
 exact rfl
 exact rfl
 exact b_sum
 exact Qb 4
 exact rfl
 first | exact .inl rfl | exact .inr rfl
 refine Qf ?_ ?_
 refine ZS ?_ ?_ ?_ ?_ ?_ ?_
 exact PassesOwn.never
 exact rfl
 refine Zs ?_
 refine JD PySem.F.plainAttrs_dict PySem.F.slot_dict_get PySem.F.type_dict_get (Qbk ?_) ?_ ?_
 exact hu
 exact Qb 3
 refine Qa ?_ ?_
 refine Qi (k:=1) (ps:=["spot"]) ?_ ?_ ?_ ?_ ?_ ?_ ?_ ?_
 exact c_place_of
 exact hr.mono (by decide)
 exact rfl
 refine Qa ?_ ?_
 exact Qb 7
 exact Qd
 exact rfl
 decide
 exact rfl
 exact rfl
 refine Qa ?_ ?_
 refine ZG ?_
 exact Qd
 exact Qd
 exact QM (i:=9) (x:="word") sc_counted.nd rfl (Or.inl rfl)
 refine Qj ?_
 refine U0 ?_ ?_ ?_ ?_ ?_
 exact hu
 exact Qb 4
 exact Qb 9
 exact Qe
 exact rfl
 exact fun _=>rfl
 refine Qj ?_
 refine QE ?_
 refine JD PySem.F.plainAttrs_list PySem.F.slot_list_append PySem.F.type_list_append QD ?_ ?_
 exact Qb 5
 refine Qa ?_ ?_
 refine QF ?_
 refine Qa ?_ ?_
 exact Qb 8
 refine Qa ?_ ?_
 refine Xw ?_ ?_ ?_ ?_
 exact rfl
 exact rfl
 exact b_sum
 exact Qb 4
 exact Qd
 exact Qd
 exact fun _=>rfl
 refine Qj ?_
 refine Qu ?_
 exact Qb 5
noncomputable def Vg:FM:=box frN V3
theorem Um (d:DefAt K mg "counted" Vl ["program","manner","run"]) (b_enumerate:mg "enumerate"=none) (b_sum:mg "sum"=none) (c_add_made:Cal P w K mg base 2 "add_made" ["in_use","line"] ZW) (c_line_of:Cal P w K mg base 1 "line_of" ["program","spot"] Zm) (c_place_of:Cal P w K mg base 1 "place_of" ["spot"] Zy) (c_words_by_place:Cal P w K mg base 1 "words_by_place" ["manner"] QX):Cal P w K mg base 3 "counted" ["program","manner","run"] Vg:=(WQ d b_enumerate b_sum c_add_made c_line_of c_place_of c_words_by_place).box frN
noncomputable abbrev ZI:Stmt:=top 20
theorem sc__law_blocks:FnScope ["lines","rows","opened","k"] ["lines"] (Qp ZI):=⟨rfl,rfl,rfl,by decide +kernel,rfl,by decide +kernel,by decide +kernel⟩
noncomputable abbrev JG:SM:=(QJ (Vo (GB (QA (Qm wEq (Qm wIx (Qm wIx (Qg 0) (Qg 3)) (mC (.int 0))) (mC (.str "either")))) (QA (Qm wEq (Qm wIx (Qm wIx (Qg 0) (Qg 3)) (mC (.int 0))) (mC (.str "again"))))) (ZU (mMt "list" QZ (Qg 2) (Qc (mFn Ky (Qc (Qg 3) (Qc (Qg 3) (Qc (Qg 3) Ql)))) Ql))) ZH)
  (QJ (Vo (QA (Qm wGt (mFn JS (Qc (Qg 2) Ql)) (mC (.int 0)))) (Qb3 (Qg 1) (Qg 3) (Qm wIx (Qg 2) (mUn UQ (mC (.int 1))))) ZH)
  (QJ (Vo (QA (Qm wEq (Qm wIx (Qm wIx (Qg 0) (Qg 3)) (mC (.int 0))) (mC (.str "or")))) (Qb3 (Qm wIx (Qg 2) (mUn UQ (mC (.int 1)))) (mC (.int 1)) (Qg 3)) ZH)
  (Vo (QA (Qm wEq (Qm wIx (Qm wIx (Qg 0) (Qg 3)) (mC (.int 0))) (mC (.str "end")))) (QJ (Qb3 (Qm wIx (Qg 2) (mUn UQ (mC (.int 1)))) (mC (.int 2)) (Qg 3))
  (ZU (mMt "list" Qgr (Qg 2) Ql))) ZH))))
noncomputable def Zv:FM:=Zo 3
  (QJ (Zi 1 (Zw Qev (QY (Qg 0)) [none] (Jy 0) XR (mC .non)))
  (QJ (Zi 2 (mFn Ky Ql))
  (QJ (VM (Yi (Qc (mFn JS (Qc (Qg 0) Ql)) Ql)) (Jy 3)
  JG)
  (J2 (Qg 1)))))
set_option maxHeartbeats 4000000 in
theorem X1 (d:DefAt K mg "_law_blocks" ZI ["lines"]) (b_len:mg "len"=none) (b_range:mg "range"=none):Cal P w K mg base 1 "_law_blocks" ["lines"] Zv:=by
 refine Zk (k:=0) (more:=3) d sc__law_blocks rfl fun f cdv A outer s H E hr=>?_
 have hu:=hr.units
 refine Qf ?_ ?_
 refine Xb sc__law_blocks.nd rfl (Or.inl rfl) ?_ QaN ?_ (Jn (Nb:=["line"]) (cp:=[none]) rfl (by decide +kernel) (by decide +kernel) rfl rfl) ?_ (fun _ _ _ _ _=>?_) (fun _ _ _ _ _=>?_) ?_ ?_
 first | exact .inl rfl | exact .inr rfl
 exact rfl
 refine Zs ?_
 exact Qb 0
 exact QM (i:=0) (x:="line") (show List.Nodup (["line"]:List Str) from by decide +kernel) rfl (Or.inl rfl)
 exact XA
 exact fun _=>rfl
 exact rfl
 refine Qf ?_ ?_
 refine Qn ?_ ?_ ?_ ?_ ?_ ?_
 exact sc__law_blocks.nd
 exact rfl
 exact (Or.inl rfl)
 refine Jo ?_
 exact Qd
 exact rfl
 first | exact .inl rfl | exact .inr rfl
 refine Qf ?_ ?_
 refine ZS ?_ ?_ ?_ ?_ ?_ ?_
 exact PassesOwn.never
 exact rfl
 refine XF ?_ ?_ ?_ ?_
 exact rfl
 exact b_range
 refine Qa ?_ ?_
 refine Qx Qy Qs ?_ ?_ PySem.boot_len ?_ ?_ ?_ ?_ ?_
 exact rfl
 exact b_len
 refine Qa ?_ ?_
 exact Qb 0
 exact Qd
 decide
 decide
 exact rfl
 exact rfl
 exact Qd
 exact rfl
 exact QM (i:=3) (x:="k") sc__law_blocks.nd rfl (Or.inl rfl)
 refine Qf ?_ ?_
 refine QT ?_ ?_ ?_
 refine PMW.pt ?_
 refine XB ?_ ?_
 refine Qr (Q4 ?_) Qk ?_ ?_
 exact hu
 refine Qo ?_ ?_
 refine Qo ?_ ?_
 exact Qb 0
 exact Qb 3
 exact Qe
 exact QW
 refine Xq ?_
 refine Qr (Q4 ?_) Qk ?_ ?_
 exact hu
 refine Qo ?_ ?_
 refine Qo ?_ ?_
 exact Qb 0
 exact Qb 3
 exact Qe
 exact QW
 refine Qj ?_
 refine QE ?_
 refine JD PySem.F.plainAttrs_list PySem.F.slot_list_append PySem.F.type_list_append QD ?_ ?_
 exact Qb 2
 refine Qa ?_ ?_
 refine Jo ?_
 refine Qa ?_ ?_
 exact Qb 3
 refine Qa ?_ ?_
 exact Qb 3
 refine Qa ?_ ?_
 exact Qb 3
 exact Qd
 exact Qd
 exact QK
 refine Qf ?_ ?_
 refine QT ?_ ?_ ?_
 refine Qr Vn Qk ?_ ?_
 refine Qx Qy Qs ?_ ?_ PySem.boot_len ?_ ?_ ?_ ?_ ?_
 exact rfl
 exact b_len
 refine Qa ?_ ?_
 exact Qb 2
 exact Qd
 decide
 decide
 exact rfl
 exact rfl
 exact Qe
 refine Qj ?_
 refine V4 ?_ ?_ ?_ ?_ ?_ ?_
 exact Qb 1
 exact Qb 3
 refine Qo ?_ ?_
 exact Qb 2
 refine VH ?_
 exact Qe
 exact fun _=>rfl
 exact rfl
 exact rfl
 exact QK
 refine Qf ?_ ?_
 refine QT ?_ ?_ ?_
 refine Qr (Q4 ?_) Qk ?_ ?_
 exact hu
 refine Qo ?_ ?_
 refine Qo ?_ ?_
 exact Qb 0
 exact Qb 3
 exact Qe
 exact QW
 refine Qj ?_
 refine V4 ?_ ?_ ?_ ?_ ?_ ?_
 refine Qo ?_ ?_
 exact Qb 2
 refine VH ?_
 exact Qe
 exact Qe
 exact Qb 3
 exact fun _=>rfl
 exact rfl
 exact rfl
 exact QK
 refine Qj ?_
 refine QT ?_ ?_ ?_
 refine Qr (Q4 ?_) Qk ?_ ?_
 exact hu
 refine Qo ?_ ?_
 refine Qo ?_ ?_
 exact Qb 0
 exact Qb 3
 exact Qe
 exact QW
 refine Qf ?_ ?_
 refine V4 ?_ ?_ ?_ ?_ ?_ ?_
 refine Qo ?_ ?_
 exact Qb 2
 refine VH ?_
 exact Qe
 exact Qe
 exact Qb 3
 exact fun _=>rfl
 exact rfl
 exact rfl
 refine Qj ?_
 refine QE ?_
 refine QdU PySem.F.plainAttrs_list PySem.F.slot_list_pop PySem.F.type_list_pop Qbq ?_
 exact Qb 2
 exact QK
 exact fun _=>rfl
 refine Qj ?_
 refine Qu ?_
 exact Qb 1
noncomputable def QL:FM:=box frN Zv
theorem Kg (d:DefAt K mg "_law_blocks" ZI ["lines"]) (b_len:mg "len"=none) (b_range:mg "range"=none):Cal P w K mg base 1 "_law_blocks" ["lines"] QL:=(X1 d b_len b_range).box frN
noncomputable abbrev ZD:Stmt:=top 25
theorem Yu:FnScope ["manner","spot"] ["manner","spot"] (Qp ZD):=⟨rfl,rfl,rfl,by decide +kernel,rfl,by decide +kernel,by decide +kernel⟩
noncomputable def Jm:FM:=Zo 0
  (QJ (Vo (WJ (Qm wIx (Qg 1) (mC (.int 3)))) (J2 (mFn Xs Ql)) ZH)
  (J2 (Zw Vu (QY (Qg 0)) [none,none,some 1] (Va [0,1]) (QA (Qm wEq (Qg 1) (mSl (Qg 2) (Kf (mC (.int 1))) (Kf (mC (.int 3)))))) (Qg 0))))
set_option maxHeartbeats 4000000 in
theorem KE (d:DefAt K mg "_law_given" ZD ["manner","spot"]):Cal P w K mg base 1 "_law_given" ["manner","spot"] Jm:=by
 refine Zk (k:=0) (more:=0) d Yu rfl fun f cdv A outer s H E hr=>?_
 have hu:=hr.units
 refine Qf ?_ ?_
 refine QT ?_ ?_ ?_
 refine JP ?_
 refine Qo ?_ ?_
 exact Qb 1
 exact Qe
 refine Qj ?_
 refine Qu ?_
 refine ZG ?_
 exact Qd
 exact QK
 refine Qj ?_
 refine Qu ?_
 refine Yl JA ?_ (KS (ks:=["spot"]) (Nb:=["word","place","spot"]) (cp:=[none,none,some 1]) (N:=["manner","spot"]) (xs:=(Qp ZD)) rfl rfl (by decide +kernel) rfl (by decide +kernel) (by intro p hp;simp only [List.mem_cons,List.not_mem_nil,or_false] at hp;rcases hp with rfl<;>rfl) rfl rfl rfl (by decide +kernel)) ?_ (fun _ _ _ _ _=>?_) (fun _ _ _ _ _=>?_) (fun _ _ _ _ _=>?_)
 exact rfl
 refine Zs ?_
 exact Qb 0
 refine J3 (is:=[0,1]) ?_ ?_ ?_ ?_
 exact rfl
 refine QO (i:=0) (x:="word") (show List.Nodup (["word","place","spot"]:List Str) from by decide +kernel) rfl (Or.inl rfl) ?_ ?_
 refine QO (i:=1) (x:="place") (show List.Nodup (["word","place","spot"]:List Str) from by decide +kernel) rfl (Or.inl rfl) ?_ ?_
 exact J5
 first | exact .inl rfl | exact .inr rfl
 first | exact .inl rfl | exact .inr rfl
 exact rfl
 exact rfl
 refine Qr (Q4 ?_) Qk ?_ ?_
 exact hu
 exact Qb 1
 refine Xl ?_ ?_ ?_
 exact Qb 2
 refine VQ ?_
 exact Qe
 refine VQ ?_
 exact Qe
 exact Qb 0
noncomputable def Ze:FM:=box frN Jm
theorem KH (d:DefAt K mg "_law_given" ZD ["manner","spot"]):Cal P w K mg base 1 "_law_given" ["manner","spot"] Ze:=(KE d).box frN
noncomputable abbrev Jw:Stmt:=top 24
theorem sc__law_made:FnScope ["program","spot","lines"] ["program","spot"] (Qp Jw):=⟨rfl,rfl,rfl,by decide +kernel,rfl,by decide +kernel,by decide +kernel⟩
noncomputable def ZE:FM:=Zo 1
  (QJ (Zi 2 (Qm wIx (Qm wIx (Qg 0) (Qm wIx (Qg 1) (mC (.int 1)))) (mC (.int 1))))
  (QJ (Vo (Vc (Wa (WJ (Qm wIx (Qg 1) (mC (.int 3))))) (Vc (QA (Qm wLt (Qm wIx (Qg 1) (mC (.int 2))) (mFn JS (Qc (Qg 2) Ql)))) (QA (Qm wEq (Qm wIx (Qm wIx (Qg 2) (Qm wIx (Qg 1) (mC (.int 2)))) (mC (.int 0))) (mC (.str "pair")))))) (J2 (Qm wIx (Qm wIx (Qg 2) (Qm wIx (Qg 1) (mC (.int 2)))) (mC (.int 2)))) ZH)
  (J2 (mC .non))))
set_option maxHeartbeats 4000000 in
theorem Yo (d:DefAt K mg "_law_made" Jw ["program","spot"]) (b_len:mg "len"=none):Cal P w K mg base 1 "_law_made" ["program","spot"] ZE:=by
 refine Zk (k:=0) (more:=1) d sc__law_made rfl fun f cdv A outer s H E hr=>?_
 have hu:=hr.units
 refine Qf ?_ ?_
 refine Qn ?_ ?_ ?_ ?_ ?_ ?_
 exact sc__law_made.nd
 exact rfl
 exact (Or.inl rfl)
 refine Qo ?_ ?_
 refine Qo ?_ ?_
 exact Qb 0
 refine Qo ?_ ?_
 exact Qb 1
 exact Qe
 exact Qe
 exact rfl
 first | exact .inl rfl | exact .inr rfl
 refine Qf ?_ ?_
 refine QT ?_ ?_ ?_
 refine PMW.pt ?_
 refine JB ?_ ?_
 refine Kc ?_
 refine JP ?_
 refine Qo ?_ ?_
 exact Qb 1
 exact Qe
 refine JB ?_ ?_
 refine Qr Wx Qk ?_ ?_
 refine Qo ?_ ?_
 exact Qb 1
 exact Qe
 refine Qx Qy Qs ?_ ?_ PySem.boot_len ?_ ?_ ?_ ?_ ?_
 exact rfl
 exact b_len
 refine Qa ?_ ?_
 exact Qb 2
 exact Qd
 decide
 decide
 exact rfl
 exact rfl
 refine Jh ?_
 refine Qr (Q4 ?_) Qk ?_ ?_
 exact hu
 refine Qo ?_ ?_
 refine Qo ?_ ?_
 exact Qb 2
 refine Qo ?_ ?_
 exact Qb 1
 exact Qe
 exact Qe
 exact QW
 refine Qj ?_
 refine Qu ?_
 refine Qo ?_ ?_
 refine Qo ?_ ?_
 exact Qb 2
 refine Qo ?_ ?_
 exact Qb 1
 exact Qe
 exact Qe
 exact QK
 refine Qj ?_
 refine Qu ?_
 exact XA
noncomputable def Zx:FM:=box frN ZE
theorem Yh (d:DefAt K mg "_law_made" Jw ["program","spot"]) (b_len:mg "len"=none):Cal P w K mg base 1 "_law_made" ["program","spot"] Zx:=(Yo d b_len).box frN
noncomputable abbrev Js:Stmt:=top 26
theorem sc__law_book:FnScope ["program","manner","run","rooms","found","spot","gone","ahead","room","word"] ["program","manner","run"] (Qp Js):=⟨rfl,rfl,rfl,by decide +kernel,rfl,by decide +kernel,by decide +kernel⟩
noncomputable abbrev Jk:SM:=(Qb3 (Qg 8) (mC (.int 2)) (Qm (wIn true) (Qm wIx (Qg 8) (mC (.int 0))) (Qg 6)))
noncomputable abbrev Vd:SM:=(QJ (Zi 6 (Qv 2 Ze (Qc (Qg 1) (Qc (Qg 5) Ql))))
  (QJ (Zi 7 (Zw Vu (QY (Qg 3)) [none] (Jy 0) (WJ (Qm wIx (Qg 0) (mC (.int 2)))) (Qg 0)))
  (QJ (VM (QY (Qg 7)) (Jy 8)
  Jk)
  (QJ (ZU (mMt "list" QZ (Qg 4) (Qc (mFn Jj (Qc (Qg 7) (Qc (Zw Vu (QY (Qg 7)) [none] (Jy 0) (WJ (Qm wIx (Qg 0) (mC (.int 2)))) (Qg 0)) Ql))) Ql)))
  (QJ (Zi 9 (Qv 2 Zx (Qc (Qg 0) (Qc (Qg 5) Ql))))
  (Vo (QA (Qm KM (Qg 9) (mC .non))) (ZU (mMt "list" QZ (Qg 3) (Qc (mFn Ky (Qc (Qg 9) (Qc (Qg 5) (Qc (mC (.bl true)) Ql)))) Ql))) ZH))))))
noncomputable def Ja:FM:=Zo 7
  (QJ (Zi 3 (mFn Ky Ql))
  (QJ (Zi 4 (mFn Ky Ql))
  (QJ (VM (QY (Qg 2)) (Jy 5)
  Vd)
  (J2 (Qg 4)))))
set_option maxHeartbeats 4000000 in
theorem YM (d:DefAt K mg "_law_book" Js ["program","manner","run"]) (c__law_given:Cal P w K mg base 1 "_law_given" ["manner","spot"] Ze) (c__law_made:Cal P w K mg base 1 "_law_made" ["program","spot"] Zx):Cal P w K mg base 2 "_law_book" ["program","manner","run"] Ja:=by
 refine Zk (k:=1) (more:=7) d sc__law_book rfl fun f cdv A outer s H E hr=>?_
 have hu:=hr.units
 refine Qf ?_ ?_
 refine Qn ?_ ?_ ?_ ?_ ?_ ?_
 exact sc__law_book.nd
 exact rfl
 exact (Or.inl rfl)
 refine Jo ?_
 exact Qd
 exact rfl
 first | exact .inl rfl | exact .inr rfl
 refine Qf ?_ ?_
 refine Qn ?_ ?_ ?_ ?_ ?_ ?_
 exact sc__law_book.nd
 exact rfl
 exact (Or.inl rfl)
 refine Jo ?_
 exact Qd
 exact rfl
 first | exact .inl rfl | exact .inr rfl
 refine Qf ?_ ?_
 refine ZS ?_ ?_ ?_ ?_ ?_ ?_
 exact PassesOwn.never
 exact rfl
 refine Zs ?_
 exact Qb 2
 exact QM (i:=5) (x:="spot") sc__law_book.nd rfl (Or.inl rfl)
 refine Qf ?_ ?_
 refine Qn ?_ ?_ ?_ ?_ ?_ ?_
 exact sc__law_book.nd
 exact rfl
 exact (Or.inl rfl)
 refine Qi (k:=1) (ps:=["manner","spot"]) ?_ ?_ ?_ ?_ ?_ ?_ ?_ ?_
 exact c__law_given
 exact hr.mono (by decide)
 exact rfl
 refine Qa ?_ ?_
 exact Qb 1
 refine Qa ?_ ?_
 exact Qb 5
 exact Qd
 exact rfl
 decide
 exact rfl
 exact rfl
 exact rfl
 first | exact .inl rfl | exact .inr rfl
 refine Qf ?_ ?_
 refine Qbr sc__law_book.nd rfl (Or.inl rfl) ?_ JA ?_ (Jn (Nb:=["room"]) (cp:=[none]) rfl (by decide +kernel) (by decide +kernel) rfl rfl) ?_ (fun _ _ _ _ _=>?_) (fun _ _ _ _ _=>?_) (fun _ _ _ _ _=>?_) ?_ ?_
 first | exact .inl rfl | exact .inr rfl
 exact rfl
 refine Zs ?_
 exact Qb 3
 exact QM (i:=0) (x:="room") (show List.Nodup (["room"]:List Str) from by decide +kernel) rfl (Or.inl rfl)
 refine JP ?_
 refine Qo ?_ ?_
 exact Qb 0
 exact Qe
 exact Qb 0
 exact fun _=>rfl
 exact rfl
 refine Qf ?_ ?_
 refine ZS ?_ ?_ ?_ ?_ ?_ ?_
 exact PassesOwn.never
 exact rfl
 refine Zs ?_
 exact Qb 7
 exact QM (i:=8) (x:="room") sc__law_book.nd rfl (Or.inl rfl)
 refine Qj ?_
 refine V4 ?_ ?_ ?_ ?_ ?_ ?_
 exact Qb 8
 exact Qe
 refine QgO (Qa4 ?_) Qk ?_ ?_
 exact hu
 refine Qo ?_ ?_
 exact Qb 8
 exact Qe
 exact Qb 6
 exact fun _=>rfl
 exact rfl
 exact rfl
 exact fun _=>rfl
 refine Qf ?_ ?_
 refine QE ?_
 refine JD PySem.F.plainAttrs_list PySem.F.slot_list_append PySem.F.type_list_append QD ?_ ?_
 exact Qb 4
 refine Qa ?_ ?_
 refine QF ?_
 refine Qa ?_ ?_
 exact Qb 7
 refine Qa ?_ ?_
 refine Yl JA ?_ (Jn (Nb:=["room"]) (cp:=[none]) rfl (by decide +kernel) (by decide +kernel) rfl rfl) ?_ (fun _ _ _ _ _=>?_) (fun _ _ _ _ _=>?_) (fun _ _ _ _ _=>?_)
 exact rfl
 refine Zs ?_
 exact Qb 7
 exact QM (i:=0) (x:="room") (show List.Nodup (["room"]:List Str) from by decide +kernel) rfl (Or.inl rfl)
 refine JP ?_
 refine Qo ?_ ?_
 exact Qb 0
 exact Qe
 exact Qb 0
 exact Qd
 exact Qd
 refine Qf ?_ ?_
 refine Qn ?_ ?_ ?_ ?_ ?_ ?_
 exact sc__law_book.nd
 exact rfl
 exact (Or.inl rfl)
 refine Qi (k:=1) (ps:=["program","spot"]) ?_ ?_ ?_ ?_ ?_ ?_ ?_ ?_
 exact c__law_made
 exact hr.mono (by decide)
 exact rfl
 refine Qa ?_ ?_
 exact Qb 0
 refine Qa ?_ ?_
 exact Qb 5
 exact Qd
 exact rfl
 decide
 exact rfl
 exact rfl
 exact rfl
 first | exact .inl rfl | exact .inr rfl
 refine Qj ?_
 refine QT ?_ ?_ ?_
 refine Qr X4 Qk ?_ ?_
 exact Qb 9
 exact XA
 refine Qj ?_
 refine QE ?_
 refine JD PySem.F.plainAttrs_list PySem.F.slot_list_append PySem.F.type_list_append QD ?_ ?_
 exact Qb 3
 refine Qa ?_ ?_
 refine Jo ?_
 refine Qa ?_ ?_
 exact Qb 9
 refine Qa ?_ ?_
 exact Qb 5
 refine Qa ?_ ?_
 exact V2
 exact Qd
 exact Qd
 exact QK
 exact fun _=>rfl
 refine Qj ?_
 refine Qu ?_
 exact Qb 4
noncomputable def ZZ:FM:=box frN Ja
theorem Yn (d:DefAt K mg "_law_book" Js ["program","manner","run"]) (c__law_given:Cal P w K mg base 1 "_law_given" ["manner","spot"] Ze) (c__law_made:Cal P w K mg base 1 "_law_made" ["program","spot"] Zx):Cal P w K mg base 2 "_law_book" ["program","manner","run"] ZZ:=(YM d c__law_given c__law_made).box frN
noncomputable abbrev Z8:Stmt:=top 28
theorem YL:FnScope ["found"] ["found"] (Qp Z8):=⟨rfl,rfl,rfl,by decide +kernel,rfl,by decide +kernel,by decide +kernel⟩
noncomputable def Vf:FM:=Zo 0
  (J2 (Qix (mFn Qd3 (Qc (Qg 0) (Qc (mC (.ty "int")) Ql))) (QiI (mFn Qd3 (Qc (Qg 0) (Qc (mC (.ty "bool")) Ql))))))
set_option maxHeartbeats 4000000 in
theorem Kz (d:DefAt K mg "_law_whole" Z8 ["found"]) (b_bool:mg "bool"=none) (b_int:mg "int"=none) (b_isinstance:mg "isinstance"=none):Cal P w K mg base 1 "_law_whole" ["found"] Vf:=by
 refine Zk (k:=0) (more:=0) d YL rfl fun f cdv A outer s H E hr=>?_
 have hu:=hr.units
 refine Qj ?_
 refine Qu ?_
 refine Qhr ?_ ?_
 refine Qx Xg Qs ?_ ?_ PyProof.Rows.boot_isinstance ?_ ?_ ?_ ?_ ?_
 exact rfl
 exact b_isinstance
 refine Qa ?_ ?_
 exact Qb 0
 refine Qa ?_ ?_
 exact QcL rfl b_int PyProof.Rows.boot_int
 exact Qd
 decide
 decide
 exact rfl
 exact rfl
 refine Qgo ?_
 refine QhK ?_
 refine Qx Xg Qs ?_ ?_ PyProof.Rows.boot_isinstance ?_ ?_ ?_ ?_ ?_
 exact rfl
 exact b_isinstance
 refine Qa ?_ ?_
 exact Qb 0
 refine Qa ?_ ?_
 exact QcL rfl b_bool PyProof.Rows.boot_bool
 exact Qd
 decide
 decide
 exact rfl
 exact rfl
noncomputable def ZF:FM:=box frN Vf
theorem KB (d:DefAt K mg "_law_whole" Z8 ["found"]) (b_bool:mg "bool"=none) (b_int:mg "int"=none) (b_isinstance:mg "isinstance"=none):Cal P w K mg base 1 "_law_whole" ["found"] ZF:=(Kz d b_bool b_int b_isinstance).box frN
noncomputable abbrev Wh:Stmt:=top 29
theorem sc_law:FnScope ["script","k","program","rows","feed","manner","run","handed","found","due","pair"] ["script"] (Qp Wh):=⟨rfl,rfl,rfl,by decide +kernel,rfl,by decide +kernel,by decide +kernel⟩
noncomputable abbrev Yj:SM:=(Vo (GB (Wa (WJ (mFn Qd3 (Qc (Qg 10) (Qc (mC (.ty "tuple")) Ql))))) (GB (Wa (WJ (Qv 1 ZF (Qc (Qm wIx (Qg 10) (mC (.int 0))) Ql)))) (Wa (WJ (Qv 1 ZF (Qc (Qm wIx (Qg 10) (mC (.int 1))) Ql)))))) (J2 (mC (.bl false))) ZH)
noncomputable abbrev K5:SM:=(QJ (Zi 2 (Qv 2 JM (Qc (Qv 2 Zb (Qc (Qg 0) (Qc (Qg 1) Ql))) (Qc (mFn Xs (Qc (mC (.int 3)) (Qc (mC (.int 4)) (Qc (mC (.int 3)) (Qc (mC (.int 8)) Ql))))) Ql))))
  (QJ (Zi 3 (Zw Vu (QY (Qg 2)) [none] (Jy 0) XR (Qv 1 QL (Qc (Qm wIx (Qg 0) (mC (.int 1))) Ql))))
  (QJ (Zi 4 (Qv 2 Zb (Qc (Qg 0) (Qc (Qm Vt (Qg 1) (mC (.int 1))) Ql))))
  (QJ (Zi 5 (Qv 2 ZM (Qc (Qg 2) (Qc (Qg 4) Ql))))
  (QJ (Zi 6 (Qv 4 JX (Qc (Qg 2) (Qc (Qg 3) (Qc (Qg 4) (Qc (mC (.int 12)) Ql))))))
  (QJ (Zi 7 (mFn Xs (Qc (mFn Qbe (Qc (Qg 5) Ql)) (Qc (mFn Qbe (Qc (Qg 6) Ql)) Ql))))
  (QJ (Zi 8 (Qv 3 Vg (Qc (Qg 2) (Qc (Qm wIx (Qg 7) (mC (.int 0))) (Qc (Qm wIx (Qg 7) (mC (.int 1))) Ql)))))
  (QJ (Zi 9 (Zw Vu (QY (Qv 3 ZZ (Qc (Qg 2) (Qc (Qg 5) (Qc (Qg 6) Ql))))) [none,none] (Va [0,1]) XR (mFn Jj (Qc (mFn JS (Qc (Qg 0) Ql)) (Qc (mFn JS (Qc (Qg 1) Ql)) Ql)))))
  (QJ (Vo (GB (Wa (WJ (mFn Qd3 (Qc (Qg 8) (Qc (mC (.ty "list")) Ql))))) (GB (QA (Qm wNe (Qg 8) (Qg 9))) (QA (Qm wNe (Qg 7) (mFn Xs (Qc (Qg 5) (Qc (Qg 6) Ql))))))) (J2 (mC (.bl false))) ZH)
  (VM (QY (Qg 8)) (Jy 10)
  Yj))))))))))
noncomputable def Xt:FM:=Zo 10
  (QJ (VM (Qh4 (Qc (mC (.int 0)) (Qc (mFn QhE (Qc (mC (.int 2)) (Qc (mFn QgH (Qc (mC (.int 6)) (Qc (mFn JS (Qc (Qg 0) Ql)) Ql))) Ql))) (Qc (mC (.int 2)) Ql)))) (Jy 1)
  K5)
  (J2 (mC (.bl true))))
set_option maxHeartbeats 4000000 in
theorem QfY (d:DefAt K mg "law" Wh ["script"]) (b_isinstance:mg "isinstance"=none) (b_len:mg "len"=none) (b_list:mg "list"=none) (b_max:mg "max"=none) (b_min:mg "min"=none) (b_range:mg "range"=none) (b_tuple:mg "tuple"=none) (c__law_any:Cal P w K mg base 5 "_law_any" ["feed","bounds"] JM) (c__law_blocks:Cal P w K mg base 1 "_law_blocks" ["lines"] QL) (c__law_book:Cal P w K mg base 2 "_law_book" ["program","manner","run"] ZZ) (c__law_feed:Cal P w K mg base 1 "_law_feed" ["script","k"] Zb) (c__law_manner:Cal P w K mg base 2 "_law_manner" ["program","feed"] ZM) (c__law_run:Cal P w K mg base 2 "_law_run" ["program","rows","feed","most_choices"] JX) (c__law_whole:Cal P w K mg base 1 "_law_whole" ["found"] ZF) (c_counted:Cal P w K mg base 3 "counted" ["program","manner","run"] Vg):Cal P w K mg base 6 "law" ["script"] Xt:=by
 refine Zk (k:=5) (more:=10) d sc_law rfl fun f cdv A outer s H E hr=>?_
 have hu:=hr.units
 refine Qf ?_ ?_
 refine ZS ?_ ?_ ?_ ?_ ?_ ?_
 exact PassesOwn.never
 exact rfl
 refine QhU ?_ ?_ ?_ ?_ ?_
 exact rfl
 exact b_range
 refine Qa ?_ ?_
 exact Qe
 refine Qa ?_ ?_
 refine Qx (Qaf ?_) Qs ?_ ?_ PyProof.Rows.boot_max ?_ ?_ ?_ ?_ ?_
 exact rfl
 exact rfl
 exact b_max
 refine Qa ?_ ?_
 exact Qe
 refine Qa ?_ ?_
 refine Qx (QbM ?_) Qs ?_ ?_ PyProof.Rows.boot_min ?_ ?_ ?_ ?_ ?_
 exact rfl
 exact rfl
 exact b_min
 refine Qa ?_ ?_
 exact Qe
 refine Qa ?_ ?_
 refine Qx Qy Qs ?_ ?_ PySem.boot_len ?_ ?_ ?_ ?_ ?_
 exact rfl
 exact b_len
 refine Qa ?_ ?_
 exact Qb 0
 exact Qd
 decide
 decide
 exact rfl
 exact rfl
 exact Qd
 decide
 decide
 exact rfl
 exact rfl
 exact Qd
 decide
 decide
 exact rfl
 exact rfl
 refine Qa ?_ ?_
 exact Qe
 exact Qd
 exact rfl
 exact rfl
 exact QM (i:=1) (x:="k") sc_law.nd rfl (Or.inl rfl)
 refine Qf ?_ ?_
 refine Qn ?_ ?_ ?_ ?_ ?_ ?_
 exact sc_law.nd
 exact rfl
 exact (Or.inl rfl)
 refine Qi (k:=5) (ps:=["feed","bounds"]) ?_ ?_ ?_ ?_ ?_ ?_ ?_ ?_
 exact c__law_any
 exact hr.mono (by decide)
 exact rfl
 refine Qa ?_ ?_
 refine Qi (k:=1) (ps:=["script","k"]) ?_ ?_ ?_ ?_ ?_ ?_ ?_ ?_
 exact c__law_feed
 exact hr.mono (by decide)
 exact rfl
 refine Qa ?_ ?_
 exact Qb 0
 refine Qa ?_ ?_
 exact Qb 1
 exact Qd
 exact rfl
 decide
 exact rfl
 exact rfl
 refine Qa ?_ ?_
 refine ZG ?_
 refine Qa ?_ ?_
 exact Qe
 refine Qa ?_ ?_
 exact Qe
 refine Qa ?_ ?_
 exact Qe
 refine Qa ?_ ?_
 exact Qe
 exact Qd
 exact Qd
 exact rfl
 decide
 exact rfl
 exact rfl
 exact rfl
 first | exact .inl rfl | exact .inr rfl
 refine Qf ?_ ?_
 refine Xb sc_law.nd rfl (Or.inl rfl) ?_ JA ?_ (Jn (Nb:=["part"]) (cp:=[none]) rfl (by decide +kernel) (by decide +kernel) rfl rfl) ?_ (fun _ _ _ _ _=>?_) (fun _ _ _ _ _=>?_) ?_ ?_
 first | exact .inl rfl | exact .inr rfl
 exact rfl
 refine Zs ?_
 exact Qb 2
 exact QM (i:=0) (x:="part") (show List.Nodup (["part"]:List Str) from by decide +kernel) rfl (Or.inl rfl)
 refine Qi (k:=1) (ps:=["lines"]) ?_ ?_ ?_ ?_ ?_ ?_ ?_ ?_
 exact c__law_blocks
 exact hr.mono (by decide)
 exact rfl
 refine Qa ?_ ?_
 refine Qo ?_ ?_
 exact Qb 0
 exact Qe
 exact Qd
 exact rfl
 decide
 exact rfl
 exact rfl
 exact fun _=>rfl
 exact rfl
 refine Qf ?_ ?_
 refine Qn ?_ ?_ ?_ ?_ ?_ ?_
 exact sc_law.nd
 exact rfl
 exact (Or.inl rfl)
 refine Qi (k:=1) (ps:=["script","k"]) ?_ ?_ ?_ ?_ ?_ ?_ ?_ ?_
 exact c__law_feed
 exact hr.mono (by decide)
 exact rfl
 refine Qa ?_ ?_
 exact Qb 0
 refine Qa ?_ ?_
 refine QU QQ Qk ?_ ?_
 exact Qb 1
 exact Qe
 exact Qd
 exact rfl
 decide
 exact rfl
 exact rfl
 exact rfl
 first | exact .inl rfl | exact .inr rfl
 refine Qf ?_ ?_
 refine Qn ?_ ?_ ?_ ?_ ?_ ?_
 exact sc_law.nd
 exact rfl
 exact (Or.inl rfl)
 refine Qi (k:=2) (ps:=["program","feed"]) ?_ ?_ ?_ ?_ ?_ ?_ ?_ ?_
 exact c__law_manner
 exact hr.mono (by decide)
 exact rfl
 refine Qa ?_ ?_
 exact Qb 2
 refine Qa ?_ ?_
 exact Qb 4
 exact Qd
 exact rfl
 decide
 exact rfl
 exact rfl
 exact rfl
 first | exact .inl rfl | exact .inr rfl
 refine Qf ?_ ?_
 refine Qn ?_ ?_ ?_ ?_ ?_ ?_
 exact sc_law.nd
 exact rfl
 exact (Or.inl rfl)
 refine Qi (k:=2) (ps:=["program","rows","feed","most_choices"]) ?_ ?_ ?_ ?_ ?_ ?_ ?_ ?_
 exact c__law_run
 exact hr.mono (by decide)
 exact rfl
 refine Qa ?_ ?_
 exact Qb 2
 refine Qa ?_ ?_
 exact Qb 3
 refine Qa ?_ ?_
 exact Qb 4
 refine Qa ?_ ?_
 exact Qe
 exact Qd
 exact rfl
 decide
 exact rfl
 exact rfl
 exact rfl
 first | exact .inl rfl | exact .inr rfl
 refine Qf ?_ ?_
 refine Qn ?_ ?_ ?_ ?_ ?_ ?_
 exact sc_law.nd
 exact rfl
 exact (Or.inl rfl)
 refine ZG ?_
 refine Qa ?_ ?_
 refine Jp KK Qs ?_ ?_ PyProof.Rows.boot_list ?_ ?_ ?_ ?_ ?_
 exact rfl
 exact b_list
 refine Qa ?_ ?_
 exact Qb 5
 exact Qd
 decide
 decide
 exact rfl
 exact rfl
 refine Qa ?_ ?_
 refine Jp KK Qs ?_ ?_ PyProof.Rows.boot_list ?_ ?_ ?_ ?_ ?_
 exact rfl
 exact b_list
 refine Qa ?_ ?_
 exact Qb 6
 exact Qd
 decide
 decide
 exact rfl
 exact rfl
 exact Qd
 exact rfl
 first | exact .inl rfl | exact .inr rfl
 refine Qf ?_ ?_
 refine Qn ?_ ?_ ?_ ?_ ?_ ?_
 exact sc_law.nd
 exact rfl
 exact (Or.inl rfl)
 refine Qi (k:=3) (ps:=["program","manner","run"]) ?_ ?_ ?_ ?_ ?_ ?_ ?_ ?_
 exact c_counted
 exact hr.mono (by decide)
 exact rfl
 refine Qa ?_ ?_
 exact Qb 2
 refine Qa ?_ ?_
 refine Qo ?_ ?_
 exact Qb 7
 exact Qe
 refine Qa ?_ ?_
 refine Qo ?_ ?_
 exact Qb 7
 exact Qe
 exact Qd
 exact rfl
 decide
 exact rfl
 exact rfl
 exact rfl
 first | exact .inl rfl | exact .inr rfl
 refine Qf ?_ ?_
 refine Xb sc_law.nd rfl (Or.inl rfl) ?_ JA ?_ (Jn (Nb:=["ahead","behind"]) (cp:=[none,none]) rfl (by decide +kernel) (by decide +kernel) rfl rfl) ?_ (fun _ _ _ _ _=>?_) (fun _ _ _ _ _=>?_) ?_ ?_
 first | exact .inl rfl | exact .inr rfl
 exact rfl
 refine Zs ?_
 refine Qi (k:=2) (ps:=["program","manner","run"]) ?_ ?_ ?_ ?_ ?_ ?_ ?_ ?_
 exact c__law_book
 exact hr.mono (by decide)
 exact rfl
 refine Qa ?_ ?_
 exact Qb 2
 refine Qa ?_ ?_
 exact Qb 5
 refine Qa ?_ ?_
 exact Qb 6
 exact Qd
 exact rfl
 decide
 exact rfl
 exact rfl
 refine J3 (is:=[0,1]) ?_ ?_ ?_ ?_
 exact rfl
 refine QO (i:=0) (x:="ahead") (show List.Nodup (["ahead","behind"]:List Str) from by decide +kernel) rfl (Or.inl rfl) ?_ ?_
 refine QO (i:=1) (x:="behind") (show List.Nodup (["ahead","behind"]:List Str) from by decide +kernel) rfl (Or.inl rfl) ?_ ?_
 exact J5
 first | exact .inl rfl | exact .inr rfl
 first | exact .inl rfl | exact .inr rfl
 exact rfl
 exact rfl
 refine QF ?_
 refine Qa ?_ ?_
 refine Qx Qy Qs ?_ ?_ PySem.boot_len ?_ ?_ ?_ ?_ ?_
 exact rfl
 exact b_len
 refine Qa ?_ ?_
 exact Qb 0
 exact Qd
 decide
 decide
 exact rfl
 exact rfl
 refine Qa ?_ ?_
 refine Qx Qy Qs ?_ ?_ PySem.boot_len ?_ ?_ ?_ ?_ ?_
 exact rfl
 exact b_len
 refine Qa ?_ ?_
 exact Qb 1
 exact Qd
 decide
 decide
 exact rfl
 exact rfl
 exact Qd
 exact fun _=>rfl
 exact rfl
 refine Qf ?_ ?_
 refine QT ?_ ?_ ?_
 refine PMW.pt ?_
 refine XB ?_ ?_
 refine Kc ?_
 refine JP ?_
 refine Qx Xg Qs ?_ ?_ PyProof.Rows.boot_isinstance ?_ ?_ ?_ ?_ ?_
 exact rfl
 exact b_isinstance
 refine Qa ?_ ?_
 exact Qb 8
 refine Qa ?_ ?_
 exact QcL rfl b_list PyProof.Rows.boot_list
 exact Qd
 decide
 decide
 exact rfl
 exact rfl
 refine XB ?_ ?_
 refine Qr (QdA ?_) Qk ?_ ?_
 exact hu
 exact Qb 8
 exact Qb 9
 refine Xq ?_
 refine Qr (QdA ?_) Qk ?_ ?_
 exact hu
 exact Qb 7
 refine ZG ?_
 refine Qa ?_ ?_
 exact Qb 5
 refine Qa ?_ ?_
 exact Qb 6
 exact Qd
 refine Qj ?_
 refine Qu ?_
 exact V2
 exact QK
 refine Qj ?_
 refine ZS ?_ ?_ ?_ ?_ ?_ ?_
 exact PassesOwn.never
 exact rfl
 refine Zs ?_
 exact Qb 8
 exact QM (i:=10) (x:="pair") sc_law.nd rfl (Or.inl rfl)
 refine Qj ?_
 refine QT ?_ ?_ ?_
 refine PMW.pt ?_
 refine XB ?_ ?_
 refine Kc ?_
 refine JP ?_
 refine Qx Xg Qs ?_ ?_ PyProof.Rows.boot_isinstance ?_ ?_ ?_ ?_ ?_
 exact rfl
 exact b_isinstance
 refine Qa ?_ ?_
 exact Qb 10
 refine Qa ?_ ?_
 exact QcL rfl b_tuple PyProof.Rows.boot_tuple
 exact Qd
 decide
 decide
 exact rfl
 exact rfl
 refine XB ?_ ?_
 refine Kc ?_
 refine JP ?_
 refine Qi (k:=1) (ps:=["found"]) ?_ ?_ ?_ ?_ ?_ ?_ ?_ ?_
 exact c__law_whole
 exact hr.mono (by decide)
 exact rfl
 refine Qa ?_ ?_
 refine Qo ?_ ?_
 exact Qb 10
 exact Qe
 exact Qd
 exact rfl
 decide
 exact rfl
 exact rfl
 refine Xq ?_
 refine Kc ?_
 refine JP ?_
 refine Qi (k:=1) (ps:=["found"]) ?_ ?_ ?_ ?_ ?_ ?_ ?_ ?_
 exact c__law_whole
 exact hr.mono (by decide)
 exact rfl
 refine Qa ?_ ?_
 refine Qo ?_ ?_
 exact Qb 10
 exact Qe
 exact Qd
 exact rfl
 decide
 exact rfl
 exact rfl
 refine Qj ?_
 refine Qu ?_
 exact V2
 exact QK
 exact fun _=>rfl
 exact fun _=>rfl
 refine Qj ?_
 refine Qu ?_
 exact V2
end

theorem Qer {P:Program} {w:World} {K:PySem.W.Frag} {mg:Str->Option Value} {base:Heap} (d__law_take:DefAt K mg "_law_take" Jq ["feed","many"]) (d__law_names:DefAt K mg "_law_names" Zd ["feed","many"]) (d__law_step_on:DefAt K mg "_law_step_on" Zu ["lines","opened"]) (d__law_plain:DefAt K mg "_law_plain" Z7 ["feed","boxes","words"]) (d__law_part:DefAt K mg "_law_part" Ju ["feed","size","menus","later","opens","dos"]) (d__law_program:DefAt K mg "_law_program" Zq ["feed","bounds"]) (d__law_great:DefAt K mg "_law_great" Zc ["feed"]) (d__law_any:DefAt K mg "_law_any" JT ["feed","bounds"]) (d__law_feed:DefAt K mg "_law_feed" Jx ["script","k"]) (d__law_words:DefAt K mg "_law_words" Z1 ["program"]) (d__law_manner:DefAt K mg "_law_manner" Zn ["program","feed"]) (d__law_next:DefAt K mg "_law_next" Jr ["program","rows","spot"]) (d__law_run:DefAt K mg "_law_run" JU ["program","rows","feed","most_choices"]) (d_words_by_place:DefAt K mg "words_by_place" Q9 ["manner"]) (d_made_word:DefAt K mg "made_word" Jt ["line"]) (d_add_made:DefAt K mg "add_made" JO ["in_use","line"]) (d_place_of:DefAt K mg "place_of" JN ["spot"]) (d_line_of:DefAt K mg "line_of" Vi ["program","spot"]) (d_counted:DefAt K mg "counted" Vl ["program","manner","run"]) (d__law_blocks:DefAt K mg "_law_blocks" ZI ["lines"]) (d__law_given:DefAt K mg "_law_given" ZD ["manner","spot"]) (d__law_made:DefAt K mg "_law_made" Jw ["program","spot"]) (d__law_book:DefAt K mg "_law_book" Js ["program","manner","run"]) (d__law_whole:DefAt K mg "_law_whole" Z8 ["found"]) (d_law:DefAt K mg "law" Wh ["script"]) (b_bool:mg "bool"=none) (b_enumerate:mg "enumerate"=none) (b_int:mg "int"=none) (b_isinstance:mg "isinstance"=none) (b_len:mg "len"=none) (b_list:mg "list"=none) (b_max:mg "max"=none) (b_min:mg "min"=none) (b_range:mg "range"=none) (b_set:mg "set"=none) (b_sorted:mg "sorted"=none) (b_sum:mg "sum"=none) (b_tuple:mg "tuple"=none):Cal P w K mg base 6 "law" ["script"] Xt:=by
 have c__law_take:Cal P w K mg base 1 "_law_take" ["feed","many"] Qh:=Ym d__law_take
 have c__law_names:Cal P w K mg base 2 "_law_names" ["feed","many"] QB:=Kr d__law_names b_range c__law_take
 have c__law_step_on:Cal P w K mg base 1 "_law_step_on" ["lines","opened"] Qw:=XI d__law_step_on
 have c__law_plain:Cal P w K mg base 2 "_law_plain" ["feed","boxes","words"] QC:=Ku d__law_plain b_len c__law_take
 have c__law_part:Cal P w K mg base 3 "_law_part" ["feed","size","menus","later","opens","dos"] QS:=YR d__law_part b_len b_range b_tuple c__law_plain c__law_step_on c__law_take
 have c__law_program:Cal P w K mg base 4 "_law_program" ["feed","bounds"] Q8:=XG d__law_program b_len b_range b_tuple c__law_names c__law_part c__law_take
 have c__law_great:Cal P w K mg base 4 "_law_great" ["feed"] ZA:=KA d__law_great b_len b_range b_tuple c__law_names c__law_part c__law_plain c__law_step_on c__law_take
 have c__law_any:Cal P w K mg base 5 "_law_any" ["feed","bounds"] JM:=WF d__law_any c__law_great c__law_program c__law_take
 have c__law_feed:Cal P w K mg base 1 "_law_feed" ["script","k"] Zb:=YG d__law_feed b_len
 have c__law_words:Cal P w K mg base 1 "_law_words" ["program"] ZC:=KC d__law_words b_set b_sorted
 have c__law_manner:Cal P w K mg base 2 "_law_manner" ["program","feed"] ZM:=Kh d__law_manner b_enumerate b_len b_range c__law_take c__law_words
 have c__law_next:Cal P w K mg base 1 "_law_next" ["program","rows","spot"] Za:=Yk d__law_next b_len
 have c__law_run:Cal P w K mg base 2 "_law_run" ["program","rows","feed","most_choices"] JX:=WE d__law_run b_len c__law_next c__law_take
 have c_words_by_place:Cal P w K mg base 1 "words_by_place" ["manner"] QX:=Xm d_words_by_place
 have c_made_word:Cal P w K mg base 1 "made_word" ["line"] Zr:=Yw d_made_word
 have c_add_made:Cal P w K mg base 2 "add_made" ["in_use","line"] ZW:=WI d_add_made c_made_word
 have c_place_of:Cal P w K mg base 1 "place_of" ["spot"] Zy:=Wg d_place_of
 have c_line_of:Cal P w K mg base 1 "line_of" ["program","spot"] Zm:=Ug d_line_of b_len
 have c_counted:Cal P w K mg base 3 "counted" ["program","manner","run"] Vg:=Um d_counted b_enumerate b_sum c_add_made c_line_of c_place_of c_words_by_place
 have c__law_blocks:Cal P w K mg base 1 "_law_blocks" ["lines"] QL:=Kg d__law_blocks b_len b_range
 have c__law_given:Cal P w K mg base 1 "_law_given" ["manner","spot"] Ze:=KH d__law_given
 have c__law_made:Cal P w K mg base 1 "_law_made" ["program","spot"] Zx:=Yh d__law_made b_len
 have c__law_book:Cal P w K mg base 2 "_law_book" ["program","manner","run"] ZZ:=Yn d__law_book c__law_given c__law_made
 have c__law_whole:Cal P w K mg base 1 "_law_whole" ["found"] ZF:=KB d__law_whole b_bool b_int b_isinstance
 have c_law:Cal P w K mg base 6 "law" ["script"] Xt:=QfY d_law b_isinstance b_len b_list b_max b_min b_range b_tuple c__law_any c__law_blocks c__law_book c__law_feed c__law_manner c__law_run c__law_whole c_counted
 exact c_law

end My

namespace My3
inductive Cd where
 | ei | ag | oo | en | ot
 deriving DecidableEq
structure En where
 kd:Cd
 fs:Nat
 md:Nat
noncomputable def ch:Cd->Int
 | .ei=>1
 | .ag=>1
 | .en=>-1
 | _=>0
noncomputable def lev (ls:List Cd):Nat->Int
 | 0=>0
 | k+1=>lev ls k+(match ls[k]? with | some c=>ch c | none=>0)
noncomputable def stp (k:Nat) (c:Cd) (st:List En):Option (List En):=match c with
 | .ei=>some (⟨.ei,k,0⟩::st)
 | .ag=>some (⟨.ag,k,0⟩::st)
 | .oo=>match st with
  | e::r=>if e.kd=.ei then some (⟨.oo,e.fs,k⟩::r) else none
  | []=>none
 | .en=>match st with
  | e::r=>if e.kd=.ei then none else some r
  | []=>none
 | .ot=>some st
theorem VI {ls:List Cd} {k:Nat} {c:Cd} (e:ls[k]?=some c):lev ls (k+1)=lev ls k+ch c:=by
 simp only [lev,e]
structure Fit (ls:List Cd) (k t:Nat) (e:En):Prop where
 lt:e.fs < k
 at_:ls[e.fs]?=some .ei\/ls[e.fs]?=some .ag
 lv:lev ls (e.fs+1)+t=lev ls k
 ge:∀ j,e.fs < j->j<=k->lev ls (e.fs+1)<=lev ls j
 kd:e.kd=.ei\/e.kd=.ag\/e.kd=.oo
 ei:e.kd=.ei->∀ j,e.fs < j->j < k->lev ls j=lev ls (e.fs+1)->ls[j]?≠some .oo
 oo:e.kd=.oo->e.fs < e.md/\e.md < k/\ls[e.md]?=some .oo/\lev ls e.md=lev ls (e.fs+1)/\∀ j,e.fs < j->j < e.md->lev ls j=lev ls (e.fs+1)->ls[j]?≠some .oo
noncomputable def QdO (ls:List Cd) (k:Nat):Nat->List En->Prop
 | _,[]=>True
 | t,e::r=>Fit ls k t e/\QdO ls k (t+1) r
structure Mat (ls:List Cd) (k:Nat) (e:En):Prop where
 fit:Fit ls k 0 e
 en:ls[k]?=some .en
 kd:e.kd=.ag\/e.kd=.oo
theorem Qcf {ls:List Cd} {k t t':Nat} {c:Cd} {e:En} (hc:ls[k]?=some c) (h:Fit ls k t e) (ht:(t':Int)=t+ch c) (ho:c=.oo->0 < t):Fit ls (k+1) t' e:=by
 have hl:=VI hc
 have hlv:=h.lv
 have hlt:=h.lt
 refine ⟨by omega,h.at_,by omega,fun j h1 h2=>?_,h.kd,fun q j h1 h2 h3=>?_,fun q=>?_⟩
 ·by_cases z:j<=k
  ·exact h.ge j h1 z
  ·have:j=k+1:=by omega
   subst this;omega
 ·by_cases z:j < k
  ·exact h.ei q j h1 z h3
  ·have:j=k:=by omega
   subst this
   rw [hc]
   intro w
   have w':c=.oo:=by simpa using w
   have:=ho w'
   omega
 ·obtain ⟨a,b,cc,d,f⟩:=h.oo q
  exact ⟨a,by omega,cc,d,f⟩
theorem Vm {ls:List Cd} {k:Nat} {c:Cd} (hc:ls[k]?=some c):∀ (r:List En) (t t':Nat),QdO ls k t r->(t':Int)=t+ch c->(c=.oo->0 < t)->QdO ls (k+1) t' r
 | [],_,_,_,_,_=>True.intro
 | e::r,t,t',h,ht,ho=>⟨Qcf hc h.1 ht ho,Vm hc r (t+1) (t'+1) h.2 (by push_cast;omega) fun _=>by omega⟩
theorem Qcc {ls:List Cd} {k:Nat} {c:Cd} {st st':List En} (hc:ls[k]?=some c) (h:QdO ls k 0 st) (e:stp k c st=some st'):QdO ls (k+1) 0 st':=by
 have hl:=VI hc
 have new:∀ kd:Cd,(kd=.ei\/kd=.ag)->c=kd->Fit ls (k+1) 0 ⟨kd,k,0⟩:=fun kd hk e=>by
  refine ⟨by simp,?_,by simp,fun j h1 h2=>?_,by rcases hk with z | z<;>simp [z],fun q j h1 h2=>?_,fun q=>?_⟩
  ·rw [hc,e];rcases hk with z | z<;>simp [z]
  ·have h1':k < j:=h1
   have:j=k+1:=by omega
   subst this;exact Int.le_refl _
  ·have h1':k < j:=h1
   omega
  ·have q':kd=.oo:=q
   rcases hk with z | z<;>rw [z] at q'<;>cases q'
 cases c with
 | ei=>cases e;exact ⟨new _ (.inl rfl) rfl,Vm hc st 0 1 h (by simp [ch]) (by simp)⟩
 | ag=>cases e;exact ⟨new _ (.inr rfl) rfl,Vm hc st 0 1 h (by simp [ch]) (by simp)⟩
 | ot=>cases e;exact Vm hc st 0 0 h (by simp [ch]) (by simp)
 | oo=>
  cases st with
  | nil=>cases e
  | cons a r=>
   simp only [stp] at e
   split at e
   ·rename_i ha
    cases e
    have hf:=h.1
    have hlv:=hf.lv
    have hlt:=hf.lt
    refine ⟨⟨by show a.fs < k+1;omega,hf.at_,?_,fun j h1 h2=>?_,.inr (.inr rfl),fun q=>(by cases q),fun _=>⟨hlt,Nat.lt_succ_self _,hc,?_,hf.ei ha⟩⟩,Vm hc r 1 1 h.2 (by simp [ch]) (by simp)⟩
    ·show lev ls (a.fs+1)+((0:Nat):Int)=lev ls (k+1)
     rw [hl];simp [ch];simp at hlv;exact hlv
    ·by_cases z:j<=k
     ·exact hf.ge j h1 z
     ·have:j=k+1:=by omega
      subst this
      show lev ls (a.fs+1)<=_
      rw [hl];simp [ch];simp at hlv;omega
    ·show lev ls k=lev ls (a.fs+1)
     simp at hlv;exact hlv.symm
   ·cases e
 | en=>
  cases st with
  | nil=>cases e
  | cons a r=>
   simp only [stp] at e
   split at e
   ·cases e
   ·cases e
    exact Vm hc _ 1 0 h.2 (by simp [ch]) (by simp)
theorem Qfs {ls:List Cd} {k:Nat} {a:En} {r st':List En} (hc:ls[k]?=some .en) (h:QdO ls k 0 (a::r)) (e:stp k .en (a::r)=some st'):Mat ls k a:=by
 simp only [stp] at e
 split at e
 ·cases e
 ·rename_i ha
  refine ⟨h.1,hc,?_⟩
  rcases h.1.kd with z | z | z
  ·exact absurd z ha
  ·exact .inl z
  ·exact .inr z
structure Beh (ls:List Cd) (k:Nat) (c:Cd) (j:Nat):Prop where
 lt:k < j
 at_:ls[j]?=some c
 lv:lev ls j=lev ls (k+1)
 no:∀ i,k < i->i < j->lev ls i=lev ls (k+1)->ls[i]?≠some c
 ge:∀ i,k < i->i<=j->lev ls (k+1)<=lev ls i
structure Ahd (ls:List Cd) (k j:Nat):Prop where
 lt:j < k
 lv:lev ls k=lev ls j+1
 no:∀ i,j < i->i < k->lev ls k≠lev ls i+1
 ge:∀ i,j < i->i<=k->lev ls k<=lev ls i
theorem QeY {ls:List Cd} {k:Nat} {e:En} (m:Mat ls k e):Beh ls e.fs .en k:=by
 have h:=m.fit
 refine ⟨h.lt,m.en,by have:=h.lv;simp at this;omega,fun i h1 h2 h3 q=>?_,h.ge⟩
 have:=VI q
 have g:=h.ge (i+1) (by omega) (by omega)
 simp [ch] at this
 omega
theorem Qci {ls:List Cd} {k:Nat} {e:En} (m:Mat ls k e):Ahd ls k e.fs:=by
 have h:=m.fit
 have hlv:=h.lv
 have e1:lev ls (e.fs+1)=lev ls e.fs+1:=by
  rcases h.at_ with q | q<;>exact VI q
 refine ⟨h.lt,by simp at hlv;omega,fun i h1 h2 h3=>?_,fun i h1 h2=>by have g:=h.ge i h1 h2;simp at hlv;omega⟩
 have g:=h.ge i h1 (by omega)
 simp at hlv
 omega
theorem Qgt {ls:List Cd} {k:Nat} {e:En} (m:Mat ls k e) (ho:e.kd=.oo):Beh ls e.fs .oo e.md:=by
 obtain ⟨a,b,c,d,f⟩:=m.fit.oo ho
 exact ⟨a,c,d,f,fun i h1 h2=>m.fit.ge i h1 (by omega)⟩
theorem Qan {ls:List Cd} {k:Nat} {e:En} (m:Mat ls k e) (ho:e.kd=.oo):Beh ls e.md .en k:=by
 obtain ⟨a,b,c,d,f⟩:=m.fit.oo ho
 have h:=m.fit
 have hlv:=h.lv
 have e1:=VI c
 simp [ch] at e1
 simp at hlv
 refine ⟨b,m.en,by omega,fun i h1 h2 h3 q=>?_,fun i h1 h2=>by have g:=h.ge i (by omega) h2;omega⟩
 have e2:=VI q
 have g:=h.ge (i+1) (by omega) (by omega)
 simp [ch] at e2
 omega
end My3

namespace My4
open My3
noncomputable def pil (ls:List Cd):Nat->Option (List En)
 | 0=>some []
 | k+1=>(pil ls k).bind fun st=>match ls[k]? with | some c=>stp k c st | none=>none
structure Bk where
 trs:List (Nat×Nat×Nat)
 st:List Nat
 rws:List (Option Nat)
noncomputable def top (b:Bk) (f:Nat×Nat×Nat->Nat×Nat×Nat):List (Nat×Nat×Nat):=match b.st with
 | t::_=>b.trs.modify t f
 | []=>b.trs
noncomputable def bst (k:Nat) (c:Cd) (b:Bk):Bk:=match c with
 | .ei=>⟨b.trs++[(k,k,k)],b.trs.length::b.st,b.rws++[some b.trs.length]⟩
 | .ag=>⟨b.trs++[(k,k,k)],b.trs.length::b.st,b.rws++[some b.trs.length]⟩
 | .oo=>⟨top b fun x=>(x.1,k,x.2.2),b.st,b.rws++[b.st.head?]⟩
 | .en=>⟨top b fun x=>(x.1,x.2.1,k),b.st.tail,b.rws++[b.st.head?]⟩
 | .ot=>⟨b.trs,b.st,b.rws++[b.st.head?]⟩
noncomputable def bks (ls:List Cd):Nat->Bk
 | 0=>⟨[],[],[]⟩
 | k+1=>match ls[k]? with | some c=>bst k c (bks ls k) | none=>bks ls k
noncomputable def Kd (ls:List Cd) (e:En):Prop:=(e.kd=.ag/\ls[e.fs]?=some .ag)\/((e.kd=.ei\/e.kd=.oo)/\ls[e.fs]?=some .ei)
inductive Op (ls:List Cd) (trs:List (Nat×Nat×Nat)):List Nat->List En->Prop where
 | nil:Op ls trs [] []
 | cons {t:Nat} {e:En} {st:List Nat} {p:List En} (x:∃ md en,trs[t]?=some (e.fs,md,en)/\(e.kd=.oo->md=e.md)) (k:Kd ls e) (n:t∉st) (r:Op ls trs st p):Op ls trs (t::st) (e::p)
structure Cl (ls:List Cd) (fs md en:Nat) (e:En):Prop where
 m:Mat ls en e
 f:e.fs=fs
 d:e.kd=.oo->e.md=md
 k:Kd ls e
structure BI (ls:List Cd) (k:Nat) (b:Bk) (p:List En):Prop where
 len:b.rws.length=k
 op:Op ls b.trs b.st p
 cl:∀ t x,b.trs[t]?=some x->t∉b.st->∃ e,Cl ls x.1 x.2.1 x.2.2 e
 ei:∀ j,j < k->(ls[j]?=some .ei\/ls[j]?=some .ag)->∃ t md en,b.rws[j]?=some (some t)/\b.trs[t]?=some (j,md,en)
 oo:∀ j,j < k->ls[j]?=some .oo->∃ t fs en,b.rws[j]?=some (some t)/\b.trs[t]?=some (fs,j,en)/\ls[fs]?=some .ei/\∀ i:Nat,b.st[i]?=some t->∃ e:En,p[i]?=some e/\e.kd=.oo
 en:∀ j,j < k->ls[j]?=some .en->∃ t fs md,b.rws[j]?=some (some t)/\b.trs[t]?=some (fs,md,j)/\t∉b.st
theorem Op.lt {ls:List Cd} {trs:List (Nat×Nat×Nat)} {st:List Nat} {p:List En} (h:Op ls trs st p):∀ t∈st,t < trs.length:=by
 induction h with
 | nil=>intro t ht;simp at ht
 | cons x k n r ih=>
  intro t ht
  rcases List.mem_cons.mp ht with rfl | ht
  ·obtain ⟨md,en,e,_⟩:=x
   exact (List.getElem?_eq_some_iff.mp e).1
  ·exact ih t ht
theorem Op.imp {ls:List Cd} {trs trs':List (Nat×Nat×Nat)} {st:List Nat} {p:List En} (h:Op ls trs st p) (q:∀ t∈st,trs'[t]?=trs[t]?):Op ls trs' st p:=by
 induction h with
 | nil=>exact .nil
 | cons x k n r ih=>exact .cons (by rw [q _ List.mem_cons_self];exact x) k n (ih fun t ht=>q t (List.mem_cons_of_mem _ ht))
theorem Uz {α:Type} {l:List α} {x:α} {t:Nat} (h:t < l.length):(l++[x])[t]?=l[t]?:=List.getElem?_append_left h
theorem Xx {α:Type} {l:List α} {t:Nat} {x:α} (h:l[t]?=some x):t < l.length:=(List.getElem?_eq_some_iff.mp h).1
theorem ZX {α:Type} {l:List α} {x y:α} {j k:Nat} (hl:l.length=k) (hj:j < k) (h:l[j]?=some y):(l++[x])[j]?=some y:=by rw [Uz (by omega)];exact h
theorem Uh {α:Type} {l:List α} {x:α} {k:Nat} (hl:l.length=k):(l++[x])[k]?=some x:=by subst hl;simp
theorem QdX {l:List (Nat×Nat×Nat)} {t s:Nat} {f:Nat×Nat×Nat->Nat×Nat×Nat} (h:t≠s):(l.modify t f)[s]?=l[s]?:=by
 rw [List.getElem?_modify];simp [h]
theorem QdH {l:List (Nat×Nat×Nat)} {t:Nat} {f:Nat×Nat×Nat->Nat×Nat×Nat} {x:Nat×Nat×Nat} (h:l[t]?=some x):(l.modify t f)[t]?=some (f x):=by
 rw [List.getElem?_modify,h];simp
theorem QeH {ls:List Cd} {k:Nat} {b:Bk} {p p':List En} {c:Cd} (h:BI ls k b p) (hf:QdO ls k 0 p) (hc:ls[k]?=some c) (e:stp k c p=some p'):BI ls (k+1) (bst k c b) p':=by
 have old:∀ j,j < k+1->j≠k->j < k:=fun j a b=>by omega
 have opn:(c=.ei\/c=.ag)->p'=⟨c,k,0⟩::p->BI ls (k+1) ⟨b.trs++[(k,k,k)],b.trs.length::b.st,b.rws++[some b.trs.length]⟩ p':=fun hk hp=>by
  subst hp
  have hn:b.trs.length∉b.st:=fun z=>Nat.lt_irrefl _ (h.op.lt _ z)
  have keep:∀ t x,b.trs[t]?=some x->(b.trs++[(k,k,k)])[t]?=some x:=fun t x z=>by rw [Uz (Xx z)];exact z
  refine ⟨by simp [h.len],.cons ⟨k,k,by simp,fun z=>?_⟩ ?_ hn (h.op.imp fun t ht=>Uz (h.op.lt t ht)),fun t x hx hm=>?_,fun j hj hl=>?_,fun j hj hl=>?_,fun j hj hl=>?_⟩
  ·rcases hk with z' | z'<;>rw [z'] at z<;>cases z
  ·unfold Kd
   rcases hk with z' | z'
   ·exact .inr ⟨.inl z',by rw [hc,z']⟩
   ·exact .inl ⟨z',by rw [hc,z']⟩
  ·have ht:t≠b.trs.length:=fun z=>hm (by rw [z];exact List.mem_cons_self)
   have ht':t < b.trs.length:=by have:=Xx hx;simp at this;omega
   rw [Uz ht'] at hx
   exact h.cl t x hx fun z=>hm (List.mem_cons_of_mem _ z)
  ·by_cases z:j=k
   ·subst z
    exact ⟨b.trs.length,j,j,Uh h.len,by simp⟩
   ·obtain ⟨t,md,en,h1,h2⟩:=h.ei j (old j hj z) hl
    exact ⟨t,md,en,ZX h.len (old j hj z) h1,keep _ _ h2⟩
  ·by_cases z:j=k
   ·subst z;rw [hc] at hl;rcases hk with z' | z'<;>rw [z'] at hl<;>cases hl
   ·obtain ⟨t,fs,en,h1,h2,h3,h4⟩:=h.oo j (old j hj z) hl
    refine ⟨t,fs,en,ZX h.len (old j hj z) h1,keep _ _ h2,h3,fun i hi=>?_⟩
    cases i with
    | zero=>simp at hi;have:=Xx h2;omega
    | succ i=>simp at hi;obtain ⟨e,h5,h6⟩:=h4 i hi;exact ⟨e,by simpa using h5,h6⟩
  ·by_cases z:j=k
   ·subst z;rw [hc] at hl;rcases hk with z' | z'<;>rw [z'] at hl<;>cases hl
   ·obtain ⟨t,fs,md,h1,h2,h3⟩:=h.en j (old j hj z) hl
    refine ⟨t,fs,md,ZX h.len (old j hj z) h1,keep _ _ h2,fun q=>?_⟩
    rcases List.mem_cons.mp q with q | q
    ·have:=Xx h2;omega
    ·exact h3 q
 cases c with
 | ei=>exact opn (.inl rfl) (by cases e;rfl)
 | ag=>exact opn (.inr rfl) (by cases e;rfl)
 | ot=>
  cases e
  refine ⟨by simp [bst,h.len],h.op,h.cl,fun j hj hl=>?_,fun j hj hl=>?_,fun j hj hl=>?_⟩
  ·by_cases z:j=k
   ·subst z;rw [hc] at hl;rcases hl with hl | hl<;>cases hl
   ·obtain ⟨t,md,en,h1,h2⟩:=h.ei j (old j hj z) hl
    exact ⟨t,md,en,ZX h.len (old j hj z) h1,h2⟩
  ·by_cases z:j=k
   ·subst z;rw [hc] at hl;cases hl
   ·obtain ⟨t,fs,en,h1,h2,h3⟩:=h.oo j (old j hj z) hl
    exact ⟨t,fs,en,ZX h.len (old j hj z) h1,h2,h3⟩
  ·by_cases z:j=k
   ·subst z;rw [hc] at hl;cases hl
   ·obtain ⟨t,fs,md,h1,h2,h3⟩:=h.en j (old j hj z) hl
    exact ⟨t,fs,md,ZX h.len (old j hj z) h1,h2,h3⟩
 | oo=>
  cases p with
  | nil=>cases e
  | cons a r=>
   simp only [stp] at e
   split at e
   ·rename_i ha
    cases e
    obtain ⟨trs,st,rws⟩:=b
    have hop:=h.op
    cases hop with
    | @cons t _ st _ x kk n q=>
     obtain ⟨md,en,ht,hmd⟩:=x
     simp only at ht hmd
     have hls:ls[a.fs]?=some .ei:=by
      rcases kk with z | z
      ·rw [ha] at z;cases z.1
      ·exact z.2
     have hmod:∀ s,s≠t->(trs.modify t fun x=>(x.1,k,x.2.2))[s]?=trs[s]?:=fun s hs=>QdX (Ne.symm hs)
     have hmt:(trs.modify t fun x=>(x.1,k,x.2.2))[t]?=some (a.fs,k,en):=QdH ht
     refine ⟨by simp [bst,h.len],?_,fun s x hx hm=>?_,fun j hj hl=>?_,fun j hj hl=>?_,fun j hj hl=>?_⟩
     ·exact .cons ⟨k,en,hmt,fun _=>rfl⟩ (.inr ⟨.inr rfl,hls⟩) n (q.imp fun s hs=>hmod s fun z=>n (z ▸ hs))
     ·have hst:s≠t:=fun z=>hm (by rw [z];exact List.mem_cons_self)
      have hx':trs[s]?=some x:=by rw [<- hmod s hst];exact hx
      exact h.cl s x hx' hm
     ·by_cases z:j=k
      ·subst z;rw [hc] at hl;rcases hl with hl | hl<;>cases hl
      ·obtain ⟨s,md',en',h1,h2⟩:=h.ei j (old j hj z) hl
       by_cases hs:s=t
       ·subst hs
        rw [ht] at h2;cases h2
        exact ⟨s,k,en,ZX h.len (old _ hj z) h1,hmt⟩
       ·exact ⟨s,md',en',ZX h.len (old j hj z) h1,(hmod s hs).trans h2⟩
     ·by_cases z:j=k
      ·rw [z]
       refine ⟨t,a.fs,en,Uh h.len,hmt,hls,fun i hi=>?_⟩
       cases i with
       | zero=>exact ⟨_,rfl,rfl⟩
       | succ i=>simp [bst] at hi;exact absurd (List.mem_iff_getElem?.mpr ⟨i,hi⟩) n
      ·obtain ⟨s,fs,en',h1,h2,h3,h4⟩:=h.oo j (old j hj z) hl
       by_cases hs:s=t
       ·subst hs
        obtain ⟨e0,h5,h6⟩:=h4 0 (by simp)
        simp at h5;subst h5
        rw [ha] at h6;cases h6
       ·refine ⟨s,fs,en',ZX h.len (old j hj z) h1,(hmod s hs).trans h2,h3,fun i hi=>?_⟩
        obtain ⟨e0,h5,h6⟩:=h4 i hi
        cases i with
        | zero=>simp [bst] at hi;exact absurd hi.symm hs
        | succ i=>exact ⟨e0,by simpa using h5,h6⟩
     ·by_cases z:j=k
      ·subst z;rw [hc] at hl;cases hl
      ·obtain ⟨s,fs,md',h1,h2,h3⟩:=h.en j (old j hj z) hl
       have hs:s≠t:=fun z=>h3 (by rw [z];exact List.mem_cons_self)
       exact ⟨s,fs,md',ZX h.len (old j hj z) h1,(hmod s hs).trans h2,h3⟩
   ·cases e
 | en=>
  cases p with
  | nil=>cases e
  | cons a r=>
   have hm0:=Qfs hc hf e
   simp only [stp] at e
   split at e
   ·cases e
   ·rename_i ha
    cases e
    obtain ⟨trs,st,rws⟩:=b
    have hop:=h.op
    cases hop with
    | @cons t _ st _ x kk n q=>
     obtain ⟨md,en,ht,hmd⟩:=x
     simp only at ht hmd
     have hmod:∀ s,s≠t->(trs.modify t fun x=>(x.1,x.2.1,k))[s]?=trs[s]?:=fun s hs=>QdX (Ne.symm hs)
     have hmt:(trs.modify t fun x=>(x.1,x.2.1,k))[t]?=some (a.fs,md,k):=QdH ht
     refine ⟨by simp [bst,h.len],?_,fun s x hx hm=>?_,fun j hj hl=>?_,fun j hj hl=>?_,fun j hj hl=>?_⟩
     ·exact q.imp fun s hs=>hmod s fun z=>n (z ▸ hs)
     ·by_cases hs:s=t
      ·subst hs
       have hx':(trs.modify s fun x=>(x.1,x.2.1,k))[s]?=some x:=hx
       rw [hmt] at hx'
       cases hx'
       exact ⟨a,hm0,rfl,fun z=>(hmd z).symm,kk⟩
      ·have hx':trs[s]?=some x:=by rw [<- hmod s hs];exact hx
       exact h.cl s x hx' fun z=>by
        rcases List.mem_cons.mp z with z | z
        ·exact hs z
        ·exact hm z
     ·by_cases z:j=k
      ·subst z;rw [hc] at hl;rcases hl with hl | hl<;>cases hl
      ·obtain ⟨s,md',en',h1,h2⟩:=h.ei j (old j hj z) hl
       by_cases hs:s=t
       ·subst hs
        rw [ht] at h2;cases h2
        exact ⟨s,md,k,ZX h.len (old _ hj z) h1,hmt⟩
       ·exact ⟨s,md',en',ZX h.len (old j hj z) h1,(hmod s hs).trans h2⟩
     ·by_cases z:j=k
      ·subst z;rw [hc] at hl;cases hl
      ·obtain ⟨s,fs,en',h1,h2,h3,h4⟩:=h.oo j (old j hj z) hl
       by_cases hs:s=t
       ·subst hs
        rw [ht] at h2;cases h2
        exact ⟨s,a.fs,k,ZX h.len (old _ hj z) h1,hmt,h3,fun i hi=>absurd (List.mem_iff_getElem?.mpr ⟨i,hi⟩) n⟩
       ·refine ⟨s,fs,en',ZX h.len (old j hj z) h1,(hmod s hs).trans h2,h3,fun i hi=>?_⟩
        obtain ⟨e0,h5,h6⟩:=h4 (i+1) (by simpa [bst] using hi)
        exact ⟨e0,by simpa using h5,h6⟩
     ·by_cases z:j=k
      ·rw [z]
       exact ⟨t,a.fs,md,Uh h.len,hmt,n⟩
      ·obtain ⟨s,fs,md',h1,h2,h3⟩:=h.en j (old j hj z) hl
       have hs:s≠t:=fun z=>h3 (by rw [z];exact List.mem_cons_self)
       exact ⟨s,fs,md',ZX h.len (old j hj z) h1,(hmod s hs).trans h2,fun z=>h3 (List.mem_cons_of_mem _ z)⟩
theorem Yz {ls:List Cd}:∀ {k:Nat} {p:List En},pil ls k=some p->QdO ls k 0 p/\BI ls k (bks ls k) p
 | 0,p,e=>by
  cases e
  exact ⟨True.intro,⟨rfl,.nil,fun t x h=>by simp [bks] at h,fun j h=>by omega,fun j h=>by omega,fun j h=>by omega⟩⟩
 | k+1,p,e=>by
  obtain ⟨q,h1,h2⟩:=Option.bind_eq_some_iff.mp e
  obtain ⟨f,b⟩:=Yz h1
  cases hc:ls[k]? with
  | none=>rw [hc] at h2;cases h2
  | some c=>
   rw [hc] at h2
   refine ⟨Qcc hc f h2,?_⟩
   have:bks ls (k+1)=bst k c (bks ls k):=by simp only [bks,hc]
   rw [this]
   exact QeH b f hc h2
noncomputable def Bal (ls:List Cd):Prop:=pil ls ls.length=some []
structure Found (ls:List Cd) (b:Bk):Prop where
 len:b.rws.length=ls.length
 ei:∀ j,ls[j]?=some .ei->∃ t md en,b.rws[j]?=some (some t)/\b.trs[t]?=some (j,md,en)/\Beh ls j .oo md
 ag:∀ j,ls[j]?=some .ag->∃ t md en,b.rws[j]?=some (some t)/\b.trs[t]?=some (j,md,en)/\Beh ls j .en en
 oo:∀ j,ls[j]?=some .oo->∃ t fs en,b.rws[j]?=some (some t)/\b.trs[t]?=some (fs,j,en)/\Beh ls j .en en
 en:∀ j,ls[j]?=some .en->∃ t fs md,b.rws[j]?=some (some t)/\b.trs[t]?=some (fs,md,j)/\Ahd ls j fs/\(ls[fs]?=some .ei\/ls[fs]?=some .ag)
theorem Y8 {ls:List Cd} (h:Bal ls):Found ls (bks ls ls.length):=by
 obtain ⟨_,b⟩:=Yz h
 have hs:(bks ls ls.length).st=[]:=by
  have:=b.op
  generalize (bks ls ls.length).st=s at this
  cases this
  rfl
 have nm:∀ t,t∉(bks ls ls.length).st:=fun t=>by rw [hs];simp
 refine ⟨b.len,fun j hj=>?_,fun j hj=>?_,fun j hj=>?_,fun j hj=>?_⟩
 ·obtain ⟨t,md,en,h1,h2⟩:=b.ei j (Xx hj) (.inl hj)
  obtain ⟨e,m,f,d,kk⟩:=b.cl t _ h2 (nm t)
  simp only at m f d
  have ho:e.kd=.oo:=by
   rcases kk with z | z
   ·rw [f,hj] at z;cases z.2
   ·rcases m.kd with q | q
    ·rcases z.1 with z | z<;>rw [q] at z<;>cases z
    ·exact q
  refine ⟨t,md,en,h1,h2,?_⟩
  have:=Qgt m ho
  rw [f,d ho] at this;exact this
 ·obtain ⟨t,md,en,h1,h2⟩:=b.ei j (Xx hj) (.inr hj)
  obtain ⟨e,m,f,d,kk⟩:=b.cl t _ h2 (nm t)
  simp only at m f d
  refine ⟨t,md,en,h1,h2,?_⟩
  have:=QeY m
  rw [f] at this;exact this
 ·obtain ⟨t,fs,en,h1,h2,h3,_⟩:=b.oo j (Xx hj) hj
  obtain ⟨e,m,f,d,kk⟩:=b.cl t _ h2 (nm t)
  simp only at m f d
  have ho:e.kd=.oo:=by
   rcases kk with z | z
   ·rw [f,h3] at z;cases z.2
   ·rcases m.kd with q | q
    ·rcases z.1 with z | z<;>rw [q] at z<;>cases z
    ·exact q
  refine ⟨t,fs,en,h1,h2,?_⟩
  have:=Qan m ho
  rw [d ho] at this;exact this
 ·obtain ⟨t,fs,md,h1,h2,_⟩:=b.en j (Xx hj) hj
  obtain ⟨e,m,f,d,kk⟩:=b.cl t _ h2 (nm t)
  simp only at m f d
  refine ⟨t,fs,md,h1,h2,?_,?_⟩
  ·have:=Qci m
   rw [f] at this;exact this
  ·have:=m.fit.at_
   rw [f] at this;exact this
end My4

namespace My4
open My3
noncomputable def kst:Cd->List Cd->Option (List Cd)
 | .ei,s=>some (.ei::s)
 | .ag,s=>some (.ag::s)
 | .oo,s=>match s with
  | e::r=>if e=.ei then some (.oo::r) else none
  | []=>none
 | .en,s=>match s with
  | e::r=>if e=.ei then none else some r
  | []=>none
 | .ot,s=>some s
noncomputable def KY:List Cd->List Cd->Option (List Cd)
 | [],s=>some s
 | c::ls,s=>(kst c s).bind (KY ls)
theorem YE:∀ (ls ms:List Cd) (s:List Cd),KY (ls++ms) s=(KY ls s).bind (KY ms)
 | [],ms,s=>rfl
 | c::ls,ms,s=>by
  show (kst c s).bind (KY (ls++ms))=((kst c s).bind (KY ls)).bind (KY ms)
  cases kst c s with
  | none=>rfl
  | some t=>exact YE ls ms t
theorem ZN {ls:List Cd} {c:Cd} {s t u:List Cd} (h:KY ls s=some t) (k:kst c t=some u):KY (ls++[c]) s=some u:=by
 rw [YE,h]
 show (kst c t).bind _=_
 rw [k];rfl
theorem Qfo {k:Nat} {c:Cd} {st:List En}:(stp k c st).map (List.map En.kd)=kst c (st.map En.kd):=by
 cases c with
 | ei=>rfl
 | ag=>rfl
 | ot=>rfl
 | oo=>
  cases st with
  | nil=>rfl
  | cons e r=>
   simp only [stp,kst,List.map_cons]
   by_cases h:e.kd=.ei<;>simp [h]
 | en=>
  cases st with
  | nil=>rfl
  | cons e r=>
   simp only [stp,kst,List.map_cons]
   by_cases h:e.kd=.ei<;>simp [h]
theorem UX {ls:List Cd}:∀ {k:Nat},k<=ls.length->(pil ls k).map (List.map En.kd)=KY (ls.take k) []
 | 0,_=>rfl
 | k+1,hk=>by
  have hlt:k < ls.length:=by omega
  have ih:=UX (ls:=ls) (k:=k) (by omega)
  have ht:ls.take (k+1)=ls.take k++[ls[k]]:=by rw [List.take_succ_eq_append_getElem hlt]
  rw [ht,YE,<- ih]
  simp only [pil]
  rw [List.getElem?_eq_getElem hlt]
  cases pil ls k with
  | none=>rfl
  | some p=>
   show (stp k ls[k] p).map _=(kst ls[k] (p.map En.kd)).bind (KY [])
   rw [<- Qfo]
   cases stp k ls[k] p<;>rfl
theorem bal_iff {ls:List Cd}:Bal ls ↔ KY ls []=some []:=by
 have:=UX (ls:=ls) (k:=ls.length) (Nat.le_refl _)
 rw [List.take_length] at this
 rw [<- this]
 unfold Bal
 cases pil ls ls.length with
 | none=>simp
 | some p=>simp
end My4

namespace My
open PySem PySem.Spec PyProof.Rows L2 Mi
noncomputable abbrev Ln:=List Str
noncomputable def QV (l:Ln):W:=.tup (l.map .str)
noncomputable def Zp (xs:List Str):W:=.lst (xs.map .str)
noncomputable abbrev Pt:=Str×List Ln
noncomputable def Ve (p:Pt):W:=.tup [.str p.1,.tup (p.2.map QV)]
noncomputable def Jz (p:List Pt):W:=.tup (p.map Ve)
structure Spt where
 way:List (Nat×Nat)
 part:Nat
 k:Nat
 head:Bool
noncomputable def GV (q:Nat×Nat):W:=.tup [.int q.1,.int q.2]
noncomputable def QG (s:Spt):W:=.tup [.tup (s.way.map GV),.int s.part,.int s.k,.bl s.head]
theorem UV:∀ {ws:List W},(∀ w∈ws,pln w=true)->Xr ws=true
 | [],_=>rfl
 | w::ws,h=>by unfold Xr;rw [h w List.mem_cons_self,UV fun x hx=>h x (List.mem_cons_of_mem _ hx)];rfl
theorem US {n:Nat}:∀ {ws:List W},(∀ w∈ws,dep w<=n)->Kw ws<=n
 | [],_=>Nat.zero_le _
 | w::ws,h=>by unfold Kw;exact Nat.max_le.mpr ⟨h w List.mem_cons_self,US fun x hx=>h x (List.mem_cons_of_mem _ hx)⟩
theorem Je {α:Type} {f:α->W} {xs:List α} (h:∀ x,pln (f x)=true):Xr (xs.map f)=true:=UV fun w hw=>by obtain ⟨x,_,rfl⟩:=List.mem_map.mp hw;exact h x
theorem V8 {α:Type} {f:α->W} {xs:List α} {n:Nat} (h:∀ x,dep (f x)<=n):Kw (xs.map f)<=n:=US fun w hw=>by obtain ⟨x,_,rfl⟩:=List.mem_map.mp hw;exact h x
@[simp] theorem V9 {xs:List Str}:Xr (xs.map .str)=true:=Je fun _=>rfl
theorem Ga {xs:List Str}:Kw (xs.map .str)<=1:=V8 fun _=>Nat.le_refl _
@[simp] theorem Qgw {l:Ln}:pln (QV l)=true:=by unfold QV pln;exact V9
@[simp] theorem Qcs {xs:List Str}:pln (Zp xs)=true:=by unfold Zp pln;exact V9
@[simp] theorem QeG {ls:List Ln}:Xr (ls.map QV)=true:=Je fun _=>Qgw
@[simp] theorem QiA {p:Pt}:pln (Ve p)=true:=by simp [Ve,pln,Xr]
@[simp] theorem Qac {ps:List Pt}:Xr (ps.map Ve)=true:=Je fun _=>QiA
@[simp] theorem Qjp {ps:List Pt}:pln (Jz ps)=true:=by unfold Jz pln;exact Qac
@[simp] theorem QjF {q:Nat×Nat}:pln (GV q)=true:=id rfl
theorem QiN {q:Nat×Nat}:dep (GV q)<=2:=Nat.le_refl _
@[simp] theorem QiD {qs:List (Nat×Nat)}:Xr (qs.map GV)=true:=Je fun _=>QjF
theorem QeD {qs:List (Nat×Nat)}:Kw (qs.map GV)<=2:=V8 fun _=>QiN
@[simp] theorem Qhz {s:Spt}:pln (QG s)=true:=by simp [QG,pln,Xr]
theorem Qiw {s:Spt}:dep (QG s)<=4:=by simp [QG,dep,Kw];have:=QeD (qs:=s.way);omega
@[simp] theorem QeE {ss:List Spt}:Xr (ss.map QG)=true:=Je fun _=>Qhz
theorem QfO {ss:List Spt}:Kw (ss.map QG)<=4:=V8 fun _=>Qiw
@[simp] theorem Qla {l:Ln}:pur (QV l)=true:=X5 _ Qgw
@[simp] theorem Qh1 {xs:List Str}:pur (Zp xs)=true:=X5 _ Qcs
@[simp] theorem Qlx {ps:List Pt}:pur (Jz ps)=true:=X5 _ Qjp
@[simp] theorem Qmh {s:Spt}:pur (QG s)=true:=X5 _ Qhz
@[simp] theorem Qh8 {xs:List Str}:Jv (xs.map .str)=true:=Zt _ V9
@[simp] theorem QiB {ls:List Ln}:Jv (ls.map QV)=true:=Zt _ QeG
@[simp] theorem Qju {ls:List Pt}:Jv (ls.map Ve)=true:=Zt _ Qac
@[simp] theorem Qep {ss:List Spt}:Jv (ss.map QG)=true:=Zt _ QeE
@[simp] theorem Qlu {i:Int}:pur (.int i)=true:=id rfl
@[simp] theorem Ql7 {x:Str}:pur (.str x)=true:=id rfl
@[simp] theorem QmG {b:Bool}:pur (.bl b)=true:=id rfl
@[simp] theorem QlP:pur .non=true:=id rfl
@[simp] theorem Qmk {ws:List W}:pur (.tup ws)=Jv ws:=by unfold pur;rfl
@[simp] theorem QiG {ws:List W}:pur (.lst ws)=Jv ws:=by unfold pur;rfl
@[simp] theorem QlQ {ws:List W}:pur (.frz ws)=Jv ws:=by unfold pur;rfl
@[simp] theorem QkU:Jv []=true:=id rfl
@[simp] theorem QiM {w:W} {ws:List W}:Jv (w::ws)=(pur w && Jv ws):=by rw [Jv]
@[simp] theorem QkJ {ws us:List W}:Jv (ws++us)=(Jv ws && Jv us):=by
 induction ws with
 | nil=>simp
 | cons w ws ih=>simp [ih,Bool.and_assoc]
@[simp] theorem Qhq {ns:List Int}:Jv (ns.map .int)=true:=by
 induction ns with
 | nil=>rfl
 | cons n ns ih=>simp [ih]
@[simp] theorem Qk0 {ws:List W}:GT (.lst ws)=Jv ws:=id rfl
theorem Xi {n:Nat} (h:n<=1000000):n<=sizeLine:=Nat.le_trans h (by decide)
theorem Ki {n:Nat} (h:n<=1000000):n < sizeLine:=Nat.lt_of_le_of_lt h (by decide)
@[simp] theorem QjT:1<=sizeLine:=by decide
@[simp] theorem QkK:2<=sizeLine:=by decide
@[simp] theorem Qks:3<=sizeLine:=by decide
@[simp] theorem QkY:4<=sizeLine:=by decide
@[simp] theorem QkL:5<=sizeLine:=by decide
@[simp] theorem QjQ:6<=sizeLine:=by decide
@[simp] theorem Qj1:8<=sizeLine:=by decide
structure Fd where
 a:Int
 b:Int
 hb:0<=b/\b < 1099511627776
noncomputable def Qz (f:Fd):MO:=.lst [.int f.a,.int f.b]
theorem GS {α:Type} {xs:List α} {i:Int} {P:α->Prop} {f:α->W} (h0:0<=i) (h1:i < xs.length) (hp:∀ x∈xs,P x):∃ x,x∈xs/\P x/\atI (xs.map f) i=some (f x):=by
 obtain ⟨n,rfl⟩:∃ n:Nat,i=n:=⟨i.toNat,by omega⟩
 have hn:n < xs.length:=by omega
 exact ⟨xs[n],List.getElem_mem hn,hp _ (List.getElem_mem hn),by rw [Q6,List.getElem?_map,List.getElem?_eq_getElem hn];rfl⟩
theorem Qdr {f g:Fd} (e:Qz f=Qz g):f=g:=by
 obtain ⟨a,b,hb⟩:=f
 obtain ⟨a',b',hb'⟩:=g
 simp [Qz] at e
 obtain ⟨rfl,rfl⟩:=e
 rfl
noncomputable def Qij (h:MH) (n:Nat):Prop:=∃ f,h[n]?=some (Qz f)
open Classical in
noncomputable def Qa1 (h:MH) (n:Nat):Fd:=if p:Qij h n then p.choose else ⟨0,0,by decide⟩
theorem UH {h:MH} {n:Nat} {f:Fd} (e:h[n]?=some (Qz f)):Qa1 h n=f:=by
 have p:Qij h n:=⟨f,e⟩
 unfold Qa1
 rw [dif_pos p]
 exact (Qdr (Option.some.inj (e.symm.trans p.choose_spec))).symm
@[simp] theorem QkA {f:Fd} {h:MH}:Qij (Qz f::h) 0:=⟨f,rfl⟩
@[simp] theorem Qiv {f:Fd} {h:MH}:Qa1 (Qz f::h) 0=f:=UH rfl
theorem QgA {neg:Bool} {a:W} {ys:List W} {h:MH} (pa:pln a=true) (py:Xr ys=true) (da:dep a<=40) (dy:Kw ys<=40):wIn neg a (.lst ys) h=some (.bl (if neg=true then !inW a ys else inW a ys),h):=by
 show ((lsW h (.lst ys)).bind fun ys=>(drf h 40 a).bind fun x=>(ZV (drf h 40) ys).map fun zs=>(W.bl (if neg then !inW x zs else inW x zs),h))=_
 simp only [lsW,Option.bind_some]
 rw [V5 h a 40 pa da,Xj h ys 40 py dy];rfl
@[simp] theorem Qlp {i:Int} {h:MH}:wIn false (.int i) (.lst [.int 6,.int 7]) h=some (.bl (decide (i=6\/i=7)),h):=by
 rw [QgA (by simp [pln]) (by simp [pln,Xr]) (by simp [dep]) (by simp [dep,Kw])]
 have:inW (.int i) [.int 6,.int 7]=decide (i=6\/i=7):=by
  simp only [inW,List.any_cons,List.any_nil,eqW,Bool.or_false]
  rw [Bool.eq_iff_iff]
  simp
  omega
 simp [this]
@[simp] theorem QjI {xs:List Str} {h:MH}:JS [Zp xs] h=some (.int xs.length,h):=by unfold Zp;simp
@[simp] theorem QjP {xs:List Str} {i:Int} {h:MH}:wIx (Zp xs) (.int i) h=@om _ _ (fun w=>(w,h)) (atI (xs.map .str) i):=by unfold Zp;simp
@[simp] theorem Qmz {α:Type} {xs:List α}:atI xs 2=xs[2]?:=Q6 (n:=2)
@[simp] theorem QmB {α:Type} {xs:List α}:atI xs 3=xs[3]?:=Q6 (n:=3)
theorem XU {a:Int} {n j:Nat} {w:W} (h:(QR a n)[j]?=some w):j < n/\w=.int (a+j):=by
 have hl:=(List.getElem?_eq_some_iff.mp h).1
 simp [QR] at hl
 refine ⟨hl,?_⟩
 unfold QR at h
 rw [List.getElem?_map,List.getElem?_range hl] at h
 cases h;rfl
theorem Qfd {a b:Char} (h:a.toNat=b.toNat):a=b:=by
 have:a.val=b.val:=by
  apply UInt32.toNat_inj.mp
  exact h
 exact Char.ext this
theorem Kj:∀ {a b:List Char},a.map Char.toNat=b.map Char.toNat->a=b
 | [],[],_=>rfl
 | [],_::_,h=>by simp at h
 | _::_,[],h=>by simp at h
 | x::a,y::b,h=>by
  simp only [List.map_cons,List.cons.injEq] at h
  rw [Qfd h.1,Kj h.2]
@[simp] theorem QiW {a b:String}:(Str.ofString a=Str.ofString b) ↔ a=b:=by
 constructor
 ·intro h
  rw [Str.ofString_eq_toList,Str.ofString_eq_toList] at h
  have h1:=Kj (List.toArray_inj (Str.mk.inj h))
  exact String.toList_inj.mp h1
 ·intro h;rw [h]
open My3 My4
theorem K2 (f:Fd) (m:Int):∃ p:Int×Fd,(0 < m->0<=p.1/\p.1 < m)/\(0 < m->m < 1000000->∀ (h:MH) (n:Nat),h[n]?=some (Qz f)->Qh [.ref n,.int m] h=some (.int p.1,h.set n (Qz p.2))):=by
 obtain ⟨a,b,hb⟩:=f
 by_cases h:0 < a
 ·refine ⟨(a % m,⟨a / m,b,hb⟩),fun hm=>⟨Int.emod_nonneg _ (by omega),Int.emod_lt_of_pos _ hm⟩,fun hm hm2 g n hn=>Jb (o:=Qz ⟨a,b,hb⟩) (g:=[]) (by simp) hn (by simp [Qz]) ?_ rfl ⟨_,rfl,by simp⟩⟩
  have hm3:m < 1073741824:=by omega
  simp [JH,Zo,h,hm,hm3,Qz]
 ·refine ⟨((b*69621+12345) % 2147483647 / 8191 % m,⟨a,(b*69621+12345) % 2147483647,Int.emod_nonneg _ (by decide),Int.lt_trans (Int.emod_lt_of_pos _ (by decide)) (by decide)⟩),fun hm=>⟨Int.emod_nonneg _ (by omega),Int.emod_lt_of_pos _ hm⟩,fun hm hm2 g n hn=>Jb (o:=Qz ⟨a,b,hb⟩) (g:=[]) (by simp) hn (by simp [Qz]) ?_ rfl ⟨_,rfl,by simp⟩⟩
  have hm3:m < 1073741824:=by omega
  simp [JH,Zo,h,hm,hm3,Qz]
noncomputable def tk (f:Fd) (m:Int):Int:=(Classical.choose (K2 f m)).1
noncomputable def tf (f:Fd) (m:Int):Fd:=(Classical.choose (K2 f m)).2
theorem Xe {f:Fd} {m:Int} (hm:0 < m):0<=tk f m/\tk f m < m:=(Classical.choose_spec (K2 f m)).1 hm
theorem UZ {f:Fd} {m:Int} {h:MH} {n:Nat} (hm:0 < m) (hm2:m < 1000000) (hn:h[n]?=some (Qz f)):Qh [.ref n,.int m] h=some (.int (tk f m),h.set n (Qz (tf f m))):=(Classical.choose_spec (K2 f m)).2 hm hm2 h n hn
@[simp] theorem Vx {m:Int} {h:MH} {n:Nat} (hm:0 < m) (hm2:m < 1000000) (hn:Qij h n):Qh [.ref n,.int m] h=some (.int (tk (Qa1 h n) m),h.set n (Qz (tf (Qa1 h n) m))):=by
 obtain ⟨f,hf⟩:=hn
 rw [UH hf]
 exact UZ hm hm2 hf
noncomputable abbrev abc:Str:="abcdefghijklmnopqrstuvwxyz"
theorem Ua (x:Str) (n:Int):(rep x n).length=n.toNat*x.length:=by unfold rep Str.length;simp
theorem W2 (x y:Str):(x++y).length=x.length+y.length:=by show (x.cps++y.cps).size=_;simp [Str.length]
theorem Qd9:abc.length=26:=by decide +kernel
noncomputable def ltr (i:Int):Str:=⟨#[97+i.toNat]⟩
theorem Qfe:abc.cps.toList=(List.range 26).map (97+·):=by decide +kernel
@[simp] theorem Qe8 {i:Int}:(ltr i).length=1:=rfl
@[simp] theorem Qj3 {i:Int} {h:MH} (h0:0<=i) (h1:i < 26):wIx (.str abc) (.int i) h=some (.str (ltr i),h):=by
 obtain ⟨n,rfl⟩:∃ n:Nat,i=n:=⟨i.toNat,by omega⟩
 refine QfL (by rw [Qd9];decide) ?_
 rw [Q6,Qfe,List.getElem?_map,List.getElem?_range (by omega)];rfl
theorem VD {ms:MA} {σ:MSt} {h h':MH} {j:Nat} (e:ms σ h=some ([.int j],h')) (hj:j < 1000000):Yi ms σ h=some (QR 0 j,none,h'):=by
 unfold Yi
 rw [e,Option.bind_some]
 exact (if_pos ⟨by omega,by omega⟩).trans (by simp)
theorem Zj {a:Int} {n:Nat}:(QR a n).length=n:=by simp [QR]
theorem Wq {a:Int} {n:Nat} {f:W->W}:(QR a n).map f=(List.range n).map fun (i:Nat)=>f (.int (a+i)):=by simp [QR]
theorem Qjs {i:Int} (h0:0<=i) (h1:i < 6):∃ v:Int,(v=1\/v=3\/v=5\/v=7\/v=9\/v=11)/\atI [W.int 1,.int 3,.int 5,.int 7,.int 9,.int 11] i=some (.int v):=by
 obtain ⟨x,_,hx,e⟩:=GS (xs:=[(1:Int),3,5,7,9,11]) (f:=W.int) (P:=fun v=>v=1\/v=3\/v=5\/v=7\/v=9\/v=11) h0 h1 (by decide)
 exact ⟨x,hx,e⟩
theorem Qi8 {i:Int} (h0:0<=i) (h1:i < 8):∃ v:Int,1<=v/\v<=8/\atI [W.int 1,.int 3,.int 4,.int 5,.int 6,.int 7,.int 8,.int 1] i=some (.int v):=by
 obtain ⟨x,_,hx,e⟩:=GS (xs:=[(1:Int),3,4,5,6,7,8,1]) (f:=W.int) (P:=fun v=>1<=v/\v<=8) h0 h1 (by decide)
 exact ⟨x,hx.1,hx.2,e⟩
theorem Xy {α β:Type} {f:α->β} {l:List α} (h:∀ a∈l,∀ b∈l,f a=f b->a=b) (hl:l.Nodup):(l.map f).Nodup:=by
 unfold List.Nodup
 rw [List.pairwise_map]
 exact List.Pairwise.imp_of_mem (fun ha hb hab e=>hab (h _ ha _ hb e)) hl
theorem Yd {t st:Int} {a b:Nat} (hs:st=1\/st=3\/st=5\/st=7\/st=9\/st=11) (ha:a < 5) (hb:b < 5) (h:((t+st*(0+(a:Int))) % 26).toNat=((t+st*(0+(b:Int))) % 26).toNat):a=b:=by
 rw [Int.zero_add,Int.zero_add] at h
 have h1:=Int.emod_nonneg (t+st*a) (show (26:Int)≠0 by decide)
 have h2:=Int.emod_nonneg (t+st*b) (show (26:Int)≠0 by decide)
 have h3:(t+st*a) % 26=(t+st*b) % 26:=by rw [<- Int.toNat_of_nonneg h1,<- Int.toNat_of_nonneg h2,h]
 have h4:=Int.emod_eq_emod_iff_emod_sub_eq_zero.mp h3
 have h5:t+st*a - (t+st*b)=st*((a:Int) - b):=by rw [Int.mul_sub];omega
 rw [h5] at h4
 have key:∀ a:Fin 5,∀ b:Fin 5,∀ st∈[(1:Int),3,5,7,9,11],st*((a.val:Int) - b.val) % 26=0->a=b:=by decide
 exact Fin.mk.inj (key ⟨a,ha⟩ ⟨b,hb⟩ st (by simpa using hs) h4)
theorem QeR {a b:Str} {i j:Int} (h:a++ltr i++b=a++ltr j++b):i.toNat=j.toNat:=by
 have e:∀ x y:Str,(x++y).cps.toList=x.cps.toList++y.cps.toList:=fun x y=>by show (x.cps++y.cps).toList=_;simp
 have h2:=congrArg (fun s:Str=>s.cps.toList) h
 simp only [e] at h2
 simp [ltr] at h2
 omega
theorem VL (f:Fd) (many:Nat) (hm:many<=5):∃ (ns:List Str) (f':Fd),ns.length=many/\ns.Nodup/\∀ (h:MH) (n:Nat),h[n]?=some (Qz f)->QB [.ref n,.int many] h=some (Zp ns,h.set n (Qz f')):=by
 obtain ⟨a0,a1⟩:=Xe (f:=f) (m:=26) (by decide)
 by_cases h0:tk (tf f 26) 3=0
 ·refine ⟨(List.range many).map fun (k:Nat)=>rep (ltr (tk f 26)) ((0:Int)+k+1),tf (tf f 26) 3,by simp,Xy (fun a _ b _ e=>?_) List.nodup_range,fun h n hn=>?_⟩
  ·have:=congrArg Str.length e
   rw [Ua,Ua,Qe8] at this
   omega
  ·refine Jb (o:=Qz f) (g:=[]) (by simp) hn (by simp [Qz]) ?_ (by simp) ⟨_,rfl,by simp⟩
   have e:=VR (fin:=Vu) (mi:=Yi (Qc (Qg 1) Ql)) (cp:=[none,some 3]) (me:=Qm Xd (Qg 1) (Qm Vt (Qg 0) (mC (.int 1)))) (σ:=[some (.ref 0),some (.int many),some (.str abc),some (.str (ltr (tk f 26))),none,none,none,none,none]) (caps:=[some (.str (ltr (tk f 26)))]) (h:=[Qz (tf (tf f 26) 3)]) (items:=QR 0 many)
    (fun w=>match w with | .int k=>.str (rep (ltr (tk f 26)) (k+1)) | w=>w) (VD (by simp) (by omega)) ⟨_,rfl⟩ (fun w hw=>by
     obtain ⟨k,hk,rfl⟩:=List.mem_map.mp hw
     simp at hk
     simp
     exact Qbd ⟨by omega,by omega,by simp⟩) (by rw [Zj];exact Xi (by omega))
   simp [Jg,Zo,a0,a1,h0,e,Vu,Zp,Wq]
 ·generalize hf2:tf (tf f 26) 3=f2
  obtain ⟨b0,b1⟩:=Xe (f:=f2) (m:=26) (by decide)
  obtain ⟨c0,c1⟩:=Xe (f:=tf f2 26) (m:=6) (by decide)
  obtain ⟨d0,d1⟩:=Xe (f:=tf (tf f2 26) 6) (m:=8) (by decide)
  obtain ⟨st,hst,es⟩:=Qjs c0 c1
  have s0:0<=st:=by omega
  have s1:st<=11:=by omega
  obtain ⟨sz,z0,z1,ez⟩:=Qi8 d0 d1
  obtain ⟨p0,p1⟩:=Xe (f:=tf (tf (tf f2 26) 6) 8) (m:=sz) (by omega)
  generalize hpl:tk (tf (tf (tf f2 26) 6) 8) sz=pl at p0 p1
  generalize hfl:ltr (tk f 26)=fl
  have lfl:fl.length=1:=by rw [<- hfl];rfl
  have lr:∀ n:Int,(rep fl n).length=n.toNat:=fun n=>by rw [Ua,lfl];omega
  refine ⟨(List.range many).map fun (k:Nat)=>rep fl pl++ltr ((tk f2 26+st*(0+(k:Int))) % 26)++rep fl (sz - 1 - pl),tf (tf (tf (tf f2 26) 6) 8) sz,by simp,Xy (fun a ha b hb e=>?_) List.nodup_range,fun h n hn=>?_⟩
  ·have:=QeR e
   have ha':=List.mem_range.mp ha
   have hb':=List.mem_range.mp hb
   exact Yd hst (by omega) (by omega) this
  ·refine Jb (o:=Qz f) (g:=[]) (by simp) hn (by simp [Qz]) ?_ (by simp) ⟨_,rfl,by simp⟩
   have e1:Xd (.str fl) (.int (sz - 1 - pl)) [Qz (tf (tf (tf (tf f2 26) 6) 8) sz)]=some (.str (rep fl (sz - 1 - pl)),_):=Qbd ⟨by omega,by omega,by omega⟩
   have hz:(0:Int) < sz:=by omega
   have hz':sz < 1000000:=by omega
   simp [Jg,Zo,a0,a1,h0,hf2,hfl,b0,b1,es,ez,hz,hz',hpl,e1]
   rw [VR (items:=QR 0 many) (caps:=[some (.str (rep fl (sz - 1 - pl))),some (.str fl),some (.int pl),some (.str abc),some (.int (tk f2 26)),some (.int st)]) (fun w=>match w with | .int k=>.str (rep fl pl++ltr ((tk f2 26+st*k) % 26)++rep fl (sz - 1 - pl)) | w=>w)]
   ·simp [Vu,Zp,Wq]
   ·exact VD (by simp) (by omega)
   ·exact ⟨_,rfl⟩
   ·intro w hw
    obtain ⟨k,hk,rfl⟩:=List.mem_map.mp hw
    simp at hk
    have e2:Xd (.str fl) (.int pl) [Qz (tf (tf (tf (tf f2 26) 6) 8) sz)]=some (.str (rep fl pl),_):=Qbd ⟨by omega,by omega,by omega⟩
    have q1:0<=(tk f2 26+st*(k:Int)) % 26:=Int.emod_nonneg _ (by decide)
    have q2:(tk f2 26+st*(k:Int)) % 26 < 26:=Int.emod_lt_of_pos _ (by decide)
    have q3:-18446744073709551616 < st:=by omega
    have q4:st < 18446744073709551616:=by omega
    have l1:pl.toNat+1<=sizeLine:=Xi (by omega)
    have l2:pl.toNat+1+(sz - 1 - pl).toNat<=sizeLine:=Xi (by omega)
    simp [e2,q1,q2,q3,q4,lr,l1,l2,W2]
   ·rw [Zj];exact Xi (by omega)
inductive PlainL (bs ws:List Str):Ln->Prop where
 | pair {x w y z:Str} (hx:x∈bs) (hw:w∈ws) (hy:y∈bs) (hz:z∈bs):PlainL bs ws ["pair",x,w,y,z]
 | first {x y:Str} (hx:x∈bs) (hy:y∈bs):PlainL bs ws ["first",x,y]
 | second {x y:Str} (hx:x∈bs) (hy:y∈bs):PlainL bs ws ["second",x,y]
 | same {x y:Str} (hx:x∈bs) (hy:y∈bs):PlainL bs ws ["same",x,y]
 | none {x:Str} (hx:x∈bs):PlainL bs ws ["none",x]
 | tell {x:Str} (hx:x∈bs):PlainL bs ws ["tell",x]
theorem G5 {xs:List Str} {i:Int} (h0:0<=i) (h1:i < xs.length):∃ x,x∈xs/\atI (xs.map W.str) i=some (.str x):=by
 obtain ⟨x,hx,_,e⟩:=GS (xs:=xs) (f:=W.str) (P:=fun _=>True) h0 h1 (fun _ _=>True.intro)
 exact ⟨x,hx,e⟩
theorem XN (f:Fd) (bs ws:List Str) (hb:0 < bs.length) (hb2:bs.length<=5) (hw:0 < ws.length) (hw2:ws.length<=5):∃ (l:Ln) (f':Fd),PlainL bs ws l/\∀ (h:MH) (n:Nat),h[n]?=some (Qz f)->QC [.ref n,Zp bs,Zp ws] h=some (QV l,h.set n (Qz f')):=by
 obtain ⟨a0,a1⟩:=Xe (f:=f) (m:=10) (by decide)
 have q1:(0:Int) < bs.length:=by omega
 have q2:(bs.length:Int) < 1000000:=by omega
 have q3:(0:Int) < ws.length:=by omega
 have q4:(ws.length:Int) < 1000000:=by omega
 have n1:bs≠[]:=by intro z;rw [z] at hb;simp at hb
 have n2:ws≠[]:=by intro z;rw [z] at hw;simp at hw
 have n3:bs.length < 1000:=by omega
 have n4:ws.length < 1000:=by omega
 obtain ⟨b0,b1⟩:=Xe (f:=tf f 10) (m:=bs.length) q1
 obtain ⟨x,hx,ex⟩:=G5 b0 b1
 obtain ⟨c0,c1⟩:=Xe (f:=tf (tf f 10) bs.length) (m:=bs.length) q1
 obtain ⟨y,hy,ey⟩:=G5 c0 c1
 by_cases h4:tk f 10 < 4
 ·obtain ⟨d0,d1⟩:=Xe (f:=tf (tf (tf f 10) bs.length) bs.length) (m:=bs.length) q1
  obtain ⟨z,hz,ez⟩:=G5 d0 d1
  obtain ⟨e0,e1⟩:=Xe (f:=tf (tf (tf (tf f 10) bs.length) bs.length) bs.length) (m:=ws.length) q3
  obtain ⟨w,hw,ew⟩:=G5 e0 e1
  refine ⟨_,tf (tf (tf (tf (tf f 10) bs.length) bs.length) bs.length) ws.length,.pair hx hw hy hz,fun h n hn=>?_⟩
  refine Jb (o:=Qz f) (g:=[]) (by simp) hn (by simp [Qz]) ?_ (by simp) ⟨_,rfl,by simp⟩
  simp [Ji,Zo,Zp,Vx q1 q2,Vx q3 q4,ex,ey,ez,ew,h4,QV]
 ·have a0':0<=tk f 10 - 4:=by omega
  obtain ⟨l,_,hl,el⟩:=GS (xs:=([["first",x,y],["second",x,y],["same",x,y],["none",x],["tell",y],["tell",x]]:List Ln)) (i:=tk f 10 - 4) (f:=QV) (P:=PlainL bs ws) a0' (by show tk f 10 - 4 < 6;omega) (by
   intro l hl
   simp at hl
   rcases hl with rfl | rfl | rfl | rfl | rfl | rfl
   ·exact .first hx hy
   ·exact .second hx hy
   ·exact .same hx hy
   ·exact .none hx
   ·exact .tell hy
   ·exact .tell hx)
  refine ⟨l,tf (tf (tf f 10) bs.length) bs.length,hl,fun h n hn=>?_⟩
  refine Jb (o:=Qz f) (g:=[]) (by simp) hn (by simp [Qz]) ?_ (by simp) ⟨_,rfl,by simp⟩
  simp [QV] at el
  simp [Ji,Zo,Zp,Vx q1 q2,ex,ey,h4,el,QV]
noncomputable def cd (x:Str):Cd:=if x="either" then .ei else if x="again" then .ag else if x="or" then .oo else if x="end" then .en else .ot
noncomputable def cdL:Ln->Cd
 | []=>.ot
 | x::_=>cd x
inductive LineOk (bs ws later:List Str):Ln->Prop where
 | plain {l:Ln} (h:PlainL bs ws l):LineOk bs ws later l
 | do {x:Str} (h:x∈later):LineOk bs ws later ["do",x]
 | blk {x:Str} (h:x="either"\/x="again"\/x="or"\/x="end"):LineOk bs ws later [x]
 | back {x:Str} (h:x∈ws):LineOk bs ws later ["back",x]
noncomputable abbrev orL:Ln:=["or"]
noncomputable abbrev Qf4:Ln:=["end"]
noncomputable def Qbh:Ln->Bool
 | x::_=>x == "do"
 | []=>false
noncomputable def dcn (ls:List Ln):Nat:=ls.countP Qbh
theorem UU (L:List Ln) (l:Ln):dcn (L++[l])=dcn L+(if Qbh l=true then 1 else 0):=by simp [dcn,List.countP_append,List.countP_cons]
theorem JC {L:List Ln} {l:Ln} (h:Qbh l=false):dcn (L++[l])=dcn L:=by rw [UU,h];rfl
theorem Xk {bs ws:List Str} {l:Ln} (h:PlainL bs ws l):Qbh l=false:=by cases h<;>(show (_ == _)=false)<;>decide
theorem K7:cd "again"=.ag:=by decide
theorem Qav:cd "end"=.en:=by decide
theorem XQ {bs ws:List Str} {l:Ln} (h:PlainL bs ws l):cdL l=.ot:=by cases h<;>(show cd _=.ot)<;>decide
@[simp] theorem K0 {h:MH} {i j:Nat} {us vs:List W} (hi:h[i]?=some (.lst us)) (hj:h[j]?=some (.lst vs)) (pu:Jv us=true) (pv:Jv vs=true):ZV (QaM h) [i,j]=some [.lst us,.lst vs]:=by
 simp [ZV,XT hi pu,XT hj pv]
theorem QbK {L:List Ln} {O:List Str} {h:MH} {i j:Nat} (hl:L.length<=100000) (hij:i≠j) (hi:h[i]?=some (.lst (L.map QV))) (hj:h[j]?=some (.lst ((O++[("either":Str)]).map .str))) :
  Qw [.ref i,.ref j] h=some (.non,(h.set i (.lst ((L++[orL]).map QV))).set j (.lst ((O++[("or":Str)]).map .str))):=by
 refine V0 (w:=.non) (as:=[.ref 0,.ref 1]) (ns:=[i,j]) (os:=[.lst (L.map QV),.lst ((O++[("either":Str)]).map .str)]) (os':=[.lst ((L++[orL]).map QV),.lst ((O++[("or":Str)]).map .str)]) (g:=[]) rfl (by simp [hij]) (K0 hi hj (by simp) (by simp)) ?_ rfl ?_ rfl
 ·have h1:L.length < sizeLine:=Ki (by omega)
  simp [ZR,Zo,h1,QV]
 ·intro o ho
  simp at ho
  rcases ho with rfl | rfl
  ·exact ⟨_,rfl,by simp⟩
  ·exact ⟨_,rfl,by simp⟩
theorem QaQ {L:List Ln} {O:List Str} {x:Str} {h:MH} {i j:Nat} (hx:x≠"either") (hl:L.length<=100000) (hij:i≠j) (hi:h[i]?=some (.lst (L.map QV))) (hj:h[j]?=some (.lst ((O++[x]).map .str))) :
  Qw [.ref i,.ref j] h=some (.non,(h.set i (.lst ((L++[Qf4]).map QV))).set j (.lst (O.map .str))):=by
 refine V0 (w:=.non) (as:=[.ref 0,.ref 1]) (ns:=[i,j]) (os:=[.lst (L.map QV),.lst ((O++[x]).map .str)]) (os':=[.lst ((L++[Qf4]).map QV),.lst (O.map .str)]) (g:=[]) rfl (by simp [hij]) (K0 hi hj (by simp) (by simp)) ?_ rfl ?_ rfl
 ·have h1:L.length < sizeLine:=Ki (by omega)
  simp [ZR,Zo,h1,QV,hx]
 ·intro o ho
  simp at ho
  rcases ho with rfl | rfl
  ·exact ⟨_,rfl,by simp⟩
  ·exact ⟨_,rfl,by simp⟩
structure PI (bs ws later:List Str) (size d0:Int) (n:Nat) (σ:MSt) (h:MH):Prop where
 ex:∃ (f:Fd) (L:List Ln) (O:List Str) (op ds:Int) (kk ww:Option W),σ=[some (.ref 0),some (.int size),some (.tup [Zp bs,Zp ws]),some (Zp later),some (.int op),some (.int ds),some (.ref 1),some (.ref 2),kk,ww]/\h=[Qz f,.lst (L.map QV),.lst (O.map .str)] /\
  (∀ l∈L,LineOk bs ws later l)/\KY (L.map cdL) []=some (O.reverse.map cd)/\(∀ x∈O,x="either"\/x="again"\/x="or")/\L.length=n/\O.length<=n/\(dcn L:Int)+ds=d0/\0<=ds
theorem QcQ (O:List Str) (h:O≠[]):∃ r x,O=r++[x]:=⟨O.dropLast,O.getLast h,(List.dropLast_concat_getLast h).symm⟩
theorem YB {bs ws later:List Str}:LineOk bs ws later Qf4:=.blk (.inr (.inr (.inr rfl)))
theorem WL {bs ws later:List Str}:LineOk bs ws later orL:=.blk (.inr (.inr (.inl rfl)))
theorem Zf {α:Type} {P:α->Prop} {xs:List α} {x:α} (h:∀ y∈xs,P y) (hx:P x):∀ y∈xs++[x],P y:=fun y hy=>by
 rcases List.mem_append.mp hy with z | z
 ·exact h y z
 ·rw [List.mem_singleton.mp z];exact hx
theorem Ul {P:Str->Prop} {xs:List Str} {x y:Str} (h:∀ z∈xs++[x],P z) (hy:P y):∀ z∈xs++[y],P z:=Zf (fun z hz=>h z (List.mem_append_left _ hz)) hy
theorem J7 (O:List Str) (x:Str):(O++[x]).reverse.map cd=cd x::O.reverse.map cd:=by simp
theorem ZQ (L:List Ln) (l:Ln):(L++[l]).map cdL=L.map cdL++[cdL l]:=by simp
theorem opk {x:Str} (h:x="either"\/x="again"\/x="or") (hn:x≠"either"):cd x≠.ei:=by
 rcases h with rfl | rfl | rfl
 ·exact absurd rfl hn
 ·decide
 ·decide
theorem QaB {x:Str} {s:List Cd} (h:cd x≠.ei):kst .en (cd x::s)=some s:=by simp [kst,h]
noncomputable abbrev pS (bs ws later:List Str) (size op ds:Int) (k:W) (way:Int):MSt:=[some (.ref 0),some (.int size),some (.tup [Zp bs,Zp ws]),some (Zp later),some (.int op),some (.int ds),some (.ref 1),some (.ref 2),some k,some (.int way)]
theorem QaD {bs ws later:List Str} {size d0:Int} {n:Nat} {σ:MSt} {h:MH} {k:W} (hb:0 < bs.length) (hb2:bs.length<=5) (hw:0 < ws.length) (hw2:ws.length<=5) (hla:later.length<=5) (hn:n<=1000) (H:PI bs ws later size d0 n σ h) :
  ∃ σ1,Jy 8 k σ h=some σ1/\∃ σ2 h2,(Jf σ1 h=some (.nx σ2 h2)\/Jf σ1 h=some (.ct σ2 h2))/\PI bs ws later size d0 (n+1) σ2 h2:=by
 obtain ⟨f,L,O,op,ds,kk,ww,rfl,rfl,hL,hk,hO,hl,hol,hdc,hd0⟩:=H.ex
 refine ⟨_,rfl,?_⟩
 obtain ⟨a0,a1⟩:=Xe (f:=f) (m:=14) (by decide)
 have hsz:L.length < sizeLine:=Ki (by omega)
 have hoz:O.length < sizeLine:=Ki (by omega)
 generalize hway:tk f 14=way at a0 a1
 have t1:∀ h,Vc (QA (Qm wLt (Qg 9) (mC (.int 3)))) (QA (Qm wGt (Qg 4) (mC (.int 0)))) (pS bs ws later size op ds k way) h=some (decide (way < 3/\0 < op),h):=fun h=>by by_cases a:way < 3<;>simp [a]
 have t2:∀ f,Vc (QA (Qm wLt (Qg 9) (mC (.int 6)))) (QA (Qm wGt (mFn JS (Qc (Qg 7) Ql)) (mC (.int 0)))) (pS bs ws later size op ds k way) [Qz f,.lst (L.map QV),.lst (O.map .str)]=some (decide (way < 6/\0 < O.length),[Qz f,.lst (L.map QV),.lst (O.map .str)]):=fun h=>by by_cases a:way < 6<;>simp [a]
 have t3:∀ h,Vc (QA (Qm (wIn false) (Qg 9) (mFn Xs (Qc (mC (.int 6)) (Qc (mC (.int 7)) Ql))))) (Vc (QA (Qm wGt (Qg 5) (mC (.int 0)))) (QA (Qm wGt (mFn JS (Qc (Qg 3) Ql)) (mC (.int 0))))) (pS bs ws later size op ds k way) h=some (decide ((way=6\/way=7)/\0 < ds/\0 < later.length),h):=fun h=>by
  by_cases a:way=6\/way=7
  ·by_cases b:0 < ds<;>simp [a,b]
  ·simp [a]
 by_cases h1:way < 3/\0 < op
 ·obtain ⟨x,_,hx,ex⟩:=GS (xs:=([("either":Str),"again","either"])) (f:=W.str) (P:=fun x=>x="either"\/x="again") a0 (by show way < 3;omega) (by simp)
  simp at ex
  refine ⟨pS bs ws later size (op - 1) ds k way,[Qz (tf f 14),.lst ((L++[[x]]).map QV),.lst ((O++[x]).map .str)],.inl ?_,⟨_,_,_,_,_,_,_,rfl,rfl,?_,?_,?_,?_,?_,?_,hd0⟩⟩
  ·simp [-Uv,hway,t1,h1,ex,hoz,hsz,QV]
  ·exact Zf hL (.blk (by rcases hx with rfl | rfl<;>simp))
  ·rw [ZQ,J7]
   refine ZN hk ?_
   rcases hx with rfl | rfl
   ·rfl
   ·show kst (cd "again") _=_
    rw [K7];rfl
  ·exact Zf hO (by rcases hx with z | z<;>simp [z])
  ·simp [hl]
  ·simp;omega
  ·rw [JC (by rcases hx with rfl | rfl<;>decide)];exact hdc
 ·by_cases h2:way < 6/\0 < O.length
  ·obtain ⟨r,x,rfl⟩:=QcQ O (by intro z;rw [z] at h2;simp at h2)
   rw [J7] at hk
   have es:∃ L' O',((x="either"/\L'=L++[orL]/\O'=r++[("or":Str)])\/(x≠"either"/\L'=L++[Qf4]/\O'=r))/\Qw [.ref 1,.ref 2] [Qz (tf f 14),.lst (L.map QV),.lst ((r++[x]).map .str)]=some (.non,[Qz (tf f 14),.lst (L'.map QV),.lst (O'.map .str)]):=by
    by_cases hx:x="either"
    ·subst hx
     exact ⟨_,_,.inl ⟨rfl,rfl,rfl⟩,QbK (L:=L) (O:=r) (i:=1) (j:=2) (by omega) (by decide) rfl rfl⟩
    ·exact ⟨_,_,.inr ⟨hx,rfl,rfl⟩,QaQ (L:=L) (O:=r) (x:=x) (i:=1) (j:=2) hx (by omega) (by decide) rfl rfl⟩
   obtain ⟨L',O',hc,es⟩:=es
   refine ⟨pS bs ws later size op ds k way,[Qz (tf f 14),.lst (L'.map QV),.lst (O'.map .str)],.inl ?_,⟨_,L',O',_,_,_,_,rfl,rfl,?_⟩⟩
   ·have h2':way < 6/\0 < r.length+1:=⟨h2.1,by omega⟩
    have t2':=t2 (tf f 14)
    simp only [List.map_append,List.map_cons,List.map_nil] at es t2'
    simp [-Uv,hway,t1,h1,t2',h2.1,es]
   ·rcases hc with ⟨rfl,rfl,rfl⟩ | ⟨hx,rfl,rfl⟩
    ·refine ⟨Zf hL WL,?_,Ul hO (by simp),by simp [hl],by simp at hol ⊢;omega,by rw [JC (by decide)];exact hdc,hd0⟩
     rw [ZQ,J7]
     exact ZN hk rfl
    ·refine ⟨Zf hL YB,?_,fun y hy=>hO y (List.mem_append_left _ hy),by simp [hl],by simp at hol ⊢;omega,by rw [JC (by decide)];exact hdc,hd0⟩
     rw [ZQ]
     refine ZN hk ?_
     show kst (cd "end") _=_
     rw [Qav]
     exact QaB (opk (hO x (by simp)) hx)
  ·by_cases h3:(way=6\/way=7)/\0 < ds/\0 < later.length
   ·have q1:(0:Int) < later.length:=by omega
    have q2:(later.length:Int) < 1000000:=by omega
    obtain ⟨b0,b1⟩:=Xe (f:=tf f 14) (m:=later.length) q1
    obtain ⟨x,hx,ex⟩:=G5 b0 b1
    refine ⟨pS bs ws later size op (ds - 1) k way,[Qz (tf (tf f 14) later.length),.lst ((L++[(["do",x]:Ln)]).map QV),.lst (O.map .str)],.inl ?_,⟨_,_,_,_,_,_,_,rfl,rfl,?_,?_,hO,?_,?_,?_,by omega⟩⟩
    ·simp [-Uv,hway,t1,h1,t2,h2,t3,h3,hsz,QV,Vx q1 q2,ex]
    ·exact Zf hL (.do hx)
    ·rw [ZQ]
     exact ZN hk (by show kst (cd "do") _=_;rw [show cd "do"=.ot by decide];rfl)
    ·simp [hl]
    ·omega
    ·rw [UU,if_pos (by show (_ == _)=true;decide)];omega
   ·obtain ⟨l,f',hp,ep⟩:=XN (tf f 14) bs ws hb hb2 hw hw2
    refine ⟨pS bs ws later size op ds k way,[Qz f',.lst ((L++[l]).map QV),.lst (O.map .str)],.inl ?_,⟨_,_,_,_,_,_,_,rfl,rfl,?_,?_,hO,?_,?_,?_,hd0⟩⟩
    ·simp [-Uv,hway,t1,h1,t2,h2,t3,h3,hsz,ep]
    ·exact Zf hL (.plain hp)
    ·rw [ZQ]
     exact ZN hk (by rw [XQ hp];rfl)
    ·simp [hl]
    ·omega
    ·rw [JC (Xk hp)];exact hdc
noncomputable def wt (O:List Str):Nat:=(O.map fun (x:Str)=>if x="either" then 2 else 1).sum
theorem VY (O:List Str) (x:Str):wt (O++[x])=wt O+(if x="either" then 2 else 1):=by simp [wt]
theorem Qeh (O:List Str):wt O<=2*O.length:=by
 induction O with
 | nil=>simp [wt]
 | cons x O ih=>simp only [wt,List.map_cons,List.sum_cons,List.length_cons] at ih ⊢;split<;>omega
theorem QdD (O:List Str) (h:O≠[]):0 < wt O:=by
 obtain ⟨r,x,rfl⟩:=QcQ O h
 rw [VY];split<;>omega
theorem QbE {bs ws later:List Str} {i j:Nat} {t:MT} {body:SM} {σ:MSt} (g:List Ln->List Str->MH) (bound:Nat) (hij:i≠j) (hbd:bound<=90000)
  (gi:∀ L O,(g L O)[i]?=some (.lst (L.map QV))) (gj:∀ L O,(g L O)[j]?=some (.lst (O.map .str))) (gs:∀ L O L' O',((g L O).set i (.lst (L'.map QV))).set j (.lst (O'.map .str))=g L' O')
  (ht:∀ L O,t σ (g L O)=some (decide (0 < O.length),g L O)) (hb:∀ L O w h,Qw [.ref i,.ref j] (g L O)=some (w,h)->body σ (g L O)=some (.nx σ h))
  (L:List Ln) (O:List Str) (hL:∀ l∈L,LineOk bs ws later l) (hk:KY (L.map cdL) []=some (O.reverse.map cd)) (hO:∀ x∈O,x="either"\/x="again"\/x="or") (hl:L.length+wt O<=bound) :
  ∃ L',(∀ l∈L',LineOk bs ws later l)/\Bal (L'.map cdL)/\L'.length<=bound/\dcn L'=dcn L/\Q0 t body 1000000 σ (g L O)=some (.nx σ (g L' [])):=by
 have key:=XZ (t:=t) (body:=body) (fun n σ' h=>σ'=σ/\∃ L1 O,dcn L1=dcn L/\h=g L1 O/\n=wt O/\(∀ l∈L1,LineOk bs ws later l)/\KY (L1.map cdL) []=some (O.reverse.map cd)/\(∀ x∈O,x="either"\/x="again"\/x="or")/\L1.length+wt O<=bound) (wt O) 1000000 σ (g L O) (by omega) ⟨rfl,L,O,rfl,rfl,rfl,hL,hk,hO,hl⟩ ?_
 ·obtain ⟨σ',h',e,rfl,L',O',hdc,rfl,hw,h1,h2,h3,h4⟩:=key
  have:O'=[]:=by
   cases O' with
   | nil=>rfl
   | cons x r=>have:=QdD (x::r) (by simp);omega
  subst this
  exact ⟨L',h1,bal_iff.mpr h2,by omega,hdc,e⟩
 ·rintro n σ' h ⟨rfl,L1,O,hdc,rfl,rfl,h1,h2,h3,h4⟩
  by_cases hne:O=[]
  ·subst hne
   exact .inl ⟨by rw [ht];rfl,rfl⟩
  ·refine .inr ⟨by rw [ht,decide_eq_true (List.length_pos_iff.mpr hne)],?_⟩
   obtain ⟨r,x,rfl⟩:=QcQ O hne
   rw [J7] at h2
   rw [VY] at h4 ⊢
   by_cases hx:x="either"
   ·subst hx
    rw [if_pos rfl] at h4 ⊢
    refine ⟨wt (r++[("or":Str)]),σ',g (L1++[orL]) (r++[("or":Str)]),?_,.inl ?_,rfl,_,_,(JC (by decide)).trans hdc,rfl,rfl,Zf h1 WL,?_,Ul h3 (by simp),?_⟩
    ·rw [VY,if_neg (by decide)];omega
    ·refine hb _ _ .non _ ?_
     rw [QbK (L:=L1) (O:=r) (by omega) hij (gi _ _) (gj _ _),gs]
    ·rw [ZQ,J7]
     exact ZN h2 rfl
    ·rw [VY,if_neg (by decide)];simp;omega
   ·rw [if_neg hx] at h4 ⊢
    refine ⟨wt r,σ',g (L1++[Qf4]) r,by omega,.inl ?_,rfl,_,_,(JC (by decide)).trans hdc,rfl,rfl,Zf h1 YB,?_,fun y hy=>h3 y (List.mem_append_left _ hy),?_⟩
    ·refine hb _ _ .non _ ?_
     rw [QaQ (L:=L1) (O:=r) hx (by omega) hij (gi _ _) (gj _ _),gs]
    ·rw [ZQ]
     refine ZN h2 ?_
     show kst (cd "end") _=_
     rw [Qav]
     exact QaB (opk (h3 x (by simp)) hx)
    ·simp;omega
theorem WT (f:Fd) (size:Nat) (bs ws later:List Str) (op ds:Int) (hds:0<=ds) (hs:size<=100) (hb:0 < bs.length) (hb2:bs.length<=5) (hw:0 < ws.length) (hw2:ws.length<=5) (hla:later.length<=5) :
  ∃ (ls:List Ln) (f':Fd),Bal (ls.map cdL)/\(∀ l∈ls,LineOk bs ws later l)/\ls.length<=3*size/\(dcn ls:Int)<=ds/\∀ (h:MH) (n:Nat),h[n]?=some (Qz f)->QS [.ref n,.int size,.tup [Zp bs,Zp ws],Zp later,.int op,.int ds] h=some (.tup (ls.map QV),h.set n (Qz f')):=by
 have loop:=ZT (items:=QR 0 size) (b:=Jy 8) (body:=Jf) (PI bs ws later size ds) (QR 0 size) 0 [some (.ref 0),some (.int size),some (.tup [Zp bs,Zp ws]),some (Zp later),some (.int op),some (.int ds),some (.ref 1),some (.ref 2),none,none] [Qz f,.lst [],.lst []]
  ⟨f,[],[],op,ds,none,none,rfl,rfl,by simp,rfl,by simp,rfl,Nat.le_refl _,by simp [dcn],hds⟩ (fun j w hj σ h H=>QaD hb hb2 hw hw2 hla (by have:=(List.getElem?_eq_some_iff.mp hj).1;rw [Zj] at this;omega) H)
 obtain ⟨σ',h',e1,H⟩:=loop
 obtain ⟨f1,L,O,op1,ds1,kk,ww,rfl,rfl,hL,hk,hO,hl,hol,hdc,hd0⟩:=H.ex
 rw [Zj,Nat.zero_add] at hl hol
 have cl:=QbE (bs:=bs) (ws:=ws) (later:=later) (i:=1) (j:=2) (t:=QA (Qm wGt (mFn JS (Qc (Qg 7) Ql)) (mC (.int 0)))) (body:=VU) (σ:=[some (.ref 0),some (.int size),some (.tup [Zp bs,Zp ws]),some (Zp later),some (.int op1),some (.int ds1),some (.ref 1),some (.ref 2),kk,ww])
  (fun L O=>[Qz f1,.lst (L.map QV),.lst (O.map .str)]) (3*size) (by decide) (by omega) (fun _ _=>rfl) (fun _ _=>rfl) (fun _ _ _ _=>rfl) (fun L O=>by simp) (fun L O w h e=>by simp [e]) L O hL hk hO (by have:=Qeh O;omega)
 obtain ⟨L',h1,h2,h3,hd1,e2⟩:=cl
 refine ⟨L',f1,h2,h1,h3,by rw [hd1];omega,fun h n hn=>?_⟩
 refine Jb (o:=Qz f) (g:=[.lst (L'.map QV),.lst []]) (by simp) hn (by simp [Qz]) ?_ (by simp) ⟨_,rfl,by simp⟩
 have er:Yi (Qc (Qg 1) Ql) [some (.ref 0),some (.int size),some (.tup [Zp bs,Zp ws]),some (Zp later),some (.int op),some (.int ds),some (.ref 1),some (.ref 2),none,none] [Qz f,.lst [],.lst []]=some (QR 0 size,none,[Qz f,.lst [],.lst []]):=VD (by simp) (by omega)
 simp [Vr,Zo,VM,er,e1,e2]
noncomputable abbrev QeC (i:Nat):Nat:=if i=0 then 23 else 1
structure GoodP (N:Nat) (bs ws:List Str) (p:List Pt):Prop where
 ne:p≠[]
 len:p.length<=5
 bal:∀ x∈p,Bal (x.2.map cdL)
 sz:∀ x∈p,x.2.length<=N
 ok:∀ (i:Nat) (x:Pt),p[i]?=some x->∀ l∈x.2,LineOk bs ws ((p.map (·.1)).drop (i+1)) l
 nd:(p.map (·.1)).Nodup
 dos:∀ (i:Nat) (x:Pt),p[i]?=some x->dcn x.2<=QeC i
theorem Qdl {α:Type} (xs:List α) (k:Nat):Gj xs (some (k:Int)) none=xs.drop k:=by
 unfold Gj
 rw [HT.sIx_nat,HT.sIx_none]
 by_cases h:k<=xs.length
 ·rw [Nat.min_eq_left h,List.take_of_length_le (by simp)]
 ·rw [Nat.min_eq_right (by omega),List.drop_eq_nil_of_le (Nat.le_refl _),List.drop_eq_nil_of_le (by omega)];simp
theorem QdG {ns:List Str} {k:Nat} {i:Int} {h:MH} (hk:i=k):wSl (Zp ns) (some i) none h=some (Zp (ns.drop k),h):=by
 subst hk
 unfold Zp
 simp [Qdl,List.map_drop]
@[simp] theorem Qim {ns:List Str} {h:MH}:wSl (Zp ns) (some 1) none h=some (Zp (ns.drop 1),h):=QdG (k:=1) rfl
theorem GX {i:Int} (h:0<=i):∃ n:Nat,i=n:=⟨i.toNat,by omega⟩
theorem QcG {ms:MA} {σ:MSt} {h h':MH} {j:Nat} (e:ms σ h=some ([.int 1,.int j],h')) (hj:j < 100000000):QhV ms σ h=some (QR 1 (j - 1),none,h'):=by
 unfold QhV
 rw [e,Option.bind_some]
 refine (if_pos ⟨by omega,by omega,by omega,by omega⟩).trans ?_
 rw [show ((j:Int) - 1).toNat=j - 1 by omega]
structure PP (N:Nat) (bs ws names:List Str) (k:Nat) (p:List Pt):Prop where
 nm:p.map (·.1)=names.take k
 bal:∀ x∈p,Bal (x.2.map cdL)
 sz:∀ x∈p,x.2.length<=N
 ok:∀ (i:Nat) (x:Pt),p[i]?=some x->∀ l∈x.2,LineOk bs ws (names.drop (i+1)) l
 dos:∀ (i:Nat) (x:Pt),p[i]?=some x->dcn x.2<=QeC i
theorem PP.snoc {N:Nat} {bs ws names:List Str} {k:Nat} {p:List Pt} {nm:Str} {ls:List Ln} (H:PP N bs ws names k p) (hk:names[k]?=some nm) (hb:Bal (ls.map cdL)) (hs:ls.length<=N) (ho:∀ l∈ls,LineOk bs ws (names.drop (k+1)) l) (hd:dcn ls<=QeC k):PP N bs ws names (k+1) (p++[(nm,ls)]):=by
 have hlt:=(List.getElem?_eq_some_iff.mp hk).1
 have hpl:p.length=k:=by have:=congrArg List.length H.nm;simp at this;omega
 refine ⟨?_,Zf H.bal hb,Zf H.sz hs,fun i x hx=>?_,fun i x hx=>?_⟩
 ·rw [List.map_append,H.nm,List.take_succ_eq_append_getElem hlt]
  rw [List.getElem?_eq_getElem hlt] at hk
  cases hk;rfl
 ·by_cases hi:i < p.length
  ·rw [List.getElem?_append_left hi] at hx
   exact H.ok i x hx
  ·have:i=p.length:=by have:=(List.getElem?_eq_some_iff.mp hx).1;simp at this;omega
   subst this
   simp at hx
   subst hx
   rw [hpl];exact ho
 ·by_cases hi:i < p.length
  ·rw [List.getElem?_append_left hi] at hx
   exact H.dos i x hx
  ·have:i=p.length:=by have:=(List.getElem?_eq_some_iff.mp hx).1;simp at this;omega
   subst this
   simp at hx
   subst hx
   rw [hpl];exact hd
theorem PP.good {N:Nat} {bs ws names:List Str} {p:List Pt} (H:PP N bs ws names names.length p) (hn:names≠[]) (hl:names.length<=5) (hnd:names.Nodup):GoodP N bs ws p:=by
 have hm:p.map (·.1)=names:=by rw [H.nm,List.take_length]
 have hpl:p.length=names.length:=by rw [<- hm];simp
 refine ⟨fun z=>hn (by rw [<- hm,z];rfl),by omega,H.bal,H.sz,?_,by rw [hm];exact hnd,H.dos⟩
 rw [hm];exact H.ok
theorem GH (f:Fd) (b0 b1 b2 b3:Nat) (h0:1<=b0/\b0<=5) (h1:1<=b1/\b1<=5) (h2:1<=b2/\b2<=5) (h3:3<=b3/\b3<=48) :
  ∃ (bs ws:List Str) (p:List Pt) (f':Fd),(0 < bs.length/\bs.length<=5)/\(0 < ws.length/\ws.length<=5)/\GoodP 300 bs ws p/\∀ (h:MH) (n:Nat),h[n]?=some (Qz f)->Q8 [.ref n,.lst [.int b0,.int b1,.int b2,.int b3]] h=some (Jz p,h.set n (Qz f')):=by
 have q0:(0:Int) < b0:=by omega
 have q0':(b0:Int) < 1000000:=by omega
 have q1:(0:Int) < b1:=by omega
 have q1':(b1:Int) < 1000000:=by omega
 have q2:(0:Int) < b2:=by omega
 have q2':(b2:Int) < 1000000:=by omega
 obtain ⟨a0,a1⟩:=Xe (f:=f) q0
 obtain ⟨n0,e0⟩:=GX a0
 obtain ⟨bs,f1,lb,_,eb⟩:=VL (tf f b0) (1+n0) (by omega)
 obtain ⟨c0,c1⟩:=Xe (f:=f1) q1
 obtain ⟨n1,e1⟩:=GX c0
 obtain ⟨ws,f2,lw,_,ew⟩:=VL (tf f1 b1) (1+n1) (by omega)
 obtain ⟨d0,d1⟩:=Xe (f:=f2) q2
 obtain ⟨n2,e2⟩:=GX d0
 obtain ⟨names,f3,ln,hnd,en⟩:=VL (tf f2 b2) (1+n2) (by omega)
 obtain ⟨g0,g1⟩:=Xe (f:=f3) (m:=3) (by decide)
 have hb:0 < bs.length/\bs.length<=5:=by omega
 have hw:0 < ws.length/\ws.length<=5:=by omega
 -- the size
 obtain ⟨size,f4,hs,es⟩:∃ (size:Nat) (f4:Fd),size<=60/\(if tk (tf f3 3) 4=0 then @om _ _ (fun p=>MF.nx [some (.ref 0),some (.lst [.int b0,.int b1,.int b2,.int b3]),some (.tup [Zp bs,Zp ws]),some (Zp names),some p.fst,none,none] p.snd) (Qh [.ref 0,.int (b3 - tk f3 3+1)] [Qz (tf (tf f3 3) 4)])
   else some (MF.nx [some (.ref 0),some (.lst [.int b0,.int b1,.int b2,.int b3]),some (.tup [Zp bs,Zp ws]),some (Zp names),some (.int (b3 - tk f3 3)),none,none] [Qz (tf (tf f3 3) 4)]))=some (.nx [some (.ref 0),some (.lst [.int b0,.int b1,.int b2,.int b3]),some (.tup [Zp bs,Zp ws]),some (Zp names),some (.int size),none,none] [Qz f4]):=by
  by_cases z:tk (tf f3 3) 4=0
  ·have r1:(0:Int) < b3 - tk f3 3+1:=by omega
   have r2:(b3:Int) - tk f3 3+1 < 1000000:=by omega
   obtain ⟨k0,k1⟩:=Xe (f:=tf (tf f3 3) 4) r1
   obtain ⟨sz,ez⟩:=GX k0
   exact ⟨sz,tf (tf (tf f3 3) 4) (b3 - tk f3 3+1),by omega,by simp [z,Vx r1 r2,ez]⟩
  ·obtain ⟨sz,ez⟩:=GX (i:=b3 - tk f3 3) (by omega)
   exact ⟨sz,tf (tf f3 3) 4,by omega,by simp [z,ez]⟩
 obtain ⟨l0,f5,p1,p2,p3,p4,ep⟩:=WT f4 size bs ws (names.drop 1) 2 2 (by omega) (by omega) hb.1 hb.2 hw.1 hw.2 (by simp;omega)
 obtain ⟨nm0,hn0⟩:∃ x,names[0]?=some x:=⟨names[0]'(by omega),List.getElem?_eq_getElem (by omega)⟩
 have loop:=ZT (items:=QR 1 (names.length - 1)) (b:=Jy 6) (body:=Vk) (fun n σ h=>∃ (f:Fd) (p:List Pt) (kk:Option W),σ=[some (.ref 0),some (.lst [.int b0,.int b1,.int b2,.int b3]),some (.tup [Zp bs,Zp ws]),some (Zp names),some (.int size),some (.ref 1),kk]/\h=[Qz f,.lst (p.map Ve)]/\PP 300 bs ws names (n+1) p)
  (QR 1 (names.length - 1)) 0 [some (.ref 0),some (.lst [.int b0,.int b1,.int b2,.int b3]),some (.tup [Zp bs,Zp ws]),some (Zp names),some (.int size),some (.ref 1),none] [Qz f5,.lst [Ve (nm0,l0)]]
  ⟨f5,[(nm0,l0)],none,rfl,rfl,PP.snoc (p:=[]) ⟨rfl,by simp,by simp,by simp,by simp⟩ hn0 p1 (by omega) p2 (by show _<=23;omega)⟩ (by
   rintro j w hj σ h ⟨f,p,kk,rfl,rfl,H⟩
   have hjl:=(List.getElem?_eq_some_iff.mp hj).1
   rw [Zj] at hjl
   obtain rfl:w=.int ((j:Int)+1):=by rw [(XU hj).2,Int.add_comm]
   refine ⟨_,rfl,?_⟩
   obtain ⟨t0,t1⟩:=Xe (f:=f) (m:=4) (by decide)
   obtain ⟨m,em⟩:=GX t0
   obtain ⟨ls,f',r1,r2,r3,r4,er⟩:=WT (tf f 4) m bs ws (names.drop (j+2)) 1 1 (by omega) (by omega) hb.1 hb.2 hw.1 hw.2 (by simp;omega)
   obtain ⟨nm,hnm⟩:∃ x,names[j+1]?=some x:=⟨names[j+1]'(by omega),List.getElem?_eq_getElem (by omega)⟩
   refine ⟨[some (.ref 0),some (.lst [.int b0,.int b1,.int b2,.int b3]),some (.tup [Zp bs,Zp ws]),some (Zp names),some (.int size),some (.ref 1),some (.int ((j:Int)+1))],[Qz f',.lst ((p++[(nm,ls)]).map Ve)],.inl ?_,f',_,_,rfl,rfl,?_⟩
   ·have ea:atI (names.map W.str) ((j:Int)+1)=some (.str nm):=by rw [show (j:Int)+1=((j+1:Nat):Int) by omega,Q6,List.getElem?_map,hnm];rfl
    have esl:∀ h,wSl (Zp names) (some ((j:Int)+1+1)) none h=some (Zp (names.drop (j+2)),h):=fun h=>QdG (by omega)
    have hpl:p.length < sizeLine:=by have:=congrArg List.length H.nm;simp at this;exact Ki (by omega)
    simp [ea,esl,em,er,hpl,Ve]
   ·rw [Nat.zero_add] at H ⊢
    exact H.snoc hnm r1 (by omega) r2 (by rw [QeC,if_neg (by omega)];omega))
 obtain ⟨σ',h',el,f6,p,kk,rfl,rfl,H⟩:=loop
 rw [Zj,Nat.zero_add,show names.length - 1+1=names.length by omega] at H
 refine ⟨bs,ws,p,f6,hb,hw,H.good (by intro z;rw [z] at ln;simp at ln;omega) (by omega) hnd,fun h n hn=>?_⟩
 refine Jb (o:=Qz f) (g:=[.lst (p.map Ve)]) (by simp) hn (by simp [Qz]) ?_ (by simp) ⟨_,rfl,by simp⟩
 have er:QhV (Qc (mC (.int 1)) (Qc (mFn JS (Qc (Qg 3) Ql)) Ql)) [some (.ref 0),some (.lst [.int b0,.int b1,.int b2,.int b3]),some (.tup [Zp bs,Zp ws]),some (Zp names),some (.int size),some (.ref 1),none] [Qz f5,.lst [Ve (nm0,l0)]]=some (QR 1 (names.length - 1),none,[Qz f5,.lst [Ve (nm0,l0)]]):=QcG (by simp) (by omega)
 have ea:atI (names.map W.str) 0=some (.str nm0):=by rw [Qmg,List.getElem?_map,hn0];rfl
 push_cast at eb ew en
 rw [List.drop_one] at ep
 have en0:Ve (nm0,l0)=.tup [.str nm0,.tup (l0.map QV)]:=rfl
 rw [en0] at er el
 simp [JF,Zo,VM,Vx q0 q0',Vx q1 q1',Vx q2 q2',e0,e1,e2,eb,ew,en,es,ea,ep,er,el,Jz]
@[simp] theorem QjW {xs ys:List W} {h:MH}:Vt (.lst xs) (.lst ys) h=if xs.length+ys.length<=sizeLine then some (.lst (xs++ys),h) else none:=id rfl
theorem QbJ:∀ {ls:List Cd} {s:List Cd},(∀ c∈ls,c=.ot)->KY ls s=some s
 | [],_,_=>rfl
 | c::ls,s,h=>by
  rw [h c List.mem_cons_self]
  show KY ls s=some s
  exact QbJ fun c hc=>h c (List.mem_cons_of_mem _ hc)
theorem QdJ {ls:List Ln} (h:∀ l∈ls,cdL l=.ot):Bal (ls.map cdL):=bal_iff.mpr (QbJ fun c hc=>by obtain ⟨l,hl,rfl⟩:=List.mem_map.mp hc;exact h l hl)
theorem Qly:∀ {ns:List Str},ns.length=5->∃ a b c d e:Str,ns=[a,b,c,d,e]
 | [a,b,c,d,e],_=>⟨a,b,c,d,e,rfl⟩
noncomputable abbrev gS (bs ws ns:List Str) (x3 x4 x5 x6 x7 x8:Option W):MSt:=[some (.ref 0),some (.tup [Zp bs,Zp ws]),some (Zp ns),x3,x4,x5,x6,x7,x8]
theorem QgB (f:Fd) (bs ws:List Str) (hb:0 < bs.length/\bs.length<=5) (hw:0 < ws.length/\ws.length<=5) (σ:MSt) (hσ:∃ o,QcZ [none,some 0,some 1] σ=[o,some (.ref 0),some (.tup [Zp bs,Zp ws])]) (mi:MI) (m:Nat) (hm:m<=100) (g:Fd) (hmi:mi σ [Qz f]=some (QR 0 m,none,[Qz g])) :
  ∃ (ls:List Ln) (f':Fd),(∀ l∈ls,PlainL bs ws l)/\ls.length=m/\Zw Qev mi [none,some 0,some 1] (Jy 0) XR (Qv 3 QC (Qc (Qg 1) (Qc (Qm wIx (Qg 2) (mC (.int 0))) (Qc (Qm wIx (Qg 2) (mC (.int 1))) Ql)))) σ [Qz f]=some (.ref 1,[Qz f',.lst (ls.map QV)]):=by
 obtain ⟨o,ho⟩:=hσ
 have key:=UA (items:=QR 0 m) (b:=Jy 0) (me:=Qv 3 QC (Qc (Qg 1) (Qc (Qm wIx (Qg 2) (mC (.int 0))) (Qc (Qm wIx (Qg 2) (mC (.int 1))) Ql)))) (fin:=Qev)
  (fun (acc:List Ln) τ h=>∃ f o,τ=[o,some (.ref 0),some (.tup [Zp bs,Zp ws])]/\h=[Qz f]/\∀ l∈acc,PlainL bs ws l) QV (QR 0 m) [] [o,some (.ref 0),some (.tup [Zp bs,Zp ws])] [Qz g] ⟨g,o,rfl,rfl,by simp⟩ (by simp [Zj];exact Xi (by omega)) (by
   rintro w hw' acc τ h ⟨f,o,rfl,rfl,ha⟩
   obtain ⟨l,f',hp,ep⟩:=XN f bs ws hb.1 hb.2 hw.1 hw.2
   exact ⟨_,l,[Qz f'],rfl,by simp [ep],f',_,rfl,rfl,Zf ha hp⟩)
 obtain ⟨ls,τ',h',e,⟨f',o',rfl,rfl,hl⟩,hlen⟩:=key
 refine ⟨ls,f',hl,by simpa [Zj] using hlen,?_⟩
 unfold Zw
 rw [hmi,Option.bind_some]
 simp only [ho]
 exact e
structure GI (bs ws ns:List Str) (n:Nat) (σ:MSt) (h:MH):Prop where
 ex:∃ (f:Fd) (L:List Ln) (O:List Str) (x3 x5 x6 x8:Option W),σ=gS bs ws ns x3 (some (.ref 1)) x5 x6 (some (.ref 2)) x8/\h=[Qz f,.lst (L.map QV),.lst (O.map .str)] /\
  (∀ l∈L,LineOk bs ws (ns.drop 1) l)/\KY (L.map cdL) []=some (O.reverse.map cd)/\(∀ x∈O,x="either"\/x="again"\/x="or")/\L.length=2*n/\O.length=n/\dcn L=0
theorem GQ {bs ws ns:List Str} {n:Nat} {σ:MSt} {h:MH} {k:W} (hb:0 < bs.length/\bs.length<=5) (hw:0 < ws.length/\ws.length<=5) (hn:n<=10) (H:GI bs ws ns n σ h) :
  ∃ σ1,Jy 8 k σ h=some σ1/\∃ σ2 h2,(Z2 σ1 h=some (.nx σ2 h2)\/Z2 σ1 h=some (.ct σ2 h2))/\GI bs ws ns (n+1) σ2 h2:=by
 obtain ⟨f,L,O,x3,x5,x6,x8,rfl,rfl,hL,hk,hO,hl,hol,hdc⟩:=H.ex
 refine ⟨_,rfl,?_⟩
 obtain ⟨l,f1,hp,ep⟩:=XN f bs ws hb.1 hb.2 hw.1 hw.2
 obtain ⟨a0,a1⟩:=Xe (f:=f1) (m:=2) (by decide)
 obtain ⟨x,_,hx,ex⟩:=GS (xs:=([("either":Str),"again"])) (f:=W.str) (P:=fun x=>x="either"\/x="again") a0 (by show tk f1 2 < 2;omega) (by simp)
 simp at ex
 have s1:L.length < sizeLine:=Ki (by omega)
 have s2:L.length+1 < sizeLine:=Ki (by omega)
 have s3:O.length < sizeLine:=Ki (by omega)
 refine ⟨gS bs ws ns x3 (some (.ref 1)) x5 x6 (some (.ref 2)) (some k),[Qz (tf f1 2),.lst ((L++[l]++[[x]]).map QV),.lst ((O++[x]).map .str)],.inl ?_,⟨_,_,_,_,_,_,_,rfl,rfl,?_,?_,?_,?_,?_,?_⟩⟩
 ·simp [ep,ex,s1,s2,s3,QV]
 ·exact Zf (Zf hL (.plain hp)) (.blk (by rcases hx with rfl | rfl<;>simp))
 ·rw [ZQ,ZQ,J7]
  refine ZN (ZN hk (by rw [XQ hp];rfl)) ?_
  rcases hx with rfl | rfl
  ·rfl
  ·show kst (cd "again") _=_
   rw [K7];rfl
 ·exact Zf hO (by rcases hx with z | z<;>simp [z])
 ·simp [hl];omega
 ·simp [hol]
 ·rw [JC (by rcases hx with rfl | rfl<;>decide),JC (Xk hp)];exact hdc
theorem WK {bs ws ns:List Str} {σ:MSt} {h:MH} (hb:0 < bs.length/\bs.length<=5) (hw:0 < ws.length/\ws.length<=5) (H:GI bs ws ns 6 σ h):∃ (f:Fd) (L:List Ln) (x3 x5 x6 x8:Option W),(∀ l∈L,LineOk bs ws (ns.drop 1) l)/\Bal (L.map cdL)/\L.length<=100/\dcn L=0 /\
  Q0 (QA (Qm wGt (mFn JS (Qc (Qg 7) Ql)) (mC (.int 0)))) JR 1000000 σ h=some (.nx (gS bs ws ns x3 (some (.ref 1)) x5 x6 (some (.ref 2)) x8) [Qz f,.lst (L.map QV),.lst []]):=by
 obtain ⟨f,L,O,x3,x5,x6,x8,rfl,rfl,hL,hk,hO,hl,hol,hdc⟩:=H.ex
 have key:=XZ (t:=QA (Qm wGt (mFn JS (Qc (Qg 7) Ql)) (mC (.int 0)))) (body:=JR) (fun n σ' h=>σ'=gS bs ws ns x3 (some (.ref 1)) x5 x6 (some (.ref 2)) x8/\∃ f L O,dcn L=0/\h=[Qz f,.lst (L.map QV),.lst (O.map .str)]/\n=wt O/\(∀ l∈L,LineOk bs ws (ns.drop 1) l)/\KY (L.map cdL) []=some (O.reverse.map cd)/\(∀ x∈O,x="either"\/x="again"\/x="or")/\L.length+2*wt O<=40) (wt O) 1000000 _ _ (by have:=Qeh O;omega) ⟨rfl,f,L,O,hdc,rfl,rfl,hL,hk,hO,by have:=Qeh O;omega⟩ ?_
 ·obtain ⟨σ',h',e,rfl,f',L',O',hdc',rfl,hw,h1,h2,h3,h4⟩:=key
  have:O'=[]:=by
   cases O' with
   | nil=>rfl
   | cons x r=>have:=QdD (x::r) (by simp);omega
  subst this
  exact ⟨f',L',x3,x5,x6,x8,h1,bal_iff.mpr h2,by omega,hdc',e⟩
 ·rintro n σ' h ⟨rfl,f,L,O,hdc',rfl,rfl,h1,h2,h3,h4⟩
  by_cases hne:O=[]
  ·subst hne
   exact .inl ⟨by simp,rfl⟩
  ·refine .inr ⟨by simp;exact List.length_pos_iff.mpr hne,?_⟩
   obtain ⟨l,f1,hp,ep⟩:=XN f bs ws hb.1 hb.2 hw.1 hw.2
   obtain ⟨r,x,rfl⟩:=QcQ O hne
   rw [J7] at h2
   rw [VY] at h4 ⊢
   have h2':KY ((L++[l]).map cdL) []=some (cd x::r.reverse.map cd):=by
    rw [ZQ]
    exact ZN h2 (by rw [XQ hp];rfl)
   have s1:L.length < sizeLine:=Ki (by omega)
   by_cases hx:x="either"
   ·subst hx
    rw [if_pos rfl] at h4 ⊢
    have es:=QbK (L:=L++[l]) (O:=r) (h:=[Qz f1,.lst ((L++[l]).map QV),.lst ((r++[("either":Str)]).map .str)]) (i:=1) (j:=2) (by simp;omega) (by decide) rfl rfl
    refine ⟨wt (r++[("or":Str)]),_,[Qz f1,.lst ((L++[l]++[orL]).map QV),.lst ((r++[("or":Str)]).map .str)],?_,.inl ?_,rfl,_,_,_,((JC (by decide)).trans (JC (Xk hp))).trans hdc',rfl,rfl,Zf (Zf h1 (.plain hp)) WL,?_,Ul h3 (by simp),?_⟩
    ·rw [VY,if_neg (by decide)];omega
    ·simp at es
     simp [ep,s1,es]
    ·rw [ZQ,J7]
     exact ZN h2' rfl
    ·rw [VY,if_neg (by decide)];simp;omega
   ·rw [if_neg hx] at h4 ⊢
    have es:=QaQ (L:=L++[l]) (O:=r) (x:=x) (h:=[Qz f1,.lst ((L++[l]).map QV),.lst ((r++[x]).map .str)]) (i:=1) (j:=2) hx (by simp;omega) (by decide) rfl rfl
    refine ⟨wt r,_,[Qz f1,.lst ((L++[l]++[Qf4]).map QV),.lst (r.map .str)],by omega,.inl ?_,rfl,_,_,_,((JC (by decide)).trans (JC (Xk hp))).trans hdc',rfl,rfl,Zf (Zf h1 (.plain hp)) YB,?_,fun y hy=>h3 y (List.mem_append_left _ hy),?_⟩
    ·simp at es
     simp [ep,s1,es]
    ·rw [ZQ]
     refine ZN h2' ?_
     show kst (cd "end") _=_
     rw [Qav]
     exact QaB (opk (h3 x (by simp)) hx)
    ·simp;omega
theorem QcN {bs ws:List Str} {nm:Str} {ls:List Ln} (hb:Bal (ls.map cdL)) (hs:ls.length<=300) (ho:∀ l∈ls,LineOk bs ws [] l) (hd:dcn ls=0):GoodP 300 bs ws [(nm,ls)]:=by
 refine ⟨by simp,by simp,by simpa using hb,by simpa using hs,fun i x hx=>?_,by simp,fun i x hx=>?_⟩
 ·cases i with
  | zero=>simp at hx;subst hx;simpa using ho
  | succ i=>simp at hx
 ·cases i with
  | zero=>simp at hx;subst hx;show dcn ls<=_;omega
  | succ i=>simp at hx
theorem Qb9 (f:Fd):∃ (bs ws:List Str) (p:List Pt) (f':Fd),(0 < bs.length/\bs.length<=5)/\(0 < ws.length/\ws.length<=5)/\GoodP 300 bs ws p/\∀ (h:MH) (n:Nat),h[n]?=some (Qz f)->ZA [.ref n] h=some (Jz p,h.set n (Qz f')):=by
 obtain ⟨bs,f1,lb,_,eb⟩:=VL f 5 (by omega)
 obtain ⟨ws,f2,lw,_,ew⟩:=VL f1 5 (by omega)
 obtain ⟨ns,f3,ln,hnd,en⟩:=VL f2 5 (by omega)
 obtain ⟨a,b,c,d,e,rfl⟩:=Qly ln
 have hb:0 < bs.length/\bs.length<=5:=by omega
 have hw:0 < ws.length/\ws.length<=5:=by omega
 simp at eb ew en
 obtain ⟨w0,w1⟩:=Xe (f:=f3) (m:=3) (by decide)
 have pg:Jl [.ref 0] [Qz f]=QfZ (Z3 (gS bs ws [a,b,c,d,e] (some (.int (tk f3 3))) none none none none none) [Qz (tf f3 3)]):=by simp [Jl,Zo,eb,ew,en]
 by_cases hz:tk f3 3=0
 ·obtain ⟨m0,m1⟩:=Xe (f:=tf f3 3) (m:=9) (by decide)
  obtain ⟨m,em⟩:=GX m0
  obtain ⟨ls,f',hp,hl,ec⟩:=QgB (tf f3 3) bs ws hb hw (gS bs ws [a,b,c,d,e] (some (.int 0)) none none none none none) ⟨none,rfl⟩ (Yi (Qc (Qm Vt (mC (.int 40)) (Qv 2 Qh (Qc (Qg 0) (Qc (mC (.int 9)) Ql)))) Ql)) (40+m) (by omega) (tf (tf f3 3) 9) (VD (j:=40+m) (by simp [em]) (by omega))
  refine ⟨bs,ws,[(a,ls)],f',hb,hw,QcN (QdJ fun l hl=>XQ (hp l hl)) (by omega) (fun l hl=>.plain (hp l hl)) (by unfold dcn;rw [List.countP_eq_zero];intro l hl;rw [Xk (hp l hl)];simp),fun h n hn=>?_⟩
  refine Jb (o:=Qz f) (g:=[.lst (ls.map QV)]) (by simp) hn (by simp [Qz]) ?_ (by simp) ⟨_,rfl,by simp⟩
  rw [pg]
  simp [Z3,hz,ec,Jz,Ve]
 ·by_cases ho:tk f3 3=1
  ·obtain ⟨m0,m1⟩:=Xe (f:=tf f3 3) (m:=2) (by decide)
   obtain ⟨m,em⟩:=GX m0
   obtain ⟨ls,f4,r1,r2,r3,r4,er⟩:=WT (tf (tf f3 3) 2) m bs ws [] 0 0 (by omega) (by omega) hb.1 hb.2 hw.1 hw.2 (by simp)
   obtain ⟨k0,k1⟩:=Xe (f:=f4) (m:=4) (by decide)
   obtain ⟨k,ek⟩:=GX k0
   refine ⟨bs,ws,[(a,List.replicate (20+k) (["do",b]:Ln)),(b,ls)],tf f4 4,hb,hw,⟨by simp,by simp,?_,?_,?_,?_,?_⟩,fun h n hn=>?_⟩
   ·intro x hx
    simp at hx
    rcases hx with rfl | rfl
    ·exact QdJ fun l hl=>by rw [(List.mem_replicate.mp hl).2];show cd "do"=.ot;decide
    ·exact r1
   ·intro x hx
    simp at hx
    rcases hx with rfl | rfl
    ·simp;omega
    ·show ls.length<=300;omega
   ·intro i x hx
    match i,hx with
    | 0,hx=>
     simp at hx;subst hx
     intro l hl
     rw [(List.mem_replicate.mp hl).2]
     exact .do (by simp)
    | 1,hx=>simp at hx;subst hx;simpa using r2
   ·simp at hnd ⊢
    exact hnd.1.1
   ·intro i x hx
    match i,hx with
    | 0,hx=>
     simp at hx;subst hx
     have:=List.countP_le_length (p:=Qbh) (l:=List.replicate (20+k) (["do",b]:Ln))
     rw [List.length_replicate] at this
     show List.countP Qbh (List.replicate (20+k) (["do",b]:Ln))<=23
     omega
    | 1,hx=>simp at hx;subst hx;show dcn ls<=1;omega
   ·refine Jb (o:=Qz f) (g:=[]) (by simp) hn (by simp [Qz]) ?_ (by simp) ⟨_,rfl,by simp⟩
    have ec:=VR (fin:=Vu) (mi:=Yi (Qc (Qg 6) Ql)) (cp:=[none,some 2]) (me:=mFn Jj (Qc (mC (.str "do")) (Qc (Qm wIx (Qg 1) (mC (.int 1))) Ql))) (σ:=gS bs ws [a,b,c,d,e] (some (.int 1)) none (some (.tup (ls.map QV))) (some (.int (20+k))) none none) (caps:=[some (Zp [a,b,c,d,e])]) (h:=[Qz (tf f4 4)]) (items:=QR 0 (20+k))
     (fun _=>QV ["do",b]) (VD (j:=20+k) (by simp) (by omega)) ⟨_,rfl⟩ (fun w hw=>by simp [QV]) (by rw [Zj];exact Xi (by omega))
    have er':QS [.ref 0,.int m,.tup [Zp bs,Zp ws],.lst [],.int 0,.int 0] [Qz (tf (tf f3 3) 2)]=some (.tup (ls.map QV),[Qz f4]):=er _ 0 rfl
    have hconst:(QR 0 (20+k)).map (fun _=>QV ["do",b])=List.replicate (20+k) (QV ["do",b]):=by rw [List.map_const',Zj]
    rw [hconst] at ec
    simp only [Vu] at ec
    rw [pg]
    simp [Z3,ho,em,er',ek,ec,Jz,Ve]
  ·have loop:=ZT (items:=QR 0 6) (b:=Jy 8) (body:=Z2) (GI bs ws [a,b,c,d,e]) (QR 0 6) 0 (gS bs ws [a,b,c,d,e] (some (.int (tk f3 3))) (some (.ref 1)) none none (some (.ref 2)) none) [Qz (tf f3 3),.lst [],.lst []]
    ⟨_,[],[],_,_,_,_,rfl,rfl,by simp,rfl,by simp,rfl,rfl,rfl⟩ (fun j w hj σ h H=>GQ hb hw (by have:=(XU hj).1;omega) H)
   obtain ⟨σ',h',e1,H⟩:=loop
   rw [Zj,Nat.zero_add] at H
   obtain ⟨f4,L,x3,x5,x6,x8,c1,c2,c3,c4,e2⟩:=WK hb hw H
   have hx:GoodP 300 bs ws [(a,L),(b,[]),(c,[]),(d,[]),(e,[])]:=by
    refine ⟨by simp,by simp,?_,?_,?_,by simpa using hnd,?_⟩
    ·intro x hx
     simp at hx
     rcases hx with rfl | rfl | rfl | rfl | rfl
     ·exact c2
     all_goals rfl
    ·intro x hx
     simp at hx
     rcases hx with rfl | rfl | rfl | rfl | rfl<;>simp
     omega
    ·intro i x hx
     match i,hx with
     | 0,hx=>simp at hx;subst hx;simpa using c1
     | 1,hx=>simp at hx;subst hx;simp
     | 2,hx=>simp at hx;subst hx;simp
     | 3,hx=>simp at hx;subst hx;simp
     | 4,hx=>simp at hx;subst hx;simp
    ·intro i x hx
     match i,hx with
     | 0,hx=>simp at hx;subst hx;show dcn L<=_;omega
     | 1,hx=>simp at hx;subst hx;simp [dcn]
     | 2,hx=>simp at hx;subst hx;simp [dcn]
     | 3,hx=>simp at hx;subst hx;simp [dcn]
     | 4,hx=>simp at hx;subst hx;simp [dcn]
   refine ⟨bs,ws,_,f4,hb,hw,hx,fun h n hn=>?_⟩
   refine Jb (o:=Qz f) (g:=[.lst (L.map QV),.lst []]) (by simp) hn (by simp [Qz]) ?_ (by simp) ⟨_,rfl,by simp⟩
   have ec:=VR (fin:=Vu) (mi:=QY (mSl (Qg 2) (Kf (mC (.int 1))) W0)) (cp:=[none]) (me:=mFn Jj (Qc (Qg 0) (Qc (mFn Jj Ql) Ql))) (σ:=gS bs ws [a,b,c,d,e] x3 (some (.ref 1)) x5 x6 (some (.ref 2)) x8) (caps:=[]) (h:=[Qz f4,.lst (L.map QV),.lst []]) (items:=[.str b,.str c,.str d,.str e])
    (fun w=>.tup [w,.tup []]) (by simp [QY];rfl) ⟨_,rfl⟩ (fun w hw=>by simp) (by simp)
   have er:Yi (Qc (mC (.int 6)) Ql) (gS bs ws [a,b,c,d,e] (some (.int (tk f3 3))) (some (.ref 1)) none none (some (.ref 2)) none) [Qz (tf f3 3),.lst [],.lst []]=some (QR 0 6,none,[Qz (tf f3 3),.lst [],.lst []]):=VD (j:=6) rfl (by decide)
   simp only [Vu] at ec
   rw [pg]
   simp [Z3,VM,ho,hz,er,e1,e2,ec,Jz,Ve]
noncomputable def Qi5 (sem:List W->MH->Option (W×MH)) (f:Fd) (args:W->List W):Prop:=∃ (bs ws:List Str) (p:List Pt) (f':Fd),(0 < bs.length/\bs.length<=5)/\(0 < ws.length/\ws.length<=5)/\GoodP 300 bs ws p/\∀ (h:MH) (n:Nat),h[n]?=some (Qz f)->sem (args (.ref n)) h=some (Jz p,h.set n (Qz f'))
theorem QhS (f:Fd) (b0 b1 b2 b3:Nat) (h0:1<=b0/\b0<=5) (h1:1<=b1/\b1<=5) (h2:1<=b2/\b2<=5) (h3:3<=b3/\b3<=48):Qi5 JM f fun r=>[r,.lst [.int b0,.int b1,.int b2,.int b3]]:=by
 by_cases hz:tk f 8=5
 ·obtain ⟨bs,ws,p,f',hb,hw,hg,e⟩:=Qb9 (tf f 8)
  refine ⟨bs,ws,p,f',hb,hw,hg,fun h n hn=>?_⟩
  refine Jb (o:=Qz f) (g:=[]) (by simp) hn (by simp [Qz]) ?_ (by simp) ⟨_,rfl,by simp⟩
  simp [J0,Zo,hz,e]
 ·obtain ⟨bs,ws,p,f',hb,hw,hg,e⟩:=GH (tf f 8) b0 b1 b2 b3 h0 h1 h2 h3
  refine ⟨bs,ws,p,f',hb,hw,hg,fun h n hn=>?_⟩
  refine Jb (o:=Qz f) (g:=[]) (by simp) hn (by simp [Qz]) ?_ (by simp) ⟨_,rfl,by simp⟩
  simp [J0,Zo,hz,e]
noncomputable def pW:W->Bool
 | .tup (.str x::_)=>x == "pair"
 | _=>false
noncomputable def fW:W->W
 | .tup (_::_::z::_)=>z
 | _=>.non
theorem Vj {bs ws la:List Str} {l:Ln} (h:LineOk bs ws la l):∃ x r,l=x::r:=by
 cases h with
 | plain h=>cases h<;>exact ⟨_,_,rfl⟩
 | «do» h=>exact ⟨_,_,rfl⟩
 | blk h=>exact ⟨_,_,rfl⟩
 | back h=>exact ⟨_,_,rfl⟩
theorem Xc {bs ws la:List Str} {l:Ln} (h:LineOk bs ws la l) (hp:pW (QV l)=true):∃ x w y z:Str,l=(["pair",x,w,y,z]:Ln)/\w∈ws:=by
 cases h with
 | plain h=>
  cases h with
  | pair hx hw hy hz=>exact ⟨_,_,_,_,rfl,hw⟩
  | _=>simp [QV,pW] at hp
 | «do» h=>simp [QV,pW] at hp
 | blk h=>rcases h with rfl | rfl | rfl | rfl<;>simp [QV,pW] at hp
 | back h=>simp [QV,pW] at hp
theorem KI {bs ws la:List Str}:∀ {ls:List Ln},(∀ l∈ls,LineOk bs ws la l)->∃ W':List Str,((ls.map QV).filter pW).map fW=W'.map .str/\(∀ x∈W',x∈ws)/\W'.length<=ls.length
 | [],_=>⟨[],rfl,by simp,Nat.le_refl _⟩
 | l::ls,h=>by
  obtain ⟨W',e,hw,hl⟩:=KI (ls:=ls) fun x hx=>h x (List.mem_cons_of_mem _ hx)
  by_cases hp:pW (QV l)=true
  ·obtain ⟨x,w,y,z,rfl,hm⟩:=Xc (h l List.mem_cons_self) hp
   refine ⟨w::W',?_,?_,by simp;omega⟩
   ·rw [List.map_cons,List.filter_cons_of_pos hp,List.map_cons,e];rfl
   ·intro q hq
    rcases List.mem_cons.mp hq with rfl | hq
    ·exact hm
    ·exact hw q hq
  ·refine ⟨W',?_,hw,by simp;omega⟩
   rw [List.map_cons,List.filter_cons_of_neg hp,e]
theorem Qbo {N M:Nat} {bs ws:List Str} {p:List Pt} (h:GoodP N bs ws p) (hm:N<=M):GoodP M bs ws p:=⟨h.ne,h.len,h.bal,fun x hx=>Nat.le_trans (h.sz x hx) hm,h.ok,h.nd,h.dos⟩
theorem QaI (ns:List Int) (k:Nat) (hk:k < 100):∃ f:Fd,∀ h:MH,Zb [.frz (ns.map .int),.int k] h=some (.ref h.length,h++[Qz f]):=by
 have fin:∀ (a b:Int) (hb:0<=b/\b < 1099511627776),Z9 [.frz (ns.map .int),.int k] []=some (.ref 0,[.lst [.int a,.int b]])->∀ h:MH,Zb [.frz (ns.map .int),.int k] h=some (.ref h.length,h++[Qz ⟨a,b,hb⟩]):=by
  intro a b hb e h
  unfold Zb box
  have hr:V6 0 [.frz (ns.map .int),.int k]=some ([.frz (ns.map .int),.int k],[]):=by simp [V6]
  rw [hr,Option.bind_some]
  unfold Qds
  rw [if_pos List.nodup_nil]
  simp only [ZV,Option.bind_some,e]
  rw [if_pos ⟨by simp [frR],by simp [frR]⟩]
  simp [frR,th,res,VX,ZV,thO,ths,QP,Qz]
 -- the cell
 obtain ⟨c,hc⟩:∃ c:Int,(if (k:Int) < (ns.length:Nat) then @om _ _ (fun p=>MF.nx [some (.frz (ns.map .int)),some (.int k),some p.fst,none] p.snd) (@om _ _ (fun w=>(w,([]:MH))) (atI (ns.map W.int) (k:Int))) else some (MF.nx [some (.frz (ns.map .int)),some (.int k),some (.int 0),none] []))=some (MF.nx [some (.frz (ns.map .int)),some (.int k),some (.int c),none] []):=by
  by_cases hl:k < ns.length
  ·refine ⟨ns[k],?_⟩
   rw [if_pos (by omega),Q6,List.getElem?_map,List.getElem?_eq_getElem hl];simp
  ·exact ⟨0,by rw [if_neg (by omega)]⟩
 have b1:0<=c % 2147483647*48271 % 2147483647:=Int.emod_nonneg _ (by decide)
 have b2:c % 2147483647*48271 % 2147483647 < 2147483647:=Int.emod_lt_of_pos _ (by decide)
 by_cases hd:(1000000000000000000:Int)<=c
 ·refine ⟨⟨c - 1000000000000000000,c % 2147483647*48271 % 2147483647+k,by omega⟩,fin _ _ _ ?_⟩
  simp at hc
  simp [Z9,Zo,hc,hd]
 ·refine ⟨⟨0,c % 2147483647*48271 % 2147483647+k,by omega⟩,fin _ _ _ ?_⟩
  simp at hc
  simp [Z9,Zo,hc,hd]
noncomputable def rW:Option Nat->W
 | some t=>.ref (t+2)
 | none=>.non
noncomputable def tO (x:Nat×Nat×Nat):MO:=.lst [.int x.1,.int x.2.1,.int x.2.2]
noncomputable def hB (b:Bk) (n:Nat):MH:=.lst (b.rws.map rW++List.replicate n .non)::.lst (b.st.reverse.map fun (t:Nat)=>W.ref (t+2))::b.trs.map tO
theorem Qa8 {ls:List Cd} {k:Nat} {p:List En} (h:pil ls (k+1)=some p):∃ q c,pil ls k=some q/\ls[k]?=some c/\stp k c q=some p:=by
 obtain ⟨q,h1,h2⟩:=Option.bind_eq_some_iff.mp h
 cases hc:ls[k]? with
 | none=>rw [hc] at h2;cases h2
 | some c=>rw [hc] at h2;exact ⟨q,c,h1,rfl,h2⟩
theorem QbA {ls:List Cd}:∀ {n:Nat} {p:List En},pil ls n=some p->∀ k,k<=n->∃ q,pil ls k=some q
 | 0,p,h,k,hk=>⟨p,by rw [Nat.le_zero.mp hk];exact h⟩
 | n+1,p,h,k,hk=>by
  by_cases z:k=n+1
  ·rw [z];exact ⟨p,h⟩
  ·obtain ⟨q,c,h1,_⟩:=Qa8 h
   exact QbA h1 k (by omega)
theorem QdQ (ls:List Cd):∀ k,(∀ t∈(bks ls k).st,t < (bks ls k).trs.length)/\∀ t,some t∈(bks ls k).rws->t < (bks ls k).trs.length
 | 0=>⟨by simp [bks],by simp [bks]⟩
 | k+1=>by
  obtain ⟨h1,h2⟩:=QdQ ls k
  simp only [bks]
  split
  ·rename_i c hc
   generalize bks ls k=b at h1 h2
   obtain ⟨trs,st,rws⟩:=b
   have hd:∀ t,st.head?=some t->t < trs.length:=by
    intro t ht
    cases st with
    | nil=>simp at ht
    | cons a r=>
     simp at ht
     subst ht
     exact h1 _ List.mem_cons_self
   have tl:∀ f,(My4.top ⟨trs,st,rws⟩ f).length=trs.length:=fun f=>by unfold My4.top;cases st<;>simp
   cases c<;>simp only [bst]
   ·refine ⟨fun t ht=>?_,fun t ht=>?_⟩
    ·simp at ht ⊢;rcases ht with rfl | ht
     ·omega
     ·have:=h1 t ht;simp at this;omega
    ·simp at ht ⊢;rcases ht with ht | rfl
     ·have:=h2 t ht;simp at this;omega
     ·omega
   ·refine ⟨fun t ht=>?_,fun t ht=>?_⟩
    ·simp at ht ⊢;rcases ht with rfl | ht
     ·omega
     ·have:=h1 t ht;simp at this;omega
    ·simp at ht ⊢;rcases ht with ht | rfl
     ·have:=h2 t ht;simp at this;omega
     ·omega
   ·rw [tl]
    refine ⟨h1,fun t ht=>?_⟩
    simp at ht
    rcases ht with ht | ht
    ·exact h2 t ht
    ·exact hd t ht.symm
   ·rw [tl]
    refine ⟨fun t ht=>h1 t (List.mem_of_mem_tail ht),fun t ht=>?_⟩
    simp at ht
    rcases ht with ht | ht
    ·exact h2 t ht
    ·exact hd t ht.symm
   ·refine ⟨h1,fun t ht=>?_⟩
    simp at ht
    rcases ht with ht | ht
    ·exact h2 t ht
    ·exact hd t ht.symm
  ·exact ⟨h1,h2⟩
theorem QeV {α:Type} {a:List α} {x y:α} {b:List α} {k:Nat} (h:a.length=k):(a++x::b).set k y=a++y::b:=by subst h;simp
theorem Qbj {l:List (Nat×Nat×Nat)} {t:Nat} {f:Nat×Nat×Nat->Nat×Nat×Nat} {x:Nat×Nat×Nat} (h:l[t]?=some x):(l.map tO).set t (tO (f x))=(l.modify t f).map tO:=by
 apply List.ext_getElem?
 intro i
 rw [List.getElem?_set,List.getElem?_map,List.getElem?_map,List.getElem?_modify]
 have hlt:=(List.getElem?_eq_some_iff.mp h).1
 by_cases z:t=i
 ·subst z
  rw [h]
  simp [hlt]
 ·simp [z]
noncomputable abbrev bS (ls:List Ln) (k:Option W):MSt:=[some (.tup (ls.map QV)),some (.ref 0),some (.ref 1),k]
theorem Ko {x:Str}:(x="either"/\cd x=.ei)\/(x="again"/\cd x=.ag)\/(x="or"/\cd x=.oo)\/(x="end"/\cd x=.en)\/((x≠"either"/\x≠"again"/\x≠"or"/\x≠"end")/\cd x=.ot):=by
 unfold cd
 by_cases h1:x="either"
 ·exact .inl ⟨h1,if_pos h1⟩
 rw [if_neg h1]
 by_cases h2:x="again"
 ·exact .inr (.inl ⟨h2,if_pos h2⟩)
 rw [if_neg h2]
 by_cases h3:x="or"
 ·exact .inr (.inr (.inl ⟨h3,if_pos h3⟩))
 rw [if_neg h3]
 by_cases h4:x="end"
 ·exact .inr (.inr (.inr (.inl ⟨h4,if_pos h4⟩)))
 rw [if_neg h4]
 exact .inr (.inr (.inr (.inr ⟨⟨h1,h2,h3,h4⟩,rfl⟩)))
theorem WO {ls:List Ln} {k n:Nat} {l:Ln} {x:Str} {r:List Str} {b:Bk} {p p':List En} (hl:ls[k]?=some l) (hx:l=x::r) (hk:k<=5000) (hst:b.st.length<=5000) (B:BI (ls.map cdL) k b p) (hs:stp k (cdL l) p=some p') :
  JG (bS ls (some (.int k))) (hB b (n+1))=some (.nx (bS ls (some (.int k))) (hB (bst k (cdL l) b) n)):=by
 subst hx
 have e1:atI (ls.map QV) (k:Int)=some (QV (x::r)):=by rw [Q6,List.getElem?_map,hl];rfl
 have e2:QV (x::r)=.tup (.str x::r.map .str):=rfl
 rw [e2] at e1
 have exw:∀ h,Qm wIx (Qm wIx (Qg 0) (Qg 3)) (mC (.int 0)) (bS ls (some (.int k))) h=some (.str x,h):=fun h=>by simp [e1]
 obtain ⟨trs,st,rws⟩:=b
 have hlen:(rws.map rW).length=k:=by simp;exact B.len
 have hlen':rws.length=k:=B.len
 have exx:ixN (rws.length+(n+1)) (k:Int)=some k:=QfH (by omega)
 have es:∀ v,(rws.map rW++List.replicate (n+1) W.non).set k v=rws.map rW++v::List.replicate n W.non:=fun v=>by rw [List.replicate_succ,QeV hlen]
 have s1:st.length < sizeLine:=Ki (Nat.le_trans (show st.length<=5000 from hst) (by decide))
 have hcd:cdL (x::r)=cd x:=rfl
 rw [hcd] at hs ⊢
 rcases Ko (x:=x) with ⟨rfl,hc⟩ | ⟨rfl,hc⟩ | ⟨rfl,hc⟩ | ⟨rfl,hc⟩ | ⟨⟨n1,n2,n3,n4⟩,hc⟩
 all_goals rw [hc] at hs ⊢
 ·simp [hB,bst,exw,s1,exx,es,Nat.add_assoc,rW,tO]
 ·simp [hB,bst,exw,s1,exx,es,Nat.add_assoc,rW,tO]
 ·cases p with
  | nil=>cases hs
  | cons a pr=>
   have hop:=B.op
   cases hop with
   | @cons t _ st' _ xx kk nn q=>
    obtain ⟨md,en,ht,_⟩:=xx
    simp only at ht
    have eg:(trs.map tO)[t]?=some (tO (a.fs,md,en)):=by rw [List.getElem?_map,ht];rfl
    simp [hB,bst,exw,exx,es,Nat.add_assoc,rW,tO,My4.top,eg]
    exact Qbj (f:=fun x=>(x.1,k,x.2.2)) ht
 ·cases p with
  | nil=>cases hs
  | cons a pr=>
   have hop:=B.op
   cases hop with
   | @cons t _ st' _ xx kk nn q=>
    obtain ⟨md,en,ht,_⟩:=xx
    simp only at ht
    have eg:(trs.map tO)[t]?=some (tO (a.fs,md,en)):=by rw [List.getElem?_map,ht];rfl
    simp [hB,bst,exw,exx,es,Nat.add_assoc,rW,tO,My4.top,eg]
    exact Qbj (f:=fun x=>(x.1,x.2.1,k)) ht
 ·cases st with
  | nil=>
   simp [hB,bst,exw,n1,n2,n3,n4,rW]
   rw [List.replicate_succ]
  | cons t st'=>simp [hB,bst,exw,n1,n2,n3,n4,exx,es,rW]
noncomputable def rv (b:Bk):Option Nat->W
 | some t=>match b.trs[t]? with
  | some x=>.lst [.int x.1,.int x.2.1,.int x.2.2]
  | none=>.non
 | none=>.non
noncomputable def UR (b:Bk):W:=.lst (b.rws.map (rv b))
theorem Qgh {b:Bk} {o:Option Nat}:pln (rv b o)=true:=by
 cases o with
 | none=>rfl
 | some t=>
  simp only [rv]
  split<;>rfl
@[simp] theorem QjC {b:Bk}:pln (UR b)=true:=by unfold UR pln;exact Je fun _=>Qgh
theorem U8 {b:Bk} {kp:Nat->Option Nat} {g:MH} {A B:MO} (hg:g=A::B::b.trs.map tO) (hkp:∀ j,kp j=none):∀ (os:List (Option Nat)),(∀ t,some t∈os->t < b.trs.length)->ths (res kp g 2) (os.map rW)=some (os.map (rv b))
 | [],_=>rfl
 | o::os,h=>by
  rw [List.map_cons,ths,U8 hg hkp os fun t ht=>h t (List.mem_cons_of_mem _ ht)]
  cases o with
  | none=>rfl
  | some t=>
   have hlt:=h t List.mem_cons_self
   have hx:b.trs[t]?=some b.trs[t]:=List.getElem?_eq_getElem hlt
   have hgt:g[t+2]?=some (.lst [.int b.trs[t].1,.int b.trs[t].2.1,.int b.trs[t].2.2]):=by
    rw [hg]
    simp only [List.getElem?_cons_succ,List.getElem?_map,hx];rfl
   have:th (res kp g 2) (rW (some t))=some (rv b (some t)):=by
    simp only [rW,th,res,hkp,hgt,rv,hx]
    rfl
   rw [this];rfl
theorem QgL (ls:List Cd):∀ k,(bks ls k).st.length<=k
 | 0=>Nat.le_refl _
 | k+1=>by
  have ih:=QgL ls k
  simp only [bks]
  split
  ·rename_i c hc
   cases c<;>simp [bst]<;>omega
  ·omega
theorem QaY (ls:List Ln) (hb:Bal (ls.map cdL)) (hne:∀ l∈ls,∃ x r,l=x::r) (hl:ls.length<=5000) (h:MH):QL [.tup (ls.map QV)] h=some (UR (bks (ls.map cdL) ls.length),h):=by
 have hbl:pil (ls.map cdL) ls.length=some []:=by have:=hb;unfold Bal at this;rwa [List.length_map] at this
 have loop:=ZT (items:=QR 0 ls.length) (b:=Jy 3) (body:=JG) (fun n σ h=>∃ kk,σ=bS ls kk/\h=hB (bks (ls.map cdL) n) (ls.length - n)/\n<=ls.length) (QR 0 ls.length) 0 (bS ls none) (hB ⟨[],[],[]⟩ ls.length) ⟨none,rfl,by simp [bks],Nat.zero_le _⟩ (by
  rintro j w hj σ h ⟨kk,rfl,rfl,hn⟩
  obtain ⟨hjl,rfl⟩:=XU hj
  rw [Nat.zero_add] at *
  obtain ⟨l,hlj⟩:∃ l,ls[j]?=some l:=⟨ls[j],List.getElem?_eq_getElem hjl⟩
  obtain ⟨x,r,hx⟩:=hne l (List.mem_iff_getElem?.mpr ⟨j,hlj⟩)
  obtain ⟨p1,hp1⟩:=QbA hbl (j+1) (by omega)
  obtain ⟨p,c,hp,hc,hs⟩:=Qa8 hp1
  have hc':(ls.map cdL)[j]?=some (cdL l):=by rw [List.getElem?_map,hlj];rfl
  rw [hc'] at hc;cases hc
  obtain ⟨_,B⟩:=Yz hp
  have hst:(bks (ls.map cdL) j).st.length<=5000:=Nat.le_trans (QgL _ j) (by omega)
  refine ⟨bS ls (some (.int ((0:Int)+j))),rfl,bS ls (some (.int j)),hB (bks (ls.map cdL) (j+1)) (ls.length - (j+1)),.inl ?_,_,rfl,rfl,by omega⟩
  have e:=WO (n:=ls.length - (j+1)) hlj hx (by omega) hst B hs
  rw [show ls.length - (j+1)+1=ls.length - j by omega] at e
  rw [Int.zero_add]
  simp only [bks,hc']
  exact e)
 obtain ⟨σ',h',e1,kk,rfl,rfl,_⟩:=loop
 rw [Zj,Nat.zero_add,Nat.sub_self] at e1
 generalize hbk:bks (ls.map cdL) ls.length=b at e1 ⊢
 have ec:=VR (fin:=Qev) (mi:=QY (Qg 0)) (cp:=[none]) (me:=mC .non) (σ:=[some (.tup (ls.map QV)),none,none,none]) (caps:=[]) (h:=[]) (items:=ls.map QV) (fun _=>W.non) rfl ⟨_,rfl⟩ (fun w hw=>rfl) (by simp;exact Xi (by omega))
 rw [List.map_const',List.length_map] at ec
 have er:Yi (Qc (mFn JS (Qc (Qg 0) Ql)) Ql) (bS ls none) (hB ⟨[],[],[]⟩ ls.length)=some (QR 0 ls.length,none,hB ⟨[],[],[]⟩ ls.length):=VD (by simp) (by omega)
 have:=V0 (m:=Zv) (args:=[.tup (ls.map QV)]) (as:=[.tup (ls.map QV)]) (ns:=[]) (os:=[]) (os':=[]) (g:=hB b 0) (h:=h) (w:=.ref 0) (w':=UR b) (by simp [V6]) (by simp) rfl (by
  simp [hB] at er e1
  simp [Zv,Zo,VM,ec,Qev,er,e1,hB]) rfl (by simp) (by
  have hk:∀ j,VX [] [] h.length j=none:=fun j=>by simp [VX]
  have hr:=U8 (b:=b) (kp:=VX [] [] h.length) (g:=hB b 0) (A:=.lst (b.rws.map rW++List.replicate 0 .non)) (B:=.lst (b.st.reverse.map fun (t:Nat)=>W.ref (t+2))) rfl hk b.rws (by rw [<- hbk];exact (QdQ _ _).2)
  show th (res (VX [] [] h.length) (hB b 0) 3) (.ref 0)=_
  have h0:(hB b 0)[0]?=some (.lst (b.rws.map rW)):=by simp [hB]
  unfold th res
  simp only [hk 0,h0,hr]
  rfl)
 show box frN Zv _ _=_
 simpa using this
@[simp] theorem QkW {x:Str} {r:List Str} {h:MH}:wIx (QV (x::r)) (.int 0) h=some (.str x,h):=by unfold QV;simp
@[simp] theorem Qkc {x y:Str} {r:List Str} {h:MH}:wIx (QV (x::y::r)) (.int 1) h=some (.str y,h):=by unfold QV;simp
theorem QcA {ls:List Ln} {j:Nat} {l:Ln} (h:ls[j]?=some l):atI (ls.map QV) (j:Int)=some (QV l):=by rw [Q6,List.getElem?_map,h];rfl
theorem KR {lo c:Int} {n j:Nat} {w:W} (h:(Vh lo c n)[j]?=some w):j < n/\w=.int (lo+(j:Int)*c):=by
 have hl:=(List.getElem?_eq_some_iff.mp h).1
 simp [Vh] at hl
 refine ⟨hl,?_⟩
 unfold Vh at h
 rw [List.getElem?_map,List.getElem?_range hl] at h
 cases h;rfl
noncomputable abbrev hS (ls:List Ln) (k:Nat) (lv j:Option W):MSt:=[some (.tup (ls.map QV)),some (.int k),lv,j]
@[simp] theorem Qlm {p:List Pt} {i:Int} {h:MH}:wIx (Jz p) (.int i) h=@om _ _ (fun w=>(w,h)) (atI (p.map Ve) i):=by unfold Jz;simp
@[simp] theorem Qj0 {x:Pt} {h:MH}:wIx (Ve x) (.int 1) h=some (.tup (x.2.map QV),h):=by unfold Ve;simp
@[simp] theorem Qkk {b:Bk} {i:Int} {h:MH}:wIx (UR b) (.int i) h=@om _ _ (fun w=>(w,h)) (atI (b.rws.map (rv b)) i):=by unfold UR;simp
@[simp] theorem Qke {q:Nat×Nat} {h:MH}:wIx (GV q) (.int 0) h=some (.int q.1,h):=by unfold GV;simp
@[simp] theorem Qkw {q:Nat×Nat} {h:MH}:wIx (GV q) (.int 1) h=some (.int q.2,h):=by unfold GV;simp
noncomputable def bk (x:Pt):Bk:=bks (x.2.map cdL) x.2.length
noncomputable def Vw (p:List Pt):W:=.lst (p.map fun x=>UR (bk x))
@[simp] theorem Qdj {p:List Pt}:pur (Vw p)=true:=by
 unfold Vw
 rw [QiG]
 exact Zt _ (Je fun _=>QjC)
@[simp] theorem Qh6 {p:List Pt} {i:Int} {h:MH}:wIx (Vw p) (.int i) h=@om _ _ (fun w=>(w,h)) (atI (p.map fun x=>UR (bk x)) i):=by unfold Vw;simp
structure SV (p:List Pt) (s:Spt):Prop where
 ex:∃ x,p[s.part]?=some x/\s.k<=x.2.length/\(s.head=true->∃ r,x.2[s.k]?=some (("again":Str)::r))
 way:∀ q∈s.way,∃ x,p[q.1]?=some x/\q.2 < x.2.length
theorem Xp {p:List Pt} {i:Nat} {x:Pt} (h:p[i]?=some x):atI (p.map Ve) (i:Int)=some (Ve x):=by rw [Q6,List.getElem?_map,h];rfl
theorem QaJ {p:List Pt} {i:Nat} {x:Pt} (h:p[i]?=some x):atI (p.map fun x=>UR (bk x)) (i:Int)=some (UR (bk x)):=by rw [Q6,List.getElem?_map,h];rfl
theorem UL {b:Bk} {k t:Nat} {x:Nat×Nat×Nat} (h:b.rws[k]?=some (some t)) (hx:b.trs[t]?=some x):atI (b.rws.map (rv b)) (k:Int)=some (.lst [.int x.1,.int x.2.1,.int x.2.2]):=by
 rw [Q6,List.getElem?_map,h]
 simp [rv,hx]
theorem YZ {p:List Pt} {s:Spt} {x:Pt} {h:MH} (hx:p[s.part]?=some x) (hn:s.head=true\/s.k=x.2.length):Zm [Jz p,QG s] h=some (.non,h):=by
 refine Z4 (g:=[]) (by simp) ?_ rfl
 obtain ⟨way,part,k,head⟩:=s
 have ep:=Xp hx
 simp only at ep hn hx
 by_cases hh:head=true
 ·simp [JV,Zo,QG,ep,hh]
 ·have hk:k=x.2.length:=by rcases hn with z | z;exact absurd z hh;exact z
  simp [JV,Zo,QG,ep,hh,hk]
theorem Qbv {p:List Pt} {s:Spt} {x:Pt} {l:Ln} {h:MH} (hx:p[s.part]?=some x) (hh:s.head=false) (hl:x.2[s.k]?=some l):Zm [Jz p,QG s] h=some (QV l,h):=by
 refine Z4 (g:=[]) (by simp) ?_ (by simp)
 obtain ⟨way,part,k,head⟩:=s
 have ep:=Xp hx
 have el:=QcA hl
 have hk:=(List.getElem?_eq_some_iff.mp hl).1
 simp only at ep hh hx el hk
 have hne:¬ (k:Int)=x.2.length:=by omega
 have hne':¬ k=x.2.length:=by omega
 simp [JV,Zo,QG,ep,hh,el,hne,hne']
theorem Qen {ns:List Str} {x:Str}:∀ {j:Nat},ns.findIdx? (· == x)=some j->(ns.map W.str).findIdx? (fun y=>eqW y (.str x))=some j:=by
 intro j h
 rw [List.findIdx?_map]
 rw [<- h]
 congr 1
noncomputable def Wt:Nat->Nat
 | 0=>65330
 | i+1=>(4 - i)*702
theorem QfQ {i q:Nat} (h:i+1<=q):Wt q<=Wt (i+1):=by
 obtain ⟨r,rfl⟩:∃ r,q=r+1:=⟨q - 1,by omega⟩
 show (4 - r)*702<=(4 - i)*702
 exact Nat.mul_le_mul_right _ (by omega)
theorem Qg8 {i:Nat} (h:i<=4):700+QeC i*(Wt (i+1)+2)<=Wt i:=by
 match i,h with
 | 0,_=>decide
 | 1,_=>decide
 | 2,_=>decide
 | 3,_=>decide
 | 4,_=>decide
theorem QdB {i:Nat}:Wt i<=65330:=by
 match i with
 | 0=>exact Nat.le_refl _
 | i+1=>
  show (4 - i)*702<=_
  have:(4 - i)*702<=4*702:=Nat.mul_le_mul_right _ (by omega)
  omega
noncomputable def cst (i:Nat) (l:Ln):Nat:=if Qbh l=true then Wt (i+1)+2 else 1
noncomputable def rem (x:Pt) (i k:Nat):Nat:=((x.2.drop k).map (cst i)).sum
theorem Ya {x:Pt} {i k:Nat} {l:Ln} (h:x.2[k]?=some l):rem x i k=cst i l+rem x i (k+1):=by
 obtain ⟨hk,rfl⟩:=List.getElem?_eq_some_iff.mp h
 unfold rem
 rw [List.drop_eq_getElem_cons hk,List.map_cons,List.sum_cons]
theorem QbI {x:Pt} {i:Nat}:∀ {j k:Nat},k < j->k < x.2.length->rem x i j < rem x i k
 | 0,_,h,_=>by omega
 | j+1,k,h,hk=>by
  have hs:=Ya (i:=i) (List.getElem?_eq_getElem hk)
  have hc:1<=cst i x.2[k]:=by unfold cst;split<;>omega
  by_cases e:j=k
  ·subst e;omega
  ·by_cases hj:j < x.2.length
   ·have h1:=QbI (x:=x) (i:=i) (j:=j) (k:=k) (by omega) hk
    have h2:=Ya (i:=i) (List.getElem?_eq_getElem hj)
    omega
   ·have:rem x i (j+1)=0:=by unfold rem;rw [List.drop_eq_nil_of_le (by omega)];rfl
    omega
theorem QaS {i:Nat}:∀ (ls:List Ln),(ls.map (cst i)).sum=ls.length+dcn ls*(Wt (i+1)+1)
 | []=>by simp [dcn]
 | l::ls=>by
  have ih:=QaS (i:=i) ls
  unfold dcn at ih ⊢
  rw [List.map_cons,List.sum_cons,ih,List.countP_cons,List.length_cons,cst]
  by_cases h:Qbh l=true
  ·rw [if_pos h,if_pos h,Nat.add_mul,Nat.one_mul];omega
  ·rw [if_neg h,if_neg h,show List.countP Qbh ls+0=List.countP Qbh ls from rfl];omega
theorem Qgd {x:Pt} {i k:Nat} (hs:x.2.length<=700) (hd:dcn x.2<=QeC i) (hi:i<=4):rem x i k<=Wt i:=by
 have h0:rem x i 0<=Wt i:=by
  unfold rem
  rw [List.drop_zero,QaS]
  have:=Qg8 hi
  have:dcn x.2*(Wt (i+1)+1)<=QeC i*(Wt (i+1)+2):=Nat.mul_le_mul hd (by omega)
  omega
 by_cases hk:0 < k
 ·by_cases hl:0 < x.2.length
  ·have:=QbI (x:=x) (i:=i) hk hl;omega
  ·unfold rem;rw [List.drop_eq_nil_of_le (by omega)];simp
 ·rw [show k=0 by omega];exact h0
noncomputable def QcI (p:List Pt) (i k:Nat):Nat:=match p[i]? with
 | some x=>rem x i k
 | none=>0
theorem Yc {p:List Pt} {i k:Nat} {x:Pt} (h:p[i]?=some x):QcI p i k=rem x i k:=by unfold QcI;rw [h]
theorem WX {p:List Pt} {bs ws:List Str} (hg:GoodP 700 bs ws p) {i k:Nat}:QcI p i k<=Wt i:=by
 unfold QcI
 split
 ·rename_i x hx
  have h1:=(List.getElem?_eq_some_iff.mp hx).1
  have h2:=hg.len
  exact Qgd (hg.sz x (List.mem_iff_getElem?.mpr ⟨i,hx⟩)) (hg.dos i x hx) (by omega)
 ·exact Nat.zero_le _
noncomputable def Qc9 (p:List Pt) (w:List (Nat×Nat)):Nat:=(w.map fun q=>1+QcI p q.1 (q.2+1)).sum
theorem WH {p:List Pt} {w:List (Nat×Nat)} {q:Nat×Nat}:Qc9 p (w++[q])=Qc9 p w+(1+QcI p q.1 (q.2+1)):=by simp [Qc9]
noncomputable def rk (p:List Pt) (s:Spt):Nat:=if s.head=true then 0 else 1+QcI p s.part s.k+Qc9 p s.way
theorem Ka {p:List Pt} {way:List (Nat×Nat)} {part k:Nat}:rk p ⟨way,part,k,false⟩=1+QcI p part k+Qc9 p way:=by unfold rk;rw [if_neg (by simp)]
theorem Qff {p:List Pt} {way:List (Nat×Nat)} {part k:Nat}:rk p ⟨way,part,k,true⟩=0:=by unfold rk;rw [if_pos rfl]
structure SW (s:Spt):Prop where
 up:∀ (j:Nat) (q:Nat×Nat),s.way[j]?=some q->j<=q.1
 le:s.way.length<=s.part
theorem QbH {p:List Pt} {bs ws:List Str} (hg:GoodP 700 bs ws p):∀ (w:List (Nat×Nat)),Qc9 p w<=w.length*65331
 | []=>by simp [Qc9]
 | q::w=>by
  have h1:=QbH hg w
  have h2:=WX hg (i:=q.1) (k:=q.2+1)
  have h3:=QdB (i:=q.1)
  unfold Qc9 at h1 ⊢
  rw [List.map_cons,List.sum_cons,List.length_cons,Nat.add_mul]
  omega
theorem QhT {p:List Pt} {bs ws:List Str} (hg:GoodP 700 bs ws p) {s:Spt} (hw:s.way.length<=4):rk p s<=326655:=by
 unfold rk
 split
 ·omega
 ·have h1:=QbH hg s.way
  have h2:=WX hg (i:=s.part) (k:=s.k)
  have h3:=QdB (i:=s.part)
  have:s.way.length*65331<=4*65331:=Nat.mul_le_mul_right _ hw
  omega
structure Mono (p:List Pt) (s:Spt) (L:List Spt):Prop where
 one:∀ t,L=[t]->rk p t < rk p s
 two:∀ a b,L=[a,b]->a.k≠b.k
theorem Qdk {p:List Pt} {s:Spt}:Mono p s []:=⟨fun _ h=>by simp at h,fun _ _ h=>by simp at h⟩
theorem XS {p:List Pt} {s t:Spt} (h:rk p t < rk p s):Mono p s [t]:=⟨fun u e=>by simp at e;rw [<- e];exact h,fun _ _ e=>by simp at e⟩
theorem UN {p:List Pt} {s a b:Spt} (h:a.k≠b.k):Mono p s [a,b]:=⟨fun u e=>by simp at e,fun x y e=>by simp at e;rw [<- e.1,<- e.2];exact h⟩
theorem Yq {p:List Pt} {way:List (Nat×Nat)} {part k m:Nat} {x:Pt} (hx:p[part]?=some x) (hk:k < x.2.length) (hm:k < m):Mono p ⟨way,part,k,false⟩ [⟨way,part,m,false⟩]:=XS (by
 rw [Ka,Ka,Yc hx,Yc hx]
 have:=QbI (x:=x) (i:=part) hm hk
 omega)
theorem Wc {p:List Pt} {way:List (Nat×Nat)} {part k m:Nat}:Mono p ⟨way,part,k,false⟩ [⟨way,part,m,true⟩]:=XS (by rw [Ka,Qff];omega)
theorem QeB {p:List Pt} {bs ws:List Str} (hg:GoodP 700 bs ws p) {way:List (Nat×Nat)} {part k j:Nat} {x:Pt} {l:Ln} (hx:p[part]?=some x) (hl:x.2[k]?=some l) (hd:Qbh l=true) (hj:part+1<=j):Mono p ⟨way,part,k,false⟩ [⟨way++[(part,k)],j,0,false⟩]:=XS (by
 rw [Ka,Ka,WH,Yc (p:=p) (i:=part) (k:=k) hx,Ya hl]
 have h1:=WX hg (i:=j) (k:=0)
 have h2:=QfQ hj
 have h3:cst part l=Wt (part+1)+2:=by unfold cst;rw [if_pos hd]
 rw [Yc (k:=k+1) hx]
 show 1+QcI p j 0+(Qc9 p way+(1+rem x part (k+1))) < _
 omega)
theorem Qao {p:List Pt} {r:List (Nat×Nat)} {q:Nat×Nat} {part k:Nat}:Mono p ⟨r++[q],part,k,false⟩ [⟨r,q.1,q.2+1,false⟩]:=XS (by
 rw [Ka,Ka,WH]
 omega)
@[simp] theorem Qkn {α:Type} {a:List α} {x:α}:Gj (a++[x]) none (some (-1))=a:=by
 unfold Gj
 have h1:HT.sIx (a++[x]).length 0 none=0:=HT.sIx_none _ _
 have h2:HT.sIx (a++[x]).length (a++[x]).length (some (-1))=a.length:=by
  unfold HT.sIx
  simp
  omega
 rw [h1,h2]
 simp
theorem Qi0 (w:List (Nat×Nat)) (h:w≠[]):∃ r q,w=r++[q]:=⟨w.dropLast,w.getLast h,(List.dropLast_concat_getLast h).symm⟩
noncomputable def KN (p:List Pt) (s:Spt) (L:List Spt):Prop:=(∀ t∈L,SV p t/\SW t)/\Mono p s L/\∀ h:MH,Za [Jz p,Vw p,QG s] h=some (.lst (L.map QG),h)
theorem QfF {p:List Pt} {way:List (Nat×Nat)} {part k:Nat} {x:Pt} (hw:∀ q∈way,∃ x,p[q.1]?=some x/\q.2 < x.2.length) (hx:p[part]?=some x) (hk:k<=x.2.length) {k':Nat} {b':Bool} (hs2:SW ⟨way,part,k',b'⟩):SV p ⟨way,part,k,false⟩/\SW ⟨way,part,k,false⟩:=⟨⟨⟨x,hx,hk,by simp⟩,hw⟩,⟨hs2.up,hs2.le⟩⟩
theorem bN {p:List Pt} {s:Spt} {L:List Spt} {h:MH} (e:Q3 [Jz p,Vw p,QG s] []=some (.lst (L.map QG),[])):Za [Jz p,Vw p,QG s] h=some (.lst (L.map QG),h):=Z4 (g:=[]) (by simp) e (by simp)
theorem Qbz {p:List Pt} {bs ws:List Str} {way:List (Nat×Nat)} {part k:Nat} (hg:GoodP 700 bs ws p) (hs:SV p ⟨way,part,k,true⟩) (hs2:SW ⟨way,part,k,true⟩):∃ L,L.length<=2/\KN p ⟨way,part,k,true⟩ L:=by
 obtain ⟨x,hx,hk,hh⟩:=hs.ex
 have hw:=hs.way
 simp only at hx hk hw
 obtain ⟨r,hr⟩:=hh rfl
 simp only at hr
 have hm:=List.mem_iff_getElem?.mpr ⟨part,hx⟩
 have hok:=hg.ok part x hx
 have hne:∀ l∈x.2,∃ y r,l=y::r:=fun l hl=>Vj (hok l hl)
 have hsz:=hg.sz x hm
 have F:=Y8 (hg.bal x hm)
 rw [List.length_map] at F
 obtain ⟨t,md,en,h1,h2,h3⟩:=F.ag k (by rw [List.getElem?_map,hr];show some (cd "again")=_;rw [K7])
 have hen:en < x.2.length:=by have:=(List.getElem?_eq_some_iff.mp h3.at_).1;simpa using this
 have hkl:=(List.getElem?_eq_some_iff.mp hr).1
 have ep:=Xp hx
 have er:=QaJ hx
 have eb:atI ((bk x).rws.map (rv (bk x))) (k:Int)=some (.lst [.int k,.int md,.int en]):=UL h1 h2
 have hlt:k < en:=h3.lt
 refine ⟨[⟨way,part,en+1,false⟩,⟨way,part,k+1,false⟩],by simp,?_,UN (show en+1≠k+1 by omega),fun h=>?_⟩
 ·intro u hu
  simp at hu
  rcases hu with rfl | rfl
  ·exact QfF hw hx (by omega) hs2
  ·exact QfF hw hx (by omega) hs2
 ·refine bN ?_
  simp [Q3,Zo,QG,Va,Wp,ep,er,eb]
theorem Yb {p:List Pt} {bs ws:List Str} {way:List (Nat×Nat)} {part k:Nat} {x:Pt} (hg:GoodP 700 bs ws p) (hs:SV p ⟨way,part,k,false⟩) (hs2:SW ⟨way,part,k,false⟩) (hx:p[part]?=some x) (hk:k=x.2.length):∃ L,L.length<=2/\KN p ⟨way,part,k,false⟩ L:=by
 have hw:=hs.way
 simp only at hw
 have ep:=Xp hx
 by_cases hz:way=[]
 ·subst hz
  refine ⟨[],by simp,by simp,Qdk,fun h=>?_⟩
  ·refine bN ?_
   simp [Q3,Zo,QG,Va,Wp,ep,hk]
 ·obtain ⟨r,q,rfl⟩:=Qi0 way hz
  obtain ⟨y,hy,hyl⟩:=hw q (by simp)
  refine ⟨[⟨r,q.1,q.2+1,false⟩],by simp,?_,Qao,fun h=>?_⟩
  ·intro u hu
   simp at hu
   subst hu
   exact ⟨⟨⟨y,hy,by show q.2+1<=_;omega,by simp⟩,fun z hz=>hw z (by simp;exact .inl hz)⟩,⟨fun j z hz=>hs2.up j z (by show (r++[q])[j]?=_;rw [List.getElem?_append_left (List.getElem?_eq_some_iff.mp hz).1];exact hz),hs2.up r.length q (by simp)⟩⟩
  ·refine bN ?_
   simp [Q3,Zo,QG,Va,Wp,ep,hk]
theorem Qcy {bs ws la:List Str} {x:Str} {r:List Str} (h:LineOk bs ws la (x::r)) (hd:x="do"):∃ nm,r=[nm]/\nm∈la:=by
 subst hd
 generalize hl:(("do":Str)::r)=l at h
 cases h with
 | plain h=>cases h<;>simp at hl
 | «do» h=>simp at hl;exact ⟨_,hl,h⟩
 | blk h=>rcases h with rfl | rfl | rfl | rfl<;>simp at hl
 | back h=>simp at hl
theorem Qeu {ns:List Str} {nm:Str} (h:nm∈ns):∃ j,ns.findIdx? (· == nm)=some j/\j < ns.length:=by
 cases e:ns.findIdx? (· == nm) with
 | none=>
  rw [List.findIdx?_eq_none_iff] at e
  have:=e nm h
  simp at this
 | some j=>
  refine ⟨j,rfl,?_⟩
  rw [List.findIdx?_eq_some_iff_getElem] at e
  exact e.1
theorem QbX {fin:List W->MH->Option (W×MH)} {items:List W} {b:MG} {me:ME} {h:MH} (P:MSt->Prop) (f:W->W):∀ (rest acc:List W) (τ:MSt),P τ->(∀ w∈rest,∀ τ,P τ->∃ τ1,b w τ h=some τ1/\P τ1/\me τ1 h=some (f w,h))->acc.length+rest.length<=sizeLine->ZK fin items none b XR me rest acc τ h=fin (acc++rest.map f) h
 | [],acc,τ,_,_,_=>by unfold ZK;rw [if_pos (Zl _ _)];simp
 | w::rest,acc,τ,hp,hs,hl=>by
  have hl':acc.length+(rest.length+1)<=sizeLine:=by simpa using hl
  obtain ⟨τ1,e1,p1,e2⟩:=hs w List.mem_cons_self τ hp
  unfold ZK
  rw [if_pos (Zl _ _),e1,Option.bind_some]
  show (some (true,h)).bind _=_
  rw [Option.bind_some]
  simp only [e2,Option.bind_some]
  rw [if_pos (by omega),QbX P f rest (acc++[f w]) τ1 p1 (fun x hx=>hs x (List.mem_cons_of_mem _ hx)) (by simp;omega)]
  simp
theorem QdL {fin:List W->MH->Option (W×MH)} {mi:MI} {cp:List (Option Nat)} {b:MG} {me:ME} {σ:MSt} {h:MH} {items:List W} (P:MSt->Prop) (f:W->W) (hi:mi σ h=some (items,none,h)) (hc:P (QcZ cp σ)) (hs:∀ w∈items,∀ τ,P τ->∃ τ1,b w τ h=some τ1/\P τ1/\me τ1 h=some (f w,h)) (hl:items.length<=sizeLine):Zw fin mi cp b XR me σ h=fin (items.map f) h:=by
 unfold Zw
 rw [hi,Option.bind_some]
 rw [QbX P f items [] _ hc hs (by simpa using hl)]
 simp
noncomputable def QeK:W->W
 | .tup (a::_)=>a
 | w=>w
theorem WY {ns:List Str} {nm:Str} {m j:Nat} (hn:ns.Nodup) (h:nm∈ns.drop (m+1)) (hj:ns.findIdx? (· == nm)=some j):m+1<=j:=by
 obtain ⟨i,hi⟩:=List.mem_iff_getElem?.mp h
 rw [List.getElem?_drop] at hi
 obtain ⟨hil,hie⟩:=List.getElem?_eq_some_iff.mp hi
 rw [List.findIdx?_eq_some_iff_getElem] at hj
 obtain ⟨hjl,hje,_⟩:=hj
 simp at hje
 have hp:=List.pairwise_iff_getElem.mp hn
 by_cases hlt:j < m+1+i
 ·exact absurd (hje.trans hie.symm) (hp j (m+1+i) hjl hil hlt)
 ·omega
noncomputable abbrev nS (p:List Pt) (way:List (Nat×Nat)) (part k:Nat) (x:Pt) (y:Str):MSt:=[some (Jz p),some (Vw p),some (.tup [.tup (way.map GV),.int part,.int k,.bl false]),some (.tup (way.map GV)),some (.int part),some (.int k),some (.bl false),some (.tup (x.2.map QV)),some (.str y)]
theorem QaF {p:List Pt} {bs ws:List Str} {way:List (Nat×Nat)} {part k:Nat} {x:Pt} {l:Ln} (hg:GoodP 700 bs ws p) (hs:SV p ⟨way,part,k,false⟩) (hs2:SW ⟨way,part,k,false⟩) (hx:p[part]?=some x) (hl:x.2[k]?=some l):∃ L,L.length<=2/\KN p ⟨way,part,k,false⟩ L:=by
 have hw:=hs.way
 simp only at hw
 have hm:=List.mem_iff_getElem?.mpr ⟨part,hx⟩
 have hok:=hg.ok part x hx
 have hne:∀ l∈x.2,∃ y r,l=y::r:=fun l hl=>Vj (hok l hl)
 have hsz:=hg.sz x hm
 have F:=Y8 (hg.bal x hm)
 rw [List.length_map] at F
 have hkl:=(List.getElem?_eq_some_iff.mp hl).1
 obtain ⟨y,r,rfl⟩:=hne l (List.mem_iff_getElem?.mpr ⟨k,hl⟩)
 have hcd:(x.2.map cdL)[k]?=some (cd y):=by rw [List.getElem?_map,hl];rfl
 have ep:=Xp hx
 have er:=QaJ hx
 have el:=QcA hl
 have nk:¬ (k:Int)=x.2.length:=by omega
 have nk':¬ k=x.2.length:=by omega
 have nl:XW (QV (y::r))=false:=rfl
 have gv:∀ m,m<=x.2.length->SV p ⟨way,part,m,false⟩/\SW ⟨way,part,m,false⟩:=fun m hm=>QfF hw hx hm hs2
 have one:∀ (u:Spt),(SV p u/\SW u)->∀ t∈[u],SV p t/\SW t:=fun u hu t ht=>by rw [List.mem_singleton.mp ht];exact hu
 -- what next_in_part tells
 have pl:Q3 [Jz p,Vw p,QG ⟨way,part,k,false⟩] []=QfZ (Q1 (nS p way part k x y) []):=by
  simp [Q3,Zo,QG,Va,Wp,ep,el,nk,nk']
 rcases Ko (x:=y) with ⟨rfl,hc⟩ | ⟨rfl,hc⟩ | ⟨rfl,hc⟩ | ⟨rfl,hc⟩ | ⟨⟨n1,n2,n3,n4⟩,hc⟩
 ·obtain ⟨t,md,en,h1,h2,h3⟩:=F.ei k (by rw [hcd,hc])
  have hmd:md < x.2.length:=by have:=(List.getElem?_eq_some_iff.mp h3.at_).1;simpa using this
  have eb:atI ((bk x).rws.map (rv (bk x))) (k:Int)=some (.lst [.int k,.int md,.int en]):=UL h1 h2
  have hlt:k < md:=h3.lt
  refine ⟨[⟨way,part,k+1,false⟩,⟨way,part,md+1,false⟩],by simp,?_,UN (show k+1≠md+1 by omega),fun h=>?_⟩
  ·intro u hu
   simp at hu
   rcases hu with rfl | rfl
   ·exact gv _ (by omega)
   ·exact gv _ (by omega)
  ·refine bN ?_
   rw [pl]
   simp [Q1,QG,er,eb]
 ·refine ⟨[⟨way,part,k,true⟩],by simp,one _ ⟨⟨⟨x,hx,by show k<=_;omega,fun _=>⟨r,hl⟩⟩,hw⟩,⟨hs2.up,hs2.le⟩⟩,Wc,fun h=>?_⟩
  ·refine bN ?_
   rw [pl]
   simp [Q1,QG]
 ·obtain ⟨t,fs,en,h1,h2,h3⟩:=F.oo k (by rw [hcd,hc])
  have hen:en < x.2.length:=by have:=(List.getElem?_eq_some_iff.mp h3.at_).1;simpa using this
  have eb:atI ((bk x).rws.map (rv (bk x))) (k:Int)=some (.lst [.int fs,.int k,.int en]):=UL h1 h2
  have hlt:k < en:=h3.lt
  refine ⟨[⟨way,part,en+1,false⟩],by simp,one _ (gv _ (by omega)),Yq hx hkl (by omega),fun h=>?_⟩
  ·refine bN ?_
   rw [pl]
   simp [Q1,QG,er,eb]
 ·obtain ⟨t,fs,md,h1,h2,h3,h4⟩:=F.en k (by rw [hcd,hc])
  have eb:atI ((bk x).rws.map (rv (bk x))) (k:Int)=some (.lst [.int fs,.int md,.int k]):=UL h1 h2
  have hfl:fs < x.2.length:=by have:=h3.lt;omega
  obtain ⟨z,r',hz⟩:=hne x.2[fs] (List.getElem_mem hfl)
  have hz':x.2[fs]?=some (z::r'):=by rw [List.getElem?_eq_getElem hfl,hz]
  have ef:=QcA hz'
  have hcz:(x.2.map cdL)[fs]?=some (cd z):=by rw [List.getElem?_map,hz'];rfl
  by_cases ha:z="again"
  ·subst ha
   refine ⟨[⟨way,part,fs,true⟩],by simp,one _ ⟨⟨⟨x,hx,by show fs<=_;omega,fun _=>⟨r',hz'⟩⟩,hw⟩,⟨hs2.up,hs2.le⟩⟩,Wc,fun h=>?_⟩
   ·refine bN ?_
    rw [pl]
    simp [Q1,QG,er,eb,ef]
  ·refine ⟨[⟨way,part,k+1,false⟩],by simp,one _ (gv _ (by omega)),Yq hx hkl (by omega),fun h=>?_⟩
   ·refine bN ?_
    rw [pl]
    simp [Q1,QG,er,eb,ef,ha]
 ·by_cases hd:y="do"
  ·obtain ⟨nm,rfl,hnm⟩:=Qcy (hok _ (List.mem_iff_getElem?.mpr ⟨k,hl⟩)) hd
   subst hd
   obtain ⟨j,hj,hjl⟩:=Qeu (List.mem_of_mem_drop hnm)
   have hpj:=WY hg.nd hnm hj
   have hlen:=hg.len
   have hjl':j < p.length:=by simpa using hjl
   have s1:way.length+1<=sizeLine:=Xi (by have:=hs2.le;have:=(List.getElem?_eq_some_iff.mp hx).1;simp only at *;omega)
   have ec:∀ (σ:MSt),σ[0]?=some (some (Jz p))->Zw Vu (QY (Qg 0)) [none,none] (Va [0,1]) XR (Qg 0) σ []=Vu ((p.map Ve).map QeK) []:=fun σ h0=>by
    refine QdL (fun τ=>τ.length=2) QeK (by simp [QY,Qg,h0,XE,Jz]) rfl (fun w hw τ hτ=>?_) (by simp;exact Xi (by omega))
    obtain ⟨z,_,rfl⟩:=List.mem_map.mp hw
    match τ,hτ with
    | [a,b],_=>exact ⟨[some (.str z.1),some (.tup (z.2.map QV))],rfl,rfl,rfl⟩
   have hmm:(p.map Ve).map QeK=(p.map (·.1)).map W.str:=by simp [Ve,QeK,Function.comp_def]
   have ei:Wr (.lst ((p.map (·.1)).map W.str)) [.str nm] []=some (.int j,[]):=by
    unfold Wr
    simp only [lsW,Option.bind_some]
    rw [V5 [] (.str nm) 40 rfl (by simp [dep]),Xj [] _ 40 V9 (Nat.le_trans Ga (by decide)),Option.bind_some,Option.bind_some,Qen hj]
    rfl
   rw [hmm] at ec
   rw [List.map_map] at ec ei
   simp only [Vu] at ec
   refine ⟨[⟨way++[(part,k)],j,0,false⟩],by simp,one _ ⟨⟨⟨p[j],List.getElem?_eq_getElem hjl',Nat.zero_le _,by simp⟩,?_⟩,?_⟩,QeB hg hx hl (by show (("do":Str) == "do")=true;decide) hpj,fun h=>?_⟩
   ·intro q hq
    simp at hq
    rcases hq with hq | rfl
    ·exact hw q hq
    ·exact ⟨x,hx,hkl⟩
   ·refine ⟨fun i q hq=>?_,by have:=hs2.le;simp at this ⊢;omega⟩
    have hil:=(List.getElem?_eq_some_iff.mp hq).1
    simp at hil
    have hle:=hs2.le
    simp only at hle hq
    by_cases hi:i < way.length
    ·rw [List.getElem?_append_left hi] at hq
     exact hs2.up i q hq
    ·have:i=way.length:=by omega
     subst this
     simp at hq
     subst hq
     exact hle
   ·refine bN ?_
    rw [pl]
    simp [Q1,QG,s1,GV,ep,el]
    rw [ec _ rfl]
    simp [ei]
  ·refine ⟨[⟨way,part,k+1,false⟩],by simp,one _ (gv _ (by omega)),Yq hx hkl (by omega),fun h=>?_⟩
   ·refine bN ?_
    rw [pl]
    simp [Q1,QG,n1,n2,n3,n4,hd]
theorem Qel {p:List Pt} {bs ws:List Str} {s:Spt} (hg:GoodP 700 bs ws p) (hs:SV p s) (hs2:SW s):∃ L,L.length<=2/\KN p s L:=by
 obtain ⟨way,part,k,head⟩:=s
 cases head with
 | true=>exact Qbz hg hs hs2
 | false=>
  obtain ⟨x,hx,hk,_⟩:=hs.ex
  simp only at hx hk
  by_cases z:k=x.2.length
  ·exact Yb hg hs hs2 hx z
  ·exact QaF hg hs hs2 hx (List.getElem?_eq_getElem (by omega))
@[simp] theorem Qjn {ws:List W} {h:MH}:Qbe [.lst ws] h=some (.lst ws,h):=id rfl
open Classical in
noncomputable def nx (p:List Pt) (s:Spt):List Spt:=if h:∃ L,L.length<=2/\KN p s L then h.choose else []
theorem GF {p:List Pt} {bs ws:List Str} {s:Spt} (hg:GoodP 700 bs ws p) (hs:SV p s) (hs2:SW s):(nx p s).length<=2/\KN p s (nx p s):=by
 have h:=Qel hg hs hs2
 unfold nx
 rw [dif_pos h]
 exact h.choose_spec
noncomputable def pk (a b:Spt) (c:Nat):Spt:=if c=0 then a else b
inductive Go (p:List Pt):Spt->List Nat->List Spt->List Nat->Prop where
 | stop {s:Spt} {cs:List Nat} (h:nx p s=[]):Go p s cs [] cs
 | one {s t:Spt} {cs cs':List Nat} {tr:List Spt} (h:nx p s=[t]) (g:Go p t cs tr cs'):Go p s cs (t::tr) cs'
 | wait {s a b:Spt} (h:nx p s=[a,b]):Go p s [] [] []
 | two {s a b:Spt} {c:Nat} {cs cs':List Nat} {tr:List Spt} (h:nx p s=[a,b]) (hc:c<=1) (g:Go p (pk a b c) cs tr cs'):Go p s (c::cs) (pk a b c::tr) cs'
theorem Qhm {L:List Spt} (h:L.length<=2):L=[]\/(∃ t,L=[t])\/∃ a b,L=[a,b]:=by
 match L,h with
 | [],_=>exact .inl rfl
 | [t],_=>exact .inr (.inl ⟨t,rfl⟩)
 | [a,b],_=>exact .inr (.inr ⟨a,b,rfl⟩)
 | _::_::_::_,h=>simp at h
theorem sv4 {p:List Pt} {bs ws:List Str} {s:Spt} (hg:GoodP 700 bs ws p) (hs:SV p s) (hs2:SW s):s.way.length<=4:=by
 obtain ⟨x,hx,_⟩:=hs.ex
 have h1:=(List.getElem?_eq_some_iff.mp hx).1
 have h2:=hg.len
 have h3:=hs2.le
 omega
theorem Qj4 {p:List Pt} {bs ws:List Str} {s t:Spt} (hg:GoodP 700 bs ws p) (hs:SV p s) (hs2:SW s) (h:t∈nx p s):SV p t/\SW t:=(GF hg hs hs2).2.1 t h
theorem QhJ {a b:Spt} {c:Nat}:pk a b c∈[a,b]:=by unfold pk;split<;>simp
theorem QiR {a b:Spt} {c:Nat} (h:c<=1):atI [QG a,QG b] (c:Int)=some (QG (pk a b c)):=by
 rw [Q6]
 match c,h with
 | 0,_=>rfl
 | 1,_=>rfl
@[simp] theorem Qiz {α:Type} {xs:List α} {x y:α}:atI (xs++[x,y]) (-1)=some y:=by rw [show xs++[x,y]=(xs++[x])++[y] by simp];exact Mi.U4 _ _
theorem UJ {t:MT} {body:SM} {f:Nat} {σ σ2:MSt} {h h2:MH} (e:t σ h=some (true,h)) (e2:body σ h=some (.nx σ2 h2)):Q0 t body (f+1) σ h=Q0 t body f σ2 h2:=by
 rw [Q0,e]
 simp only [Option.bind_some,e2]
theorem X8 {t:MT} {body:SM} {f:Nat} {σ:MSt} {h:MH} (e:t σ h=some (false,h)):Q0 t body (f+1) σ h=some (.nx σ h):=by rw [Q0,e];rfl
theorem szN {n m:Nat} (h:n+m<=16000000):n < sizeLine:=Nat.lt_of_le_of_lt (show n<=16000000 by omega) (by decide)
noncomputable abbrev sp0:Spt:=⟨[],0,0,false⟩
theorem sv0 {N:Nat} {p:List Pt} {bs ws:List Str} (hg:GoodP N bs ws p):SV p sp0/\SW sp0:=by
 obtain ⟨x,r,rfl⟩:∃ x r,p=x::r:=by
  cases p with
  | nil=>exact absurd rfl hg.ne
  | cons x r=>exact ⟨x,r,rfl⟩
 exact ⟨⟨⟨x,rfl,Nat.zero_le _,by simp⟩,by simp⟩,⟨by simp,by simp⟩⟩
noncomputable abbrev rW1:MT:=GB (QA (Qm wEq (mFn JS (Qc (Qg 6) Ql)) (mC (.int 1)))) (Vc (QA (Qm wGt (mFn JS (Qc (Qg 6) Ql)) (mC (.int 1)))) (QA (Qm wGt (Qg 5) (mC (.int 0)))))
noncomputable abbrev rS1 (p:List Pt) (left:Nat) (L:List Spt):MSt:=[some (Jz p),some (Vw p),some (.ref 0),some (.int 12),some (.ref 1),some (.int left),some (.lst (L.map QG))]
theorem Qdn {p:List Pt} {bs ws:List Str} (hg:GoodP 700 bs ws p):∀ (m:Nat) (s:Spt) (left:Nat) (f:Fd) (R:List Spt) (fu:Nat),SV p s->SW s->rk p s+left*326656<=m->m < fu->R.length+1+m<=16000000->(∀ t∈R,SV p t) ->
  ∃ (R':List Spt) (f':Fd) (left':Nat) (L:List Spt),R'≠[]/\(∀ t∈R',SV p t)/\R'.length<=R.length+1+m/\Q0 rW1 Vq fu (rS1 p left (nx p s)) [Qz f,.lst (R.map QG++[QG s])]=some (.nx (rS1 p left' L) [Qz f',.lst (R'.map QG)]):=by
 intro m
 induction m with
 | zero=>
  intro s left f R fu v1 v2 hm hf hl hR
  obtain ⟨fu,rfl⟩:∃ k,fu=k+1:=⟨fu - 1,by omega⟩
  obtain ⟨hl2,hk⟩:=GF hg v1 v2
  have hz:left=0:=by omega
  subst hz
  refine ⟨R++[s],f,0,nx p s,by simp,fun t ht=>?_,by simp,?_⟩
  ·rcases List.mem_append.mp ht with ht | ht
   ·exact hR t ht
   ·rw [List.mem_singleton.mp ht];exact v1
  ·rcases Qhm hl2 with e | ⟨t,e⟩ | ⟨a,b,e⟩
   ·rw [X8 (by rw [e];simp)];simp
   ·have:=hk.2.1.one t e;omega
   ·rw [X8 (by rw [e];simp)];simp
 | succ m ih=>
  intro s left f R fu v1 v2 hm hf hl hR
  obtain ⟨fu,rfl⟩:∃ k,fu=k+1:=⟨fu - 1,by omega⟩
  obtain ⟨hl2,hk⟩:=GF hg v1 v2
  have hR':∀ t∈R++[s],SV p t:=fun t ht=>by
   rcases List.mem_append.mp ht with ht | ht
   ·exact hR t ht
   ·rw [List.mem_singleton.mp ht];exact v1
  have s1:R.length+1 < sizeLine:=szN (m:=m) (by omega)
  have stop:rW1 (rS1 p left (nx p s)) [Qz f,.lst (R.map QG++[QG s])]=some (false,[Qz f,.lst (R.map QG++[QG s])])->∃ (R':List Spt) (f':Fd) (left':Nat) (L:List Spt),R'≠[]/\(∀ t∈R',SV p t)/\R'.length<=R.length+1+(m+1)/\Q0 rW1 Vq (fu+1) (rS1 p left (nx p s)) [Qz f,.lst (R.map QG++[QG s])]=some (.nx (rS1 p left' L) [Qz f',.lst (R'.map QG)]):=fun e=>
   ⟨R++[s],f,left,nx p s,by simp,hR',by simp;try omega,by rw [X8 e];simp⟩
  rcases Qhm hl2 with e | ⟨t,e⟩ | ⟨a,b,e⟩
  ·exact stop (by rw [e];simp)
  ·have h1:=hk.2.1.one t e
   obtain ⟨w1,w2⟩:=Qj4 hg v1 v2 (t:=t) (by rw [e];simp)
   have en:=(GF hg w1 w2).2.2.2
   obtain ⟨R',f',left',L,q1,q2,q3,q4⟩:=ih t left f (R++[s]) fu w1 w2 (by omega) (by omega) (by simp;omega) hR'
   refine ⟨R',f',left',L,q1,q2,by simp at q3;omega,?_⟩
   rw [UJ (σ2:=rS1 p left (nx p t)) (h2:=[Qz f,.lst ((R++[s]).map QG++[QG t])]) (by rw [e];simp) (by rw [e];simp [en,s1,rS1])]
   exact q4
  ·by_cases hz:left=0
   ·subst hz
    exact stop (by rw [e];simp)
   ·obtain ⟨l1,rfl⟩:∃ k,left=k+1:=⟨left - 1,by omega⟩
    obtain ⟨c,hc⟩:∃ c:Nat,tk f 2=c:=⟨(tk f 2).toNat,by have:=(Xe (f:=f) (m:=2) (by decide)).1;omega⟩
    have hc1:c<=1:=by have:=(Xe (f:=f) (m:=2) (by decide)).2;omega
    obtain ⟨w1,w2⟩:=Qj4 hg v1 v2 (t:=pk a b c) (by rw [e];exact QhJ)
    have en:=(GF hg w1 w2).2.2.2
    have h1:=QhT hg (s:=pk a b c) (sv4 hg w1 w2)
    obtain ⟨R',f',left',L,q1,q2,q3,q4⟩:=ih (pk a b c) l1 (tf f 2) (R++[s]) fu w1 w2 (by rw [Nat.add_mul] at hm;omega) (by omega) (by simp;omega) hR'
    have ep:=QiR (a:=a) (b:=b) hc1
    refine ⟨R',f',left',L,q1,q2,by simp at q3;omega,?_⟩
    rw [UJ (σ2:=rS1 p l1 (nx p (pk a b c))) (h2:=[Qz (tf f 2),.lst ((R++[s]).map QG++[QG (pk a b c)])]) (by rw [e];simp;try omega) (by rw [e];simp [en,s1,ep,hc,rS1];try omega)]
    exact q4
theorem Qi1 {m:FM} {args as:List W} {n:Nat} {f f':Fd} {vs:List W} {g h:MH} (hr:V6 0 args=some (as,[n])) (hn:h[n]?=some (Qz f)) (e:m as [Qz f]=some (.ref 1,Qz f'::.lst vs::g)) (hv:Jv vs=true):box frN m args h=some (.lst vs,h.set n (Qz f')):=by
 have:=V0 (m:=m) (args:=args) (as:=as) (ns:=[n]) (os:=[Qz f]) (os':=[Qz f']) (g:=.lst vs::g) (h:=h) (w:=.ref 1) (w':=.lst vs) hr (by simp) (by simp [ZV,XT (us:=[.int f.a,.int f.b]) hn (by simp),Qz]) e rfl (fun o ho=>by simp at ho;subst ho;exact ⟨_,rfl,by simp⟩) (by
  unfold th res
  simp [VX,Z6 _ vs hv])
 simpa using this
theorem QcY {N:Nat} {bs ws:List Str} {p:List Pt} (hg:GoodP N bs ws p) {x:Pt} (hx:x∈p):∀ l∈x.2,∃ y r,l=y::r:=by
 obtain ⟨i,hi⟩:=List.mem_iff_getElem?.mp hx
 exact fun l hl=>Vj (hg.ok i x hi l hl)
theorem Gn {p:List Pt} {bs ws:List Str} (hg:GoodP 700 bs ws p) (f:Fd):∃ (R:List Spt) (f':Fd),R≠[]/\(∀ t∈R,SV p t)/\R.length<=5000000/\∀ (h:MH) (n:Nat),h[n]?=some (Qz f)->JX [Jz p,Vw p,.ref n,.int 12] h=some (.lst (R.map QG),h.set n (Qz f')):=by
 obtain ⟨v1,v2⟩:=sv0 hg
 obtain ⟨a0,a1⟩:=Xe (f:=f) (m:=13) (by decide)
 obtain ⟨left,hl⟩:=GX a0
 have h1:=QhT hg (s:=sp0) (by simp)
 obtain ⟨R,f',left',L,q1,q2,q3,q4⟩:=Qdn hg (rk p sp0+left*326656) sp0 left (tf f 13) [] 20000000 v1 v2 (Nat.le_refl _) (by omega) (by simp;omega) (by simp)
 have en:=(GF hg v1 v2).2.2.2
 refine ⟨R,f',q1,q2,by simp at q3;omega,fun h n hn=>Qi1 (g:=[]) (as:=[Jz p,Vw p,.ref 0,.int 12]) (by have q:=Qdj (p:=p);unfold Vw at q ⊢;simp [V6,Jz,q]) hn ?_ Qep⟩
 have en0:=en [Qz (tf f 13),.lst [QG sp0]]
 simp [rS1,QG] at q4 en0
 simp [Vv,Zo,hl,en0,q4,QG]
theorem QeA {p:List Pt} {bs ws:List Str} {σ:MSt} {h:MH} (hσ:σ[2]?=some (some (Jz p))) (hg:GoodP 700 bs ws p):Zw Vu (QY (Qg 2)) [none] (Jy 0) XR (Qv 1 QL (Qc (Qm wIx (Qg 0) (mC (.int 1))) Ql)) σ h=some (Vw p,h):=by
 have hl:=hg.len
 unfold Zw
 have hi:QY (Qg 2) σ h=some (p.map Ve,none,h):=by unfold QY Qg;rw [hσ];rfl
 rw [hi,Option.bind_some]
 have key:∀ (r:List Pt) (acc:List Pt) (τ:Option W),(∀ x∈r,x∈p)->acc.length+r.length<=100->ZK Vu (p.map Ve) none (Jy 0) XR (Qv 1 QL (Qc (Qm wIx (Qg 0) (mC (.int 1))) Ql)) (r.map Ve) (acc.map fun x=>UR (bk x)) [τ] h=some (.lst ((acc++r).map fun x=>UR (bk x)),h):=by
  intro r
  induction r with
  | nil=>
   intro acc τ _ _
   rw [List.map_nil,ZK,if_pos (Zl _ _),List.append_nil];rfl
  | cons x r ih=>
   intro acc τ hr hl
   have hx:=hr x List.mem_cons_self
   have eb:QL [.tup (x.2.map QV)] h=some (UR (bk x),h):=QaY x.2 (hg.bal x hx) (QcY hg hx) (by have:=hg.sz x hx;omega) h
   rw [List.map_cons,ZK,if_pos (Zl _ _)]
   show (some [some (Ve x)]).bind _=_
   rw [Option.bind_some]
   show (some (true,h)).bind _=_
   rw [Option.bind_some]
   have em:Qv 1 QL (Qc (Qm wIx (Qg 0) (mC (.int 1))) Ql) [some (Ve x)] h=some (UR (bk x),h):=by simp [eb]
   simp only [em,Option.bind_some]
   rw [if_pos (by rw [List.length_map];simp at hl;exact Ki (by omega))]
   have:=ih (acc++[x]) (some (Ve x)) (fun y hy=>hr y (List.mem_cons_of_mem _ hy)) (by simp at hl ⊢;omega)
   rw [List.map_append,List.append_assoc] at this
   exact this
 exact key p [] none (fun _ hx=>hx) (by simp;omega)
theorem Qfk:∀ (a b:List Str),a.Nodup->(∀ y∈a,y∈b)->a.length<=b.length
 | [],b,_,_=>Nat.zero_le _
 | k::r,b,na,h=>by
  have hk:=h k List.mem_cons_self
  rw [List.nodup_cons] at na
  have:=Qfk r (b.erase k) na.2 fun y hy=>(List.mem_erase_of_ne (fun z=>na.1 (by rw [<- z];exact hy))).mpr (h y (List.mem_cons_of_mem _ hy))
  rw [List.length_erase_of_mem hk] at this
  have:=List.length_pos_of_mem hk
  rw [List.length_cons]
  omega
theorem Qeo:∀ (n:Nat) (l:List Str),l.length=n->(St.uniq l).Nodup:=by
 intro n
 induction n with
 | zero=>intro l h;rw [List.length_eq_zero_iff.mp h];exact List.nodup_nil
 | succ n ih=>
  intro l h
  obtain ⟨u,x,rfl⟩:∃ u x,l=u++[x]:=⟨l.dropLast,l.getLast (fun z=>by rw [z] at h;cases h),(List.dropLast_concat_getLast _).symm⟩
  have q:=ih u (by simp at h;exact h)
  rw [St.uniq_snoc]
  split
  ·exact q
  ·rename_i hx
   rw [List.nodup_append]
   exact ⟨q,by simp,fun a ha b hb e=>hx (by rw [List.mem_singleton.mp hb] at e;rw [<- e];exact ha)⟩
theorem GE {a:W} {ss:List Str} {h:MH} (hn:lsW h a=some (ss.map .str)) (h1:ss.length < 4000) (h2:(St.uniq ss).length < 64):VE [a] h=some (.ref h.length,h++[.lst ((St.srt (St.uniq ss)).map .str)]):=by
 unfold VE
 simp only [hn,Option.bind_some,QeM]
 rw [if_pos ⟨h1,h2⟩]
theorem QhN {l B:List Str} (h:∀ y∈l,y∈B) (hB:B.length<=5):(St.uniq l).length < 64:=by
 have:=Qfk _ B (Qeo _ l rfl) fun y hy=>h y ((St.uniq_mem _ l rfl y).mp hy)
 omega
theorem Qek {ks:List Str}:(St.srt ks).length<=ks.length:=by
 by_cases hx:∃ ss:List Str,ss.Perm ks/\sortedS ss=true
 ·obtain ⟨ss,p,h⟩:=hx
  rw [St.srt_eq p h,p.length_eq]
  exact Nat.le_refl _
 ·unfold St.srt
  rw [dif_neg hx]
  exact Nat.zero_le _
theorem X9:∀ {ws:List W},Jv ws=true->∀ {k:Nat},V6 k ws=some (ws,[])
 | [],_,k=>rfl
 | a::r,hp,k=>by
  unfold Jv at hp
  rw [Bool.and_eq_true] at hp
  have:=X9 hp.2 (k:=k)
  cases a<;>first | (unfold pur at hp;cases hp.1;done) | (unfold V6;rw [if_pos hp.1,this];rfl)
noncomputable abbrev oS (p:List Pt) (x2 x3:Option W):MSt:=[some (Jz p),some (.ref 0),x2,x3]
theorem Uy {m:FM} {ws vs:List W} {j:Nat} {g h:MH} (hp:Jv ws=true) (e:m ws []=some (.ref j,g)) (hj:g[j]?=some (.lst vs)) (hv:Jv vs=true):box frN m ws h=some (.lst vs,h):=by
 have hr:V6 0 ws=some (ws,[]):=X9 hp
 have:=V0 (m:=m) (args:=ws) (as:=ws) (ns:=[]) (os:=[]) (os':=[]) (g:=g) (h:=h) (w:=.ref j) (w':=.lst vs) hr (by simp) rfl e rfl (by simp) (by
  unfold th res
  simp [VX,hj,Z6 _ vs hv])
 simpa [QP] using this
theorem Qcr {p:List Pt} {bs ws:List Str} (hg:GoodP 300 bs ws p) (hw5:ws.length<=5):∃ Wd:List Str,Wd.length<=63/\∀ h:MH,ZC [Jz p] h=some (.lst (Wd.map .str),h):=by
 have hlen:=hg.len
 have loop:=ZT (items:=p.map Ve) (b:=Va [2,3]) (body:=VB) (fun n σ h=>∃ (Wd:List Str) (x2 x3:Option W),σ=oS p x2 x3/\h=[.lst (Wd.map .str)]/\(∀ x∈Wd,x∈ws)/\Wd.length<=300*n)
  (p.map Ve) 0 (oS p none none) [.lst []] ⟨[],none,none,rfl,rfl,by simp,by simp⟩ (by
   rintro j w hj σ h ⟨Wd,x2,x3,rfl,rfl,h1,h2⟩
   rw [List.getElem?_map] at hj
   obtain ⟨x,hx,rfl⟩:=Option.map_eq_some_iff.mp hj
   have hjl:=(List.getElem?_eq_some_iff.mp hx).1
   have hok:=hg.ok j x hx
   have hsz:=hg.sz x (List.mem_iff_getElem?.mpr ⟨j,hx⟩)
   obtain ⟨W',e,h3,h4⟩:=KI hok
   refine ⟨oS p (some (.str x.1)) (some (.tup (x.2.map QV))),rfl,oS p (some (.str x.1)) (some (.tup (x.2.map QV))),[.lst ((Wd++W').map .str)],.inl ?_,Wd++W',_,_,rfl,rfl,fun y hy=>?_,by simp;omega⟩
   ·have ec:=Qbi (fin:=Vu) (mi:=QY (Qg 3)) (cp:=[none]) (mt:=QA (Qm wEq (Qm wIx (Qg 0) (mC (.int 0))) (mC (.str "pair")))) (me:=Qm wIx (Qg 0) (mC (.int 2))) (σ:=oS p (some (.str x.1)) (some (.tup (x.2.map QV)))) (caps:=[]) (h:=[.lst (Wd.map .str)]) (items:=x.2.map QV)
     fW pW (by simp [QY];rfl) ⟨_,rfl⟩ (fun w hw=>by
      obtain ⟨l,hl,rfl⟩:=List.mem_map.mp hw
      obtain ⟨y,r,rfl⟩:=Vj (hok l hl)
      simp [QV,pW]) (fun w hw hp=>by
      obtain ⟨l,hl,rfl⟩:=List.mem_map.mp hw
      obtain ⟨y,w,u,z,rfl,_⟩:=Xc (hok l hl) hp
      simp [QV,fW]) (by simp;exact Xi (by omega))
    rw [e] at ec
    simp only [Vu] at ec
    have s1:Wd.length+W'.length<=sizeLine:=Xi (by omega)
    simp [ec,s1]
   ·rcases List.mem_append.mp hy with z | z
    ·exact h1 y z
    ·exact h3 y z)
 obtain ⟨σ',h',e1,Wd,x2,x3,rfl,rfl,hW,hWl⟩:=loop
 rw [List.length_map,Nat.zero_add] at hWl
 have hu:=QhN hW hw5
 have es:VE [.ref 0] [.lst (Wd.map .str)]=some (.ref 1,[.lst (Wd.map .str),.lst ((St.srt (St.uniq Wd)).map .str)]):=GE rfl (by omega) hu
 have hlen2:(St.srt (St.uniq Wd)).length<=63:=by
  have:=Qek (ks:=St.uniq Wd);omega
 refine ⟨St.srt (St.uniq Wd),hlen2,fun h=>Uy (j:=1) (g:=[.lst (Wd.map .str),.lst ((St.srt (St.uniq Wd)).map .str)]) (by simp) ?_ rfl (by simp)⟩
 have ei:∀ x2 x3 (h:MH),QY (Qg 0) (oS p x2 x3) h=some (p.map Ve,none,h):=fun _ _ _=>rfl
 simp [Vb,Zo,VM,ei,e1,es]
theorem U7 {items:List W} {src:Option Nat} {b:MG} {body:SM} (P:Nat->MSt->MH->Prop) (hlv:∀ n σ h,P n σ h->live src items h):∀ (r:List W) (n:Nat) (σ:MSt) (h:MH),P n σ h ->
  (∀ (j:Nat) (w:W),r[j]?=some w->∀ σ h,P (n+j) σ h->∃ σ1,b w σ h=some σ1/\∃ σ2 h2,(body σ1 h=some (.nx σ2 h2)\/body σ1 h=some (.ct σ2 h2))/\P (n+j+1) σ2 h2) ->
  ∃ σ' h',VA items src b body r σ h=some (.nx σ' h')/\P (n+r.length) σ' h'
 | [],n,σ,h,hp,_=>⟨σ,h,by rw [VA,if_pos (hlv _ _ _ hp)],hp⟩
 | w::r,n,σ,h,hp,hs=>by
  obtain ⟨σ1,e1,σ2,h2,e2,p2⟩:=hs 0 w rfl σ h hp
  obtain ⟨σ',h',e3,p3⟩:=U7 (items:=items) (src:=src) (b:=b) (body:=body) P hlv r (n+1) σ2 h2 p2 fun j x hx σ h hp=>by
   have:=hs (j+1) x (by simpa using hx) σ h (by rw [show n+(j+1)=n+1+j by omega];exact hp)
   rw [show n+(j+1)+1=n+1+j+1 by omega] at this
   exact this
  refine ⟨σ',h',?_,by rw [List.length_cons,show n+(r.length+1)=n+1+r.length by omega];exact p3⟩
  rw [VA,if_pos (hlv _ _ _ hp),e1,Option.bind_some]
  rcases e2 with e2 | e2<;>rw [e2]<;>exact e3
noncomputable abbrev Pl:=Nat×Nat
noncomputable def Zz (q:Pl):W:=.tup [.int q.1,.int q.2]
noncomputable abbrev Mn:=Str×Pl
noncomputable def ZL (m:Mn):W:=.tup [.str m.1,Zz m.2]
@[simp] theorem Qmj {q:Pl}:pur (Zz q)=true:=by simp [Zz]
@[simp] theorem QcF {q:Pl}:pln (Zz q)=true:=by simp [Zz,pln,Xr]
@[simp] theorem QjA {m:Mn}:pln (ZL m)=true:=by simp [ZL,pln,Xr]
theorem QcB {q:Pl}:dep (Zz q)<=3:=by simp [Zz,dep,Kw]
@[simp] theorem QhF {ms:List Mn}:Xr (ms.map ZL)=true:=Je fun _=>QjA
@[simp] theorem Qhi {ms:List Mn}:Jv (ms.map ZL)=true:=Zt _ QhF
noncomputable abbrev mS (p:List Pt) (x3 x4 x5 x6 x7 x8 x9 x10:Option W):MSt:=[some (Jz p),some (.ref 0),some (.ref 1),x3,x4,x5,x6,x7,x8,x9,x10]
theorem WM {p:List Pt} {x:Pt} {j:Nat} {f:Fd} {D:List Pl} (hs:x.2.length<=300) (hD:D.length<=3000) (hj:j<=10) :
  JE (mS p (some (.int j)) (some (Ve x)) none none none none none none) [Qz f,.lst (D.map Zz)]=some (.nx (mS p (some (.int j)) (some (Ve x)) none none none none none none) [Qz f,.lst ((D++(List.range (x.2.length+1)).map fun g=>(j,g)).map Zz)]):=by
 have er:Yi (Qc (Qm Vt (mFn JS (Qc (Qm wIx (Qg 4) (mC (.int 1))) Ql)) (mC (.int 1))) Ql) (mS p (some (.int j)) (some (Ve x)) none none none none none none) [Qz f,.lst (D.map Zz)]=some (QR 0 (x.2.length+1),none,[Qz f,.lst (D.map Zz)]):=VD (by simp [Ve]) (by omega)
 have ec:=VR (fin:=Vu) (mi:=Yi (Qc (Qm Vt (mFn JS (Qc (Qm wIx (Qg 4) (mC (.int 1))) Ql)) (mC (.int 1))) Ql)) (cp:=[none,some 3]) (me:=mFn Jj (Qc (Qg 1) (Qc (Qg 0) Ql))) (σ:=mS p (some (.int j)) (some (Ve x)) none none none none none none) (caps:=[some (.int j)]) (h:=[Qz f,.lst (D.map Zz)]) (items:=QR 0 (x.2.length+1))
  (fun w=>.tup [.int j,w]) er ⟨_,rfl⟩ (fun w _=>by simp) (by rw [Gu];exact Xi (by omega))
 have e2:(QR 0 (x.2.length+1)).map (fun w=>W.tup [.int j,w])=((List.range (x.2.length+1)).map fun g=>(j,g)).map Zz:=by
  unfold QR
  simp [Zz,Function.comp_def]
 rw [e2] at ec
 simp only [Vu] at ec
 have s1:D.length+(x.2.length+1)<=sizeLine:=Xi (by omega)
 simp [ec,s1]
theorem Qiu {m:FM} {args as:List W} {n j:Nat} {f f':Fd} {vs:List W} {g h:MH} (hr:V6 0 args=some (as,[n])) (hn:h[n]?=some (Qz f)) (e:m as [Qz f]=some (.ref (j+1),Qz f'::g)) (hj:g[j]?=some (.lst vs)) (hv:Jv vs=true):box frN m args h=some (.lst vs,h.set n (Qz f')):=by
 have:=V0 (m:=m) (args:=args) (as:=as) (ns:=[n]) (os:=[Qz f]) (os':=[Qz f']) (g:=g) (h:=h) (w:=.ref (j+1)) (w':=.lst vs) hr (by simp) (by simp [ZV,XT (us:=[.int f.a,.int f.b]) hn (by simp),Qz]) e rfl (fun o ho=>by simp at ho;subst ho;exact ⟨_,rfl,by simp⟩) (by
  unfold th res
  simp [VX,hj,Z6 _ vs hv])
 simpa using this
theorem Qaj {p:List Pt} {f:Fd} {PL:List Pl} {M:List Mn} {way:Nat} {one q:Pl} {wd:Str} {x3 x4 x5:Option W} (hw:way<=5) (hM:M.length<=200000) :
  ∃ (f':Fd) (M':List Mn),M'.length<=M.length+1/\ZO (mS p x3 x4 x5 (some (.int way)) (some (Zz one)) (some (.ref 2)) (some (.str wd)) (some (Zz q))) [Qz f,.lst (PL.map Zz),.lst (M.map ZL)]=some (.nx (mS p x3 x4 x5 (some (.int way)) (some (Zz one)) (some (.ref 2)) (some (.str wd)) (some (Zz q))) [Qz f',.lst (PL.map Zz),.lst (M'.map ZL)]):=by
 have s1:M.length < sizeLine:=Nat.lt_of_le_of_lt hM (by decide)
 have app:M.map ZL++[ZL (wd,q)]=(M++[(wd,q)]).map ZL:=by simp
 have eq1:∀ h,wEq (Zz q) (Zz one) h=some (.bl (eqW (Zz q) (Zz one)),h):=fun h=>QkE QcF QcF (Nat.le_trans QcB (by decide)) (Nat.le_trans QcB (by decide))
 by_cases h0:way=0
 ·subst h0
  cases hq:eqW (Zz q) (Zz one) with
  | true=>
   refine ⟨f,M++[(wd,q)],by simp,?_⟩
   rw [<- app]
   simp [eq1,hq,s1,ZL]
  | false=>
   refine ⟨f,M,by omega,?_⟩
   simp [eq1,hq]
 ·by_cases h1:way=1
  ·subst h1
   refine ⟨f,M,by omega,?_⟩
   simp
  ·obtain ⟨a0,a1⟩:=Xe (f:=f) (m:=2+way) (by omega)
   have g1:(1:Int) < way:=by omega
   have g2:¬ (way:Int)=0:=by omega
   have g3:(0:Int) < 2+way:=by omega
   have g4:(2:Int)+way < 1000000:=by omega
   have g5:1 < way:=by omega
   by_cases ht:tk f (2+way)=0
   ·refine ⟨tf f (2+way),M++[(wd,q)],by simp,?_⟩
    rw [<- app]
    simp [g1,g2,g3,g4,h0,g5,ht,s1,ZL]
   ·refine ⟨tf f (2+way),M,by omega,?_⟩
    simp [g1,g2,g3,g4,h0,g5,ht]
theorem G0 {p:List Pt} {bs ws:List Str} (hg:GoodP 300 bs ws p) (hw5:ws.length<=5) (f:Fd):∃ (M:List Mn) (f':Fd),M.length<=100000/\∀ (h:MH) (n:Nat),h[n]?=some (Qz f)->ZM [Jz p,.ref n] h=some (.lst (M.map ZL),h.set n (Qz f')):=by
 have hlen:=hg.len
 have hne:=hg.ne
 obtain ⟨Wd,hWd,eWd⟩:=Qcr hg hw5
 have loop:=ZT (items:=JY (p.map Ve)) (b:=Va [3,4]) (body:=JE) (fun n σ h=>∃ (D:List Pl) (x3 x4:Option W),σ=mS p x3 x4 none none none none none none/\h=[Qz f,.lst (D.map Zz)]/\D.length<=301*n/\(0 < n->D≠[]))
  (JY (p.map Ve)) 0 (mS p none none none none none none none none) [Qz f,.lst []] ⟨[],none,none,rfl,rfl,by simp,by simp⟩ (by
   rintro j w hj σ h ⟨D,x3,x4,rfl,rfl,h1,h2⟩
   unfold JY at hj
   rw [List.getElem?_map,List.getElem?_zipIdx,List.getElem?_map] at hj
   obtain ⟨q,hq,rfl⟩:=Option.map_eq_some_iff.mp hj
   obtain ⟨y,hy,rfl⟩:=Option.map_eq_some_iff.mp hq
   obtain ⟨x,hx,rfl⟩:=Option.map_eq_some_iff.mp hy
   have hjl:=(List.getElem?_eq_some_iff.mp hx).1
   have hsz:=hg.sz x (List.mem_iff_getElem?.mpr ⟨j,hx⟩)
   rw [Nat.zero_add] at *
   exact ⟨mS p (some (.int j)) (some (Ve x)) none none none none none none,rfl,_,_,.inl (WM hsz (by omega) (by omega)),_,_,_,rfl,rfl,by simp;omega,fun _=>by simp⟩)
 obtain ⟨σ',h',e1,D,x3,x4,rfl,rfl,hD,hDne⟩:=loop
 have hel:(JY (p.map Ve)).length=p.length:=by simp [JY]
 rw [hel,Nat.zero_add] at hD hDne
 have hpos:0 < p.length:=List.length_pos_iff.mpr hne
 have hD0:0 < D.length:=List.length_pos_iff.mpr (hDne hpos)
 obtain ⟨a0,a1⟩:=Xe (f:=f) (m:=6) (by decide)
 obtain ⟨way,hway⟩:=GX a0
 have hway5:way<=5:=by omega
 obtain ⟨b0,b1⟩:=Xe (f:=tf f 6) (m:=D.length) (by omega)
 obtain ⟨ix,hix⟩:=GX b0
 have hixl:ix < D.length:=by omega
 have eone:atI (D.map Zz) (ix:Int)=some (Zz D[ix]):=by rw [Q6,List.getElem?_map,List.getElem?_eq_getElem hixl];rfl
 generalize D[ix]=one at eone
 have loop2:=ZT (items:=Wd.map .str) (b:=Jy 9) (body:=Vs) (fun n σ h=>∃ (f:Fd) (M:List Mn) (x9 x10:Option W),σ=mS p x3 x4 (some (.lst (Wd.map .str))) (some (.int way)) (some (Zz one)) (some (.ref 2)) x9 x10/\h=[Qz f,.lst (D.map Zz),.lst (M.map ZL)]/\M.length<=D.length*n)
  (Wd.map .str) 0 (mS p x3 x4 (some (.lst (Wd.map .str))) (some (.int way)) (some (Zz one)) (some (.ref 2)) none none) [Qz (tf (tf f 6) D.length),.lst (D.map Zz),.lst []] ⟨_,[],none,none,rfl,rfl,by simp⟩ (by
   rintro j w hj σ h ⟨f1,M,x9,x10,rfl,rfl,hM⟩
   rw [List.getElem?_map] at hj
   obtain ⟨wd,hwd,rfl⟩:=Option.map_eq_some_iff.mp hj
   have hjl:=(List.getElem?_eq_some_iff.mp hwd).1
   rw [Nat.zero_add] at *
   refine ⟨mS p x3 x4 (some (.lst (Wd.map .str))) (some (.int way)) (some (Zz one)) (some (.ref 2)) (some (.str wd)) x10,rfl,?_⟩
   have hb:D.length*j<=1505*62:=Nat.mul_le_mul (by omega) (by omega)
   have inner:=U7 (items:=D.map Zz) (src:=some 1) (b:=Jy 10) (body:=ZO) (fun n σ h=>∃ (f:Fd) (M':List Mn) (x10:Option W),σ=mS p x3 x4 (some (.lst (Wd.map .str))) (some (.int way)) (some (Zz one)) (some (.ref 2)) (some (.str wd)) x10/\h=[Qz f,.lst (D.map Zz),.lst (M'.map ZL)]/\M'.length<=M.length+n)
    (by rintro n σ h ⟨f,M',x10,rfl,rfl,_⟩ k hk;cases hk;rfl)
    (D.map Zz) 0 (mS p x3 x4 (some (.lst (Wd.map .str))) (some (.int way)) (some (Zz one)) (some (.ref 2)) (some (.str wd)) x10) [Qz f1,.lst (D.map Zz),.lst (M.map ZL)] ⟨f1,M,x10,rfl,rfl,by omega⟩ (by
     rintro i w hi σ h ⟨f2,M2,x10',rfl,rfl,hM2⟩
     rw [List.getElem?_map] at hi
     obtain ⟨q,hq,rfl⟩:=Option.map_eq_some_iff.mp hi
     have hil:=(List.getElem?_eq_some_iff.mp hq).1
     obtain ⟨f3,M3,l3,e3⟩:=Qaj (p:=p) (f:=f2) (PL:=D) (M:=M2) (way:=way) (one:=one) (q:=q) (wd:=wd) (x3:=x3) (x4:=x4) (x5:=some (.lst (Wd.map .str))) hway5 (by omega)
     exact ⟨mS p x3 x4 (some (.lst (Wd.map .str))) (some (.int way)) (some (Zz one)) (some (.ref 2)) (some (.str wd)) (some (Zz q)),rfl,_,_,.inl e3,f3,M3,_,rfl,rfl,by omega⟩)
   obtain ⟨σ2,h2,e2,f2,M2,y10,rfl,rfl,l2⟩:=inner
   rw [List.length_map,Nat.zero_add] at l2
   refine ⟨_,_,.inl ?_,f2,M2,some (.str wd),y10,rfl,rfl,by rw [Nat.mul_add];omega⟩
   have ei:∀ x10 (h:MH),h[1]?=some (.lst (D.map Zz))->QY (Qg 2) (mS p x3 x4 (some (.lst (Wd.map .str))) (some (.int way)) (some (Zz one)) (some (.ref 2)) (some (.str wd)) x10) h=some (D.map Zz,some 1,h):=fun _ h he=>by
    unfold QY Qg
    simp [XE,he]
   show VM (QY (Qg 2)) (Jy 10) ZO _ _=_
   unfold VM
   rw [ei _ _ rfl,Option.bind_some]
   exact e2)
 obtain ⟨σ3,h3,e3,f3,M,x9,x10,rfl,rfl,hM⟩:=loop2
 rw [List.length_map,Nat.zero_add] at hM
 have hb:D.length*Wd.length<=1505*63:=Nat.mul_le_mul (by omega) (by omega)
 refine ⟨M,f3,by omega,fun h n hn=>?_⟩
 refine Qiu (j:=1) (g:=[.lst (D.map Zz),.lst (M.map ZL)]) (as:=[Jz p,.ref 0]) (by simp [V6,Jz]) hn ?_ rfl Qhi
 have ei:UP (Qc (Qg 0) Ql) (mS p none none none none none none none none) [Qz f,.lst []]=some (JY (p.map Ve),none,[Qz f,.lst []]):=by
  unfold UP;simp [Jz]
 have g1:(0:Int) < D.length:=by omega
 have g2:(D.length:Int) < 1000000:=by omega
 have et:=UZ (f:=tf f 6) (m:=D.length) (h:=[Qz (tf f 6),.lst (D.map Zz)]) (n:=0) g1 g2 rfl
 have ei2:∀ x9 x10 (h:MH),QY (Qg 5) (mS p x3 x4 (some (.lst (Wd.map .str))) (some (.int way)) (some (Zz one)) (some (.ref 2)) x9 x10) h=some (Wd.map .str,none,h):=fun _ _ _=>rfl
 simp only [mS] at ei e1 ei2 e3
 simp [JL,Zo,VM,ei,e1,eWd,hway,hix,et,eone,ei2,e3]
end My

namespace My6
section
variable {α:Type} [DecidableEq α]
noncomputable def upU (U:List (α×Nat)) (w:α) (c:Nat):List (α×Nat):=match U with
 | []=>[(w,c)]
 | (v,d)::r=>if v=w then (v,c)::r else (v,d)::upU r w c
noncomputable def cnt (U:List (α×Nat)) (w:α):Nat:=match U with
 | []=>0
 | (v,d)::r=>if v=w then d else cnt r w
noncomputable def tot (U:List (α×Nat)):Nat:=(U.map (·.2)).sum
theorem Yg:∀ (U:List (α×Nat)) (w:α) (c:Nat) (v:α),v∈(upU U w c).map (·.1) ↔ v=w\/v∈U.map (·.1)
 | [],w,c,v=>by simp [upU]
 | (x,d)::r,w,c,v=>by
  unfold upU
  split
  ·rename_i h;subst h;simp
  ·have:=Yg r w c v
   simp only [List.map_cons,List.mem_cons,this]
   constructor
   ·rintro (h | h | h)
    ·exact .inr (.inl h)
    ·exact .inl h
    ·exact .inr (.inr h)
   ·rintro (h | h | h)
    ·exact .inr (.inl h)
    ·exact .inl h
    ·exact .inr (.inr h)
theorem Qey:∀ (U:List (α×Nat)) (w:α) (c:Nat),(U.map (·.1)).Nodup->((upU U w c).map (·.1)).Nodup
 | [],w,c,_=>by simp [upU]
 | (x,d)::r,w,c,h=>by
  rw [List.map_cons,List.nodup_cons] at h
  unfold upU
  split
  ·rw [List.map_cons,List.nodup_cons];exact h
  ·rename_i hx
   rw [List.map_cons,List.nodup_cons]
   refine ⟨fun q=>?_,Qey r w c h.2⟩
   rcases (Yg r w c x).mp q with z | z
   ·exact hx z
   ·exact h.1 z
theorem QaR:∀ (U:List (α×Nat)) (w:α) (c:Nat) (v:α),cnt (upU U w c) v=if w=v then c else cnt U v
 | [],w,c,v=>by simp [upU,cnt]
 | (x,d)::r,w,c,v=>by
  unfold upU
  split
  ·rename_i h
   subst h
   simp only [cnt]
   split<;>rfl
  ·rename_i h
   simp only [cnt,QaR r w c v]
   by_cases hv:x=v
   ·subst hv
    rw [if_pos rfl,if_pos rfl,if_neg (fun z=>h z.symm)]
   ·rw [if_neg hv,if_neg hv]
theorem QdI:∀ (U:List (α×Nat)) (w:α),0 < cnt U w->w∈U.map (·.1)
 | [],w,h=>by simp [cnt] at h
 | (x,d)::r,w,h=>by
  unfold cnt at h
  split at h
  ·rename_i e;simp [e]
  ·simp only [List.map_cons,List.mem_cons];exact .inr (QdI r w h)
structure Of (U:List (α×Nat)) (al:List α):Prop where
 nd:(U.map (·.1)).Nodup
 is:∀ w,cnt U w=al.count w
theorem QdS:∀ (U:List (α×Nat)) (al:List α),(U.map (·.1)).Nodup->(∀ w∈U.map (·.1),cnt U w=al.count w)->(∀ w∈al,w∈U.map (·.1))->tot U=al.length
 | [],al,_,_,h=>by
  cases al with
  | nil=>rfl
  | cons x r=>exact absurd (h x List.mem_cons_self) (by simp)
 | (x,d)::r,al,hn,hc,h=>by
  rw [List.map_cons,List.nodup_cons] at hn
  have hd:d=al.count x:=by have:=hc x (by simp);simpa [cnt] using this
  have ih:=QdS r (al.filter (·≠x)) hn.2 (fun w hw=>by
   have hx:x≠w:=fun z=>hn.1 (by rw [z];exact hw)
   have:=hc w (by simp only [List.map_cons,List.mem_cons];exact .inr hw)
   unfold cnt at this
   rw [if_neg hx] at this
   rw [this,List.count_filter (by simpa using fun z=>hx z.symm)]) (fun w hw=>by
   rw [List.mem_filter] at hw
   have:=h w hw.1
   simp only [List.map_cons,List.mem_cons] at this
   rcases this with z | z
   ·exact absurd z (by simpa using hw.2)
   ·exact z)
  have e:tot ((x,d)::r)=d+tot r:=by simp [tot]
  rw [e,ih,hd]
  clear ih e hc h hn hd
  induction al with
  | nil=>rfl
  | cons y al ih=>
   by_cases hy:y=x
   ·subst hy;simp at ih ⊢;omega
   ·simp [hy,List.count_cons] at ih ⊢;omega
theorem Of.tot {U:List (α×Nat)} {al:List α} (h:Of U al):tot U=al.length:=QdS U al h.nd (fun w _=>h.is w) fun w hw=>QdI U w (by rw [h.is];exact List.count_pos_iff.mpr hw)
theorem Of.nil:Of ([]:List (α×Nat)) []:=⟨by simp,fun w=>by simp [cnt]⟩
theorem Of.add {U:List (α×Nat)} {al:List α} (h:Of U al) (w:α):Of (upU U w (cnt U w+1)) (al++[w]):=by
 refine ⟨Qey U w _ h.nd,fun v=>?_⟩
 rw [QaR,List.count_append,h.is,h.is]
 by_cases e:w=v
 ·subst e;simp
 ·rw [if_neg e];simp [e]
theorem Of.zero {U:List (α×Nat)} {al:List α} (h:Of U al) (w:α):Of (upU U w 0) (al.filter (·≠w)):=by
 refine ⟨Qey U w _ h.nd,fun v=>?_⟩
 rw [QaR,h.is]
 by_cases e:w=v
 ·subst e
  rw [if_pos rfl]
  symm
  rw [List.count_eq_zero]
  simp
 ·rw [if_neg e,List.count_filter (by simpa using fun z=>e z.symm)]
end
end My6

namespace My
open PySem PySem.Spec PyProof.Rows L2 Mi My3 My4 My6
theorem YN {fin:List W->MH->Option (W×MH)} {items:List W} {src:Option Nat} {b:MG} {mt:MT} {me:ME} {h:MH} (hlv:live src items h) (P:MSt->Prop) (g:W->Bool) (f:W->W):∀ (rest acc:List W) (τ:MSt),P τ->(∀ w∈rest,∀ τ,P τ->∃ τ1,b w τ h=some τ1/\P τ1/\mt τ1 h=some (g w,h)/\(g w=true->me τ1 h=some (f w,h)))->acc.length+rest.length<=sizeLine->ZK fin items src b mt me rest acc τ h=fin (acc++(rest.filter g).map f) h
 | [],acc,τ,_,_,_=>by unfold ZK;rw [if_pos hlv];simp
 | w::rest,acc,τ,hp,hs,hl=>by
  have hl':acc.length+(rest.length+1)<=sizeLine:=by simpa using hl
  obtain ⟨τ1,e1,p1,e2,e3⟩:=hs w List.mem_cons_self τ hp
  unfold ZK
  rw [if_pos hlv,e1,Option.bind_some,e2,Option.bind_some]
  cases hg:g w with
  | true=>
   simp only [e3 hg,Option.bind_some]
   rw [if_pos (by omega),YN hlv P g f rest (acc++[f w]) τ1 p1 (fun x hx=>hs x (List.mem_cons_of_mem _ hx)) (by simp;omega)]
   simp [hg]
  | false=>
   simp only
   rw [YN hlv P g f rest acc τ1 p1 (fun x hx=>hs x (List.mem_cons_of_mem _ hx)) (by omega)]
   simp [hg]
theorem Qbg {fin:List W->MH->Option (W×MH)} {mi:MI} {cp:List (Option Nat)} {b:MG} {mt:MT} {me:ME} {σ:MSt} {h:MH} {items:List W} {src:Option Nat} (P:MSt->Prop) (g:W->Bool) (f:W->W) (hi:mi σ h=some (items,src,h)) (hlv:live src items h) (hc:P (QcZ cp σ)) (hs:∀ w∈items,∀ τ,P τ->∃ τ1,b w τ h=some τ1/\P τ1/\mt τ1 h=some (g w,h)/\(g w=true->me τ1 h=some (f w,h))) (hl:items.length<=sizeLine):Zw fin mi cp b mt me σ h=fin ((items.filter g).map f) h:=by
 unfold Zw
 rw [hi,Option.bind_some,YN hlv P g f items [] _ hc hs (by simpa using hl)]
 simp
noncomputable def wdL (l:Ln):Option Str:=match l with
 | [x,_,w,_,_]=>if x="pair" then some w else none
 | _=>none
noncomputable def mdS (p:List Pt) (s:Spt):Option Str:=if s.head=true then none else (p[s.part]?).bind fun x=>(x.2[s.k]?).bind wdL
noncomputable def YD:Option Str->W
 | some w=>.str w
 | none=>.non
@[simp] theorem Qk6 {o:Option Str}:pur (YD o)=true:=by cases o<;>simp [YD]
theorem Qbw {bs ws la:List Str} {y:Str} {r:List Str} (h:LineOk bs ws la (y::r)) (hy:¬ y="pair"):wdL (y::r)=none:=by
 unfold wdL
 split
 ·rename_i a b c d e he
  cases he
  rw [if_neg hy]
 ·rfl
theorem QdY {bs ws la:List Str} {r:List Str} (h:LineOk bs ws la ("pair"::r)):∃ x w y z:Str,r=[x,w,y,z]:=by
 obtain ⟨x,w,y,z,e,_⟩:=Xc h (by simp [QV,pW])
 injection e with _ e
 exact ⟨x,w,y,z,e⟩
noncomputable def gn (M:List Mn) (s:Spt):List Str:=if s.head=true then [] else (M.filter fun m=>m.2=(s.part,s.k)).map (·.1)
theorem Qew {p:List Pt} {N:Nat} {bs ws:List Str} {s:Spt} {h:MH} (hg:GoodP N bs ws p) (hs:SV p s):Zx [Jz p,QG s] h=some (YD (mdS p s),h):=by
 obtain ⟨way,part,k,head⟩:=s
 obtain ⟨x,hx,hk,_⟩:=hs.ex
 simp only at hx hk
 have ep:=Xp hx
 refine Z4 (g:=[]) (by simp) ?_ (by simp)
 unfold mdS
 simp only [hx,Option.bind_some]
 cases head with
 | true=>simp [ZE,Zo,QG,ep,YD]
 | false=>
  by_cases hl:k=x.2.length
  ·have e0:x.2[k]?=none:=by rw [hl];simp
   have n1:¬ k < x.2.length:=by omega
   simp [ZE,Zo,QG,ep,e0,n1,YD]
  ·have hkl:k < x.2.length:=by omega
   obtain ⟨l,hl'⟩:∃ l,x.2[k]?=some l:=⟨x.2[k],List.getElem?_eq_getElem hkl⟩
   have hok:=hg.ok part x hx l (List.mem_iff_getElem?.mpr ⟨k,hl'⟩)
   obtain ⟨y,r,rfl⟩:=Vj hok
   have el:=QcA hl'
   rw [hl',Option.bind_some]
   by_cases hy:y="pair"
   ·subst hy
    obtain ⟨a,w,b,c,rfl⟩:=QdY hok
    have e2:∀ h,wIx (QV ["pair",a,w,b,c]) (.int 2) h=some (.str w,h):=fun h=>by simp [QV]
    simp [ZE,Zo,QG,ep,hkl,el,e2,wdL,YD]
   ·have:=Qbw hok hy
    simp [ZE,Zo,QG,ep,hkl,el,hy,this,YD]
theorem Qdg {M:List Mn} {s:Spt} {h:MH} (hM:M.length<=100000):Ze [.lst (M.map ZL),QG s] h=some (.lst ((gn M s).map .str),h):=by
 obtain ⟨way,part,k,head⟩:=s
 refine Z4 (g:=[]) (by simp) ?_ (by simp)
 unfold gn
 cases head with
 | true=>simp [Jm,Zo,QG]
 | false=>
  have ec:=Qbg (fin:=Vu) (mi:=QY (Qg 0)) (cp:=[none,none,some 1]) (b:=Va [0,1]) (mt:=QA (Qm wEq (Qg 1) (mSl (Qg 2) (Kf (mC (.int 1))) (Kf (mC (.int 3)))))) (me:=Qg 0) (σ:=[some (.lst (M.map ZL)),some (QG ⟨way,part,k,false⟩)]) (h:=[]) (items:=M.map ZL) (src:=none)
   (fun τ=>∃ a b,τ=[a,b,some (QG ⟨way,part,k,false⟩)]) (fun w=>match w with | .tup [_,q]=>eqW q (Zz (part,k)) | _=>false) QeK rfl (Zl _ _) ⟨_,_,rfl⟩ (fun w hw τ ⟨a,b,hτ⟩=>by
    subst hτ
    obtain ⟨m,hm,rfl⟩:=List.mem_map.mp hw
    refine ⟨[some (.str m.1),some (Zz m.2),some (QG ⟨way,part,k,false⟩)],rfl,⟨_,_,rfl⟩,?_,fun _=>by simp [ZL,QeK]⟩
    have e1:∀ h,wEq (Zz m.2) (.tup [.int part,.int k]) h=some (.bl (eqW (Zz m.2) (Zz (part,k))),h):=fun h=>QkE QcF (QcF (q:=(part,k))) (Nat.le_trans QcB (by decide)) (Nat.le_trans (QcB (q:=(part,k))) (by decide))
    simp [QG,ZL,Gj,HT.sIx,e1]) (by simp;exact Xi (by omega))
  have e2:((M.map ZL).filter (fun w=>match w with | .tup [_,q]=>eqW q (Zz (part,k)) | _=>false)).map QeK=((M.filter fun m=>m.2=(part,k)).map (·.1)).map W.str:=by
   clear ec hM
   induction M with
   | nil=>rfl
   | cons m M ih=>
    have hq:eqW (Zz m.2) (Zz (part,k))=decide (m.2=(part,k)):=by
     obtain ⟨w,a,b⟩:=m
     rw [Bool.eq_iff_iff]
     simp [Zz,eqW,Ks]
     omega
    rw [List.map_cons,List.filter_cons,List.filter_cons]
    simp only [ZL,hq] at ih ⊢
    by_cases hh:m.2=(part,k)
    ·simp [hh] at ih ⊢;exact ⟨rfl,ih⟩
    ·simp [hh] at ih ⊢;exact ih
  rw [e2] at ec
  simp only [Vu] at ec
  simp [Jm,Zo,QG] at ec ⊢
  rw [ec]
  rfl
structure Rm where
 w:Str
 s:Spt
 b:Bool
noncomputable def rO (r:Rm):MO:=.lst [.str r.w,QG r.s,.bl r.b]
noncomputable def r0:Rm:=⟨"",⟨[],0,0,false⟩,false⟩
noncomputable def gt (R:List Rm) (i:Nat):Rm:=R.getD i r0
noncomputable def ixs (R:List Rm):List Nat:=(List.range R.length).filter fun i=>(gt R i).b
noncomputable def kil (gone:List Str) (r:Rm):Rm:={ r with b:=decide (r.w∉gone) }
noncomputable def fin (gone:List Str) (r:Rm):Rm:=if r.b=true then kil gone r else r
noncomputable def UE (R:List Rm):List Str:=(R.filter (·.b)).map (·.w)
theorem Qbt (R:List Rm):(List.range R.length).map (gt R)=R:=by
 apply List.ext_getElem
 ·simp
 ·intro i h1 h2
  simp [gt,h2]
theorem QeU (R:List Rm):(ixs R).map (gt R)=R.filter (·.b):=by
 conv=>rhs;rw [<- Qbt R]
 unfold ixs
 rw [List.filter_map]
 rfl
theorem Qar (R:List Rm):UE R=(ixs R).map fun i=>(gt R i).w:=by
 unfold UE
 rw [<- QeU,List.map_map]
 rfl
theorem Wu {R:List Rm} {i:Nat} (h:i∈ixs R):i < R.length:=by
 unfold ixs at h
 rw [List.mem_filter,List.mem_range] at h
 exact h.1
theorem Qha {R:List Rm} {i:Nat} (h:i < R.length):i∈ixs R ↔ (gt R i).b=true:=by
 unfold ixs
 rw [List.mem_filter,List.mem_range]
 exact ⟨fun z=>z.2,fun z=>⟨h,z⟩⟩
theorem QgK (R:List Rm):(ixs R).Nodup:=List.Nodup.sublist List.filter_sublist List.nodup_range
noncomputable def GY (gone:List Str) (R:List Rm) (is:List Nat):List Rm:=(List.range R.length).map fun i=>if i∈is then kil gone (gt R i) else gt R i
theorem Qdi {gone:List Str} {R:List Rm}:GY gone R []=R:=by
 unfold GY
 simp only [List.not_mem_nil,if_false]
 exact Qbt R
theorem Yv {gone:List Str} {R:List Rm} {is:List Nat}:(GY gone R is).length=R.length:=by simp [GY]
theorem WS {gone:List Str} {R:List Rm} {is:List Nat} {i:Nat} (h:i < R.length):(GY gone R is)[i]?=some (if i∈is then kil gone (gt R i) else gt R i):=by
 unfold GY
 rw [List.getElem?_map,List.getElem?_range h]
 rfl
theorem Qc6 {gone:List Str} {R:List Rm} {is:List Nat} {i:Nat} (h:i < R.length):(GY gone R is).set i (kil gone (gt R i))=GY gone R (is++[i]):=by
 apply List.ext_getElem?
 intro j
 by_cases hj:j < R.length
 ·rw [List.getElem?_set,WS hj,WS hj,Yv]
  by_cases hij:i=j
  ·subst hij;simp [h]
  ·simp [hij,Ne.symm hij]
 ·rw [List.getElem?_eq_none (by simp [Yv];omega),List.getElem?_eq_none (by simp [Yv];omega)]
theorem Qb5 {gone:List Str} {R:List Rm}:GY gone R (ixs R)=R.map (fin gone):=by
 conv=>rhs;rw [<- Qbt R]
 unfold GY
 rw [List.map_map]
 refine List.map_congr_left fun i hi=>?_
 have:=Qha (List.mem_range.mp hi)
 show _=fin gone (gt R i)
 unfold fin
 by_cases hb:(gt R i).b=true
 ·rw [if_pos hb,if_pos (this.mpr hb)]
 ·rw [if_neg hb,if_neg (fun z=>hb (this.mp z))]
theorem Qcu {gone:List Str} {R:List Rm}:UE (R.map (fin gone))=(UE R).filter (·∉gone):=by
 unfold UE
 induction R with
 | nil=>rfl
 | cons r R ih=>
  rw [List.map_cons,List.filter_cons,List.filter_cons]
  by_cases hb:r.b=true
  ·by_cases hg:r.w∈gone
   ·simp [fin,kil,hb,hg] at ih ⊢;exact ih
   ·simp [fin,kil,hb,hg] at ih ⊢;exact ih
  ·simp [fin,hb] at ih ⊢;exact ih
noncomputable def liv (gone:List Str) (R:List Rm):List Nat:=(ixs R).filter fun i=>decide ((gt R i).w∉gone)
theorem Qfj {gone:List Str} {R:List Rm}:(liv gone R).length=((UE R).filter (·∉gone)).length:=by
 unfold liv
 rw [Qar,List.filter_map,List.length_map]
 rfl
theorem Qcx {R:List Rm}:(ixs R).length=(UE R).length:=by rw [Qar,List.length_map]
theorem Qa5 {R:List Rm} {w:Str} {s:Spt}:UE (R++[⟨w,s,true⟩])=UE R++[w]:=by simp [UE]
noncomputable abbrev rf (i:Nat):W:=.ref (i+2)
noncomputable abbrev Rc:=List Nat×List Nat
noncomputable def Yx (c:Rc):W:=.tup [.lst (c.1.map rf),.lst (c.2.map rf)]
noncomputable def hk (R:List Rm) (F:List Rc):MH:=.lst ((List.range R.length).map rf)::.lst (F.map Yx)::R.map rO
theorem QeL {R:List Rm} {F:List Rc} {i:Nat} {r:Rm} (h:R[i]?=some r):(hk R F)[i+2]?=some (rO r):=by
 show (R.map rO)[i]?=_
 rw [List.getElem?_map,h];rfl
theorem Qf6 {R:List Rm} {i:Nat} (h:i < R.length):R[i]?=some (gt R i):=by
 rw [List.getElem?_eq_getElem h]
 simp [gt,h]
noncomputable abbrev kS (p:List Pt) (mn rn:W) (x5 x6 x7 x8 x9:Option W):MSt:=[some (Jz p),some mn,some rn,some (.ref 0),some (.ref 1),x5,x6,x7,x8,x9]
theorem inL {g:Bool} {x:Str} {l:List Str} {h:MH}:wIn g (.str x) (.lst (l.map .str)) h=some (.bl (if g=true then !decide (x∈l) else decide (x∈l)),h):=by
 rw [QgA rfl V9 (by simp [dep]) (Nat.le_trans Ga (by decide))]
 have:inW (.str x) (l.map .str)=decide (x∈l):=by
  induction l with
  | nil=>rfl
  | cons y l ih=>
   unfold inW at ih ⊢
   rw [List.map_cons,List.any_cons,ih]
   show ((y == x) || _)=_
   by_cases e:y=x
   ·subst e;simp
   ·have e':¬ x=y:=fun z=>e z.symm
    rw [show (y == x)=false from beq_eq_false_iff_ne.mpr e,Bool.false_or,Bool.eq_iff_iff,decide_eq_true_eq,decide_eq_true_eq,List.mem_cons]
    exact ⟨.inr,fun z=>z.elim (fun q=>absurd q e') id⟩
 rw [this]
theorem QaV {p:List Pt} {mn rn:W} {x5 x7 x9:Option W} {gone:List Str} {R:List Rm} {F:List Rc} {i:Nat} {r:Rm} (hi:R[i]?=some r) :
  Jk (kS p mn rn x5 (some (.lst (gone.map .str))) x7 (some (rf i)) x9) (hk R F)=some (.nx (kS p mn rn x5 (some (.lst (gone.map .str))) x7 (some (rf i)) x9) (hk (R.set i (kil gone r)) F)):=by
 have e1:=QeL (F:=F) hi
 have e2:(hk R F).set (i+2) (.lst [.str r.w,QG r.s,.bl (!decide (r.w∈gone))])=hk (R.set i (kil gone r)) F:=by
  show _::_::(R.map rO).set i _=_
  unfold hk
  rw [List.length_set,List.map_set]
  simp [rO,kil]
 simp [e1,rO,inL,ixN,e2]
theorem QaU {p:List Pt} {mn rn:W} {x5 x8' x9:Option W} {gone:List Str} {R:List Rm} {F:List Rc} :
  ∃ x8,VA ((ixs R).map rf) none (Jy 8) Jk ((ixs R).map rf) (kS p mn rn x5 (some (.lst (gone.map .str))) (some (.lst ((ixs R).map rf))) x8' x9) (hk R F)=some (.nx (kS p mn rn x5 (some (.lst (gone.map .str))) (some (.lst ((ixs R).map rf))) x8 x9) (hk (R.map (fin gone)) F)):=by
 have loop:=ZT (items:=(ixs R).map rf) (b:=Jy 8) (body:=Jk) (fun n σ h=>∃ x8,σ=kS p mn rn x5 (some (.lst (gone.map .str))) (some (.lst ((ixs R).map rf))) x8 x9/\h=hk (GY gone R ((ixs R).take n)) F)
  ((ixs R).map rf) 0 (kS p mn rn x5 (some (.lst (gone.map .str))) (some (.lst ((ixs R).map rf))) x8' x9) (hk R F) ⟨x8',rfl,by rw [List.take_zero,Qdi]⟩ (by
   rintro j w hj σ h ⟨x8,rfl,rfl⟩
   rw [List.getElem?_map] at hj
   obtain ⟨i,hi,rfl⟩:=Option.map_eq_some_iff.mp hj
   obtain ⟨hjl,hie⟩:=List.getElem?_eq_some_iff.mp hi
   have him:i∈ixs R:=List.mem_iff_getElem?.mpr ⟨j,hi⟩
   have hil:=Wu him
   rw [Nat.zero_add]
   have hnot:i∉(ixs R).take j:=by
    intro z
    obtain ⟨k,hk,e⟩:=List.mem_iff_getElem.mp z
    rw [List.length_take] at hk
    rw [List.getElem_take] at e
    have:=(List.getElem_inj (QgK R)).mp (e.trans hie.symm)
    omega
   have hat:(GY gone R ((ixs R).take j))[i]?=some (gt R i):=by rw [WS hil,if_neg hnot]
   refine ⟨_,rfl,_,_,.inl (QaV hat),some (rf i),rfl,?_⟩
   rw [Qc6 hil,List.take_succ,hi]
   rfl)
 obtain ⟨σ',h',e,x8,rfl,rfl⟩:=loop
 rw [List.length_map,Nat.zero_add,List.take_length,Qb5] at e
 exact ⟨x8,e⟩
noncomputable def gB (R:List Rm):W->Bool
 | .ref n=>(gt R (n - 2)).b
 | _=>false
theorem Y9 {R:List Rm} {F:List Rc} {mi:MI} {σ:MSt} {is:List Nat} {src:Option Nat} (hi:mi σ (hk R F)=some (is.map rf,src,hk R F)) (hlv:live src (is.map rf) (hk R F)) (hm:∀ i∈is,i < R.length) (hl:is.length<=sizeLine) :
  Zw Vu mi [none] (Jy 0) (WJ (Qm wIx (Qg 0) (mC (.int 2)))) (Qg 0) σ (hk R F)=some (.lst ((is.filter fun i=>(gt R i).b).map rf),hk R F):=by
 have ec:=Qbg (fin:=Vu) (mi:=mi) (cp:=[none]) (b:=Jy 0) (mt:=WJ (Qm wIx (Qg 0) (mC (.int 2)))) (me:=Qg 0) (σ:=σ) (h:=hk R F) (items:=is.map rf) (src:=src) (fun τ=>∃ a,τ=[a]) (gB R) id hi hlv ⟨_,rfl⟩ (fun w hw τ ⟨a,hτ⟩=>by
  subst hτ
  obtain ⟨i,hi,rfl⟩:=List.mem_map.mp hw
  have e:=QeL (F:=F) (Qf6 (hm i hi))
  refine ⟨[some (rf i)],rfl,⟨_,rfl⟩,?_,fun _=>rfl⟩
  simp [e,rO,gB]) (by simpa using hl)
 rw [ec,List.filter_map,List.map_id]
 simp only [Vu]
 rfl
noncomputable def Qcv (R:List Rm) (o:Option Str) (s:Spt):List Rm:=match o with
 | some w=>R++[⟨w,s,true⟩]
 | none=>R
theorem Qcl {R:List Rm} {o:Option Str} {s:Spt}:UE (Qcv R o s)=UE R++o.toList:=by
 cases o with
 | none=>simp [Qcv]
 | some w=>simp [Qcv,Qa5]
theorem Qca {R:List Rm} {o:Option Str} {s:Spt}:R.length<=(Qcv R o s).length/\(Qcv R o s).length<=R.length+1:=by
 cases o<;>simp [Qcv]
theorem QgM {gone:List Str} {R:List Rm} {i:Nat} (h:i < R.length):gt (R.map (fin gone)) i=fin gone (gt R i):=by simp [gt,h]
theorem QcW {gone:List Str} {R:List Rm}:((ixs R).filter fun i=>(gt (R.map (fin gone)) i).b)=liv gone R:=by
 unfold liv
 refine List.filter_congr fun i hi=>?_
 have hl:=Wu hi
 have hb:=(Qha hl).mp hi
 rw [QgM hl]
 simp [fin,hb,kil]
theorem QcK {R:List Rm} {F:List Rc} {c:Rc}:(hk R F).set 1 (.lst (F.map Yx++[Yx c]))=hk R (F++[c]):=by simp [hk]
theorem G3 {p:List Pt} {N:Nat} {bs ws:List Str} (hg:GoodP N bs ws p) {M:List Mn} {rn:W} {s:Spt} {x6 x7 x8 x9:Option W} {R:List Rm} {F:List Rc} (hM:M.length<=100000) (hs:SV p s) (hR:R.length<=6000000) (hF:F.length<=6000000) :
  ∃ y6 y7 y8 y9,Vd (kS p (.lst (M.map ZL)) rn (some (QG s)) x6 x7 x8 x9) (hk R F)=some (.nx (kS p (.lst (M.map ZL)) rn (some (QG s)) y6 y7 y8 y9) (hk (Qcv (R.map (fin (gn M s))) (mdS p s) s) (F++[(ixs R,liv (gn M s) R)]))):=by
 have eg:∀ h,Ze [.lst (M.map ZL),QG s] h=some (.lst ((gn M s).map .str),h):=fun h=>Qdg hM
 have em:∀ h,Zx [Jz p,QG s] h=some (YD (mdS p s),h):=fun h=>Qew hg hs
 generalize gn M s=gone at *
 generalize mdS p s=o at *
 have s1:R.length < sizeLine:=Nat.lt_of_le_of_lt hR (by decide)
 have s2:F.length < sizeLine:=Nat.lt_of_le_of_lt hF (by decide)
 have hil:(ixs R).length<=R.length:=by have:=List.length_filter_le (fun i=>(gt R i).b) (List.range R.length);simpa [ixs] using this
 have c1:=Y9 (R:=R) (F:=F) (mi:=QY (Qg 3)) (σ:=kS p (.lst (M.map ZL)) rn (some (QG s)) (some (.lst (gone.map .str))) x7 x8 x9) (is:=List.range R.length) (src:=some 0) (by unfold QY Qg;simp [XE,hk]) (fun n hn=>by cases hn;rfl) (fun i hi=>List.mem_range.mp hi) (by simp;omega)
 obtain ⟨y8,e8⟩:=QaU (p:=p) (mn:=.lst (M.map ZL)) (rn:=rn) (x5:=some (QG s)) (x8':=x8) (x9:=x9) (gone:=gone) (R:=R) (F:=F)
 have c2:=Y9 (R:=R.map (fin gone)) (F:=F) (mi:=QY (Qg 7)) (σ:=kS p (.lst (M.map ZL)) rn (some (QG s)) (some (.lst (gone.map .str))) (some (.lst ((ixs R).map rf))) y8 x9) (is:=ixs R) (src:=none) (by unfold QY Qg;simp [XE]) (Zl _ _) (fun i hi=>by simpa using Wu hi) (by omega)
 rw [QcW] at c2
 have c1':((List.range R.length).filter fun i=>(gt R i).b)=ixs R:=rfl
 rw [c1'] at c1
 have ei:∀ x8 (h:MH),QY (Qg 7) (kS p (.lst (M.map ZL)) rn (some (QG s)) (some (.lst (gone.map .str))) (some (.lst ((ixs R).map rf))) x8 x9) h=some ((ixs R).map rf,none,h):=fun _ _=>rfl
 have hf1:∀ R,(hk R F)[1]?=some (.lst (F.map Yx)):=fun R=>rfl
 have hf2:∀ F:List Rc,(hk (R.map (fin gone)) F)[0]?=some (.lst ((List.range (R.map (fin gone)).length).map rf)):=fun F=>rfl
 have fd:=QcK (R:=R.map (fin gone)) (F:=F) (c:=(ixs R,liv gone R))
 simp only [Yx] at fd
 refine ⟨some (.lst (gone.map .str)),some (.lst ((ixs R).map rf)),y8,some (YD o),?_⟩
 simp only [kS] at c1 e8 c2 ei ⊢
 cases o with
 | none=>
  simp [VM,eg,c1,ei,e8,c2,em,hf1,s2,fd,YD,Qcv]
 | some w=>
  simp [VM,eg,c1,ei,e8,c2,em,hf1,s2,fd,YD,Qcv]
  simp [hk,List.range_succ,s1,rO]
noncomputable def GA (M:List Mn) (p:List Pt):List Str->List Spt->List (Nat×Nat)
 | _,[]=>[]
 | al,s::r=>(al.length,(al.filter (·∉gn M s)).length)::GA M p (al.filter (·∉gn M s)++(mdS p s).toList) r
noncomputable def Qed (R:List Rm) (i:Nat):W:=.lst [.str (gt R i).w,QG (gt R i).s,.bl (gt R i).b]
noncomputable def rcV (R:List Rm) (c:Rc):W:=.tup [.lst (c.1.map (Qed R)),.lst (c.2.map (Qed R))]
theorem Qba {R:List Rm} {F:List Rc} {kp:Nat->Option Nat} (hkp:∀ j,kp j=none):∀ (is:List Nat),(∀ i∈is,i < R.length)->ths (res kp (hk R F) 2) (is.map rf)=some (is.map (Qed R))
 | [],_=>rfl
 | i::is,h=>by
  rw [List.map_cons,ths,Qba hkp is fun j hj=>h j (List.mem_cons_of_mem _ hj)]
  have e:=QeL (F:=F) (Qf6 (h i List.mem_cons_self))
  have:th (res kp (hk R F) 2) (rf i)=some (Qed R i):=by
   have hp:ths (res kp (hk R F) 1) [.str (gt R i).w,QG (gt R i).s,.bl (gt R i).b]=some [.str (gt R i).w,QG (gt R i).s,.bl (gt R i).b]:=Z6 _ _ (by simp)
   simp only [rf,th,res,hkp,e,rO,Qed] at hp ⊢
   rw [hp]
   rfl
  rw [this];rfl
theorem QgZ {R:List Rm} {F:List Rc} {kp:Nat->Option Nat} (hkp:∀ j,kp j=none):∀ (G:List Rc),(∀ c∈G,(∀ i∈c.1,i < R.length)/\∀ i∈c.2,i < R.length)->ths (res kp (hk R F) 2) (G.map Yx)=some (G.map (rcV R))
 | [],_=>rfl
 | c::G,h=>by
  rw [List.map_cons,ths,QgZ hkp G fun j hj=>h j (List.mem_cons_of_mem _ hj)]
  obtain ⟨h1,h2⟩:=h c List.mem_cons_self
  have:th (res kp (hk R F) 2) (Yx c)=some (rcV R c):=by
   simp only [Yx,th,ths,Qba hkp c.1 h1,Qba hkp c.2 h2]
   rfl
  rw [this];rfl
theorem QeZ {p:List Pt} {N:Nat} {bs ws:List Str} (hg:GoodP N bs ws p) {M:List Mn} {run:List Spt} (hM:M.length<=100000) (hrun:∀ s∈run,SV p s) (hl:run.length<=5000000) :
  ∃ (R:List Rm) (F:List Rc),F.map (fun c=>(c.1.length,c.2.length))=GA M p [] run/\F.length=run.length/\∀ h:MH,ZZ [Jz p,.lst (M.map ZL),.lst (run.map QG)] h=some (.lst (F.map (rcV R)),h):=by
 have loop:=ZT (items:=run.map QG) (b:=Jy 5) (body:=Vd) (fun n σ h=>∃ (R:List Rm) (F:List Rc) (x5 x6 x7 x8 x9:Option W),σ=kS p (.lst (M.map ZL)) (.lst (run.map QG)) x5 x6 x7 x8 x9/\h=hk R F/\R.length<=n/\F.length=n/\(∀ c∈F,(∀ i∈c.1,i < R.length)/\∀ i∈c.2,i < R.length)/\F.map (fun c=>(c.1.length,c.2.length))++GA M p (UE R) (run.drop n)=GA M p [] run)
  (run.map QG) 0 (kS p (.lst (M.map ZL)) (.lst (run.map QG)) none none none none none) (hk [] []) ⟨[],[],none,none,none,none,none,rfl,rfl,Nat.le_refl _,rfl,by simp,by simp [UE]⟩ (by
   rintro j w hj σ h ⟨R,F,x5,x6,x7,x8,x9,rfl,rfl,hR,hF,hb,hrec⟩
   rw [List.getElem?_map] at hj
   obtain ⟨s,hs,rfl⟩:=Option.map_eq_some_iff.mp hj
   have hjl:=(List.getElem?_eq_some_iff.mp hs).1
   rw [Nat.zero_add] at *
   have hsv:=hrun s (List.mem_iff_getElem?.mpr ⟨j,hs⟩)
   obtain ⟨y6,y7,y8,y9,e⟩:=G3 hg (M:=M) (rn:=.lst (run.map QG)) (s:=s) (x6:=x6) (x7:=x7) (x8:=x8) (x9:=x9) (R:=R) (F:=F) hM hsv (by omega) (by omega)
   obtain ⟨l1,l2⟩:=Qca (R:=R.map (fin (gn M s))) (o:=mdS p s) (s:=s)
   rw [List.length_map] at l1 l2
   refine ⟨_,rfl,_,_,.inl e,_,_,some (QG s),y6,y7,y8,y9,rfl,rfl,by omega,by simp [hF],fun c hc=>?_,?_⟩
   ·rcases List.mem_append.mp hc with hc | hc
    ·exact ⟨fun i hi=>Nat.lt_of_lt_of_le ((hb c hc).1 i hi) l1,fun i hi=>Nat.lt_of_lt_of_le ((hb c hc).2 i hi) l1⟩
    ·rw [List.mem_singleton.mp hc]
     exact ⟨fun i hi=>Nat.lt_of_lt_of_le (Wu hi) l1,fun i hi=>Nat.lt_of_lt_of_le (Wu (List.mem_filter.mp hi).1) l1⟩
   ·rw [<- hrec,List.drop_eq_getElem_cons hjl]
    have hse:run[j]=s:=(List.getElem?_eq_some_iff.mp hs).2
    rw [hse,GA,List.map_append,List.append_assoc,Qcl,Qcu,<- Qfj,<- Qcx]
    rfl)
 obtain ⟨σ',h',e1,R,F,x5,x6,x7,x8,x9,rfl,rfl,hR,hF,hb,hrec⟩:=loop
 rw [List.length_map,Nat.zero_add] at hF hrec
 rw [List.drop_length,GA,List.append_nil] at hrec
 refine ⟨R,F,hrec,hF,fun h=>?_⟩
 have:=V0 (m:=Ja) (args:=[Jz p,.lst (M.map ZL),.lst (run.map QG)]) (as:=[Jz p,.lst (M.map ZL),.lst (run.map QG)]) (ns:=[]) (os:=[]) (os':=[]) (g:=hk R F) (h:=h) (w:=.ref 1) (w':=.lst (F.map (rcV R))) (X9 (by simp)) (by simp) rfl (by
  have ei:∀ (h:MH),QY (Qg 2) (kS p (.lst (M.map ZL)) (.lst (run.map QG)) none none none none none) h=some (run.map QG,none,h):=fun _=>rfl
  simp only [kS,hk] at e1 ei
  simp at e1
  simp [Ja,Zo,VM,ei,e1,hk]) rfl (by simp) (by
  have hkp:∀ j,VX [] [] h.length j=none:=fun j=>by simp [VX]
  show th (res (VX [] [] h.length) (hk R F) 3) (.ref 1)=_
  have h0:(hk R F)[1]?=some (.lst (F.map Yx)):=rfl
  unfold th res
  simp only [hkp 1,h0,QgZ hkp F hb]
  rfl)
 show box frN Ja _ _=_
 simpa using this
noncomputable def trQ (q:Pl):Tr:=.t [.i q.1,.i q.2]
@[simp] theorem GK {q:Pl}:nrm (Zz q)=some (trQ q):=by
 show Ww 8 (.tup [.int q.1,.int q.2])=_
 simp only [Ww,List.mapM_cons,List.mapM_nil]
 rfl
theorem W6 {a b:Pl} (h:trQ a=trQ b):a=b:=by
 unfold trQ at h
 injection h with h
 simp at h
 exact Prod.ext (by have:=h.1;omega) (by have:=h.2;omega)
noncomputable def wa (M:List Mn) (q:Pl):List Str:=(M.filter fun m=>m.2=q).map (·.1)
theorem Ye {M:List Mn} {m:Mn} {q:Pl}:wa (M++[m]) q=if m.2=q then wa M q++[m.1] else wa M q:=by
 unfold wa
 rw [List.filter_append,List.map_append]
 by_cases h:m.2=q<;>simp [h]
noncomputable abbrev Gs:=List (Pl×Nat)
noncomputable def dG (G:Gs):List (W×W):=G.map fun g=>(Zz g.1,.ref (g.2+1))
noncomputable def hG (G:Gs) (Ls:List (List Str)):MH:=.dct (dG G)::Ls.map fun l=>.lst (l.map .str)
theorem QfM {G:Gs} {q:Pl}:Ws (dG G) (trQ q)=(G.find? fun g=>decide (g.1=q)).map fun g=>.ref (g.2+1):=by
 unfold Ws dG
 induction G with
 | nil=>rfl
 | cons g G ih=>
  rw [List.map_cons,List.find?_cons,List.find?_cons]
  by_cases h:g.1=q
  ·simp [h]
  ·have:¬ trQ g.1=trQ q:=fun z=>h (W6 z)
   simp only [GK,Option.some.injEq,this,h,decide_false]
   exact ih
structure WB (M:List Mn) (G:Gs) (Ls:List (List Str)):Prop where
 nk:(G.map (·.1)).Nodup
 ni:(G.map (·.2)).Nodup
 at_:∀ g∈G,Ls[g.2]?=some (wa M g.1)
 all:∀ m∈M,m.2∈G.map (·.1)
theorem QhB {G:Gs} {q:Pl} (hn:(G.map (·.1)).Nodup) {g:Pl×Nat} (hg:g∈G) (hq:g.1=q):(G.find? fun g=>decide (g.1=q))=some g:=by
 induction G with
 | nil=>cases hg
 | cons x G ih=>
  rw [List.map_cons,List.nodup_cons] at hn
  rw [List.find?_cons]
  rcases List.mem_cons.mp hg with rfl | hg
  ·simp [hq]
  ·have:¬ x.1=q:=fun z=>hn.1 (by rw [z,<- hq];exact List.mem_map_of_mem hg)
   simp only [this,decide_false]
   exact ih hn.2 hg
theorem Qd0 {G:Gs} {q:Pl} (h:q∉G.map (·.1)):(G.find? fun g=>decide (g.1=q))=none:=by
 rw [List.find?_eq_none]
 intro g hg
 simp
 exact fun z=>h (by rw [<- z];exact List.mem_map_of_mem hg)
theorem Qec {M:List Mn} {G:Gs} {Ls:List (List Str)} (I:WB M G Ls) {q:Pl} (h:q∉G.map (·.1)):wa M q=[]:=by
 unfold wa
 rw [List.map_eq_nil_iff,List.filter_eq_nil_iff]
 intro m hm
 simp
 exact fun z=>h (by rw [<- z];exact I.all m hm)
theorem WB.step {M:List Mn} {G:Gs} {Ls:List (List Str)} (I:WB M G Ls) (m:Mn) :
  (∃ g∈G,g.1=m.2/\g.2 < Ls.length/\WB (M++[m]) G ((Ls++[[]]).set g.2 (wa M m.2++[m.1]))/\(Ls++[[]])[g.2]?=some (wa M m.2)) \/
  (m.2∉G.map (·.1)/\WB (M++[m]) (G++[(m.2,Ls.length)]) ((Ls++[[]]).set Ls.length [m.1])):=by
 by_cases hk:m.2∈G.map (·.1)
 ·obtain ⟨g,hg,hq⟩:=List.mem_map.mp hk
  have hat:=I.at_ g hg
  have hlt:=(List.getElem?_eq_some_iff.mp hat).1
  refine .inl ⟨g,hg,hq,hlt,⟨I.nk,I.ni,fun x hx=>?_,fun x hx=>?_⟩,by rw [List.getElem?_append_left hlt,hat,hq]⟩
  ·have hx2:=I.at_ x hx
   have hxl:=(List.getElem?_eq_some_iff.mp hx2).1
   by_cases e:x=g
   ·subst e
    rw [List.getElem?_set_self (by simp;omega),Ye,if_pos hq.symm,hq]
   ·have ne:g.2≠x.2:=fun z=>e (by
     obtain ⟨i,hi,ei⟩:=List.mem_iff_getElem.mp hx
     obtain ⟨j,hj,ej⟩:=List.mem_iff_getElem.mp hg
     have:=(List.getElem_inj (i:=i) (j:=j) (h₀:=by simpa using hi) (h₁:=by simpa using hj) I.ni).mp (by simp [ei,ej,z])
     subst this
     rw [<- ei,<- ej])
    have ne1:¬ m.2=x.1:=fun z=>e (by
     obtain ⟨i,hi,ei⟩:=List.mem_iff_getElem.mp hx
     obtain ⟨j,hj,ej⟩:=List.mem_iff_getElem.mp hg
     have:=(List.getElem_inj (i:=i) (j:=j) (h₀:=by simpa using hi) (h₁:=by simpa using hj) I.nk).mp (by simp [ei,ej,<- z,hq])
     subst this
     rw [<- ei,<- ej])
    rw [List.getElem?_set_ne ne,List.getElem?_append_left hxl,hx2,Ye,if_neg ne1]
  ·rcases List.mem_append.mp hx with h | h
   ·exact I.all x h
   ·rw [List.mem_singleton.mp h];exact hk
 ·refine .inr ⟨hk,⟨?_,?_,fun x hx=>?_,fun x hx=>?_⟩⟩
  ·rw [List.map_append,List.nodup_append]
   exact ⟨I.nk,by simp,fun a ha b hb=>by simp at hb;subst hb;exact fun z=>hk (by rw [<- z];exact ha)⟩
  ·rw [List.map_append,List.nodup_append]
   refine ⟨I.ni,by simp,fun a ha b hb=>?_⟩
   simp at hb
   subst hb
   obtain ⟨g,hg,rfl⟩:=List.mem_map.mp ha
   have:=(List.getElem?_eq_some_iff.mp (I.at_ g hg)).1
   omega
  ·rcases List.mem_append.mp hx with h | h
   ·have hx2:=I.at_ x h
    have hxl:=(List.getElem?_eq_some_iff.mp hx2).1
    have ne1:¬ m.2=x.1:=fun z=>hk (by rw [z];exact List.mem_map_of_mem h)
    rw [List.getElem?_set_ne (by omega),List.getElem?_append_left hxl,hx2,Ye,if_neg ne1]
   ·rw [List.mem_singleton.mp h]
    show ((Ls++[[]]).set Ls.length [m.1])[Ls.length]?=some (wa (M++[m]) m.2)
    rw [List.getElem?_set_self (by simp),Ye,if_pos rfl,Qec I hk]
    rfl
  ·rcases List.mem_append.mp hx with h | h
   ·have:=I.all x h;simp at this ⊢;exact .inl this
   ·rw [List.mem_singleton.mp h];simp
noncomputable abbrev yS (mn:W) (x2 x3:Option W):MSt:=[some mn,some (.ref 0),x2,x3]
theorem Qaw {G:Gs} {Ls:List (List Str)}:hG G Ls++[.lst []]=hG G (Ls++[[]]):=by simp [hG]
theorem Qa0 {G:Gs} {Ls:List (List Str)}:(hG G Ls).length=Ls.length+1:=by simp [hG]
theorem QdW {G:Gs} {Ls:List (List Str)} {i:Nat} {l:List Str} {w:Str}:(hG G Ls).set (i+1) (.lst (l.map .str++[.str w]))=hG G (Ls.set i (l++[w])):=by
 simp [hG,List.map_set]
theorem QeQ {G:Gs} {Ls:List (List Str)} {i:Nat} {l:List Str} (h:Ls[i]?=some l):(hG G Ls)[i+1]?=some (.lst (l.map .str)):=by
 show (Ls.map fun l=>MO.lst (l.map .str))[i]?=_
 rw [List.getElem?_map,h];rfl
theorem Gp {mn:W} {M:List Mn} {G:Gs} {Ls:List (List Str)} (I:WB M G Ls) (m:Mn) (hG1:G.length<=100000) (hl:M.length<=100000) :
  ∃ G' Ls',WB (M++[m]) G' Ls'/\G'.length<=G.length+1/\Ls'.length=Ls.length+1/\ZY (yS mn (some (.str m.1)) (some (Zz m.2))) (hG G Ls)=some (.nx (yS mn (some (.str m.1)) (some (Zz m.2))) (hG G' Ls')):=by
 have wl:∀ q,(wa M q).length < sizeLine:=fun q=>Nat.lt_of_le_of_lt (Nat.le_trans (by unfold wa;rw [List.length_map];exact List.length_filter_le _ _) hl) (by decide)
 have e0:∀ G Ls,(hG G Ls)[0]?=some (.dct (dG G)):=fun _ _=>rfl
 have e00:∀ G Ls (h:0 < (hG G Ls).length),(hG G Ls)[0]=.dct (dG G):=fun _ _ _=>rfl
 have ed:∀ G Ls,Qda (hG G Ls) (.ref 0)=some (dG G):=fun _ _=>rfl
 have eN:Ky [] (hG G Ls)=some (.ref (Ls.length+1),hG G (Ls++[[]])):=by
  show some (W.ref (hG G Ls).length,hG G Ls++[.lst []])=_
  rw [Qa0,Qaw]
 rcases I.step m with ⟨g,hg,hq,hlt,I',hat⟩ | ⟨hk,I'⟩
 ·refine ⟨G,_,I',by omega,by simp,?_⟩
  have es:Qfn (.ref 0) [Zz m.2,.ref (Ls.length+1)] (hG G (Ls++[[]]))=some (.ref (g.2+1),hG G (Ls++[[]])):=by
   unfold Qfn
   simp only [ed,GK,Option.bind_some,QfM,QhB I.nk hg hq,Option.map_some]
  have ea:=QeQ (G:=G) hat
  have es2:=QdW (G:=G) (Ls:=Ls++[[]]) (i:=g.2) (l:=wa M m.2) (w:=m.1)
  simp [Qa0,Qaw,es,ea,es2,wl,tyW,e00]
 ·refine ⟨_,_,I',by simp,by simp,?_⟩
  have hz:(dG G).length < sizeLine:=Nat.lt_of_le_of_lt (by simpa [dG] using hG1) (by decide)
  have es:Qfn (.ref 0) [Zz m.2,.ref (Ls.length+1)] (hG G (Ls++[[]]))=some (.ref (Ls.length+1),hG (G++[(m.2,Ls.length)]) (Ls++[[]])):=by
   unfold Qfn
   simp only [ed,GK,Option.bind_some,QfM,Qd0 hk,Option.map_none]
   unfold Qdd
   simp only [e0,GK,Option.bind_some]
   rw [if_pos hz]
   have:Qf2 (dG G) (trQ m.2) (Zz m.2) (.ref (Ls.length+1))=dG (G++[(m.2,Ls.length)]):=by
    unfold Qf2
    rw [QfM,Qd0 hk]
    simp [dG]
   rw [this]
   rfl
  have ea:=QeQ (G:=G++[(m.2,Ls.length)]) (Ls:=Ls++[[]]) (i:=Ls.length) (l:=[]) (by simp)
  have es2:=QdW (G:=G++[(m.2,Ls.length)]) (Ls:=Ls++[[]]) (i:=Ls.length) (l:=[]) (w:=m.1)
  simp only [List.map_nil,List.nil_append] at es2 ea
  have z0:0 < sizeLine:=by decide
  have ea':∀ (h:Ls.length+1 < (hG (G++[(m.2,Ls.length)]) (Ls++[[]])).length),(hG (G++[(m.2,Ls.length)]) (Ls++[[]]))[Ls.length+1]=.lst []:=fun h=>(List.getElem?_eq_some_iff.mp ea).2
  simp [Qa0,Qaw,es,ea',es2,z0,tyW,e00]
noncomputable def dP (M:List Mn) (P:List Pl):List (W×W):=P.map fun q=>(Zz q,.lst ((wa M q).map .str))
theorem Qjq {M:List Mn} {P:List Pl} (hP:∀ m∈M,m.2∈P) {q:Pl}:(Ws (dP M P) (trQ q)).getD (.lst [])=.lst ((wa M q).map .str):=by
 by_cases h:q∈P
 ·have:Ws (dP M P) (trQ q)=some (.lst ((wa M q).map .str)):=by
   clear hP
   unfold Ws dP
   induction P with
   | nil=>cases h
   | cons x P ih=>
    rw [List.map_cons,List.find?_cons]
    by_cases e:x=q
    ·subst e;simp
    ·have:¬ trQ x=trQ q:=fun z=>e (W6 z)
     simp only [GK,Option.some.injEq,this,decide_false]
     exact ih (by rcases List.mem_cons.mp h with z | z;exact absurd z.symm e;exact z)
  rw [this];rfl
 ·have hn:wa M q=[]:=by
   unfold wa
   rw [List.map_eq_nil_iff,List.filter_eq_nil_iff]
   intro m hm
   simp
   exact fun z=>h (by rw [<- z];exact hP m hm)
  have:Ws (dP M P) (trQ q)=none:=by
   unfold Ws dP
   rw [Option.map_eq_none_iff,List.find?_eq_none]
   intro x hx
   obtain ⟨y,hy,rfl⟩:=List.mem_map.mp hx
   simp
   exact fun z=>h (by rw [<- W6 z];exact hy)
  rw [this,hn];rfl
theorem Ui {M:List Mn} (hl:M.length<=100000):∃ P:List Pl,(∀ m∈M,m.2∈P)/\∀ h:MH,QX [.lst (M.map ZL)] h=some (.ref h.length,h++[.dct (dP M P)]):=by
 have loop:=ZT (items:=M.map ZL) (b:=Va [2,3]) (body:=ZY) (fun n σ h=>∃ (G:Gs) (Ls:List (List Str)) (x2 x3:Option W),σ=yS (.lst (M.map ZL)) x2 x3/\h=hG G Ls/\WB (M.take n) G Ls/\G.length<=n)
  (M.map ZL) 0 (yS (.lst (M.map ZL)) none none) (hG [] []) ⟨[],[],none,none,rfl,rfl,⟨by simp,by simp,by simp,by simp⟩,Nat.le_refl _⟩ (by
   rintro j w hj σ h ⟨G,Ls,x2,x3,rfl,rfl,I,hGl⟩
   rw [List.getElem?_map] at hj
   obtain ⟨m,hm,rfl⟩:=Option.map_eq_some_iff.mp hj
   have hjl:=(List.getElem?_eq_some_iff.mp hm).1
   rw [Nat.zero_add] at *
   obtain ⟨G',Ls',I',l1,_,e⟩:=Gp (mn:=.lst (M.map ZL)) I m (by omega) (by rw [List.length_take];omega)
   refine ⟨yS (.lst (M.map ZL)) (some (.str m.1)) (some (Zz m.2)),rfl,_,_,.inl e,G',Ls',_,_,rfl,rfl,?_,by omega⟩
   rw [List.take_succ,hm]
   exact I')
 obtain ⟨σ',h',e1,G,Ls,x2,x3,rfl,rfl,I,hGl⟩:=loop
 rw [List.length_map,Nat.zero_add,List.take_length] at I
 refine ⟨G.map (·.1),I.all,fun h=>?_⟩
 show box frR Q2 _ _=_
 unfold box
 rw [X9 (by simp),Option.bind_some]
 unfold Qds
 rw [if_pos List.nodup_nil]
 have ei:∀ (h:MH),QY (Qg 0) (yS (.lst (M.map ZL)) none none) h=some (M.map ZL,none,h):=fun _=>rfl
 have e:Q2 [.lst (M.map ZL)] []=some (.ref 0,hG G Ls):=by
  simp only [yS,hG] at e1 ei
  simp [dG] at e1
  simp [Q2,Zo,VM,Qef,ei,e1,hG,dG]
 simp only [ZV,Option.bind_some,e]
 rw [if_pos ⟨by simp [frR],by simp [frR]⟩]
 have key:∀ (G':Gs),(∀ g∈G',Ls[g.2]?=some (wa M g.1))->ths (res (VX [] [0] h.length) (hG G Ls) 3) ((dG G').map (·.2))=some ((dP M (G'.map (·.1))).map (·.2)):=by
  intro G'
  induction G' with
  | nil=>intro _;rfl
  | cons g G' ih=>
   intro hh
   have:=ih fun x hx=>hh x (List.mem_cons_of_mem _ hx)
   unfold dG dP at this ⊢
   rw [List.map_cons,List.map_cons,ths,this]
   have ea:=QeQ (G:=G) (hh g List.mem_cons_self)
   have:th (res (VX [] [0] h.length) (hG G Ls) 3) (.ref (g.2+1))=some (.lst ((wa M g.1).map .str)):=by
    have hp:ths (res (VX [] [0] h.length) (hG G Ls) 2) ((wa M g.1).map .str)=some ((wa M g.1).map .str):=Z6 _ _ (by simp)
    unfold th res
    simp [VX,ea,hp]
   rw [this]
   rfl
 have k:=key G I.at_
 have hd:thO (res (VX [] [0] h.length) (hG G Ls) 3) (.dct (dG G))=some (.dct (dP M (G.map (·.1)))):=by
  unfold thO
  dsimp only
  rw [k]
  have:((dG G).map (·.1)).zip ((dP M (G.map (·.1))).map (·.2))=dP M (G.map (·.1)):=by
   unfold dG dP
   clear k key e e1 ei I hGl
   induction G with
   | nil=>rfl
   | cons g G ih=>simp at ih ⊢;exact ih
  simp [this]
 have h0:(hG G Ls)[0]?=some (.dct (dG G)):=rfl
 simp [frR,th,res,VX,ZV,QP,h0] at hd ⊢
 rw [hd]
 rfl
noncomputable abbrev Us:=List (Str×Nat)
noncomputable def eU (U:Us):List (Key×W):=U.map fun u=>(Sum.inr u.1,W.int u.2)
theorem QiK {U:Us} {w:Str}:(QbC (eU U) (.inr w)).getD (.int 0)=.int (cnt U w):=by
 unfold QbC eU
 induction U with
 | nil=>rfl
 | cons u U ih=>
  obtain ⟨v,d⟩:=u
  rw [List.map_cons,List.find?_cons]
  unfold My6.cnt
  by_cases h:v=w
  ·subst h;simp
  ·have h':¬ (Sum.inr v:Key)=Sum.inr w:=fun z=>h (Sum.inr.inj z)
   simp only [h',decide_false,if_neg h]
   exact ih
theorem Gb:∀ {U:Us} {w:Str} {c:Nat},w∉U.map (·.1)->upU U w c=U++[(w,c)]
 | [],_,_,_=>rfl
 | (v,d)::U,w,c,h=>by
  have h1:¬ v=w:=fun z=>h (by simp [z])
  have:=Gb (U:=U) (w:=w) (c:=c) (fun z=>h (by simp only [List.map_cons,List.mem_cons];exact .inr z))
  unfold upU
  rw [if_neg h1,this];rfl
theorem UK:∀ {U:Us} {w:Str} {c:Nat},(U.map (·.1)).Nodup->w∈U.map (·.1)->(eU U).map (fun kv=>if kv.1=Sum.inr w then (kv.1,W.int c) else kv)=eU (upU U w c)
 | [],_,_,_,h=>by simp at h
 | (v,d)::U,w,c,hn,h=>by
  rw [List.map_cons,List.nodup_cons] at hn
  unfold upU
  by_cases e:v=w
  ·subst e
   rw [if_pos rfl]
   unfold eU
   rw [List.map_cons,List.map_cons,List.map_cons]
   have:(U.map fun u=>((Sum.inr u.1:Key),W.int u.2)).map (fun kv=>if kv.1=Sum.inr v then (kv.1,W.int c) else kv)=U.map fun u=>((Sum.inr u.1:Key),W.int u.2):=by
    rw [List.map_map]
    refine List.map_congr_left fun u hu=>?_
    have:¬ (Sum.inr u.1:Key)=Sum.inr v:=fun z=>hn.1 (List.mem_map.mpr ⟨u,hu,Sum.inr.inj z⟩)
    simp [this]
   rw [this]
   simp
  ·rw [if_neg e]
   have ih:=UK (U:=U) (w:=w) (c:=c) hn.2 (by simp only [List.map_cons,List.mem_cons] at h;exact h.resolve_left (fun z=>e z.symm))
   unfold eU at ih ⊢
   rw [List.map_cons,List.map_cons,List.map_cons,ih]
   simp [e]
theorem Qhs {U:Us} {w:Str} {c:Nat} (hn:(U.map (·.1)).Nodup):Qck (eU U) (.inr w) (.int c)=eU (upU U w c):=by
 unfold Qck
 by_cases h:w∈U.map (·.1)
 ·rw [if_pos,UK hn h]
  rw [List.any_eq_true]
  obtain ⟨u,hu,rfl⟩:=List.mem_map.mp h
  exact ⟨(Sum.inr u.1,.int u.2),List.mem_map_of_mem (f:=fun u:Str×Nat=>((Sum.inr u.1:Key),W.int u.2)) hu,by simp⟩
 ·rw [if_neg,Gb h]
  ·simp [eU]
  ·rw [List.any_eq_true]
   rintro ⟨kv,hkv,e⟩
   obtain ⟨u,hu,rfl⟩:=List.mem_map.mp hkv
   simp at e
   exact h (by rw [<- e];exact List.mem_map_of_mem hu)
theorem Qdv:∀ {U:Us},GL (eU U)=some ((tot U:Nat):Int)
 | []=>rfl
 | (v,d)::U=>by
  have:=Qdv (U:=U)
  unfold eU at this ⊢
  rw [List.map_cons]
  show (GL _).map _=_
  rw [this]
  simp [tot]
@[simp] theorem Qlz {U:Us}:GT (.dic (eU U))=true:=by
 unfold GT eU
 dsimp only
 rw [List.map_map]
 exact Zt _ (Je fun _=>rfl)
noncomputable def addU (U:Us):Option Str->Us
 | some w=>upU U w (cnt U w+1)
 | none=>U
theorem Of.addU {U:Us} {al:List Str} (h:Of U al) (o:Option Str):Of (addU U o) (al++o.toList):=by
 cases o with
 | none=>simpa [My.addU] using h
 | some w=>exact h.add w
noncomputable def lnV (p:List Pt) (s:Spt):W:=if s.head=true then .non else match (p[s.part]?).bind fun x=>x.2[s.k]? with
 | some l=>QV l
 | none=>.non
theorem QfC {p:List Pt} {s:Spt} {h:MH} (hs:SV p s):Zm [Jz p,QG s] h=some (lnV p s,h):=by
 obtain ⟨x,hx,hk,_⟩:=hs.ex
 unfold lnV
 by_cases hh:s.head=true
 ·rw [if_pos hh];exact YZ hx (.inl hh)
 ·rw [if_neg hh,hx,Option.bind_some]
  by_cases hl:s.k=x.2.length
  ·rw [List.getElem?_eq_none (by omega)];exact YZ hx (.inr hl)
  ·have hkl:s.k < x.2.length:=by omega
   rw [List.getElem?_eq_getElem hkl]
   exact Qbv hx (by simpa using hh) (List.getElem?_eq_getElem hkl)
theorem QaO {p:List Pt} {N:Nat} {bs ws:List Str} {s:Spt} {h:MH} (hg:GoodP N bs ws p) (hs:SV p s):Zr [lnV p s] h=some (YD (mdS p s),h)/\pur (lnV p s)=true:=by
 obtain ⟨x,hx,hk,_⟩:=hs.ex
 unfold lnV mdS
 by_cases hh:s.head=true
 ·rw [if_pos hh,if_pos hh]
  refine ⟨Z4 (g:=[]) (by simp) ?_ (by simp),rfl⟩
  simp [ZB,Zo,YD]
 ·rw [if_neg hh,if_neg hh,hx]
  simp only [Option.bind_some]
  by_cases hl:s.k=x.2.length
  ·rw [List.getElem?_eq_none (by omega)]
   refine ⟨Z4 (g:=[]) (by simp) ?_ (by simp),rfl⟩
   simp [ZB,Zo,YD]
  ·have hkl:s.k < x.2.length:=by omega
   obtain ⟨l,hl'⟩:∃ l,x.2[s.k]?=some l:=⟨x.2[s.k],List.getElem?_eq_getElem hkl⟩
   have hok:=hg.ok s.part x hx l (List.mem_iff_getElem?.mpr ⟨s.k,hl'⟩)
   rw [hl']
   simp only [Option.bind_some]
   obtain ⟨y,r,rfl⟩:=Vj hok
   have nl:XW (QV (y::r))=false:=rfl
   refine ⟨Z4 (g:=[]) (by simp) ?_ (by simp),by simp⟩
   by_cases hy:y="pair"
   ·subst hy
    obtain ⟨a,w,b,c,rfl⟩:=QdY hok
    have e2:∀ h,wIx (QV ["pair",a,w,b,c]) (.int 2) h=some (.str w,h):=fun h=>by simp [QV]
    simp [ZB,Zo,nl,e2,wdL,YD]
   ·have:=Qbw hok hy
    simp [ZB,Zo,nl,hy,this,YD]
theorem Qhk {p:List Pt} {N:Nat} {bs ws:List Str} {s:Spt} {U:Us} {n:Nat} {h:MH} (hg:GoodP N bs ws p) (hs:SV p s) (hn:h[n]?=some (.dic (eU U))) (hU:(U.map (·.1)).Nodup) (hl:U.length<=6000000) :
  ZW [.ref n,lnV p s] h=some (.non,h.set n (.dic (eU (addU U (mdS p s))))):=by
 have ew:∀ h,Zr [lnV p s] h=some (YD (mdS p s),h):=fun h=>(QaO hg hs).1
 have hp:=(QaO (h:=h) hg hs).2
 have:=Qee (m:=Z0) (args:=[.ref n,lnV p s]) (as:=[.ref 0,lnV p s]) (ns:=[n]) (os:=[.dic (eU U)]) (os':=[.dic (eU (addU U (mdS p s)))]) (g:=[]) (h:=h) (w:=.non) (by
   unfold V6
   rw [show V6 (0+1) [lnV p s]=some ([lnV p s],[]) from X9 (by simp [Jv,hp])]
   rfl) (by simp) (by simp [ZV,QaM,hn]) (by
   generalize mdS p s=o at ew ⊢
   have s1:(eU U).length < sizeLine:=Nat.lt_of_le_of_lt (by simpa [eU] using hl) (by decide)
   cases o with
   | none=>simp [Z0,Zo,ew,YD,addU]
   | some w=>
    have ep:=Qhs (w:=w) (c:=cnt U w+1) hU
    have ev:=QiK (U:=U) (w:=w)
    have ep':Qck (eU U) (.inr w) (.int ((My6.cnt U w:Int)+1))=eU (upU U w (My6.cnt U w+1)):=ep
    simp [Z0,Zo,ew,YD,addU,ev,tyW]
    rw [if_pos s1,ep']
    rfl) rfl (by simp) rfl
 show box frN Z0 _ _=_
 simpa [QP] using this
noncomputable def plV (s:Spt):W:=if s.head=true then .non else Zz (s.part,s.k)
theorem Qdb {s:Spt} {h:MH}:Zy [QG s] h=some (plV s,h):=by
 obtain ⟨way,part,k,head⟩:=s
 unfold plV
 cases head with
 | true=>
  refine Z4 (g:=[]) (by simp) ?_ rfl
  simp [J1,Zo,QG]
 | false=>
  refine Z4 (g:=[]) (by simp) ?_ (by simp)
  simp [J1,Zo,QG,Zz]
theorem Qh0 {M:List Mn} {P:List Pl} {s:Spt} {h:MH} (hP:∀ m∈M,m.2∈P) (h0:h[0]?=some (.dct (dP M P))):X6 (.ref 0) [plV s,.lst []] h=some (.lst ((gn M s).map .str),h):=by
 have ed:Qda h (.ref 0)=some (dP M P):=by simp [Qda,h0]
 unfold plV gn
 by_cases hh:s.head=true
 ·rw [if_pos hh,if_pos hh]
  simp [ed]
 ·rw [if_neg hh,if_neg hh]
  show Qbp (.ref 0) [Zz (s.part,s.k),.lst []] h=_
  unfold Qbp
  simp only [ed,GK,Option.bind_some,Option.map_some,Qjq hP]
  rfl
theorem Qis {p:List Pt} {N:Nat} {bs ws:List Str} {s:Spt} (hg:GoodP N bs ws p) {w:Str} (h:mdS p s=some w):w∈ws:=by
 unfold mdS at h
 split at h
 ·cases h
 ·obtain ⟨x,hx,h⟩:=Option.bind_eq_some_iff.mp h
  obtain ⟨l,hl,h⟩:=Option.bind_eq_some_iff.mp h
  have hok:=hg.ok s.part x hx l (List.mem_iff_getElem?.mpr ⟨s.k,hl⟩)
  unfold wdL at h
  split at h
  ·rename_i a b c d e
   split at h
   ·rename_i he
    cases h
    subst he
    obtain ⟨x1,w1,y1,z1,e1,hm⟩:=Xc hok (by simp [QV,pW])
    injection e1 with _ e1
    injection e1 with _ e1
    injection e1 with e1 _
    rw [e1];exact hm
   ·cases h
  ·cases h
structure UI (K al:List Str) (U:Us):Prop where
 of:Of U al
 sub:∀ w∈U.map (·.1),w∈K
theorem UI.len {K al:List Str} {U:Us} (h:UI K al U):U.length<=K.length:=by
 have:=Qfk _ K h.of.nd h.sub
 simpa using this
theorem UI.addU {K al:List Str} {U:Us} (h:UI K al U) {o:Option Str} (ho:∀ w,o=some w->w∈K):UI K (al++o.toList) (addU U o):=by
 refine ⟨My.Of.addU h.of o,fun v hv=>?_⟩
 cases o with
 | none=>exact h.sub v hv
 | some w=>
  rcases (Yg U w _ v).mp hv with z | z
  ·exact ho v (by rw [z])
  ·exact h.sub v z
noncomputable abbrev cS (p:List Pt) (mn rn:W) (x6 x7 x8 x9:Option W):MSt:=[some (Jz p),some mn,some rn,some (.ref 0),some (.ref 1),some (.ref 2),x6,x7,x8,x9]
theorem Qbl {p:List Pt} {mn rn:W} {x6 x7 x8 x9:Option W} {D:MO} {NS:MO} {K al gone:List Str} {U:Us} (hU:UI K al U) (hK:K.length<=200000) (hgK:∀ w∈gone,w∈K) :
  ∃ U' x9',UI K (al.filter (·∉gone)) U'/\VA (gone.map .str) none (Jy 9) J8 (gone.map .str) (cS p mn rn x6 x7 x8 x9) [D,.dic (eU U),NS]=some (.nx (cS p mn rn x6 x7 x8 x9') [D,.dic (eU U'),NS]):=by
 have loop:=ZT (items:=gone.map .str) (b:=Jy 9) (body:=J8) (fun n σ h=>∃ (U':Us) (x9:Option W),σ=cS p mn rn x6 x7 x8 x9/\h=[D,.dic (eU U'),NS]/\UI K (al.filter (·∉gone.take n)) U')
  (gone.map .str) 0 (cS p mn rn x6 x7 x8 x9) [D,.dic (eU U),NS] ⟨U,x9,rfl,rfl,by
   have:al.filter (·∉gone.take 0)=al:=by simp
   rw [this];exact hU⟩ (by
   rintro j w hj σ h ⟨U1,x9',rfl,rfl,I⟩
   rw [List.getElem?_map] at hj
   obtain ⟨v,hv,rfl⟩:=Option.map_eq_some_iff.mp hj
   rw [Nat.zero_add] at *
   have hvm:v∈gone:=List.mem_iff_getElem?.mpr ⟨j,hv⟩
   have hl:=I.len
   have s1:(eU U1).length < sizeLine:=Nat.lt_of_le_of_lt (show (eU U1).length<=200000 by simp [eU];omega) (by decide)
   have ep:=Qhs (w:=v) (c:=0) I.of.nd
   have ep':Qck (eU U1) (.inr v) (.int 0)=eU (upU U1 v 0):=ep
   refine ⟨cS p mn rn x6 x7 x8 (some (.str v)),rfl,cS p mn rn x6 x7 x8 (some (.str v)),[D,.dic (eU (upU U1 v 0)),NS],.inl ?_,_,_,rfl,rfl,?_,fun u hu=>?_⟩
   ·simp [s1,ep']
   ·have:=I.of.zero v
    rw [List.filter_filter] at this
    have e:(al.filter fun a=>decide (a≠v) && decide (a∉gone.take j))=al.filter (·∉gone.take (j+1)):=by
     refine List.filter_congr fun a _=>?_
     rw [List.take_succ,hv]
     simp [Bool.eq_iff_iff,and_comm]
    rw [e] at this
    exact this
   ·rcases (Yg U1 v 0 u).mp hu with z | z
    ·rw [z];exact hgK v hvm
    ·exact I.sub u z)
 obtain ⟨σ',h',e,U',x9',rfl,rfl,I⟩:=loop
 rw [List.length_map,Nat.zero_add,List.take_length] at I
 exact ⟨U',x9',I,e⟩
noncomputable def JZ (c:Nat×Nat):W:=.tup [.int c.1,.int c.2]
theorem Qjw {M:List Mn} {s:Spt} {w:Str} (h:w∈gn M s):w∈M.map (·.1):=by
 unfold gn at h
 split at h
 ·cases h
 ·obtain ⟨m,hm,rfl⟩:=List.mem_map.mp h
  exact List.mem_map_of_mem (List.mem_filter.mp hm).1
noncomputable def pre (p:List Pt) (run:List Spt) (j:Nat):Option Str:=if j=0 then none else (run[j - 1]?).bind (mdS p)
theorem GP {p:List Pt} {N:Nat} {bs ws:List Str} (hg:GoodP N bs ws p) {M:List Mn} {P:List Pl} (hP:∀ m∈M,m.2∈P) {mn:W} {run:List Spt} (hrun:∀ s∈run,SV p s) {j:Nat} {s:Spt} (hs:run[j]?=some s) {K al:List Str} {U:Us} {ns:List (Nat×Nat)} {x8 x9:Option W}
  (hU:UI K al U) (hK:K.length<=200000) (hws:∀ w∈ws,w∈K) (hMK:∀ w∈M.map (·.1),w∈K) (hns:ns.length<=6000000) (hj:j<=6000000) :
  ∃ U' x8' x9',UI K ((al++(pre p run j).toList).filter (·∉gn M s)) U'/\J6 (cS p mn (.lst (run.map QG)) (some (.int j)) (some (QG s)) x8 x9) [.dct (dP M P),.dic (eU U),.lst (ns.map JZ)] =
   some (.nx (cS p mn (.lst (run.map QG)) (some (.int j)) (some (QG s)) x8' x9') [.dct (dP M P),.dic (eU U'),.lst ((ns++[((al++(pre p run j).toList).length,((al++(pre p run j).toList).filter (·∉gn M s)).length)]).map JZ)]):=by
 have I1:UI K (al++(pre p run j).toList) (addU U (pre p run j)):=hU.addU fun w hw=>by
  unfold pre at hw
  split at hw
  ·cases hw
  ·obtain ⟨t,ht,hw⟩:=Option.bind_eq_some_iff.mp hw
   exact hws w (Qis hg hw)
 have eadd:(Vo (QA (Qm wGt (Qg 6) (mC (.int 0)))) (ZU (Qv 2 ZW (Qc (Qg 4) (Qc (Qv 2 Zm (Qc (Qg 0) (Qc (Qm wIx (Qg 2) (Qm Gx (Qg 6) (mC (.int 1)))) Ql))) Ql)))) ZH) (cS p mn (.lst (run.map QG)) (some (.int j)) (some (QG s)) x8 x9) [.dct (dP M P),.dic (eU U),.lst (ns.map JZ)]=some (.nx (cS p mn (.lst (run.map QG)) (some (.int j)) (some (QG s)) x8 x9) [.dct (dP M P),.dic (eU (addU U (pre p run j))),.lst (ns.map JZ)]):=by
  unfold pre
  by_cases hz:j=0
  ·subst hz
   simp [addU]
  ·rw [if_neg hz]
   have hjl:=(List.getElem?_eq_some_iff.mp hs).1
   obtain ⟨t,ht⟩:∃ t,run[j - 1]?=some t:=⟨run[j - 1],List.getElem?_eq_getElem (by omega)⟩
   have hsv:=hrun t (List.mem_iff_getElem?.mpr ⟨j - 1,ht⟩)
   have ea:atI (run.map QG) ((j:Int) - 1)=some (QG t):=by
    rw [show (j:Int) - 1=((j - 1:Nat):Int) by omega,Q6,List.getElem?_map,ht];rfl
   have el:∀ h,Zm [Jz p,QG t] h=some (lnV p t,h):=fun h=>QfC hsv
   have hl:=hU.len
   have ead:=Qhk (n:=1) (h:=[.dct (dP M P),.dic (eU U),.lst (ns.map JZ)]) hg hsv rfl hU.of.nd (by omega)
   have hpos:0 < j:=by omega
   rw [ht]
   simp [hpos,ea,el,ead]
 generalize hal:al++(pre p run j).toList=al1 at I1 ⊢
 generalize addU U (pre p run j)=U1 at I1 eadd
 obtain ⟨U',x9',I2,eloop⟩:=Qbl (p:=p) (mn:=mn) (rn:=.lst (run.map QG)) (x6:=some (.int j)) (x7:=some (QG s)) (x8:=some (.int (tot U1:Nat))) (x9:=x9) (D:=.dct (dP M P)) (NS:=.lst (ns.map JZ)) I1 hK (gone:=gn M s) fun w hw=>hMK w (Qjw hw)
 refine ⟨U',some (.int (tot U1:Nat)),x9',I2,?_⟩
 have eget:∀ U,X6 (.ref 0) [plV s,.lst []] [.dct (dP M P),.dic (eU U),.lst (ns.map JZ)]=some (.lst ((gn M s).map .str),[.dct (dP M P),.dic (eU U),.lst (ns.map JZ)]):=fun U=>Qh0 hP rfl
 have epl:∀ h,Zy [QG s] h=some (plV s,h):=fun h=>Qdb
 have t1:=I1.of.tot
 have t2:=I2.of.tot
 have s1:ns.length < sizeLine:=Nat.lt_of_le_of_lt hns (by decide)
 have eb:J6 (cS p mn (.lst (run.map QG)) (some (.int j)) (some (QG s)) x8 x9) [.dct (dP M P),.dic (eU U),.lst (ns.map JZ)]=(QJ (Zi 8 (GM (Qg 4)))
  (QJ (VM (QY (mMt "dict" X6 (Qg 3) (Qc (Qv 1 Zy (Qc (Qg 7) Ql)) (Qc (mFn Xs Ql) Ql)))) (Jy 9)
  J8)
  (ZU (mMt "list" QZ (Qg 5) (Qc (mFn Jj (Qc (Qg 8) (Qc (GM (Qg 4)) Ql))) Ql))))) (cS p mn (.lst (run.map QG)) (some (.int j)) (some (QG s)) x8 x9) [.dct (dP M P),.dic (eU U1),.lst (ns.map JZ)]:=by
  show QJ _ _ _ _=_
  unfold QJ
  rw [eadd]
  rfl
 rw [eb]
 rw [t1] at eloop ⊢
 simp only [cS] at eloop ⊢
 simp [Qii,Qdv,epl,eget,tyW,VM,QY,XE,eloop,s1,JZ,t1,t2]
@[simp] theorem QjJ {c:Nat×Nat}:pln (JZ c)=true:=by simp [JZ,pln,Xr]
@[simp] theorem Qg3 {cs:List (Nat×Nat)}:Xr (cs.map JZ)=true:=Je fun _=>QjJ
@[simp] theorem Qg7 {cs:List (Nat×Nat)}:Jv (cs.map JZ)=true:=Zt _ Qg3
theorem GC {p:List Pt} {N:Nat} {bs ws:List Str} (hg:GoodP N bs ws p) (hw5:ws.length<=5) {M:List Mn} {run:List Spt} (hM:M.length<=100000) (hrun:∀ s∈run,SV p s) (hl:run.length<=5000000) (h:MH) :
  Vg [Jz p,.lst (M.map ZL),.lst (run.map QG)] h=some (.lst ((GA M p [] run).map JZ),h):=by
 obtain ⟨P,hP,eP⟩:=Ui hM
 have loop:=ZT (items:=JY (run.map QG)) (b:=Va [6,7]) (body:=J6) (fun n σ h=>∃ (U:Us) (al:List Str) (ns:List (Nat×Nat)) (x6 x7 x8 x9:Option W),σ=cS p (.lst (M.map ZL)) (.lst (run.map QG)) x6 x7 x8 x9/\h=[.dct (dP M P),.dic (eU U),.lst (ns.map JZ)]/\UI (M.map (·.1)++ws) al U/\ns.length=n/\ns++GA M p (al++(pre p run n).toList) (run.drop n)=GA M p [] run)
  (JY (run.map QG)) 0 (cS p (.lst (M.map ZL)) (.lst (run.map QG)) none none none none) [.dct (dP M P),.dic [],.lst []] ⟨[],[],[],none,none,none,none,rfl,rfl,⟨Of.nil,by simp⟩,rfl,by simp [pre]⟩ (by
   rintro j w hj σ h ⟨U,al,ns,x6,x7,x8,x9,rfl,rfl,I,hn,hrec⟩
   unfold JY at hj
   rw [List.getElem?_map,List.getElem?_zipIdx,List.getElem?_map] at hj
   obtain ⟨q,hq,rfl⟩:=Option.map_eq_some_iff.mp hj
   obtain ⟨y,hy,rfl⟩:=Option.map_eq_some_iff.mp hq
   obtain ⟨s,hs,rfl⟩:=Option.map_eq_some_iff.mp hy
   have hjl:=(List.getElem?_eq_some_iff.mp hs).1
   rw [Nat.zero_add] at *
   obtain ⟨U',x8',x9',I',e⟩:=GP hg hP (mn:=.lst (M.map ZL)) hrun hs (x8:=x8) (x9:=x9) I (by simp;omega) (fun w hw=>List.mem_append_right _ hw) (fun w hw=>List.mem_append_left _ hw) (ns:=ns) (by omega) (by omega)
   refine ⟨cS p (.lst (M.map ZL)) (.lst (run.map QG)) (some (.int j)) (some (QG s)) x8 x9,rfl,_,_,.inl e,U',_,_,_,_,x8',x9',rfl,rfl,I',by simp [hn],?_⟩
   rw [<- hrec,List.drop_eq_getElem_cons hjl]
   have hse:run[j]=s:=(List.getElem?_eq_some_iff.mp hs).2
   have hpre:pre p run (j+1)=mdS p s:=by unfold pre;rw [if_neg (by omega),Nat.add_sub_cancel,hs];rfl
   rw [hse,GA,hpre,List.append_assoc]
   rfl)
 obtain ⟨σ',h',e1,U,al,ns,x6,x7,x8,x9,rfl,rfl,I,hn,hrec⟩:=loop
 have hel:(JY (run.map QG)).length=run.length:=by simp [JY]
 rw [hel,Nat.zero_add] at hrec
 rw [List.drop_length,GA,List.append_nil] at hrec
 rw [<- hrec]
 refine Uy (j:=2) (g:=[.dct (dP M P),.dic (eU U),.lst (ns.map JZ)]) (by simp) ?_ rfl Qg7
 have ei:∀ (h:MH),YC (Qc (Qg 2) Ql) (cS p (.lst (M.map ZL)) (.lst (run.map QG)) none none none none) h=some (JY (run.map QG),none,h):=fun h=>by unfold YC;simp
 have eP0:=eP []
 simp only [cS] at e1 ei
 simp at eP0
 simp [V3,Zo,VM,QeX,eP0,ei,e1]
theorem Yf {H0:MH} {o:MO}:(H0++[o])[H0.length]?=some o:=by simp
theorem XX {H0:MH} {o o':MO}:(H0++[o]).set H0.length o'=H0++[o']:=by simp
theorem UO {a:W} {h:MH} (pa:pln a=true) (da:dep a<=40):wNe a a h=some (.bl false,h):=by rw [Ql9 pa pa da da,U5 a pa];rfl
theorem Qco {i:Int} {h:MH}:ZF [.int i] h=some (.bl true,h):=by
 refine Z4 (g:=[]) (by simp) ?_ rfl
 have s1:VF "int" "int"=true:=by decide
 have s2:VF "int" "bool"=false:=by decide
 simp [Vf,Zo,Qix,QiI,s1,s2]
noncomputable abbrev wS (ns:List Int) (j:Nat) (x2 x3 x4 x5 x6 x7 x8 x9 x10:Option W):MSt:=[some (.frz (ns.map .int)),some (.int j),x2,x3,x4,x5,x6,x7,x8,x9,x10]
noncomputable def Qif:W->W
 | .tup [.lst a,.lst b]=>JZ (a.length,b.length)
 | w=>w
theorem Qb6 {ns:List Int} {j:Nat} {x2 x3 x4 x5 x6 x7 x8 x9 x10:Option W} {h:MH} (hj:j < 50):∃ y2 y3 y4 y5 y6 y7 y8 y9 y10 h',K5 (wS ns j x2 x3 x4 x5 x6 x7 x8 x9 x10) h=some (.nx (wS ns j y2 y3 y4 y5 y6 y7 y8 y9 y10) h'):=by
 have k1:VF "tuple" "tuple"=true:=by decide
 have k2:VF "list" "list"=true:=by decide
 obtain ⟨f1,ef1⟩:=QaI ns j (by omega)
 obtain ⟨bs,ws,p,f1',hb,hw,hg3,ea⟩:=QhS f1 3 4 3 8 (by decide) (by decide) (by decide) (by decide)
 have hg:=Qbo hg3 (show 300<=700 by decide)
 obtain ⟨f2,ef2⟩:=QaI ns (j+1) (by omega)
 obtain ⟨M,f3,hM,em⟩:=G0 hg3 hw.2 f2
 obtain ⟨run,f4,hne,hrun,hrl,er⟩:=Gn hg f3
 obtain ⟨R,F,hF,hFl,eb⟩:=QeZ hg hM hrun hrl
 have ec:=fun h=>GC hg hw.2 hM hrun hrl h
 have hrecl:(GA M p [] run).length=run.length:=by rw [<- hF,List.length_map,hFl]
 have e1:=ef1 h
 have e2:=ea (h++[Qz f1]) h.length Yf
 rw [XX] at e2
 have e3:=ef2 (h++[Qz f1'])
 have e4:=em (h++[Qz f1']++[Qz f2]) (h++[Qz f1']).length Yf
 rw [XX] at e4
 have e5:=er (h++[Qz f1']++[Qz f3]) (h++[Qz f1']).length Yf
 rw [XX] at e5
 push_cast at e3 e2
 generalize hH:h++[Qz f1']++[Qz f4]=H
 rw [hH] at e5
 generalize hrs:GA M p [] run=rs at *
 have sz:rs.length<=sizeLine:=Nat.le_of_lt (Nat.lt_of_le_of_lt (show rs.length<=5000000 by omega) (by decide))
 have ecm:∀ x3 x4 x7 x8 x9 x10,Zw Vu (QY (Qv 3 ZZ (Qc (Qg 2) (Qc (Qg 5) (Qc (Qg 6) Ql))))) [none,none] (Va [0,1]) XR (mFn Jj (Qc (mFn JS (Qc (Qg 0) Ql)) (Qc (mFn JS (Qc (Qg 1) Ql)) Ql))) (wS ns j (some (Jz p)) x3 x4 (some (.lst (M.map ZL))) (some (.lst (run.map QG))) x7 x8 x9 x10) H=some (.lst (rs.map JZ),H):=fun x3 x4 x7 x8 x9 x10=>by
  rw [QdL (items:=F.map (rcV R)) (fun τ=>τ.length=2) Qif (by unfold QY;simp [eb,XE]) rfl (fun w hw τ hτ=>by
   obtain ⟨c,hc,rfl⟩:=List.mem_map.mp hw
   match τ,hτ with
   | [a,b],_=>exact ⟨[some (.lst (c.1.map (Qed R))),some (.lst (c.2.map (Qed R)))],rfl,rfl,by simp [Qif,rcV,JZ]⟩) (by simp;omega)]
  have:(F.map (rcV R)).map Qif=rs.map JZ:=by
   rw [<- hF,List.map_map,List.map_map]
   refine List.map_congr_left fun c _=>?_
   simp [Qif,rcV,JZ]
  rw [this]
  rfl
 have n1:∀ h,wNe (.lst (rs.map JZ)) (.lst (rs.map JZ)) h=some (.bl false,h):=fun h=>UO (by simp [pln]) (by
  have:Kw (rs.map JZ)<=3:=V8 fun _=>by simp [JZ,dep,Kw]
  simp only [dep];omega)
 have n2:∀ h,wNe (.lst [.lst (M.map ZL),.lst (run.map QG)]) (.lst [.lst (M.map ZL),.lst (run.map QG)]) h=some (.bl false,h):=fun h=>UO (by simp [pln,Xr]) (by
  have d1:Kw (M.map ZL)<=6:=V8 fun _=>by simp [ZL,Zz,dep,Kw]
  have d2:Kw (run.map QG)<=10:=Nat.le_trans QfO (by decide)
  simp only [dep,Kw];omega)
 have erows:∀ x3 x4 x5 x6 x7 x8 x9 x10 h,Zw Vu (QY (Qg 2)) [none] (Jy 0) XR (Qv 1 QL (Qc (Qm wIx (Qg 0) (mC (.int 1))) Ql)) (wS ns j (some (Jz p)) x3 x4 x5 x6 x7 x8 x9 x10) h=some (Vw p,h):=fun _ _ _ _ _ _ _ _ _=>QeA rfl hg
 have loop:∀ x3 x4 x7 x9 x10,∃ y10,VA (rs.map JZ) none (Jy 10) Yj (rs.map JZ) (wS ns j (some (Jz p)) x3 x4 (some (.lst (M.map ZL))) (some (.lst (run.map QG))) x7 (some (.lst (rs.map JZ))) x9 x10) H=some (.nx (wS ns j (some (Jz p)) x3 x4 (some (.lst (M.map ZL))) (some (.lst (run.map QG))) x7 (some (.lst (rs.map JZ))) x9 y10) H):=fun x3 x4 x7 x9 x10=>by
  have loop:=ZT (items:=rs.map JZ) (b:=Jy 10) (body:=Yj) (fun _ σ h=>∃ x10,σ=wS ns j (some (Jz p)) x3 x4 (some (.lst (M.map ZL))) (some (.lst (run.map QG))) x7 (some (.lst (rs.map JZ))) x9 x10/\h=H) (rs.map JZ) 0 _ H ⟨x10,rfl,rfl⟩ (by
   rintro i w hi σ h ⟨x10,rfl,rfl⟩
   rw [List.getElem?_map] at hi
   obtain ⟨c,_,rfl⟩:=Option.map_eq_some_iff.mp hi
   refine ⟨wS ns j (some (Jz p)) x3 x4 (some (.lst (M.map ZL))) (some (.lst (run.map QG))) x7 (some (.lst (rs.map JZ))) x9 (some (JZ c)),rfl,wS ns j (some (Jz p)) x3 x4 (some (.lst (M.map ZL))) (some (.lst (run.map QG))) x7 (some (.lst (rs.map JZ))) x9 (some (JZ c)),h,.inl ?_,_,rfl,rfl⟩
   simp [JZ,Qco,k1])
  obtain ⟨σ',h',e,y10,rfl,rfl⟩:=loop
  exact ⟨y10,e⟩
 obtain ⟨y10,el⟩:=loop (some (Vw p)) (some (.ref (h++[Qz f1']).length)) (some (.lst [.lst (M.map ZL),.lst (run.map QG)])) (some (.lst (rs.map JZ))) x10
 refine ⟨some (Jz p),some (Vw p),some (.ref (h++[Qz f1']).length),some (.lst (M.map ZL)),some (.lst (run.map QG)),some (.lst [.lst (M.map ZL),.lst (run.map QG)]),some (.lst (rs.map JZ)),some (.lst (rs.map JZ)),y10,H,?_⟩
 have ei:∀ x3 x4 x5 x6 x7 x9 x10 (h:MH),QY (Qg 8) (wS ns j (some (Jz p)) x3 x4 x5 x6 x7 (some (.lst (rs.map JZ))) x9 x10) h=some (rs.map JZ,none,h):=fun _ _ _ _ _ _ _ _=>rfl
 simp only [List.length_append,List.length_cons,List.length_nil,List.append_assoc,List.cons_append,List.nil_append,Nat.zero_add] at e4 e5 ecm el ⊢
 simp only [wS] at ecm erows el ei ⊢
 simp [e1,e2,e3,e4,e5,erows,ec,ecm,n1,n2,VM,ei,el,k2]
theorem Qi9 {m:Int} (h0:2<=m) (h1:m<=6):Builtin.Range.small 0 m 2=true/\∃ n:Nat,(Builtin.Range.rangeSize 0 m 2).toNat=n/\n<=4:=by
 have key:∀ n:Fin 7,Builtin.Range.small 0 (n.val:Int) 2=true/\(Builtin.Range.rangeSize 0 (n.val:Int) 2).toNat<=4:=by decide
 obtain ⟨n,rfl⟩:=Int.eq_ofNat_of_zero_le (Int.le_trans (by decide) h0)
 have h:=key ⟨n,Nat.lt_succ_of_le (Int.ofNat_le.mp h1)⟩
 exact ⟨h.1,_,rfl,h.2⟩
theorem QcM {ms:MA} {σ:MSt} {h h':MH} {m:Int} (e:ms σ h=some ([.int 0,.int m,.int 2],h')) (h0:2<=m) (h1:m<=6):∃ n:Nat,n<=4/\Qh4 ms σ h=some (Vh 0 2 n,none,h'):=by
 obtain ⟨hs,n,hn,hl⟩:=Qi9 h0 h1
 refine ⟨n,hl,?_⟩
 unfold Qh4
 rw [e,Option.bind_some]
 refine (if_pos ⟨by decide,by decide,hs⟩).trans ?_
 rw [hn]
theorem main (ns:List Int) (_:ns.length<=63):∃ h',Xt [.frz (ns.map W.int)] []=some (.bl true,h'):=by
 obtain ⟨m,hm⟩:∃ m:Int,m=(if (if (ns.length:Int) < 6 then (ns.length:Int) else 6) > 2 then (if (ns.length:Int) < 6 then (ns.length:Int) else 6) else 2):=⟨_,rfl⟩
 have h0:2<=m:=by rw [hm];split<;>omega
 have h1:m<=6:=by rw [hm];split<;>split<;>omega
 have e0:(Qc (mC (.int 0)) (Qc (mFn QhE (Qc (mC (.int 2)) (Qc (mFn QgH (Qc (mC (.int 6)) (Qc (mFn JS (Qc (Qg 0) Ql)) Ql))) Ql))) (Qc (mC (.int 2)) Ql))) [some (.frz (ns.map .int)),none,none,none,none,none,none,none,none,none,none] []=some ([.int 0,.int m,.int 2],[]):=by
  rw [hm]
  simp only [QgE,s_c,Qmf,QgX,Qjl,Qfl,Qge,Qi6,Qjt,List.length_map]
 obtain ⟨n,hn,er⟩:=QcM e0 h0 h1
 have loop:=ZT (items:=Vh 0 2 n) (b:=Jy 1) (body:=K5) (fun _ σ _=>∃ y1 y2 y3 y4 y5 y6 y7 y8 y9 y10,σ=[some (.frz (ns.map .int)),y1,y2,y3,y4,y5,y6,y7,y8,y9,y10]) (Vh 0 2 n) 0 [some (.frz (ns.map .int)),none,none,none,none,none,none,none,none,none,none] [] ⟨_,_,_,_,_,_,_,_,_,_,rfl⟩ (by
  rintro i w hi σ h ⟨y1,y2,y3,y4,y5,y6,y7,y8,y9,y10,rfl⟩
  obtain ⟨hil,rfl⟩:=KR hi
  obtain ⟨z2,z3,z4,z5,z6,z7,z8,z9,z10,h',e⟩:=Qb6 (ns:=ns) (j:=2*i) (x2:=y2) (x3:=y3) (x4:=y4) (x5:=y5) (x6:=y6) (x7:=y7) (x8:=y8) (x9:=y9) (x10:=y10) (h:=h) (by omega)
  have ew:(0:Int)+(i:Int)*2=((2*i:Nat):Int):=by omega
  rw [ew]
  exact ⟨_,rfl,_,h',.inl e,_,_,_,_,_,_,_,_,_,_,rfl⟩)
 obtain ⟨σ',h',el,y1,y2,y3,y4,y5,y6,y7,y8,y9,y10,rfl⟩:=loop
 refine ⟨h',?_⟩
 simp [Xt,Zo,VM,er,el]
end My

def PySem.W.Fast.tw13182701082870268162:Unit:=()
def PySem.W.Fast.tw5548849839064942338:Unit:=()
def PySem.W.Fast.tw11950131997755485840:Unit:=()
def PySem.W.Fast.tw3367148079607836369:Unit:=()
def PySem.W.Fast.tw915426649579624651:Unit:=()
def PySem.W.Fast.tw7101735651970790013:Unit:=()
def PySem.W.Fast.tw15608455839091167966:Unit:=()
def PySem.W.Fast.tw5842103329131104802:Unit:=()
def PySem.W.Fast.tw16324611491520995380:Unit:=()
def PySem.W.Fast.tw636813564740813587:Unit:=()
def PySem.W.Fast.tw11889669065393898451:Unit:=()
def PySem.W.Fast.tw7886890731016523757:Unit:=()
def PySem.W.Fast.tw10507947562334967493:Unit:=()
def PySem.W.Fast.tw7022963906052588634:Unit:=()
def PySem.W.Fast.tw12906421229832875272:Unit:=()
def PySem.W.Fast.tw16658008579495081113:Unit:=()
def PySem.W.Fast.tw9056946578722280212:Unit:=()
def PySem.W.Fast.tw3717508330959350894:Unit:=()
def PySem.W.Fast.tw1700795863182650471:Unit:=()
def PySem.W.Fast.tw16457222587123018540:Unit:=()
def PySem.W.Fast.tw2093214242660342690:Unit:=()
def PySem.W.Fast.tw16133627077693736323:Unit:=()
def PySem.W.Fast.tw3707360801997844480:Unit:=()
def PySem.W.Fast.tw10371300469958110806:Unit:=()
def PySem.W.Fast.tw12750573290538332080:Unit:=()
def PySem.W.Fast.tw13367163756843345336:Unit:=()
def PySem.W.Fast.tw4955092519365321845:Unit:=()
def PySem.W.Fast.tw15396340089196283402:Unit:=()
def PySem.W.Fast.tw13323714309112208305:Unit:=()
def PySem.W.Fast.tw6943447027784719075:Unit:=()
def PySem.W.Fast.tw6565885901111315002:Unit:=()
def PySem.W.Fast.tw10919420236341769784:Unit:=()
def PySem.W.Fast.tw14616068251679644431:Unit:=()
def PySem.W.Fast.tw8052177915173146069:Unit:=()
def PySem.W.Fast.tw3967898209869628099:Unit:=()
def PySem.W.Fast.tw9146433858328437892:Unit:=()
def PySem.W.Fast.tw17960993680588551577:Unit:=()
def PySem.W.Fast.tw7719831862287572189:Unit:=()
open PySem PySem.W PyProof.Rows
set_option maxRecDepth 100000 in
set_option maxHeartbeats 0 in
theorem PySem.Challenge.cw_doneroom_k51_rooms_counted_holds : PySem.Challenge.rw_doneroom_k51_rooms_counted.Holds := by
  w_on; o_law; k_head; (case hw => w_witness2)
  k_fill
  refine Mi.Qjv (l := PySem.Challenge.rw_doneroom_k51_rooms_counted) (st := My.Wh) (sem := My.Xt) (k := 6) rfl rfl ⟨rfl, by decide, by decide⟩ rfl (fun w h Y => PySem.W.kIn_of Y) (fun _ _ _ _ _ _ _ _ => .of_eq rfl) ?F My.main
  case F =>
    intro w mg h KX G
    have d__law_take : Mi.DefAt (L2.KOf KX) mg "_law_take" My.Jq ["feed", "many"] := by
      dsimp only [L2.KOf]
      refine' Mi.QH KX G ?a ?l ?c ?k ?b
      (case a => k_is); (case l => k_is); (case c => k_is); (case k => k_is)
      (case b => exact fun _ _ _ _ _ _ us hl => match us, hl with | [_, _], _ => rfl)
    have d__law_names : Mi.DefAt (L2.KOf KX) mg "_law_names" My.Zd ["feed", "many"] := by
      dsimp only [L2.KOf]
      refine' Mi.QH KX G ?a ?l ?c ?k ?b
      (case a => k_is); (case l => k_is); (case c => k_is); (case k => k_is)
      (case b => exact fun _ _ _ _ _ _ us hl => match us, hl with | [_, _], _ => rfl)
    have d__law_step_on : Mi.DefAt (L2.KOf KX) mg "_law_step_on" My.Zu ["lines", "opened"] := by
      dsimp only [L2.KOf]
      refine' Mi.QH KX G ?a ?l ?c ?k ?b
      (case a => k_is); (case l => k_is); (case c => k_is); (case k => k_is)
      (case b => exact fun _ _ _ _ _ _ us hl => match us, hl with | [_, _], _ => rfl)
    have d__law_plain : Mi.DefAt (L2.KOf KX) mg "_law_plain" My.Z7 ["feed", "boxes", "words"] := by
      dsimp only [L2.KOf]
      refine' Mi.QH KX G ?a ?l ?c ?k ?b
      (case a => k_is); (case l => k_is); (case c => k_is); (case k => k_is)
      (case b => exact fun _ _ _ _ _ _ us hl => match us, hl with | [_, _, _], _ => rfl)
    have d__law_part : Mi.DefAt (L2.KOf KX) mg "_law_part" My.Ju ["feed", "size", "menus", "later", "opens", "dos"] := by
      dsimp only [L2.KOf]
      refine' Mi.QH KX G ?a ?l ?c ?k ?b
      (case a => k_is); (case l => k_is); (case c => k_is); (case k => k_is)
      (case b => exact fun _ _ _ _ _ _ us hl => match us, hl with | [_, _, _, _, _, _], _ => rfl)
    have d__law_program : Mi.DefAt (L2.KOf KX) mg "_law_program" My.Zq ["feed", "bounds"] := by
      dsimp only [L2.KOf]
      refine' Mi.QH KX G ?a ?l ?c ?k ?b
      (case a => k_is); (case l => k_is); (case c => k_is); (case k => k_is)
      (case b => exact fun _ _ _ _ _ _ us hl => match us, hl with | [_, _], _ => rfl)
    have d__law_great : Mi.DefAt (L2.KOf KX) mg "_law_great" My.Zc ["feed"] := by
      dsimp only [L2.KOf]
      refine' Mi.QH KX G ?a ?l ?c ?k ?b
      (case a => k_is); (case l => k_is); (case c => k_is); (case k => k_is)
      (case b => exact fun _ _ _ _ _ _ us hl => match us, hl with | [_], _ => rfl)
    have d__law_any : Mi.DefAt (L2.KOf KX) mg "_law_any" My.JT ["feed", "bounds"] := by
      dsimp only [L2.KOf]
      refine' Mi.QH KX G ?a ?l ?c ?k ?b
      (case a => k_is); (case l => k_is); (case c => k_is); (case k => k_is)
      (case b => exact fun _ _ _ _ _ _ us hl => match us, hl with | [_, _], _ => rfl)
    have d__law_feed : Mi.DefAt (L2.KOf KX) mg "_law_feed" My.Jx ["script", "k"] := by
      dsimp only [L2.KOf]
      refine' Mi.QH KX G ?a ?l ?c ?k ?b
      (case a => k_is); (case l => k_is); (case c => k_is); (case k => k_is)
      (case b => exact fun _ _ _ _ _ _ us hl => match us, hl with | [_, _], _ => rfl)
    have d__law_words : Mi.DefAt (L2.KOf KX) mg "_law_words" My.Z1 ["program"] := by
      dsimp only [L2.KOf]
      refine' Mi.QH KX G ?a ?l ?c ?k ?b
      (case a => k_is); (case l => k_is); (case c => k_is); (case k => k_is)
      (case b => exact fun _ _ _ _ _ _ us hl => match us, hl with | [_], _ => rfl)
    have d__law_manner : Mi.DefAt (L2.KOf KX) mg "_law_manner" My.Zn ["program", "feed"] := by
      dsimp only [L2.KOf]
      refine' Mi.QH KX G ?a ?l ?c ?k ?b
      (case a => k_is); (case l => k_is); (case c => k_is); (case k => k_is)
      (case b => exact fun _ _ _ _ _ _ us hl => match us, hl with | [_, _], _ => rfl)
    have d__law_next : Mi.DefAt (L2.KOf KX) mg "_law_next" My.Jr ["program", "rows", "spot"] := by
      dsimp only [L2.KOf]
      refine' Mi.QH KX G ?a ?l ?c ?k ?b
      (case a => k_is); (case l => k_is); (case c => k_is); (case k => k_is)
      (case b => exact fun _ _ _ _ _ _ us hl => match us, hl with | [_, _, _], _ => rfl)
    have d__law_run : Mi.DefAt (L2.KOf KX) mg "_law_run" My.JU ["program", "rows", "feed", "most_choices"] := by
      dsimp only [L2.KOf]
      refine' Mi.QH KX G ?a ?l ?c ?k ?b
      (case a => k_is); (case l => k_is); (case c => k_is); (case k => k_is)
      (case b => exact fun _ _ _ _ _ _ us hl => match us, hl with | [_, _, _, _], _ => rfl)
    have d_words_by_place : Mi.DefAt (L2.KOf KX) mg "words_by_place" My.Q9 ["manner"] := by
      dsimp only [L2.KOf]
      refine' Mi.QH KX G ?a ?l ?c ?k ?b
      (case a => k_is); (case l => k_is); (case c => k_is); (case k => k_is)
      (case b => exact fun _ _ _ _ _ _ us hl => match us, hl with | [_], _ => rfl)
    have d_made_word : Mi.DefAt (L2.KOf KX) mg "made_word" My.Jt ["line"] := by
      dsimp only [L2.KOf]
      refine' Mi.QH KX G ?a ?l ?c ?k ?b
      (case a => k_is); (case l => k_is); (case c => k_is); (case k => k_is)
      (case b => exact fun _ _ _ _ _ _ us hl => match us, hl with | [_], _ => rfl)
    have d_add_made : Mi.DefAt (L2.KOf KX) mg "add_made" My.JO ["in_use", "line"] := by
      dsimp only [L2.KOf]
      refine' Mi.QH KX G ?a ?l ?c ?k ?b
      (case a => k_is); (case l => k_is); (case c => k_is); (case k => k_is)
      (case b => exact fun _ _ _ _ _ _ us hl => match us, hl with | [_, _], _ => rfl)
    have d_place_of : Mi.DefAt (L2.KOf KX) mg "place_of" My.JN ["spot"] := by
      dsimp only [L2.KOf]
      refine' Mi.QH KX G ?a ?l ?c ?k ?b
      (case a => k_is); (case l => k_is); (case c => k_is); (case k => k_is)
      (case b => exact fun _ _ _ _ _ _ us hl => match us, hl with | [_], _ => rfl)
    have d_line_of : Mi.DefAt (L2.KOf KX) mg "line_of" My.Vi ["program", "spot"] := by
      dsimp only [L2.KOf]
      refine' Mi.QH KX G ?a ?l ?c ?k ?b
      (case a => k_is); (case l => k_is); (case c => k_is); (case k => k_is)
      (case b => exact fun _ _ _ _ _ _ us hl => match us, hl with | [_, _], _ => rfl)
    have d_counted : Mi.DefAt (L2.KOf KX) mg "counted" My.Vl ["program", "manner", "run"] := by
      dsimp only [L2.KOf]
      refine' Mi.QH KX G ?a ?l ?c ?k ?b
      (case a => k_is); (case l => k_is); (case c => k_is); (case k => k_is)
      (case b => exact fun _ _ _ _ _ _ us hl => match us, hl with | [_, _, _], _ => rfl)
    have d__law_blocks : Mi.DefAt (L2.KOf KX) mg "_law_blocks" My.ZI ["lines"] := by
      dsimp only [L2.KOf]
      refine' Mi.QH KX G ?a ?l ?c ?k ?b
      (case a => k_is); (case l => k_is); (case c => k_is); (case k => k_is)
      (case b => exact fun _ _ _ _ _ _ us hl => match us, hl with | [_], _ => rfl)
    have d__law_given : Mi.DefAt (L2.KOf KX) mg "_law_given" My.ZD ["manner", "spot"] := by
      dsimp only [L2.KOf]
      refine' Mi.QH KX G ?a ?l ?c ?k ?b
      (case a => k_is); (case l => k_is); (case c => k_is); (case k => k_is)
      (case b => exact fun _ _ _ _ _ _ us hl => match us, hl with | [_, _], _ => rfl)
    have d__law_made : Mi.DefAt (L2.KOf KX) mg "_law_made" My.Jw ["program", "spot"] := by
      dsimp only [L2.KOf]
      refine' Mi.QH KX G ?a ?l ?c ?k ?b
      (case a => k_is); (case l => k_is); (case c => k_is); (case k => k_is)
      (case b => exact fun _ _ _ _ _ _ us hl => match us, hl with | [_, _], _ => rfl)
    have d__law_book : Mi.DefAt (L2.KOf KX) mg "_law_book" My.Js ["program", "manner", "run"] := by
      dsimp only [L2.KOf]
      refine' Mi.QH KX G ?a ?l ?c ?k ?b
      (case a => k_is); (case l => k_is); (case c => k_is); (case k => k_is)
      (case b => exact fun _ _ _ _ _ _ us hl => match us, hl with | [_, _, _], _ => rfl)
    have d__law_whole : Mi.DefAt (L2.KOf KX) mg "_law_whole" My.Z8 ["found"] := by
      dsimp only [L2.KOf]
      refine' Mi.QH KX G ?a ?l ?c ?k ?b
      (case a => k_is); (case l => k_is); (case c => k_is); (case k => k_is)
      (case b => exact fun _ _ _ _ _ _ us hl => match us, hl with | [_], _ => rfl)
    have d_law : Mi.DefAt (L2.KOf KX) mg "law" My.Wh ["script"] := by
      dsimp only [L2.KOf]
      refine' Mi.QH KX G ?a ?l ?c ?k ?b
      (case a => k_is); (case l => k_is); (case c => k_is); (case k => k_is)
      (case b => exact fun _ _ _ _ _ _ us hl => match us, hl with | [_], _ => rfl)
    have b_bool : mg "bool" = none := by
      refine' PySem.W.mg_none_of KX G ?a
      (case a => k_is)
    have b_enumerate : mg "enumerate" = none := by
      refine' PySem.W.mg_none_of KX G ?a
      (case a => k_is)
    have b_int : mg "int" = none := by
      refine' PySem.W.mg_none_of KX G ?a
      (case a => k_is)
    have b_isinstance : mg "isinstance" = none := by
      refine' PySem.W.mg_none_of KX G ?a
      (case a => k_is)
    have b_len : mg "len" = none := by
      refine' PySem.W.mg_none_of KX G ?a
      (case a => k_is)
    have b_list : mg "list" = none := by
      refine' PySem.W.mg_none_of KX G ?a
      (case a => k_is)
    have b_max : mg "max" = none := by
      refine' PySem.W.mg_none_of KX G ?a
      (case a => k_is)
    have b_min : mg "min" = none := by
      refine' PySem.W.mg_none_of KX G ?a
      (case a => k_is)
    have b_range : mg "range" = none := by
      refine' PySem.W.mg_none_of KX G ?a
      (case a => k_is)
    have b_set : mg "set" = none := by
      refine' PySem.W.mg_none_of KX G ?a
      (case a => k_is)
    have b_sorted : mg "sorted" = none := by
      refine' PySem.W.mg_none_of KX G ?a
      (case a => k_is)
    have b_sum : mg "sum" = none := by
      refine' PySem.W.mg_none_of KX G ?a
      (case a => k_is)
    have b_tuple : mg "tuple" = none := by
      refine' PySem.W.mg_none_of KX G ?a
      (case a => k_is)
    exact ⟨d_law, fun base kb nb => My.Qer d__law_take d__law_names d__law_step_on d__law_plain d__law_part d__law_program d__law_great d__law_any d__law_feed d__law_words d__law_manner d__law_next d__law_run d_words_by_place d_made_word d_add_made d_place_of d_line_of d_counted d__law_blocks d__law_given d__law_made d__law_book d__law_whole d_law b_bool b_enumerate b_int b_isinstance b_len b_list b_max b_min b_range b_set b_sorted b_sum b_tuple⟩
