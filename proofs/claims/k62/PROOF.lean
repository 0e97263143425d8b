import PyProof.Rows.All
import Wide.All
import OpenK.AllK
import Wide.FinOn
import Lean
import PyProof.EqAt
import PyProof.EqKinds
import PyProof.TupleCall
import KE.KDictList
import KE.KRevIter
import KE.KTurns
import PyProof.Rows.SetFrom
import PyProof.Rows.SortStr
import PyProof.FactsAll.set
import PyProof.Draws
import PyProof.EnumMake
import PyProof.AttrMissSeq
import KE.KDictOf
import PyProof.Walks
import KE.KSortTup
import KE.KItemsList
import KE.KDictSum
import PyProof.Rows.SortRev
import KE.KDictLaws
import PyProof.DictTruth
import PyProof.MinMaxWalk
import PyProof.WalkInts
import PySem.Challenge.RW_doneroom_k62_gone_by_the_room
set_option Elab.async false
set_option bootstrap.genMatcherCode false
set_option linter.all false
set_option maxRecDepth 100000
noncomputable section
/-! THE HAND LAYER, for ints, bools, texts, own classes, LISTS and tuples (index, slices, in, append, pop ..), calls, loops. Paste it whole ahead of your own text; what your proof does not reach may be deleted. -/
open Option renaming bind_eq_some_iff->Na,map_eq_some_iff->Nf,bind_some->Nj,map_none->FW,getD_none->LB,map_some->LY
open PySem renaming wpAny_bind->Nc,wpAny_pure->Nh,wpAny_mono->NO,wpAny_holding->NP,wpAny_newObj_type->Ep,wpAny_Call_Name_kw->Ew,sizeLine_eq->EL,codeAny_builtin->EO,wpAny_call_entry->EU,wpAny_passesOwn->EW,wpAny_setState_of->EX,wpAny_askSetting->EZ,mem_of_lookup->E2,wpAny_callSpecial?_slot->E3,wpAny_getItem_str_slice->E4,codeAny_mono->Db,wpAny_typeOf->Dd,wpAny_setField->Di,call_meets->Dl,plainId_quiet->Dn,wpAny_rule->DB,wpAny_pyIter_list->DJ,wpAny_standAt->DP,wpAny_forIn_list->DQ,builtinLookup_eq_fast->DT,wpAny_specialOf->DW,wpAny_execs_nil->DX,wpAny_loadPart'->D1,post_val_or_str->D3,wpAny_dictEpoch->D6,wpAny_setEntries_of->Fc,eqIsQuiet_byValue->Fp,wpAny_truthy_bool->Fr,wpAny_isInstance->FC,noFill_tuple_add->FF,wpAny_updateSeq->FX,typeLookup_type->FY,wpAny_ite_split->FZ,wpAny_pyNext_list_item->F4,wpAny_pyNext_range_end->F5,wpAny_pyIter_rangeiter->F6,wpAny_seqItems->Ij,wpAny_pyNext_list_end->Ik,isSubtype_type->Ip,wpAny_loadName_local->Ix,call->IB,seq_tuple_add->IG,wpAny_loadName_cell->IK,Within->IW,wpAny_pyIter_range->IX,concat_meets->IY,seqIndex_neg->I0,call_meetsIn->La,wpAny_assign_Name->Le,wpAny_sequenceKey->Lf,slot_list_getitem->Lg,list_append->Lh,wpAny_storeSet_of->Lm,fits_of_scanBound->Lo,wpAny_pyIter_slot->Lp,wpAny_setEpoch_of->Lq,wpAny_mkInt->Lv,wpAny_field->Lw,seqIndex_of->Lx,wpAny_Name->LJ,wpAny_load->LK,wpAny_call->LM,typeIs_str->LO
open PySem.W renaming Frag->Nd,keepIn->N8,findIn->Ef,emptyDict->Eo,fnOf->Ex,instObj->EM,plainGet->Dj,mg_of->Dm,nsIn->Dw,codeIn->DA,hasDictIn->DH,makesIn->DY,plainGet_of->Fb,lookIn->Fe,callWith_K->Fh,methodObj->Fq,plainOver->Ft,isFn->FE,takerIn->FU,cellsFrom_some->F8,methodCall_KW->Il,WalkO->IH,pyHash_slot->IJ,handedIn->Ly,KeysLit->LQ
open List renaming getElem?_eq_some_iff->Ng,getElem?_eq_getElem->Ni,size_toArray->Nk,getElem?_append_left->Np,getElem?_map->Nq,map_cons->Nr,mem_cons_of_mem->Nt,mem_cons_self->Nv,length_map->Nw,mem_cons->Nx,length_cons->Nz,mem_iff_getElem?->NA,length_append->NC,getD_eq_getElem?_getD->NE,getElem?_eq_none->NF,mem_singleton->NI,mem_append_right->NJ,mem_append->NK,getElem?_append_right->NQ,lookup_cons->NX,getElem?_set_ne->N1,getElem?_set_self->N2,length_eq_zero_iff->N5,mem_range->N7,append_nil->N9,find?_cons->Ea,mem_map->Eb,mem_append_left->Ek,map_nil->Em,nodup_nil->En,getElem?_range->Er,all_eq_true->Eu,not_mem_nil->Ey,any_cons->Ez,length_set->EB,range_succ_eq_map->EE,length_singleton->EI,drop_eq_getElem_cons->EJ,getElem?_zip_eq_some->EK,nodup_cons->EN,map_append->ER,append_assoc->ES,getElem?_cons_zero->ET,mem_filter->EV,findIdx?_eq_some_iff_getElem->EY,length_nil->E5,drop_eq_nil_of_le->E7,take_of_length_le->E8,getElem?_toArray->Dg,dropLast_concat_getLast->Dh,length_take->Dk,getLast?_eq_some_iff->Dr,ext_getElem?->DG,length_range->DK,nodup_append->DL,take_add_one->DM,filter_cons->DR,getElem_mem->DS,eraseIdxIfInBounds_toArray->DV,mem_of_getElem?->DZ,range_eq_range'->D4,length_zip->D5,map_map->D7,nil_append->D8,filterMap_cons->Fa,map_congr_left->Fd,mem_filterMap->Fg,find?_eq_none->Fi,length_eraseIdx_of_lt->Fo,getElem?_nil->Fv,findIdx?_nil->Fw,filter_congr->Fx,findIdx?_eq_none_iff->Fy,getElem?_eq_none_iff->FA,any_eq_true->FG,range'_succ->FH,length_erase_of_mem->FJ,find?_range_eq_some->FN,getElem?_replicate->FO,pairwise_mergeSort->FS,of_mem_zip->FV,range_succ->F0,dropLast_eq_take->Im,set_getElem_self->Iq,length_filter_le->Iv,mem_erase_of_ne->IE,pairwise_append->IF,all_cons->II,toList_toArray->IQ,mergeSort_perm->IR,flatMap_append->IS,pairwise_cons->Ld,find?_append->Lj,pairwise_map->Ls,flatMap_cons->Lu,length_drop->LA,any_toArray->LG,mem_flatMap->LH,take_length->LI,foldl_cons->LS,range_zero->LU,le_trans->L5,nil_perm->L6,perm_nil->L7
open PySem.Heap renaming get?_push_of_some->Nl,lt_size->No,get?_push_size->Ny,get?_update_other->ED,get?_update_self->EH,size_push->Dz
open Nat renaming lt_of_lt_of_le->Nm,le_refl->Nn,le_trans->Nu,le_of_lt->ND,ne_of_lt->NG,le_of_eq->NH,lt_of_le_of_lt->NL,zero_le->NT,le_add_right->NW,zero_add->NZ,le_succ_of_le->N0,lt_trans->N4,lt_irrefl->Ed,not_lt->El,add_lt_add_left->Es,lt_succ_self->Ev,not_lt_zero->E6,le_succ->Dp,add_right_comm->Dx,lt_succ_of_lt->DN,sub_lt_left_of_lt_add->Fz,ne_of_gt->FD,add_zero->FI,add_sub_cancel_left->FP,not_le->IC,add_le_add_right->ID,min_le_right->Lz,succ_le_succ->LC,le_antisymm->LW,add_assoc->L3
open Bool renaming and_eq_true->NB,false_ne_true->N3,false_eq_true->Eh,or_eq_true->EC,and_false->Da,and_true->Fj,not_true->Fk,eq_iff_iff->F3,not_eq_true'->Lr,and_assoc->L0,or_false->L4,false_or->L8
open Int renaming emod_lt_of_pos->NM,emod_nonneg->NS,toNat_of_nonneg->Et,toNat_natCast->EA,ediv_nonneg->LR,add_assoc->L9
open Array renaming getElem?_eq_getElem->NN,length_toList->NR,getElem?_toList->Ee,mem_of_getElem?->DU,getElem?_eq_none->Ig,mem_toList_iff->Iy,forIn_toList->IV,toList_push->Ll
open Option.some renaming inj->NU
open PySem.PassesOwn renaming never->NV
open PyProof.Rows renaming slot_tuple_getitem->NY,callWith_type1->Ei,callWith_builtin1->D0,subscriptTail_builtinR->F9,boot_list->Ih,entry_tuple_getitem->IL,args_tuple_getitem->IZ,boot_range->LL,Subscript_->LN,iadd_int->LZ
open PySem.Paired renaming length->N6,snoc->Od
open PySem.Heap.SameBut renaming update->Ec,refl->Lk
open Sum.inr renaming inj->Eg
open PySem.F renaming plainAttrs_list->Ej,called_set->E1,slot_list_extend->De,slot_dict_get->Df,args_tuple_add_2->Dt,slot_list_pop->Du,slot_list_getattribute->Dy,entry_tuple_add->DC,slot_list_index->DD,plainAttrs_dict->DF,slot_tuple_add->DO,slot_list_append->D2,slot_dict_setdefault->Ff,type_list_extend->FL,type_list_index->FT,entry_dict_get->Ic,type_dict_get->Ir,type_list_pop->Iu,args_list_append_2->Iz,args_list_extend_2->IA,entry_list_append->IM,entry_list_extend->IN,plain_extend_loop->IP,entry_list_pop->LF,plain_set_new->LV,slot_set_iter->LX
open Ne renaming symm->EF
open LawfulBEq renaming eq_of_beq->EG
open PySem.Around renaming under_plainId->EQ
open Function renaming comp_def->E9
open Classical renaming byContradiction->Dq,choose_spec->Iw
open PySem.Calls renaming spliced_cons->Ds,spliced_nil->DI,Name_function_global->Fm,callWith_builtin->Ia
open PySem.Txt renaming slice_le->Dv
open PyProof.Rows.F renaming plain_set_update_loop->DE,entry_set_update_loop->FQ
open PySem.Value renaming isStrOf_shape->D9
open PySem.Challenge renaming pw_doneroom_k62_gone_by_the_room->FK
open PyProof renaming noPylong_small->F7
open PySem.Str renaming ofString_eq_toList->Ii
open PyProof.Rows.StrsAre renaming length->Io
open PySem.SeqAt.EqAt renaming int_str->IT,str_int->IU
open PySem.Code renaming quiet_builtin->Lb
open List.Perm renaming cons_inv->Lc
open PySem.IsL renaming update->LD
open PySem.Heap.DictOf renaming new->LP
open PyProof.Rows.IsTup renaming new->L1
open Sum.inl renaming inj->Oa
open PySem.Walks renaming range->Ob
open PySem.IsRange renaming new->Oc
open PySem.WalksT renaming zip2->Oe
open PySem.Heap.IsSliceOf renaming new->Of
open PySem PySem.Spec PyProof.Rows
namespace L2
noncomputable abbrev Key:=Sum Int Str
noncomputable def Qax:Key->Value->Bool
 |.inl k,v=>Value.isInt k v
 |.inr x,v=>Value.isStrOf x v
noncomputable def QmT(w:World):Key->Int
 |.inl k=>hashInt k
 |.inr x=>hashStr w x
theorem Q3:∀{k:Key} {v:Value},Qax k v=true->(∃i t,k=Sum.inl i/\v=Value.int i t)\/(∃x t,k=Sum.inr x/\v=Value.str x t)
 |.inl i,v,h=>by
  obtain⟨t,e⟩:=Value.isInt_shape (k:=i) (v:=v) h;exact .inl ⟨i,t,rfl,e⟩
 |.inr x,v,h=>by
  obtain⟨t,e⟩:=D9 (x:=x) (v:=v) h;exact .inr ⟨x,t,rfl,e⟩
theorem QbZ(i:Int)(t:Tok):Qax (.inl i) (.int i t)=true:=by simp[Qax,Value.isInt]
theorem Qbt(x:Str)(t:Tok):Qax (.inr x) (.str x t)=true:=by simp[Qax,Value.isStrOf]
theorem QiH(a b:Int):decide ((Sum.inl a:Key)=Sum.inl b)=(a==b):=by
 by_cases e:a=b
 ·subst e;simp
 ·have h:¬(Sum.inl a:Key)=Sum.inl b:=fun q=>e (Oa q);rw[decide_eq_false h];exact(beq_eq_false_iff_ne.mpr e).symm
theorem Qi4(a b:Str):decide ((Sum.inr a:Key)=Sum.inr b)=decide (a=b):=by
 by_cases e:a=b
 ·subst e;simp
 ·have h:¬(Sum.inr a:Key)=Sum.inr b:=fun q=>e (Eg q);rw[decide_eq_false h,decide_eq_false e]
theorem Qh1(a:Int)(b:Str):decide ((Sum.inl a:Key)=Sum.inr b)=false:=decide_eq_false (fun q=>nomatch q)
theorem QiL(a:Str)(b:Int):decide ((Sum.inr a:Key)=Sum.inl b)=false:=decide_eq_false (fun q=>nomatch q)
noncomputable def Zy(prog:Program)(w:World):PySem.KeyKind prog w Key where
 is:=Qax
 hash:=QmT w
 inj:=fun v a b g f=>by
  rcases Q3 g with⟨i,t,rfl,rfl⟩|⟨x,t,rfl,rfl⟩
  ·rcases Q3 f with⟨j,u,rfl,e⟩|⟨y,u,rfl,e⟩
   ·injection e with c _;rw[c]
   ·exact nomatch e
  ·rcases Q3 f with⟨j,u,rfl,e⟩|⟨y,u,rfl,e⟩
   ·exact nomatch e
   ·injection e with c _;rw[c]
 byValue:=fun k v h=>by
  rcases Q3 h with⟨i,t,rfl,rfl⟩|⟨x,t,rfl,rfl⟩<;>rfl
 pyHash:=fun d h=>by
  rcases Q3 d with⟨i,t,rfl,rfl⟩|⟨x,t,rfl,rfl⟩
  ·exact wpAny_pyHash_int h
  ·exact wpAny_pyHash_str h
 eqBool:=fun hu d h=>by
  rcases Q3 hu with⟨i,t,rfl,rfl⟩|⟨x,t,rfl,rfl⟩
  ·rcases Q3 d with⟨j,u,rfl,rfl⟩|⟨y,u,rfl,rfl⟩
   ·rw[QiH]at h;exact wpAny_eqBool_int h
   ·rw[Qh1]at h;exact IT i t y u _ _ _ _ h
  ·rcases Q3 d with⟨j,u,rfl,rfl⟩|⟨y,u,rfl,rfl⟩
   ·rw[QiL]at h;exact IU x t j u _ _ _ _ h
   ·rw[Qi4]at h;exact wpAny_eqBool_str h
 «strs»:=fun k x t v h=>by
  rcases Q3 h with⟨i,u,rfl,e⟩|⟨y,u,rfl,e⟩
  ·exact nomatch e
  ·injection e with c _
   subst c;cases v<;>rfl
theorem U8(prog:Program)(w:World)(i:Int)(t:Tok):(Zy prog w).is (.inl i) (.int i t)=true:=QbZ i t
theorem UE(prog:Program)(w:World)(x:Str)(t:Tok):(Zy prog w).is (.inr x) (.str x t)=true:=Qbt x t
inductive V where
 |non|bl (b:Bool)|int (i:Int)|str (x:Str)|byt (b:Array UInt8)|flt (b:UInt64)|ref (a:Addr)|ty (n:String)
 deriving DecidableEq
noncomputable def RelV:V->Value->Prop
 |.non,u=>u=Value.none
 |.bl b,u=>u=Value.bool b
 |.int i,u=>∃t,u=Value.int i t
 |.str x,u=>∃t,u=Value.str x t
 |.byt b,u=>∃t,u=Value.bytes b t
 |.flt b,u=>∃t,u=Value.float b t
 |.ref a,u=>u=Value.ref a
 |.ty n,u=>u=Value.type n
noncomputable abbrev Vals:List V->List Value->Prop:=Paired RelV
theorem Vals.length{xs:List V}{us:List Value}(r:Vals xs us):xs.length=us.length:=N6 r
theorem Vals.get:∀{xs:List V} {us:List Value} {i:Nat} {x:V},Vals xs us->xs[i]?=some x->∃u,us[i]?=some u/\RelV x u
 |_,_,_,_,.nil,e=>by simp at e
 |_,_,0,_,.cons r _,e=>by simp at e;subst e;exact⟨_,rfl,r⟩
 |_,_,i+1,x,.cons _ t,e=>by
  obtain⟨u,h1,h2⟩:=Vals.get (i:=i) (x:=x) t (by simpa using e);exact⟨u,by simpa using h1,h2⟩
theorem Vals.set{x:V}{u:Value}(r:RelV x u):∀{xs:List V} {us:List Value} (i:Nat),Vals xs us->Vals (xs.set i x) (us.set i u)
 |_,_,_,.nil=>.nil
 |_,_,0,.cons _ t=>.cons r t
 |_,_,i+1,.cons q t=>.cons q (Vals.set r i t)
theorem Vals.append:∀{xs ys:List V} {us ws:List Value},Vals xs us->Vals ys ws->Vals (xs++ys) (us++ws)
 |_,_,_,_,.nil,s=>s
 |_,_,_,_,.cons r t,s=>.cons r (Vals.append t s)
theorem Vals.take:∀{xs:List V} {us:List Value} (n:Nat),Vals xs us->Vals (xs.take n) (us.take n)
 |_,_,0,_=>.nil
 |_,_,_+1,.nil=>.nil
 |_,_,n+1,.cons r t=>.cons r (Vals.take n t)
theorem Vals.drop:∀{xs:List V} {us:List Value} (n:Nat),Vals xs us->Vals (xs.drop n) (us.drop n)
 |_,_,0,r=>r
 |_,_,_+1,.nil=>.nil
 |_,_,n+1,.cons _ t=>Vals.drop n t
noncomputable def RelO:Option V->Option Value->Prop
 |some v,some u=>RelV v u
 |none,none=>True
 |_,_=>False
noncomputable def KV{κ:Type}:List (κ×V)->List (κ×Value)->Prop:=Paired fun(p:κ×V) (q:κ×Value)=>p.1=q.1/\RelV p.2 q.2
inductive Tr where
 |i (n:Int)
 |s (x:Str)
 |t (ks:List Tr)
noncomputable instance trDec:DecidableEq Tr:=fun _ _=>Classical.propDecidable _
noncomputable def IsT(h:Heap):Nat->Tr->Value->Prop
 |0,_,_=>False
 |_+1,.i k,v=>(∃t,v=.int k t)\/∃b:Bool,v=.bool b/\k=if b then 1 else 0
 |_+1,.s x,v=>∃t,v=.str x t
 |n+1,.t ks,v=>∃a c,v=.ref a/\h.IsTuple a c/\Paired (IsT h n) ks c.toList
theorem GY{d c:Type}{F:d->c->Prop}(e:∀x y v,F x v->F y v->x=y):∀{xs ys:List d} {vs:List c},Paired F xs vs->Paired F ys vs->xs=ys
 |_,_,_,.nil,.nil=>rfl
 |_,_,_,.cons a s,.cons b t=>by rw[e _ _ _ a b,GY e s t]
theorem UX{h:Heap}{n:Nat}{x:Tr}{a:Addr}(d:IsT h n x (.ref a)):∃m ks c,n=m+1/\x=.t ks/\h.IsTuple a c/\Paired (IsT h m) ks c.toList:=by
 cases n with
 |zero=>exact d.elim
 |succ n=>
  cases x with
  |i k=>rcases d with⟨t,e⟩|⟨b,e,_⟩<;>cases e
  |s y=>obtain⟨t,e⟩:=d;cases e
  |t ks=>obtain⟨f,c,e,p,q⟩:=d;cases e;exact⟨n,ks,c,rfl,rfl,p,q⟩
theorem U4{h:Heap}{a:Addr}{x y:Array Value}(e:h.IsTuple a x)(d:h.IsTuple a y):x=y:=by
 obtain⟨o,g,_,n,f⟩:=e;obtain⟨i,c,_,j,b⟩:=d;rw[g]at c;cases c;rw[f]at b;injection b
theorem U0{h:Heap}:∀{n:Nat} (x y:Tr) (v:Value),IsT h n x v->IsT h n y v->x=y
 |0,_,_,_,g,_=>g.elim
 | n+1,x,y,v,g,f=>by
  cases v with
  |ref a=>
   obtain⟨m,ks,d,e,rfl,p,q⟩:=UX g;obtain⟨u,j,l,c,rfl,r,o⟩:=UX f;cases e;cases c;cases U4 p r;rw[GY (fun x y v=>U0 (n:=n) x y v) q o]
  | _=>
   cases x with
   | i k=>
    cases y with
    |i w=>
     rcases g with⟨t,e⟩|⟨b,e,rfl⟩<;>cases e<;>rcases f with⟨t,e⟩|⟨b,e,rfl⟩<;>cases e<;>rfl
    |s y=>obtain⟨t,e⟩:=f;rcases g with⟨t,c⟩|⟨b,c,_⟩<;>(rw[e]at c;cases c)
    |t j=>obtain⟨a,d,e,_⟩:=f;cases e
   |s z=>
    obtain⟨t,c⟩:=g;cases y with
    |i k=>rcases f with⟨t,e⟩|⟨b,e,_⟩<;>(rw[e]at c;cases c)
    |s y=>obtain⟨t,e⟩:=f;rw[e]at c;cases c;rfl
    |t j=>obtain⟨a,d,e,_⟩:=f;cases e
   |t ks=>obtain⟨a,d,e,_⟩:=g;cases e
theorem Yw{g e:Type}{F G:g->e->Prop}(f:∀a b,F a b->G a b):∀{d:List g} {c:List e},Paired F d c->Paired G d c
 |_,_,.nil=>.nil
 |_,_,.cons r t=>.cons (f _ _ r) (Yw f t)
theorem Us{h h':Heap}{d:Addr}{o:Obj}{u w}(g:h.get? d=some o)(hd:o.data=.dict u w)(l:Heap.SameBut d h h'):∀{n:Nat} (k:Tr) (v:Value),IsT h n k v->IsT h' n k v
 |0,_,_,x=>x.elim
 |n+1,.i k,v,x=>x
 |n+1,.s k,v,x=>x
 | n+1,.t ks,v,⟨a,f,e,⟨p,c,r,m,b⟩,q⟩=>by
  have j:a≠d:=by
   rintro rfl
   rw[c]at g;cases g;rw[hd]at b;exact nomatch b
  exact⟨a,f,e,⟨p,(l.2 a j).trans c,r,m,b⟩,Yw (fun k v=>Us g hd l k v) q⟩
noncomputable def hN(w:World):Nat->Tr->Int
 |0,_=>0
 |_+1,.i k=>hashInt k
 |_+1,.s x=>hashStr w x
 |n+1,.t ks=>reduceHash (Builtin.Tuple.tupleHashOf (ks.map (hN w n)))
noncomputable def dN:Nat->Tr->Nat
 |0,_=>0
 |_+1,.i _=>1
 |_+1,.s _=>1
 |n+1,.t ks=>(ks.map (dN n)).sum+1
section
variable{prog:Program}{w:World}{E:Value->Shared->Prop}
theorem WZ{n:Nat}{A:Around}(c:∀(k:Tr) (v:Value) (s:Shared) (Q:Int->Shared->Prop),IsT s.heap n k v->Q (hN w n k) { s with toks:=s.toks+dN n k }->wpAny (model prog w) A (pyHash v) Q E s) :
  ∀(ks:List Tr) (vs:List Value) (s:Shared) (b:Array Int) (Q:Array Int->Shared->Prop),Paired (IsT s.heap n) ks vs ->
  (∀a,a.toList=b.toList++ks.map (hN w n)->Q a { s with toks:=s.toks+(ks.map (dN n)).sum }) ->
  wpAny (model prog w) A (forIn vs b fun x r=>do let h <-pyHash x;pure PUnit.unit;pure (ForInStep.yield (r.push h))) Q E s
 |[],_,s,b,Q,x,h=>by cases x;exact Nh (h b (by simp))
 | k::ks,_,s,b,Q,x,h=>by
  cases x with
  |cons e d=>
   rw[List.forIn_cons];refine Nc (Nc (c k _ s _ e ?_));refine Nc (Nh (Nh ?_));refine WZ c ks _ _ _ Q d fun a f=>?_;have:=h a (by simp[f]);simpa[L3]using this
theorem Qey:∀(n:Nat) (A:Around),A.units+n<cLine->∀(k:Tr) (v:Value) (s:Shared) (Q:Int->Shared->Prop),IsT s.heap n k v->Q (hN w n k) { s with toks:=s.toks+dN n k }->wpAny (model prog w) A (pyHash v) Q E s
 |0,_,_,_,_,_,_,x,_=>x.elim
 | n+1,A,hu,.i k,v,s,Q,x,h=>by
  rcases x with⟨t,rfl⟩|⟨b,rfl,rfl⟩
  ·exact wpAny_pyHash_int h
  ·refine IJ (T:="bool") rfl F.slot_bool_hash entry_int_hash (args_int_hash _) (beq_builtin_none _) (.inr (by omega)) ?_;cases b
   ·exact(show wpAny _ _ (do ret (<-mkInt 0)) _ _ s from Nc (Lv (Nh ⟨_,_,rfl,h⟩)))
   ·exact(show wpAny _ _ (do ret (<-mkInt 1)) _ _ s from Nc (Lv (Nh ⟨_,_,rfl,h⟩)))
 |n+1,A,hu,.s y,v,s,Q,x,h=>by
  obtain⟨t,rfl⟩:=x;exact wpAny_pyHash_str h
 |n+1,A,hu,.t d,v,s,Q,x,h=>by
  obtain⟨a,e,rfl,⟨o,c,f,m,hd⟩,q⟩:=x;refine IJ (T:="tuple") ⟨_,c,f⟩ F.slot_tuple_hash F.entry_tuple_hash (F.args_tuple_hash_1 _) (beq_builtin_none _) (.inr (by omega)) ?_;show wpAny _ _ (Builtin.Tuple.tupleItemsOf (.ref a)>>=_) _ _ s;refine Nc (wpAny_tupleItemsOf c hd ?_);refine Nc ?_;rw[<-IV];refine WZ (n:=n) (fun k v s Q=>Qey n A.in1 (by show A.units+1+n<cLine;omega) k v s Q) d _ s #[] _ q fun b g=>?_;show wpAny _ _ (retInt (Builtin.Tuple.tupleHashOf b.toList)) _ _ _;rw[g];refine Nc (Lv (Nh ⟨_,_,rfl,?_⟩));simpa[hN,dN,L3]using h
theorem Qgy{n:Nat}{h:Heap}{e:Nat->Bool}:∀{ks ls:List Tr} {us vs:List Value},Paired (IsT h n) ks us->Paired (IsT h n) ls vs->(∀(j:Nat) (x y:Tr),ks[j]?=some x->ls[j]?=some y->e j=decide (x=y)) ->
  ((List.range (min us.length vs.length)).all e&&us.length==vs.length)=decide (Tr.t ks=Tr.t ls):=by
 intro ks ls us vs p q f;have i:=N6 p;have g:=N6 q;rw[<-i,<-g]
 by_cases d:ks.length=ls.length
 ·by_cases c:ks=ls
  ·subst c;simp only[Nat.min_self,beq_self_eq_true,Fj,decide_true];rw[Eu];intro j a;rw[N7]at a;rw[f j ks[j] ks[j] (Ni a) (Ni a)];simp
  ·have:decide (Tr.t ks=Tr.t ls)=false:=decide_eq_false fun z=>c (Tr.t.inj z);rw[this,Bool.and_eq_false_iff];left;have:∃j,ks[j]?≠ls[j]?:=Dq fun z=>c (DG fun j=>Dq fun y=>z ⟨j,y⟩);obtain⟨j,a⟩:=this;have b:j<ks.length:=Dq fun z=>a (by rw[NF (by omega),NF (by omega)]);rw[List.all_eq_false];refine⟨j,N7.mpr (by omega),?_⟩;rw[f j ks[j] ls[j] (Ni b) (Ni (by omega))];intro z;rw[decide_eq_true_eq]at z;exact a (by rw[Ni b,Ni (by omega),z])
 ·have l:(ks.length==ls.length)=false:=beq_eq_false_iff_ne.mpr d;rw[l,Da];exact(decide_eq_false fun z=>d (by rw[Tr.t.inj z])).symm
theorem XR{c d:Type}{F:c->d->Prop}:∀{b:List c} {a:List d} {j:Nat} {x:c},Paired F b a->b[j]?=some x->∃v,a[j]?=some v/\F x v
 |_,_,0,x,.cons r t,e=>by simp at e;subst e;exact⟨_,rfl,r⟩
 |_,_,j+1,x,.cons r t,e=>by
  obtain⟨v,h1,h2⟩:=XR (j:=j) (x:=x) t (by simpa using e);exact⟨v,by simpa using h1,h2⟩
open SeqAt in
theorem Qlo{s:Shared}:∀(n:Nat) (A:Around),A.units+n<cLine->∀(x y:Tr) (u v:Value),IsT s.heap n x u->IsT s.heap n y v->EqAt A s u v (decide (x=y))
 |0,_,_,_,_,_,_,c,_=>c.elim
 | n+1,A,hu,.i a,.i b,u,v,c,d=>by
  have hd:decide (Tr.i a=Tr.i b)=(a==b):=by
   by_cases z:a=b
   ·subst z;simp
   ·rw[decide_eq_false fun q=>z (Tr.i.inj q)];exact(beq_eq_false_iff_ne.mpr z).symm
  rw[hd]
  rcases c with⟨t,rfl⟩|⟨p,rfl,rfl⟩<;>rcases d with⟨g,rfl⟩|⟨q,rfl,rfl⟩
  ·exact EqAt.int_int a t b g
  ·exact EqAt.int_bool a t q
  ·exact EqAt.bool_int p b g
  ·have:=EqAt.bool_bool (A:=A) (s:=s) p q;cases p<;>cases q<;>exact this
 |n+1,A,hu,.i a,.s b,u,v,c,d=>by
  obtain⟨g,rfl⟩:=d;rw[decide_eq_false (fun z=>nomatch z)]
  rcases c with⟨t,rfl⟩|⟨p,rfl,rfl⟩
  ·exact EqAt.int_str a t b g
  ·exact EqAt.bool_str p b g
 |n+1,A,hu,.i a,.t h,u,v,c,d=>by
  obtain⟨ad,f,rfl,p,_⟩:=d;rw[decide_eq_false (fun z=>nomatch z)]
  rcases c with⟨t,rfl⟩|⟨q,rfl,rfl⟩
  ·exact EqAt.int_tuple a t p (by omega)
  ·exact EqAt.bool_tuple q p (by omega)
 |n+1,A,hu,.s b,.i a,u,v,c,d=>by
  obtain⟨g,rfl⟩:=c;rw[decide_eq_false (fun z=>nomatch z)]
  rcases d with⟨t,rfl⟩|⟨p,rfl,rfl⟩
  ·exact EqAt.str_int b g a t
  ·exact EqAt.str_bool b g p
 | n+1,A,hu,.s a,.s b,u,v,c,d=>by
  obtain⟨t,rfl⟩:=c;obtain⟨g,rfl⟩:=d
  have hd:decide (Tr.s a=Tr.s b)=(a==b):=by
   by_cases z:a=b
   ·subst z;simp
   ·rw[decide_eq_false fun q=>z (Tr.s.inj q)];exact(beq_eq_false_iff_ne.mpr z).symm
  rw[hd];exact EqAt.str_str a t b g
 |n+1,A,hu,.s b,.t h,u,v,c,d=>by
  obtain⟨ad,f,rfl,p,_⟩:=d;obtain⟨t,rfl⟩:=c;rw[decide_eq_false (fun z=>nomatch z)];exact EqAt.str_tuple b t p (by omega)
 |n+1,A,hu,.t h,.i a,u,v,c,d=>by
  obtain⟨ad,f,rfl,p,_⟩:=c;rw[decide_eq_false (fun z=>nomatch z)]
  rcases d with⟨t,rfl⟩|⟨q,rfl,rfl⟩
  ·exact EqAt.tuple_int a t p (by omega)
  ·exact EqAt.tuple_bool q p (by omega)
 |n+1,A,hu,.t h,.s b,u,v,c,d=>by
  obtain⟨ad,f,rfl,p,_⟩:=c;obtain⟨t,rfl⟩:=d;rw[decide_eq_false (fun z=>nomatch z)];exact EqAt.tuple_str b t p (by omega)
 | n+1,A,hu,.t h,.t l,u,v,c,d=>by
  obtain⟨ad,f,rfl,p,q⟩:=id c;obtain⟨S,m,rfl,J,F⟩:=id d
  by_cases B:ad=S
  ·subst B;have:=U0 _ _ _ c d;rw[this,decide_eq_true rfl];exact EqAt.same _
  ·refine EqAt.of_refs B ?_;have P:=Qlo (s:=s) n A.in1 (by show A.units+1+n<cLine;omega)
   have I:=RcAt.tuples (A:=A) (s:=s) (e:=fun j=>match h[j]?,l[j]? with|some x,some y=>decide (x=y)|_,_=>false) p J (by omega) (fun j D C=>by
    have M:=N6 q;have L:=N6 F;have O:j<h.length:=by rw[M];exact D
    have N:j<l.length:=by rw[L];exact C
    obtain⟨x,c⟩:∃x,h[j]?=some x:=⟨h[j],Ni O⟩
    obtain⟨y,d⟩:∃y,l[j]?=some y:=⟨l[j],Ni N⟩
    obtain⟨u,o,G⟩:=XR q c;obtain⟨t,r,H⟩:=XR F d;rw[c,d]
    have R:f[j]=u:=by
     rw[Ee,NN D]at o;exact NU o
    have Q:m[j]=t:=by
     rw[Ee,NN C]at r;exact NU r
    rw[R,Q]
    exact P x y u t G H)
   have:=Qgy (e:=fun j=>match h[j]?,l[j]? with|some x,some y=>decide (x=y)|_,_=>false) q F (fun j x y D C=>by simp only[D,C]);rw[NR,NR]at this;rw[this]at I;exact I
theorem QbE{A:Around}{s:Shared}:∀(n m:Nat) (k:Tr) (v:Value) (Q:Bool->Shared->Prop),IsT s.heap n k v->n<=m->Q true s->wpAny (model prog w) A (eqIsQuiet m v) Q E s
 |0,_,_,_,_,x,_,_=>x.elim
 |n+1,m,.i k,v,Q,x,_,h=>by
  rcases x with⟨t,rfl⟩|⟨b,rfl,rfl⟩
  ·rw[Fp _ rfl];exact Nh h
  ·rw[Fp _ rfl];exact Nh h
 |n+1,m,.s k,v,Q,x,_,h=>by
  obtain⟨t,rfl⟩:=x;rw[Fp _ rfl];exact Nh h
 |n+1,0,.t f,v,Q,x,u,h=>by omega
 | n+1,m+1,.t f,v,Q,x,u,h=>by
  obtain⟨a,e,rfl,⟨o,g,y,l,hd⟩,q⟩:=x;have j:s.TypeIs (.ref a) "tuple":=⟨o,g,y⟩
  unfold eqIsQuiet;refine Nc (DW j F.slot_tuple_eq.lookup ?_);show wpAny _ _ (isInstance (.ref a) (.type "tuple")>>=_) _ _ s;refine Nc (FC j isSubtype_tuple_tuple ?_);simp only[Fk,Eh,if_false];refine Nc (Ij g hd ?_);refine Nc ?_;show wpAny _ _ (forIn e _ _) _ _ s;rw[<-IV];refine DQ _ (fun rest r d=>r.1=none/\d=s/\∃c,Paired (IsT s.heap n) c rest) _ ?_ ?_ _ _ ⟨rfl,rfl,f,q⟩
  ·rintro v rest r d ⟨hr,rfl,c,p⟩
   cases p with
   |cons q1 q2=>
    refine Nc (QbE n m _ _ _ q1 (by omega) ?_);simp only[Fk,Eh,if_false];exact Nh ⟨rfl,rfl,_,q2⟩
  ·rintro⟨B,z⟩ d ⟨hr,rfl,_⟩
   simp only at hr;subst hr;exact Nh h
end
noncomputable def Zn(prog:Program)(w:World):HeapKind prog w Tr where
 is:=fun h k a=>IsT h 8 k (.ref a)
 hash:=hN w 8
 draws:=dN 8
 room:=fun A=>A.units+8<cLine
 inj:=fun c b=>U0 _ _ _ c b
 keeps:=fun x f hd e=>Us f hd e _ _ x
 pyHash:=fun hu d h=>Qey 8 _ hu _ _ _ _ d h
 eqBool:=fun hu c b h=>Qlo 8 _ hu _ _ _ _ c b _ _ _ _ h
 quiet:=fun d h=>QbE 8 8 _ _ _ d (Nn _) h
noncomputable def kV:Key->V
 |.inl i=>.int i
 |.inr x=>.str x
inductive HO where
 /-- a list -/
 |lst (xs:List V)
 /-- a tuple (never changes) -/
 |tup (xs:List V)
 /-- a dict whose keys are ints and texts;one whose keys are tuples of ints and texts (the empty one is both) -/
 |dK (kvs:List (Key×V))|dT (kvs:List (Tr×Addr×V))
 /-- a set of ints: its members,its size -/
 |set (S:Int->Bool) (n:Nat)
 /-- an instance of the class at C,its dict at dx,its attributes -/
 |ins (C dx:Addr) (fs:List (Str×V))
 /-- the dict of the instance at x -/
 |own (x:Addr)
 /-- the dict of an exception -/
 |xd (fs:List (Str×V))
 /-- a bound method,f of x -/
 |met (f x:Addr)
 /-- a range object lo,lo+1,.. below hi -/
 |rng (lo hi:Int)
 /-- a thing that is known to the object (the script;a dict while a loop walks it): read,never written while it is so -/
 |frz (o:Obj) (u:HO)
 /-- a code object's table -/
 |tbl (ps:Array Value)
 /-- any other thing,by what is true of its one object (a def of one's own: SetO a S n:=HO.ext fun h=>..) -/
 |ext (φ:Heap->Prop)
noncomputable abbrev Hp:=Addr->Option HO
noncomputable def upd(H:Hp)(a:Addr)(o:HO):Hp:=fun b=>if b=a then some o else H b
theorem ZH{H:Hp}{a:Addr}{o:HO}:upd H a o a=some o:=by unfold upd;rw[if_pos rfl]
theorem Qt{H:Hp}{a b:Addr}{o:HO}(h:b≠a):upd H a o b=H b:=by unfold upd;rw[if_neg h]
theorem QgG{H:Hp}{a:Addr}{o u:HO}:upd (upd H a o) a u=upd H a u:=by
 funext b;unfold upd;split<;>rfl
theorem Jp{H:Hp}{a b:Addr}{o:HO}(h:H a=some o)(h':H b=none):a≠b:=by
 intro e;subst e;rw[h]at h';cases h'
section
variable(P:Program)(w:World)
noncomputable def ObjOk(H:Hp)(h:Heap)(a:Addr):HO->Prop
 |.lst xs=>xs.length<=sizeLine/\∃(b:List Value) (n:Nat),Vals xs b/\h.get? a=some { cls:=.type "list",data:=.seq b.toArray n }
 |.tup xs=>xs.length<=sizeLine/\∃b:List Value,Vals xs b/\IsTup h a b.toArray
 |.dK kvs=>kvs.length<=sizeLine/\(a==sysModules)=false/\∃vs,KV kvs vs/\h.DictOf (Zy P w) a vs
 | .dT kvs=>kvs.length<=sizeLine/\(a==sysModules)=false/\∃xs:List (Tr×Addr×Value),
   Paired (fun(p:Tr×Addr×V) (q:Tr×Addr×Value)=>p.1=q.1/\p.2.1=q.2.1/\RelV p.2.2 q.2.2) kvs xs /\
   ∃o g i,h.get? a=some o/\o.ExactDict/\o.data=.dict g i/\g.toList=xs.map (entryOfKey (Zn P w))/\(xs.map (·.1)).Nodup/\i=g.size
 |.set S n=>h.SetOf (intKind P w) a S n
 | .ins C d fs=>H d=some (.own a)/\fs.length<=1000/\d≠a/\h.get? a=some (EM C d) /\
   ∃c,h.Ns1 d c/\(∀f,RelO (fs.lookup f) (c f))/\IW c (fs.map (·.1))
 |.own _=>∃o,h.get? a=some o
 |.xd fs=>∃c,h.Ns1 a c/\∀f,RelO (fs.lookup f) (c f)
 |.rng lo j=>∃t u v,h.get? a=some { cls:=.type "range",data:=.fields #[.int lo t,.int j u,.int 1 v] }
 |.frz o u=>h.get? a=some o/\ObjOk H h a u
 |.tbl ps=>h.get? a=some { cls:=.none,data:=.fields ps }
 |.met f x=>h.get? a=some (Fq (.ref f) (.ref x))
 |.ext e=>e h/\(∃o,h.get? a=some o)/\∀h1 h2:Heap,e h1->(∀o,h1.get? a=some o->h2.get? a=some o)->e h2
def HOk(H:Hp)(h:Heap):Prop:=∀a o,H a=some o->ObjOk P w H h a o
end
section
variable{P:Program}{w:World}{H H':Hp}{h h':Heap}{a:Addr}{o:HO}
theorem ObjOk.lt(x:ObjOk P w H h a o):a<h.objs.size:=by
 cases o with
 |lst c=>obtain⟨_,_,_,_,e⟩:=x;exact No e
 |tup c=>obtain⟨_,_,_,p⟩:=x;exact p.lt
 |dK b=>obtain⟨_,_,_,_,o,_,_,e,_⟩:=x;exact No e
 |dT b=>obtain⟨_,_,_,_,o,_,_,e,_⟩:=x;exact No e
 |set S n=>obtain⟨o,_,_,_,e,_⟩:=x;exact No e
 |ins C i fs=>obtain⟨_,_,_,e,_⟩:=x;exact No e
 |own y=>obtain⟨_,e⟩:=x;exact No e
 |xd fs=>obtain⟨_,⟨_,_,_,e,_⟩,_⟩:=x;exact No e
 |rng lo g=>obtain⟨_,_,_,e⟩:=x;exact No e
 |frz ob u=>obtain⟨e,_⟩:=x;exact No e
 |tbl ps=>exact No (show h.get? a=some _ from x)
 |met f y=>exact No (show h.get? a=some _ from x)
 |ext d=>obtain⟨_,⟨_,e⟩,_⟩:=x;exact No e
theorem Paired.mapP{g e:Type}{F G:g->e->Prop}:∀{d:List g} {c:List e},Paired F d c->(∀a b,F a b->G a b)->Paired G d c
 |_,_,.nil,_=>.nil
 |_,_,.cons r t,f=>.cons (f _ _ r) (Paired.mapP t f)
theorem ObjOk.stay(x:ObjOk P w H h a o)(k:∀b u,(b=a\/H b=some (.own a))->h.get? b=some u->h'.get? b=some u)
  (D:∀b,H b=some (.own a)->H' b=some (.own a)) (G:∀b xs,H b=some (.tup xs)->H' b=some (.tup xs)):ObjOk P w H' h' a o:=by
 induction o with
 |lst xs=>obtain⟨z,j,n,r,e⟩:=x;exact⟨z,j,n,r,k _ _ (.inl rfl) e⟩
 |tup xs=>obtain⟨z,j,r,ob,e,c⟩:=x;exact⟨z,j,r,ob,k _ _ (.inl rfl) e,c⟩
 |dK s=>obtain⟨z,y,A,r,ob,g,i,e,c⟩:=x;exact⟨z,y,A,r,ob,g,i,k _ _ (.inl rfl) e,c⟩
 |dT s=>
  obtain⟨z,y,xs,r,ob,g,i,e,c⟩:=x;exact⟨z,y,xs,r,ob,g,i,k _ _ (.inl rfl) e,c⟩
 |set S n=>obtain⟨ob,g,i,t,e,c⟩:=x;exact⟨ob,g,i,t,k _ _ (.inl rfl) e,c⟩
 |ins C J fs=>
  obtain⟨d,z,ne,e,m,⟨l,g,i,E,c⟩,r⟩:=x;exact⟨D _ d,z,ne,k _ _ (.inl rfl) e,m,⟨l,g,i,k _ _ (.inr d) E,c⟩,r⟩
 |own y=>obtain⟨ob,e⟩:=x;exact⟨ob,k _ _ (.inl rfl) e⟩
 |xd fs=>obtain⟨m,⟨l,g,i,e,c⟩,r⟩:=x;exact⟨m,⟨l,g,i,k _ _ (.inl rfl) e,c⟩,r⟩
 |rng lo I=>obtain⟨t,u,v,e⟩:=x;exact⟨t,u,v,k _ _ (.inl rfl) e⟩
 |frz ob u B=>obtain⟨e,q⟩:=x;exact⟨k _ _ (.inl rfl) e,B q⟩
 |tbl ps=>
  have e:h.get? a=some { cls:=.none,data:=.fields ps }:=x;show h'.get? a=some { cls:=.none,data:=.fields ps };exact k a _ (.inl rfl) e
 |met f y=>
  have e:h.get? a=some (Fq (.ref f) (.ref y)):=x;show h'.get? a=some (Fq (.ref f) (.ref y));exact k a _ (.inl rfl) e
 |ext F=>obtain⟨p,⟨o,e⟩,st⟩:=x;exact⟨st _ _ p fun o q=>k _ _ (.inl rfl) q,⟨o,k _ _ (.inl rfl) e⟩,st⟩
theorem HOk.lt(x:HOk P w H h)(e:H a=some o):a<h.objs.size:=(x a o e).lt
theorem HOk.fresh(x:HOk P w H h)(e:h.objs.size<=a):H a=none:=by
 cases q:H a with
 |none=>rfl
 |some u=>exact absurd (Nm (x.lt q) e) (Ed _)
theorem HOk.kept(x:HOk P w H h)(k:∀b u,h.get? b=some u->h'.get? b=some u):HOk P w H h':=fun a o e=>
 (x a o e).stay (fun b u _ q=>k b u q) (fun _ q=>q) fun _ _ q=>q
theorem HOk.laid(x:HOk P w H h)(k:∀b u,h.get? b=some u->h'.get? b=some u)(hp:h.objs.size<=a)(new:ObjOk P w (upd H a o) h' a o):HOk P w (upd H a o) h':=fun b u e=>by
 have d:=x.fresh hp
 by_cases f:b=a
 ·subst f;rw[ZH]at e;cases e;exact new
 ·rw[Qt f]at e;exact(x b u e).stay (fun c v _ q=>k c v q) (fun c q=>by rw[Qt (Jp q d)];exact q) fun c g q=>by rw[Qt (Jp q d)];exact q
end
def Rd(H:Hp)(a:Addr)(u:HO):Prop:=H a=some u\/∃o,H a=some (.frz o u)
theorem Rd.ok{P:Program}{w:World}{H:Hp}{h:Heap}{a:Addr}{u:HO}(r:Rd H a u)(x:HOk P w H h):ObjOk P w H h a u:=by
 rcases r with r|⟨o,r⟩
 ·exact x a u r
 ·obtain⟨_,q⟩:=x a _ r;exact q
noncomputable def Mut:Option HO->Prop
 |some (.lst _)=>True
 |some (.dK _)=>True
 |some (.dT _)=>True
 |some (.set _ _)=>True
 |some (.ins _ _ _)=>True
 |some (.ext _)=>True
 |_=>False
section
variable{P:Program}{w:World}{H:Hp}{h h':Heap}{x e:Addr}{o':HO}
theorem HOk.write(ok:HOk P w H h)(i:Mut (H x))(o:e=x\/H e=some (.own x))(k:∀b u,b≠e->h.get? b=some u->h'.get? b=some u)(m:∃u,h'.get? e=some u)
  (new:ObjOk P w (upd H x o') h' x o'):HOk P w (upd H x o') h':=fun b u q=>by
 have d:∀c y,H c=some (.own y)->c≠x:=fun c y r z=>by subst z;rw[r]at i;exact i
 have f:∀c g,H c=some (.tup g)->c≠x:=fun c g r z=>by subst z;rw[r]at i;exact i
 by_cases l:b=x
 ·subst l;rw[ZH]at q;cases q;exact new
 ·rw[Qt l]at q
  by_cases a:b=e
  ·have n:H b=some (.own x):=by
    rcases o with z|z
    ·exact absurd (a.trans z) l
    ·rw[a];exact z
   rw[q]at n;cases n;obtain⟨v,p⟩:=m;exact⟨v,by rw[a];exact p⟩
  ·refine(ok b u q).stay (fun c v j r=>k c v ?_ r) (fun c r=>by rw[Qt (d c b r)];exact r) fun c g r=>by rw[Qt (f c g r)];exact r
   rcases j with rfl|j
   ·exact a
   ·rintro rfl
    rcases o with z|z
    ·exact d c b j z
    ·rw[j]at z;cases z;exact l rfl
end
structure Un(fs ex:List Addr)(H H':Hp)(h h':Heap):Prop where
 keep:∀b o,h.get? b=some o->H b=none->b∉fs->b∉ex->h'.get? b=some o
 slot:∀b o,h.get? b=some o->H b=none->b∈fs->b∉ex->∃sl,h'.get? b=some { o with slots:=sl }
 free:∀b o,h.get? b=some o->H b=none->b∉ex->H' b=none
 there:∀b o,h.get? b=some o->b∉ex->∃o',h'.get? b=some o'
 tups:∀b xs,H b=some (.tup xs)->H' b=some (.tup xs)
 frzs:∀b o u,H b=some (.frz o u)->H' b=some (.frz o u)
 tbls:∀b ps,H b=some (.tbl ps)->∃more,H' b=some (.tbl (ps++more))
section
variable{fs fs' ex ex':List Addr}{H H1 H2:Hp}{h h1 h2 h':Heap}{a x e:Addr}{o:HO}
theorem Un.any(u:Un fs ex H H1 h h1){b:Addr}{ob:Obj}(q:h.get? b=some ob)(n:H b=none)(c:b∉ex):∃f,h1.get? b=some { ob with slots:=f }:=by
 by_cases d:b∈fs
 ·exact u.slot b ob q n d c
 ·exact⟨ob.slots,u.keep b ob q n d c⟩
theorem Un.kept(k:∀b u,h.get? b=some u->h'.get? b=some u):Un fs ex H H h h':=
 ⟨fun b ob q _ _ _=>k b ob q,fun b ob q _ _ _=>⟨ob.slots,k b ob q⟩,fun _ _ _ n _=>n,fun b ob q _=>⟨ob,k b ob q⟩,fun _ _ q=>q,fun _ _ _ q=>q,fun _ ps q=>⟨#[],by rw[q];simp⟩⟩
theorem Un.refl:Un fs ex H H h h:=Un.kept fun _ _ q=>q
theorem Un.laid(k:∀b u,h.get? b=some u->h'.get? b=some u)(hp:h.objs.size<=a)(c:H a=none):Un fs ex H (upd H a o) h h' where
 keep:=fun b u q _ _ _=>k b u q
 slot:=fun b u q _ _ _=>⟨u.slots,k b u q⟩
 free:=fun b u q n _=>by rw[Qt (NG (Nm (No q) hp))];exact n
 there:=fun b u q _=>⟨u,k b u q⟩
 tups:=fun b d q=>by rw[Qt (Jp q c)];exact q
 frzs:=fun b u d q=>by rw[Qt (Jp q c)];exact q
 tbls:=fun b ps q=>⟨#[],by rw[Qt (Jp q c),q];simp⟩
theorem Un.write(d:Mut (H x))(m:e=x\/H e=some (.own x))(k:∀b u,b≠e->h.get? b=some u->h'.get? b=some u)(g:∃u,h'.get? e=some u):Un fs ex H (upd H x o) h h':=by
 have i:∀b,H b=none->b≠x:=fun b n z=>by subst z;rw[n]at d;exact d
 have j:∀b,H b=none->b≠e:=fun b n z=>by
  subst z
  rcases m with r|r
  ·exact i b n r
  ·rw[n]at r;cases r
 have f:∀b u,H b=some u->¬Mut (some u)->b≠x:=fun b u q nm z=>by subst z;rw[q]at d;exact nm d
 refine⟨fun b u q n _ _=>k b u (j b n) q,fun b u q n _ _=>⟨u.slots,k b u (j b n) q⟩,fun b u q n _=>by rw[Qt (i b n)];exact n,fun b u q _=>?_,
  fun b l q=>by rw[Qt (f b _ q fun z=>z)];exact q,fun b u l q=>by rw[Qt (f b _ q fun z=>z)];exact q,fun b ps q=>⟨#[],by rw[Qt (f b _ q fun z=>z),q];simp⟩⟩
 by_cases c:b=e
 ·subst c;exact g
 ·exact⟨u,k b u c q⟩
end
noncomputable def trk(h:Heap)(H:Hp):List Addr:=(List.range h.objs.size).filter fun a=>(H a).isSome
noncomputable def Qdd(h:Heap)(H:Hp):Heap:=PySem.W.hideAll h (trk h H)
theorem QbY(h:Heap)(H:Hp):(Qdd h H).objs.size=h.objs.size:=PySem.W.hideAll_size _ _
theorem QdK{h:Heap}{H:Hp}{b:Addr}{o:Obj}(e:h.get? b=some o)(n:H b=none):(Qdd h H).get? b=some o:=
 PySem.W.hideAll_get _ e fun a=>by
  have q:(H b).isSome=true:=(EV.mp a).2;rw[n]at q;simp at q
theorem QfV{h:Heap}{H:Hp}{b:Addr}{o:Obj}(e:(Qdd h H).get? b=some o):h.get? b=some o/\H b=none:=by
 have a:h.get? b=some o:=PySem.W.of_hideAll (trk h H) e;refine⟨a,?_⟩;cases q:H b with
 |none=>rfl
 |some x=>
  have c:b∈trk h H:=EV.mpr ⟨N7.mpr (No a),by simp[q]⟩;have z:(Qdd h H).get? b=none:=PySem.W.hideAll_none (trk h H) c;rw[z]at e;cases e
structure Mod(K:Nd)(mg:Str->Option Value)(base:Heap):Prop where
 kin:K.In base
 glob:base.Ns mainGlobals mg
 blt:∃mb,base.Ns builtinsNs mb/\∀x:Str,x≠"__name__"->mb x=bootBuiltins x
 nolimit:base.NoLimit
structure Cx where
 prog:Program
 w:World
 K:Nd
 mg:Str->Option Value
 base:Heap
 A:Around
 N:List Str
 s₀:Shared
 H₀:Hp
 env:Env
 outer:List Env
 stack:List Env
 ex:List Addr
 fn:Str->Bool
 calm:Bool
 pn:List (Addr×Obj)
 xe:Value->Shared->Prop
noncomputable def frs(l:List Env):List Addr:=l.filterMap (·.frame)
noncomputable abbrev Cx.fs(X:Cx):List Addr:=frs X.outer
def Vis(a:Scope)(x:Str):Prop:=a.names.lookup x=some .local\/a.names.lookup x=some .cell\/a.names.lookup x=some .free
def Loc(a:Scope)(x:Str):Prop:=a.names.lookup x=some .local\/a.names.lookup x=some .cell
def QmP(env:Env)(h:Heap)(m:Str->Option Value)(x:Str)(u:Value):Prop:=
 (env.kindOf x=some .local/\m x=some u)\/((env.kindOf x=some .cell\/env.kindOf x=some .free)/\∃c,env.cells.lookup x=some c/\h.IsCell c (some u))
structure Cx.Ok(X:Cx):Prop where
 mod:Mod X.K X.mg X.base
 kind:X.env.scope.kind=.function
 glob:X.env.globals=mainGlobals
 blt:X.env.builtins=builtinsNs
 above:X.s₀.heap.objs.size<=X.env.locals
 inj:∀x y c,X.env.cells.lookup x=some c->X.env.cells.lookup y=some c->x=y
 has:∀x,(X.env.kindOf x=some .cell\/X.env.kindOf x=some .free)->∃c,X.env.cells.lookup x=some c
 cab:∀x c,X.fn x=true->X.env.cells.lookup x=some c->X.s₀.heap.objs.size<=c
 hd:X.calm=true->X.A.handled=none
 frames:X.A.frames=some X.stack
 stk:X.stack=X.outer\/(X.stack=X.env::X.outer/\X.env.frame=some X.env.locals)
 exf:∀b∈X.ex,b≠X.env.locals/\∀x c,X.env.cells.lookup x=some c->c≠b
 bs:∀b o,X.base.get? b=some o->X.s₀.heap.get? b=some o/\X.H₀ b=none
 bsz:X.base.objs.size<=X.s₀.heap.objs.size
 noex:∀b o,X.base.get? b=some o->b∉X.ex
 exfs:∀b∈X.ex,b∉X.fs
 funs:X.s₀.heap.FunFrames X.base X.outer
 frf:∀b∈X.fs,X.H₀ b=none
structure Inv(X:Cx)(pins:List (Addr×Obj))(σ:List (Option V))(H:Hp)(s:Shared):Prop where
 ok:X.Ok
 os:s.os=X.s₀.os
 bare:AllBare s.gens
 base:Un X.fs X.ex X.H₀ H X.s₀.heap s.heap
 loc:∃m,s.heap.Ns X.env.locals m/\∀(i:Nat) (x:Str) (v:V),X.N[i]?=some x->σ[i]?=some (some v)->Vis X.env.scope x->∃u,RelV v u/\QmP X.env s.heap m x u
 cell:∀x c,X.env.cells.lookup x=some c->∃v,s.heap.IsCell c v
 free:H X.env.locals=none
 freeC:∀x c,X.env.cells.lookup x=some c->H c=none
 pin:∀p∈X.pn++pins,s.heap.get? p.1=some p.2/\H p.1=none/\p.1≠X.env.locals/\p.1∉X.fs/\∀v,p.2.data≠.cell v
 hok:HOk X.prog X.w H s.heap
 len:σ.length=X.N.length
section
variable{X:Cx}{pins:List (Addr×Obj)}{σ:List (Option V)}{H H':Hp}{s:Shared}{h':Heap}
theorem Cx.Ok.nofr(ok:X.Ok){b:Addr}{o:Obj}(e:X.base.get? b=some o):b∉X.fs:=fun a=>by
 have:=(ok.funs.mem a).1;rw[e]at this;cases this
theorem Inv.bs(I:Inv X pins σ H s):∀b o,X.base.get? b=some o->s.heap.get? b=some o/\H b=none:=fun b o e=>
 ⟨I.base.keep b o (I.ok.bs b o e).1 (I.ok.bs b o e).2 (I.ok.nofr e) (I.ok.noex b o e),I.base.free b o (I.ok.bs b o e).1 (I.ok.bs b o e).2 (I.ok.noex b o e)⟩
theorem Inv.bk(I:Inv X pins σ H s):∀b o,X.base.get? b=some o->s.heap.get? b=some o:=fun b o e=>(I.bs b o e).1
theorem Inv.mod(I:Inv X pins σ H s):Mod X.K X.mg X.base:=I.ok.mod
theorem Inv.kIn(I:Inv X pins σ H s):X.K.In s.heap:=I.ok.mod.kin.keeps I.bk
theorem Inv.lt(I:Inv X pins σ H s):X.env.locals<s.heap.objs.size:=let⟨_,a,_⟩:=I.loc;a.lt
theorem Inv.sz(I:Inv X pins σ H s):X.s₀.heap.objs.size<=s.heap.objs.size:=Nu I.ok.above (ND I.lt)
theorem Inv.nofs(I:Inv X pins σ H s){a:Addr}(h:s.heap.objs.size<=a):a∉X.fs:=fun c=>by
 obtain⟨_,o,b,_⟩:=I.ok.funs.mem c;exact absurd (Nm (No b) (Nu I.sz h)) (Ed _)
theorem Inv.cne(I:Inv X pins σ H s):∀x c,X.env.cells.lookup x=some c->c≠X.env.locals:=fun x c e z=>by
 obtain⟨v,o,d,hd⟩:=I.cell x c e;obtain⟨m,⟨f,g,h,a,b,_⟩,_⟩:=I.loc;rw[z,a]at d;cases d;rw[b]at hd;cases hd
theorem Inv.funs(I:Inv X pins σ H s):s.heap.FunFrames X.base X.outer:=by
 have all:∀(l:List Env),(∀b∈frs l,b∈X.fs)->X.s₀.heap.FunFrames X.base l->s.heap.FunFrames X.base l:=by
  intro l
  induction l with
  |nil=>intro _ _;trivial
  |cons n r g=>
   intro f j;obtain⟨m,⟨L,o,a,i,h,hd⟩,hr⟩:=j;have d:L∈X.fs:=f L (by unfold frs;rw[Fa,a];exact Nv);obtain⟨p,e⟩:=I.base.slot L o h (I.ok.frf L d) d fun z=>I.ok.exfs L z d;exact⟨m,⟨L,_,a,i,e,hd⟩,g (fun b c=>f b (by unfold frs;rw[Fa,a];exact Nt _ c)) hr⟩
 exact all X.outer (fun _ c=>c) I.ok.funs
theorem Inv.stack(I:Inv X pins σ H s):s.heap.FunFrames X.base X.stack:=by
 rcases I.ok.stk with e|⟨e,b⟩
 ·rw[e];exact I.funs
 ·rw[e];obtain⟨m,a,_⟩:=I.loc;refine .cons (by rw[I.ok.kind];decide) b a ?_ I.funs;exact Heap.get?_none_of_le (Nu I.ok.bsz I.ok.above)
theorem Inv.stkSub(I:Inv X pins σ H s):∀b∈frs X.stack,b∈X.env.locals::X.fs:=fun b a=>by
 rcases I.ok.stk with e|⟨e,c⟩
 ·rw[e]at a;exact Nt _ a
 ·rw[e]at a;unfold frs at a;rw[Fa,c]at a;exact a
theorem Inv.stkFree(I:Inv X pins σ H s):∀b∈frs X.stack,H b=none:=fun b a=>by
 rcases Nx.mp (I.stkSub b a)with e|a
 ·rw[e];exact I.free
 ·obtain⟨_,o,c,_⟩:=I.ok.funs.mem a;exact I.base.free b o c (I.ok.frf b a) fun z=>I.ok.exfs b z a
theorem Inv.step{g':Array GenState}{t':Nat}{d':Drawn}{ch:List Addr}(I:Inv X pins σ H s)
  (g:∀b∈ch,(b∈X.ex\/X.s₀.heap.objs.size<=b)/\b≠X.env.locals/\(∀x c,X.env.cells.lookup x=some c->c≠b)/\∀p∈X.pn++pins,p.1≠b)
  (keep:∀b o,b≠X.env.locals->b∉X.fs->b∉ch->s.heap.get? b=some o->H b=none->h'.get? b=some o)
  (slot:∀b o,b≠X.env.locals->b∈X.fs->b∉ch->s.heap.get? b=some o->H b=none->∃L,h'.get? b=some { o with slots:=L }) (free:∀b o,b∉ch->s.heap.get? b=some o->H b=none->H' b=none)
  (there:∀b o,b∉ch->s.heap.get? b=some o->∃D,h'.get? b=some D)
  (B:∀b xs,H b=some (.tup xs)->H' b=some (.tup xs)) (F:∀b o u,H b=some (.frz o u)->H' b=some (.frz o u)) (C:∀b ps,H b=some (.tbl ps)->∃more,H' b=some (.tbl (ps++more)))
  (ns:∀m,s.heap.Ns X.env.locals m->h'.Ns X.env.locals m) (M:HOk X.prog X.w H' h') (T:AllBare g') :
  Inv X pins σ H' { s with heap:=h',gens:=g',drawn:=d',toks:=t' }:=by
 have E:∀b o,X.s₀.heap.get? b=some o->b≠X.env.locals:=fun b o e=>NG (Nm (No e) I.ok.above)
 have j:∀b o,X.s₀.heap.get? b=some o->b∉X.ex->b∉ch:=fun b o e a y=>by
  rcases(g b y).1 with z|z
  ·exact a z
  ·exact absurd (Nm (No e) z) (Ed _)
 have h:∀x c,X.env.cells.lookup x=some c->∀v,s.heap.IsCell c v->h'.IsCell c v:=fun x c e v ⟨o,A,hd⟩=>by
  have f:c∉ch:=fun z=>(g c z).2.2.1 x c e rfl
  by_cases O:c∈X.fs
  ·obtain⟨L,q⟩:=slot c o (I.cne x c e) O f A (I.freeC x c e);exact⟨_,q,hd⟩
  ·exact⟨o,keep c o (I.cne x c e) O f A (I.freeC x c e),hd⟩
 refine⟨I.ok,I.os,T,⟨fun b o e n y a=>?_,fun b o e n y a=>?_,fun b o e n a=>?_,fun b o e a=>?_,fun b xs e=>B b xs (I.base.tups b xs e),fun b o xs e=>F b o xs (I.base.frzs b o xs e),fun b ps e=>?_⟩,?_,fun x c e=>?_,?_,fun x c e=>?_,fun p hp=>?_,M,I.len⟩
 ·exact keep b o (E b o e) y (j b o e a) (I.base.keep b o e n y a) (I.base.free b o e n a)
 ·obtain⟨L,t⟩:=I.base.slot b o e n y a;obtain⟨J,G⟩:=slot b _ (E b o e) y (j b o e a) t (I.base.free b o e n a);exact⟨J,G⟩
 ·obtain⟨D,t⟩:=I.base.there b o e a;exact free b D (j b o e a) t (I.base.free b o e n a)
 ·obtain⟨D,t⟩:=I.base.there b o e a;exact there b D (j b o e a) t
 ·obtain⟨Q,t⟩:=I.base.tbls b ps e;obtain⟨P,G⟩:=C b _ t;exact⟨Q++P,by rw[G,Array.append_assoc]⟩
 ·obtain⟨m,R,S⟩:=I.loc;refine⟨m,ns m R,fun i x v t G U=>?_⟩;obtain⟨u,r,l⟩:=S i x v t G U;refine⟨u,r,?_⟩
  rcases l with l|⟨k,c,e,z⟩
  ·exact .inl l
  ·exact .inr ⟨k,c,e,h x c e _ z⟩
 ·obtain⟨v,z⟩:=I.cell x c e;exact⟨v,h x c e v z⟩
 ·obtain⟨m,⟨o,_,_,A,_⟩,_⟩:=I.loc;exact free _ o (fun z=>(g _ z).2.1 rfl) A I.free
 ·obtain⟨v,o,A,hd⟩:=I.cell x c e;exact free c o (fun z=>(g c z).2.2.1 x c e rfl) A (I.freeC x c e)
 ·obtain⟨e,n,ne,N,d⟩:=I.pin p hp;have f:p.1∉ch:=fun z=>(g p.1 z).2.2.2 p hp rfl;exact⟨keep p.1 p.2 ne N f e n,free p.1 p.2 f e n,ne,N,d⟩
theorem Inv.un{t':Nat}(I:Inv X pins σ H s)(u:Un X.fs [] H H' s.heap h')(c:HOk X.prog X.w H' h'):Inv X pins σ H' { s with heap:=h',toks:=t' }:=by
 obtain⟨m,⟨o,x,y,h,r⟩,_⟩:=id I.loc;obtain⟨p,l⟩:=u.any h I.free (by simp)
 exact I.step (g':=s.gens) (d':=s.drawn) (ch:=[]) (fun _ z=>nomatch z) (fun b o _ d _ e n=>u.keep b o e n d (by simp)) (fun b o _ d _ e n=>u.slot b o e n d (by simp)) (fun b o _ e n=>u.free b o e n (by simp)) (fun b o _ e=>u.there b o e (by simp)) u.tups u.frzs u.tbls (fun t j=>by
  obtain⟨q,f,g,a,i⟩:=j;rw[h]at a;cases a
  exact⟨_,f,g,l,i⟩) c I.bare
theorem Inv.call{g':Array GenState}{t':Nat}{d':Drawn}{ch:List Addr}(I:Inv X pins σ H s)(u:Un (frs X.stack) ch H H' s.heap h')(g:HOk X.prog X.w H' h')(v:AllBare g')
  (f:∀b∈ch,(b∈X.ex\/X.s₀.heap.objs.size<=b)/\b≠X.env.locals/\(∀x c,X.env.cells.lookup x=some c->c≠b)/\∀p∈X.pn++pins,p.1≠b) :
  Inv X pins σ H' { s with heap:=h',gens:=g',drawn:=d',toks:=t' }:=by
 obtain⟨m,⟨o,D,E,l,r⟩,_⟩:=id I.loc;obtain⟨A,h⟩:=u.any l I.free fun z=>(f _ z).2.1 rfl
 exact I.step (ch:=ch) f (fun b o h y a e n=>u.keep b o e n (fun z=>(Nx.mp (I.stkSub b z)).elim h y) a) (fun b o _ _ a e n=>u.any e n a) (fun b o a e n=>u.free b o e n a) (fun b o a e=>u.there b o e a) u.tups u.frzs u.tbls (fun C t=>by
  obtain⟨B,i,j,d,q⟩:=t;rw[l]at d;cases d
  exact⟨_,i,j,h,q⟩) g v
theorem Inv.turned{t':Nat}{it:Addr}(I:Inv X pins σ H s)(k:∀b o,b≠it->s.heap.get? b=some o->h'.get? b=some o)(h:H it=none)(f:it≠X.env.locals)
  (h1:it∈X.ex\/X.s₀.heap.objs.size<=it) (h2:∀x c,X.env.cells.lookup x=some c->c≠it) (l:∀p∈X.pn++pins,p.1≠it):Inv X pins σ H { s with heap:=h',toks:=t' }:=by
 have d:∀b u,H b=some u->b≠it:=fun b u e z=>by rw[z,h]at e;cases e
 refine I.step (g':=s.gens) (d':=s.drawn) (ch:=[it]) (fun b j=>?_) (fun b o _ _ a e _=>k b o (fun z=>a (by simp[z])) e) (fun b o _ _ a e _=>⟨o.slots,k b o (fun z=>a (by simp[z])) e⟩) (fun _ _ _ _ n=>n)
  (fun b o a e=>⟨o,k b o (fun z=>a (by simp[z])) e⟩) (fun _ _ e=>e) (fun _ _ _ e=>e) (fun b ps e=>⟨#[],by rw[e];simp⟩) (fun m i=>?_) (fun b u e=>?_) I.bare
 ·have e:b=it:=by simpa using j
  subst e;exact⟨h1,f,h2,l⟩
 ·obtain⟨o,t,w,g,r⟩:=i;exact⟨o,t,w,k _ o (EF f) g,r⟩
 ·refine(I.hok b u e).stay (fun c v a q=>k c v ?_ q) (fun _ q=>q) fun _ _ q=>q
  rcases a with z|z
  ·rw[z];exact d b u e
  ·exact d c _ z
theorem Inv.tok(I:Inv X pins σ H s)(t:Nat):Inv X pins σ H { s with toks:=t }:=I.un (h':=s.heap) (t':=t) Un.refl I.hok
theorem Inv.kept{t':Nat}(I:Inv X pins σ H s)(k:∀b u,s.heap.get? b=some u->h'.get? b=some u):Inv X pins σ H { s with heap:=h',toks:=t' }:=I.un (Un.kept k) (I.hok.kept k)
theorem Inv.laid{a:Addr}{o:HO}{t':Nat}(I:Inv X pins σ H s)(k:∀b u,s.heap.get? b=some u->h'.get? b=some u)(hp:s.heap.objs.size<=a)(new:ObjOk X.prog X.w (upd H a o) h' a o) :
  Inv X pins σ (upd H a o) { s with heap:=h',toks:=t' }:=I.un (Un.laid k hp (I.hok.fresh hp)) (I.hok.laid k hp new)
theorem Inv.write{x e:Addr}{o:HO}{t':Nat}(I:Inv X pins σ H s)(c:Mut (H x))(d:e=x\/H e=some (.own x))(k:∀b u,b≠e->s.heap.get? b=some u->h'.get? b=some u)(a:∃u,h'.get? e=some u)
  (new:ObjOk X.prog X.w (upd H x o) h' x o):Inv X pins σ (upd H x o) { s with heap:=h',toks:=t' }:=I.un (Un.write c d k a) (I.hok.write c d k a new)
theorem Inv.pins_of{a:List (Addr×Obj)}(I:Inv X pins σ H s)(h:∀p∈a,s.heap.get? p.1=some p.2/\H p.1=none/\p.1≠X.env.locals/\p.1∉X.fs/\∀v,p.2.data≠.cell v):Inv X a σ H s:=
 ⟨I.ok,I.os,I.bare,I.base,I.loc,I.cell,I.free,I.freeC,fun p hp=>(NK.mp hp).elim (fun z=>I.pin p (Ek _ z)) (h p),I.hok,I.len⟩
theorem Gy{N:List Str}(hN:N.Nodup){i j:Nat}{x:Str}(a:N[i]?=some x)(b:N[j]?=some x):i=j:=by
 obtain⟨f,d⟩:=Ng.mp a;obtain⟨e,c⟩:=Ng.mp b;exact(List.getElem_inj hN).mp (d.trans c.symm)
theorem W7{M:Model}{A:Around}{E:Value->Shared->Prop}{i:Nat}{x:Str}{v:V}{u:Value}{Q:Unit->Shared->Prop}(I:Inv X pins σ H s)(hN:X.N.Nodup)(S:X.N[i]?=some x)(B:Loc X.env.scope x)(r:RelV v u)
  (h:∀s',Inv X pins (σ.set i (some v)) H s'->(∃a,Heap.SameBut a s.heap s'.heap/\(a=X.env.locals\/X.env.cells.lookup x=some a))->Q () s') (hf:X.fn x=true\/X.env.scope.names.lookup x=some .local:=by first|exact .inl rfl|exact .inr rfl|assumption):wpAny M A (storeName X.env x u) Q E s:=by
 obtain⟨m,hn,hl⟩:=id I.loc;have T:(X.env.scope.kind==.class ||(X.env.scope.kind==.module&&X.env.locals != X.env.globals))=false:=by rw[I.ok.kind];rfl
 have G:i<σ.length:=by rw[I.len];exact(Ng.mp S).1
 have cne:=I.cne
 have g:∀{a:Addr} {h':Heap},(∃o,s.heap.get? a=some o/\H a=none)->Heap.SameBut a s.heap h'->HOk X.prog X.w H h':=fun {a h'} ha f b ob e=>by
  obtain⟨_,_,C⟩:=ha;refine(I.hok b ob e).stay (fun c Z t q=>(f.2 c ?_).trans q) (fun _ q=>q) fun _ _ q=>q
  rintro rfl
  rcases t with rfl|t
  ·rw[C]at e;cases e
  ·rw[C]at t;cases t
 rcases B with F|F
 ·refine wpAny_storeName_local F hn (fun h' ab f=>?_) T;obtain⟨oL,_,_,aa,_⟩:=id hn;refine h _ ⟨I.ok,I.os,I.bare,⟨fun b o e n O B=>?_,fun b o e n O B=>?_,I.base.free,fun b o e B=>?_,I.base.tups,I.base.frzs,I.base.tbls⟩,⟨_,ab,fun j y v' l D e3=>?_⟩,fun y c e=>?_,I.free,I.freeC,fun p hp=>?_,g ⟨oL,aa,I.free⟩ f,by simpa using I.len⟩ ⟨_,f,.inl rfl⟩
  ·exact(f.2 b (NG (Nm (No e) I.ok.above))).trans (I.base.keep b o e n O B)
  ·obtain⟨sl,l⟩:=I.base.slot b o e n O B;exact⟨sl,(f.2 b (NG (Nm (No e) I.ok.above))).trans l⟩
  ·obtain⟨o',l⟩:=I.base.there b o e B;exact⟨o',(f.2 b (NG (Nm (No e) I.ok.above))).trans l⟩
  ·by_cases J:j=i
   ·subst J;rw[S]at l;cases l;rw[N2 G]at D;cases D;exact⟨u,r,.inl ⟨F,by simp⟩⟩
   ·rw[N1 (EF J)]at D;obtain⟨u',r',q⟩:=hl j y v' l D e3;refine⟨u',r',?_⟩
    rcases q with⟨k,e⟩|⟨k,c,e,z⟩
    ·refine .inl ⟨k,?_⟩;have:y≠x:=fun e=>J (Gy hN l (e▸S));simp[this,e]
    ·exact .inr ⟨k,c,e,z.sameBut f (cne y c e)⟩
  ·obtain⟨Z,z⟩:=I.cell y c e;exact⟨Z,z.sameBut f (cne y c e)⟩
  ·obtain⟨e,n,ne,nf,d⟩:=I.pin p hp;exact⟨(f.2 p.1 ne).trans e,n,ne,nf,d⟩
 ·have L:X.fn x=true:=by
   rcases hf with z|z
   ·exact z
   ·rw[z]at F;cases F
  obtain⟨c,t⟩:=I.ok.has x (.inl F);obtain⟨Z,z⟩:=I.cell x c t;refine wpAny_storeName_cell I.ok.kind F t z (fun h' Y f=>?_);obtain⟨oc,R,P⟩:=id z;refine h { s with heap:=h' } ⟨I.ok,I.os,I.bare,⟨fun b o e n O B=>?_,fun b o e n O B=>?_,I.base.free,fun b o e B=>?_,I.base.tups,I.base.frzs,I.base.tbls⟩,⟨m,hn.sameBut f (EF (cne x c t)),fun j y v' l D e3=>?_⟩,fun y c' e=>?_,I.free,I.freeC,fun p hp=>?_,g ⟨oc,R,I.freeC x c t⟩ f,by simpa using I.len⟩ ⟨c,f,.inr t⟩
  ·exact(f.2 b (NG (Nm (No e) (I.ok.cab x c L t)))).trans (I.base.keep b o e n O B)
  ·obtain⟨sl,l⟩:=I.base.slot b o e n O B;exact⟨sl,(f.2 b (NG (Nm (No e) (I.ok.cab x c L t)))).trans l⟩
  ·obtain⟨o',l⟩:=I.base.there b o e B;exact⟨o',(f.2 b (NG (Nm (No e) (I.ok.cab x c L t)))).trans l⟩
  ·by_cases J:j=i
   ·subst J;rw[S]at l;cases l;rw[N2 G]at D;cases D;exact⟨u,r,.inr ⟨.inl F,c,t,Y⟩⟩
   ·rw[N1 (EF J)]at D;obtain⟨u',r',q⟩:=hl j y v' l D e3;refine⟨u',r',?_⟩
    rcases q with q|⟨k,c',e,z'⟩
    ·exact .inl q
    ·refine .inr ⟨k,c',e,z'.sameBut f ?_⟩
     rintro rfl
     exact J (Gy hN l (I.ok.inj _ _ _ e t▸S))
  ·by_cases U:c'=c
   ·subst U;exact⟨_,Y⟩
   ·obtain⟨w2,z2⟩:=I.cell y c' e;exact⟨w2,z2.sameBut f U⟩
  ·obtain⟨e,n,ne,nf,d⟩:=I.pin p hp;refine⟨(f.2 p.1 ?_).trans e,n,ne,nf,d⟩;intro q;rw[q,R]at e;have q':oc=p.2:=NU e;exact d Z (by rw[<-q'];exact P)
theorem Wp{M:Model}{A:Around}{E:Value->Shared->Prop}{i:Nat}{x:Str}{v:V}{u:Value}{Q:Unit->Shared->Prop}(I:Inv X pins σ H s)(hN:X.N.Nodup)(c:X.N[i]?=some x)(b:Loc X.env.scope x)(r:RelV v u)
  (h:∀a,Inv X pins (σ.set i (some v)) H a->Q () a) (d:X.fn x=true\/X.env.scope.names.lookup x=some .local:=by first|exact .inl rfl|exact .inr rfl|assumption):wpAny M A (storeName X.env x u) Q E s:=
 W7 I hN c b r (fun a e _=>h a e) d
theorem Inv.call'{a:Shared}{ch:List Addr}(I:Inv X pins σ H s)(l:a.os=s.os)(u:Un (frs X.stack) ch H H' s.heap a.heap)(d:HOk X.prog X.w H' a.heap)(m:AllBare a.gens)
  (f:∀b∈ch,(b∈X.ex\/X.s₀.heap.objs.size<=b)/\b≠X.env.locals/\(∀x c,X.env.cells.lookup x=some c->c≠b)/\∀p∈X.pn++pins,p.1≠b):Inv X pins σ H' a:=by
 obtain⟨h',h,i,g,j⟩:=a;have e:j=s.os:=l;subst e;exact I.call (g':=h) (t':=g) (d':=i) u d m f
end
noncomputable abbrev XK:=Value->Option Addr->Hp->Prop
noncomputable abbrev St:=List (Option V)
noncomputable abbrev VK:=V->Hp->Prop
noncomputable abbrev TE:=St->Hp->VK->Prop
noncomputable abbrev TT:=St->Hp->(Bool->Hp->Prop)->Prop
noncomputable abbrev TA:=St->Hp->(List V->Hp->Prop)->Prop
structure Ends where
 nx:St->Hp->Prop
 rt:VK
 bk:St->Hp->Prop:=fun _ _=>False
 ct:St->Hp->Prop:=fun _ _=>False
noncomputable abbrev TS:=Ends->St->Hp->Prop
def EP(X:Cx)(a:List (Addr×Obj))(σ:St)(Q:VK)(u:Value)(c:Shared):Prop:=∃v b,Inv X a σ b c/\RelV v u/\Q v b
def TP(X:Cx)(a:List (Addr×Obj))(σ:St)(Q:Bool->Hp->Prop)(b:Bool)(d:Shared):Prop:=∃c,Inv X a σ c d/\Q b c
def AP(X:Cx)(a:List (Addr×Obj))(σ:St)(Q:List V->Hp->Prop)(us:List Value)(d:Shared):Prop:=∃b c,Inv X a σ c d/\Vals b us/\Q b c
def SP(X:Cx)(b:List (Addr×Obj))(D:Ends)(f:Flow)(d:Shared):Prop:=
 match f with
 |.next=>∃a c,Inv X b a c d/\D.nx a c
 |.brk=>∃a c,Inv X b a c d/\D.bk a c
 |.cont=>∃a c,Inv X b a c d/\D.ct a c
 |.ret u=>∃v a c,Inv X b a c d/\RelV v u/\D.rt v c
def PE(X:Cx)(e:Expr)(t:TE):Prop:=
 ∀(a:List (Addr×Obj)) (s:Shared) (b:St) (H:Hp) (Q:VK),Inv X a b H s->t b H Q->wpAny (model X.prog X.w) X.A (eval e X.env) (EP X a b Q) X.xe s
def PT(X:Cx)(e:Expr)(t:TT):Prop:=
 ∀(a:List (Addr×Obj)) (s:Shared) (b:St) (H:Hp) (Q:Bool->Hp->Prop),Inv X a b H s->t b H Q->wpAny (model X.prog X.w) X.A (isTrue e X.env (eval e X.env)) (TP X a b Q) X.xe s
def PW(X:Cx)(e:Expr)(t:TT):Prop:=
 ∀(whole:Sem Value) (a:List (Addr×Obj)) (s:Shared) (b:St) (H:Hp) (Q:Bool->Hp->Prop),Inv X a b H s->t b H Q->wpAny (model X.prog X.w) X.A (isTrue e X.env whole) (TP X a b Q) X.xe s
theorem PW.pt{X:Cx}{e:Expr}{t:TT}(h:PW X e t):PT X e t:=h _
def PA(X:Cx)(c:List Expr)(t:TA):Prop:=
 ∀(pos:Pos) (a:List (Addr×Obj)) (s:Shared) (b:St) (H:Hp) (Q:List V->Hp->Prop),Inv X a b H s->t b H Q->wpAny (model X.prog X.w) X.A (spliced (backTo pos (starEach c X.env))) (AP X a b Q) X.xe s
def PS(X:Cx)(st:Stmt)(t:TS):Prop:=
 ∀(a:List (Addr×Obj)) (s:Shared) (b:St) (H:Hp) (D:Ends),Inv X a b H s->t D b H->wpAny (model X.prog X.w) X.A (exec st X.env) (SP X a D) X.xe s
def PSs(X:Cx)(st:List Stmt)(t:TS):Prop:=
 ∀(a:List (Addr×Obj)) (s:Shared) (b:St) (H:Hp) (D:Ends),Inv X a b H s->t D b H->wpAny (model X.prog X.w) X.A (execs st X.env) (SP X a D) X.xe s
theorem thn{b:Type}{t:Sem b}{Q Q':b->Shared->Prop}{M:Model}{A:Around}{E:Value->Shared->Prop}{s:Shared}(h:wpAny M A t Q E s)(c:∀a s,Q a s->Q' a s):wpAny M A t Q' E s:=NO h c fun _ _ x=>x
section
variable{X:Cx}
theorem bin{a b:Expr}{n m:TE}(z:PE X a n)(t:PE X b m){c:List (Addr×Obj)}{s:Shared}{σ:St}{H:Hp}{R:V->V->Hp->Prop}(I:Inv X c σ H s)(h:n σ H fun x j=>m σ j fun y d=>R x y d)
  {l:Type} {Q:l->Shared->Prop} {f:Value->Value->Sem l}
  (r:∀v u i x y d,Inv X c σ d i->RelV x v->RelV y u->R x y d->wpAny (model X.prog X.w) X.A (f v u) Q X.xe i) :
  wpAny (model X.prog X.w) X.A (eval a X.env) (fun v g=>wpAny (model X.prog X.w) X.A (eval b X.env) (fun u e=>wpAny (model X.prog X.w) X.A (f v u) Q X.xe e) X.xe g) X.xe s:=by
 refine thn (z c s σ H _ I h) fun v o ⟨x,j,I1,q,q1⟩=>?_;refine thn (t c o σ j _ I1 q1) fun u i ⟨y,d,I2,p,q2⟩=>?_;exact r v u i x y d I2 q p q2
noncomputable def QmZ(i:Nat):TE:=fun a H Q=>∃v,a[i]?=some (some v)/\Q v H
noncomputable def tC(v:V):TE:=fun _ H Q=>Q v H
theorem QhN{i:Nat}{x:Str}{pos:Pos}(hN:X.N[i]?=some x)(n:Vis X.env.scope x)(hd:(x==("__debug__":Str))=false:=by decide)(f:(x==("__classdict__":Str))=false:=by decide):PE X (.Name x pos) (QmZ i):=by
 intro d s j H Q I h;obtain⟨v,e,h⟩:=h;obtain⟨m,o,q⟩:=I.loc;obtain⟨u,r,l⟩:=q i x v hN e n;have fin:EP X d j Q u s:=⟨v,H,I,r,h⟩
 rcases l with⟨b,p⟩|⟨b,c,g,a⟩
 ·exact LJ (Ix I.ok.kind b o p fin) hd
 ·rcases b with b|b
  ·exact LJ (IK I.ok.kind b g a fin) hd
  ·exact LJ (wpAny_loadName_free I.ok.kind b g a fin f) hd
theorem Gj{i j pos}:PE X (.Constant (.int i) j pos) (tC (.int i)):=fun _ _ _ H _ I h=>wpAny_Constant_int ⟨.int i,H,I.tok _,⟨_,rfl⟩,h⟩
theorem QjY{b j pos}:PE X (.Constant (.bool b) j pos) (tC (.bl b)):=fun _ _ _ H _ I h=>Constant_bool ⟨.bl b,H,I,rfl,h⟩
theorem Qh8{j pos}:PE X (.Constant .none j pos) (tC .non):=fun _ _ _ H _ I h=>Constant_none ⟨.non,H,I,rfl,h⟩
theorem Gq{x j pos}:PE X (.Constant (.str x) j pos) (tC (.str x)):=fun _ _ _ H _ I h=>Calls.Constant_str ⟨.str x,H,I.tok _,⟨_,rfl⟩,h⟩
def Gl(X:Cx)(x:Str):Prop:=X.env.kindOf x=some .globalImplicit
theorem WA{E:Value->Shared->Prop}{a:List (Addr×Obj)}{s:Shared}{σ:St}{H:Hp}{x:Str}{u:Value}{pos:Pos}{Q:Value->Shared->Prop}(I:Inv X a σ H s)(c:Gl X x)(b:X.mg x=some u)(h:Q u s)
  (hd:(x==("__debug__":Str))=false:=by decide):wpAny (model X.prog X.w) X.A (eval (.Name x pos) X.env) Q E s:=
 Fm I.ok.kind c (Calls.loadGlobal_global (by rw[I.ok.glob];exact I.mod.glob.keeps I.bk) b h) hd
theorem XG{E:Value->Shared->Prop}{a:List (Addr×Obj)}{s:Shared}{σ:St}{H:Hp}{x:Str}{u:Value}{pos:Pos}{Q:Value->Shared->Prop}(I:Inv X a σ H s)(e:Gl X x)(d:X.mg x=none)(b:bootBuiltins x=some u)(h:Q u s)
  (c:x≠"__name__":=by decide) (hd:(x==("__debug__":Str))=false:=by decide):wpAny (model X.prog X.w) X.A (eval (.Name x pos) X.env) Q E s:=by
 obtain⟨i,g,f⟩:=I.mod.blt;exact Fm I.ok.kind e (Calls.loadGlobal_builtin (by rw[I.ok.glob];exact I.mod.glob.keeps I.bk) d (by rw[I.ok.blt];exact g.keeps I.bk) ((f x c).trans b) h) hd
theorem QeO{x:Str}{v:V}{u:Value}{pos:Pos}(b:Gl X x)(a:X.mg x=some u)(r:RelV v u)(hd:(x==("__debug__":Str))=false:=by decide):PE X (.Name x pos) (tC v):=
 fun _ _ _ H _ I h=>WA I b a ⟨v,H,I,r,h⟩ hd
variable{a b:Expr}{ta tb:TE}{pos:Pos}
variable{tA tB':TT}{rest:List Expr}
noncomputable def Qlu(t u:TT):TT:=fun d H Q=>t d H fun c e=>if c=true then u d e Q else Q false e
noncomputable def tOr(t u:TT):TT:=fun d H Q=>t d H fun c e=>if c=true then Q true e else u d e Q
noncomputable def QnL(t:TT):TT:=fun d H Q=>t d H fun c e=>Q (!c) e
theorem QgW(g:PT X a tA):PW X (.BoolOp .And [a] pos) tA:=by
 intro i d s f H Q I h;refine isTrue_and (thn (g d s f H Q I h) fun c j e=>?_);cases c with
 |true=>exact isTrue_and_nil e
 |false=>exact e
theorem Qiv(g:PT X a tA):PW X (.BoolOp .Or [a] pos) tA:=by
 intro i d s f H Q I h;refine isTrue_or (thn (g d s f H Q I h) fun c j e=>?_);cases c with
 |false=>exact isTrue_or_nil e
 |true=>exact e
theorem Qic(l:PT X a tA)(j:PW X (.BoolOp .And (b::rest) pos) tB'):PW X (.BoolOp .And (a::b::rest) pos) (Qlu tA tB'):=by
 intro g d s e H Q I h;refine isTrue_and (thn (l d s e H _ I h) fun c i ⟨f,I1,q1⟩=>?_);cases c with
 |true=>exact j g d i e f Q I1 q1
 |false=>exact⟨f,I1,q1⟩
theorem QjN(l:PT X a tA)(j:PW X (.BoolOp .Or (b::rest) pos) tB'):PW X (.BoolOp .Or (a::b::rest) pos) (tOr tA tB'):=by
 intro g d s e H Q I h;refine isTrue_or (thn (l d s e H _ I h) fun c i ⟨f,I1,q1⟩=>?_);cases c with
 |true=>exact⟨f,I1,q1⟩
 |false=>exact j g d i e f Q I1 q1
theorem Qh6(f:PT X a tA):PT X (.UnaryOp .Not a pos) (QnL tA):=by
 intro d s e H Q I h;exact isTrue_not (f d s e H (fun c g=>Q (!c) g) I h)
noncomputable def Qny(ta tb:TE):TE:=fun d H Q=>ta d H fun x e=>∃c,x=.bl c/\if c=true then Q (.bl true) e else tb d e Q
theorem QiC{op}{t:TE}(h:PE X a t):PE X (.BoolOp op [a] pos) t:=fun c s d H Q I hw=>BoolOp_one (h c s d H Q I hw)
theorem Qke(l:PE X a ta)(j:PE X (.BoolOp .Or (b::rest) pos) tb):PE X (.BoolOp .Or (a::b::rest) pos) (Qny ta tb):=by
 intro d s e H Q I h;refine BoolOp_or (thn (l d s e H _ I h) fun v g ⟨x,f,I1,i,q1⟩=>?_);obtain⟨c,rfl,q1⟩:=q1;cases i;refine Fr ?_;cases c with
 |false=>exact j d g e f Q I1 q1
 |true=>exact⟨.bl true,f,I1,rfl,q1⟩
noncomputable def tIf(t:TT)(ta tb:TE):TE:=fun d H Q=>t d H fun c e=>if c=true then ta d e Q else tb d e Q
theorem QcW{c:Expr}(j:PT X c tA)(m:PE X a ta)(l:PE X b tb):PE X (.IfExp c a b pos) (tIf tA ta tb):=by
 intro e s f H Q I h;refine wpAny_IfExp (thn (j e s f H _ I h) fun d g ⟨i,I1,q1⟩=>?_);cases d with
 |true=>exact m e g f i Q I1 q1
 |false=>exact l e g f i Q I1 q1
end
def SqL(K:Nd)(H:Hp)(a:Addr)(xs:List V):Prop:=
 Rd H a (.lst xs) \/
  ∃(o:Obj) (b:Array Value) (n:Nat),K.lookup a=some o/\o.cls=.type "list"/\o.dict=none/\o.data=.seq b n/\b.size<=sizeLine/\Vals xs b.toList
def SqT(K:Nd)(H:Hp)(a:Addr)(xs:List V):Prop:=
 Rd H a (.tup xs) \/
  ∃(o:Obj) (b:Array Value) (n:Nat),K.lookup a=some o/\o.cls=.type "tuple"/\o.data=.seq b n/\b.size<=sizeLine/\Vals xs b.toList
noncomputable def QnK:Value->Option V
 |.none=>some .non
 |.bool b=>some (.bl b)
 |.int i _=>some (.int i)
 |.str x _=>some (.str x)
 |.bytes b _=>some (.byt b)
 |.float b _=>some (.flt b)
 |.ref a=>some (.ref a)
 |.type n=>some (.ty n)
 |_=>none
theorem RelV.abs{x:V}{u:Value}(r:RelV x u):QnK u=some x:=by
 cases x with
 |non=>cases r;rfl
 |bl _=>cases r;rfl
 |int _=>obtain⟨t,rfl⟩:=r;rfl
 |str _=>obtain⟨t,rfl⟩:=r;rfl
 |byt _=>obtain⟨t,rfl⟩:=r;rfl
 |flt _=>obtain⟨t,rfl⟩:=r;rfl
 |ref _=>cases r;rfl
 |ty _=>cases r;rfl
theorem RelV.inj{x y:V}{u:Value}(r:RelV x u)(q:RelV y u):x=y:=NU (r.abs.symm.trans q.abs)
theorem Vals.inj:∀{xs ys:List V} {us:List Value},Vals xs us->Vals ys us->xs=ys
 |_,_,_,.nil,.nil=>rfl
 |_,_,_,.cons r t,.cons a t'=>by rw[r.inj a,Vals.inj t t']
section
variable{X:Cx}{pins:List (Addr×Obj)}{σ:St}{H:Hp}{s:Shared}{a:Addr}{xs ys:List V}
theorem SqL.of{K:Nd}(h:H a=some (.lst xs)):SqL K H a xs:=.inl (.inl h)
theorem SqT.of{K:Nd}(h:H a=some (.tup xs)):SqT K H a xs:=.inl (.inl h)
theorem Inv.list(I:Inv X pins σ H s)(h:SqL X.K H a xs):∃b:List Value,Vals xs b/\PlainL s.heap a b.toArray/\xs.length<=sizeLine:=by
 rcases h with h|⟨o,b,n,d,f,hd,c,g,r⟩
 ·obtain⟨z,b,n,r,e⟩:=h.ok I.hok;exact⟨b,r,⟨_,n,e,rfl,rfl,rfl⟩,z⟩
 ·refine⟨b.toList,r,⟨o,n,I.kIn a o d,f,hd,by simpa using c⟩,?_⟩;have e:=r.length;simp only[NR]at e;omega
theorem Inv.tuple(I:Inv X pins σ H s)(h:SqT X.K H a xs):∃b:List Value,Vals xs b/\IsTup s.heap a b.toArray/\xs.length<=sizeLine:=by
 rcases h with h|⟨o,b,n,d,f,c,g,r⟩
 ·obtain⟨z,b,r,p⟩:=h.ok I.hok;exact⟨b,r,p,z⟩
 ·refine⟨b.toList,r,⟨o,I.kIn a o d,f,n,by simpa using c⟩,?_⟩;have e:=r.length;simp only[NR]at e;omega
theorem Inv.list_inj(I:Inv X pins σ H s)(h:SqL X.K H a xs)(h':SqL X.K H a ys):xs=ys:=by
 obtain⟨c,r,⟨o,n,e,_,_,d⟩,_⟩:=I.list h;obtain⟨b,i,⟨l,m,f,_,_,g⟩,_⟩:=I.list h';rw[e]at f;cases f;rw[d]at g;injection g with j _
 have:c=b:=by simpa using congrArg Array.toList j
 subst this;exact r.inj i
theorem Inv.tuple_inj(I:Inv X pins σ H s)(h:SqT X.K H a xs)(h':SqT X.K H a ys):xs=ys:=by
 obtain⟨c,r,⟨o,e,_,n,d⟩,_⟩:=I.tuple h;obtain⟨b,i,⟨l,f,_,m,g⟩,_⟩:=I.tuple h';rw[e]at f;cases f;rw[d]at g;injection g with j _
 have:c=b:=by simpa using congrArg Array.toList j
 subst this;exact r.inj i
end
noncomputable abbrev Cx.wish(X:Cx)(E:Value->Shared->Prop):Cx:={ X with xe:=E }
noncomputable abbrev Cx.nox(X:Cx):Cx:=X.wish fun _ _=>False
theorem Cx.Ok.wish{X:Cx}(ok:X.Ok)(E:Value->Shared->Prop):(X.wish E).Ok:=
 ⟨ok.mod,ok.kind,ok.glob,ok.blt,ok.above,ok.inj,ok.has,ok.cab,ok.hd,ok.frames,ok.stk,ok.exf,ok.bs,ok.bsz,ok.noex,ok.exfs,ok.funs,ok.frf⟩
theorem Cx.Ok.unwish{X:Cx}{E:Value->Shared->Prop}(ok:(X.wish E).Ok):X.Ok:=
 ⟨ok.mod,ok.kind,ok.glob,ok.blt,ok.above,ok.inj,ok.has,ok.cab,ok.hd,ok.frames,ok.stk,ok.exf,ok.bs,ok.bsz,ok.noex,ok.exfs,ok.funs,ok.frf⟩
section
variable{X:Cx}{pins:List (Addr×Obj)}{σ:St}{H:Hp}{s:Shared}{E:Value->Shared->Prop}
theorem Inv.wish(I:Inv X pins σ H s)(E:Value->Shared->Prop):Inv (X.wish E) pins σ H s:=⟨I.ok.wish E,I.os,I.bare,I.base,I.loc,I.cell,I.free,I.freeC,I.pin,I.hok,I.len⟩
theorem Inv.unwish(I:Inv (X.wish E) pins σ H s):Inv X pins σ H s:=⟨I.ok.unwish,I.os,I.bare,I.base,I.loc,I.cell,I.free,I.freeC,I.pin,I.hok,I.len⟩
theorem SP.unwish{D:Ends}{f:Flow}{c:Shared}(h:SP (X.wish E) pins D f c):SP X pins D f c:=by
 cases f with
 |next=>obtain⟨a,b,I,q⟩:=h;exact⟨a,b,I.unwish,q⟩
 |brk=>obtain⟨a,b,I,q⟩:=h;exact⟨a,b,I.unwish,q⟩
 |cont=>obtain⟨a,b,I,q⟩:=h;exact⟨a,b,I.unwish,q⟩
 |ret u=>obtain⟨v,a,b,I,r,q⟩:=h;exact⟨v,a,b,I.unwish,r,q⟩
theorem PSs.nox{st:List Stmt}{t:TS}(h:PSs X.nox st t):PSs X st t:=fun pins s σ H D I hw=>
 NO (h pins s σ H D (I.wish _) hw) (fun _ _ q=>q.unwish) fun _ _ z=>False.elim z
end
section
variable{X:Cx}{st:Stmt}{rest:List Stmt}{t u:TS}{e:Expr}{te:TE}{pos:Pos}
noncomputable def Qkc:TS:=fun D a H=>D.nx a H
noncomputable def Qmf(t u:TS):TS:=fun D a H=>t { D with nx:=u D } a H
theorem QgB:PSs X [] Qkc:=fun _ _ a H _ I h=>DX ⟨a,H,I,h⟩
theorem QdG(h1:PS X st t)(h2:PSs X rest u):PSs X (st::rest) (Qmf t u):=by
 intro a s c H D I h;refine wpAny_execs_cons (thn (h1 a s c H { D with nx:=u D } I h) fun f d q=>?_);cases f with
 |next=>
  obtain⟨b,i,g,q⟩:=q;exact h2 a d b i D g q
 |ret v=>exact q
 |brk=>exact q
 |cont=>exact q
theorem Qe5(h1:PS X st t):PSs X [st] t:=by
 intro a s b H D I h;refine wpAny_execs_cons (thn (h1 a s b H D I h) fun f c q=>?_);cases f with
 |next=>exact DX q
 |ret v=>exact q
 |brk=>exact q
 |cont=>exact q
theorem Inv.quiet{a:List (Addr×Obj)}{σ:St}{H:Hp}{s:Shared}(I:Inv X a σ H s):interactive X.env=false:=by simp[interactive,I.ok.kind]
noncomputable def QkD(te:TE):TS:=fun D a H=>te a H fun _ b=>D.nx a b
theorem QeQ(d:PE X e te)(c:swapsWith e none pos.line X.env=pure false:=by rfl):PS X (.Expr e pos) (QkD te):=by
 intro a s b H D I h;exact wpAny_Expr_any (thn (d a s b H _ I h) fun v g ⟨x,f,I1,i,q1⟩=>⟨b,f,I1,q1⟩) I.quiet c
noncomputable def Qm6(te:TE):TS:=fun D a H=>te a H D.rt
theorem Qij(d:PE X e te):PS X (.Return (some e) pos) (Qm6 te):=by
 intro a s b H D I h;exact wpAny_Return_some (thn (d a s b H _ I h) fun v g ⟨x,f,I1,c,q1⟩=>⟨x,b,f,I1,c,q1⟩)
noncomputable def QmG(c:TT)(t u:TS):TS:=fun D a H=>c a H fun b d=>if b=true then t D a d else u D a d
theorem QkI{c:Expr}{a b:List Stmt}{i:TT}(m:PT X c i)(o:PSs X a t)(n:PSs X b u):PS X (.If c a b pos) (QmG i t u):=by
 intro f s g H D I h;refine wpAny_If (thn (m f s g H _ I h) fun d j ⟨l,I1,q1⟩=>?_);cases d with
 |true=>exact o f j g l D I1 q1
 |false=>exact n f j g l D I1 q1
end
noncomputable abbrev TG:=V->St->Hp->(St->Hp->Prop)->Prop
noncomputable abbrev TGs:=List V->St->Hp->(St->Hp->Prop)->Prop
def PG(X:Cx)(target:Expr)(t:TG):Prop:=
 ∀(a:List (Addr×Obj)) (s:Shared) (c:St) (H:Hp) (v:V) (u:Value) (Q:St->Hp->Prop),Inv X a c H s->RelV v u->t v c H Q ->
  wpAny (model X.prog X.w) X.A (assign target X.env u) (fun _ e=>∃b d,Inv X a b d e/\Q b d) X.xe s
def PGs(X:Cx)(g:List Expr)(t:TGs):Prop:=
 ∀(a:List (Addr×Obj)) (s:Shared) (c:St) (H:Hp) (d:List V) (e:List Value) (Q:St->Hp->Prop),Inv X a c H s->Vals d e->t d c H Q ->
  wpAny (model X.prog X.w) X.A (assignInOrder ((assignEach g X.env).map (·.2)) e) (fun _ h=>∃b f,Inv X a b f h/\Q b f) X.xe s
noncomputable abbrev Qj6:=V->V->V->Hp->(Hp->Prop)->Prop
def Qml(X:Cx)(t:Qj6):Prop:=
 ∀(a:List (Addr×Obj)) (s:Shared) (b:St) (H:Hp) (o i v:V) (c d u:Value) (Q:Hp->Prop),Inv X a b H s->RelV o c->RelV i d->RelV v u->t o i v H Q ->
  wpAny (model X.prog X.w) X.A (setItem c d u) (fun _ f=>∃e,Inv X a b e f/\Q e) X.xe s
noncomputable abbrev TIp:=V->V->Hp->VK->Prop
def PIp(X:Cx)(op:Operator)(t:TIp):Prop:=
 ∀(a:List (Addr×Obj)) (s:Shared) (b:St) (H:Hp) (x y:V) (v u:Value) (Q:VK),Inv X a b H s->RelV x v->RelV y u->t x y H Q ->
  wpAny (model X.prog X.w) X.A (inplaceOp op v u) (EP X a b Q) X.xe s
section
variable{X:Cx}{pos:Pos}
noncomputable def QaX(i:Nat):TG:=fun v a H Q=>Q (a.set i (some v)) H
theorem QbS{i:Nat}{x:Str}(hN:X.N.Nodup)(c:X.N[i]?=some x)(b:Loc X.env.scope x)(d:X.fn x=true\/X.env.scope.names.lookup x=some .local:=by first|exact .inl rfl|exact .inr rfl|assumption):PG X (.Name x pos) (QaX i):=by
 intro a s f H v u Q I r h;exact Le (Wp I hN c b r (fun g e=>⟨_,H,e,h⟩) d)
noncomputable def Ql3:TGs:=fun b a H Q=>b=[]/\Q a H
noncomputable def Qif(t:TG)(u:TGs):TGs:=fun c b H Q=>∃v r,c=v::r/\t v b H fun a d=>u r a d Q
theorem Qgf:PGs X [] Ql3:=by
 intro a s b H c d Q I r h;obtain⟨e,h⟩:=h;subst e;cases r;exact assignInOrder_nil ⟨b,H,I,h⟩
theorem QdH{e:Expr}{b:List Expr}{t:TG}{u:TGs}(h1:PG X e t)(h2:PGs X b u)
  (i:(assignEach (e::b) X.env).map (·.2)=assign e X.env::(assignEach b X.env).map (·.2):=by rfl):PGs X (e::b) (Qif t u):=by
 intro a s d H m o Q I r h;obtain⟨v,n,j,h⟩:=h;subst j;cases r with
 |cons r g=>
  rw[i];refine assignInOrder_cons (thn (h1 a s d H _ _ _ I r h) fun _ f ⟨c,l,I1,q1⟩=>?_);exact h2 a f c l _ _ Q I1 g q1
noncomputable def QmV(K:Nd)(n:Nat)(t:TGs):TG:=fun v c H Q=>∃a b,v=.ref a/\SqT K H a b/\b.length=n/\t b c H Q
theorem Qhf{d:List Expr}{k:Nat}{t:TGs}{n:Nat}(y:X.calm=true)(h:PGs X d t)
  (w:(assignEach d X.env).length=n:=by rfl) (f:(assignEach d X.env).findIdx? (·.1)=none:=by rfl):PG X (.Tuple d k pos) (QmV X.K n t):=by
 intro c s g H v u Q I r hw;obtain⟨a,j,A,q,x,hw⟩:=hw;subst A;cases r;obtain⟨l,i,p,C⟩:=I.tuple q;refine assign_Tuple_tuple (I.ok.hd y) p (by simp[w,<-x,i.length]) f fun z m=>?_;have I1:Inv X c g H { s with heap:=z }:=I.kept (t':=s.toks) fun b o e=>m b o (NG (No e)) e;exact h c _ g H j _ Q I1 (by simpa using i) hw
noncomputable def Qly(b c:TE)(t:Qj6):TG:=fun v a H Q=>b a H fun o f=>c a f fun i e=>t o i v e fun d=>Q a d
theorem QhL{o i:Expr}{e f:TE}{t:Qj6}(p:PE X o e)(q:PE X i f)(n:Qml X t)
  (w:∀v,assign (.Subscript o i pos) X.env v=(do
   let b <-holding [v] (eval o X.env)
   let c <-holding [v,b] (eval i X.env)
   standAt pos
   holding [v,b,c] (setItem b c v)
   release [v,b,c] []):=by intro _;rfl):PG X (.Subscript o i pos) (Qly e f t):=by
 intro a s d H v u Q I r h;rw[w];refine Nc (NP (thn (p a s d H _ I h) fun b j ⟨x,B,I1,m,q1⟩=>?_));refine Nc (NP (thn (q a j d B _ I1 q1) fun c g ⟨y,A,I2,l,q2⟩=>?_));refine Nc (DP (Nc (NP (thn (n a g d A x y v b c u _ I2 m l r q2) fun _ C ⟨z,I3,q3⟩=>?_))));exact wpAny_release ⟨d,z,I3,q3⟩
noncomputable def Qji(te:TE)(g:TG):TS:=fun D a H=>te a H fun x b=>g x a b D.nx
theorem QeI{b e:Expr}{te:TE}{g:TG}(l:PE X e te)(j:PG X b g)(i:swapsWithSole [b] e pos.line X.env=pure false:=by rfl)(hw:swappedStores [b] e X.env=pure none:=by rfl)
  (h1:(assignEach [b] X.env).map (·.2)=[assign b X.env]:=by rfl):PS X (.Assign [b] e pos) (Qji te g):=by
 intro a s c H D I h;refine wpAny_Assign_stores (thn (l a s c H _ I h) fun v d ⟨x,m,I1,f,q1⟩=>?_) i hw;rw[h1];exact thn (j a d c m x v _ I1 f q1) fun _ n q=>q
theorem Qg5{i:Nat}{x:Str}{e:Expr}{te:TE}{a:Pos}(hN:X.N.Nodup)(j:X.N[i]?=some x)(f:Loc X.env.scope x)(m:PE X e te)(g:swapsWith e (some (.Name x a)) pos.line X.env=pure false:=by rfl)(l:X.fn x=true\/X.env.scope.names.lookup x=some .local:=by first|exact .inl rfl|exact .inr rfl|assumption) :
  PS X (.Assign [.Name x a] e pos) (Qji te (QaX i)):=by
 intro b s c H D I h;refine wpAny_Assign_Name (thn (m b s c H _ I h) fun v p ⟨y,n,I1,d,q1⟩=>?_) g;exact Wp I1 hN j f d (fun o I2=>⟨_,n,I2,q1⟩) l
noncomputable def QnH(i:Nat)(te:TE)(b:TIp):TS:=fun D a H=>∃x,a[i]?=some (some x)/\te a H fun y d=>b x y d fun z c=>D.nx (a.set i (some z)) c
theorem QiP{i:Nat}{x:Str}{e:Expr}{te:TE}{op:Operator}{q:TIp}{j:Pos}(hN:X.N.Nodup)(t:X.N[i]?=some x)(o:Loc X.env.scope x)(O:PE X e te)(F:PIp X op q)(M:X.fn x=true\/X.env.scope.names.lookup x=some .local:=by first|exact .inl rfl|exact .inr rfl|assumption) :
  PS X (.AugAssign (.Name x j) op e pos) (QnH i te q):=by
 intro a s p H D I h;obtain⟨v,Q,h⟩:=h;obtain⟨m,G,L⟩:=I.loc;have n:Vis X.env.scope x:=by rcases o with k|k;exact .inl k;exact .inr (.inl k)
 obtain⟨u,r,l⟩:=L i x v t Q n;refine wpAny_AugAssign_Name ?_
 have go:wpAny (model X.prog X.w) X.A (eval e X.env) (fun w g=>wpAny (model X.prog X.w) X.A (inplaceOp op u w) (fun r f=>wpAny (model X.prog X.w) X.A (storeName X.env x r) (fun _=>SP X a D .next) X.xe f) X.xe g) X.xe s:=by
  refine thn (O a s p H _ I h) fun w B ⟨y,S,I1,E,q1⟩=>?_;refine thn (F a B p S v y u w _ I1 r E q1) fun z Y ⟨T,R,I2,C,q2⟩=>?_;exact Wp I2 hN t o C (fun U I3=>⟨_,R,I3,q2⟩) M
 rcases l with⟨b,J⟩|⟨b,c,P,d⟩
 ·exact Ix I.ok.kind b G J go
 ·rcases b with b|b
  ·exact IK I.ok.kind b P d go
  ·rcases o with k|k
   ·have:X.env.scope.names.lookup x=some .free:=b;rw[k]at this;cases this
   ·have:X.env.scope.names.lookup x=some .free:=b;rw[k]at this;cases this
end
section
variable{X:Cx}{pos:Pos}
noncomputable def Qez(c:TT)(h:TS):TS:=fun D a H=>∃W:Nat->St->Hp->Prop,(∃m,W m a H)/\∀m a H,W m a H ->
 c a H fun b f=>if b=true then∃N:St->Hp->Prop,(∀d g,N d g->∃e,e<m/\W e d g)/\h { D with nx:=N,ct:=N,bk:=D.nx } a f else D.nx a f
theorem Qdf{c:Expr}{body:List Stmt}{q:TT}{r:TS}(hp:PassesOwn (model X.prog X.w) X.A X.env X.xe)(J:PT X c q)(L:PSs X body r):PS X (.While c body [] pos) (Qez q r):=by
 intro d s y H D I h;obtain⟨W,⟨G,B⟩,i⟩:=h;refine wpAny_While (codeAny_whileLoop (fun n F=>∃g x,Inv X d g x F/\W n g x) ?_ G ⟨y,H,I,B⟩)
 rintro n E ⟨e,u,I1,z⟩
 refine EW hp (thn (J d E e u _ I1 (i n e u z)) fun b C ⟨t,I2,q2⟩=>?_);cases b with
 | true=>
  obtain⟨N,hN,q2⟩:=q2;rw[if_pos rfl];refine EW hp (thn (L d C e t _ I2 q2) fun f M q3=>?_);cases f with
  |next=>
   obtain⟨a,j,I3,m⟩:=q3;obtain⟨o,p,l⟩:=hN a j m;exact⟨o,p,a,j,I3,l⟩
  |cont=>
   obtain⟨a,j,I3,m⟩:=q3;obtain⟨o,p,l⟩:=hN a j m;exact⟨o,p,a,j,I3,l⟩
  |brk=>exact q3
  |ret v=>exact q3
 |false=>
  rw[if_neg N3];exact DX ⟨e,t,I2,q2⟩
end
structure It where
 go:Nat->Hp->Prop
 yld:Nat->Hp->V->Hp->Prop
 stop:Nat->Hp->Prop
def QaS(X:Cx)(a:List (Addr×Obj))(H:Hp)(b:Addr):Prop:=
 H b=none/\b≠X.env.locals/\b∉X.fs/\(b∈X.ex\/X.s₀.heap.objs.size<=b)/\(∀x c,X.env.cells.lookup x=some c->c≠b)/\∀p∈X.pn++a,p.1≠b
theorem Inv.fpOk{X:Cx}{a:List (Addr×Obj)}{σ:St}{H f:Hp}{s:Shared}{b:Addr}(I:Inv X a σ H s)(d:s.heap.objs.size<=b)(g:f b=none):QaS X a f b:=by
 refine⟨g,FD (Nm I.lt d),I.nofs d,.inr (Nu I.sz d),fun x c e z=>?_,fun p hp z=>?_⟩
 ·obtain⟨v,q⟩:=I.cell x c e;exact absurd (Nm q.lt (by rw[z];exact d)) (Ed _)
 ·exact absurd (Nm (No (I.pin p hp).1) (by rw[z];exact d)) (Ed _)
structure Turn(P:Program)(w:World)(K:Nd)(tg:Expr)(J:It)(fp:List Addr)(it:Addr)(tn:Nat->Heap->Prop):Prop where
 mem:it∈fp
 obj:∀i h,tn i h->∀b∈fp,∃o,h.get? b=some o/\∀v,o.data≠.cell v
 keep:∀i h h',tn i h->(∀b∈fp,∀o,h.get? b=some o->h'.get? b=some o)->tn i h'
 item:∀(X:Cx),X.prog=P->X.w=w->X.K=K->X.calm=true->∀(i:Nat) (pins:List (Addr×Obj)) (s:Shared) (σ:St) (H:Hp) (E:Value->Shared->Prop),Inv X pins σ H s->(∀b∈fp,QaS X pins H b)->tn i s.heap->J.go i H ->
  wpAny (model P w) X.A (pyNext (.ref it)) (fun r s1=>∃u,r=some u /\
   wpAny (model P w) X.A (letOwnedTupleGo tg (.ref it) u) (fun _ s2=>∃x H',Inv X pins σ H' s2/\RelV x u/\J.yld i H x H'/\tn (i+1) s2.heap/\∀b∈fp,H' b=none) E s1) E s
 done:∀(X:Cx),X.prog=P->X.w=w->X.K=K->X.calm=true->∀(i:Nat) (pins:List (Addr×Obj)) (s:Shared) (σ:St) (H:Hp) (E:Value->Shared->Prop),Inv X pins σ H s->(∀b∈fp,QaS X pins H b)->tn i s.heap->J.stop i H ->
  wpAny (model P w) X.A (pyNext (.ref it)) (fun r s1=>r=none/\Inv X pins σ H s1) E s
 self:∀(A:Around) (i:Nat) (s:Shared) (Q:Value->Shared->Prop) (E:Value->Shared->Prop),tn i s.heap->Q (.ref it) s->wpAny (model P w) A (pyIter (.ref it)) Q E s
noncomputable abbrev TI:=St->Hp->(It->Hp->Prop)->Prop
def PIE(X:Cx)(a:List (Addr×Obj))(σ:St)(i:Expr)(R:It->Hp->Prop)(c:Value)(f:Shared):Prop:=
 ∃(g:Addr) (h:List Addr) (e:Nat->Heap->Prop) (J:It) (d:Hp),c=.ref g/\Inv X a σ d f/\Turn X.prog X.w X.K i J h g e/\e 0 f.heap/\(∀b∈h,QaS X a d b)/\R J d
def PI(X:Cx)(c iter:Expr)(wi:TI):Prop:=
 ∀(a:List (Addr×Obj)) (s:Shared) (b:St) (H:Hp) (R:It->Hp->Prop),Inv X a b H s->wi b H R ->
  wpAny (model X.prog X.w) X.A (eval iter X.env) (fun v d=>wpAny (model X.prog X.w) X.A (pyIter v) (PIE X a b c R) X.xe d) X.xe s
theorem Qba {M:Model} {A:Around} {E:Value->Shared->Prop} {s:Shared} {b:Expr} {it:Addr} {u:Value} {o:Obj} {n:String} {vs:Array Value} {Q:Unit->Shared->Prop} (c:s.heap.get? it=some o) (e:o.cls=.type n) (hd:o.data=.fields vs)
    (d:["enumerate","zip","dict_itemiterator","dict_reverseitemiterator","odict_iterator","itertools.zip_longest","itertools.pairwise"].contains n=false) (a:Q () s):wpAny M A (letOwnedTupleGo b (.ref it) u) Q E s:=by
  unfold letOwnedTupleGo
  cases b<;>first
    |exact Nh a
    |(cases u<;>first
        |exact Nh a
        | (refine Nc (LK c ?_)
           rw[e,hd];show wpAny M A (if(["enumerate","zip","dict_itemiterator","dict_reverseitemiterator","odict_iterator","itertools.zip_longest","itertools.pairwise"].contains n&&vs[0]?==some (rawInt _))=true then _ else _) Q E s;rw[if_neg (by intro h;rw[d,Bool.false_and]at h;cases h)]
           exact Nh a))
noncomputable def Itl(K:Nd)(a:Addr):It:=
 ⟨fun i H=>∃b x,SqL K H a b/\b[i]?=some x,fun i H x c=>c=H/\∀b,SqL K H a b->b[i]?=some x,fun i H=>∃b,SqL K H a b/\b.length<=i⟩
noncomputable def Itt(K:Nd)(a:Addr):It:=
 ⟨fun i H=>∃b x,SqT K H a b/\b[i]?=some x,fun i H x c=>c=H/\∀b,SqT K H a b->b[i]?=some x,fun i H=>∃b,SqT K H a b/\b.length<=i⟩
noncomputable def Itr(lo:Int)(n:Nat):It:=⟨fun i _=>i<n,fun i H x a=>a=H/\x=.int (lo+i),fun i _=>n<=i⟩
theorem QbC{P:Program}{w:World}{K:Nd}{N:Expr}(a it:Addr):Turn P w K N (Itl K a) [it] it (fun i h=>h.IsListIter it a i) where
 mem:=by simp
 obj:=fun i h st b g=>by
  have e:b=it:=by simpa using g
  subst e;obtain⟨o,e,c,d⟩:=st;exact⟨o,e,fun v z=>by rw[d]at z;cases z⟩
 keep:=fun i h n st k=>st.at fun o e=>k it (by simp) o e
 item:=by
  intro X A hw B L i f s J H E I m st y;subst A hw B;obtain⟨M,x,l,t⟩:=y;obtain⟨r,q,p,S⟩:=I.list l;obtain⟨u,hu,R⟩:=q.get t;obtain⟨G,f1,f2,F,D,C⟩:=m it (by simp);refine F4 st p.isList (x:=u) (by simpa using hu) fun n j Q=>?_;have I1:Inv X f J H { s with heap:=n }:=I.turned (t':=s.toks) (fun b o g e=>(Q.2 b g).trans e) G f1 F D C;obtain⟨o,e,c,d⟩:=id j;exact⟨u,rfl,Qba (s:={ s with heap:=n }) e c d (by decide) ⟨x,H,I1,R,⟨rfl,fun Y T=>by rw[I.list_inj T l];exact t⟩,j,fun b g=>(m b g).1⟩⟩
 done:=by
  intro X A hw B L i f s J H E I m st y;subst A hw B;obtain⟨M,l,t⟩:=y;obtain⟨r,q,p,S⟩:=I.list l;obtain⟨G,f1,f2,F,D,C⟩:=m it (by simp);have Z:=q.length;exact Ik (I.ok.hd L) st p.isList (by simp;omega) fun n U=>⟨rfl,I.turned (t':=s.toks) (fun b o g e=>U b o g e) G f1 F D C⟩
 self:=fun _ _ _ _ _ st h=>wpAny_pyIter_listiter st h
theorem QaD{P:Program}{w:World}{K:Nd}{N:Expr}(a it:Addr):Turn P w K N (Itt K a) [it] it (fun i h=>h.IsTupleIter it a i) where
 mem:=by simp
 obj:=fun i h st b j=>by
  have e:b=it:=by simpa using j
  subst e;obtain⟨o,e,c,d⟩:=st;exact⟨o,e,fun v z=>by rw[d]at z;cases z⟩
 keep:=fun i h q st k=>st.at fun o e=>k it (by simp) o e
 item:=by
  intro X A hw B L i f s J H E I n st y;subst A hw B;obtain⟨M,x,m,t⟩:=y;obtain⟨g,r,p,S⟩:=I.tuple m;obtain⟨u,hu,R⟩:=r.get t;obtain⟨G,f1,f2,F,D,C⟩:=n it (by simp);refine wpAny_pyNext_tuple_item st (show s.heap.IsTuple a g.toArray from p) (x:=u) (by simpa using hu) fun q l Q=>?_;have I1:Inv X f J H { s with heap:=q }:=I.turned (t':=s.toks) (fun b o j e=>(Q.2 b j).trans e) G f1 F D C;obtain⟨o,e,c,d⟩:=id l;exact⟨u,rfl,Qba (s:={ s with heap:=q }) e c d (by decide) ⟨x,H,I1,R,⟨rfl,fun Y T=>by rw[I.tuple_inj T m];exact t⟩,l,fun b j=>(n b j).1⟩⟩
 done:=by
  intro X A hw B L i f s J H E I n st y;subst A hw B;obtain⟨M,m,t⟩:=y;obtain⟨g,r,p,S⟩:=I.tuple m;obtain⟨G,f1,f2,F,D,C⟩:=n it (by simp);have Z:=r.length;exact wpAny_pyNext_tuple_end (I.ok.hd L) st (show s.heap.IsTuple a g.toArray from p) (by simp;omega) fun q U=>⟨rfl,I.turned (t':=s.toks) (fun b o j e=>U b o j e) G f1 F D C⟩
 self:=fun _ _ _ _ _ st h=>wpAny_pyIter_tupleiter st h
theorem Qat{P:Program}{w:World}{K:Nd}{D:Expr}(it:Addr)(lo:Int)(n:Nat):Turn P w K D (Itr lo n) [it] it (fun i h=>IsRangeIter h it (lo+(i:Nat)*1) ((n:Int)-(i:Nat)) 1) where
 mem:=by simp
 obj:=fun i h st b c=>by
  have e:b=it:=by simpa using c
  subst e
  exact⟨_,st,fun v z=>by
   have C:Data.fields _=Data.cell v:=z
   cases C⟩
 keep:=fun i h g st k=>k it (by simp) _ st
 item:=by
  intro X m hw p l i a s y H E I f st j;subst m hw p;obtain⟨x,f1,f2,u,r,q⟩:=f it (by simp);have W:=Ob (prog:=X.prog) (w:=X.w) (I.ok.hd l) it lo 1 n;refine W.item i s _ _ j st fun v g A G d F=>?_;obtain⟨t,rfl⟩:=G;have I1:Inv X a y H { s with heap:=g,toks:=A }:=I.turned (fun b o c e=>F b o (by simpa using c) e) x f1 u r q;refine⟨_,rfl,Qba (s:={ s with heap:=g,toks:=A }) (n:="range_iterator") d rfl rfl (by decide) ⟨.int (lo+i),H,I1,⟨t,?_⟩,⟨rfl,rfl⟩,d,fun b c=>(f b c).1⟩⟩;rw[Int.mul_one]
 done:=by
  intro X m hw p l i a s y H E I f st j;subst m hw p;obtain⟨x,f1,f2,u,r,q⟩:=f it (by simp);exact F5 (I.ok.hd l) st (by have:n<=i:=j;omega) fun g J=>⟨rfl,I.turned (t':=s.toks) (fun b o c e=>J b o c e) x f1 u r q⟩
 self:=fun _ _ _ _ _ st h=>F6 st h
section
variable{X:Cx}{tg:Expr}
theorem Gw{c:List (Addr×Obj)}{σ:St}{H:Hp}{s:Shared}{R:It->Hp->Prop}{E:Value->Shared->Prop}{lo a:Int}{t u v:Tok}{tk:Nat}(I:Inv X c σ H s)(h1:-(2^62)<=lo)(h2:lo<2^62)(g:-(2^62)<=a)(f:a<2^62)
  (q:R (Itr lo (a-lo).toNat) H):wpAny (model X.prog X.w) X.A (pyIter (.ref s.heap.objs.size)) (PIE X c σ tg R) E { s with heap:=s.heap.push { cls:=.type "range",data:=.fields #[.int lo t,.int a u,.int 1 v] },toks:=tk }:=by
 refine IX (Oc ..) (small_one h1 h2 g f) ?_;have I1:Inv X c σ H { s with heap:=s.heap.push { cls:=.type "range",data:=.fields #[.int lo t,.int a u,.int 1 v] },toks:=tk }:=I.kept fun b o e=>Nl _ e
 refine⟨(s.heap.push { cls:=.type "range",data:=.fields #[.int lo t,.int a u,.int 1 v] }).objs.size,[(s.heap.push { cls:=.type "range",data:=.fields #[.int lo t,.int a u,.int 1 v] }).objs.size],_,_,H,rfl,
  I1.kept (t':=tk) fun b o e=>Nl _ e,Qat _ lo (a-lo).toNat,?_,fun b d=>?_,q⟩
 ·have i:lo+((0:Nat):Int)*1=lo:=by simp
  have h:(((a-lo).toNat:Nat):Int)-((0:Nat):Int)=Builtin.Range.rangeSize lo a 1:=by rw[rangeSize_one];split<;>omega
  show IsRangeIter _ _ (lo+((0:Nat):Int)*1) ((((a-lo).toNat:Nat):Int)-((0:Nat):Int)) 1;rw[i,h];exact Ny _ rfl
 ·have e:b=(s.heap.push { cls:=.type "range",data:=.fields #[.int lo t,.int a u,.int 1 v] }).objs.size:=by simpa using d
  subst e;exact I1.fpOk (Nn _) (I1.hok.fresh (Nn _))
noncomputable def QkE(c:TA):TI:=fun a H R=>c a H fun b d=>∃j:Int,b=[.int j]/\-(2^62)<=j/\j<2^62/\R (Itr 0 j.toNat) d
noncomputable def Qkv(c:TA):TI:=fun a H R=>c a H fun b d=>∃i j:Int,b=[.int i,.int j]/\(-(2^62)<=i/\i<2^62/\-(2^62)<=j/\j<2^62)/\R (Itr i (j-i).toNat) d
theorem Qbw{a:Expr}{c:TA}{p pos:Pos}(m:Gl X "range")(l:X.mg "range"=none)(n:PA X [a] c)(i:starEach [a] X.env=[(false,eval a X.env)]:=by rfl):PI X tg (.Call (.Name "range" p) [a] [] pos) (QkE c):=by
 intro b s d H R I h;refine Call_ (XG I m l LL (Ei (thn (n pos b s d H _ I h) fun u v ⟨o,w,I1,g,q1⟩=>?_) i rfl));obtain⟨j,e,q1,q2,q⟩:=q1;subst e;cases g with
 |cons r f=>
  cases f;obtain⟨t,rfl⟩:=r;exact call_range_1 (Gw I1 (by omega) (by omega) q1 q2 (by simpa using q))
theorem QaU{a b:Expr}{g:TA}{p pos:Pos}(v:Gl X "range")(u:X.mg "range"=none)(w:PA X [a,b] g)(o:starEach [a,b] X.env=[(false,eval a X.env),(false,eval b X.env)]:=by rfl)(d:starEach [b] X.env=[(false,eval b X.env)]:=by rfl) :
  PI X tg (.Call (.Name "range" p) [a,b] [] pos) (Qkv g):=by
 intro c s l H R I h;refine Call_ (XG I v u LL (Ei (thn (w pos c s l H _ I h) fun y A ⟨x,B,I1,m,q1⟩=>?_) (by rw[o,d]) (by rw[d];rfl)));obtain⟨i,j,e,⟨q1,q2,q3,q4⟩,q⟩:=q1;subst e;cases m with
 | cons r f=>
  cases f with
  |cons n f=>
   cases f;obtain⟨t,rfl⟩:=r;obtain⟨z,rfl⟩:=n;exact call_range_2 (Gw I1 q1 q2 q3 q4 q)
noncomputable def Qmb(wi:TI)(g:TG)(f:TS):TS:=fun D a H=>wi a H fun J j=>∃W:Nat->Nat->St->Hp->Prop,(∃m,W 0 m a j)/\∀i m a H,W i m a H ->
 (J.stop i H/\D.nx a H)\/(J.go i H/\∃N:St->Hp->Prop,(∀b c,N b c->∃e,e<m/\W (i+1) e b c)/\∀x c,J.yld i H x c->g x a c fun d h=>f { D with nx:=N,ct:=N,bk:=D.nx } d h)
noncomputable def WS(a:List Addr)(h:Heap):List (Addr×Obj):=a.filterMap fun b=>(h.get? b).map fun o=>(b,o)
theorem VG{a:List Addr}{h:Heap}{b:Addr}{o:Obj}(c:b∈a)(e:h.get? b=some o):(b,o)∈WS a h:=Fg.mpr ⟨b,c,by rw[e];rfl⟩
theorem Qby{a:List Addr}{h:Heap}{p:Addr×Obj}(hp:p∈WS a h):p.1∈a/\h.get? p.1=some p.2:=by
 obtain⟨b,c,e⟩:=Fg.mp hp;cases q:h.get? b with
 |none=>rw[q]at e;cases e
 |some o=>
  rw[q]at e;have d:(b,o)=p:=NU e;subst d;exact⟨c,q⟩
theorem Inv.pinned{a:List (Addr×Obj)}{σ:St}{H:Hp}{s:Shared}{c:List Addr}(I:Inv X a σ H s)(i:∀b∈c,QaS X a H b)(h:∀b∈c,∃o,s.heap.get? b=some o/\∀v,o.data≠.cell v):Inv X (a++WS c s.heap) σ H s:=
 I.pins_of fun p hp=>(NK.mp hp).elim (fun z=>I.pin p (NJ _ z)) fun z=>by
  obtain⟨f,e⟩:=Qby z;obtain⟨j,f1,f2,_⟩:=i p.1 f;obtain⟨o,g,d⟩:=h p.1 f;rw[e]at g;cases g;exact⟨e,j,f1,f2,d⟩
theorem Inv.unpinned{a pl:List (Addr×Obj)}{σ:St}{H:Hp}{s:Shared}(I:Inv X (a++pl) σ H s):Inv X a σ H s:=I.pins_of fun p hp=>I.pin p (NJ _ (Ek _ hp))
theorem Qhv{iter:Expr}{body:List Stmt}{wi:TI}{g:TG}{tb:TS}{pos:Pos}(hp:PassesOwn (model X.prog X.w) X.A X.env X.xe)(hc:X.calm=true)(hi:PI X tg iter wi)(hg:PG X tg g)(q:PSs X body tb)
  (hs:∀x,foldedSetIterable iter X.env x=pure x:=by intro _;rfl):PS X (.For tg iter body [] pos) (Qmb wi g tb):=by
 intro c s Y H D I h;refine wpAny_For (thn (hi c s Y H _ I h) fun v s1 h1=>thn h1 fun ab s2 h2=>?_) hs;obtain⟨it,L,tn,J,H2,e,I2,T,st2,f2,W,⟨m0,w0⟩,C⟩:=h2;subst e
 -- Z Q true of P z E through P aa
 have p:∀{y:Hp},(∀b∈L,y b=none)->∀b∈L,QaS X c y b:=fun hn b q=>⟨hn b q,(f2 b q).2⟩
 refine codeAny_forLoop_any (fun n s'=>∃i l y,Inv X c l y s'/\tn i s'.heap/\(∀b∈L,y b=none)/\W i n l y) ?_ m0 ⟨0,Y,H2,I2,st2,fun b q=>(f2 b q).1,w0⟩
 rintro n s3 ⟨i,j,M,I3,st3,G,w3⟩
 rcases C i n j M w3 with⟨stop,qn⟩|⟨go,N,hN,step⟩
 ·refine EW hp (thn (T.done X rfl rfl rfl hc i c s3 j M X.xe I3 (p G) st3 stop) fun r s4 ⟨hr,I4⟩=>?_);subst hr;exact DX ⟨j,M,I4,qn⟩
 ·refine EW hp (thn (T.item X rfl rfl rfl hc i c s3 j M X.xe I3 (p G) st3 go) fun r s4 ⟨u,hr,h4⟩=>?_);subst hr;refine EW hp (thn h4 fun _ s5 ⟨x,H5,I5,r5,y5,B,S⟩=>?_);have U:=I5.pinned (p S) (T.obj _ _ B);refine EW hp (thn (hg _ s5 j H5 x u _ U r5 (step x H5 y5)) fun _ s6 ⟨O,H6,I6,q6⟩=>?_);refine EW hp (thn (q _ s6 O H6 _ I6 q6) fun f R q7=>?_)
  have again:∀{a:St} {t:Hp},Inv X (c++WS L s5.heap) a t R->N a t->∃m,m<n/\∃i l y,Inv X c l y R/\tn i R.heap/\(∀b∈L,y b=none)/\W i m l y:=fun {a t} I7 F=>by
   obtain⟨m',hm,w7⟩:=hN a t F;refine⟨m',hm,i+1,a,t,I7.unpinned,T.keep _ _ _ B fun b q o e=>(I7.pin (b,o) (NJ _ (NJ _ (VG q e)))).1,fun b q=>?_,w7⟩;obtain⟨o,e,d⟩:=T.obj _ _ B b q;exact(I7.pin (b,o) (NJ _ (NJ _ (VG q e)))).2.1
  cases f with
  |next=>obtain⟨a,t,I7,F⟩:=q7;exact again I7 F
  |cont=>obtain⟨a,t,I7,F⟩:=q7;exact again I7 F
  |brk=>obtain⟨a,t,I7,q7⟩:=q7;exact⟨a,t,I7.unpinned,q7⟩
  |ret v=>obtain⟨x7,a,t,I7,r7,q7⟩:=q7;exact⟨x7,a,t,I7.unpinned,r7,q7⟩
end
noncomputable abbrev R2:=V->V->Hp->VK->Prop
def OpR(X:Cx)(f:Value->Value->Sem Value)(r:R2):Prop:=
 ∀(a:List (Addr×Obj)) (s:Shared) (b:St) (H:Hp) (x y:V) (v u:Value) (Q:VK),Inv X a b H s->RelV x v->RelV y u->r x y H Q ->
  wpAny (model X.prog X.w) X.A (f v u) (EP X a b Q) X.xe s
def UnR(X:Cx)(f:Value->Sem Value)(r:V->Hp->VK->Prop):Prop:=
 ∀(a:List (Addr×Obj)) (s:Shared) (b:St) (H:Hp) (x:V) (v:Value) (Q:VK),Inv X a b H s->RelV x v->r x H Q ->
  wpAny (model X.prog X.w) X.A (f v) (EP X a b Q) X.xe s
def CallR(X:Cx)(f:Value)(r:List V->Hp->VK->Prop):Prop:=
 ∀(a:List (Addr×Obj)) (s:Shared) (b:St) (H:Hp) (c:List V) (d:List Value) (Q:VK),Inv X a b H s->Vals c d->r c H Q ->
  wpAny (model X.prog X.w) X.A (call f d) (EP X a b Q) X.xe s
def QnA(X:Cx)(r:V->Hp->(Bool->Hp->Prop)->Prop):Prop:=
 ∀(a:List (Addr×Obj)) (s:Shared) (b:St) (H:Hp) (x:V) (v:Value) (Q:Bool->Hp->Prop),Inv X a b H s->RelV x v->r x H Q ->
  wpAny (model X.prog X.w) X.A (truthy v) (TP X a b Q) X.xe s
noncomputable def tOp(r:R2)(c b:TE):TE:=fun a H Q=>c a H fun x e=>b a e fun y d=>r x y d Q
noncomputable def tUn(r:V->Hp->VK->Prop)(b:TE):TE:=fun a H Q=>b a H fun x c=>r x c Q
noncomputable def rI(C:Int->Int->Prop)(g:Int->Int->V):R2:=fun x y H Q=>∃i j,x=.int i/\y=.int j/\C i j/\Q (g i j) H
noncomputable def rI0(g:Int->Int->V):R2:=fun x y H Q=>∃i j,x=.int i/\y=.int j/\Q (g i j) H
noncomputable def rU(g:Int->V):V->Hp->VK->Prop:=fun x H Q=>∃i,x=.int i/\Q (g i) H
section
variable{X:Cx}{a b c:Expr}{ta tb tc:TE}{pos:Pos}
theorem Qkj(r:PE X a ta)(q:PE X b tb){d:List (Addr×Obj)}{s:Shared}{σ:St}{H:Hp}{R:V->V->Hp->Prop}(I:Inv X d σ H s)
  (h:ta σ H fun x l=>tb σ l fun y e=>R x y e) {Q:Value->Shared->Prop} {f:Value->Value->Sem Value}
  (p:∀v u j x y e,Inv X d σ e j->RelV x v->RelV y u->R x y e->wpAny (model X.prog X.w) X.A (f v u) Q X.xe j) :
  wpAny (model X.prog X.w) X.A (eval a X.env) (fun v i=>wpAny (model X.prog X.w) X.A (eval b X.env) (fun u g=>wpAny (model X.prog X.w) X.A (f v u) Q X.xe g) X.xe i) X.xe s:=by
 refine thn (r d s σ H _ I h) fun v m ⟨x,l,I1,o,q1⟩=>?_;refine thn (q d m σ l _ I1 q1) fun u j ⟨y,e,I2,n,q2⟩=>?_;exact p v u j x y e I2 o n q2
theorem Qkd{op:Operator}{r:R2}(j:OpR X (binaryOp op) r)(m:PE X a ta)(l:PE X b tb):PE X (.BinOp a op b pos) (tOp r ta tb):=by
 intro d s e H Q I h;exact wpAny_BinOp (Qkj m l I h fun v u f x y n I2 i g q=>j d f e n x y v u Q I2 i g q)
theorem Qki{op:UnaryOp}{r:V->Hp->VK->Prop}(i:UnR X (unaryOp op) r)(j:PE X a ta):PE X (.UnaryOp op a pos) (tUn r ta):=by
 intro d s e H Q I h;exact UnaryOp_ (thn (j d s e H _ I h) fun v f ⟨x,l,I1,g,q1⟩=>i d f e l x v Q I1 g q1)
theorem opI{f:Value->Value->Sem Value}{C:Int->Int->Prop}{g:Int->Int->Int}
  (rule:∀(i j:Int) (t u:Tok) (s:Shared) (Q:Value->Shared->Prop) (E:Value->Shared->Prop),C i j->Q (.int (g i j) s.toks) { s with toks:=s.toks+1 }->wpAny (model X.prog X.w) X.A (f (.int i t) (.int j u)) Q E s) :
  OpR X f (rI C fun i j=>.int (g i j)):=by
 intro d s o H x y v u Q I m l h;obtain⟨i,j,rfl,rfl,n,q⟩:=h;obtain⟨t,rfl⟩:=m;obtain⟨e,rfl⟩:=l;exact rule i j t e s _ _ n ⟨.int (g i j),H,I.tok _,⟨_,rfl⟩,q⟩
theorem Qks{f:Value->Value->Sem Value}{g:Int->Int->Int}
  (rule:∀(i j:Int) (t u:Tok) (s:Shared) (Q:Value->Shared->Prop) (E:Value->Shared->Prop),Q (.int (g i j) s.toks) { s with toks:=s.toks+1 }->wpAny (model X.prog X.w) X.A (f (.int i t) (.int j u)) Q E s) :
  OpR X f (rI0 fun i j=>.int (g i j)):=by
 intro d s n H x y v u Q I m l h;obtain⟨i,j,rfl,rfl,q⟩:=h;obtain⟨t,rfl⟩:=m;obtain⟨e,rfl⟩:=l;exact rule i j t e s _ _ ⟨.int (g i j),H,I.tok _,⟨_,rfl⟩,q⟩
theorem QkU{f:Value->Value->Sem Value}{g:Int->Int->Bool}
  (rule:∀(i j:Int) (t u:Tok) (s:Shared) (Q:Value->Shared->Prop) (E:Value->Shared->Prop),Q (.bool (g i j)) s->wpAny (model X.prog X.w) X.A (f (.int i t) (.int j u)) Q E s) :
  OpR X f (rI0 fun i j=>.bl (g i j)):=by
 intro d s n H x y v u Q I m l h;obtain⟨i,j,rfl,rfl,q⟩:=h;obtain⟨t,rfl⟩:=m;obtain⟨e,rfl⟩:=l;exact rule i j t e s _ _ ⟨.bl (g i j),H,I,rfl,q⟩
def Qm9(i j:Int):Prop:=0<j/\j<1073741824
def CMul(i j:Int):Prop:=(-(2^64)<i/\i<2^64)\/(-(2^64)<j/\j<2^64)
theorem CMul.ok{i j:Int}(h:CMul i j):IntMulOk i j:=by
 rcases h with⟨e,d⟩|⟨e,d⟩
 ·exact .of_left (intBits_le_64 e d)
 ·exact .of_right (intBits_le_64 e d)
theorem op_add:OpR X (binaryOp .Add) (rI0 fun i j=>.int (i+j)):=Qks fun _ _ _ _ _ _ _ q=>add_int q
theorem QiU:OpR X (binaryOp .Sub) (rI0 fun i j=>.int (i-j)):=Qks fun _ _ _ _ _ _ _ q=>sub_int q
theorem Qir:OpR X (binaryOp .Mult) (rI CMul fun i j=>.int (i*j)):=opI fun _ _ _ _ _ _ _ d q=>mul_int q d.ok
theorem Qfa:OpR X (binaryOp .FloorDiv) (rI Qm9 fun i j=>.int (i/j)):=opI fun i j _ _ _ _ _ d q=>by
 have f:(0:Int)<j:=d.1;have e:j<1073741824:=d.2;exact floordiv_int (by omega) (by rw[Int.fdiv_eq_ediv_of_nonneg i (by omega)];exact q) (.inl (F7 (by omega)))
theorem QiX:OpR X (binaryOp .Mod) (rI (fun _ j=>0<j) fun i j=>.int (i%j)):=opI fun i j _ _ _ _ _ d q=>by
 have e:(0:Int)<j:=d;exact mod_int' (by omega) (by rw[Int.fmod_eq_emod_of_nonneg i (by omega)];exact q)
theorem Qgg:OpR X (inplaceOp .Add) (rI0 fun i j=>.int (i+j)):=Qks fun _ _ _ _ _ _ _ q=>LZ q
theorem unI{f:Value->Sem Value}{g:Int->Int}
  (rule:∀(i:Int) (t:Tok) (s:Shared) (Q:Value->Shared->Prop) (E:Value->Shared->Prop),Q (.int (g i) s.toks) { s with toks:=s.toks+1 }->wpAny (model X.prog X.w) X.A (f (.int i t)) Q E s) :
  UnR X f (rU fun i=>.int (g i)):=by
 intro d s j H x v Q I e h;obtain⟨i,rfl,q⟩:=h;obtain⟨t,rfl⟩:=e;exact rule i t s _ _ ⟨.int (g i),H,I.tok _,⟨_,rfl⟩,q⟩
theorem QhQ:UnR X (unaryOp .USub) (rU fun i=>.int (-i)):=unI fun _ _ _ _ _ q=>neg_int q
end
section
variable{X:Cx}{a b c:Expr}{ta tb tc:TE}{pos:Pos}
theorem Qcv{d:List (Addr×Obj)}{σ:St}{H:Hp}{s:Shared}{Q:VK}{k f:Bool}(I:Inv X d σ H s)(q:Q (.bl k) H)(e:k=f):EP X d σ Q (.bool f) s:=by
 subst e;exact⟨.bl k,H,I,rfl,q⟩
theorem op_lt:OpR X (compareOp .Lt) (rI0 fun i j=>.bl (decide (i<j))):=QkU fun _ _ _ _ _ _ _ q=>lt_int q
theorem Qkk:OpR X (compareOp .Gt) (rI0 fun i j=>.bl (decide (j<i))):=QkU fun _ _ _ _ _ _ _ q=>gt_int q
theorem Qj2:OpR X (compareOp .GtE) (rI0 fun i j=>.bl (decide (j<=i))):=QkU fun _ _ _ _ _ _ _ q=>ge_int q
theorem Qa6:OpR X (compareOp .Lt) (fun x y H Q=>∃i j,x=.str i/\y=.str j/\Q (.bl (decide (i.cps.toList<j.cps.toList))) H):=by
 intro d s g H x y v u Q I f e h;obtain⟨i,j,rfl,rfl,q⟩:=h;obtain⟨t,rfl⟩:=f;obtain⟨l,rfl⟩:=e;exact lt_str (Qcv I q rfl)
theorem op_isN:OpR X (compareOp .Is) (fun x y H Q=>y=.non/\Q (.bl (decide (x=.non))) H):=by
 intro e s g H x y v u Q I d f h;obtain⟨rfl,q⟩:=h;cases f;refine is_none_gen (Qcv I q ?_)
 cases x<;>first
  |(cases d;rfl)
  |(obtain⟨t,rfl⟩:=d;rfl)
theorem QfC:OpR X (compareOp .IsNot) (fun x y H Q=>y=.non/\Q (.bl (!decide (x=.non))) H):=by
 intro e s g H x y v u Q I d f h;obtain⟨rfl,q⟩:=h;cases f;refine isnot_none_gen (Qcv I q ?_)
 cases x<;>first
  |(cases d;rfl)
  |(obtain⟨t,rfl⟩:=d;rfl)
theorem OpR.or{f:Value->Value->Sem Value}{r j:R2}(h:OpR X f r)(h':OpR X f j):OpR X f (fun x y H Q=>r x y H Q\/j x y H Q):=by
 intro d s e H x y v u Q I i g q
 rcases q with q|q
 ·exact h d s e H x y v u Q I i g q
 ·exact h' d s e H x y v u Q I i g q
theorem Qfl{op:CmpOp}{r:R2}(j:OpR X (compareOp op) r)(n:PE X a ta)(m:PE X b tb)(l:behindInMarks op b=false):PE X (.Compare a [op] [b] pos) (tOp r ta tb):=by
 intro d s e H Q I h;exact wpAny_Compare1 (Qkj n m I h fun v u f x y o I2 i g q=>j d f e o x y v u Q I2 i g q) l
noncomputable def QjB(t:TE):TT:=fun d H Q=>t d H fun x e=>∃k,x=.bl k/\Q k e
theorem Qgd{op:CmpOp}{r:R2}(n:OpR X (compareOp op) r)(q:PE X a ta)(p:PE X b tb)(o:behindInMarks op b=false):PT X (.Compare a [op] [b] pos) (QjB (tOp r ta tb)):=by
 intro d s f H Q I h
 refine wpAny_isTrue_Compare1 (thn (q d s f H _ I h) fun v i ⟨x,A,I1,m,q1⟩=>thn (p d i f A _ I1 q1) fun u g ⟨y,w,I2,l,q2⟩=>
  thn (n d g f w x y v u _ I2 m l q2) fun c B ⟨z,t,I3,j,k,e,q3⟩=>?_) o
 subst e;cases j;exact Fr ⟨t,I3,q3⟩
def Qk7(K:Nd)(x:V)(H:Hp)(k:Bool):Prop:=
 match x with
 |.non=>k=false
 |.bl b=>k=b
 |.int i=>k=(i != 0)
 |.str y=>y.length<=sizeLine/\k=((y.length:Int) != 0)
 |.byt y=>y.size<=sizeLine/\k=((y.size:Int) != 0)
 |.ref p=>(∃d,SqL K H p d/\k=!d.isEmpty)\/(∃d,SqT K H p d/\k=!d.isEmpty)\/∃e,H p=some (.dK e)/\k=!e.isEmpty
 |_=>False
theorem QaJ{κ:Type}{kvs:List (κ×V)}{vs:List (κ×Value)}(r:KV kvs vs):(!vs.isEmpty)=!kvs.isEmpty:=by
 cases r<;>rfl
theorem YL{xs:List V}{d:List Value}(r:Vals xs d):(!d.toArray.isEmpty)=!xs.isEmpty:=by
 cases r<;>simp
theorem KS:(sizeLine:Nat)<2^63:=by rw[EL];decide
theorem Qhp:QnA X (fun x H Q=>∃k,Qk7 X.K x H k/\Q k H):=by
 intro A s E H x v Q I l h;obtain⟨k,e,q⟩:=h;have G:=KS;have F:sizeLine=16777216:=EL;cases x with
 |non=>
  cases l;have d:k=false:=e;subst d;exact truthy_none ⟨H,I,q⟩
 |bl b=>
  cases l;have d:k=b:=e;subst d;exact Fr ⟨H,I,q⟩
 |int i=>
  obtain⟨t,rfl⟩:=l;have d:k=(i != 0):=e;subst d;exact PySem.P.truthy_int ⟨H,I,q⟩
 |str y=>
  obtain⟨t,rfl⟩:=l;obtain⟨C,d⟩:y.length<=sizeLine/\k=((y.length:Int) != 0):=e;subst d;exact PySem.P.truthy_str (by omega) ⟨H,I.tok _,q⟩
 |byt y=>
  obtain⟨t,rfl⟩:=l;obtain⟨C,d⟩:y.size<=sizeLine/\k=((y.size:Int) != 0):=e;subst d;exact PySem.W.truthy_bytes (by omega) ⟨H,I.tok _,q⟩
 |ref p=>
  cases l;have d:(∃j,SqL X.K H p j/\k=!j.isEmpty)\/(∃j,SqT X.K H p j/\k=!j.isEmpty)\/∃f,H p=some (.dK f)/\k=!f.isEmpty:=e
  rcases d with⟨j,n,d⟩|⟨j,n,d⟩|⟨f,n,d⟩
  ·subst d;obtain⟨z,r,u,B⟩:=I.list n;have g:=r.length;exact wpAny_truthy_list u.isList (by simp only[Nk];omega) ⟨H,I.tok _,by rw[YL r];exact q⟩
  ·subst d;obtain⟨z,r,u,B⟩:=I.tuple n;have g:=r.length;exact truthy_tuple u (by simp only[Nk];omega) ⟨H,I.tok _,by rw[YL r];exact q⟩
  ·subst d;obtain⟨B,D,o,r,m⟩:f.length<=sizeLine/\(p==sysModules)=false/\∃o,KV f o/\s.heap.DictOf (Zy X.prog X.w) p o:=I.hok p _ n;have g:f.length=o.length:=N6 r;exact wpAny_truthy_dict D m (by omega) ⟨H,I.tok _,by rw[QaJ r];exact q⟩
 |_=>exact(show False from e).elim
theorem QdP(j:PE X a ta)(i:∀whole,isTrue a X.env whole=(do let v <-whole;standAt a.pos;holding [v] (truthy v))) :
  PT X a (fun σ H Q=>ta σ H fun x e=>∃k,Qk7 X.K x e k/\Q k e):=by
 intro d s σ H Q I h;exact isTrue_plain (thn (j d s σ H _ I h) fun v f ⟨x,l,I1,g,q1⟩=>Qhp d f σ l x v Q I1 g q1) (i _)
theorem op_add_str:OpR X (binaryOp .Add) (fun x y H Q=>∃i j,x=.str i/\y=.str j/\i.length+j.length<=sizeLine/\Q (.str (i++j)) H):=by
 intro d s m H x y v u Q I g f h;obtain⟨i,j,rfl,rfl,l,q⟩:=h;obtain⟨t,rfl⟩:=g;obtain⟨e,rfl⟩:=f;exact add_str (fun e n=>⟨.str (i++j),H,I.tok _,⟨_,rfl⟩,q⟩) l
theorem KG{x:V}{us:List Value}(r:Vals [x] us):∃u,us=[u]/\RelV x u:=by
 cases r with
 |cons e d=>cases d;exact⟨_,rfl,e⟩
theorem Qc6{x y:V}{us:List Value}(r:Vals [x,y] us):∃u w',us=[u,w']/\RelV x u/\RelV y w':=by
 cases r with
 |cons g f=>
  cases f with
  |cons e d=>cases d;exact⟨_,_,rfl,g,e⟩
theorem QbJ:CallR X (.type "int") (fun xs H Q=>(∃i,xs=[.int i]/\Q (.int i) H)\/∃k,xs=[.bl k]/\Q (.int (if k then 1 else 0)) H):=by
 intro d s f H xs g Q I r h
 rcases h with⟨i,rfl,q⟩|⟨k,rfl,q⟩
 ·obtain⟨u,rfl,t,rfl⟩:=KG r;exact call_int_int ⟨.int i,H,I,⟨_,rfl⟩,q⟩
 ·obtain⟨u,rfl,e⟩:=KG r;cases e;exact call_int_bool ⟨.int (if k then 1 else 0),H,I.tok _,⟨_,rfl⟩,q⟩
end
structure ObjM(h:Heap)(x dx C:Addr)(mA:Str->Option Value):Prop where
 obj:h.get? x=some (EM C dx)
 ns:h.Ns1 dx mA
 ne:dx≠x
theorem Qbh{h:Heap}{g:Addr}{d:Str->Option Value}(n:h.Ns1 g d):∃c,h.get? g=some c/\∀name,Fe name c=some (d name):=by
 obtain⟨o,f,r,j,hd,m,_,l⟩:=n;refine⟨o,j,fun name=>?_⟩;have e:=l name;unfold nsFind findBy at e;rw[<-Array.find?_toList]at e;unfold Fe;rw[hd];dsimp only;split
 ·rename_i y q;rw[q]at e;exact congrArg some e
 ·rename_i q;rw[q]at e
  have a:f.toList.any (·.refKey)=false:=by
   rw[List.any_eq_false];intro y i;obtain⟨z,t,b⟩:=m y (Iy.mp i);simp[DictEntry.refKey,b]
  have p:¬f.toList.any (·.refKey)=true:=by rw[a];exact N3
  rw[if_neg p];exact congrArg some e
theorem ObjM.look{h:Heap}{x c C:Addr}{b:Str->Option Value}(I:ObjM h x c C b):∃a,PySem.W.InstAt h x (EM C c) C (some a)/\∀name,Fe name a=some (b name):=
 let⟨a,d,e⟩:=Qbh I.ns
 ⟨a,⟨I.obj,rfl,rfl,d⟩,e⟩
section
variable{prog:Program}{w:World}{A:Around}{E:Value->Shared->Prop}{s:Shared}{K:Nd}{x dx C f:Addr}{mA:Str->Option Value}{name:Str}{v:Value}
theorem Qgs{expr:Bool}{Q:Value->Shared->Prop}(X:K.In s.heap)(I:ObjM s.heap x dx C mA)(e:Dj K C name=true)(d:DH K C=true)
  (g:Ef K (.ref C) name=some none) (b:mA name=some v) (a:Ly v=true) (h:Q v { s with toks:=s.toks+1 }) :
  wpAny (model prog w) A (getAttr (.ref x) name expr) Q E s:=by
 obtain⟨i,J,c⟩:=I.look;exact PySem.W.get_value X J (Fb e).1 (PySem.W.findObj_own d g rfl (by rw[c,b])) a h
theorem QcM{pl:Sem Bool}{Q:Value×List Value->Shared->Prop}(X:K.In s.heap)(I:ObjM s.heap x dx C mA)(a:Dj K C name=true)
  (g:Ef K (.ref C) name=some (some (.ref f))) (d:FE K (.ref f)=true) (c:mA name=none) (h:Q (.ref f,[.ref x]) s) :
  wpAny (model prog w) A (getMethod (.ref x) name pl) Q E s:=by
 obtain⟨b,J,e⟩:=I.look;exact PySem.W.method_fn X J (Fb a).1 (Fb a).2 g (beq_iff_eq.mp d) (by show(Fe name b).map (·.isSome)=some false;rw[e,c];rfl) h
theorem Qe6{ns:List Str}{Q:Unit->Shared->Prop}(X:K.In s.heap)(I:ObjM s.heap x dx C mA)
  (n:Ef K (.ref C) "__setattr__"=some (some (.builtin "object.__setattr__"))) (hp:Ft K C=true) (m:FU K C name=some none) (o:DH K C=true)
  (hw:IW mA ns) (hsz:ns.length<=sizeLine)
  (h:∀h',ObjM h' x dx C (fun y=>if y=name then some v else mA y)->Heap.SameBut dx s.heap h'->Q () { s with heap:=h',toks:=s.toks+2 }) :
  wpAny (model prog w) A (setAttr (.ref x) name v) Q E s:=by
 obtain⟨u,J,B⟩:=I.look;refine PySem.W.set_plain X J n (PySem.W.osa_open (s:={ s with toks:=s.toks+1 }) (r:=none) X J hp m fun b=>?_);obtain⟨D,p,i⟩:=PySem.W.any_some o;have l:s.heap.get? x=some ⟨.ref C,some dx,.plain,#[]⟩:=I.obj;refine Nc (Nh (Nc (Nc (wpAny_loadPart l (Nc (PySem.W.Looks.here (s:={ s with toks:=s.toks+1 }) (PySem.W.looks_clsIn X p) ?_))))));rw[i];refine Nh (a:=some dx) (Nc (Nh (Nc ?_)));refine wpAny_nsSet1 (s:={ s with toks:=s.toks+1 }) I.ns fun h' d c=>?_;obtain⟨z,q,t,e,g,j⟩:=d.count (PySem.Within.cons name v hw);refine Nc (wpAny_lookBehind e (by rw[g];exact pastItsLine_dict (Nu j (by rw[Nz];omega))) ?_);exact Nh (h _ ⟨(c.2 _ (EF I.ne)).trans I.obj,d,I.ne⟩ c)
theorem Qdy{R:Result->Shared->Prop}{vs:List Value}{a:List (Str×Value)}(X:K.In s.heap)(b:DY K C=true)
  (c:Ef K (.ref C) "__init__"=some (some (.ref f))) (e:PySem.W.typeIn K (.ref f)=some (.type "function"))
  (h:codeAny (model prog w) (A.under (.builtin "type.__call__" ⟨.ref C::vs,a⟩)) (.call (.ref f) ⟨.ref (s.heap.objs.size+1)::vs,a⟩) (PySem.W.InitBack (s.heap.objs.size+1) R)
   { s with heap:=(s.heap.push Eo).push (EM C s.heap.objs.size) }) :
  codeAny (model prog w) A (.call (.ref C) ⟨vs,a⟩) R s:=by
 obtain⟨i,g,d,t,os⟩:=s;exact PySem.W.make_core (PySem.W.makes_of X b) (PySem.W.looks_findIn X c) (fun self=>PySem.W.bind_fn X self e) (.inl rfl) h
end
noncomputable def YZ(f:Str)(v:V):List (Str×V)->List (Str×V)
 |[]=>[(f,v)]
 |(g,x)::r=>if g=f then(g,v)::r else(g,x)::YZ f v r
theorem Kz(f g:Str)(v:V):∀fs:List (Str×V),(YZ f v fs).lookup g=if g=f then some v else fs.lookup g
 |[]=>by
  show List.lookup g [(f,v)]=_
  by_cases h:g=f
  ·have a:(g==f)=true:=beq_iff_eq.mpr h;simp only[List.lookup,a,if_pos h]
  ·have a:(g==f)=false:=beq_eq_false_iff_ne.mpr h;simp only[List.lookup,a,if_neg h]
 | (k,x)::r=>by
  have c:=Kz f g v r;rw[show YZ f v ((k,x)::r)=(if k=f then(k,v)::r else(k,x)::YZ f v r)from rfl]
  by_cases b:k=f
  ·rw[if_pos b]
   by_cases h:g=k
   ·have a:(g==k)=true:=beq_iff_eq.mpr h;simp only[List.lookup,a,if_pos (h.trans b)]
   ·have a:(g==k)=false:=beq_eq_false_iff_ne.mpr h;simp only[List.lookup,a,if_neg (fun e:g=f=>h (e.trans b.symm))]
  ·rw[if_neg b]
   by_cases h:g=k
   ·have a:(g==k)=true:=beq_iff_eq.mpr h;simp only[List.lookup,a,if_neg (fun e:g=f=>b (h.symm.trans e))]
   ·have a:(g==k)=false:=beq_eq_false_iff_ne.mpr h;simp only[List.lookup,a];exact c
theorem K0(f:Str)(v:V):∀fs:List (Str×V),f∈(YZ f v fs).map (·.1)/\∀g,g∈fs.map (·.1)->g∈(YZ f v fs).map (·.1)
 |[]=>⟨by simp[YZ],fun g h=>by simp at h⟩
 | (k,x)::r=>by
  obtain⟨c,b⟩:=K0 f v r;rw[show YZ f v ((k,x)::r)=(if k=f then(k,v)::r else(k,x)::YZ f v r)from rfl]
  by_cases a:k=f
  ·rw[if_pos a];subst a;exact⟨by simp,fun g h=>by simpa using h⟩
  ·rw[if_neg a];refine⟨?_,fun g h=>?_⟩
   ·rw[Nr];exact Nt _ c
   ·rw[Nr]at h ⊢
    rcases Nx.mp h with e|e
    ·exact Nx.mpr (.inl e)
    ·exact Nt _ (b g e)
theorem KD(f:Str)(v:V):∀fs:List (Str×V),(YZ f v fs).length<=fs.length+1
 |[]=>by simp[YZ]
 |(k,x)::r=>by
  have b:=KD f v r;rw[show YZ f v ((k,x)::r)=(if k=f then(k,v)::r else(k,x)::YZ f v r)from rfl]
  by_cases a:k=f
  ·rw[if_pos a,Nz,Nz];omega
  ·rw[if_neg a,Nz,Nz];omega
theorem RelO.some_of{v:V}{o:Option Value}(r:RelO (some v) o):∃u,o=some u/\RelV v u:=by
 cases o with
 |none=>exact(show False from r).elim
 |some u=>exact⟨u,rfl,r⟩
theorem RelO.none_of{o:Option Value}(r:RelO none o):o=none:=by
 cases o with
 |none=>rfl
 |some u=>exact(show False from r).elim
theorem Qbf{v:V}{u:Value}(r:RelV v u):Ly u=true:=by
 cases v with
 |non=>cases(show u=Value.none from r);rfl
 |bl b=>cases(show u=Value.bool b from r);rfl
 |int i=>obtain⟨t,e⟩:=(show∃t,u=Value.int i t from r);cases e;rfl
 |str x=>obtain⟨t,e⟩:=(show∃t,u=Value.str x t from r);cases e;rfl
 |byt b=>obtain⟨t,e⟩:=(show∃t,u=Value.bytes b t from r);cases e;rfl
 |flt b=>obtain⟨t,e⟩:=(show∃t,u=Value.float b t from r);cases e;rfl
 |ref a=>cases(show u=Value.ref a from r);rfl
 |ty n=>cases(show u=Value.type n from r);rfl
section
variable{P:Program}{w:World}{H H':Hp}{h h':Heap}{a C dx:Addr}{fs fs':List (Str×V)}
theorem Gd(c:HOk P w H h)(e:H a=some (.ins C dx fs)):∃b,ObjM h a dx C b/\(∀f,RelO (fs.lookup f) (b f))/\IW b (fs.map (·.1))/\fs.length<=1000/\H dx=some (.own a):=by
 obtain⟨d,z,ne,ob,b,n,r,q⟩:=(show ObjOk P w H h a (.ins C dx fs)from c a _ e)
 exact⟨b,⟨ob,n,ne⟩,r,q,z,d⟩
end
structure Cls(K:Nd)(C:Addr):Prop where
 pg:Dj K C Str.empty=true
 hd:DH K C=true
 po:Ft K C=true
 sa:Ef K (.ref C) "__setattr__"=some (some (.builtin "object.__setattr__"))
theorem Cls.get{K:Nd}{C:Addr}(c:Cls K C)(f:Str):Dj K C f=true:=c.pg
def NoAttr(K:Nd)(C:Addr)(f:Str):Prop:=Ef K (.ref C) f=some none
theorem NoAttr.taker{K:Nd}{C:Addr}{f:Str}(n:NoAttr K C f):FU K C f=some none:=by
 unfold FU;rw[show Ef K (.ref C) f=some none from n];rfl
structure Meth(K:Nd)(C:Addr)(m:Str)(f:Addr):Prop where
 at_:Ef K (.ref C) m=some (some (.ref f))
 fn:FE K (.ref f)=true
 kp:N8 K (.ref f)=true
section
variable{X:Cx}{pins:List (Addr×Obj)}{σ:St}{H:Hp}{s:Shared}{a C dx:Addr}{fs:List (Str×V)}{f:Str}{v:V}{A:Around}{E:Value->Shared->Prop}
theorem YE{b:Bool}{Q:Value->Shared->Prop}(I:Inv X pins σ H s)(e:H a=some (.ins C dx fs))(c:Cls X.K C)(n:NoAttr X.K C f)(l:fs.lookup f=some v)
  (h:∀u d,Inv X pins σ H d->RelV v u->Q u d):wpAny (model X.prog X.w) A (getAttr (.ref a) f b) Q E s:=by
 obtain⟨i,O,r,_,_,_⟩:=Gd I.hok e;obtain⟨u,hu,g⟩:=RelO.some_of (v:=v) (o:=i f) (by rw[<-l];exact r f);exact Qgs I.kIn O (c.get f) c.hd n hu (Qbf g) (h u _ (I.tok _) g)
theorem YU{m:Str}{g:Addr}{pl:Sem Bool}{Q:Value×List Value->Shared->Prop}(I:Inv X pins σ H s)(e:H a=some (.ins C dx fs))(c:Cls X.K C)(k:Meth X.K C m g)(l:fs.lookup m=none)
  (h:Q (.ref g,[.ref a]) s):wpAny (model X.prog X.w) A (getMethod (.ref a) m pl) Q E s:=by
 obtain⟨b,O,r,_,_,_⟩:=Gd I.hok e;have d:b m=none:=RelO.none_of (by rw[<-l];exact r m);exact QcM I.kIn O (c.get m) k.at_ k.fn d h
theorem YB{y:V}{u:Value}{Q:Unit->Shared->Prop}(I:Inv X pins σ H s)(e:H a=some (.ins C dx fs))(c:Cls X.K C)(n:NoAttr X.K C f)(J:fs.length<1000)(p:RelV y u)
  (h:∀i,Inv X pins σ (upd H a (.ins C dx (YZ f y fs))) i->Q () i):wpAny (model X.prog X.w) A (setAttr (.ref a) f u) Q E s:=by
 obtain⟨j,O,r,wi,_,l⟩:=Gd I.hok e;have t:(fs.map (·.1)).length<=sizeLine:=by rw[Nw,EL];omega
 refine Qe6 I.kIn O c.sa c.po n.taker c.hd wi t fun F d m=>h _ ?_;have hd:∃o,F.get? dx=some o:=let⟨o,_,_,G,_⟩:=d.ns;⟨o,G⟩
 refine I.write (x:=a) (e:=dx) (by rw[e];exact True.intro) (.inr l) (fun b q D z=>(m.2 b D).trans z) hd ?_;refine⟨by rw[Qt O.ne];exact l,?_,O.ne,d.obj,_,d.ns,fun g=>?_,fun g B=>?_⟩
 ·have:=KD f y fs;omega
 ·show RelO ((YZ f y fs).lookup g) (if g=f then some u else j g);rw[Kz]
  by_cases q:g=f
  ·rw[if_pos q,if_pos q];exact p
  ·rw[if_neg q,if_neg q];exact r g
 ·by_cases q:g=f
  ·rw[q];exact(K0 f y fs).1
  ·refine(K0 f y fs).2 g (wi g fun z=>B ?_);show(if g=f then some u else j g)=none;rw[if_neg q];exact z
theorem Inv.made(I:Inv X pins σ H s):Inv X pins σ (upd (upd H s.heap.objs.size (.own (s.heap.objs.size+1))) (s.heap.objs.size+1) (.ins C s.heap.objs.size []))
  { s with heap:=(s.heap.push Eo).push (EM C s.heap.objs.size) }:=by
 have c:(s.heap.push Eo).get? s.heap.objs.size=some Eo:=Ny s.heap rfl
 have j:((s.heap.push Eo).push (EM C s.heap.objs.size)).get? (s.heap.objs.size+1)=some (EM C s.heap.objs.size):=by
  have:=Ny (s.heap.push Eo) (o:=EM C s.heap.objs.size) rfl;rwa[Dz]at this
 have i:(s.heap.push Eo).Ns s.heap.objs.size (fun _=>none):=⟨Eo,#[],_,c,rfl,(fun e h=>absurd h (by simp)),fun _=>rfl⟩
 have I1:=I.laid (a:=s.heap.objs.size) (o:=.own (s.heap.objs.size+1)) (h':=s.heap.push Eo) (t':=s.toks) (fun b u q=>Nl _ q) (Nn _) ⟨_,c⟩;refine I1.laid (a:=s.heap.objs.size+1) (o:=.ins C s.heap.objs.size []) (t':=s.toks) (fun b u q=>Nl _ q) (NH (Dz _ _)) ?_;have ne:s.heap.objs.size≠s.heap.objs.size+1:=NG (Ev _);refine⟨by rw[Qt ne,ZH],NT _,ne,j,fun _=>none,(Heap.Ns1.of_empty i).at fun o q=>Nl _ q,fun _=>True.intro,fun y g=>absurd rfl g⟩
theorem Qgn{prog:Program}{w:World}{env:Env}{e:Expr}{f:Str}{pos:Pos}{s:Shared}{Q:Value->Shared->Prop}(c:attributeBase e f env (eval e env)=eval e env)
  (h:wpAny (model prog w) A (eval e env) (fun o b=>wpAny (model prog w) A (getAttr o f true) Q E b) E s):wpAny (model prog w) A (eval (.Attribute e f pos) env) Q E s:=
 Attribute_any_ h (by rw[arm_eval_Attribute,c])
end
noncomputable def Qnv(K:Nd)(d:TE)(f:Str):TE:=fun c H Q=>d c H fun x b=>∃a C e fs v,x=.ref a/\b a=some (.ins C e fs)/\Cls K C/\NoAttr K C f/\fs.lookup f=some v/\Q v b
noncomputable def QmE(K:Nd)(g e:TE)(f:Str):TS:=fun D b H=>e b H fun y h=>g b h fun x d=>∃a C c fs,x=.ref a/\d a=some (.ins C c fs)/\Cls K C/\NoAttr K C f/\fs.length<1000 /\
 D.nx b (upd d a (.ins C c (YZ f y fs)))
def Ql8(X:Cx)(op:Operator)(c:V->V->Hp->VK->Prop):Prop:=
 ∀(a:List (Addr×Obj)) (s:Shared) (b:St) (H:Hp) (x y:V) (u v:Value) (Q:VK),Inv X a b H s->RelV x u->RelV y v->c x y H Q->wpAny (model X.prog X.w) X.A (inplaceOp op u v) (EP X a b Q) X.xe s
noncomputable def Qgp(K:Nd)(i h:TE)(j:V->V->Hp->VK->Prop)(f:Str):TS:=fun D d H=>i d H fun x g=>∃a C l fs v,x=.ref a/\g a=some (.ins C l fs)/\Cls K C/\NoAttr K C f/\fs.lookup f=some v /\
 h d g fun y m=>j v y m fun z e=>∃c b,e a=some (.ins C c b)/\b.length<1000/\D.nx d (upd e a (.ins C c (YZ f z b)))
section
variable{X:Cx}{o e value:Expr}{f:Str}{pos pos' tpos:Pos}{ta tv:TE}
theorem Qhd(j:PE X e ta)(m:attributeBase e f X.env (eval e X.env)=eval e X.env):PE X (.Attribute e f pos) (Qnv X.K ta f):=by
 intro b s d H Q I h;refine Qgn m (thn (j b s d H _ I h) fun u z ⟨x,t,I1,g,a,C,A,fs,v,p,r,c,n,l,q⟩=>?_);subst p;obtain rfl:u=Value.ref a:=g;exact YE I1 r c n l fun w y I2 i=>⟨v,t,I2,i,q⟩
theorem QiK(t:PE X o ta)(p:PE X value tv)(r:swapsWith value (some (.Attribute o f pos')) pos.line X.env=pure false):PS X (.Assign [.Attribute o f pos'] value pos) (QmE X.K ta tv f):=by
 intro b s d H D I h;refine plainObj_wpAny_Assign_Attribute (thn (p b s d H _ I h) fun u g ⟨y,z,I1,i,q⟩=>thn (t b g d z _ I1 q) fun m B ⟨x,F,I2,j,a,C,E,fs,v,w,c,n,l,q2⟩=>?_) r;subst v;obtain rfl:m=Value.ref a:=j;exact YB I2 w c n l i fun A I3=>⟨d,_,I3,q2⟩
theorem Qb9{op:Operator}{j:V->V->Hp->VK->Prop}(J:PE X o ta)(G:PE X value tv)(g:Ql8 X op j):PS X (.AugAssign (.Attribute o f tpos) op value pos) (Qgp X.K ta tv j f):=by
 intro b s d H D I h;refine wpAny_AugAssign_AttributeAny (thn (J b s d H _ I h) fun E U ⟨x,Q,I1,A,a,C,Y,fs,v,M,N,c,n,l,q⟩=>?_);subst M;obtain rfl:E=Value.ref a:=A;refine YE I1 N c n l fun u r I2 B=>thn (G b r d Q _ I2 q) fun m p ⟨y,P,I3,w,q3⟩=>thn (g b p d P v y u m _ I3 B w q3) fun R T ⟨z,Z,I4,t,O,L,i,F,q4⟩=>?_;exact YB I4 i c n F t fun S I5=>⟨d,_,I5,q4⟩
noncomputable def Qna:V->V->Hp->VK->Prop:=fun x y H Q=>∃i j,x=.int i/\y=.int j/\Q (.int (i+j)) H
theorem QhR:Ql8 X .Add Qna:=by
 rintro b s g H x y u v Q I d c ⟨i,j,rfl,rfl,q⟩
 obtain⟨t,rfl⟩:=(show∃t,u=Value.int i t from d)
 obtain⟨a,rfl⟩:=(show∃a,v=Value.int j a from c)
 exact LZ ⟨.int (i+j),H,I.tok _,⟨_,rfl⟩,q⟩
theorem Qfh{pl:Sem Bool}{m:Str}{apos:Pos}{args:List Expr}{b:List (Addr×Obj)}{s:Shared}{σ:St}{H:Hp}{Q:Value->Shared->Prop}{te:TE}(t:PE X e te)(I:Inv X b σ H s)
  (h:te σ H fun x i=>∃a C n fs g,x=.ref a/\i a=some (.ins C n fs)/\Cls X.K C/\Meth X.K C m g/\fs.lookup m=none /\
   ∀d,Inv X b σ i d->wpAny (model X.prog X.w) X.A (callWith pos (.ref g) [.ref a] (backTo pos (starEach args X.env)) (backToKw pos (keywordEach [] X.env))) Q X.xe d)
  (r:eval (.Call (.Attribute e m apos) args [] pos) X.env=(do
   let j <-eval e X.env
   standAt apos.atName
   let(f,first) <-holding [j] (getMethod j m pl)
   callWith pos f first (backTo pos (starEach args X.env)) (backToKw pos (keywordEach [] X.env)))) :
  wpAny (model X.prog X.w) X.A (eval (.Call (.Attribute e m apos) args [] pos) X.env) Q X.xe s:=by
 refine Il (pl:=pl) (thn (t b s σ H _ I h) fun u d ⟨x,i,I1,p,a,C,n,fs,g,v,y,c,k,l,q⟩=>?_) r;subst v;obtain rfl:u=Value.ref a:=p;exact YU I1 y c k l (q d I1)
end
section
variable{X:Cx}{pins:List (Addr×Obj)}{σ:St}{H:Hp}{s:Shared}{A:Around}{E:Value->Shared->Prop}{Q:Value->Shared->Prop}{c:Value}{b:Bool}
inductive TyOf(K:Nd)(H:Hp):V->Value->Prop where
 |non:TyOf K H .non (.type "NoneType")
 |bl (x:Bool):TyOf K H (.bl x) (.type "bool")
 |int (i:Int):TyOf K H (.int i) (.type "int")
 |str (x:Str):TyOf K H (.str x) (.type "str")
 |flt (x:UInt64):TyOf K H (.flt x) (.type "float")
 |lst {a:Addr} {xs:List V} (e:H a=some (.lst xs)):TyOf K H (.ref a) (.type "list")
 |frz {a:Addr} {o:Obj} {xs:List V} (e:H a=some (.frz o (.lst xs))):TyOf K H (.ref a) (.type "list")
 |tup {a:Addr} {xs:List V} (e:H a=some (.tup xs)):TyOf K H (.ref a) (.type "tuple")
 |dK {a:Addr} {kvs:List (Key×V)} (e:H a=some (.dK kvs)):TyOf K H (.ref a) (.type "dict")
 |dT {a:Addr} {kvs:List (Tr×Addr×V)} (e:H a=some (.dT kvs)):TyOf K H (.ref a) (.type "dict")
 | ins {a C dx:Addr} {fs:List (Str×V)} (e:H a=some (.ins C dx fs)) (cl:Cls K C) (ha:Ef K (.ref C) "__class__"=some (some (.builtin "object.__class__")))
   (hn:PySem.W.specialIn K (.builtin "object.__class__") "__get__"=some (some (.builtin "getset_descriptor.__get__"))) (htk:PySem.W.takesIn K (.builtin "object.__class__")=some true)
   (hm:PySem.W.mroIn K C (.type "object")=some true):TyOf K H (.ref a) (.ref C)
end
structure Room(k:Nat)(A:Around):Prop where
 hd:A.handled=none
 dp:A.depth+3*k+5<recursionLimit
 un:A.units+16*k+200<cLine
theorem Room.mono{j k:Nat}{A:Around}(r:Room k A)(h:j<=k):Room j A:=⟨r.hd,by have:=r.dp;omega,by have:=r.un;omega⟩
theorem Room.deeper{k:Nat}{A:Around}(r:Room (k+1) A)(env:Env):Room k (A.deeper env):=
 ⟨r.hd,by have:=r.dp;show A.depth+1+3*k+5<_;omega,by have:=r.un;show A.units+3+16*k+200<_;omega⟩
theorem QaM{A:Around}{C:Addr}{us:List Value}{a:List (Str×Value)}:(A.under (.builtin "type.__call__" ⟨.ref C::us,a⟩)).depth=A.depth+1:=by
 first|rfl|simp[Around.under,Code.weight,Code.isCreation,Code.isGuard,Code.isCaller,Code.frames,Code.isFrame,guardIds]
theorem Qaz{A:Around}{C:Addr}{us:List Value}{a:List (Str×Value)}:(A.under (.builtin "type.__call__" ⟨.ref C::us,a⟩)).units=A.units+1:=by
 first|rfl|simp[Around.under,Code.cUnits,Code.frames,Code.isFrame]
theorem Room.make{k:Nat}{A:Around}(r:Room (k+1) A)(C:Addr)(us:List Value)(a:List (Str×Value)):Room k (A.under (.builtin "type.__call__" ⟨.ref C::us,a⟩)):=
 ⟨r.hd,by have:=r.dp;rw[QaM];omega,by have:=r.un;rw[Qaz];omega⟩
theorem Room.depth{k:Nat}{A:Around}(r:Room k A):A.depth<recursionLimit:=by have:=r.dp;omega
theorem Room.units{k:Nat}{A:Around}(r:Room k A):A.units+64<cLine:=by have:=r.un;omega
noncomputable def QlU:TA:=fun _ H Q=>Q [] H
noncomputable def Qjy(d:TE)(c:TA):TA:=fun a H Q=>d a H fun x f=>c a f fun b e=>Q (x::b) e
section
variable{X:Cx}{e:Expr}{es:List Expr}{te:TE}{t:TA}{pos:Pos}
theorem Qhi:PA X [] QlU:=fun _ _ _ _ H Q I h=>DI ⟨[],H,I,.nil,h⟩
theorem QgX(j:PE X e te)(hr:PA X es t)(i:starEach (e::es) X.env=(false,eval e X.env)::starEach es X.env:=by rfl):PA X (e::es) (Qjy te t):=by
 intro pos a s b H Q I h;rw[i];show wpAny _ _ (spliced ((false,eval e X.env)::backTo pos (starEach es X.env))) _ _ s;refine Ds (thn (j a s b H _ I h) fun u d ⟨x,m,I1,g,q1⟩=>?_);exact thn (hr pos a d b m _ I1 q1) fun n o ⟨c,l,I2,f,q2⟩=>⟨x::c,l,I2,.cons g f,q2⟩
noncomputable def Qm1(t:TA):TE:=fun c H Q=>t c H fun a b=>a.length<=sizeLine/\∀p,b p=none->Q (.ref p) (upd b p (.tup a))
noncomputable def Qmo(t:TA):TE:=fun c H Q=>t c H fun a b=>a.length<=sizeLine/\∀p,b p=none->Q (.ref p) (upd b p (.lst a))
theorem QhW{i}(h:PA X es t):PE X (.Tuple es i pos) (Qm1 t):=by
 intro a s f H Q I l;refine wpAny_Tuple_spliced (thn (h pos a s f H _ I l) fun j c ⟨g,d,I1,r,z,q⟩=>⟨by rw[<-r.length];exact z,?_⟩);have m:d c.heap.objs.size=none:=I1.hok.fresh (Nn _);refine⟨.ref c.heap.objs.size,upd d c.heap.objs.size (.tup g),I1.laid (t':=c.toks) (fun b u e=>Nl _ e) (Nn _) ?_,rfl,q _ m⟩;exact⟨z,j,r,⟨_,Ny _ rfl,rfl,_,rfl⟩⟩
theorem Qew(h:PA X es t):PE X (.List es pos) (Qmo t):=by
 intro a s f H Q I j;refine wpAny_List_spliced (thn (h pos a s f H _ I j) fun i c ⟨g,d,I1,r,z,q⟩=>⟨by rw[<-r.length];exact z,?_⟩);have l:d c.heap.objs.size=none:=I1.hok.fresh (Nn _);refine⟨.ref c.heap.objs.size,upd d c.heap.objs.size (.lst g),I1.laid (t':=c.toks) (fun b u e=>Nl _ e) (Nn _) ?_,rfl,q _ l⟩;exact⟨z,i,0,r,Ny _ rfl⟩
end
noncomputable abbrev Sp:=List V->Hp->VK->XK->Prop
noncomputable abbrev CXT:=List Env->Hp->Shared->XK->Value->Shared->Prop
structure Env0(P:Program)(w:World)(K:Nd)(mg:Str->Option Value)(base:Heap)(A:Around)(outer:List Env)(s:Shared)(H:Hp):Prop where
 frames:A.frames=some outer
 mod:Mod K mg base
 bs:∀b o,base.get? b=some o->s.heap.get? b=some o/\H b=none
 bsz:base.objs.size<=s.heap.objs.size
 funs:s.heap.FunFrames base outer
 frf:∀b∈frs outer,H b=none
 hok:HOk P w H s.heap
 bare:AllBare s.gens
def CE(a:List Env)(P:Program)(w:World)(H:Hp)(s:Shared)(Q:VK)(u:Value)(b:Shared):Prop:=
 ∃v c,b.os=s.os/\AllBare b.gens/\Un (frs a) [] H c s.heap b.heap/\HOk P w c b.heap/\RelV v u/\Q v c
def CR(CX:CXT)(a:List Env)(P:Program)(w:World)(H:Hp)(s:Shared)(Q:VK)(E:XK)(r:Result)(b:Shared):Prop:=
 match r with
 |.ok (.ret u)=>CE a P w H s Q u b
 |.ok _=>False
 |.error e=>CX a H s E e b
structure FnOk(P:Program)(w:World)(K:Nd)(mg:Str->Option Value)(base:Heap)(CX:CXT)(k:Nat)(f:Addr)(fd:FuncData)(ps:List Str)(sp:Sp):Prop where
 len:∀vs H Q E,sp vs H Q E->vs.length=ps.length
 run:∀(A:Around) (outer:List Env) (s:Shared) (H:Hp) (args:Args) (us:List Value) (vs:List V) (Q:VK) (E:XK),Room k A->Env0 P w K mg base A outer s H->BindsTo s fd args (ps.zip us)->Vals vs us->sp vs H Q E ->
  codeAny (model P w) A (.call (.ref f) args) (CR CX outer P w H s Q E) s
theorem FnOk.imp{P:Program}{w:World}{K:Nd}{c:Str->Option Value}{base:Heap}{CX:CXT}{k:Nat}{f:Addr}{fd:FuncData}{ps:List Str}{sp b:Sp}(F:FnOk P w K c base CX k f fd ps sp)
  (h:∀vs H Q E,b vs H Q E->sp vs H Q E):FnOk P w K c base CX k f fd ps b:=
 ⟨fun vs H Q E q=>F.len vs H Q E (h _ _ _ _ q),fun A a s H args d vs Q E hr i j e g=>F.run A a s H args d vs Q E hr i j e (h _ _ _ _ g)⟩
theorem Env0.make{P:Program}{w:World}{K:Nd}{b:Str->Option Value}{base:Heap}{A:Around}{a:List Env}{s:Shared}{H:Hp}(e:Env0 P w K b base A a s H)(C:Addr)(us:List Value)(c:List (Str×Value)) :
  Env0 P w K b base (A.under (.builtin "type.__call__" ⟨.ref C::us,c⟩)) a s H:=⟨by first|exact e.frames|(simpa[Around.under,Code.envs,Code.isFrame,pushEnvs]using e.frames),e.mod,e.bs,e.bsz,e.funs,e.frf,e.hok,e.bare⟩
section
variable{X:Cx}{pins:List (Addr×Obj)}{σ:St}{H:Hp}{s s':Shared}
theorem Inv.env0(I:Inv X pins σ H s):Env0 X.prog X.w X.K X.mg X.base X.A X.stack s H:=
 ⟨I.ok.frames,I.ok.mod,I.bs,Nu I.ok.bsz I.sz,I.stack,I.stkFree,I.hok,I.bare⟩
theorem Inv.after{Q:VK}{u:Value}(I:Inv X pins σ H s)(h:CE X.stack X.prog X.w H s Q u s'):EP X pins σ Q u s':=by
 obtain⟨v,f,os,bare,un,c,r,q⟩:=h;obtain⟨e,g,d,t,a⟩:=s';obtain rfl:a=s.os:=os;exact⟨v,f,I.call (h':=e) (g':=g) (d':=d) (t':=t) (ch:=[]) un c bare (fun b z=>absurd z (by simp)),r,q⟩
end
noncomputable def QfB(sp:Sp)(a:List V)(E:XK)(t:TA):TE:=fun b H Q=>t b H fun c d=>sp (c++a) d Q E
noncomputable def Qko(C:Addr)(m:Str)(sp:Sp)(b:List V)(E:XK)(f:TE)(t:TA):TE:=fun c H Q=>f c H fun x d=>∃a g fs,x=.ref a/\d a=some (.ins C g fs)/\fs.lookup m=none /\
 t c d fun e h=>sp (x::(e++b)) h Q E
noncomputable def QjX(C:Addr)(sp:Sp)(b:List V)(E:XK)(t:TA):TE:=fun d H Q=>t d H fun e c=>∀x a,c x=none->c a=none->a≠x ->
 sp (.ref x::(e++b)) (upd (upd c a (.own x)) x (.ins C a [])) (fun v f=>v=.non/\Q (.ref x) f) E
def Binds(K:Nd)(fd:FuncData)(ps:List Str)(b:List Value):Prop:=
 ∀(s:Shared) (a:List Value),K.In s.heap->(a++b).length=ps.length->BindsTo s fd ⟨a,[]⟩ (ps.zip (a++b))
theorem Binds.all{K:Nd}{fd:FuncData}{ps:List Str}(h:∀us:List Value,us.length=ps.length->bindArgs fd ⟨us,[]⟩=pure (ps.zip us)):Binds K fd ps []:=fun s us _ a=>by
 rw[N9]at a ⊢;exact .of_eq (h us a)
def Xq(CX:CXT)(X:Cx)(E:XK):Prop:=∀(a:List (Addr×Obj)) (c:St) (H:Hp) (s:Shared) (e:Value) (b:Shared),Inv X a c H s->CX X.stack H s E e b->X.xe e b
section
variable{X:Cx}{CX:CXT}{k:Nat}{f C:Addr}{fd:FuncData}{ps:List Str}{sp:Sp}{dvs:List V}{ds:List Value}{E:XK}{x m:Str}{p pos apos:Pos}{e o:Expr}{es:List Expr}{ta:TE}{t:TA}
theorem Qbv{a:List (Addr×Obj)}{σ:St}{H:Hp}{s:Shared}{Q:VK}{us:List Value}{vs:List V}(F:FnOk X.prog X.w X.K X.mg X.base CX k f fd ps sp)(hr:Room k X.A)(j:Binds X.K fd ps ds)(hd:Vals dvs ds)(g:Xq CX X E)
  (I:Inv X a σ H s) (r:Vals vs us) (h:sp (vs++dvs) H Q E):wpAny (model X.prog X.w) X.A (call (.ref f) us) (EP X a σ Q) X.xe s:=by
 have c:Vals (vs++dvs) (us++ds):=r.append hd;have i:(us++ds).length=ps.length:=by rw[<-c.length];exact F.len _ _ _ _ h
 refine LM (Db (F.run X.A X.stack s H ⟨us,[]⟩ (us++ds) (vs++dvs) Q E hr I.env0 (j s us I.kIn i) c h) fun r d b=>?_);cases r with
 |error e=>exact g a σ H s e d I b
 |ok l=>
  cases l with
  |ret u=>exact I.after b
  |next=>exact False.elim b
  |brk=>exact False.elim b
  |cont=>exact False.elim b
theorem QgQ(F:FnOk X.prog X.w X.K X.mg X.base CX k f fd ps sp)(hr:Room k X.A)(n:Gl X x)(j:X.mg x=some (.ref f))(l:N8 X.K (.ref f)=true)(v:Binds X.K fd ps ds)(hd:Vals dvs ds)(i:Xq CX X E)
  (y:PA X (e::es) t) (c:(x==("__debug__":Str))=false:=by decide) (u:starEach (e::es) X.env=(false,eval e X.env)::starEach es X.env:=by rfl) (b:(backTo pos (starEach es X.env)).any (·.1)=false:=by rfl) :
  PE X (.Call (.Name x p) (e::es) [] pos) (QfB sp dvs E t):=by
 intro a s g H Q I h;refine Ew (WA I n j ?_ c);refine Fh (h₀:=X.base) I.ok.mod.kin l (thn (y pos a s g H _ I h) fun B D ⟨z,G,I1,r,q⟩=>⟨I1.kIn,?_⟩) u b;exact Qbv F hr v hd i I1 r q
theorem Qd4(F:FnOk X.prog X.w X.K X.mg X.base CX k f fd ps sp)(hr:Room k X.A)(i:Gl X x)(d:X.mg x=some (.ref f))(g:N8 X.K (.ref f)=true)(j:Binds X.K fd ps ds)(hd:Vals dvs ds)(c:Xq CX X E)
  (a:(x==("__debug__":Str))=false:=by decide):PE X (.Call (.Name x p) [] [] pos) (QfB sp dvs E QlU):=by
 intro b s l H Q I h;refine Ew (WA I i d ?_ a);exact PySem.W.callWith_K0 I.kIn g (Qbv (us:=[]) F hr j hd c I .nil h)
theorem QgS{pl:Sem Bool}(L:PE X o ta)(c:Cls X.K C)(z:Meth X.K C m f)(F:FnOk X.prog X.w X.K X.mg X.base CX k f fd ps sp)(hr:Room k X.A)(M:Binds X.K fd ps ds)(hd:Vals dvs ds)(G:Xq CX X E)(N:PA X (e::es) t)
  (d:starEach (e::es) X.env=(false,eval e X.env)::starEach es X.env:=by rfl) (g:(backTo pos (starEach es X.env)).any (·.1)=false:=by rfl)
  (J:eval (.Call (.Attribute o m apos) (e::es) [] pos) X.env=(do
   let v <-eval o X.env
   standAt apos.atName
   let(f,first) <-holding [v] (getMethod v m pl)
   callWith pos f first (backTo pos (starEach (e::es) X.env)) (backToKw pos (keywordEach [] X.env))):=by rfl) :
  PE X (.Call (.Attribute o m apos) (e::es) [] pos) (Qko C m sp dvs E ta t):=by
 intro b s i H Q I h;refine Il (pl:=pl) (thn (L b s i H _ I h) fun u B ⟨x,R,I1,D,a,T,fs,O,P,l,q⟩=>?_) J;subst O;obtain rfl:u=Value.ref a:=D;refine YU I1 P c z l ?_;refine Fh (first:=[.ref a]) (h₀:=X.base) I.ok.mod.kin z.kp (thn (N pos b B i R _ I1 q) fun n S ⟨j,U,I2,r,q2⟩=>⟨I2.kIn,?_⟩) d g;exact Qbv (us:=.ref a::n) (vs:=.ref a::j) F hr M hd G I2 (.cons rfl r) q2
structure Mk(K:Nd)(C f:Addr):Prop where
 makes:DY K C=true
 init:Ef K (.ref C) "__init__"=some (some (.ref f))
 fn:FE K (.ref f)=true
 kp:N8 K (.ref C)=true
theorem Qdp{a:List (Addr×Obj)}{σ:St}{H:Hp}{s:Shared}{Q:VK}{us:List Value}{vs:List V}(M:Mk X.K C f)(F:FnOk X.prog X.w X.K X.mg X.base CX k f fd ps sp)(hr:Room (k+1) X.A)(q:Binds X.K fd ps ds)(hd:Vals dvs ds)
  (l:Xq CX X E) (I:Inv X a σ H s) (r:Vals vs us)
  (h:∀x c,H x=none->H c=none->c≠x->sp (.ref x::(vs++dvs)) (upd (upd H c (.own x)) x (.ins C c [])) (fun v B=>v=.non/\Q (.ref x) B) E) :
  wpAny (model X.prog X.w) X.A (call (.ref C) us) (EP X a σ Q) X.xe s:=by
 have g:=h (s.heap.objs.size+1) s.heap.objs.size (I.hok.fresh (Dp _)) (I.hok.fresh (Nn _)) (NG (Ev _));have I2:=Inv.made (C:=C) I;have d:Vals (V.ref (s.heap.objs.size+1)::(vs++dvs)) (Value.ref (s.heap.objs.size+1)::(us++ds)):=.cons rfl (r.append hd)
 have n:(Value.ref (s.heap.objs.size+1)::us++ds).length=ps.length:=by
  have e:=d.length;rw[F.len _ _ _ _ g]at e;exact e.symm
 refine LM (Qdy (f:=f) I.kIn M.makes M.init (beq_iff_eq.mp M.fn) (Db (F.run _ X.stack _ _ ⟨Value.ref (s.heap.objs.size+1)::us,[]⟩ (Value.ref (s.heap.objs.size+1)::(us++ds)) _ _ E (hr.make C us [])
  (I2.env0.make C us []) (q _ (Value.ref (s.heap.objs.size+1)::us) I2.kIn n) d g) fun r i b=>?_))
 cases r with
 |error e=>exact l a σ _ _ e i I2 b
 | ok y=>
  cases y with
  |ret u=>
   obtain⟨v,D,I3,j,z,q3⟩:=I2.after b;subst z;exact⟨j,⟨V.ref (s.heap.objs.size+1),D,I3,rfl,q3⟩⟩
  |next=>exact False.elim b
  |brk=>exact False.elim b
  |cont=>exact False.elim b
theorem QgZ(M:Mk X.K C f)(F:FnOk X.prog X.w X.K X.mg X.base CX k f fd ps sp)(hr:Room (k+1) X.A)(l:Gl X x)(j:X.mg x=some (.ref C))(u:Binds X.K fd ps ds)(hd:Vals dvs ds)(i:Xq CX X E)
  (v:PA X (e::es) t) (c:(x==("__debug__":Str))=false:=by decide) (n:starEach (e::es) X.env=(false,eval e X.env)::starEach es X.env:=by rfl) (b:(backTo pos (starEach es X.env)).any (·.1)=false:=by rfl) :
  PE X (.Call (.Name x p) (e::es) [] pos) (QjX C sp dvs E t):=by
 intro a s g H Q I h;refine Ew (WA I l j ?_ c);refine Fh (h₀:=X.base) I.ok.mod.kin M.kp (thn (v pos a s g H _ I h) fun z B ⟨y,D,I1,r,q⟩=>⟨I1.kIn,?_⟩) n b;exact Qdp M F hr u hd i I1 r q
end
structure FnScope(N P:List Str)(sc:Scope):Prop where
 kind:sc.kind=.function
 co:sc.isCoroutine=false
 gen:sc.isGenerator=false
 nd:N.Nodup
 pre:N.take P.length=P
 par:∀x∈P,sc.names.lookup x=some .local\/sc.names.lookup x=some .cell
 nofree:∀y∈sc.names,y.2≠.free
theorem WH{kindOf:Str->Option NameKind}{x:Str}:∀{binds:List (Str×Value)} {m:Str->Option Value},(∀v,(x,v)∉binds)->bindL kindOf binds m x=m x
 |[],_,_=>rfl
 | (n,v)::r,m,h=>by
  unfold bindL;rw[WH fun w hw=>h w (Nt _ hw)];split
  ·have:x≠n:=by rintro rfl;exact h v Nv
   simp[this]
  ·rfl
theorem WP{kindOf:Str->Option NameKind}{x:Str}:∀{binds:List (Str×Value)} {m:Str->Option Value},(∀v,(x,v)∉binds)->bindC kindOf binds m x=m x
 |[],_,_=>rfl
 | (n,v)::r,m,h=>by
  unfold bindC;rw[WP fun w hw=>h w (Nt _ hw)];split
  ·rfl
  ·have:x≠n:=by rintro rfl;exact h v Nv
   simp[this]
theorem WN{kindOf:Str->Option NameKind}{x:Str}{v:Value}:∀{P:List Str} {vs:List Value} {i:Nat} {m:Str->Option Value},P.Nodup->P[i]?=some x->vs[i]?=some v->kindOf x=some .local ->
  bindL kindOf (P.zip vs) m x=some v
 |[],_,_,_,_,h,_,_=>by simp at h
 |_::_,[],_,_,_,_,h,_=>by simp at h
 |p::P,w::vs,0,m,a,h1,h2,b=>by
  simp at h1 h2;subst h1;subst h2;show bindL kindOf ((p,w)::P.zip vs) m p=_;unfold bindL;rw[WH fun v c=>(EN.mp a).1 (FV c).1,if_pos b];simp
 |p::P,w::vs,i+1,m,a,h1,h2,b=>by
  show bindL kindOf ((p,w)::P.zip vs) m x=_;unfold bindL;exact WN (i:=i) (EN.mp a).2 (by simpa using h1) (by simpa using h2) b
theorem W0{kindOf:Str->Option NameKind}{x:Str}{v:Value}:∀{P:List Str} {vs:List Value} {i:Nat} {m:Str->Option Value},P.Nodup->P[i]?=some x->vs[i]?=some v->kindOf x≠some .local ->
  bindC kindOf (P.zip vs) m x=some v
 |[],_,_,_,_,h,_,_=>by simp at h
 |_::_,[],_,_,_,_,h,_=>by simp at h
 |p::P,w::vs,0,m,a,h1,h2,b=>by
  simp at h1 h2;subst h1;subst h2;show bindC kindOf ((p,w)::P.zip vs) m p=_;unfold bindC;rw[WP fun v c=>(EN.mp a).1 (FV c).1,if_neg b];simp
 |p::P,w::vs,i+1,m,a,h1,h2,b=>by
  show bindC kindOf ((p,w)::P.zip vs) m x=_;unfold bindC;exact W0 (i:=i) (EN.mp a).2 (by simpa using h1) (by simpa using h2) b
noncomputable def start(N:List Str)(vs:List V):St:=vs.map some++List.replicate (N.length-vs.length) none
noncomputable def Qc3(CX:CXT)(P:Program)(w:World)(K:Nd)(mg:Str->Option Value)(base:Heap)(N:List Str)(b:Str)(a:Scope)(f:Addr)(d:Value)(A:Around)(outer:List Env)(s:Shared)(H:Hp)(E:XK):Cx where
 prog:=P
 w:=w
 K:=K
 mg:=mg
 base:=base
 A:=A.deeper (envOfC b a s.heap.objs.size f d)
 N:=N
 s₀:=s
 H₀:=H
 env:=envOfC b a s.heap.objs.size f d
 outer:=outer
 stack:=envOfC b a s.heap.objs.size f d::outer
 ex:=[]
 calm:=true
 fn:=fun _=>true
 pn:=[]
 xe:=fun e g=>wpAny (model P w) (A.deeper (envOfC b a s.heap.objs.size f d)) (leaving (envOfC b a s.heap.objs.size f d) e) (fun _ c=>CX outer H s E e c) (fun h c=>CX outer H s E h c) g
theorem GD{a:Scope}{n:Nat}{x:Str}(h:a.names.lookup x=some .cell):∃c,(cellsFrom n a.names []).lookup x=some c:=by
 have q:=F8 a.names n [] (.inl h);exact Option.isSome_iff_exists.mp q
theorem Qbg{CX:CXT}{P:Program}{w:World}{K:Nd}{G:Str->Option Value}{base:Heap}{N ps:List Str}{j:Str}{d:Scope}{f:Addr}{F:Value}{A:Around}{g:List Env}{s I:Shared}{H:Hp}{E:XK}{us:List Value}{vs:List V}
  (S:FnScope N ps d) (hd:A.handled=none) (m:Env0 P w K G base A g s H) (R:vs.length=ps.length) (r:Vals vs us)
  (x:InCallC s s.heap.objs.size (bindL (envOfC j d s.heap.objs.size f F).kindOf (ps.zip us) fun _=>none) (cellsFrom (s.heap.objs.size+1) d.names []) (bindC (envOfC j d s.heap.objs.size f F).kindOf (ps.zip us) fun _=>none) I) :
  Inv (Qc3 CX P w K G base N j d f F A g s H E) [] (start N vs) H I:=by
 have M:ps.length<=N.length:=by have:=congrArg List.length S.pre;rw[Dk]at this;omega
 obtain⟨D,Q,rfl,J⟩:=x.done;have o:∀b:Addr,b∉(Qc3 CX P w K G base N j d f F A g s H E).ex:=fun b z=>absurd (show b∈([]:List Addr)from z) (by simp)
 refine⟨⟨m.mod,S.kind,rfl,rfl,Nn _,fun y z c D l=>?_,fun y t=>?_,fun y c _ h=>?_,fun _=>hd,Around.frames_deeper m.frames,.inr ⟨rfl,rfl⟩,fun b z=>absurd z (o b),m.bs,m.bsz,fun b _ _=>o b,fun b z=>absurd z (o b),m.funs,m.frf⟩,
  rfl,m.bare,Un.kept J,⟨_,x.toInCall.ns,fun i y v D l T=>?_⟩,fun y c h=>⟨_,x.cell y c h⟩,m.hok.fresh (Nn _),fun y c h=>?_,fun p hp=>absurd (show p∈([]:List (Addr×Obj))from hp) (by simp),m.hok.kept J,?_⟩
 ·exact name_of_addr x.apart (E2 D) (E2 l)
 ·have t:d.names.lookup y=some .cell\/d.names.lookup y=some .free:=t
  rcases t with t|t
  ·exact GD t
  ·exact absurd rfl (S.nofree _ (E2 t))
 ·exact ND (x.above y c (E2 h))
 ·have C:i<vs.length:=by
   unfold start at l
   by_cases C:i<vs.length
   ·exact C
   ·rw[NQ (by simpa using C)]at l;rw[FO]at l;split at l<;>cases l
  have O:vs[i]?=some v:=by
   unfold start at l;rw[Np (by simpa using C),Nq]at l;cases e:vs[i]? with
   |none=>rw[e]at l;cases l
   |some a=>rw[e]at l;cases l;rfl
  obtain⟨u,hu,L⟩:=r.get O
  have hp:ps[i]?=some y:=by
   rw[<-S.pre,List.getElem?_take_of_lt (by omega)];exact D
  have B:ps.Nodup:=by rw[<-S.pre];exact S.nd.sublist (List.take_sublist _ _)
  refine⟨u,L,?_⟩
  rcases S.par y (DZ hp)with k|k
  ·exact .inl ⟨k,WN B hp hu k⟩
  ·obtain⟨c,e⟩:=GD (n:=s.heap.objs.size+1) k;refine .inr ⟨.inl k,c,e,?_⟩;have q:=x.cell y c e;rw[W0 B hp hu (by show d.names.lookup y≠_;rw[k];decide)]at q;exact q
 ·exact m.hok.fresh (ND (x.above y c (E2 h)))
 ·unfold start;show _=N.length;rw[NC,Nw,List.length_replicate];omega
theorem Qkw{CX:CXT}{P:Program}{w:World}{K:Nd}{D:Str->Option Value}{base:Heap}{k:Nat}{f:Addr}{name d:Str}{h:Arguments}{body:List Stmt}{a:Scope}{T kV C pm g ct oc:Value}{U Z:Option Addr}
  {L:Array (Option Value)} {N ps:List Str} {sp:Sp} (lk:K.lookup f=some ⟨oc,Z,.func (Ex name d h body a T kV C pm U g ct),L⟩) (O:DA K g d=true) (S:FnScope N ps a)
  (len:∀vs H Q E,sp vs H Q E->vs.length=ps.length)
  (m:∀(A:Around) (c:List Env) (s:Shared) (H:Hp) (vs:List V) (Q:VK) (E:XK),Room k (A.deeper (envOfC d a s.heap.objs.size f g))->sp vs H Q E ->
   ∃t,PSs (Qc3 CX P w K D base N d a f g A c s H E) body t/\t { nx:=fun _ j=>Q .non j,rt:=Q } (start N vs) H) :
  FnOk P w K D base CX (k+1) f (Ex name d h body a T kV C pm U g ct) ps sp:=by
 refine⟨len,fun A c s H args Y vs Q E hr B hb r z=>?_⟩;have hl:=len _ _ _ _ z;have X:K.In s.heap:=B.mod.kin.keeps fun b o e=>(B.bs b o e).1;have M:s.heap.NoLimit:=B.mod.nolimit.keeps fun b o e=>(B.bs b o e).1
 have l:∀y∈ps.zip Y,a.names.lookup y.1=some .local\/(a.names.lookup y.1=some .cell/\((cellsFrom (s.heap.objs.size+1) a.names []).lookup y.1).isSome=true):=fun⟨n,v⟩ hy=>by
  rcases S.par n (FV hy).1 with q|q
  ·exact .inl q
  ·exact .inr ⟨q,F8 _ _ _ (.inl q)⟩
 refine codeAny_call_function hr.depth (X _ _ lk) rfl S.co S.gen rfl (PySem.W.codeRec_of X O) (hb _ _ _ _ ?_);refine wpAny_newFunctionEnv_cells S.kind l fun aa he R x=>?_;subst he;refine⟨M.keeps x.toInCall.keep,codeAny_func ?_⟩;obtain⟨t,ht,hq⟩:=m A c s H vs Q E (hr.deeper _) z;have I:Inv (Qc3 CX P w K D base N d a f g A c s H E) [] (start N vs) H R:=Qbg S hr.hd B hl r x;refine NO (ht [] R (start N vs) H _ I hq) (fun fl F p=>?_) fun e F p=>p
 have fin:∀{i:St} {j:Hp} {v:V} {u:Value},Inv (Qc3 CX P w K D base N d a f g A c s H E) [] i j F->RelV v u->Q v j->CE c P w H s Q u F:=
  fun {i j v u} J G q=>⟨v,j,J.os,J.bare,J.base,J.hok,G,q⟩
 cases fl with
 |ret u=>
  obtain⟨v,i,j,J,G,q⟩:=p;exact fin J G q
 |next=>
  obtain⟨i,j,J,q⟩:=p;exact fin (v:=V.non) (u:=Value.none) J rfl q
 |brk=>
  obtain⟨_,_,_,q⟩:=p;exact False.elim q
 |cont=>
  obtain⟨_,_,_,q⟩:=p;exact False.elim q
section
variable{X:Cx}{x:Str}{p pos:Pos}{e:Expr}{es:List Expr}{t:TA}{id T:String}{r:List V->Hp->VK->Prop}
noncomputable def tCB(r:List V->Hp->VK->Prop)(t:TA):TE:=fun a H Q=>t a H fun b c=>r b c Q
theorem Qd6(u:CallR X (.builtin id) r)(o:Gl X x)(n:X.mg x=none)(l:bootBuiltins x=some (.builtin id))(v:PA X (e::es) t)(m:x≠"__name__":=by decide)(c:(x==("__debug__":Str))=false:=by decide)
  (q:starEach (e::es) X.env=(false,eval e X.env)::starEach es X.env:=by rfl) (b:(backTo pos (starEach es X.env)).any (·.1)=false:=by rfl):PE X (.Call (.Name x p) (e::es) [] pos) (tCB r t):=by
 intro a s d H Q I h;refine Ew (XG I o n l ?_ m c);exact D0 (thn (v pos a s d H _ I h) fun g i ⟨f,w,I1,j,q1⟩=>u a i d w f g Q I1 j q1) q b
theorem Qch(u:CallR X (.type T) r)(o:Gl X x)(n:X.mg x=none)(l:bootBuiltins x=some (.type T))(v:PA X (e::es) t)(m:x≠"__name__":=by decide)(c:(x==("__debug__":Str))=false:=by decide)
  (q:starEach (e::es) X.env=(false,eval e X.env)::starEach es X.env:=by rfl) (b:(backTo pos (starEach es X.env)).any (·.1)=false:=by rfl):PE X (.Call (.Name x p) (e::es) [] pos) (tCB r t):=by
 intro a s d H Q I h;refine Ew (XG I o n l ?_ m c);exact Ei (thn (v pos a s d H _ I h) fun g i ⟨f,w,I1,j,q1⟩=>u a i d w f g Q I1 j q1) q b
end
end L2
namespace HT
open PySem PyProof.Rows
section
variable{prog:Program}{w:World}{A:Around}{E:Value->Shared->Prop}{s:Shared}
theorem cat_tup{t b:Addr}{vs ws:List Value}{Q:Value->Shared->Prop}(q:IsTup s.heap t vs.toArray)(r:IsTup s.heap b ws.toArray)(l:vs≠[])
  (h1:ws=[]->Q (.ref t) s) (h2:ws≠[]->Q (.ref s.heap.objs.size) { s with heap:=s.heap.push { cls:=.type "tuple",data:=.seq (vs++ws).toArray } })
  (hsz:vs.length+ws.length<=sizeLine):wpAny (model prog w) A (binaryOp .Add (.ref t) (.ref b)) Q E s:=by
 obtain⟨⟨cls,o,data,i⟩,h,m,n,hd⟩:=id q;obtain⟨⟨p,g,data2,c⟩,a,f,j,d⟩:=id r;simp only at m hd f d;subst m hd f d;have e:vs.toArray++ws.toArray=(vs++ws).toArray:=by simp
 by_cases hw:ws=[]
 ·exact IY ⟨_,h,rfl⟩ ⟨_,a,rfl⟩ FF IG DO DC (Dt _ _)
   (tuple_addW1 t b vs.toArray ws.toArray n j o g i c (by simpa using l) (by simp[hw])) ⟨h,a,h1 hw⟩
 ·refine IY ⟨_,h,rfl⟩ ⟨_,a,rfl⟩ FF IG DO DC (Dt _ _)
   (tuple_addW2 t b vs.toArray ws.toArray n j o g i c (by simpa using l) (by simpa using hw) (by rw[Nk,Nk];exact hsz)) ⟨h,a,?_⟩
  rw[e];exact h2 hw
noncomputable def sIx(n d:Nat):Option Int->Nat
 |none=>d
 |some v=>if v<0 then(v+(n:Int)).toNat else min v.toNat n
theorem sIx_none(n d:Nat):sIx n d none=d:=rfl
theorem sIx_nat(n d k:Nat):sIx n d (some (k:Int))=min k n:=by
 show(if(k:Int)<0 then((k:Int)+(n:Int)).toNat else min (k:Int).toNat n)=min k n;rw[if_neg (by omega),EA]
theorem QhD(n d:Nat)(hd:d<=n)(o:Option Int):sIx n d o<=n:=by
 cases o with
 |none=>exact hd
 |some v=>
  show(if v<0 then(v+(n:Int)).toNat else min v.toNat n)<=n
  by_cases a:v<0
  ·rw[if_pos a];omega
  ·rw[if_neg a];exact Lz _ _
theorem Qbn(v:Int)(n d:Nat):(if v<0 then max (v+(n:Int)) 0 else min v (n:Int))=((sIx n d (some v):Nat):Int):=by
 show(if v<0 then max (v+(n:Int)) 0 else min v (n:Int))=(((if v<0 then(v+(n:Int)).toNat else min v.toNat n):Nat):Int)
 by_cases a:v<0
 ·simp only[if_pos a];omega
 ·simp only[if_neg a];omega
theorem Qan(lo a:Option Int)(n:Nat):Builtin.Slice.sliceAdjust lo a 1 (n:Int)=(((sIx n 0 lo:Nat):Int),((sIx n n a:Nat):Int)):=by
 have b:¬((1:Int)<0):=by omega
 unfold Builtin.Slice.sliceAdjust;simp only[b,if_false];refine Prod.ext ?_ ?_
 ·cases lo with
  |none=>rfl
  |some v=>exact Qbn v n 0
 ·cases a with
  |none=>rfl
  |some v=>exact Qbn v n n
theorem Qar(i j:Nat):Builtin.Slice.slicePlaces (i:Int) (j:Int) 1=j-i:=by
 unfold Builtin.Slice.slicePlaces;have a:(1:Int)>0:=by omega
 simp only[a,if_true,Int.ediv_one];split<;>omega
theorem YJ{v:Value}{o:Option Int}{Q:Option Int->Shared->Prop}(p:IsPart v o)(h:Q o s):wpAny (model prog w) A (Builtin.Slice.slicePartIndex v) Q E s:=by
 cases p with
 |none=>exact slicePart_none h
 |int i t=>exact slicePart_int h
theorem sliceApplied_gen{f:Addr}{e d:Value}{lo b:Option Int}{n:Nat}{Q:Int×Int×Nat->Shared->Prop}(i:s.heap.IsSliceOf f e d .none)(pl:IsPart e lo)(g:IsPart d b)
  (h:Q (((sIx n 0 lo:Nat):Int),1,sIx n n b-sIx n 0 lo) s):wpAny (model prog w) A (Builtin.Slice.sliceApplied (.ref f) (pure (n:Int))) Q E s:=by
 obtain⟨os,a,j,c⟩:=id i;unfold Builtin.Slice.sliceApplied Builtin.Slice.sliceFields;refine Nc (Nc (Lw a c (x:=e) rfl (Nc (Lw a c (x:=d) rfl (Nc (Lw a c (x:=.none) rfl (Nh ?_)))))));refine Nc (slicePart_none ?_);show wpAny _ _ (if((1:Int)==0)=true then _ else _) _ _ s;rw[if_neg (by decide)];refine Nc (YJ pl (Nc (YJ g (Nc (Nh ?_)))));show wpAny _ _ (match Builtin.Slice.sliceAdjust lo b 1 (n:Int)with|(lo,b)=>pure (lo,(1:Int),Builtin.Slice.slicePlaces lo b 1)) _ _ s;rw[Qan lo b n];show wpAny _ _ (pure (((sIx n 0 lo:Nat):Int),(1:Int),Builtin.Slice.slicePlaces ((sIx n 0 lo:Nat):Int) ((sIx n n b:Nat):Int) 1)) _ _ s;rw[Qar];exact Nh h
theorem QcX(xs:Array Value)(i k:Nat):((List.range k).filterMap fun(m:Nat)=>xs[((i:Int)+(m:Int)*1).toNat]?).toArray=((xs.toList.drop i).take k).toArray:=by
 have e:(fun(m:Nat)=>xs[((i:Int)+(m:Int)*1).toNat]?)=fun m=>xs[i+m]?:=by
  funext m;have:((i:Int)+(m:Int)*1).toNat=i+m:=by omega
  rw[this]
 rw[e];have:=pick_run xs i k;rw[List.filterMap_map]at this;have a:((fun x=>xs[x]?)∘fun x=>i+x)=fun m=>xs[i+m]?:=rfl;rw[a]at this;rw[this]
theorem getItem_tuple_cut{t d:Addr}{items:Array Value}{l j:Value}{lo b:Option Int}{Q:Value->Shared->Prop}(c:IsTup s.heap t items)(n:s.heap.IsSliceOf d l j .none)(pl:IsPart l lo)(o:IsPart j b)
  (hw:¬(sIx items.size 0 lo=0/\sIx items.size items.size b=items.size))
  (h:Q (.ref s.heap.objs.size) { s with heap:=s.heap.push { cls:=.type "tuple",data:=.seq ((items.toList.drop (sIx items.size 0 lo)).take (sIx items.size items.size b-sIx items.size 0 lo)).toArray } })
  (hsz:items.size<=sizeLine):wpAny (model prog w) A (getItem (.ref t) (.ref d)) Q E s:=by
 have a:sizeOk (.seq ((items.toList.drop (sIx items.size 0 lo)).take (sIx items.size items.size b-sIx items.size 0 lo)).toArray):=by
  show((items.toList.drop (sIx items.size 0 lo)).take (sIx items.size items.size b-sIx items.size 0 lo)).toArray.size<=sizeLine;rw[Nk,Dk,LA,NR];omega
 have r:sIx items.size items.size b<=items.size:=QhD _ _ (Nn _) b;obtain⟨os,e,g,p⟩:=id n;have i:s.TypeIs (.ref d) "slice":=⟨os,e,g⟩
 unfold getItem
 try with_reducible refine NP ?_
 first|refine Nc (Nh ?_)|skip
 refine Nc (Lf c.typeIs (by decide) ?_)
 refine Nc (E3 (name:=Str.ofString "__getitem__") c.typeIs NY
  (EU NY c.typeIs IL ?_ (IZ _ _)))
 show wpAny _ _ (Builtin.Tuple.tupleItemsOf (.ref t)>>=_) _ _ s;refine Nc (tupleItemsOf_ c ?_);refine Nc (Dd i ?_);rw[if_pos (by decide)];refine Nc (sliceApplied_gen n pl o ?_)
 have f:¬((((sIx items.size 0 lo:Nat):Int)==0&&(1:Int)==1&&(sIx items.size items.size b-sIx items.size 0 lo)==items.size)=true):=by
  intro q;rw[NB,NB]at q;have q1:((sIx items.size 0 lo:Nat):Int)=0:=EG q.1.1;have q2:sIx items.size items.size b-sIx items.size 0 lo=items.size:=EG q.2;exact hw ⟨by omega,by omega⟩
 show wpAny _ _ (if(((sIx items.size 0 lo:Nat):Int)==0&&(1:Int)==1&&(sIx items.size items.size b-sIx items.size 0 lo)==items.size)=true then _ else _) _ _ s;rw[if_neg f,QcX]
 first
  |exact Nc (m:=Builtin.Tuple.tupleExact _) (Ep (Nh ⟨_,rfl,Nh h⟩) a)
  |exact Nc (m:=Builtin.Tuple.tupleExact _) (Ep (Nc (Nh (Nh ⟨_,rfl,Nh h⟩))) a)
  |exact Nc (Nc (m:=Builtin.Tuple.tupleExact _) (Ep (Nh (Nh ⟨_,rfl,Nh h⟩)) a))
  |exact Nc (Nc (m:=Builtin.Tuple.tupleExact _) (Ep (Nh ⟨_,rfl,Nh h⟩) a))
end
end HT
namespace L2
noncomputable abbrev TO:=St->Hp->(Option Int->Hp->Prop)->Prop
def PO(X:Cx)(e:Option Expr)(t:TO):Prop:=
 ∀(a:List (Addr×Obj)) (s:Shared) (b:St) (H:Hp) (Q:Option Int->Hp->Prop),Inv X a b H s->t b H Q ->
  wpAny (model X.prog X.w) X.A (evalPart e X.env) (fun u d=>∃o c,Inv X a b c d/\IsPart u o/\Q o c) X.xe s
noncomputable def Qf7:TO:=fun _ H Q=>Q none H
noncomputable def Qk4(t:TE):TO:=fun a H Q=>t a H fun x b=>∃i,x=.int i/\Q (some i) b
section
variable{X:Cx}{e:Expr}{te:TE}{lo hi:Option Expr}{tl th:TO}{pos p2:Pos}
theorem Qfy:PO X none Qf7:=by
 intro a s b H Q I h;rw[evalPart_none];exact Nh ⟨none,H,I,.none,h⟩
theorem QfJ(h:PE X e te):PO X (some e) (Qk4 te):=by
 intro a s b H Q I hw;rw[evalPart_some];refine thn (h a s b H _ I hw) fun u f ⟨x,d,I1,c,q1⟩=>?_;obtain⟨i,rfl,q⟩:=q1;obtain⟨t,rfl⟩:=c;exact⟨some i,d,I1,.int i t,q⟩
def SlR(X:Cx)(r:V->Option Int->Option Int->Hp->VK->Prop):Prop:=
 ∀(a:List (Addr×Obj)) (s:Shared) (b:St) (H:Hp) (x:V) (v d c:Value) (lo hi:Option Int) (f:Addr) (Q:VK),Inv X a b H s->RelV x v->s.heap.IsSliceOf f d c .none->IsPart d lo->IsPart c hi->r x lo hi H Q ->
  ∃T id,typeLookup (.type T) "__getitem__"=pure (some (.builtin id))/\s.TypeIs v T/\wpAny (model X.prog X.w) X.A (getItem v (.ref f)) (EP X a b Q) X.xe s
theorem SlR.or{r i:V->Option Int->Option Int->Hp->VK->Prop}(h:SlR X r)(h':SlR X i):SlR X (fun x lo hi H Q=>r x lo hi H Q\/i x lo hi H Q):=by
 intro a s b H x v d c lo hi f Q I g m l j q
 rcases q with q|q
 ·exact h a s b H x v d c lo hi f Q I g m l j q
 ·exact h' a s b H x v d c lo hi f Q I g m l j q
noncomputable def tSl(r:V->Option Int->Option Int->Hp->VK->Prop)(te:TE)(tl th:TO):TE:=fun a H Q=>te a H fun x d=>tl a d fun l c=>th a c fun u b=>r x l u b Q
theorem QcP{r:V->Option Int->Option Int->Hp->VK->Prop}(hr:SlR X r)(B:PE X e te)(y:PO X lo tl)(hu:PO X hi th):PE X (.Subscript e (.Slice lo hi none p2) pos) (tSl r te tl th):=by
 intro a s d H Q I h;refine LN (thn (B a s d H _ I h) fun v j ⟨x,E,I1,m,q1⟩=>?_);refine wpAny_Slice (thn (y a j d E _ I1 q1) fun f i ⟨l,D,I2,o,q2⟩=>thn (hu a i d D _ I2 q2) fun vu c ⟨u,g,I3,n,q3⟩=>?_);rw[evalPart_none];refine Nh ?_;have I4:Inv X a d g { c with heap:=c.heap.push { cls:=.type "slice",data:=.fields #[f,vu,.none] } }:=I3.kept (t':=c.toks) fun b ob q=>Nl _ q;obtain⟨T,id,C,t,z⟩:=hr a { c with heap:=c.heap.push { cls:=.type "slice",data:=.fields #[f,vu,.none] } } d g x v f vu l u c.heap.objs.size Q I4 m (Of ..) o n q3;show wpAny (model X.prog X.w) X.A (subscriptTail e (.Slice lo hi none p2) v (.ref c.heap.objs.size)) (EP X a d Q) X.xe { c with heap:=c.heap.push { cls:=.type "slice",data:=.fields #[f,vu,.none] } };exact tail_any (ops:=[.ref c.heap.objs.size,v]) t C z (by with_unfolding_all rfl)
noncomputable def QdT(xs:List V)(lo hi:Option Int):List V:=(xs.drop (HT.sIx xs.length 0 lo)).take (HT.sIx xs.length xs.length hi-HT.sIx xs.length 0 lo)
theorem Yd(xs:List V)(lo hi:Option Int):(QdT xs lo hi).length<=xs.length:=by
 unfold QdT;rw[Dk,LA];omega
noncomputable def Qmr(K:Nd):V->Option Int->Option Int->Hp->VK->Prop:=fun x lo hi H Q=>∃a b,x=.ref a/\SqT K H a b /\
 ¬(HT.sIx b.length 0 lo=0/\HT.sIx b.length b.length hi=b.length)/\∀p,H p=none->Q (.ref p) (upd H p (.tup (QdT b lo hi)))
theorem QhS:SlR X (Qmr X.K):=by
 intro g s u H x v y w lo hi A Q I l t n m h;obtain⟨a,d,rfl,p,hw,q⟩:=h;cases l;obtain⟨f,r,j,i⟩:=I.tuple p;have c:f.toArray.size=d.length:=by rw[Nk];exact r.length.symm
 refine⟨"tuple",_,NY.lookup,j.typeIs,?_⟩;refine HT.getItem_tuple_cut j t n m (by rw[c];exact hw) ?_ (by rw[c];exact i);rw[c];refine⟨.ref s.heap.objs.size,_,I.laid (t':=s.toks) (o:=.tup (QdT d lo hi)) (fun b ob q=>Nl _ q) (Nn _) ?_,rfl,q _ (I.hok.fresh (Nn _))⟩;exact⟨Nu (Yd d lo hi) i,_,(r.drop (HT.sIx d.length 0 lo)).take (HT.sIx d.length d.length hi-HT.sIx d.length 0 lo),L1 _ _⟩
noncomputable def QkR(K:Nd):R2:=fun x y H Q=>∃a b d c,x=.ref a/\y=.ref b/\SqT K H a d/\SqT K H b c/\d≠[]/\d.length+c.length<=sizeLine /\
 (c=[]->Q (.ref a) H)/\(c≠[]->∀p,H p=none->Q (.ref p) (upd H p (.tup (d++c))))
theorem Vals.nil_iff{xs:List V}{us:List Value}(r:Vals xs us):us=[]↔xs=[]:=by
 cases r with
 |nil=>simp
 |cons _ _=>simp
theorem Qgt:OpR X (binaryOp .Add) (QkR X.K):=by
 intro f s C H x y v u Q I n m h;obtain⟨a,b,l,j,rfl,rfl,B,A,t,i,q1,q2⟩:=h;cases n;cases m;obtain⟨r,d,p,_⟩:=I.tuple B;obtain⟨g,c,p2,_⟩:=I.tuple A;refine HT.cat_tup p p2 (fun z=>t (d.nil_iff.mp z)) (fun z=>⟨.ref a,H,I,rfl,q1 (c.nil_iff.mp z)⟩) (fun z=>?_) (by rw[<-d.length,<-c.length];exact i);refine⟨.ref s.heap.objs.size,_,I.laid (t':=s.toks) (o:=.tup (l++j)) (fun b ob q=>Nl _ q) (Nn _) ?_,rfl,q2 (fun w=>z (c.nil_iff.mpr w)) _ (I.hok.fresh (Nn _))⟩;exact⟨by rw[NC];exact i,_,d.append c,L1 _ _⟩
end
noncomputable def ixN(n:Nat)(i:Int):Option Nat:=if 0<=i then(if i<n then some i.toNat else none)else if -(n:Int)<=i then some (i+n).toNat else none
noncomputable def atI{a:Type}(xs:List a)(i:Int):Option a:=(ixN xs.length i).bind fun j=>xs[j]?
theorem Qcf{n:Nat}{i:Int}{j:Nat}(h:ixN n i=some j):seqIndex? i n=some j/\j<n/\-(n:Int)<=i/\i<n:=by
 unfold ixN at h
 by_cases b:0<=i
 ·rw[if_pos b]at h
  by_cases a:i<n
  ·rw[if_pos a]at h;have e:i.toNat=j:=NU h;exact⟨by rw[Lx b a,e],by omega,by omega,a⟩
  ·rw[if_neg a]at h;cases h
 ·rw[if_neg b]at h
  by_cases a:-(n:Int)<=i
  ·rw[if_pos a]at h;have e:(i+n).toNat=j:=NU h;exact⟨by rw[I0 (by omega) a,e],by omega,a,by omega⟩
  ·rw[if_neg a]at h;cases h
theorem UT{a:Type}{xs:List a}{i:Int}{v:a}(h:atI xs i=some v):∃j,seqIndex? i xs.length=some j/\xs[j]?=some v/\j<xs.length/\-(xs.length:Int)<=i/\i<xs.length:=by
 unfold atI at h;cases e:ixN xs.length i with
 |none=>rw[e]at h;cases h
 |some j=>
  rw[e]at h;obtain⟨f,d,c,b⟩:=Qcf e;exact⟨j,f,h,d,c,b⟩
theorem Qb5{a:Type}{xs:List a}{j:Nat}{v:a}(h:xs[j]?=some v):atI xs (j:Int)=some v:=by
 have b:j<xs.length:=(Ng.mp h).1
 have e:ixN xs.length (j:Int)=some j:=by
  unfold ixN;rw[if_pos (by omega),if_pos (by omega)];simp
 unfold atI;rw[e];exact h
def UO(b:Expr):Prop:=∀o i,subscripted b false o i=operate [o,i] (getItem o i)
def IxR(X:Cx)(r:R2):Prop:=
 ∀(value slice:Expr) (a:List (Addr×Obj)) (s:Shared) (b:St) (H:Hp) (x y:V) (v u:Value) (Q:VK),Inv X a b H s->RelV x v->RelV y u->r x y H Q ->
  subscripted slice false v u=operate [v,u] (getItem v u)->wpAny (model X.prog X.w) X.A (subscriptTail value slice v u) (EP X a b Q) X.xe s
def MtR(X:Cx)(id:String)(r:V->List V->Hp->VK->Prop):Prop:=
 ∀(a:List (Addr×Obj)) (s:Shared) (b:St) (H:Hp) (x:V) (c:List V) (v:Value) (d:List Value) (Q:VK),Inv X a b H s->RelV x v->Vals c d->r x c H Q ->
  wpAny (model X.prog X.w) X.A (call (.builtin id) (v::d)) (EP X a b Q) X.xe s
section
variable{X:Cx}{a b:Expr}{ta tb:TE}{pos:Pos}
theorem IxR.or{r g:R2}(h:IxR X r)(h':IxR X g):IxR X (fun x y H Q=>r x y H Q\/g x y H Q):=by
 intro value slice c s d H x y v u Q I f e q i
 rcases q with q|q
 ·exact h value slice c s d H x y v u Q I f e q i
 ·exact h' value slice c s d H x y v u Q I f e q i
theorem QjS{r:R2}(hr:IxR X r)(l:PE X a ta)(j:PE X b tb)(i:UO b):PE X (.Subscript a b pos) (tOp r ta tb):=by
 intro c s d H Q I h;exact LN (Qkj l j I h fun v u e x y m I2 g f q=>hr a b c e d m x y v u Q I2 g f q (i _ _))
noncomputable def QlD(K:Nd):R2:=fun x y H Q=>∃p c i v,x=.ref p/\y=.int i/\SqL K H p c/\atI c i=some v/\Q v H
noncomputable def Qlw(K:Nd):R2:=fun x y H Q=>∃p c i v,x=.ref p/\y=.int i/\SqT K H p c/\atI c i=some v/\Q v H
noncomputable def QlM:R2:=fun x y H Q=>∃z i c,x=.str z/\y=.int i/\z.length<=sizeLine/\atI z.cps.toList i=some c/\Q (.str ⟨#[c]⟩) H
theorem ix_list:IxR X (QlD X.K):=by
 intro value slice c s m H x y v u Q I D C h n;obtain⟨p,N,i,z,rfl,rfl,E,G,q⟩:=h;cases D;obtain⟨t,rfl⟩:=C;obtain⟨g,r,f,O⟩:=I.list E;obtain⟨j,d,M,R,L,J⟩:=UT G;obtain⟨w,A,e⟩:=r.get M;have F:=r.length;have P:=KS;have fin:EP X c m Q w s:=⟨z,H,I,e,q⟩
 by_cases o:0<=i
 ·have l:i.toNat=j:=by
   rw[Lx o J]at d;exact NU d
  exact item_listR f.isList o (by omega) (by rw[l];simpa using A) fin n
 ·have l:(i+(g.toArray.size:Int)).toNat=j:=by
   rw[I0 (by omega) L]at d;rw[Nk,<-F];exact NU d
  exact F9 (x:=w) f.isList.typeIs Lg.lookup
   (wpAny_getItem_list_neg (Q:=fun r B=>r=w/\EP X c m Q r B) f.isList (by omega) (by rw[Nk]<;>omega) (by omega) (by rw[l];simpa using A) ⟨rfl,fin⟩) n
theorem ix_tup:IxR X (Qlw X.K):=by
 intro value slice c s e H x y v u Q I m l h o;obtain⟨p,G,i,z,rfl,rfl,A,C,q⟩:=h;cases m;obtain⟨t,rfl⟩:=l;obtain⟨n,r,f,J⟩:=I.tuple A;obtain⟨j,E,D,O,N,M⟩:=UT C;obtain⟨w,F,d⟩:=r.get D;have B:=r.length;have L:=KS;have fin:EP X c e Q w s:=⟨z,H,I,d,q⟩
 exact F9 (x:=w) f.typeIs NY.lookup
  (getItem_tuple (j:=j) (Q:=fun r g=>r=w/\EP X c e Q r g) f (by omega) (by omega) (by rw[Nk,<-B];exact E) (by simpa using F) ⟨rfl,fin⟩) o
theorem QhA:IxR X QlM:=by
 intro value slice d s B H x y v u Q I g f h l;obtain⟨z,i,c,rfl,rfl,D,n,q⟩:=h;obtain⟨t,rfl⟩:=g;obtain⟨C,rfl⟩:=f;obtain⟨j,e,r,F,p,o⟩:=UT n;have m:z.cps.toList.length=z.length:=by simp[Str.length]
 rw[m]at e p o;have E:=KS
 exact tail_any (LO s z t) slot_str_getitem.lookup (getItem_str (c:=c) (by
  have A:decide (i < -(2^63:Int))=false:=decide_eq_false (by omega);have w:decide (i >= 2^63)=false:=decide_eq_false (by omega)
  rw[A,w,L4]) (by rw[e];simpa using r) ⟨.str ⟨#[c]⟩,H,I.tok _,⟨_,rfl⟩,q⟩) l
noncomputable def rIx(K:Nd):R2:=fun x y H Q=>QlD K x y H Q\/Qlw K x y H Q\/QlM x y H Q
theorem QiR:IxR X (rIx X.K):=ix_list.or (ix_tup.or QhA)
theorem Qaj(c:List Value)(n j:Nat)(u:Value):Obj.mapSeq (·.setIfInBounds j u) { cls:=.type "list",data:=.seq c.toArray n }={ cls:=.type "list",data:=.seq (c.set j u).toArray n }:=by
 simp[Obj.mapSeq]
theorem Inv.lst{d:List (Addr×Obj)}{σ:St}{H:Hp}{s:Shared}{p:Addr}{xs:List V}(I:Inv X d σ H s)(h:H p=some (.lst xs)) :
  ∃(c:List Value) (n:Nat),Vals xs c/\s.heap.get? p=some { cls:=.type "list",data:=.seq c.toArray n }/\xs.length<=sizeLine:=by
 obtain⟨z,c,n,r,e⟩:=I.hok p _ h;exact⟨c,n,r,e,z⟩
theorem Inv.lstUpd{c:List (Addr×Obj)}{σ:St}{H:Hp}{s:Shared}{p:Addr}{xs ys:List V}{d its':List Value}{n g:Nat}{f:Obj->Obj}(I:Inv X c σ H s)(h:H p=some (.lst xs))
  (j:s.heap.get? p=some { cls:=.type "list",data:=.seq d.toArray n }) (i:f { cls:=.type "list",data:=.seq d.toArray n }={ cls:=.type "list",data:=.seq its'.toArray g }) (r:Vals ys its') (hz:ys.length<=sizeLine) (t:Nat) :
  Inv X c σ (upd H p (.lst ys)) { s with heap:=s.heap.update p f,toks:=t }:=by
 have e:(s.heap.update p f).get? p=some { cls:=.type "list",data:=.seq its'.toArray g }:=by
  rw[EH f j (by rw[i]<;>rfl),i]
 refine I.write (x:=p) (e:=p) (by rw[h];trivial) (.inl rfl) (fun b u l q=>(ED _ _ (EF l)).trans q) ⟨_,e⟩ ?_;exact⟨hz,its',g,r,e⟩
noncomputable def Qim:V->V->V->Hp->(Hp->Prop)->Prop:=fun o i v H Q=>∃p c k j,o=.ref p/\i=.int k/\H p=some (.lst c)/\ixN c.length k=some j/\Q (upd H p (.lst (c.set j v)))
theorem set_list:Qml X Qim:=by
 intro c s z H o i v G J u Q I C D B h;obtain⟨p,A,k,j,rfl,rfl,hp,F,q⟩:=h;cases C;obtain⟨t,rfl⟩:=D;obtain⟨d,n,r,f,E⟩:=I.lst hp;obtain⟨e,M,w,m⟩:=Qcf F;have g:=r.length;have L:=KS
 have y:Inv X c z (upd H p (.lst (A.set j v))) { s with heap:=s.heap.update p (Obj.mapSeq (·.setIfInBounds j u)) }:=
  I.lstUpd hp f (Qaj d n j u) (r.set B j) (by rw[EB];exact E) s.toks
 by_cases x:0<=k
 ·have l:k.toNat=j:=by
   rw[Lx x m]at e;exact NU e
  exact PySem.W.ki_setAt f x (by omega) (by rw[Nk,<-g];exact m) (by rw[l];exact⟨_,y,q⟩)
 ·have l:(k+(d.toArray.size:Int)).toNat=j:=by
   rw[I0 (by omega) w]at e;rw[Nk,<-g];exact NU e
  exact PySem.W.ki_setBack f (by omega) (by rw[Nk,<-g];exact w) (by omega) (by rw[l];exact⟨_,y,q⟩)
theorem W8(lo c:Option Int)(n:Nat):(sliceBounds lo c none n).1=((HT.sIx n 0 lo:Nat):Int)/\(sliceBounds lo c none n).2.1=((HT.sIx n n c:Nat):Int)/\(sliceBounds lo c none n).2.2=1:=by
 refine⟨?_,?_,rfl⟩
 ·cases lo with
  |none=>simp[sliceBounds,HT.sIx]
  |some i=>
   simp only[sliceBounds,HT.sIx,LB,show(1:Int)>0 by decide,if_true]
   by_cases h:i<0
   ·simp only[h,if_true]<;>omega
   ·simp only[h,if_false]<;>omega
 ·cases c with
  |none=>simp[sliceBounds,HT.sIx]
  |some i=>
   simp only[sliceBounds,HT.sIx,LB,show(1:Int)>0 by decide,if_true]
   by_cases h:i<0
   ·simp only[h,if_true]<;>omega
   ·simp only[h,if_false]<;>omega
theorem Y4(c:List Value)(lo d:Option Int):slicePick c.toArray lo d none=((c.drop (HT.sIx c.length 0 lo)).take (HT.sIx c.length c.length d-HT.sIx c.length 0 lo)).toArray:=by
 obtain⟨g,f,e⟩:=W8 lo d c.toArray.size;unfold slicePick;rw[g,f,e];simp only[sliceRange_one,pick_run,Nk]<;>rfl
noncomputable def QmI(K:Nd):V->Option Int->Option Int->Hp->VK->Prop:=fun x lo d H Q=>∃a c,x=.ref a/\SqL K H a c/\∀p,H p=none->Q (.ref p) (upd H p (.lst (QdT c lo d)))
theorem sl_list:SlR X (QmI X.K):=by
 intro f s u H x v y w lo e A Q I i t l j h;obtain⟨a,c,rfl,p,q⟩:=h;cases i;obtain⟨m,r,g,n⟩:=I.list p;have d:=r.length;refine⟨"list",_,Lg.lookup,g.isList.typeIs,?_⟩;refine wpAny_getItem_list_slice g.isList t l j .none (by simp) ?_ (by rw[Nk]<;>omega);rw[Y4,<-d];refine⟨.ref s.heap.objs.size,_,I.laid (t':=s.toks) (o:=.lst (QdT c lo e)) (fun b ob q=>Nl _ q) (Nn _) ?_,rfl,q _ (I.hok.fresh (Nn _))⟩;exact⟨Nu (Yd c lo e) n,_,0,(r.drop (HT.sIx c.length 0 lo)).take (HT.sIx c.length c.length e-HT.sIx c.length 0 lo),Ny _ rfl⟩
noncomputable def Qfk:V->Bool
 |.non=>true
 |.bl _=>true
 |.int _=>true
 |.str _=>true
 |_=>false
noncomputable def eqV:V->V->Bool
 |.non,.non=>true
 |.bl a,.bl b=>a==b
 |.bl a,.int b=>(if a then 1 else 0)==b
 |.int a,.bl b=>a==(if b then 1 else 0)
 |.int a,.int b=>a==b
 |.str a,.str b=>a==b
 |_,_=>false
theorem QiD{A:Around}{s:Shared}{y x:V}{u v:Value}(e:RelV y u)(c:RelV x v)(g:Qfk y=true)(f:Qfk x=true):SeqAt.EqAt A s u v (eqV y x):=by
 cases y with
 |non=>
  cases e;cases x with
  |non=>cases c;exact SeqAt.EqAt.same _
  |bl b=>cases c;exact SeqAt.EqAt.none_bool b
  |int b=>obtain⟨t,rfl⟩:=c;exact SeqAt.EqAt.none_int b t
  |str b=>obtain⟨t,rfl⟩:=c;exact SeqAt.EqAt.none_str b t
  |_=>exact absurd (show false=true from f) N3
 |bl a=>
  cases e;cases x with
  |non=>cases c;exact SeqAt.EqAt.bool_none a
  |bl b=>cases c;exact SeqAt.EqAt.bool_bool a b
  |int b=>obtain⟨t,rfl⟩:=c;exact SeqAt.EqAt.bool_int a b t
  |str b=>obtain⟨t,rfl⟩:=c;exact SeqAt.EqAt.bool_str a b t
  |_=>exact absurd (show false=true from f) N3
 |int a=>
  obtain⟨d,rfl⟩:=e;cases x with
  |non=>cases c;exact SeqAt.EqAt.int_none a d
  |bl b=>cases c;exact SeqAt.EqAt.int_bool a d b
  |int b=>obtain⟨t,rfl⟩:=c;exact SeqAt.EqAt.int_int a d b t
  |str b=>obtain⟨t,rfl⟩:=c;exact IT a d b t
  |_=>exact absurd (show false=true from f) N3
 |str a=>
  obtain⟨d,rfl⟩:=e;cases x with
  |non=>cases c;exact SeqAt.EqAt.str_none a d
  |bl b=>cases c;exact SeqAt.EqAt.str_bool a d b
  |int b=>obtain⟨t,rfl⟩:=c;exact IU a d b t
  |str b=>obtain⟨t,rfl⟩:=c;exact SeqAt.EqAt.str_str a d b t
  |_=>exact absurd (show false=true from f) N3
 |_=>exact absurd (show false=true from g) N3
theorem call_len_seq:CallR X (.builtin "len") (fun xs H Q=>∃p ys,xs=[.ref p]/\(SqL X.K H p ys\/SqT X.K H p ys)/\Q (.int ys.length) H):=by
 intro i s m H xs n Q I r h;obtain⟨p,ys,rfl,d,q⟩:=h;obtain⟨u,rfl,j⟩:=KG r;cases j;have o:=KS
 rcases d with d|d
 ·obtain⟨g,e,f,l⟩:=I.list d;have c:=e.length;exact Calls.call_len_list f.isList (by simp only[Nk]<;>omega) ⟨.int ys.length,H,I.tok _,⟨s.toks+1,by rw[Nk,c]⟩,q⟩
 ·obtain⟨g,e,f,l⟩:=I.tuple d;have c:=e.length;exact len_tuple f (by simp only[Nk]<;>omega) ⟨.int ys.length,H,I.tok _,⟨s.toks+1,by rw[Nk,c]⟩,q⟩
theorem WV:CallR X (.builtin "len") (fun xs H Q=>∃z,xs=[.str z]/\z.length<=sizeLine/\Q (.int z.length) H):=by
 intro c s d H xs e Q I r h;obtain⟨z,rfl,f,q⟩:=h;obtain⟨u,rfl,t,rfl⟩:=KG r;have g:=KS;exact len_str (by omega) ⟨.int z.length,H,I.tok _,⟨_,rfl⟩,q⟩
theorem CallR.or{f:Value}{r i:List V->Hp->VK->Prop}(h:CallR X f r)(h':CallR X f i):CallR X f (fun xs H Q=>r xs H Q\/i xs H Q):=by
 intro c s d H xs e Q I g q
 rcases q with q|q
 ·exact h c s d H xs e Q I g q
 ·exact h' c s d H xs e Q I g q
theorem Ke:CallR X (.type "list") (fun xs H Q=>∃p ys,xs=[.ref p]/\(SqL X.K H p ys\/SqT X.K H p ys)/\∀l,H l=none->Q (.ref l) (upd H l (.lst ys))):=by
 intro i s B H xs D Q I r h;obtain⟨p,ys,rfl,t,q⟩:=h;obtain⟨u,rfl,C⟩:=KG r;cases C
 have fin:∀(c:List Value),Vals ys c->ys.length<=sizeLine->∀(d:Heap) (g:Nat),(∀b A,s.heap.get? b=some A->d.get? b=some A) ->
   d.get? s.heap.objs.size=some { cls:=.type "list",dict:=none,data:=.seq c.toArray g,slots:=#[] }->EP X i B Q (.ref s.heap.objs.size) { s with heap:=d }:=fun c f m d g j e=>
  ⟨.ref s.heap.objs.size,_,I.laid (t':=s.toks) j (Nn _) (show ObjOk X.prog X.w _ d _ (.lst ys)from⟨m,c,g,f,e⟩),rfl,q _ (I.hok.fresh (Nn _))⟩
 rcases t with t|t
 ·obtain⟨c,f,x,m⟩:=I.list t;have v:=f.length;obtain⟨o,y,z,n,hd⟩:=x.isList;exact call_list_seq p (.inl rfl) y z hd (fun d g j e=>fin c f m d g j e) (by simp only[Nk]<;>omega)
 ·obtain⟨c,f,x,m⟩:=I.tuple t;have v:=f.length;obtain⟨o,y,z,n,hd⟩:=x;exact call_list_seq p (.inr rfl) y z hd (fun d g j e=>fin c f m d g j e) (by simp only[Nk]<;>omega)
theorem Wq:CallR X (.type "tuple") (fun xs H Q=>∃p ys,xs=[.ref p]/\((SqL X.K H p ys/\∀l,H l=none->Q (.ref l) (upd H l (.tup ys)))\/(SqT X.K H p ys/\Q (.ref p) H))):=by
 intro c s m H xs z Q I r h;obtain⟨p,ys,rfl,h⟩:=h;obtain⟨u,rfl,x⟩:=KG r;cases x
 rcases h with⟨j,q⟩|⟨j,q⟩
 ·obtain⟨d,g,i,n⟩:=I.list j;have t:=g.length;refine call_tuple_list i.isList (fun f y=>?_) (by simp only[Nk]<;>omega);have I1:Inv X c m H { s with heap:=f }:=I.kept (t':=s.toks) y
  have I2:Inv X c m (upd H f.objs.size (.tup ys)) { s with heap:=f.push { cls:=.type "tuple",data:=.seq d.toArray } }:=
   I1.laid (t':=s.toks) (fun b o e=>Nl _ e) (Nn _) (show ObjOk X.prog X.w _ _ _ (.tup ys)from⟨n,d,g,L1 _ _⟩)
  exact⟨.ref f.objs.size,_,I2,rfl,q _ (I1.hok.fresh (Nn _))⟩
 ·obtain⟨d,g,i,n⟩:=I.tuple j;exact call_tuple_same i ⟨.ref p,H,I,rfl,q⟩
def tyV(K:Nd)(T:String)(x:V)(H:Hp):Prop:=match x with
 |.str _=>T="str"
 |.int _=>T="int"
 | .ref p=>(T="list"/\∃d,SqL K H p d)\/(T="tuple"/\∃o,K.lookup p=some o/\o.cls=.type "tuple"/\o.dict=none) \/
   (T="dict"/\((∃c,H p=some (.dK c))\/∃c,H p=some (.dT c)))\/(T="set"/\∃S n,H p=some (.set S n))
 |_=>False
theorem QeE{g:List (Addr×Obj)}{σ:St}{H:Hp}{s:Shared}{T:String}{x:V}{v:Value}(I:Inv X g σ H s)(r:RelV x v)(ty:tyV X.K T x H) :
  s.TypeIs v T/\∀a,v=.ref a->∃ob,s.heap.get? a=some ob/\ob.dict=none:=by
 cases x with
 |str z=>
  obtain⟨t,rfl⟩:=r;cases(show T="str"from ty);exact⟨LO s z t,fun _ e=>nomatch e⟩
 |int i=>
  obtain⟨t,rfl⟩:=r;cases(show T="int"from ty);exact⟨typeIs_int s i t,fun _ e=>nomatch e⟩
 | ref p=>
  cases r
  rcases ty with⟨rfl,w,q⟩|⟨rfl,o,d,u,hd⟩|⟨rfl,d⟩|⟨rfl,S,n,d⟩
  ·obtain⟨m,_,l,_⟩:=I.list q;refine⟨l.isList.typeIs,fun a e=>?_⟩;cases e;obtain⟨o,n,e,c,hd,_⟩:=l;exact⟨o,e,hd⟩
  ·refine⟨⟨o,I.kIn p o d,u⟩,fun a e=>?_⟩;cases e;exact⟨o,I.kIn _ o d,hd⟩
  ·have z:∃o,s.heap.get? p=some o/\o.ExactDict:=by
    rcases d with⟨h,d⟩|⟨h,d⟩
    ·obtain⟨_,_,_,_,o,_,_,e,f,_⟩:=I.hok p _ d;exact⟨o,e,f⟩
    ·obtain⟨_,_,_,_,o,_,_,e,f,_⟩:=I.hok p _ d;exact⟨o,e,f⟩
   obtain⟨o,e,f⟩:=z;refine⟨⟨o,e,f.1⟩,fun a j=>?_⟩;cases j;exact⟨o,e,f.2.1⟩
  ·obtain⟨o,_,_,_,e,f,_⟩:=I.hok p _ d;refine⟨⟨o,e,f.1⟩,fun a j=>?_⟩;cases j;exact⟨o,e,f.2.1⟩
 |_=>exact False.elim ty
noncomputable def Qmq(K:Nd)(T:String)(r:V->List V->Hp->VK->Prop)(e:TE):TE:=fun d H Q=>e d H fun x c=>tyV K T x c/\r x [] c Q
noncomputable def tBM(K:Nd)(T:String)(r:V->List V->Hp->VK->Prop)(f:TE)(t:TA):TE:=fun c H Q=>f c H fun x d=>tyV K T x d/\t c d fun e g=>r x e g Q
variable{o e:Expr}{es:List Expr}{to:TE}{t:TA}{name:Str}{apos cpos:Pos}{T id:String}{r:V->List V->Hp->VK->Prop}
theorem QiG(m:PlainAttrs T)(slot:Slot T name id)(g:typeOf (.builtin id)=pure (.type "method_descriptor"))(p:MtR X id r)(n:PE X o to)
  (f:attributeBase o name X.env (eval o X.env)=eval o X.env:=by rfl) (d:(apos.endLine==cpos.line)=true:=by rfl):PE X (.Call (.Attribute o name apos) [] [] cpos) (Qmq X.K T r to):=by
 intro c s i H Q I h;refine wpAny_Call_method0_late f d (thn (n c s i H _ I h) fun v l ⟨x,w,I1,j,ty,q1⟩=>?_);obtain⟨u,q⟩:=QeE I1 j ty;exact⟨T,id,m,slot,g,u,q,Ia rfl (PySem.evalArgs_none (p c l i w x [] v [] Q I1 j .nil q1))⟩
theorem Qky(z:PlainAttrs T)(slot:Slot T name id)(l:typeOf (.builtin id)=pure (.type "method_descriptor"))(C:MtR X id r)(B:PE X o to)(D:PA X (e::es) t)
  (g:attributeBase o name X.env (eval o X.env)=eval o X.env:=by rfl)
  (i:((backTo cpos (starEach (e::es) X.env)).all (fun x=>!x.1)&&(backToKw cpos (keywordEach [] X.env)).all (fun x=>x.1.isSome)
   && decide ((e::es).length+([]:List Keyword).length+(if([]:List Keyword).isEmpty then 0 else 1)<30))=true:=by rfl)
  (f:(apos.endLine==cpos.line)=true:=by rfl) (A:starEach (e::es) X.env=(false,eval e X.env)::starEach es X.env:=by rfl) (d:(backTo cpos (starEach es X.env)).any (·.1)=false:=by rfl) :
  PE X (.Call (.Attribute o name apos) (e::es) [] cpos) (tBM X.K T r to t):=by
 intro c s j H Q I h;refine wpAny_Call_method_late g i f rfl (thn (B c s j H _ I h) fun v w ⟨x,J,I1,m,ty,q1⟩=>?_);obtain⟨F,E⟩:=QeE I1 m ty;refine⟨T,id,z,slot,l,F,E,?_⟩;have n:=D cpos c w j J _ I1 q1;rw[A]at n ⊢;refine Ia (by show(false ||(backTo cpos (starEach es X.env)).any (·.1))=false;rw[d]<;>rfl) (Calls.evalArgs_plain ?_);exact thn n fun q u ⟨p,G,I2,y,q2⟩=>C c u j G x p v q Q I2 m y q2
end
def MtM(X:Cx)(id:String)(r:V->List V->Hp->VK->Prop):Prop:=
 ∀(a:List (Addr×Obj)) (s:Shared) (b:St) (H:Hp) (x:V) (c:List V) (v:Value) (d:List Value) (Q:VK),Inv X a b H s->RelV x v->Vals c d->r x c H Q ->
  wpAny (model X.prog X.w) X.A (call (.builtin id) (v::d)) (EP X a b Q) X.xe s
theorem Vals.one:∀{x:V} {us:List Value},Vals [x] us->∃u,us=[u]/\RelV x u
 |_,_,.cons r .nil=>⟨_,rfl,r⟩
theorem Vals.zero:∀{us:List Value},Vals [] us->us=[]
 |_,.nil=>rfl
theorem Vals.dropLast{xs:List V}{us:List Value}(h:Vals xs us):Vals xs.dropLast us.dropLast:=by
 induction h with
 |nil=>exact .nil
 |cons r t a=>
  cases t with
  |nil=>exact .nil
  |cons q b=>exact .cons r a
theorem Vals.eraseIdx:∀{xs:List V} {us:List Value} (i:Nat),Vals xs us->Vals (xs.eraseIdx i) (us.eraseIdx i)
 |_,_,_,.nil=>.nil
 |_,_,0,.cons _ t=>t
 |_,_,i+1,.cons r t=>.cons r (Vals.eraseIdx i t)
theorem QaK{c:Type}(l:List c):l.eraseIdx (l.length-1)=l.dropLast:=by
 induction l with
 |nil=>rfl
 | cons a r d=>
  cases r with
  |nil=>rfl
  | cons b r=>
   have e:(a::b::r).length-1=((b::r).length-1)+1:=by
    have g:(a::b::r).length=r.length+2:=rfl;have f:(b::r).length=r.length+1:=rfl;omega
   rw[e,List.eraseIdx_cons_succ,d]
   all_goals rfl
theorem Uh{a:Type}:∀(l:List a) (i:Nat),(l.eraseIdx i).length<=l.length
 |[],_=>Nn _
 |_::_,0=>Dp _
 |_::r,i+1=>LC (Uh r i)
section
variable{X:Cx}{pins:List (Addr×Obj)}{σ:St}{H:Hp}{s:Shared}{l b:Addr}{xs ys zs:List V}
theorem Inv.lset{a its':List Value}{n:Nat}{f:Array Value->Array Value}{t':Nat}(I:Inv X pins σ H s)(h:H l=some (.lst xs))
  (e:s.heap.get? l=some { cls:=.type "list",data:=.seq a.toArray n }) (d:f a.toArray=its'.toArray) (c:Vals ys its') (hz:ys.length<=sizeLine) :
  Inv X pins σ (upd H l (.lst ys)) { s with heap:=s.heap.update l (Obj.mapSeq f),toks:=t' }:=by
 have q:=LD e f;rw[d]at q;refine I.write (x:=l) (e:=l) (by rw[h];exact trivial) (.inl rfl) (fun i u g hu=>(ED s.heap (Obj.mapSeq f) (EF g)).trans hu) ⟨_,q⟩ ?_;exact⟨hz,its',_,c,q⟩
theorem Inv.lnew{a:List Value}{t':Nat}(I:Inv X pins σ H s)(c:Vals ys a)(hz:ys.length<=sizeLine) :
  Inv X pins σ (upd H s.heap.objs.size (.lst ys)) { s with heap:=s.heap.push { cls:=.type "list",data:=.seq a.toArray },toks:=t' }:=
 I.laid (fun _ _ q=>Nl _ q) (Nn _) ⟨hz,a,0,c,Ny _ rfl⟩
theorem Inv.fresh(I:Inv X pins σ H s):H s.heap.objs.size=none:=I.hok.fresh (Nn _)
theorem Inv.lstM(I:Inv X pins σ H s)(c:H l=some (.lst xs)):xs.length<=sizeLine/\∃(a:List Value) (n:Nat),Vals xs a/\xs.length=a.length/\s.heap.get? l=some { cls:=.type "list",data:=.seq a.toArray n }:=by
 obtain⟨z,a,n,r,e⟩:=I.hok l _ c;exact⟨z,a,n,r,r.length,e⟩
theorem Gr{n:Nat}(h:n<=sizeLine):Builtin.List.listTooLong n=false:=by
 unfold Builtin.List.listTooLong;exact decide_eq_false (by omega)
end
section
variable{X:Cx}
noncomputable def QgC:V->List V->Hp->VK->Prop:=fun x b H Q=>∃l a y,x=.ref l/\b=[y]/\H l=some (.lst a)/\a.length<sizeLine/\Q .non (upd H l (.lst (a++[y])))
theorem QbL:MtM X "list.append" QgC:=by
 intro b s j H x o v p Q I f g h;obtain⟨l,m,y,rfl,rfl,d,t,q⟩:=h;cases f;obtain⟨u,rfl,i⟩:=g.one;obtain⟨z,a,n,r,w,e⟩:=I.lstM d;refine Dl D2 ⟨_,e,rfl⟩ IM (Iz _ _) (Lh l a.toArray n u (by rw[Nk];omega)) ⟨e,?_⟩;refine⟨.non,_,I.lset (its':=a++[u]) d e (by simp) (r.append (.cons i .nil)) ?_,rfl,q⟩;rw[NC,EI];omega
noncomputable def Qgz:V->List V->Hp->VK->Prop:=fun x d H Q=>∃l b c a,x=.ref l/\d=[.ref b]/\H l=some (.lst c)/\H b=some (.lst a)/\c.length+a.length<=sizeLine/\Q .non (upd H l (.lst (c++a)))
theorem QcF:MtM X "list.extend" Qgz:=by
 intro g s C H x G v J Q I m o h;obtain⟨l,b,F,D,rfl,rfl,j,A,L,q⟩:=h;cases m;obtain⟨u,rfl,p⟩:=o.one;cases p;obtain⟨z,c,n,r,M,e⟩:=I.lstM j;obtain⟨E,a,w,t,y,B⟩:=I.lstM A;have f:c.toArray.size+a.toArray.size<=sizeLine:=by rw[Nk,Nk];omega
 have d:¬(!c.toArray.isEmpty&&Builtin.List.listTooLong (c.toArray.size+a.toArray.size))=true:=by
  rw[Gr f,Da];exact N3
 refine Dl De ⟨_,e,rfl⟩ IN (IA _ _)
  (AutoSeq1.list_extend_list_list_0 l c.toArray n b a.toArray w d (by rw[Nk];omega) (by omega)) ⟨e,B,?_⟩
 refine⟨.non,_,I.lset (its':=c++a) j e (by simp) (r.append t) ?_,rfl,q⟩;rw[NC];omega
noncomputable def QmW:V->List V->Hp->VK->Prop:=fun x b H Q=>∃l a y,x=.ref l/\b=[]/\H l=some (.lst a)/\a[a.length-1]?=some y/\Q y (upd H l (.lst a.dropLast))
theorem Qi2:MtM X "list.pop" QmW:=by
 intro d s t H x A v B Q I i j h;obtain⟨l,w,y,rfl,rfl,g,o,q⟩:=h;cases i;have c:=j.zero;subst c;obtain⟨z,a,n,r,p,e⟩:=I.lstM g;obtain⟨u,hu,m⟩:=r.get o
 have b:a.toArray[a.toArray.size-1]?=some u:=by
  show a.toArray[a.length-1]?=some u;rw[<-Ee,<-p];exact hu
 refine Dl Du ⟨_,e,rfl⟩ LF (F.args_list_pop_1 _) (MeetsSeq.list_pop_last l a.toArray n u b (by rw[Nk];omega)) ⟨e,?_⟩;refine⟨y,_,I.lset (its':=a.dropLast) g e ?_ r.dropLast ?_,m,q⟩
 ·show a.toArray.eraseIdxIfInBounds (a.toArray.size-1)=a.dropLast.toArray;rw[Nk,DV,QaK]
 ·rw[List.length_dropLast];omega
noncomputable def Qin:V->List V->Hp->VK->Prop:=fun x b H Q=>∃l a i k y,x=.ref l/\b=[.int i]/\H l=some (.lst a)/\-(2^63)<=i/\i<2^63/\seqIndex? i a.length=some k/\a[k]?=some y/\Q y (upd H l (.lst (a.eraseIdx k)))
theorem Qc4:MtM X "list.pop" Qin:=by
 intro c s E H x G v J Q I j m h;obtain⟨l,g,i,k,y,rfl,rfl,f,D,C,B,p,q⟩:=h;cases j;obtain⟨u,rfl,o⟩:=m.one;obtain⟨t,rfl⟩:=o;obtain⟨z,a,n,r,A,e⟩:=I.lstM f;obtain⟨w,hw,b⟩:=r.get p
 refine Dl Du ⟨_,e,rfl⟩ LF (F.args_list_pop_2 _ _)
  (MeetsSeq.list_pop_at l a.toArray n i t k w (fitsIndex_both D C) (by rw[Nk,<-A];exact B) (by rw[<-Ee];exact hw) (by rw[Nk];omega)) ⟨e,?_⟩
 refine⟨y,_,I.lset (its':=a.eraseIdx k) f e ?_ (r.eraseIdx k) ?_,b,q⟩
 ·show a.toArray.eraseIdxIfInBounds k=(a.eraseIdx k).toArray;rw[DV]
 ·have:=Uh g k;omega
noncomputable def Qnp:R2:=fun x y H Q=>∃l b c a,x=.ref l/\y=.ref b/\H l=some (.lst c)/\H b=some (.lst a)/\c.length+a.length<=sizeLine/\∀p,H p=none->Q (.ref p) (upd H p (.lst (c++a)))
theorem Qer:OpR X (binaryOp .Add) Qnp:=by
 intro d s w H x y v u Q I g f h;obtain⟨l,b,C,A,rfl,rfl,m,o,F,q⟩:=h;cases g;cases f;obtain⟨z,c,n,r,G,e⟩:=I.lstM m;obtain⟨B,a,E,i,j,t⟩:=I.lstM o;refine PySem.P.add_list e t ?_ (by rw[Nk,Nk];omega);have p:c.toArray++a.toArray=(c++a).toArray:=by simp
 rw[p];exact⟨.ref _,_,I.lnew (t':=s.toks) (r.append i) (by rw[NC];omega),rfl,q _ I.fresh⟩
end
end L2
namespace Att
open PySem PySem.W PySem.Calls PyProof.Rows
theorem Ya{P:Params}{h:Heap}:∀(ns:List Int) (vs:List Value),WellAll P h vs (ns.map WData.int)->IntsAre vs ns:=by
 intro ns
 induction ns with
 |nil=>
  intro vs w;rw[Em]at w;cases w;exact .nil
 | cons n ns c=>
  intro vs w;rw[Nr]at w;cases w with
  |cons a b=>
   cases a;exact .cons _ _ (c _ b)
theorem Qbz{l:OpenLaw}{n:Nat}(u:l.most=some n){P:Params}{h:Heap}{args:List WData}{vals:List Value}
  (b:l.row.toRowW.claim.pre args=true) (i:WellAll P h vals args) :
  ∃a vs ns,vals=[Value.ref a]/\args=[WData.list (ns.map WData.int)]/\h.get? a=some { cls:=.type "list",data:=.seq vs.toArray }/\IntsAre vs ns/\ns.length<=n:=by
 have j:WShape.hasAll [] args [.list .int]=true:=(pre_splitW b).1;have m:l.pre.holds [] { args:=args }=true:=(pre_splitW b).2;obtain⟨d,r,rfl,x,w⟩:=hasAllW_cons j;obtain rfl:=hasAllW_nil w;obtain⟨y,rfl,v⟩:=hasW_list x;obtain⟨ns,rfl⟩:=items_int v
 have c:ns.length<=n:=by
  unfold OpenLaw.pre at m
  have g:(WTm.not (.lt (.lit (.int (n:Int))) (.len (.arg 0)))).holds [] { args:=[.list (ns.map .int)] }=true:=by
   have g:=(holds_andW m).1;rw[u]at g;exact g
  have f:=condW_of g (w_not (w_lt w_lit (w_len_list (w_arg rfl))));rw[Nw]at f;refine Nat.le_of_not_lt fun q=>?_;have s:(n:Int)<((ns.length:Nat):Int):=by omega
  first
   |(rw[decide_eq_true s]at f;exact absurd f (by decide))
   |(simp at f;omega)
 cases i with
 |cons p o=>
  cases o;cases p with
  |list t e=>exact⟨_,_,ns,rfl,rfl,t,Ya ns _ e,c⟩
theorem Qa2(l:OpenLaw)(args:List WData):l.row.toRowW.claim.post args (.bool true) args=true:=
 postW_of (r:=l.row.toRowW) (X:=(true==true))
  (show WShape.has [] (.bool true) .bool=true by first|rfl|decide|simp[WShape.has,WShape.arms,WShape.armsAll])
  (show(WTm.eq .res (.lit (.bool true))).value [] { args:=args,res:=some (.bool true),after:=args }=some (.bool (true==true))from w_eq_bool (w_res rfl) w_lit) rfl
theorem attach_call{l:OpenLaw}{n:Nat}{q:Program}{e:List Str}{E:(Str->Option Value)->Heap->Prop}{D:World->Heap->Prop}{d:DefRec}
  (J:l.most=some n) (z:d.params.defaults=[])
  (call:∀(w:World) (c b:Shared) (t v:Str->Option Value) (p:Addr) (o:Obj) (pm u h:Value) (a:Addr) (vs:List Value) (ns:List Int),
   Ground q e [] E w c t v b.heap->D w b.heap ->
   b.heap.get? p=some o->o.data=.func (docDef d.name d.params d.body d.scope pm u h)->b.heap.CodeRec u d.name->t d.name=some (.ref p) ->
   b.heap.get? a=some { cls:=.type "list",data:=.seq vs.toArray }->IntsAre vs ns->ns.length<=n->b.gens=#[] ->
   codeAny (model l.prog w) callerA (.call (.ref p) ⟨[.ref a],[]⟩) (fun r s=>r=.ok (.ret (.bool true))/\OldK b.heap s.heap/\s.os=b.os/\AllBare s.gens) b) :
  WalkO q e E D l.row.toRowW d [] (fun f vs=>IB f vs):=by
 intro w c b t v G Y p o pm u h R kV I hd A C y N args vals as i B F x M;obtain rfl:R=.none:=Dflts.none C z;obtain rfl:kV=.none:=Dflts.noKw C;obtain⟨a,vs,ns,rfl,rfl,j,g,m⟩:=Qbz J i x;refine enter_call (Db (call w c b t v p o pm u h a vs ns G Y I (fd_plain hd) A y j g m N) fun r s H=>?_);obtain⟨rfl,Q,P,O⟩:=H;exact⟨.inl ⟨.bool true,.bool true,[],rfl,fun _=>rfl,.bool true,Qa2 l _,fun _=>⟨List.Pairwise.nil,fun _ L=>(nomatch L)⟩⟩,Q,P,O⟩
end Att
namespace L2
theorem Uw:∀{vs:List Value} {ns:List Int},IntsAre vs ns->Vals (ns.map V.int) vs
 |_,_,.nil=>.nil
 |_,_,.cons n t h=>.cons ⟨t,rfl⟩ (Uw h)
def QkW(H:Hp):Prop:=∀b,H b=none\/∃o a,H b=some (.frz o (.lst a))
theorem QcU{P:Program}{w:World}{K:Nd}{D T:Str->Option Value}{CX:CXT}{k:Nat}{fa a:Addr}{fd:FuncData}{x:Str}{sp:Sp}{c:Shared}{vs:List Value}{ns:List Int}
  (KX:K.In c.heap) (J:c.heap.Ns mainGlobals D) (g:c.heap.Ns builtinsNs T) (Y:∀x:Str,x≠"__name__"->T x=bootBuiltins x) (L:c.heap.NoLimit) (hg:c.gens=#[])
  (Q:c.heap.get? a=some { cls:=.type "list",data:=.seq vs.toArray }) (hi:IntsAre vs ns) (hl:ns.length<=sizeLine) (hr:Room k callerA)
  (F:∀base:Heap,K.In base->base.Ns mainGlobals D->FnOk P w K D base CX k fa fd [x] sp) (p:∀(s:Shared) (u:Value),BindsTo s fd ⟨[u],[]⟩ [(x,u)])
  (U:∀H:Hp,QkW H->SqL K H a (ns.map V.int)->sp [.ref a] H (fun v _=>v=.bl true) fun _ _ _=>False)
  (Z:∀H e i,CX [] H c (fun _ _ _=>False) e i->False) :
  codeAny (model P w) callerA (.call (.ref fa) ⟨[.ref a],[]⟩) (fun r i=>r=.ok (.ret (.bool true))/\OldK c.heap i.heap/\i.os=c.os/\AllBare i.gens) c:=by
 have rv:=Uw hi;have E:=hi.length
 -- from an abstract aa in R nothing ae B j ab be A
 have core:∀H:Hp,QkW H->SqL K H a (ns.map V.int)->HOk P w H c.heap->(∀b,H b≠none->b=a)->(H a≠none->K.lookup a=none) ->
   codeAny (model P w) callerA (.call (.ref fa) ⟨[.ref a],[]⟩) (fun r i=>r=.ok (.ret (.bool true))/\OldK c.heap i.heap/\i.os=c.os/\AllBare i.gens) c:=by
  intro H hO hS I hA hK;have f:∀{b:Addr} {o:Obj},c.heap.get? b=some o->H b=none->(Qdd c.heap H).get? b=some o:=fun e n=>QdK e n
  have S:∀{b:Addr} {o:Obj} {N:Array DictEntry} {O:Nat},c.heap.get? b=some o->o.data=.dict N O->H b=none:=fun {b o N O} e d=>by
   cases q:H b with
   |none=>rfl
   |some u=>
    have e':b=a:=hA b (by rw[q];simp);subst e';rw[Q]at e;cases e;have d':Data.seq vs.toArray _=Data.dict N O:=d;cases d'
  have l:∀{b:Addr} {m:Str->Option Value},c.heap.Ns b m->(Qdd c.heap H).Ns b m:=fun {b m} ⟨o,N,O,e,d,r⟩=>⟨o,N,O,f e (S e d),d,r⟩
  have M:K.In (Qdd c.heap H):=fun b o e=>f (KX b o e) (by
   cases q:H b with
   |none=>rfl
   |some u=>
    have e':b=a:=hA b (by rw[q];simp);subst e'
    rw[hK (by rw[q];simp)]at e;cases e)
  have hM:Mod K D (Qdd c.heap H):=⟨M,l J,⟨T,l g,Y⟩,let⟨mc,h1,h2⟩:=L;⟨mc,l h1,h2⟩⟩
  have e0:Env0 P w K D (Qdd c.heap H) callerA [] c H:=⟨rfl,hM,fun b o e=>QfV e,NH (QbY _ _),trivial,fun b g=>absurd (show b∈([]:List Addr)from g) (by simp),I,.of_eq hg⟩
  refine Db ((F _ M (l J)).run callerA [] c H ⟨[.ref a],[]⟩ [.ref a] [.ref a] _ _ hr e0 (p c (.ref a)) (.cons rfl .nil) (U H hO hS)) fun r i h=>?_;cases r with
  |error e=>exact(Z H e i h).elim
  | ok fl=>
   cases fl with
   |next=>exact False.elim h
   |brk=>exact False.elim h
   |cont=>exact False.elim h
   | ret u=>
    obtain⟨v,H',os,bare,un,G,r',q⟩:=h;have q':v=.bl true:=q;subst q';obtain rfl:u=Value.bool true:=r';refine⟨rfl,OldK.of_keep fun b o e=>?_,os,bare⟩;cases q:H b with
    |none=>exact un.keep b o e q (by intro z;exact absurd (show b∈([]:List Addr)from z) (by simp)) (by simp)
    |some u=>
     rcases hO b with z|⟨ob,xs,z⟩
     ·rw[q]at z;cases z
     ·have z2:=un.frzs b ob _ z;obtain⟨e1,_⟩:=I b _ z;obtain⟨e2,_⟩:=G b _ z2;rw[e]at e1;cases e1;exact e2
 cases X:K.lookup a with
 |some o=>
  -- B j is one of B t own C
  have e:=KX a o X;rw[Q]at e;cases e;refine core (fun _=>none) (fun _=>.inl rfl) (.inr ⟨_,vs.toArray,_,X,rfl,rfl,rfl,by rw[Nk,E];exact hl,by simpa using rv⟩) (fun b u z=>by have y:(none:Option HO)=some u:=z;cases y) (fun b z=>absurd rfl z) fun z=>absurd rfl z
 | none=>
  refine core (fun b=>if b=a then some (.frz { cls:=.type "list",data:=.seq vs.toArray } (.lst (ns.map V.int)))else none) (fun b=>?_) (.inl (.inr ⟨{ cls:=.type "list",data:=.seq vs.toArray },if_pos rfl⟩)) (fun b u z=>?_) (fun b z=>?_) fun _=>X
  ·by_cases g:b=a
   ·exact .inr ⟨_,_,if_pos g⟩
   ·exact .inl (if_neg g)
  ·by_cases g:b=a
   ·have y:=(if_pos g).symm.trans z;cases y;subst g;exact⟨Q,by rw[Nw];exact hl,vs,_,rv,Q⟩
   ·have y:=(if_neg g).symm.trans z;cases y
  ·by_cases g:b=a
   ·exact g
   ·exact absurd (if_neg g) z
noncomputable abbrev KOf{K:Nd}{h:Heap}(_:K.In h):Nd:=K
theorem QbI{l:PySem.W.OpenLaw}{n k:Nat}{q:Program}{i:List Str}{X:(Str->Option Value)->Heap->Prop}{I:World->Heap->Prop}{d:DefRec}{K:Params->Nd}{CX:World->CXT}{sp:World->Sp}{x:Str}
  (L:l.most=some n) (A:n<=sizeLine) (C:d.params.defaults=[]) (hr:Room k callerA)
  (P:∀(w:World) (h:Heap),I w h->(K w.params).In h)
  (F:∀(w:World) (m:Str->Option Value) (t:Addr) (h:Heap),(K w.params).In h->h.Ns mainGlobals m->m d.name=some (.ref t) ->
   ∃fd:FuncData,(∀(s:Shared) (u:Value),BindsTo s fd ⟨[u],[]⟩ [(x,u)]) /\
    ∀base:Heap,(K w.params).In base->base.Ns mainGlobals m->FnOk l.prog w (K w.params) m base (CX w) k t fd [x] (sp w))
  (z:∀(w:World) (H:Hp) (a:Addr) (ns:List Int),ns.length<=n->QkW H->SqL (K w.params) H a (ns.map V.int)->sp w [.ref a] H (fun v _=>v=.bl true) fun _ _ _=>False)
  (D:∀(w:World) (H:Hp) (s:Shared) (e:Value) (y:Shared),CX w [] H s (fun _ _ _=>False) e y->False) :
  IH q i X I l.row.toRowW d [] (fun f vs=>IB f vs):=by
 refine Att.attach_call L C fun w E p m Z t o pm cd U a vs ns G Y ho hd N B r j c M=>?_;have J:=P w _ Y;obtain⟨fd,O,S⟩:=F w m t _ J G.T.g B;exact QcU J G.T.g G.T.b G.T.builtins G.T.nolimit M r j (Nu c A) hr S O (fun H R Q=>z w H a ns c R Q) fun H e y=>D w H p e y
noncomputable def KE(s:Stmt)(j:Nat):Stmt:=match s with
 |.ClassDef _ _ _ body _ _ _ _ _ _ _=>body.getD j (.Pass ⟨0,0,0,0⟩)
 |_=>.Pass ⟨0,0,0,0⟩
noncomputable def JZ(s:Stmt):Arguments:=match s with
 |.FunctionDef _ a _ _ _ _ _ _ _ _=>a
 |_=>{ posonlyargs:=[],args:=[],vararg:=none,kwonlyargs:=[],kw_defaults:=[],kwarg:=none,defaults:=[] }
noncomputable def ZK(s:Stmt):List Stmt:=match s with
 |.FunctionDef _ _ b _ _ _ _ _ _ _=>b
 |_=>[]
noncomputable def Qf(s:Stmt):Scope:=match s with
 |.FunctionDef _ _ _ _ _ _ a _ _ _=>a
 |_=>{ kind:=.function,names:=[],isGenerator:=false,isCoroutine:=false }
noncomputable abbrev CX0:CXT:=fun _ _ _ _ _ _=>False
noncomputable abbrev E0:XK:=fun _ _ _=>False
theorem QdN{X:Cx}:Xq CX0 X E0:=fun _ _ _ _ _ _ _ h=>h.elim
structure Fun(K:Nd)(x qual:Str)(st:Stmt)(f:Addr)(fd:FuncData):Prop where
 ex:∃(oc:Value) (od:Option Addr) (kV doc pm:Value) (an:Option Addr) (cdv ct:Value) (osl:Array (Option Value)),
  fd=Ex x qual (JZ st) (ZK st) (Qf st) .none kV doc pm an cdv ct/\K.lookup f=some ⟨oc,od,.func fd,osl⟩/\DA K cdv qual=true
 kp:N8 K (.ref f)=true
section
variable{P:Program}{w:World}{K:Nd}{mg:Str->Option Value}{base:Heap}
theorem Fun.ok{x b:Str}{st:Stmt}{f:Addr}{fd:FuncData}{N ps:List Str}{k:Nat}{sp:Sp}(F:Fun K x b st f fd)(S:FnScope N ps (Qf st))(len:∀vs H Q E,sp vs H Q E->vs.length=ps.length)
  (d:∀(c:Value) (A:Around) (a:List Env) (s:Shared) (H:Hp) (vs:List V) (Q:VK) (E:XK),Room k (A.deeper (envOfC b (Qf st) s.heap.objs.size f c))->sp vs H Q E ->
   ∃t,PSs (Qc3 CX0 P w K mg base N b (Qf st) f c A a s H E).nox (ZK st) t/\t { nx:=fun _ l=>Q .non l,rt:=Q } (start N vs) H):FnOk P w K mg base CX0 (k+1) f fd ps sp:=by
 obtain⟨n,m,kV,j,pm,o,c,ct,i,rfl,lk,g⟩:=F.ex;refine Qkw lk g S len fun A a s H vs Q E hr e=>?_;obtain⟨t,h,q⟩:=d c A a s H vs Q E hr e;exact⟨t,h.nox,q⟩
theorem Fun.binds{x a:Str}{st:Stmt}{f:Addr}{fd:FuncData}{ps:List Str}(F:Fun K x a st f fd)
  (h:∀(kV b pm:Value) (d:Option Addr) (c ct:Value) (us:List Value),us.length=ps.length->bindArgs (Ex x a (JZ st) (ZK st) (Qf st) .none kV b pm d c ct) ⟨us,[]⟩=pure (ps.zip us)):Binds K fd ps []:=by
 obtain⟨j,i,kV,b,pm,d,c,ct,e,rfl,lk,g⟩:=F.ex;exact .all (h kV b pm d c ct)
theorem Gg{x a:Str}{st:Stmt}{f:Addr}{i:Value}{h g:Option Addr}{e:Array (Option Value)}{kV d pm b ct:Value}(l:K.lookup f=some ⟨i,h,.func (Ex x a (JZ st) (ZK st) (Qf st) .none kV d pm g b ct),e⟩)
  (c:DA K b a=true) (k:N8 K (.ref f)=true):Fun K x a st f (Ex x a (JZ st) (ZK st) (Qf st) .none kV d pm g b ct):=⟨⟨i,h,kV,d,pm,g,b,ct,e,rfl,l,c⟩,k⟩
end
theorem Qgb{A B:Prop}(h:B):if false=true then A else B:=by
 rw[if_neg N3];exact h
theorem QeW{A B:Prop}(h:A):if true=true then A else B:=by
 rw[if_pos rfl];exact h
section
variable{κ:Type}[DecidableEq κ]
noncomputable def UB(kvs:List (κ×V))(k:κ):Option V:=(kvs.find? fun a=>decide (a.1=k)).map (·.2)
noncomputable def Yt(kvs:List (κ×V))(k:κ)(v:V):List (κ×V):=
 if(kvs.any fun a=>decide (a.1=k))=true then kvs.map (fun a=>if a.1=k then(a.1,v)else a)else kvs++[(k,v)]
theorem QdL{p:κ×V}{r:List (κ×V)}{k:κ}(e:p.1=k):UB (p::r) k=some p.2:=by simp[UB,Ea,e]
theorem Qd5{p:κ×V}{r:List (κ×V)}{k:κ}(e:¬p.1=k):UB (p::r) k=UB r k:=by simp[UB,Ea,e]
theorem Vi(kvs:List (κ×V))(k:κ)(v:V):(Yt kvs k v).length<=kvs.length+1:=by
 unfold Yt;split
 ·rw[Nw];omega
 ·rw[NC,Nz,E5];omega
theorem RelO.isSome_eq{o:Option V}{u:Option Value}(r:RelO o u):o.isSome=u.isSome:=by
 cases o with
 |none=>cases u with
  |none=>rfl
  |some _=>exact(show False from r).elim
 |some _=>cases u with
  |none=>exact(show False from r).elim
  |some _=>rfl
theorem RelO.getD{o:Option V}{u:Option Value}{d:V}{d':Value}(r:RelO o u)(a:RelV d d'):RelV (o.getD d) (u.getD d'):=by
 cases o with
 |none=>cases u with
  |none=>exact a
  |some _=>exact(show False from r).elim
 |some _=>cases u with
  |none=>exact(show False from r).elim
  |some _=>exact r
theorem KV.val{kvs:List (κ×V)}{vs:List (κ×Value)}(r:KV kvs vs)(k:κ):RelO (UB kvs k) (valueAt vs k):=by
 unfold KV at r
 induction r with
 |nil=>exact True.intro
 | @cons p q ps a h t f=>
  obtain⟨d,g⟩:=h
  by_cases e:p.1=k
  ·have c:q.1=k:=d.symm.trans e;have b:valueAt (q::a) k=some q.2:=by simp[valueAt,Ea,c]
   rw[QdL e,b];exact g
  ·have c:¬q.1=k:=fun z=>e (d.trans z);have b:valueAt (q::a) k=valueAt a k:=by simp[valueAt,Ea,c]
   rw[Qd5 e,b];exact f
theorem KV.any{kvs:List (κ×V)}{vs:List (κ×Value)}(r:KV kvs vs)(k:κ):(kvs.any fun a=>decide (a.1=k))=vs.any fun a=>decide (a.1=k):=by
 unfold KV at r
 induction r with
 |nil=>rfl
 |cons h t b=>rw[Ez,Ez,b,h.1]
theorem KV.repl{kvs:List (κ×V)}{vs:List (κ×Value)}(r:KV kvs vs)(k:κ){y:V}{u:Value}(c:RelV y u) :
  KV (kvs.map fun a=>if a.1=k then(a.1,y)else a) (vs.map fun a=>if a.1=k then(a.1,u)else a):=by
 unfold KV at r ⊢
 induction r with
 |nil=>exact .nil
 |@cons p q ps g h t d=>
  rw[Nr,Nr];refine .cons ?_ d;obtain⟨b,f⟩:=h
  by_cases e:p.1=k
  ·rw[if_pos e,if_pos (b.symm.trans e)];exact⟨b,c⟩
  ·rw[if_neg e,if_neg (fun z=>e (b.trans z))];exact⟨b,f⟩
theorem KV.put{kvs:List (κ×V)}{vs:List (κ×Value)}(r:KV kvs vs)(k:κ){y:V}{u:Value}(a:RelV y u):KV (Yt kvs k y) (stored vs k u):=by
 unfold Yt stored;rw[r.any k]
 by_cases e:(vs.any fun b=>decide (b.1=k))=true
 ·rw[if_pos e,if_pos e];exact r.repl k a
 ·rw[if_neg e,if_neg e];exact Od r ⟨rfl,a⟩
theorem KV.keys{kvs:List (κ×V)}{vs:List (κ×Value)}(r:KV kvs vs):kvs.map (·.1)=vs.map (·.1):=by
 unfold KV at r
 induction r with
 |nil=>rfl
 |cons h t a=>rw[Nr,Nr,a,h.1]
theorem KV.length{kvs:List (κ×V)}{vs:List (κ×Value)}(r:KV kvs vs):kvs.length=vs.length:=N6 r
end
theorem WY{P:Program}{w:World}{k:Key}{u:Value}(r:RelV (kV k) u):(Zy P w).is k u=true:=by
 cases k with
 |inl i=>obtain⟨t,e⟩:=(show∃t,u=Value.int i t from r);subst e;exact U8 P w i t
 |inr x=>obtain⟨t,e⟩:=(show∃t,u=Value.str x t from r);subst e;exact UE P w x t
section
variable{P:Program}{w:World}{H:Hp}{h:Heap}{a:Addr}
theorem QjE{u:HO}(ok:HOk P w H h)(e:Rd H a u):ObjOk P w H h a u:=e.ok ok
theorem QaA{kvs:List (Key×V)}(ok:HOk P w H h)(e:Rd H a (.dK kvs)):kvs.length<=sizeLine/\(a==sysModules)=false/\∃vs,KV kvs vs/\h.DictOf (Zy P w) a vs:=
 show ObjOk P w H h a (.dK kvs)from QjE ok e
theorem QeZ{kvs:List (Key×V)}(ok:HOk P w H h)(e:H a=some (.dK kvs)):kvs.length<=sizeLine/\(a==sysModules)=false/\∃vs,KV kvs vs/\h.DictOf (Zy P w) a vs:=QaA ok (.inl e)
end
def DGet(H:Hp)(a:Addr)(y:V)(r:Option V):Prop:=∃b k,Rd H a (.dK b)/\y=kV k/\r=UB b k
def DPut(H:Hp)(a:Addr)(y v:V)(c:Hp):Prop:=∃b k,H a=some (.dK b)/\y=kV k/\b.length<sizeLine/\c=upd H a (.dK (Yt b k v))
theorem DGet.k{H:Hp}{a:Addr}{kvs:List (Key×V)}{k:Key}(e:H a=some (.dK kvs)):DGet H a (kV k) (UB kvs k):=⟨kvs,k,.inl e,rfl,rfl⟩
theorem DPut.k{H:Hp}{a:Addr}{kvs:List (Key×V)}{k:Key}{v:V}(e:H a=some (.dK kvs))(b:kvs.length<sizeLine):DPut H a (kV k) v (upd H a (.dK (Yt kvs k v))):=⟨kvs,k,e,rfl,b,rfl⟩
section
variable{X:Cx}{pins:List (Addr×Obj)}{σ:St}{H:Hp}{s:Shared}{a:Addr}{y v:V}{u r:Value}{o:Option V}{A:Around}{E:Value->Shared->Prop}
theorem Inv.big(I:Inv X pins σ H s):sysModules<s.heap.objs.size:=by
 have h:mainGlobals<s.heap.objs.size:=(I.mod.glob.keeps I.bk).lt;exact N4 (by decide) h
theorem Qa0{Q:Value->Shared->Prop}(hu:A.units+1<cLine)(I:Inv X pins σ H s)(g:DGet H a y (some v))(f:RelV y u)(h:∀w' c,Inv X pins σ H c->RelV v w'->Q w' c) :
  wpAny (model X.prog X.w) A (getItem (.ref a) u) Q E s:=by
 obtain⟨i,k,e,j,l⟩:=g;subst j;obtain⟨z,hd,d,rel,m⟩:=QaA I.hok e;obtain⟨w',hw,b⟩:=RelO.some_of (v:=v) (o:=valueAt d k) (by rw[l];exact rel.val k);exact wpAny_getItem_of (WY f) m.mapOf hw (h w' _ (I.tok _) b)
theorem QnG{Q:Value->Shared->Prop}(hu:A.units+1<cLine)(I:Inv X pins σ H s)(g:DGet H a y o)(c:RelV y u)(h:∀b,Inv X pins σ H b->Q (.bool o.isSome) b) :
  wpAny (model X.prog X.w) A (compareOp .In u (.ref a)) Q E s:=by
 obtain⟨d,k,e,f,l⟩:=g;subst f;obtain⟨z,hd,j,rel,i⟩:=QaA I.hok e;refine wpAny_in_of (WY c) hd i.mapOf ?_;rw[<-(rel.val k).isSome_eq,<-l];exact h _ (I.tok _)
theorem UU{h':Heap}{t':Nat}{ob:HO}(I:Inv X pins σ H s)(c:Mut (H a))(d:Heap.SameBut a s.heap h')(f:∃q,h'.get? a=some q)(new:ObjOk X.prog X.w (upd H a ob) h' a ob) :
  Inv X pins σ (upd H a ob) { s with heap:=h',toks:=t' }:=
 I.write (x:=a) (e:=a) c (.inl rfl) (fun b q g z=>(d.2 b g).trans z) f new
theorem Qcs{P:Program}{w:World}{c:Hp}{h':Heap}{kvs:List (Key×V)}{vs:List (Key×Value)}(z:kvs.length<=sizeLine)(hd:(a==sysModules)=false)(rel:KV kvs vs)(b:h'.DictOf (Zy P w) a vs) :
  ObjOk P w c h' a (.dK kvs):=⟨z,hd,vs,rel,b⟩
theorem Qbo{f:Hp}{Q:Unit->Shared->Prop}(hu:A.units+1<cLine)(I:Inv X pins σ H s)(g:DPut H a y v f)(j:RelV y u)(m:RelV v r)(h:∀d,Inv X pins σ f d->Q () d) :
  wpAny (model X.prog X.w) A (setItem (.ref a) u r) Q E s:=by
 obtain⟨b,k,e,F,l,G⟩:=g;subst F G;obtain⟨z,hd,i,rel,J⟩:=QeZ I.hok e;have n:i.length<=sizeLine:=by rw[<-rel.length];exact z
 have B:(Yt b k v).length<=sizeLine:=by have:=Vi b k v;omega
 refine wpAny_setItem_pairs (hsz:=n) (WY j) J fun D c t=>h _ ?_;have C:∃q,D.get? a=some q:=let⟨q,_,_,x,_⟩:=c;⟨q,x⟩
 exact UU I (by rw[e];exact True.intro) t C (Qcs B hd (rel.put k m) c)
end
def QlG(i:Expr):Prop:=∀a b,subscripted i false a b=operate [a,b] (getItem a b)
theorem QfG{prog:Program}{w:World}{A:Around}{E:Value->Shared->Prop}{s:Shared}{env:Env}{value slice:Expr}{pos:Pos}{T id:String}{Q:Value->Shared->Prop}
  (l:typeLookup (.type T) "__getitem__"=pure (some (.builtin id))) (j:QlG slice)
  (h:wpAny (model prog w) A (eval value env) (fun o d=>wpAny (model prog w) A (eval slice env) (fun i a=>a.TypeIs o T/\wpAny (model prog w) A (getItem o i) Q E a) E d) E s) :
  wpAny (model prog w) A (eval (.Subscript value slice pos) env) Q E s:=by
 refine LN (NO h (fun o d f=>NO f (fun i a b=>?_) fun _ _ x=>x) fun _ _ x=>x);obtain⟨g,b⟩:=b;unfold subscriptTail;refine Nc ?_;rw[getitemInPython_of_ne g.not_modules];refine Nc (DW g l ?_)
 have fin:wpAny (model prog w) A (subscripted slice false o i) (fun r c=>wpAny (model prog w) A (letTemporaryGo value o r>>=fun _=>pure r) Q E c) E a:=by
  rw[j o i];exact wpAny_operating (NO b (fun r c e=>Nc (wpAny_letTemporaryGo (Nh e))) fun _ _ x=>x)
 first
  |exact Nh (Nc fin)
  |exact Nc (Nh (Nc fin))
  |exact Nc fin
theorem UJ{X:Cx}{b:List (Addr×Obj)}{σ:St}{H:Hp}{s:Shared}{a:Addr}{y:V}{o:Option V}(I:Inv X b σ H s)(g:DGet H a y o):s.TypeIs (.ref a) "dict":=by
 obtain⟨c,k,e,_,_⟩:=g;obtain⟨_,_,f,_,d⟩:=QaA I.hok e;exact d.typeIs
noncomputable def QjU(d ty:TE):TE:=fun b H Q=>d b H fun x e=>ty b e fun y c=>∃a v,x=.ref a/\DGet c a y (some v)/\Q v c
noncomputable def QiS(e ty d:TE):TS:=fun D b H=>d b H fun v h=>e b h fun x g=>ty b g fun y f=>∃a c,x=.ref a/\DPut f a y v c/\D.nx b c
section
variable{X:Cx}{o i e value:Expr}{pos pos' tpos:Pos}{td ty tv:TE}
theorem QfU(hu:X.A.units+1<cLine)(n:PE X o td)(p:PE X i ty)(m:QlG i):PE X (.Subscript o i pos) (QjU td ty):=by
 intro b s d H Q I h;refine QfG PySem.F.slot_dict_getitem.lookup m (thn (n b s d H _ I h) fun u f ⟨x,t,I1,l,q1⟩=>thn (p b f d t _ I1 q1) fun C B ⟨y,r,I2,j,a,v,q,g,q2⟩=>?_);subst q;obtain rfl:u=Value.ref a:=l;exact⟨UJ I2 g,Qa0 hu I2 g j fun w z I3 c=>⟨v,r,I3,c,q2⟩⟩
theorem Qe7(hu:X.A.units+1<cLine)(q:PE X o td)(t:PE X i ty)(n:PE X value tv)(p:swapsWith value (some (.Subscript o i pos')) pos.line X.env=pure false) :
  PS X (.Assign [.Subscript o i pos'] value pos) (QiS td ty tv):=by
 intro b s c H D I h;refine wpAny_Assign_Subscript (thn (n b s c H _ I h) fun r f ⟨v,C,I1,m,q1⟩=>thn (q b f c C _ I1 q1) fun u d ⟨x,B,I2,l,q2⟩=>thn (t b d c B _ I2 q2) fun G F ⟨y,J,I3,j,a,z,w,g,q3⟩=>?_) p;subst w;obtain rfl:u=Value.ref a:=l;exact Qbo hu I3 g j m fun E I4=>⟨c,z,I4,q3⟩
end
theorem GC{P:Program}{w:World}{H:Hp}(h:Heap)(a:sysModules<h.objs.size):ObjOk P w H (h.push { cls:=.type "dict",data:=.dict #[] }) h.objs.size (.dK []):=
 ⟨NT _,beq_eq_false_iff_ne.mpr (EF (NG a)),[],.nil,LP h⟩
noncomputable def Qhs:TE:=fun _ H Q=>∀p,H p=none->Q (.ref p) (upd H p (.dK []))
section
variable{X:Cx}{pos:Pos}
theorem QdO:PE X (.Dict [] [] pos) Qhs:=fun b s c H Q I h=>
 wpAny_Dict_empty ⟨.ref s.heap.objs.size,_,I.laid (a:=s.heap.objs.size) (o:=.dK []) (t':=s.toks) (fun _ _ q=>Nl _ q) (Nn _) (GC s.heap I.big),rfl,h _ (I.hok.fresh (Nn _))⟩
end
noncomputable def Gs:List (TE×TE)->St->Hp->(List (V×V)->Hp->Prop)->Prop
 |[],_,H,Q=>Q [] H
 |(tk,a)::r,σ,H,Q=>tk σ H fun x d=>a σ d fun y c=>Gs r σ c fun ps b=>Q ((x,y)::ps) b
noncomputable abbrev VV:List (V×V)->List (Value×Value)->Prop:=Paired fun p q=>RelV p.1 q.1/\RelV p.2 q.2
def PPs(X:Cx)(pos:Pos)(keys:List (Option Expr))(values:List Expr)(c:List (TE×TE)):Prop:=
 ∀(a:List (Addr×Obj)) (s:Shared) (b:St) (H:Hp) (Q:List (V×V)->Hp->Prop),Inv X a b H s->Gs c b H Q ->
  wpAny (model X.prog X.w) X.A (evalPairs (pairTrees keys values X.env pos)) (fun e f=>∃ps d,Inv X a b d f/\VV ps e/\Q ps d) X.xe s
theorem QfX{X:Cx}{pos:Pos}:PPs X pos [] [] []:=fun a s b H Q I h=>pairTrees_nil_walk ⟨[],H,I,.nil,h⟩
theorem Wi{X:Cx}{pos:Pos}{k v:Expr}{ks:List (Option Expr)}{vs:List Expr}{tk d:TE}{b:List (TE×TE)}(l:PE X k tk)(j:PE X v d)(hr:PPs X pos ks vs b) :
  PPs X pos (some k::ks) (v::vs) ((tk,d)::b):=fun a s c H Q I h=>
 pairTrees_cons_walk (thn (l a s c H _ I h) fun u f ⟨x,o,I1,i,q1⟩=>thn (j a f c o _ I1 q1) fun q e ⟨y,n,I2,g,q2⟩=>
  thn (hr a e c n _ I2 q2) fun p r ⟨ps,m,I3,rel,q3⟩=>⟨(x,y)::ps,m,I3,.cons ⟨i,g⟩ rel,q3⟩)
noncomputable def K4(kvs more:List (Key×V)):List (Key×V):=more.foldl (fun a b=>Yt a b.1 b.2) kvs
theorem KV.merge:∀{more:List (Key×V)} {rs:List (Key×Value)} {kvs:List (Key×V)} {vs:List (Key×Value)},KV more rs->KV kvs vs->KV (K4 kvs more) (merged vs rs):=by
 intro more rs kvs vs r;unfold KV at r
 induction r generalizing kvs vs with
 |nil=>intro q;exact q
 | @cons p q ps c h t b=>
  intro a
  have e:KV (Yt kvs p.1 p.2) (stored vs q.1 q.2):=by
   have:=a.put p.1 h.2;rw[<-h.1];exact this
  exact b e
theorem Xw:∀(more kvs:List (Key×V)),(K4 kvs more).length<=kvs.length+more.length
 |[],kvs=>by show kvs.length<=kvs.length+0;omega
 |p::r,kvs=>by
  have h1:=Xw r (Yt kvs p.1 p.2);have a:=Vi kvs p.1 p.2;show(K4 (Yt kvs p.1 p.2) r).length<=_;rw[Nz];omega
theorem YH{P:Program}{w:World}:∀{kvs:List (Key×V)} {ws:List (Value×Value)},VV (kvs.map fun d=>(kV d.1,d.2)) ws->∃rs,Carries (Zy P w) ws rs/\KV kvs rs
 |[],_,r=>by rw[Em]at r;cases r;exact⟨[],True.intro,.nil⟩
 | p::kvs,_,r=>by
  rw[Nr]at r;cases r with
  |@cons a b as bs h t=>
   obtain⟨rs,c,q⟩:=YH (P:=P) (w:=w) t;obtain⟨f,e⟩:=b;exact⟨(p.1,e)::rs,⟨WY h.1,rfl,c⟩,.cons ⟨rfl,h.2⟩ q⟩
noncomputable def QkY(b:List (TE×TE)):TE:=fun e H Q=>∀p,H p=none->Gs b e (upd H p (.dK [])) fun ps d=>d p=some (.dK [])/\∃a:List (Key×V),ps=a.map (fun c=>(kV c.1,c.2))/\a.length<=15/\Q (.ref p) (upd d p (.dK (K4 [] a)))
theorem Qfb{X:Cx}{pos:Pos}{keys:List (Option Expr)}{values:List Expr}{b:List (TE×TE)}(h:PPs X pos keys values b)(g:keys.all (·.isSome)=true)(A:keys.length=values.length)(D:keys≠[])
  (j:keys.length<=15):PE X (.Dict keys values pos) (QkY b):=by
 intro d s m H Q I q;have y:=I.hok.fresh (Nn s.heap.objs.size);have I1:=I.laid (a:=s.heap.objs.size) (o:=.dK []) (h':=s.heap.push { cls:=.type "dict",data:=.dict #[] }) (t':=s.toks) (fun _ _ q=>Nl _ q) (Nn _) (GC s.heap I.big);refine wpAny_Dict_walk (knd:=Zy X.prog X.w) g A D j (thn (h d _ m _ _ I1 (q _ y)) fun G L ⟨ps,M,I2,rel,e,f,E,lk,q2⟩=>?_);subst E;obtain⟨p,c,rk⟩:=YH (P:=X.prog) (w:=X.w) rel;obtain⟨z,hd,n,r,F⟩:=QeZ I2.hok e;cases r;refine⟨p,c,F,fun l i v=>⟨.ref s.heap.objs.size,_,?_,rfl,q2⟩⟩
 have u:(K4 [] f).length<=sizeLine:=by
  have C:=Xw f [];rw[E5]at C;rw[EL];omega
 have B:∃q,l.get? s.heap.objs.size=some q:=let⟨q,_,_,x,_⟩:=i;⟨q,x⟩
 exact UU I2 (by rw[e];exact True.intro) v B (Qcs u hd (rk.merge .nil) i)
section
variable{X:Cx}{pins:List (Addr×Obj)}{σ:St}{H:Hp}{s:Shared}{a:Addr}{y d:V}{u r:Value}{o:Option V}{A:Around}{E:Value->Shared->Prop}
theorem QiQ{Q:Value->Shared->Prop}(hu:A.units+1<cLine)(I:Inv X pins σ H s)(g:DGet H a y o)(f:RelV y u)(h:∀w' b,Inv X pins σ H b->RelV (o.getD .non) w'->Q w' b) :
  wpAny (model X.prog X.w) A (call (.builtin "dict.get") [.ref a,u]) Q E s:=by
 obtain⟨i,k,e,j,l⟩:=g;subst j;obtain⟨z,hd,m,rel,c⟩:=QaA I.hok e;refine La Df c.typeIs Ic (PySem.F.args_dict_get_2 _ _) (meets_dict_get (Zy X.prog X.w) a (WY f) hd) ⟨_,c.mapOf,h _ _ (I.tok _) ?_⟩;rw[l];exact(rel.val k).getD rfl
theorem QhH{Q:Value->Shared->Prop}(hu:A.units+1<cLine)(I:Inv X pins σ H s)(g:DGet H a y o)(f:RelV y u)(i:RelV d r)(h:∀w' b,Inv X pins σ H b->RelV (o.getD d) w'->Q w' b) :
  wpAny (model X.prog X.w) A (call (.builtin "dict.get") [.ref a,u,r]) Q E s:=by
 obtain⟨j,k,e,m,l⟩:=g;subst m;obtain⟨z,hd,n,rel,c⟩:=QaA I.hok e;refine La Df c.typeIs Ic (PySem.F.args_dict_get_3 _ _ _) (meets_dict_get_default (Zy X.prog X.w) a (WY f) hd r) ⟨_,c.mapOf,h _ _ (I.tok _) ?_⟩;rw[l];exact(rel.val k).getD i
end
end L2
namespace Mi
open L2
inductive W where
 |non|bl (b:Bool)|int (i:Int)|str (x:Str)|tup (ws:List W)|lst (ws:List W)|frz (ws:List W)|ref (n:Nat)|ty (n:String)
inductive MO where
 |lst (ws:List W)
 |dic (kvs:List (Key×W))
 |dct (kvs:List (W×W))
 |ins (C:Addr) (fs:List (Str×W))
noncomputable abbrev MH:=List MO
noncomputable abbrev MSt:=List (Option W)
structure Rn where
 ρ:Nat->Addr
 N:Nat
 F:Hp
 G:Hp
structure Ext(R R':Rn):Prop where
 n:R.N<=R'.N
 ρ:∀n,n<R.N->R'.ρ n=R.ρ n
 f:∀a o,R.F a=some o->R'.F a=some o
 g:R'.G=R.G
theorem Ext.refl(R:Rn):Ext R R:=⟨Nn _,fun _ _=>rfl,fun _ _ h=>h,rfl⟩
theorem Ext.trans{R R1 R2:Rn}(a:Ext R R1)(b:Ext R1 R2):Ext R R2:=
 ⟨Nu a.n b.n,fun n h=>(b.ρ n (Nm h a.n)).trans (a.ρ n h),fun x o h=>b.f x o (a.f x o h),b.g.trans a.g⟩
theorem JD{K:Nd}(e:∀a o,F a=some o->b a=some o)(h:SqT K F a xs):SqT K b a xs:=by
 rcases h with(h|⟨o,h⟩)|h
 ·exact .inl (.inl (e _ _ h))
 ·exact .inl (.inr ⟨o,e _ _ h⟩)
 ·exact .inr h
theorem Za{K:Nd}(e:∀a o,F a=some o->b a=some o)(h:SqL K F a xs):SqL K b a xs:=by
 rcases h with(h|⟨o,h⟩)|h
 ·exact .inl (.inl (e _ _ h))
 ·exact .inl (.inr ⟨o,e _ _ h⟩)
 ·exact .inr h
section
variable(K:Nd)
mutual
noncomputable def Rw(R:Rn):W->V->Prop
 |.non,v=>v=.non
 |.bl b,v=>v=.bl b
 |.int i,v=>v=.int i
 |.str x,v=>v=.str x
 |.tup ws,v=>∃a xs,v=.ref a/\SqT K R.F a xs/\Rws R ws xs
 |.lst ws,v=>∃a xs,v=.ref a/\R.F a=some (.lst xs)/\Rws R ws xs
 |.frz ws,v=>∃a xs,v=.ref a/\SqL K R.F a xs/\Rws R ws xs
 |.ref n,v=>n<R.N/\v=.ref (R.ρ n)
 |.ty n,v=>v=.ty n
noncomputable def Rws(R:Rn):List W->List V->Prop
 |[],vs=>vs=[]
 |w::ws,vs=>∃v a,vs=v::a/\Rw R w v/\Rws R ws a
end
end
section
variable{K:Nd}{R R':Rn}
mutual
theorem Rw.mono(e:Ext R R'):∀(w:W) (v:V),Rw K R w v->Rw K R' w v
 |.non,_,h=>by unfold Rw at h ⊢;exact h
 |.bl _,_,h=>by unfold Rw at h ⊢;exact h
 |.int _,_,h=>by unfold Rw at h ⊢;exact h
 |.str _,_,h=>by unfold Rw at h ⊢;exact h
 |.ty _,_,h=>by unfold Rw at h ⊢;exact h
 |.tup ws,_,h=>by
  unfold Rw at h ⊢;obtain⟨a,xs,b,c,d⟩:=h;exact⟨a,xs,b,JD e.f c,Rws.mono e ws xs d⟩
 |.lst ws,_,h=>by
  unfold Rw at h ⊢;obtain⟨a,xs,b,c,d⟩:=h;exact⟨a,xs,b,e.f a _ c,Rws.mono e ws xs d⟩
 |.frz ws,_,h=>by
  unfold Rw at h ⊢;obtain⟨a,xs,b,c,d⟩:=h;exact⟨a,xs,b,Za e.f c,Rws.mono e ws xs d⟩
 |.ref n,_,h=>by
  unfold Rw at h ⊢;obtain⟨b,c⟩:=h;exact⟨Nm b e.n,by rw[e.ρ n b];exact c⟩
theorem Rws.mono(e:Ext R R'):∀(ws:List W) (vs:List V),Rws K R ws vs->Rws K R' ws vs
 |[],_,h=>by unfold Rws at h ⊢;exact h
 |w::ws,_,h=>by
  unfold Rws at h ⊢;obtain⟨v,a,d,c,b⟩:=h;exact⟨v,a,d,Rw.mono e w v c,Rws.mono e ws a b⟩
end
theorem Rws.nil_iff:Rws K R [] vs↔vs=[]:=by unfold Rws;exact Iff.rfl
theorem Rws.cons_iff:Rws K R (w::ws) vs↔∃v a,vs=v::a/\Rw K R w v/\Rws K R ws a:=by
 constructor
 ·intro h;unfold Rws at h;exact h
 ·intro h;unfold Rws;exact h
theorem Rws.nil:Rws K R [] []:=Rws.nil_iff.mpr rfl
theorem Rws.cons(a:Rw K R w v)(b:Rws K R ws vs):Rws K R (w::ws) (v::vs):=Rws.cons_iff.mpr ⟨v,vs,rfl,a,b⟩
theorem Rws.paired:∀{ws:List W} {vs:List V},Rws K R ws vs->Paired (Rw K R) ws vs
 |[],vs,h=>by rw[Rws.nil_iff]at h;subst h;exact .nil
 |w::ws,vs,h=>by
  rw[Rws.cons_iff]at h;obtain⟨v,c,rfl,a,b⟩:=h;exact .cons a (Rws.paired b)
theorem Rws.of:∀{ws:List W} {vs:List V},Paired (Rw K R) ws vs->Rws K R ws vs
 |_,_,.nil=>Rws.nil
 |_,_,.cons a b=>Rws.cons a (Rws.of b)
theorem Rws.length(h:Rws K R ws vs):ws.length=vs.length:=N6 h.paired
theorem Rws.get:∀{ws:List W} {vs:List V} {i:Nat} {w:W},Rws K R ws vs->ws[i]?=some w->∃v,vs[i]?=some v/\Rw K R w v
 |[],_,_,_,_,e=>by simp at e
 |w::ws,vs,0,x,h,e=>by
  rw[Rws.cons_iff]at h;obtain⟨v,c,rfl,a,b⟩:=h;simp at e;subst e;exact⟨v,by simp,a⟩
 |w::ws,vs,i+1,x,h,e=>by
  rw[Rws.cons_iff]at h;obtain⟨v,c,rfl,a,b⟩:=h;obtain⟨y,f,d⟩:=Rws.get (i:=i) b (by simpa using e);exact⟨y,by simpa using f,d⟩
theorem Rws.append:∀{ws us:List W} {vs xs:List V},Rws K R ws vs->Rws K R us xs->Rws K R (ws++us) (vs++xs)
 |[],us,vs,xs,h,q=>by rw[Rws.nil_iff]at h;subst h;exact q
 |w::ws,us,vs,xs,h,q=>by
  rw[Rws.cons_iff]at h;obtain⟨v,c,rfl,a,b⟩:=h;exact Rws.cons a (Rws.append b q)
theorem Rws.take:∀{ws:List W} {vs:List V} (n:Nat),Rws K R ws vs->Rws K R (ws.take n) (vs.take n)
 |_,_,0,_=>by simp;exact Rws.nil
 |[],vs,n+1,h=>by rw[Rws.nil_iff]at h;subst h;simp;exact Rws.nil
 |w::ws,vs,n+1,h=>by
  rw[Rws.cons_iff]at h;obtain⟨v,c,rfl,a,b⟩:=h;exact Rws.cons a (Rws.take n b)
theorem Rws.drop:∀{ws:List W} {vs:List V} (n:Nat),Rws K R ws vs->Rws K R (ws.drop n) (vs.drop n)
 |_,_,0,h=>by simpa using h
 |[],vs,n+1,h=>by rw[Rws.nil_iff]at h;subst h;simp;exact Rws.nil
 |w::ws,vs,n+1,h=>by
  rw[Rws.cons_iff]at h;obtain⟨v,c,rfl,a,b⟩:=h;exact Rws.drop n b
theorem Rws.set:∀{ws:List W} {vs:List V} {w:W} {v:V} (n:Nat),Rws K R ws vs->Rw K R w v->Rws K R (ws.set n w) (vs.set n v)
 |[],vs,_,_,n,h,_=>by rw[Rws.nil_iff]at h;subst h;simp;exact Rws.nil
 |x::ws,vs,w,v,0,h,q=>by
  rw[Rws.cons_iff]at h;obtain⟨y,c,rfl,a,b⟩:=h;exact Rws.cons q b
 |x::ws,vs,w,v,n+1,h,q=>by
  rw[Rws.cons_iff]at h;obtain⟨y,c,rfl,a,b⟩:=h;exact Rws.cons a (Rws.set n b q)
end
noncomputable def QeB:Nat->W->Option Tr
 |0,_=>none
 |_+1,.int i=>some (.i i)
 |_+1,.bl b=>some (.i (if b then 1 else 0))
 |_+1,.str x=>some (.s x)
 |n+1,.tup ws=>(ws.mapM (QeB n)).map .t
 |_+1,_=>none
noncomputable def nrm:W->Option Tr
 |.tup ws=>QeB 8 (.tup ws)
 |_=>none
section
variable(K:Nd)
noncomputable def Ro(R:Rn):MO->Option HO->Prop
 |.lst ws,o=>∃xs,o=some (.lst xs)/\Rws K R ws xs
 |.dic kvs,o=>∃a:List (Key×V),o=some (.dK a)/\Paired (fun p q=>p.1=q.1/\Rw K R p.2 q.2) kvs a
 |.dct kvs,o=>∃a:List (Tr×Addr×V),o=some (.dT a)/\Paired (fun p q=>Rw K R p.1 (.ref q.2.1)/\nrm p.1=some q.1/\Rw K R p.2 q.2.2) kvs a
 |.ins C fs,o=>∃(c:Addr) (b:List (Str×V)),o=some (.ins C c b)/\Paired (fun p q=>p.1=q.1/\Rw K R p.2 q.2) fs b
structure Rh(R:Rn)(h:MH)(H:Hp):Prop where
 len:R.N=h.length
 sub:∀a o,R.F a=some o->H a=some o
 sep:∀n,n<R.N->R.F (R.ρ n)=none
 inj:∀m n,m<R.N->n<R.N->R.ρ m=R.ρ n->m=n
 obj:∀n o,h[n]?=some o->Ro K R o (H (R.ρ n))
 gsub:∀a o,R.G a=some o->H a=some o
 gsep:∀n,n<R.N->R.G (R.ρ n)=none
 gf:∀a o,R.G a=some o->R.F a=none
def Rst(R:Rn)(a:MSt)(σ:L2.St):Prop:=a.length=σ.length/\∀(i:Nat) (w:W),a[i]?=some (some w)->∃v,σ[i]?=some (some v)/\Rw K R w v
end
section
variable{K:Nd}{R R':Rn}{h:MH}{H:Hp}{σi:MSt}{σ:L2.St}
theorem Ro.mono(e:Ext R R')(q:Ro K R o u):Ro K R' o u:=by
 cases o with
 |lst j=>obtain⟨i,d,c⟩:=q;exact⟨i,d,Rws.mono e j i c⟩
 |dic g=>obtain⟨f,d,c⟩:=q;exact⟨f,d,Paired.mapP c fun a b z=>⟨z.1,Rw.mono e _ _ z.2⟩⟩
 |dct g=>obtain⟨f,d,c⟩:=q;exact⟨f,d,Paired.mapP c fun a b z=>⟨Rw.mono e _ _ z.1,z.2.1,Rw.mono e _ _ z.2.2⟩⟩
 |ins C fs=>obtain⟨m,l,d,c⟩:=q;exact⟨m,l,d,Paired.mapP c fun a b z=>⟨z.1,Rw.mono e _ _ z.2⟩⟩
theorem Ro.some(q:Ro K R o u):∃x,u=some x:=by
 cases o with
 |lst f=>obtain⟨e,a,c⟩:=q;exact⟨_,a⟩
 |dic b=>obtain⟨d,a,c⟩:=q;exact⟨_,a⟩
 |dct b=>obtain⟨d,a,c⟩:=q;exact⟨_,a⟩
 |ins C fs=>obtain⟨i,g,a,c⟩:=q;exact⟨_,a⟩
theorem Rst.mono(e:Ext R R')(q:Rst K R σi σ):Rst K R' σi σ:=⟨q.1,fun i w h=>by
 obtain⟨v,b,a⟩:=q.2 i w h
 exact⟨v,b,Rw.mono e _ _ a⟩⟩
theorem Rst.set(q:Rst K R σi σ)(r:Rw K R w v):Rst K R (σi.set i (some w)) (σ.set i (some v)):=by
 refine⟨by rw[EB,EB];exact q.1,fun j u e=>?_⟩;rw[List.getElem?_set]at e ⊢
 by_cases a:i=j
 ·subst a;rw[if_pos rfl]at e ⊢
  by_cases b:i<σi.length
  ·rw[if_pos b]at e;rw[if_pos (q.1▸b)];cases e;exact⟨v,rfl,r⟩
  ·rw[if_neg b]at e;cases e
 ·rw[if_neg a]at e ⊢;exact q.2 j u e
theorem Rh.there(q:Rh K R h H)(b:n<R.N):∃o u,h[n]?=some o/\H (R.ρ n)=some u:=by
 have a:n<h.length:=q.len▸b;obtain⟨u,hu⟩:=(q.obj n h[n] (Ni a)).some;exact⟨h[n],u,Ni a,hu⟩
theorem Rh.ne(q:Rh K R h H)(hp:H p=none)(a:n<R.N):R.ρ n≠p:=fun e=>by
 obtain⟨o,u,_,hu⟩:=q.there a;rw[e,hp]at hu;cases hu
theorem Rh.fix(q:Rh K R h H)(hp:H p=none) :
  Ext R { R with F:=upd R.F p o }/\Rh K { R with F:=upd R.F p o } h (upd H p o):=by
 have f:R.F p=none:=by
  cases e:R.F p with
  |none=>rfl
  |some u=>have:=q.sub p u e;rw[hp]at this;cases this
 have x:Ext R { R with F:=upd R.F p o }:=⟨Nn _,fun _ _=>rfl,fun a u e=>by
  show upd R.F p o a=some u
  rw[Qt (fun z=>by rw[z,f]at e;cases e)];exact e,rfl⟩
 have d:∀a u,R.G a=some u->a≠p:=fun a u e z=>by have:=q.gsub a u e;rw[z,hp]at this;cases this
 refine⟨x,q.len,fun a u e=>?_,fun n c=>?_,q.inj,fun n u e=>?_,fun a u e=>?_,q.gsep,fun a u e=>?_⟩
 rotate_right 2
 ·rw[Qt (d a u e)];exact q.gsub a u e
 ·show upd R.F p o a=none;rw[Qt (d a u e)];exact q.gf a u e
 ·by_cases z:a=p
  ·subst z;have b:upd R.F a o a=some u:=e;rw[ZH]at b ⊢;exact b
  ·have b:upd R.F p o a=some u:=e;rw[Qt z]at b ⊢;exact q.sub a u b
 ·show upd R.F p o (R.ρ n)=none;rw[Qt (q.ne hp c)];exact q.sep n c
 ·have c:n<R.N:=by rw[q.len];exact(Ng.mp e).1
  show Ro K _ u (upd H p o (R.ρ n));rw[Qt (q.ne hp c)];exact(q.obj n u e).mono x
theorem Rh.tup(q:Rh K R h H)(hp:H p=none)(r:Rws K R ws xs) :
  ∃R',Ext R R'/\Rh K R' h (upd H p (.tup xs))/\Rw K R' (.tup ws) (.ref p):=by
 obtain⟨x,y⟩:=q.fix (o:=.tup xs) hp;refine⟨_,x,y,?_⟩;unfold Rw;exact⟨p,xs,rfl,SqT.of ZH,Rws.mono x _ _ r⟩
theorem Rh.lstI(q:Rh K R h H)(hp:H p=none)(r:Rws K R ws xs) :
  ∃R',Ext R R'/\Rh K R' h (upd H p (.lst xs))/\Rw K R' (.lst ws) (.ref p):=by
 obtain⟨x,y⟩:=q.fix (o:=.lst xs) hp;refine⟨_,x,y,?_⟩;unfold Rw;exact⟨p,xs,rfl,ZH,Rws.mono x _ _ r⟩
theorem Rh.new(q:Rh K R h H)(hp:H p=none)(r:∀R',Ext R R'->Ro K R' mo (some o)) :
  ∃R',Ext R R'/\Rh K R' (h++[mo]) (upd H p o)/\Rw K R' (.ref h.length) (.ref p):=by
 let R':Rn:={ ρ:=fun n=>if n=R.N then p else R.ρ n,N:=R.N+1,F:=R.F,G:=R.G }
 have hr:∀n,n<R.N->R'.ρ n=R.ρ n:=fun n b=>if_neg (NG b);have d:R'.ρ R.N=p:=if_pos rfl;have x:Ext R R':=⟨Dp _,hr,fun _ _ e=>e,rfl⟩
 have g:∀a u,R.G a=some u->a≠p:=fun a u e z=>by have:=q.gsub a u e;rw[z,hp]at this;cases this
 have i:R.F p=none:=by
  cases e:R.F p with
  |none=>rfl
  |some u=>have:=q.sub p u e;rw[hp]at this;cases this
 have below:∀n,n<R.N+1->n<R.N\/n=R.N:=fun n b=>Nat.lt_or_eq_of_le (Nat.le_of_lt_succ b)
 have f:∀n,n<R.N+1->R.G (R'.ρ n)=none:=fun n b=>by
  rcases below n b with b|b
  ·rw[hr n b];exact q.gsep n b
  ·subst b;rw[d];cases e:R.G p with
   |none=>rfl
   |some u=>exact absurd rfl (g p u e)
 refine⟨R',x,⟨?_,fun a u e=>?_,fun n b=>?_,fun m n c b e=>?_,fun n u e=>?_,fun a u e=>by rw[Qt (g a u e)];exact q.gsub a u e,f,q.gf⟩,?_⟩
 ·show R.N+1=_;rw[NC,q.len];rfl
 ·have z:a≠p:=fun z=>by have j:R.F a=some u:=e;rw[z,i]at j;cases j
  rw[Qt z];exact q.sub a u e
 ·rcases below n b with b|b
  ·rw[hr n b];exact q.sep n b
  ·subst b;rw[d];exact i
 ·rcases below m c with c|c<;>rcases below n b with b|b
  ·rw[hr m c,hr n b]at e;exact q.inj m n c b e
  ·subst b;rw[hr m c,d]at e;exact absurd e (q.ne hp c)
  ·subst c;rw[hr n b,d]at e;exact absurd e.symm (q.ne hp b)
  ·rw[c,b]
 ·have b:n<R.N+1:=by
   have:=(Ng.mp e).1;rw[NC,<-q.len]at this;exact this
  rcases below n b with b|b
  ·rw[hr n b,Qt (q.ne hp b)];rw[Np (by rw[<-q.len];exact b)]at e;exact(q.obj n u e).mono x
  ·subst b;rw[d,ZH];rw[NQ (by rw[q.len];exact Nn _),q.len,Nat.sub_self]at e;cases e;exact r R' x
 ·unfold Rw;refine⟨by rw[<-q.len];exact Ev _,?_⟩;rw[<-q.len,d]
theorem Rh.put(q:Rh K R h H)(b:n<R.N)(r:Ro K R mo (some o)):Rh K R (h.set n mo) (upd H (R.ρ n) o):=by
 refine⟨by rw[EB];exact q.len,fun a u e=>?_,q.sep,q.inj,fun m u e=>?_,fun a u e=>?_,q.gsep,q.gf⟩
 rotate_right
 ·have z:a≠R.ρ n:=fun z=>by rw[z,q.gsep n b]at e;cases e
  rw[Qt z];exact q.gsub a u e
 ·have z:a≠R.ρ n:=fun z=>by rw[z,q.sep n b]at e;cases e
  rw[Qt z];exact q.sub a u e
 ·by_cases z:n=m
  ·subst z;rw[ZH];rw[N2 (by rw[<-q.len];exact b)]at e;cases e;exact r
  ·have c:m<R.N:=by
    have:=(Ng.mp e).1;rw[EB,<-q.len]at this;exact this
   rw[N1 z]at e;rw[Qt (fun w=>z (q.inj m n c b w).symm)];exact q.obj m u e
theorem Rh.tupAt(q:Rh K R h H)(r:Rw K R (.tup ws) v):∃a xs,v=.ref a/\SqT K H a xs/\Rws K R ws xs:=by
 unfold Rw at r;obtain⟨a,xs,d,c,b⟩:=r;exact⟨a,xs,d,JD q.sub c,b⟩
theorem Rh.lstAt(q:Rh K R h H)(r:Rw K R (.lst ws) v):∃a xs,v=.ref a/\H a=some (.lst xs)/\Rws K R ws xs:=by
 unfold Rw at r;obtain⟨a,xs,d,c,b⟩:=r;exact⟨a,xs,d,q.sub a _ c,b⟩
theorem Rh.frzAt(q:Rh K R h H)(r:Rw K R (.frz ws) v):∃a xs,v=.ref a/\SqL K H a xs/\Rws K R ws xs:=by
 unfold Rw at r;obtain⟨a,xs,d,c,b⟩:=r;exact⟨a,xs,d,Za q.sub c,b⟩
noncomputable def lsW(h:MH):W->Option (List W)
 |.lst ws=>some ws
 |.frz ws=>some ws
 |.ref n=>match h[n]? with|some (.lst ws)=>some ws|_=>none
 |_=>none
noncomputable def loW(h:MH):W->Option (List W)
 |.lst ws=>some ws
 |.ref n=>match h[n]? with|some (.lst ws)=>some ws|_=>none
 |_=>none
theorem Rh.loAt(q:Rh K R h H)(r:Rw K R w v)(e:loW h w=some ws):∃a xs,v=.ref a/\H a=some (.lst xs)/\Rws K R ws xs:=by
 cases w with
 |lst b=>cases e;exact q.lstAt r
 |ref n=>
  simp only[loW]at e;split at e
  ·rename_i b c;cases e;unfold Rw at r;obtain⟨xs,f,d⟩:=q.obj n _ c;exact⟨_,xs,r.2,f,d⟩
  ·cases e
 |_=>cases e
theorem Rh.lsAt(q:Rh K R h H)(r:Rw K R w v)(e:lsW h w=some ws):∃a xs,v=.ref a/\SqL K H a xs/\Rws K R ws xs:=by
 cases w with
 |lst b=>cases e;obtain⟨a,xs,j,i,g⟩:=q.lstAt r;exact⟨a,xs,j,SqL.of i,g⟩
 |frz b=>cases e;exact q.frzAt r
 |ref n=>
  simp only[lsW]at e;split at e
  ·rename_i b c;cases e;unfold Rw at r;obtain⟨xs,f,d⟩:=q.obj n _ c;exact⟨_,xs,r.2,SqL.of f,d⟩
  ·cases e
 |_=>cases e
theorem Rh.refAt(q:Rh K R h H)(r:Rw K R (.ref n) v)(e:h[n]?=some (.lst ws)) :
  n<R.N/\v=.ref (R.ρ n)/\∃xs,H (R.ρ n)=some (.lst xs)/\Rws K R ws xs:=by
 unfold Rw at r;exact⟨r.1,r.2,q.obj n _ e⟩
end
theorem Rw.non_eq{K:Nd}(r:Rw K R .non v):v=.non:=by unfold Rw at r;exact r
theorem Rw.bl_eq{K:Nd}(r:Rw K R (.bl b) v):v=.bl b:=by unfold Rw at r;exact r
theorem Rw.int_eq{K:Nd}(r:Rw K R (.int i) v):v=.int i:=by unfold Rw at r;exact r
theorem Rw.str_eq{K:Nd}(r:Rw K R (.str x) v):v=.str x:=by unfold Rw at r;exact r
theorem Rw.ty_eq{K:Nd}(r:Rw K R (.ty n) v):v=.ty n:=by unfold Rw at r;exact r
theorem Rw.ty{K:Nd}(n:String):Rw K R (.ty n) (.ty n):=by unfold Rw;rfl
theorem Rw.non{K:Nd}:Rw K R .non .non:=by unfold Rw;rfl
theorem Rw.bl{K:Nd}(b:Bool):Rw K R (.bl b) (.bl b):=by unfold Rw;rfl
theorem Rw.int{K:Nd}(i:Int):Rw K R (.int i) (.int i):=by unfold Rw;rfl
theorem Rw.str{K:Nd}(x:Str):Rw K R (.str x) (.str x):=by unfold Rw;rfl
end Mi
namespace Mi
open L2
noncomputable abbrev ME:=MSt->MH->Option (W×MH)
noncomputable abbrev MT:=MSt->MH->Option (Bool×MH)
noncomputable abbrev MA:=MSt->MH->Option (List W×MH)
inductive MF where
 |nx (σ:MSt) (h:MH)|rt (w:W) (h:MH)|bk (σ:MSt) (h:MH)|ct (σ:MSt) (h:MH)
noncomputable abbrev SM:=MSt->MH->Option MF
noncomputable abbrev FM:=List W->MH->Option (W×MH)
section
variable(K:Nd)
def After(R:Rn)(w:W)(h':MH)(Q:VK):Prop:=∀a b v,Ext R a->Rh K a h' b->Rw K a w v->Q v b
noncomputable def tI(m:ME):TE:=fun c H Q=>∃R a h w b,Rh K R h H/\Rst K R a c/\m a h=some (w,b)/\After K R w b Q
noncomputable def tIT(m:MT):TT:=fun f H Q=>∃R a h b c,Rh K R h H/\Rst K R a f/\m a h=some (b,c)/\∀d e,Ext R d->Rh K d c e->Q b e
noncomputable def tIA(m:MA):TA:=fun g H Q=>∃R a h c e,Rh K R h H/\Rst K R a g/\m a h=some (c,e)/\∀b f d,Ext R b->Rh K b e f->Rws K b c d->Q d f
noncomputable def Ends(R:Rn)(D:L2.Ends):MF->Prop
 |.nx a h=>∀R' b σ,Ext R R'->Rh K R' h b->Rst K R' a σ->D.nx σ b
 |.bk a h=>∀R' b σ,Ext R R'->Rh K R' h b->Rst K R' a σ->D.bk σ b
 |.ct a h=>∀R' b σ,Ext R R'->Rh K R' h b->Rst K R' a σ->D.ct σ b
 |.rt w h=>After K R w h D.rt
noncomputable def tS(m:SM):TS:=fun D b H=>∃R a h r,Rh K R h H/\Rst K R a b/\m a h=some r/\Ends K R D r
noncomputable def spM(n:Nat)(m:FM):Sp:=fun c H Q _=>∃R a h w b,a.length=n/\Rh K R h H/\Rws K R a c/\m a h=some (w,b)/\After K R w b Q
end
def PM(X:Cx)(e:Expr)(m:ME):Prop:=PE X e (tI X.K m)
def PMT(X:Cx)(e:Expr)(m:MT):Prop:=PT X e (tIT X.K m)
def PMA(X:Cx)(a:List Expr)(m:MA):Prop:=PA X a (tIA X.K m)
def PMS(X:Cx)(st:Stmt)(m:SM):Prop:=PS X st (tS X.K m)
def Qca(X:Cx)(st:List Stmt)(m:SM):Prop:=PSs X st (tS X.K m)
section
variable{K:Nd}{R R1 R2:Rn}
theorem After.ext(a:After K R w h' Q)(x:Ext R R1):After K R1 w h' Q:=fun b c v e=>a b c v (x.trans e)
theorem Ends.ext(a:Ends K R D r)(x:Ext R R1):Ends K R1 D r:=by
 cases r with
 |nx d h=>exact fun b c v e=>a b c v (x.trans e)
 |bk d h=>exact fun b c v e=>a b c v (x.trans e)
 |ct d h=>exact fun b c v e=>a b c v (x.trans e)
 |rt w h=>exact After.ext a x
end
theorem QW(h:PE X e t)(i:∀σ H Q,t' σ H Q->t σ H Q):PE X e t':=fun a s σ H Q I q=>h a s σ H Q I (i _ _ _ q)
theorem Qcz(h:PT X e t)(i:∀σ H Q,t' σ H Q->t σ H Q):PT X e t':=fun a s σ H Q I q=>h a s σ H Q I (i _ _ _ q)
theorem Qes(h:PW X e t)(i:∀σ H Q,t' σ H Q->t σ H Q):PW X e t':=fun b a s σ H Q I q=>h b a s σ H Q I (i _ _ _ q)
theorem QeM(h:PA X b t)(i:∀σ H Q,t' σ H Q->t σ H Q):PA X b t':=fun pos a s σ H Q I q=>h pos a s σ H Q I (i _ _ _ q)
theorem JO{st:Stmt}(h:PS X st t)(i:∀D σ H,t' D σ H->t D σ H):PS X st t':=fun a s σ H D I q=>h a s σ H D I (i _ _ _ q)
theorem Qa9{st:List Stmt}(h:PSs X st t)(i:∀D σ H,t' D σ H->t D σ H):PSs X st t':=fun a s σ H D I q=>h a s σ H D I (i _ _ _ q)
noncomputable def Qb(i:Nat):ME:=fun a h=>match a[i]? with|some (some w)=>some (w,h)|_=>none
noncomputable def mC(w:W):ME:=fun _ h=>some (w,h)
section
variable{X:Cx}
theorem Qe(i:Nat)(hN:X.N[i]?=some x:=by rfl)(d:Vis X.env.scope x:=by first|exact Or.inl rfl|exact Or.inr (Or.inl rfl)|exact Or.inr (Or.inr rfl))(hd:(x==("__debug__":Str))=false:=by decide)
  (a:(x==("__classdict__":Str))=false:=by decide):PM X (.Name x pos) (Qb i):=QW (QhN hN d hd a) <|by
 rintro l H Q ⟨R,b,h,w,n,c,st,e,k⟩
 unfold Qb at e;split at e
 ·rename_i m j;cases e;obtain⟨v,g,f⟩:=st.2 i _ j;exact⟨v,g,k R H v (Ext.refl _) c f⟩
 ·cases e
theorem Qb8(r:∀R,Rw X.K R w v)(q:tI X.K (mC w) σ H Q):tC v σ H Q:=by
 obtain⟨R,a,h,c,d,b,st,e,k⟩:=q;cases e;exact k R H v (Ext.refl _) b (r R)
theorem QiA{i j pos}:PM X (.Constant (.int i) j pos) (mC (.int i)):=QW Gj fun _ _ _=>Qb8 fun _=>Rw.int _
theorem KI{b j pos}:PM X (.Constant (.bool b) j pos) (mC (.bl b)):=QW QjY fun _ _ _=>Qb8 fun _=>Rw.bl _
theorem QV{j pos}:PM X (.Constant .none j pos) (mC .non):=QW Qh8 fun _ _ _=>Qb8 fun _=>Rw.non
theorem QiF{x j pos}:PM X (.Constant (.str x) j pos) (mC (.str x)):=QW Gq fun _ _ _=>Qb8 fun _=>Rw.str _
theorem QgM(b:Gl X x)(a:X.mg x=some u)(r:RelV v u)(rw:∀R,Rw X.K R w v)(hd:(x==("__debug__":Str))=false:=by decide):PM X (.Name x pos) (mC w):=
 QW (QeO b a r hd) fun _ _ _=>Qb8 rw
end
noncomputable def Qc(f:W->W->MH->Option (W×MH))(c b:ME):ME:=fun a h=>(c a h).bind fun p=>(b a p.2).bind fun q=>f p.1 q.1 q.2
def F1(K:Nd)(f:W->MH->Option (W×MH))(x:V)(H:Hp)(Q:VK):Prop:=∃R h a w b,Rh K R h H/\Rw K R a x/\f a h=some (w,b)/\After K R w b Q
def F2(K:Nd)(f:W->W->MH->Option (W×MH))(x y:V)(H:Hp)(Q:VK):Prop:=∃R h a b w c,Rh K R h H/\Rw K R a x/\Rw K R b y/\f a b h=some (w,c)/\After K R w c Q
def Fs(K:Nd)(f:List W->MH->Option (W×MH))(xs:List V)(H:Hp)(Q:VK):Prop:=∃R h a w b,Rh K R h H/\Rws K R a xs/\f a h=some (w,b)/\After K R w b Q
noncomputable def mUn(f:W->MH->Option (W×MH))(b:ME):ME:=fun a h=>(b a h).bind fun p=>f p.1 p.2
noncomputable def mFn(f:List W->MH->Option (W×MH))(b:MA):ME:=fun a h=>(b a h).bind fun p=>f p.1 p.2
section
variable{K:Nd}{σ:L2.St}{H:Hp}{Q:VK}
theorem un1(q:tI K (mUn f m) σ H Q):tI K m σ H fun x g=>F1 K f x g Q:=by
 obtain⟨R,b,h,w,n,l,st,e,k⟩:=q;obtain⟨⟨a,d⟩,o,p⟩:=Na.mp e;exact⟨R,b,h,a,d,l,st,o,fun R1 g x i c j=>⟨R1,d,a,w,n,c,j,p,k.ext i⟩⟩
theorem QiV(q:tI K (Qc f u t) σ H Q):tI K u σ H fun x o=>tI K t σ o fun y n=>F2 K f x y n Q:=by
 obtain⟨R,c,h,w,v,s,st,e,k⟩:=q;obtain⟨⟨a,m⟩,A,C⟩:=Na.mp e;obtain⟨⟨b,l⟩,z,B⟩:=Na.mp C
 exact⟨R,c,h,a,m,s,st,A,fun R1 o x j g r=>⟨R1,c,m,b,l,g,st.mono j,z,fun R2 n y i d p=>
  ⟨R2,l,a,b,w,v,d,Rw.mono i _ _ r,p,B,k.ext (j.trans i)⟩⟩⟩
theorem Qam(q:tI K (mFn f m) σ H Q):tIA K m σ H fun xs g=>Fs K f xs g Q:=by
 obtain⟨R,b,h,w,n,l,st,e,k⟩:=q;obtain⟨⟨a,d⟩,o,p⟩:=Na.mp e;exact⟨R,b,h,a,d,l,st,o,fun R1 g x i c j=>⟨R1,d,a,w,n,c,j,p,k.ext i⟩⟩
end
noncomputable def JM:Expr->Bool
 |.Starred ..=>true
 |_=>false
noncomputable def Vo(a:List Expr):Bool:=a.all fun e=>!JM e
theorem QQ(h:JM e=false):starEach (e::a) env=(false,eval e env)::starEach a env:=by
 cases e<;>first|rfl|cases h
theorem Jm(h:Vo a=true):(backTo pos (starEach a env)).any (·.1)=false:=by
 induction a with
 |nil=>rfl
 |cons e a b=>
  unfold Vo at h b;rw[II,NB]at h;have c:JM e=false:=by simpa using h.1
  rw[QQ c];have:=b h.2;unfold backTo at this ⊢;rw[Nr,Ez,this];rfl
theorem Qd1(h:Vo a=true):(backTo pos (starEach a env)).all (fun x=>!x.1)=true:=by
 have:=Jm (env:=env) (pos:=pos) h;rw[List.all_eq_not_any_not];simp only[Bool.not_not];rw[this];rfl
noncomputable def Qd:MA:=fun _ h=>some ([],h)
noncomputable def Qa(c:ME)(b:MA):MA:=fun a h=>(c a h).bind fun p=>(b a p.2).bind fun q=>some (p.1::q.1,q.2)
section
variable{X:Cx}{e:Expr}{es:List Expr}{m:ME}{ms:MA}{pos:Pos}
theorem Qf6:PMA X [] Qd:=QeM Qhi <|by
 rintro c H Q ⟨R,a,h,d,f,b,st,e,k⟩
 cases e;exact k R H [] (Ext.refl _) b Rws.nil
theorem QcJ(s:PM X e m)(hr:PMA X es ms)(r:JM e=false:=by rfl):PMA X (e::es) (Qa m ms):=
 QeM (QgX s hr (QQ r)) fun A H Q l=>by
  obtain⟨R,c,h,B,C,q,st,e,k⟩:=l;obtain⟨⟨a,j⟩,v,y⟩:=Na.mp e;obtain⟨⟨b,t⟩,u,w⟩:=Na.mp y;cases w
  exact⟨R,c,h,a,j,q,st,v,fun R1 D x i f p=>⟨R1,c,j,b,t,f,st.mono i,u,fun R2 z n g d o=>
   k R2 z (x::n) (i.trans g) d (Rws.cons (Rw.mono g _ _ p) o)⟩⟩
noncomputable def Q4(ws:List W)(h:MH):Option (W×MH):=if ws.length<=sizeLine then some (.tup ws,h)else none
noncomputable def Zb(ws:List W)(h:MH):Option (W×MH):=if ws.length<=sizeLine then some (.lst ws,h)else none
noncomputable def Yi(ws:List W)(h:MH):Option (W×MH):=if ws.length<=sizeLine then some (.ref h.length,h++[.lst ws])else none
theorem Qiy{d}(h:PMA X es ms):PM X (.Tuple es d pos) (mFn Q4 ms):=QW (QhW h) fun B H Q q=>by
 obtain⟨R,c,y,o,x,t,st,e,k⟩:=Qam q;refine⟨R,c,y,o,x,t,st,e,fun R1 A r d j s=>?_⟩;obtain⟨R2,D,n,w,C,i,a,b,u⟩:=k R1 A r d j s;unfold Q4 at b;split at b
 ·rename_i v;cases b;refine⟨by rw[<-a.length];exact v,fun p hp=>?_⟩;obtain⟨z,l,g,f⟩:=i.tup hp a;exact u z _ _ l g f
 ·cases b
theorem QhO(h:PMA X es ms):PM X (.List es pos) (mFn Zb ms):=QW (Qew h) fun B H Q q=>by
 obtain⟨R,c,y,o,x,t,st,e,k⟩:=Qam q;refine⟨R,c,y,o,x,t,st,e,fun R1 A r l i s=>?_⟩;obtain⟨R2,D,n,w,C,g,a,b,u⟩:=k R1 A r l i s;unfold Zb at b;split at b
 ·rename_i v;cases b;refine⟨by rw[<-a.length];exact v,fun p hp=>?_⟩;obtain⟨z,j,f,d⟩:=g.lstI hp a;exact u z _ _ j f d
 ·cases b
theorem Jq(h:PMA X es ms):PM X (.List es pos) (mFn Yi ms):=QW (Qew h) fun D H Q q=>by
 obtain⟨R,c,A,t,z,v,st,e,k⟩:=Qam q;refine⟨R,c,A,t,z,v,st,e,fun R1 C f r l u=>?_⟩;obtain⟨R2,G,d,w,F,j,a,b,x⟩:=k R1 C f r l u;unfold Yi at b;split at b
 ·rename_i y;cases b;refine⟨by rw[<-a.length];exact y,fun p hp=>?_⟩;obtain⟨B,n,i,g⟩:=j.new (mo:=.lst d) (o:=.lst f) hp fun I s=>⟨f,rfl,Rws.mono s _ _ a⟩
  exact x B _ _ n i g
 ·cases b
end
def OpM(K:Nd)(r:R2)(f:W->W->MH->Option (W×MH)):Prop:=∀x y H Q,F2 K f x y H Q->r x y H Q
def Qgr(K:Nd)(r:List V->Hp->VK->Prop)(f:List W->MH->Option (W×MH)):Prop:=∀a H Q,Fs K f a H Q->r a H Q
section
variable{X:Cx}{a b c:Expr}{ma mb mc:ME}{pos:Pos}
theorem Jc{K:Nd}(h:tI K m σ H Q)(i:∀v H,Q v H->Q' v H):tI K m σ H Q':=by
 obtain⟨R,d,h,w,g,f,st,e,k⟩:=h;exact⟨R,d,h,w,g,f,st,e,fun j l v a b c=>i _ _ (k j l v a b c)⟩
theorem YV{K:Nd}(h:tIA K m σ H Q)(i:∀v H,Q v H->Q' v H):tIA K m σ H Q':=by
 obtain⟨R,d,h,w,g,f,st,e,k⟩:=h;exact⟨R,d,h,w,g,f,st,e,fun j l v a b c=>i _ _ (k j l v a b c)⟩
theorem ZM(d:OpR X (binaryOp op) r)(e:OpM X.K r f)(h:PM X a ma)(g:PM X b mb):PM X (.BinOp a op b pos) (Qc f ma mb):=
 QW (Qkd d h g) fun _ _ _ q=>Jc (QiV q) fun _ _ q1=>Jc q1 fun _ _ q2=>e _ _ _ _ q2
theorem Qep(d:OpR X (compareOp op) r)(g:OpM X.K r f)(i:PM X a ma)(h:PM X b mb)(e:behindInMarks op b=false:=by rfl):PM X (.Compare a [op] [b] pos) (Qc f ma mb):=
 QW (Qfl d i h e) fun _ _ _ q=>Jc (QiV q) fun _ _ q1=>Jc q1 fun _ _ q2=>g _ _ _ _ q2
noncomputable def Qg(m:ME):MT:=fun d h=>(m d h).bind fun p=>match p.1 with|.bl b=>some (b,p.2)|_=>none
theorem QcT{K:Nd}(q:tIT K (Qg m) σ H Q):tI K m σ H fun x i=>∃k,x=.bl k/\Q k i:=by
 obtain⟨R,d,h,b,r,l,st,e,k⟩:=q;obtain⟨⟨w,p⟩,n,g⟩:=Na.mp e;cases w<;>simp only at g<;>first|(cases g;exact⟨R,d,h,_,_,l,st,n,fun o i v x f j=>⟨_,j.bl_eq,k o i x f⟩⟩)|(cases g)
theorem QC(d:OpR X (compareOp op) r)(g:OpM X.K r f)(i:PM X a ma)(h:PM X b mb)(e:behindInMarks op b=false:=by rfl):PMT X (.Compare a [op] [b] pos) (Qg (Qc f ma mb)):=
 Qcz (Qgd d i h e) fun _ _ _ q=>Jc (QiV (QcT q)) fun _ _ q1=>Jc q1 fun _ _ q2=>g _ _ _ _ q2
noncomputable def Qlq(f e:W->W->MH->Option (W×MH))(ma mb mc:ME):ME:=fun d h=>(ma d h).bind fun p=>(mb d p.2).bind fun q=>(f p.1 q.1 q.2).bind fun z=>match z.1 with
 |.bl true=>(mc d z.2).bind fun y=>e q.1 y.1 y.2
 |.bl false=>some (.bl false,z.2)
 |_=>none
noncomputable def mOr(ma mb:ME):ME:=fun d h=>(ma d h).bind fun p=>match p.1 with|.bl true=>some (.bl true,p.2)|.bl false=>mb d p.2|_=>none
noncomputable def Z8(ma mb:MT):MT:=fun d h=>(ma d h).bind fun p=>match p.1 with|true=>mb d p.2|false=>some (false,p.2)
noncomputable def QaR(ma mb:MT):MT:=fun d h=>(ma d h).bind fun p=>match p.1 with|true=>some (true,p.2)|false=>mb d p.2
noncomputable def KM(ma:MT):MT:=fun d h=>(ma d h).bind fun p=>some (!p.1,p.2)
noncomputable def mIf(t:MT)(ma mb:ME):ME:=fun d h=>(t d h).bind fun p=>match p.1 with|true=>ma d p.2|false=>mb d p.2
variable{rest:List Expr}{ta tb:MT}
theorem Qi1{op}(h:PM X a ma):PM X (.BoolOp op [a] pos) ma:=QiC h
theorem Qkm(o:PM X a ma)(n:PM X (.BoolOp .Or (b::rest) pos) mb):PM X (.BoolOp .Or (a::b::rest) pos) (mOr ma mb):=QW (Qke o n) <|by
 rintro s H Q ⟨R,f,h,w,p,m,st,e,k⟩
 obtain⟨⟨a,j⟩,q,d⟩:=Na.mp e;refine⟨R,f,h,a,j,m,st,q,fun R1 r x i g l=>?_⟩;cases a with
 |bl t=>
  refine⟨t,l.bl_eq,?_⟩;cases t with
  |true=>cases d;exact QeW (k R1 r _ i g (Rw.bl _))
  |false=>exact Qgb ⟨R1,f,j,w,p,g,st.mono i,d,k.ext i⟩
 |non=>cases d
 |int _=>cases d
 |str _=>cases d
 |tup _=>cases d
 |lst _=>cases d
 |frz _=>cases d
 |ref _=>cases d
 |ty _=>cases d
def PMW(X:Cx)(e:Expr)(m:MT):Prop:=PW X e (tIT X.K m)
theorem PMW.pt(h:PMW X e m):PMT X e m:=PW.pt h
theorem QgJ{K:Nd}(q:tIT K (Z8 ta tb) σ H Q):Qlu (tIT K ta) (tIT K tb) σ H Q:=by
 obtain⟨R,d,h,w,n,m,st,e,k⟩:=q;obtain⟨⟨a,i⟩,o,j⟩:=Na.mp e;refine⟨R,d,h,a,i,m,st,o,fun R1 r g f=>?_⟩;cases a with
 |true=>exact QeW ⟨R1,d,i,w,n,f,st.mono g,j,fun R2 p l=>k R2 p (g.trans l)⟩
 |false=>cases j;exact Qgb (k R1 r g f)
theorem Qii{K:Nd}(q:tIT K (QaR ta tb) σ H Q):tOr (tIT K ta) (tIT K tb) σ H Q:=by
 obtain⟨R,d,h,w,n,m,st,e,k⟩:=q;obtain⟨⟨a,i⟩,o,j⟩:=Na.mp e;refine⟨R,d,h,a,i,m,st,o,fun R1 r g f=>?_⟩;cases a with
 |true=>cases j;exact QeW (k R1 r g f)
 |false=>exact Qgb ⟨R1,d,i,w,n,f,st.mono g,j,fun R2 p l=>k R2 p (g.trans l)⟩
theorem ZJ(d:PMT X a ta):PMW X (.BoolOp .And [a] pos) ta:=QgW d
theorem XM(d:PMT X a ta):PMW X (.BoolOp .Or [a] pos) ta:=Qiv d
theorem ZO(e:PMT X a ta)(d:PMW X (.BoolOp .And (b::rest) pos) tb):PMW X (.BoolOp .And (a::b::rest) pos) (Z8 ta tb):=Qes (Qic e d) fun _ _ _=>QgJ
theorem YC(e:PMT X a ta)(d:PMW X (.BoolOp .Or (b::rest) pos) tb):PMW X (.BoolOp .Or (a::b::rest) pos) (QaR ta tb):=Qes (QjN e d) fun _ _ _=>Qii
theorem UG(j:PMT X a ta):PMT X (.UnaryOp .Not a pos) (KM ta):=Qcz (Qh6 j) <|by
 rintro p H Q ⟨R,d,h,w,q,i,st,e,k⟩
 obtain⟨⟨a,l⟩,m,n⟩:=Na.mp e;cases n;exact⟨R,d,h,a,l,i,st,m,fun R1 o g f=>k R1 o g f⟩
theorem WQ(n:PMT X c ta)(p:PM X a ma)(o:PM X b mb):PM X (.IfExp c a b pos) (mIf ta ma mb):=QW (QcW n p o) <|by
 rintro r H Q ⟨R,d,h,w,j,m,st,e,k⟩
 obtain⟨⟨t,i⟩,q,l⟩:=Na.mp e;refine⟨R,d,h,t,i,m,st,q,fun R1 s g f=>?_⟩;cases t with
 |true=>exact QeW ⟨R1,d,i,w,j,f,st.mono g,l,k.ext g⟩
 |false=>exact Qgb ⟨R1,d,i,w,j,f,st.mono g,l,k.ext g⟩
noncomputable def Qev(h:MH):W->Option Bool
 |.non=>some false
 |.bl b=>some b
 |.int i=>some (i != 0)
 |.str x=>if x.length<=sizeLine then some ((x.length:Int) != 0)else none
 |.tup ws=>some (!ws.isEmpty)
 |.lst ws=>some (!ws.isEmpty)
 |.frz ws=>some (!ws.isEmpty)
 |.ref n=>match h[n]? with|some (.lst ws)=>some (!ws.isEmpty)|some (.dic kvs)=>some (!kvs.isEmpty)|_=>none
 |.ty _=>none
noncomputable def YK(m:ME):MT:=fun d h=>(m d h).bind fun p=>(Qev p.2 p.1).map fun b=>(b,p.2)
theorem Rws.isEmpty{K:Nd}(r:Rws K R ws vs):ws.isEmpty=vs.isEmpty:=by
 have:=r.length;cases ws<;>cases vs<;>simp at this ⊢
theorem Qi0{K:Nd}{v:V}{b:Bool}(j:Rh K R h H)(r:Rw K R w v)(e:Qev h w=some b):Qk7 K v H b:=by
 cases w with
 |non=>rw[r.non_eq];cases e;rfl
 |bl b=>rw[r.bl_eq];cases e;rfl
 |int i=>rw[r.int_eq];cases e;rfl
 |str x=>
  rw[r.str_eq];simp only[Qev]at e;split at e
  ·rename_i q;cases e;exact⟨q,rfl⟩
  ·cases e
 |tup l=>
  obtain⟨a,g,rfl,f,d⟩:=j.tupAt r;cases e;exact .inr (.inl ⟨g,f,by rw[d.isEmpty]⟩)
 |lst l=>
  obtain⟨a,g,rfl,f,d⟩:=j.lstAt r;cases e;exact .inl ⟨g,SqL.of f,by rw[d.isEmpty]⟩
 |frz l=>
  obtain⟨a,g,rfl,f,d⟩:=j.frzAt r;cases e;exact .inl ⟨g,f,by rw[d.isEmpty]⟩
 |ref n=>
  simp only[Qev]at e;split at e
  ·rename_i l o;cases e;obtain⟨_,rfl,g,f,d⟩:=j.refAt r o;exact .inl ⟨g,SqL.of f,by rw[d.isEmpty]⟩
  ·rename_i m o;cases e;unfold Rw at r;obtain⟨p,f,d⟩:=j.obj n _ o;rw[r.2];refine .inr (.inr ⟨p,f,?_⟩);have:=N6 d;cases m<;>cases p<;>simp at this ⊢
  ·cases e
 |ty _=>cases e
theorem J8(n:PM X a ma)(m:∀whole,isTrue a X.env whole=(do let v <-whole;standAt a.pos;holding [v] (truthy v)):=by intro _;rfl):PMT X a (YK ma):=
 Qcz (QdP n m) fun t H Q g=>by
  obtain⟨R,f,h,w,y,l,st,e,k⟩:=g;obtain⟨⟨a,u⟩,p,r⟩:=Na.mp e;obtain⟨b,o,q⟩:=Nf.mp r;cases q;exact⟨R,f,h,a,_,l,st,p,fun R1 s x i d j=>⟨_,Qi0 d j o,k R1 s i d⟩⟩
end
noncomputable def Uv:Expr->Bool
 |.ListComp ..=>true
 |.SetComp ..=>true
 |.DictComp ..=>true
 |_=>false
theorem Ku(h:Uv e=false):swapsWith e t l env=pure false:=by
 cases e<;>first|rfl|cases h
noncomputable def Qx:SM:=fun a h=>some (.nx a h)
noncomputable def Qh(a b:SM):SM:=fun d h=>(a d h).bind fun r=>match r with|.nx c e=>b c e|r=>some r
noncomputable def Zg(m:ME):SM:=fun a h=>(m a h).map fun p=>.rt p.1 p.2
noncomputable def Q9(t:MT)(a b:SM):SM:=fun c h=>(t c h).bind fun p=>match p.1 with|true=>a c p.2|false=>b c p.2
noncomputable def Zf(m:ME):SM:=fun a h=>(m a h).map fun p=>.nx a p.2
noncomputable def QP(i:Nat)(m:ME):SM:=fun a h=>(m a h).map fun p=>.nx (a.set i (some p.1)) p.2
noncomputable def Qf8(i:Nat)(f:W->W->MH->Option (W×MH))(m:ME):SM:=fun a h=>match a[i]? with
 |some (some x)=>(m a h).bind fun p=>(f x p.1 p.2).map fun q=>.nx (a.set i (some q.1)) q.2
 |_=>none
section
variable{X:Cx}{st:Stmt}{rest:List Stmt}{a b:SM}{e:Expr}{m:ME}{pos:Pos}
theorem QfP:Qca X [] Qx:=Qa9 QgB <|by
 rintro D d H ⟨R,c,h,r,f,s,e,k⟩
 cases e;exact k R H d (Ext.refl _) f s
theorem QA{K:Nd}(q:tS K (Qh a b) D σ H):Qmf (tS K a) (tS K b) D σ H:=by
 obtain⟨R,g,h,r,p,s,e,k⟩:=q;obtain⟨j,t,f⟩:=Na.mp e;refine⟨R,g,h,j,p,s,t,?_⟩;cases j with
 |nx c d=>exact fun R1 u l n i o=>⟨R1,c,d,r,i,o,f,Ends.ext k n⟩
 |rt w d=>cases f;exact k
 |bk c d=>cases f;exact k
 |ct c d=>cases f;exact k
theorem QdW(h1:PMS X st a)(h2:Qca X rest b):Qca X (st::rest) (Qh a b):=Qa9 (QdG h1 h2) fun _ _ _=>QA
theorem Qf1(h1:PMS X st a):Qca X [st] a:=Qe5 h1
theorem QE(l:PM X e m)(j:Uv e=false:=by rfl):PMS X (.Expr e pos) (Zf m):=JO (QeQ l (Ku j)) <|by
 rintro D g H ⟨R,c,h,r,i,s,e,k⟩
 obtain⟨⟨w,n⟩,p,o⟩:=Nf.mp e;cases o;exact⟨R,c,h,w,n,i,s,p,fun R1 q v f d _=>k R1 q g f d (s.mono f)⟩
theorem Qfs(f:PM X e m):PMS X (.Return (some e) pos) (Zg m):=JO (Qij f) <|by
 rintro D l H ⟨R,c,h,r,d,s,e,k⟩
 obtain⟨⟨w,g⟩,j,i⟩:=Nf.mp e;cases i;exact⟨R,c,h,w,g,d,s,j,k⟩
theorem Qh0(p:PMT X c t)(u:Qca X n a)(q:Qca X l b):PMS X (.If c n l pos) (Q9 t a b):=JO (QkI p u q) <|by
 rintro D w H ⟨R,d,h,r,o,s,e,k⟩
 obtain⟨⟨z,i⟩,v,j⟩:=Na.mp e;refine⟨R,d,h,z,i,o,s,v,fun R1 x g f=>?_⟩;cases z with
 |true=>exact QeW ⟨R1,d,i,r,f,s.mono g,j,Ends.ext k g⟩
 |false=>exact Qgb ⟨R1,d,i,r,f,s.mono g,j,Ends.ext k g⟩
theorem QgA(hN:X.N.Nodup)(p:X.N[i]?=some x)(n:Loc X.env.scope x)(t:PM X e m)(o:Uv e=false:=by rfl)(q:X.fn x=true\/X.env.scope.names.lookup x=some .local:=by first|exact .inl rfl|exact .inr rfl|assumption) :
  PMS X (.Assign [.Name x g] e pos) (QP i m):=JO (Qg5 hN p n t (Ku o) q) <|by
 rintro D B H ⟨R,c,h,r,l,s,e,k⟩
 obtain⟨⟨w,u⟩,z,y⟩:=Nf.mp e;cases y;exact⟨R,c,h,w,u,l,s,z,fun R1 A v f d j=>k R1 A _ f d ((s.mono f).set j)⟩
theorem Qix(c:OpR X (inplaceOp op) r):PIp X op r:=c
theorem UL(hN:X.N.Nodup)(J:X.N[i]?=some x)(G:Loc X.env.scope x)(I:OpR X (inplaceOp op) r)(L:OpM X.K r f)(M:PM X e m)
  (p:X.fn x=true\/X.env.scope.names.lookup x=some .local:=by first|exact .inl rfl|exact .inr rfl|assumption):PMS X (.AugAssign (.Name x t) op e pos) (Qf8 i f m):=
 JO (QiP hN J G M (Qix I) p) fun D Y H A=>by
  obtain⟨R,c,h,r,F,s,e,k⟩:=A;unfold Qf8 at e;split at e
  ·rename_i B n;obtain⟨⟨w,u⟩,T,S⟩:=Na.mp e;obtain⟨⟨z,O⟩,Q,P⟩:=Nf.mp S;cases P;obtain⟨v0,o,g⟩:=s.2 i _ n;refine⟨v0,o,R,c,h,w,u,F,s,T,fun R1 Z v d l E=>?_⟩;exact L _ _ _ _ ⟨R1,u,B,w,z,O,l,Rw.mono d _ _ g,E,Q,fun R2 U y q j C=>k R2 U _ (d.trans q) j ((s.mono (d.trans q)).set C)⟩
  ·cases e
end
noncomputable def UA(r:Option MF):Option (W×MH):=match r with|some (.rt w h)=>some (w,h)|some (.nx _ h)=>some (.non,h)|_=>none
noncomputable def QI(more:Nat)(m:SM):FM:=fun a h=>UA (m (a.map some++List.replicate more none) h)
theorem Rst.start{K:Nd}(r:Rws K R ws vs)(k:Nat)(d:N.length=ws.length+k):Rst K R (ws.map some++List.replicate k none) (start N vs):=by
 have c:=r.length;unfold L2.start;refine⟨by simp[d,c],fun i w e=>?_⟩
 by_cases b:i<ws.length
 ·rw[Np (by simpa using b)]at e;rw[Np (by simpa[<-c]using b)];rw[Nq]at e ⊢;obtain⟨j,a,h⟩:=Nf.mp e;cases h;obtain⟨v,g,f⟩:=r.get a;exact⟨v,by rw[g];rfl,f⟩
 ·rw[NQ (by simpa using b)]at e;rw[FO]at e;split at e<;>cases e
section
variable{P:Program}{w:World}{K:Nd}{mg:Str->Option Value}{base:Heap}
theorem Qil{st:Stmt}{N ps:List Str}{m:SM}(F:Fun K x c st f fd)(S:FnScope N ps (Qf st))(hN:N.length=ps.length+more)
  (g:∀(b:Value) (A:Around) (a:List Env) (s:Shared) (H:Hp) (E:XK),Room k (A.deeper (envOfC c (Qf st) s.heap.objs.size f b))->Qca (Qc3 CX0 P w K mg base N c (Qf st) f b A a s H E).nox (ZK st) m) :
  FnOk P w K mg base CX0 (k+1) f fd ps (spM K ps.length (QI more m)):=by
 refine F.ok S (fun v H Q E q=>?_) (fun b A a s H v Q E hr q=>?_)
 ·obtain⟨R,u,h,w,z,l,j,d,_⟩:=q;rw[<-d.length];exact l
 ·refine⟨_,g b A a s H E hr,?_⟩;obtain⟨R,u,h,w,z,l,j,d,e,o⟩:=q;have st:=Rst.start (N:=N) d more (by rw[hN,l]);unfold QI UA at e;split at e
  ·rename_i C y n;cases e;exact⟨R,_,h,_,j,st,n,o⟩
  ·rename_i p y n;cases e;exact⟨R,_,h,_,j,st,n,fun R1 B r t i _=>o R1 B .non t i Rw.non⟩
  ·cases e
end
section
variable{X:Cx}{CX:CXT}{k:Nat}{f:Addr}{fd:FuncData}{ps:List Str}{g:FM}{E:XK}{x:Str}{p pos:Pos}{e:Expr}{es:List Expr}{ms:MA}
noncomputable def Ql(n:Nat)(g:FM)(ms:MA):ME:=mFn (fun a h=>if a.length=n then g a h else none) ms
theorem Qcq{K:Nd}(q:tI K (Ql n g ms) σ H Q):QfB (spM K n g) [] E (tIA K ms) σ H Q:=by
 refine YV (Qam q) fun l m b=>?_;obtain⟨R,h,c,w,j,d,a,e,k⟩:=b;dsimp only at e;split at e
 ·rename_i i;exact⟨R,c,h,w,j,i,d,by rw[N9];exact a,e,k⟩
 ·cases e
theorem Qfc(F:FnOk X.prog X.w X.K X.mg X.base CX k f fd ps (spM X.K ps.length g))(hr:Room k X.A)(i:Gl X x)(d:X.mg x=some (.ref f))(h:N8 X.K (.ref f)=true)(l:Binds X.K fd ps [])(c:Xq CX X E)
  (m:PMA X (e::es) ms) (b:(x==("__debug__":Str))=false:=by decide) (j:JM e=false:=by rfl) (a:Vo es=true:=by rfl) :
  PM X (.Call (.Name x p) (e::es) [] pos) (Ql ps.length g ms):=QW (QgQ F hr i d h l .nil c m b (QQ j) (Jm a)) fun _ _ _=>Qcq
theorem Qdx(F:FnOk X.prog X.w X.K X.mg X.base CX k f fd ps (spM X.K ps.length g))(hr:Room k X.A)(l:Gl X x)(i:X.mg x=some (.ref f))(j:N8 X.K (.ref f)=true)(m:Binds X.K fd ps [])(d:Xq CX X E)
  (a:(x==("__debug__":Str))=false:=by decide):PM X (.Call (.Name x p) [] [] pos) (Ql ps.length g Qd):=QW (Qd4 F hr l i j m .nil d a) fun n H Q q=>by
 obtain⟨R,b,h,o,r,c,st,e,k⟩:=Qcq (E:=E) q;cases e;exact k R H [] (Ext.refl _) c Rws.nil
end
section
variable{X:Cx}{x:Str}{p pos:Pos}{e:Expr}{es:List Expr}{ms:MA}{id T:String}{r:List V->Hp->VK->Prop}{f:List W->MH->Option (W×MH)}
theorem QdY(l:CallR X (.builtin id) r)(i:Qgr X.K r f)(h:Gl X x)(g:X.mg x=none)(c:bootBuiltins x=some (.builtin id))(m:PMA X (e::es) ms)(d:x≠"__name__":=by decide)(b:(x==("__debug__":Str))=false:=by decide)
  (j:JM e=false:=by rfl) (a:Vo es=true:=by rfl):PM X (.Call (.Name x p) (e::es) [] pos) (mFn f ms):=
 QW (Qd6 l h g c m d b (QQ j) (Jm a)) fun _ _ _ q=>YV (Qam q) fun _ _ q1=>i _ _ _ q1
theorem Vz(l:CallR X (.type T) r)(i:Qgr X.K r f)(h:Gl X x)(g:X.mg x=none)(c:bootBuiltins x=some (.type T))(m:PMA X (e::es) ms)(d:x≠"__name__":=by decide)(b:(x==("__debug__":Str))=false:=by decide)
  (j:JM e=false:=by rfl) (a:Vo es=true:=by rfl):PM X (.Call (.Name x p) (e::es) [] pos) (mFn f ms):=
 QW (Qch l h g c m d b (QQ j) (Jm a)) fun _ _ _ q=>YV (Qam q) fun _ _ q1=>i _ _ _ q1
end
inductive Src where
 |l (n:Nat)
 |d (n:Nat)
 |r (n:Nat)
 |v (n:Nat)
 |i (n:Nat)
 |z (n m a b:Nat)
noncomputable def Src.ok(items:List W)(h:MH):Src->Prop
 |.l n=>h[n]?=some (.lst items)
 |.d n=>∃kvs,h[n]?=some (.dct kvs)/\kvs.map (·.1)=items
 |.r n=>h[n]?=some (.lst items.reverse)
 |.v n=>∃kvs,h[n]?=some (.dct kvs)/\kvs.map (·.2)=items
 |.i n=>∃kvs,h[n]?=some (.dct kvs)/\kvs.map (fun p=>.tup [p.1,p.2])=items
 |.z n m a b=>∃as bs,h[n]?=some (.lst as)/\h[m]?=some (.lst bs)/\(as.zip bs).map (fun q=>.tup [q.1,q.2])=items/\as.length=a/\bs.length=b
def live(src:Option Src)(items:List W)(h:MH):Prop:=∀n,src=some n->n.ok items h
noncomputable abbrev MI:=MSt->MH->Option (List W×Option Src×MH)
structure ItOk(K:Nd)(R:Rn)(J:It)(items:List W)(src:Option Src):Prop where
 go:∀i w R' h H,Ext R R'->Rh K R' h H->live src items h->items[i]?=some w->J.go i H
 yld:∀i w R' h H x H',Ext R R'->Rh K R' h H->live src items h->items[i]?=some w->J.yld i H x H'->∃R'',Ext R' R''/\Rh K R'' h H'/\Rw K R'' w x
 stop:∀i R' h H,Ext R R'->Rh K R' h H->live src items h->items.length<=i->J.stop i H
noncomputable def tII(K:Nd)(m:MI):TI:=fun f H C=>∃R a h items b d,Rh K R h H/\Rst K R a f/\m a h=some (items,b,d)/\∀c e J,Ext R c->Rh K c d e->ItOk K c J items b->C J e
def PMI(X:Cx)(a iter:Expr)(m:MI):Prop:=PI X a iter (tII X.K m)
theorem G5(h:PI X b iter t)(i:∀σ H C,t' σ H C->t σ H C):PI X b iter t':=fun a s σ H C I q=>h a s σ H C I (i _ _ _ q)
noncomputable abbrev MG:=W->MSt->MH->Option MSt
noncomputable def tIG(K:Nd)(b:MG):TG:=fun v g H C=>∃R a h w c,Rh K R h H/\Rst K R a g/\Rw K R w v/\b w a h=some c/\∀e f d,Ext R e->Rh K e h f->Rst K e c d->C d f
def PMG(X:Cx)(a:Expr)(b:MG):Prop:=PG X a (tIG X.K b)
theorem Qbs(h:PG X b t)(i:∀v σ H C,t' v σ H C->t v σ H C):PG X b t':=fun a s σ H v u C I r q=>h a s σ H v u C I r (i _ _ _ _ q)
noncomputable def ZU(i:Nat):MG:=fun w a _=>some (a.set i (some w))
theorem QS(hN:X.N.Nodup)(f:X.N[i]?=some x)(d:Loc X.env.scope x)(g:X.fn x=true\/X.env.scope.names.lookup x=some .local:=by first|exact .inl rfl|exact .inr rfl|assumption) :
  PMG X (.Name x pos) (ZU i):=Qbs (QbS hN f d g) <|by
 rintro v j H C ⟨R,a,h,w,b,c,st,rw,e,k⟩
 cases e;exact k R H _ (Ext.refl _) c (st.set rw)
open Classical in
noncomputable def Jg(items:List W)(src:Option Src)(b:MG)(body:SM):List W->SM
 |[],σ,h=>if live src items h then some (.nx σ h)else none
 | w::r,σ,h=>if live src items h then(b w σ h).bind fun σ1=>(body σ1 h).bind fun z=>match z with
   |.nx σ2 h2=>Jg items src b body r σ2 h2
   |.ct σ2 h2=>Jg items src b body r σ2 h2
   |.bk σ2 h2=>some (.nx σ2 h2)
   |.rt v h2=>some (.rt v h2)
  else none
noncomputable def Vv(mi:MI)(b:MG)(body:SM):SM:=fun a h=>(mi a h).bind fun p=>Jg p.1 p.2.1 b body p.1 a p.2.2
section
variable{X:Cx}{tg iter:Expr}{body:List Stmt}{mi:MI}{b:MG}{m:SM}{pos:Pos}
theorem Qht{K:Nd}(q:tS K (Vv mi b m) D σ H):Qmb (tII K mi) (tIG K b) (tS K m) D σ H:=by
 obtain⟨R,A,h,r,rh,s,e,k⟩:=q;obtain⟨⟨items,t,h1⟩,e1,e2⟩:=Na.mp e;refine⟨R,A,h,items,t,h1,rh,s,e1,fun R1 H1 J x1 aa it=>?_⟩;refine⟨fun i n σ H=>i+n=items.length/\∃R2 g l,Ext R1 R2/\Rh K R2 l H/\Rst K R2 g σ/\∃r,Jg items t b m (items.drop i) g l=some r/\Ends K R2 D r,⟨items.length,by simp,R1,A,h1,Ext.refl _,aa,s.mono x1,r,by simpa using e2,Ends.ext k x1⟩,?_⟩
 rintro i n E S ⟨ae,R2,g,l,G,j,s2,r2,d,L⟩
 by_cases M:i<items.length
 ·obtain⟨w,hw⟩:∃w,items[i]?=some w:=⟨items[i],Ni M⟩
  have hd:items.drop i=w::items.drop (i+1):=by
   rw[EJ M];rw[Ni M]at hw;cases hw;rfl
  rw[hd]at d;unfold Jg at d;split at d
  ·rename_i P;obtain⟨C,e4,e5⟩:=Na.mp d;obtain⟨z,e6,Q⟩:=Na.mp e5;refine .inr ⟨it.go i w R2 l S G j P hw,fun F T=>∃y B h4,Ext R1 y/\Rh K y h4 T/\Rst K y B F/\∃r,Jg items t b m (items.drop (i+1)) B h4=some r/\Ends K y D r,fun F T hn=>⟨n-1,by omega,by omega,hn⟩,fun x T hy=>?_⟩;obtain⟨y,p,Z,U⟩:=it.yld i w R2 l S x T G j P hw hy;refine⟨y,g,l,w,C,Z,s2.mono p,U,e4,fun R4 H4 ab u Y s4=>?_⟩;refine⟨R4,C,l,z,Y,s4,e6,?_⟩;cases z with
   |nx f N=>exact fun O H5 a o c I=>⟨O,f,N,G.trans (p.trans (u.trans o)),c,I,r2,Q,Ends.ext L (p.trans (u.trans o))⟩
   |ct f N=>exact fun O H5 a o c I=>⟨O,f,N,G.trans (p.trans (u.trans o)),c,I,r2,Q,Ends.ext L (p.trans (u.trans o))⟩
   |bk f N=>cases Q;exact fun O H5 a o c I=>L O H5 a (p.trans (u.trans o)) c I
   |rt v N=>cases Q;exact After.ext L (p.trans u)
  ·cases d
 ·have hd:items.drop i=[]:=E7 (El.mp M);rw[hd]at d;unfold Jg at d;split at d
  ·rename_i P;cases d;exact .inl ⟨it.stop i R2 l S G j P (El.mp M),L R2 S E (Ext.refl _) j s2⟩
  ·cases d
theorem Jd(hp:PassesOwn (model X.prog X.w) X.A X.env X.xe)(e:X.calm=true)(c:PMI X tg iter mi)(d:PMG X tg b)(f:Qca X body m)
  (a:∀x,foldedSetIterable iter X.env x=pure x:=by intro _;rfl):PMS X (.For tg iter body [] pos) (Vv mi b m):=JO (Qhv hp e c d f a) fun _ _ _=>Qht
end
noncomputable def Q8(t:MT)(body:SM):Nat->SM
 |0,_,_=>none
 | n+1,σ,h=>(t σ h).bind fun p=>match p.1 with
  |false=>some (.nx σ p.2)
  |true=>(body σ p.2).bind fun z=>match z with
   |.nx σ2 h2=>Q8 t body n σ2 h2
   |.ct σ2 h2=>Q8 t body n σ2 h2
   |.bk σ2 h2=>some (.nx σ2 h2)
   |.rt v h2=>some (.rt v h2)
section
variable{X:Cx}{c:Expr}{body:List Stmt}{t:MT}{m:SM}{pos:Pos}
theorem QcI{K:Nd}(q:tS K (Q8 t m n) D σ H):Qez (tIT K t) (tS K m) D σ H:=by
 obtain⟨R,E,h,r,T,s,e,k⟩:=q;refine⟨fun n σ H=>∃R2 b B,Rh K R2 B H/\Rst K R2 b σ/\∃r,Q8 t m n b B=some r/\Ends K R2 D r,⟨n,R,E,h,T,s,r,e,k⟩,?_⟩
 rintro n j H2 ⟨R2,b,B,G,F,M,I,w⟩
 cases n with
 |zero=>cases I
 | succ n=>
  unfold Q8 at I;obtain⟨⟨z,O⟩,Z,P⟩:=Na.mp I;refine⟨R2,b,B,z,O,G,F,Z,fun Q H3 g u=>?_⟩;cases z with
  |false=>
   cases P;exact Qgb (w Q H3 j g u (F.mono g))
  |true=>
   obtain⟨y,Y,C⟩:=Na.mp P;refine QeW ⟨fun l S=>∃J i N,Rh K J N S/\Rst K J i l/\∃r,Q8 t m n i N=some r/\Ends K J D r,fun l S U=>⟨n,Ev _,U⟩,?_⟩;refine⟨Q,b,O,y,u,F.mono g,Y,?_⟩;cases y with
   |nx f x=>exact fun A L a o d p=>⟨A,f,x,d,p,M,C,Ends.ext w (g.trans o)⟩
   |ct f x=>exact fun A L a o d p=>⟨A,f,x,d,p,M,C,Ends.ext w (g.trans o)⟩
   |bk f x=>cases C;exact fun A L a o d p=>w A L a (g.trans o) d p
   |rt v x=>cases C;exact After.ext w g
theorem WW(n:Nat)(hp:PassesOwn (model X.prog X.w) X.A X.env X.xe)(a:PMT X c t)(b:Qca X body m):PMS X (.While c body [] pos) (Q8 t m n):=JO (Qdf hp a b) fun _ _ _=>QcI
end
section
variable{prog:Program}{w:World}{A:Around}{E:Value->Shared->Prop}{R:Result->Shared->Prop}{s:Shared}
theorem UK(I:Nat->Shared->Prop)
  (q:∀n s,I n s->wpAny (model prog w) A (pyNext it) (fun r d=>match r with
   |none=>R (.ok .next) d
   | some v=>wpAny (model prog w) A (letOwnedTupleGo target it v) (fun _ b=>wpAny (model prog w) A (assign target env v) (fun _ i=>
     wpAny (model prog w) A (forIn t true fun c r=>if r=true then do let ok <-isTrue c env (eval c env);pure (ForInStep.yield ok)else pure (ForInStep.yield r)) (fun ok a=>
      if ok=true then wpAny (model prog w) A (eval B env) (fun x g=>
       wpAny (model prog w) A (call (.builtin "list.append") [C,x]) (fun _ f=>∃m,m<n/\I m f) (fun _ _=>False) g) (fun _ _=>False) a
      else∃m,m<n/\I m a) (fun _ _=>False) i) (fun _ _=>False) b) (fun _ _=>False) d) (fun _ _=>False) s)
  (n:Nat) (h:I n s) :
  codeAny (model prog w) A (.compLoop (.ListComp B [⟨target,iter,t,0⟩] o pos) 0 it C env) R s:=by
 refine codeAny_loop rfl I (fun n s D=>?_) n h;show wpAny _ A ((compTurn (.ListComp B [⟨target,iter,t,0⟩] o pos) 0 it C env).onRaise (fun x=>do noteFrame x env;theTreesLotGoes x)) _ _ s;refine wpAny_noted ?_;rw[compTurn_list];refine Nc (DP (Nc (NO (q n s D) (fun r d l=>?_) fun _ _ e=>e.elim)));cases r with
 |none=>exact Nh l
 | some v=>
  refine Nc (NO l (fun _ b p=>?_) fun _ _ e=>e.elim);refine Nc (NO p (fun _ i z=>Nc (NO z (fun ok a j=>?_) fun _ _ e=>e.elim)) fun _ _ e=>e.elim);cases ok with
  |false=>exact Nh ⟨rfl,j⟩
  |true=>
   exact Nc (Nc (NO j (fun x g y=>Nc (NO y (fun _ f u=>Nh (Nh ⟨rfl,u⟩)) fun _ _ e=>e.elim)) fun _ _ e=>e.elim))
end
theorem sz{h:Heap}(e:h.get? b=some o)(a:h.objs.size<=n):¬b=n:=fun z=>by
 have c:@LT.lt Nat instLTNat b h.objs.size:=No e;subst z;exact Ed _ (Nm c a)
noncomputable abbrev blk(X:Cx)(a:Scope)(b:List (Str×Addr))(Nb:List Str)(s₀:Shared)(H₀:Hp)(C:Addr)(ex:List Addr)(pn:List (Addr×Obj)):Cx:=
 { X with N:=Nb,s₀:=s₀,H₀:=H₀,env:=compEnvC a b C X.env,outer:=X.stack,stack:=X.stack,ex:=ex,fn:=fun _=>false,pn:=pn,xe:=fun _ _=>False }
structure BlkOk(X:Cx)(scope:Scope)(cl:List (Str×Addr))(Nb:List Str)(cp:List (Option Nat)):Prop where
 clos:closureFor scope X.env=pure cl
 cell:∀y∈scope.names,y.2≠.cell
 kind:scope.kind=.function
 names:∀y∈scope.names,y.2=.local->scope.names.lookup y.1=some .local
 sub:∀x c,cl.lookup x=some c->X.env.cells.lookup x=some c
 has:∀x,((relabel scope X.env).names.lookup x=some .cell\/(relabel scope X.env).names.lookup x=some .free)->∃c,cl.lookup x=some c
 len:cp.length=Nb.length
 cap:∀(i j:Nat) (x:Str),cp[i]?=some (some j)->Nb[i]?=some x->X.N[j]?=some x/\Vis X.env.scope x/\(X.env.kindOf x=some .cell\/X.env.kindOf x=some .free)/\((relabel scope X.env).names.lookup x=some .cell\/(relabel scope X.env).names.lookup x=some .free)
noncomputable def W1(cp:List (Option Nat))(σ:L2.St):L2.St:=cp.map fun o=>match o with|none=>none|some j=>match σ[j]? with|some v=>v|none=>none
noncomputable def Qdr(wi:TI)(cp:List (Option Nat))(g:TG)(tt:TT)(te:TE):TE:=fun f H Q=>wi f H fun J o=>∃W:Nat->Nat->List V->L2.St->Hp->Prop,(∃m,W 0 m [] (W1 cp f) o)/\∀i m a e H,W i m a e H ->
 (J.stop i H/\∀D,H D=none->Q (.ref D) (upd H D (.lst a))) \/
 (J.go i H/\∀x j,J.yld i H x j->g x e j fun c n=>tt c n fun b h=>if b=true then te c h fun v l=>a.length<sizeLine/\∃d,d<m/\W (i+1) d (a++[v]) c l else∃d,d<m/\W (i+1) d a c h)
theorem Inv.track(I:Inv X d σ H s)(g:H D=none)(l:X.s₀.heap.objs.size<=D)(j:X.env.locals≠D)(i:∀x c,X.env.cells.lookup x=some c->c≠D)
  (hp:∀p∈X.pn++d,p.1≠D) (ob:ObjOk X.prog X.w (upd H D o) s.heap D o):Inv X d σ (upd H D o) s where
 ok:=I.ok
 os:=I.os
 bare:=I.bare
 base:={
  keep:=I.base.keep
  slot:=I.base.slot
  free:=fun b q e n nx=>by
   have:b≠D:=sz e l;rw[Qt this];exact I.base.free b q e n nx
  there:=I.base.there
  tups:=fun b h e=>by
   have q:=I.base.tups b h e;rw[Qt (fun z=>by rw[z,g]at q;cases q)];exact q
  frzs:=fun b q u e=>by
   have z:=I.base.frzs b q u e;rw[Qt (fun y=>by rw[y,g]at z;cases z)];exact z
  tbls:=fun b ps e=>by
   obtain⟨more,q⟩:=I.base.tbls b ps e
   exact⟨more,by rw[Qt (fun z=>by rw[z,g]at q;cases q)];exact q⟩ }
 loc:=I.loc
 cell:=I.cell
 free:=by rw[Qt j];exact I.free
 freeC:=fun x c e=>by rw[Qt (i x c e)];exact I.freeC x c e
 pin:=fun p f=>by
  obtain⟨a,b,c⟩:=I.pin p f;exact⟨a,by rw[Qt (hp p f)];exact b,c⟩
 hok:=fun a u e=>by
  by_cases z:a=D
  ·subst z;rw[ZH]at e;cases e;exact ob
  ·rw[Qt z]at e;refine(I.hok a u e).stay (fun _ _ _ q=>q) (fun b q=>?_) (fun b h q=>?_)
   ·rw[Qt (fun y=>by rw[y,g]at q;cases q)];exact q
   ·rw[Qt (fun y=>by rw[y,g]at q;cases q)];exact q
 len:=I.len
section
variable{X:Cx}{elt tg iter:Expr}{ifs:List Expr}{scope:Scope}{pos:Pos}{cl:List (Str×Addr)}{Nb:List Str}{cp:List (Option Nat)}{wi:TI}{g:TG}{tt:TT}{te:TE}
theorem Cx.Ok.blk(B:BlkOk X scope cl Nb cp)(I:Inv X d σ H s)(f:∀b∈l,QaS X d H b)(i:∀b∈l,b<s.heap.objs.size)(j:s.heap.objs.size<=C) :
  (blk X scope cl Nb s H C l p).Ok where
 mod:=I.ok.mod
 kind:=B.kind
 glob:=I.ok.glob
 blt:=I.ok.blt
 above:=j
 inj:=fun x y c n m=>I.ok.inj x y c (B.sub x c n) (B.sub y c m)
 has:=fun x h=>B.has x h
 cab:=fun x c h=>absurd h (by simp)
 hd:=I.ok.hd
 frames:=I.ok.frames
 stk:=.inl rfl
 exf:=fun b a=>⟨fun z=>by have:=i b a;rw[z]at this;exact absurd j (IC.mpr this),fun x c e=>(f b a).2.2.2.2.1 x c (B.sub x c e)⟩
 bs:=I.bs
 bsz:=Nu I.ok.bsz I.sz
 noex:=fun b o e a=>by
  rcases(f b a).2.2.2.1 with z|z
  ·exact I.ok.noex b o e z
  ·exact sz e (Nu I.ok.bsz z) rfl
 exfs:=fun b a z=>by
  have:=I.stkSub b z
  rcases Nx.mp this with q|q
  ·exact(f b a).2.1 q
  ·exact(f b a).2.2.1 q
 funs:=I.stack
 frf:=fun b a=>I.stkFree b a
theorem QcA{cp:List (Option Nat)}{σ:L2.St}{i:Nat}{v:V}(e:(W1 cp σ)[i]?=some (some v)):∃j,cp[i]?=some (some j)/\σ[j]?=some (some v):=by
 unfold W1 at e;rw[Nq]at e;obtain⟨o,b,a⟩:=Nf.mp e;cases o with
 |none=>cases a
 |some j=>
  refine⟨j,b,?_⟩;simp only at a;split at a
  ·rename_i u hu;rw[hu,a]
  ·cases a
theorem Inv.blk{H:Hp}{C:Addr}{M:List Addr}{tk:Nat}(B:BlkOk X scope cl Nb cp)(I:Inv X f σ H s)(N:∀b∈M,QaS X f H b)(F:∀b∈M,b<s.heap.objs.size)
  (G:s.heap.objs.size<=C) (D:h'.Ns C m) (y:∀b o,s.heap.get? b=some o->h'.get? b=some o):Inv (Mi.blk X scope cl Nb s H C M (X.pn++f)) [] (W1 cp σ) H { s with heap:=h',toks:=tk } where
 ok:=Cx.Ok.blk B I N F G
 os:=rfl
 bare:=I.bare
 base:=Un.kept y
 loc:=by
  refine⟨m,D,fun i x v hN e Y=>?_⟩;obtain⟨j,R,Q⟩:=QcA e;obtain⟨P,t,E,w⟩:=B.cap i j x R hN;obtain⟨U,T,lk⟩:=I.loc;obtain⟨u,r,l⟩:=lk j x v P Q t;refine⟨u,r,?_⟩
  rcases l with⟨h,_⟩|⟨_,c,O,n⟩
  ·rcases E with z|z<;>rw[z]at h<;>cases h
  ·refine .inr ⟨w,?_⟩;obtain⟨S,A⟩:=B.has x w;have:=B.sub x S A;rw[O]at this;cases this
   exact⟨c,A,by
    obtain⟨o,L,J⟩:=n
    exact⟨o,y _ _ L,J⟩⟩
 cell:=fun x c e=>by
  obtain⟨v,o,L,J⟩:=I.cell x c (B.sub x c e);exact⟨v,o,y _ _ L,J⟩
 free:=I.hok.fresh G
 freeC:=fun x c e=>I.freeC x c (B.sub x c e)
 pin:=fun p hp=>by
  rw[N9]at hp;obtain⟨a,b,c,d,e⟩:=I.pin p hp;refine⟨y _ _ a,b,fun z=>?_,fun z=>?_,e⟩
  ·have:=No a;rw[z]at this;exact absurd G (IC.mpr this)
  ·rcases Nx.mp (I.stkSub _ z)with q|q
   ·exact c q
   ·exact d q
 hok:=I.hok.kept y
 len:=by unfold W1;rw[Nw];exact B.len
def Qk2(X:Cx)(a:List (Addr×Obj))(σ:L2.St)(use:Option (Value->Sem Unit))(Q:VK)(Q':Value->Shared->Prop):Prop:=
 ∀(D C:Addr) (d:Hp) (b:Shared) (m:Str->Option Value),Inv X a σ d b->b.heap.Ns C m->d C=none->¬C=X.env.locals->X.s₀.heap.objs.size<=C->(∀x c,X.env.cells.lookup x=some c->c≠C)->(∀p∈X.pn++a,p.1≠C)->Q (.ref D) d ->
  compPost (model X.prog X.w) X.A X.xe use Q' (.ref D) C (.ok .next) b
theorem Gn(hc:X.calm=true)(B:BlkOk X scope cl Nb cp)(hi:PI X tg iter wi)(hg:∀O P C ex pn,PG (Mi.blk X scope cl Nb O P C ex pn) tg g)
  (ht:∀O P C ex pn,∀(j:List (Addr×Obj)) (s:Shared) (Y:L2.St) (H:Hp) (Q:Bool->Hp->Prop),Inv (Mi.blk X scope cl Nb O P C ex pn) j Y H s->tt Y H Q ->
   wpAny (model X.prog X.w) X.A (forIn ifs true fun c r=>if r=true then do let ok <-isTrue c (compEnvC scope cl C X.env) (eval c (compEnvC scope cl C X.env));pure (ForInStep.yield ok)else pure (ForInStep.yield r)) (TP (Mi.blk X scope cl Nb O P C ex pn) j Y Q) (fun _ _=>False) s)
  (he:∀O P C ex pn,PE (Mi.blk X scope cl Nb O P C ex pn) elt te) (hs:∀x,foldedSetIterable iter X.env x=pure x)
  (I:Inv X j σ H s) (h:Qdr wi cp g tt te σ H Q) (a1:Qk2 X j σ use Q Q') :
  wpAny (model X.prog X.w) X.A (comprehension (.ListComp elt [⟨tg,iter,ifs,0⟩] scope pos) scope X.env bn (newList []) false (eval iter X.env) use) Q' X.xe s:=by
 refine wpAny_comprehension_free (use:=use) rfl hs B.clos B.kind B.names (NO (hi j s σ H _ I h) (fun xv bm S=>NO S (fun bo f ay=>?_) fun _ _ e=>e) fun _ _ e=>e);obtain⟨it,fp,tn,J,U,rfl,I2,T,st2,f2,W,⟨m0,w0⟩,av⟩:=ay
 have aq:∀b∈fp,b<f.heap.objs.size:=fun b E=>by
  obtain⟨o,e,_⟩:=T.obj _ _ st2 b E;exact No e
 refine Ep (wpAny_newFunctionEnv B.cell (by intro y hy;simp at hy) (fun S M F=>?_) B.kind);dsimp only at M F ⊢;generalize ar:f.heap.push { cls:=.type "list",dict:=none,data:=.seq ([]:List Value).toArray }=G2 at M F ⊢;have aj:G2.objs.size=f.heap.objs.size+1:=by rw[<-ar,Dz]
 generalize be:G2.objs.size=C at M F ⊢;rw[be]at aj;have aa:f.heap.objs.size<=C:=by exact Nu (NW _ _) (NH aj.symm)
 have ag:f.heap.objs.size≠C:=by exact NG (Nm (Ev _) (NH aj.symm))
 have old:∀b o,f.heap.get? b=some o->S.get? b=some o:=fun b o e=>F.extBut b o (sz e aa) (Nl _ (ar▸Nl _ e));have al:S.get? f.heap.objs.size=some { cls:=.type "list",data:=.seq ([]:List Value).toArray }:=F.extBut _ _ ag (Nl _ (ar▸Ny _ rfl));generalize hD:f.heap.objs.size=D at al ag aa aj ⊢;have m:f.heap.objs.size<=D:=NH hD;have N:f.heap.objs.size<=C:=Nu m aa
 -- aw a6 context
 have I3:=Inv.blk (tk:=f.toks+([]:List (Str×Value)).length) B I2 f2 aq (C:=C) (Nu (NH hD) aa) M old;have am:D∉fp:=fun z=>Ed _ (Nm (aq D z) m);have a2:C∉fp:=fun z=>Ed _ (Nm (aq C z) N)
 -- D in aw block: not a a3,not a a8,not pinned
 have au:∀x c,cl.lookup x=some c->c≠D:=fun x c e z=>by
  obtain⟨v,o,h3,_⟩:=I2.cell x c (B.sub x c e);exact sz h3 m z
 have an:∀p∈X.pn++j,p.1≠D:=fun p hp z=>sz (I2.pin p hp).1 m z;have a5:∀p∈X.pn++j,p.1≠C:=fun p hp z=>sz (I2.pin p hp).1 N z
 have bg:D∉frs X.stack:=fun z=>by
  rcases Nx.mp (I2.stkSub _ z)with q|q
  ·exact Ed _ (Nm (q▸I2.lt:D<f.heap.objs.size) m)
  ·exact I2.nofs m q
 have ah:∀{t:Hp} {pl:List (Addr×Obj)},(∀b∈fp,t b=none)->(∀p∈pl,p.1=D)->∀b∈fp,QaS (Mi.blk X scope cl Nb f U C fp (X.pn++j)) pl t b:=fun {t pl} hn bb b E=>
  ⟨hn b E,fun(z:b=C)=>a2 (z▸E),fun z=>by
   rcases Nx.mp (I2.stkSub _ z)with q|q
   ·exact(f2 b E).2.1 q
   ·exact(f2 b E).2.2.1 q,.inl E,fun x c e=>(f2 b E).2.2.2.2.1 x c (B.sub x c e),fun p hp z=>by
   rcases NK.mp hp with q|q
   ·exact(f2 b E).2.2.2.2.2 p q z
   ·rw[bb p q]at z;exact am (z▸E)⟩
 have bp:∀{t:Hp},(∀b∈fp,t b=none)->∀b∈fp,QaS X j t b:=fun hn b E=>⟨hn b E,(f2 b E).2⟩
 -- aw end
 have fin:∀{Y:L2.St} {t:Hp} {L:Shared} {G:List V} {l:List Value} {n:Nat} {mC:Str->Option Value},Inv (Mi.blk X scope cl Nb f U C fp (X.pn++j)) [] Y t L->t D=none->L.heap.get? D=some { cls:=.type "list",data:=.seq l.toArray n }->Vals G l->G.length<=sizeLine->L.heap.Ns C mC ->
   (∀D,t D=none->Q (.ref D) (upd t D (.lst G)))->compPost (model X.prog X.w) X.A X.xe use Q' (.ref D) C (.ok .next) L:=by
  intro Y t L G l n mC Ib ai as r hz bc q;have Ie:Inv X j σ t L:=I2.call' (ch:=fp) (Ib.os) Ib.base Ib.hok Ib.bare fun b E=>⟨(f2 b E).2.2.2.1,(f2 b E).2.1,(f2 b E).2.2.2.2.1,(f2 b E).2.2.2.2.2⟩
  have az:X.s₀.heap.objs.size<=f.heap.objs.size:=I2.sz
  have It:Inv X j σ (upd t D (.lst G)) L:=Inv.track Ie ai (Nu az m) (fun z=>Ed _ (Nm (z▸I2.lt:D<f.heap.objs.size) m)) (fun x c e z=>by
   obtain⟨v,o,h3,_⟩:=I2.cell x c e
   exact sz h3 m z) an ⟨hz,l,n,r,as⟩
  exact a1 D C _ L mC It bc (by rw[Qt (EF ag)];exact Ib.free) (fun z=>Ed _ (Nm (z▸I2.lt:C<f.heap.objs.size) N)) (Nu az N) (fun x c e z=>by
   obtain⟨v,o,h3,_⟩:=I2.cell x c e
   exact sz h3 N z) a5 (q D ai)
 have ak:∀ae:Shared,ae={ f with heap:=S,toks:=f.toks+([]:List (Str×Value)).length } ->
   codeAny (model X.prog X.w) X.A (.compLoop (.ListComp elt [⟨tg,iter,ifs,0⟩] scope pos) 0 (.ref it) (.ref D) (compEnvC scope cl C X.env))
    (compPost (model X.prog X.w) X.A X.xe use Q' (.ref D) C) ae:=by
  rintro ae rfl
  refine UK (fun n L=>∃i Y t G l k,Inv (Mi.blk X scope cl Nb f U C fp (X.pn++j)) [] Y t L/\tn i L.heap/\(∀b∈fp,t b=none)/\t D=none/\L.heap.get? D=some { cls:=.type "list",data:=.seq (l:List Value).toArray k }/\Vals G l/\G.length<=sizeLine/\W i n G Y t) ?_ m0
   ⟨0,W1 cp σ,U,[],[],_,I3,T.keep _ _ _ st2 (fun b E o e=>old b o e),fun b E=>(f2 b E).1,I2.hok.fresh m,al,.nil,NT _,w0⟩
  rintro n s3 ⟨i,Y,H3,G,l,k,Ib,st3,a4,ai,as,r3,ap,w3⟩
  have ax:∀{R:L2.St} {t:Hp} {L:Shared},Inv (Mi.blk X scope cl Nb f U C fp (X.pn++j)) [] R t L->t D=none->L.heap.get? D=some { cls:=.type "list",data:=.seq l.toArray k } ->
    Inv (Mi.blk X scope cl Nb f U C fp (X.pn++j)) [(D,{ cls:=.type "list",data:=.seq l.toArray k })] R t L:=fun {R t L} I' hn ho=>I'.pins_of fun p hp=>by
   rw[NI]at hp;subst hp;exact⟨ho,hn,ag,bg,by intro v;simp⟩
  have a7:=ax Ib ai as;have Z:∀p∈[(D,({ cls:=.type "list",data:=.seq l.toArray k }:Obj))],p.1=D:=fun p hp=>by rw[NI]at hp;subst hp;rfl
  have a9:∀{R:L2.St} {t:Hp} {L:Shared},Inv (Mi.blk X scope cl Nb f U C fp (X.pn++j)) [(D,{ cls:=.type "list",data:=.seq l.toArray k })] R t L->L.heap.get? D=some { cls:=.type "list",data:=.seq l.toArray k }/\t D=none:=fun I'=>by
   obtain⟨a,b,_⟩:=I'.pin (D,_) (NJ _ (NI.mpr rfl));exact⟨a,b⟩
  rcases av i n G Y H3 w3 with⟨stop,qn⟩|⟨go,step⟩
  ·refine NO (T.done (Mi.blk X scope cl Nb f U C fp (X.pn++j)) rfl rfl rfl hc i _ s3 Y H3 (fun _ _=>False) a7 (ah a4 Z) st3 stop) (fun r s4 ⟨hr,I4⟩=>?_) fun _ _ z=>z.elim;subst hr;obtain⟨o4,n4⟩:=a9 I4;obtain⟨m4,ba,_⟩:=I4.loc;have bj:Inv (Mi.blk X scope cl Nb f U C fp (X.pn++j)) [] Y H3 s4:=I4.pins_of fun p hp=>by cases hp
   exact fin bj n4 o4 r3 ap ba qn
  ·refine NO (T.item (Mi.blk X scope cl Nb f U C fp (X.pn++j)) rfl rfl rfl hc i _ s3 Y H3 (fun _ _=>False) a7 (ah a4 Z) st3 go) (fun r s4 ⟨u,hr,h4⟩=>?_) fun _ _ z=>z.elim;subst hr;refine NO h4 (fun _ s5 z1=>?_) fun _ _ z=>z.elim;obtain⟨x,H5,I5,r5,y5,ao,bf⟩:=z1;have bi:=I5.pinned (ah bf Z) (T.obj _ _ ao);refine NO (hg f U C fp (X.pn++j) _ s5 Y H5 x u _ bi r5 (step x H5 y5)) (fun _ s6 ⟨ab,H6,I6,q6⟩=>?_) fun _ _ z=>z.elim;refine NO (ht f U C fp (X.pn++j) _ s6 ab H6 _ I6 q6) (fun ok s7 ⟨H7,I7,q7⟩=>?_) fun _ _ z=>z.elim
   have af:∀{R:L2.St} {t:Hp} {L:Shared},Inv (Mi.blk X scope cl Nb f U C fp (X.pn++j)) ([(D,{ cls:=.type "list",data:=.seq l.toArray k })]++WS fp s5.heap) R t L->tn (i+1) L.heap/\(∀b∈fp,t b=none)/\L.heap.get? D=some { cls:=.type "list",data:=.seq l.toArray k }/\t D=none:=fun {R t L} I'=>by
    refine⟨T.keep _ _ _ ao fun b E o e=>(I'.pin (b,o) (NJ _ (NJ _ (VG E e)))).1,fun b E=>?_,?_⟩
    ·obtain⟨o,e,d⟩:=T.obj _ _ ao b E;exact(I'.pin (b,o) (NJ _ (NJ _ (VG E e)))).2.1
    ·obtain⟨a,b,_⟩:=I'.pin (D,{ cls:=.type "list",data:=.seq l.toArray k }) (NJ _ (Ek _ (NI.mpr rfl)));exact⟨a,b⟩
   cases ok with
   |false=>
    rw[if_neg N3]at q7 ⊢;obtain⟨m',hm,w7⟩:=q7;obtain⟨t7,f7,o7,n7⟩:=af I7;exact⟨m',hm,i+1,ab,H7,G,l,k,I7.pins_of (fun p hp=>by cases hp),t7,f7,n7,o7,r3,ap,w7⟩
   | true=>
    rw[if_pos rfl]at q7 ⊢;refine NO (he f U C fp (X.pn++j) _ s7 ab H7 _ I7 q7) (fun y s8 z1=>?_) fun _ _ z=>z.elim;obtain⟨v8,H8,I8,r8,bd,m',hm,w8⟩:=z1;obtain⟨t8,f8,o8,n8⟩:=af I8;have a0:=r3.length;refine Dl D2 ⟨_,o8,rfl⟩ IM (Iz _ _) (Lh D l.toArray k y (by rw[Nk];exact Nu (NH a0.symm) ap)) ⟨o8,?_⟩;have q:=LD o8 (·.push y);have hf:l.toArray.push y=(l++[y]).toArray:=by simp
    rw[hf]at q;have bh:Inv (Mi.blk X scope cl Nb f U C fp (X.pn++j)) [] ab H8 s8:=I8.pins_of fun p hp=>by cases hp
    have I9:Inv (Mi.blk X scope cl Nb f U C fp (X.pn++j)) [] ab H8 { s8 with heap:=s8.heap.update D (Obj.mapSeq (·.push y)),toks:=s8.toks }:=
     bh.turned (it:=D) (fun b o E e=>(ED s8.heap (Obj.mapSeq (·.push y)) (EF E)).trans e) n8 ag (.inr m) (fun x c e=>au x c e) fun p hp=>by
      rw[N9]at hp;exact an p hp
    refine⟨m',hm,i+1,ab,H8,G++[v8],l++[y],_,I9,T.keep _ _ _ t8 (fun b E o e=>(ED s8.heap (Obj.mapSeq (·.push y)) (fun(z:D=b)=>am (z▸E))).trans e),f8,n8,q,r3.append (.cons r8 .nil),by rw[NC,EI];exact bd,w8⟩
 exact codeAny_compStart_list (ak _ rfl) (T.self _ 0 _ _ _ (T.keep _ _ _ st2 (fun b E o e=>old b o e)) (ak _ rfl))
theorem QgE(J:X.calm=true)(B:BlkOk X scope cl Nb cp)(E:PI X tg iter wi)(F:∀a d C l j,PG (Mi.blk X scope cl Nb a d C l j) tg g)
  (v:∀a d C l j,∀(f:List (Addr×Obj)) (s:Shared) (n:L2.St) (H:Hp) (Q:Bool->Hp->Prop),Inv (Mi.blk X scope cl Nb a d C l j) f n H s->tt n H Q ->
   wpAny (model X.prog X.w) X.A (forIn ifs true fun c r=>if r=true then do let ok <-isTrue c (compEnvC scope cl C X.env) (eval c (compEnvC scope cl C X.env));pure (ForInStep.yield ok)else pure (ForInStep.yield r)) (TP (Mi.blk X scope cl Nb a d C l j) f n Q) (fun _ _=>False) s)
  (G:∀a d C l j,PE (Mi.blk X scope cl Nb a d C l j) elt te) (y:∀x,foldedSetIterable iter X.env x=pure x:=by intro _;rfl) :
  PE X (.ListComp elt [⟨tg,iter,ifs,0⟩] scope pos) (Qdr wi cp g tt te):=by
 intro f s S H Q I h;rw[eval_ListComp];refine Gn J B E F v G y I h fun D C R u m P p z M N i hp q=>⟨m,p,fun O t=>?_⟩
 exact⟨.ref D,R,P.turned (t':=u.toks) (it:=C) (fun b o L e=>t.extBut b o L e) z M (.inr N) i hp,rfl,q⟩
theorem Qct(hN:X.N.Nodup)(O:X.N[i]?=some x)(U:Loc X.env.scope x)(hf:X.fn x=true\/X.env.scope.names.lookup x=some .local)(J:swapsWith (.ListComp elt [⟨tg,iter,ifs,0⟩] scope pos) (some (.Name x j)) u.line X.env=pure true)
  (hc:X.calm=true) (B:BlkOk X scope cl Nb cp) (hi:PI X tg iter wi) (hg:∀d f C t p,PG (Mi.blk X scope cl Nb d f C t p) tg g)
  (Y:∀d f C t p,∀(l:List (Addr×Obj)) (s:Shared) (F:L2.St) (H:Hp) (Q:Bool->Hp->Prop),Inv (Mi.blk X scope cl Nb d f C t p) l F H s->tt F H Q ->
   wpAny (model X.prog X.w) X.A (forIn ifs true fun c r=>if r=true then do let ok <-isTrue c (compEnvC scope cl C X.env) (eval c (compEnvC scope cl C X.env));pure (ForInStep.yield ok)else pure (ForInStep.yield r)) (TP (Mi.blk X scope cl Nb d f C t p) l F Q) (fun _ _=>False) s)
  (he:∀d f C t p,PE (Mi.blk X scope cl Nb d f C t p) elt te) (Z:∀x,foldedSetIterable iter X.env x=pure x:=by intro _;rfl) :
  PS X (.Assign [.Name x j] (.ListComp elt [⟨tg,iter,ifs,0⟩] scope pos) u) (Qji (Qdr wi cp g tt te) (QaX i)):=by
 intro l s σ H D I h;rw[exec_Assign_Name_used _ _ _ _ J];refine Nc (DP (Nc ?_));show wpAny _ X.A (do let _ <-comprehension (.ListComp elt [⟨tg,iter,ifs,0⟩] scope pos) scope X.env _ (newList []) false (eval iter X.env) (some (assign (.Name x j) X.env))) _ _ s;refine Nc (NO (Gn (use:=some (assign (.Name x j) X.env)) (Q':=fun _ E=>SP X l D .next E) hc B hi hg Y he Z I h fun R C H' E m I' L hn P h0 n hp q=>?_) (fun _ E hq=>Nh (Nh hq)) fun _ _ e=>e);show wpAny _ X.A (assign (.Name x j) X.env (.ref R)) _ _ E;refine Le (W7 (v:=.ref R) I' hN O U rfl (fun T I5 ⟨a,S,y⟩=>?_) hf)
 have M:C≠a:=fun z=>by
  rcases y with y|y
  ·exact P (z.trans y)
  ·exact n x a y z.symm
 exact⟨m,L.sameBut S M,fun aa G=>⟨_,H',I5.turned (t':=T.toks) (it:=C) (fun b o hb e=>G.extBut b o hb e) hn P (.inr h0) n hp,q⟩⟩
end
def IterR(X:Cx)(c:Expr)(r:V->Hp->(It->Hp->Prop)->Prop):Prop:=
 ∀(a:List (Addr×Obj)) (s:Shared) (b:L2.St) (H:Hp) (x:V) (v:Value) (C:It->Hp->Prop),Inv X a b H s->RelV x v->r x H C->wpAny (model X.prog X.w) X.A (pyIter v) (PIE X a b c C) X.xe s
section
variable{X:Cx}{tg:Expr}
theorem IterR.or(h:IterR X tg r)(h':IterR X tg d):IterR X tg (fun x H C=>r x H C\/d x H C):=fun a s b H x v C I c q=>by
 rcases q with q|q
 ·exact h a s b H x v C I c q
 ·exact h' a s b H x v C I c q
theorem it_list:IterR X tg (fun x H C=>∃a,x=.ref a/\(∃xs,SqL X.K H a xs)/\C (Itl X.K a) H):=by
 intro d c l j x v C I1 f q1;obtain⟨a,e,⟨xs,h⟩,q⟩:=q1;subst e;cases f;obtain⟨g,n,p,r⟩:=I1.list h;refine DJ p.isList ?_;refine⟨c.heap.objs.size,[c.heap.objs.size],_,_,j,rfl,I1.kept (t':=c.toks) fun b o e=>Nl _ e,QbC a _,⟨_,Ny _ rfl,rfl,rfl⟩,fun b i=>?_,q⟩;have e:b=c.heap.objs.size:=by simpa using i
 subst e;exact I1.fpOk (Nn _) (I1.hok.fresh (Nn _))
theorem QhK:IterR X tg (fun x H C=>∃a,x=.ref a/\(∃xs,SqT X.K H a xs)/\C (Itt X.K a) H):=by
 intro f c l j x v C I1 g q1;obtain⟨a,e,⟨xs,h⟩,q⟩:=q1;subst e;cases g;obtain⟨d,n,p,r⟩:=I1.tuple h;refine wpAny_pyIter_tuple (show c.heap.IsTuple a d.toArray from p) ?_;refine⟨c.heap.objs.size,[c.heap.objs.size],_,_,j,rfl,I1.kept (t':=c.toks) fun b o e=>Nl _ e,QaD a _,⟨_,Ny _ rfl,rfl,rfl⟩,fun b i=>?_,q⟩;have e:b=c.heap.objs.size:=by simpa using i
 subst e;exact I1.fpOk (Nn _) (I1.hok.fresh (Nn _))
noncomputable def Its(x:Str):It:=⟨fun i _=>i<x.cps.size,fun i H v a=>a=H/\∃c,x.cps[i]?=some c/\v=.str ⟨#[c]⟩,fun i _=>x.cps.size<=i⟩
noncomputable def Ub(x:Str):List W:=x.cps.toList.map fun c=>.str ⟨#[c]⟩
theorem Qc9{P:Program}{w:World}{K:Nd}{tg:Expr}(it:Addr)(x:Str)(ty:String)(t:Tok)(f:ty="str_ascii_iterator"\/ty="str_iterator") :
  Turn P w K tg (Its x) [it] it (fun i h=>i<=x.cps.size/\h.IsStrIter it ty x t i) where
 mem:=by simp
 obj:=fun i h st b j=>by
  have e:b=it:=by simpa using j
  subst e;obtain⟨_,o,e,c,d⟩:=st;exact⟨o,e,fun v z=>by rw[d]at z;cases z⟩
 keep:=fun i h l st k=>⟨st.1,let⟨o,T,r⟩:=st.2;⟨o,k it (by simp) o T,r⟩⟩
 item:=by
  intro X L hw M J i a s G H E I q st p;subst L hw M;obtain⟨U,st⟩:=st;obtain⟨F,f1,f2,D,C,B⟩:=q it (by simp);have g:i<x.cps.size:=p;have m:x.cps[i]?=some (x.cps[i]'g):=NN g
  have fin:∀l:Heap,l.IsStrIter it ty x t (i+1)->Heap.SameBut it s.heap l->∃u,some (Value.str ⟨#[x.cps[i]'g]⟩ s.toks)=some u/\wpAny (model X.prog X.w) X.A (letOwnedTupleGo tg (.ref it) u) (fun _ Q=>∃y O,Inv X a G O Q/\RelV y u/\(Its x).yld i H y O/\(i+1<=x.cps.size/\Q.heap.IsStrIter it ty x t (i+1))/\∀b∈[it],O b=none) E { s with heap:=l,toks:=s.toks+1 }:=fun l n S=>by
   have I1:Inv X a G H { s with heap:=l,toks:=s.toks+1 }:=I.turned (fun b o j e=>(S.2 b j).trans e) F f1 D C B;obtain⟨o,e,c,d⟩:=id n;refine⟨_,rfl,Qba (s:={ s with heap:=l,toks:=s.toks+1 }) e c d (by rcases f with z|z<;>rw[z]<;>decide) ⟨.str ⟨#[x.cps[i]'g]⟩,H,I1,⟨_,rfl⟩,⟨rfl,_,m,rfl⟩,⟨p,n⟩,fun b j=>(q b j).1⟩⟩
  rcases f with z|z
  ·subst z;exact wpAny_pyNext_ascii_item st m fin
  ·subst z;exact wpAny_pyNext_wide_item st m fin
 done:=by
  intro X L hw M J i a s G H E I q st p;subst L hw M;obtain⟨U,st⟩:=st;obtain⟨F,f1,f2,D,C,B⟩:=q it (by simp);have m:x.cps[i]?=none:=by have:x.cps.size<=i:=p;simp;exact this
  rcases f with z|z
  ·subst z;exact wpAny_pyNext_ascii_end (I.ok.hd J) st m fun l N=>⟨rfl,I.turned (t':=s.toks) (fun b o j e=>N b o j e) F f1 D C B⟩
  ·subst z;exact wpAny_pyNext_wide_end (I.ok.hd J) st m fun l N=>⟨rfl,I.turned (t':=s.toks) (fun b o j e=>N b o j e) F f1 D C B⟩
 self:=fun _ _ _ _ _ st h=>by
  rcases f with z|z
  ·subst z;exact wpAny_pyIter_striter_ascii st.2 h
  ·subst z;exact wpAny_pyIter_striter_wide st.2 h
theorem Qiu:IterR X tg (fun x H C=>∃y,x=.str y/\C (Its y) H):=by
 intro c a g j x v C I1 h q1;obtain⟨y,rfl,q⟩:=q1;obtain⟨t,rfl⟩:=h
 have fin:∀ty,(ty="str_ascii_iterator"\/ty="str_iterator")->PIE X c g tg C (.ref a.heap.objs.size) { a with heap:=a.heap.push { cls:=.type ty,data:=.fields #[.str y t,.int 0 0] } }:=fun ty d=>by
  refine⟨a.heap.objs.size,[a.heap.objs.size],_,_,j,rfl,I1.kept (t':=a.toks) fun b o e=>Nl _ e,Qc9 _ y ty t d,⟨NT _,_,Ny _ rfl,rfl,rfl⟩,fun b i=>?_,q⟩;have e:b=a.heap.objs.size:=by simpa using i
  subst e;exact I1.fpOk (Nn _) (I1.hok.fresh (Nn _))
 cases f:y.cps.all (·<128)
 ·exact wpAny_pyIter_wide f (fin _ (.inr rfl))
 ·exact wpAny_pyIter_ascii f (fin _ (.inl rfl))
end
noncomputable def GJ(h:MH):W->Option (List W×Option Src)
 |.tup ws=>some (ws,none)
 |.lst ws=>some (ws,none)
 |.frz ws=>some (ws,none)
 |.str x=>some (Ub x,none)
 |.ref n=>match h[n]? with|some (.lst ws)=>some (ws,some (.l n))|_=>none
 |_=>none
noncomputable def Jw(m:ME):MI:=fun a h=>(m a h).bind fun p=>(GJ p.2 p.1).map fun q=>(q.1,q.2,p.2)
section
variable{K:Nd}{R:Rn}
theorem WU(d:SqL K R.F a xs)(r:Rws K R ws xs):ItOk K R (Itl K a) ws none where
 go:=fun i w j h H x c _ e=>by
  obtain⟨v,g,_⟩:=r.get e;exact⟨xs,v,Za (fun b o z=>c.sub b o (x.f b o z)) d,g⟩
 yld:=fun i w j h H x s e c _ q l=>by
  obtain⟨rfl,m⟩:=l;obtain⟨v,g,p⟩:=r.get q;have:=m xs (Za (fun b o z=>c.sub b o (e.f b o z)) d);rw[g]at this;cases this;exact⟨j,Ext.refl _,c,Rw.mono e _ _ p⟩
 stop:=fun i j h H x c _ n=>⟨xs,Za (fun b o z=>c.sub b o (x.f b o z)) d,by rw[<-r.length];exact n⟩
theorem Qdo(d:SqT K R.F a xs)(r:Rws K R ws xs):ItOk K R (Itt K a) ws none where
 go:=fun i w j h H x c _ e=>by
  obtain⟨v,g,_⟩:=r.get e;exact⟨xs,v,JD (fun b o z=>c.sub b o (x.f b o z)) d,g⟩
 yld:=fun i w j h H x s e c _ q l=>by
  obtain⟨rfl,m⟩:=l;obtain⟨v,g,p⟩:=r.get q;have:=m xs (JD (fun b o z=>c.sub b o (e.f b o z)) d);rw[g]at this;cases this;exact⟨j,Ext.refl _,c,Rw.mono e _ _ p⟩
 stop:=fun i j h H x c _ n=>⟨xs,JD (fun b o z=>c.sub b o (x.f b o z)) d,by rw[<-r.length];exact n⟩
theorem Qdh(g:n<R.N):ItOk K R (Itl K (R.ρ n)) ws (some (.l n)) where
 go:=fun i w o h H x b d e=>by
  obtain⟨c,a,f⟩:=b.obj n _ (d (.l n) rfl);obtain⟨v,m,_⟩:=f.get e;rw[x.ρ n g]at a;exact⟨c,v,SqL.of a,m⟩
 yld:=fun i w o h H x t e b d s p=>by
  obtain⟨rfl,q⟩:=p;obtain⟨c,a,f⟩:=b.obj n _ (d (.l n) rfl);obtain⟨v,m,r⟩:=f.get s;rw[e.ρ n g]at a;have:=q c (SqL.of a);rw[m]at this;cases this;exact⟨o,Ext.refl _,b,r⟩
 stop:=fun i o h H x b d j=>by
  obtain⟨c,a,f⟩:=b.obj n _ (d (.l n) rfl);rw[x.ρ n g]at a;exact⟨c,SqL.of a,by rw[<-f.length];exact j⟩
theorem QcS:ItOk K R (Its x) (Ub x) none where
 go:=fun i w b h H _ _ _ e=>by
  have:=(Ng.mp e).1;show i<x.cps.size;simpa[Ub]using this
 yld:=fun i w b h H v l e d _ a f=>by
  obtain⟨rfl,c,j,rfl⟩:=f;unfold Ub at a;rw[Nq,Ee,j]at a;cases a;exact⟨b,Ext.refl _,d,Rw.str _⟩
 stop:=fun i b h H _ _ _ g=>by
  show x.cps.size<=i;simpa[Ub]using g
theorem YR{lo:Int}:ItOk K R (Itr lo n) ((List.range n).map fun(i:Nat)=>W.int (lo+(i:Int))) none where
 go:=fun i w b h H _ _ _ e=>by
  have:=(Ng.mp e).1;show i<n;simpa using this
 yld:=fun i w b h H v m e d _ c f=>by
  obtain⟨rfl,rfl⟩:=f;rw[Nq]at c;obtain⟨j,a,l⟩:=Nf.mp c;rw[Er (by have:=(Ng.mp a).1;simpa using this)]at a;cases a;cases l;exact⟨b,Ext.refl _,d,Rw.int _⟩
 stop:=fun i b h H _ _ _ g=>by
  show n<=i;simpa using g
end
section
variable{X:Cx}{tg a b c:Expr}{ma:ME}{ms:MA}{pos p:Pos}
theorem V1(O:PM X a ma):PMI X tg a (Jw ma):=by
 intro j s E H C I q;obtain⟨R,u,h,items,F,h',J,st,e,k⟩:=q;obtain⟨⟨w,Q⟩,Y,U⟩:=Na.mp e;obtain⟨⟨M,Z⟩,i,T⟩:=Nf.mp U;cases T;refine thn (O j s E H _ I ⟨R,u,h,w,Q,J,st,Y,fun R1 m v o d g=>?_⟩) fun v G ⟨x,m,I1,L,q1⟩=>((it_list.or QhK).or Qiu) j G E m x v C I1 L q1;cases w with
 |tup A=>
  cases i;obtain⟨ad,z,rfl,D,P⟩:=d.tupAt g;unfold Rw at g;obtain⟨t,f,S,l,r⟩:=g;cases S;exact .inl (.inr ⟨_,rfl,⟨z,D⟩,k R1 m _ o d (Qdo l r)⟩)
 |lst A=>
  cases i;unfold Rw at g;obtain⟨t,f,rfl,l,r⟩:=g;exact .inl (.inl ⟨_,rfl,⟨f,SqL.of (d.sub _ _ l)⟩,k R1 m _ o d (WU (SqL.of l) r)⟩)
 |frz A=>
  cases i;unfold Rw at g;obtain⟨t,f,rfl,l,r⟩:=g;exact .inl (.inl ⟨_,rfl,⟨f,Za d.sub l⟩,k R1 m _ o d (WU l r)⟩)
 |str y=>
  cases i;rw[g.str_eq];exact .inr ⟨y,rfl,k R1 m _ o d QcS⟩
 |ref n=>
  simp only[GJ]at i;split at i
  ·rename_i A N;cases i;obtain⟨B,rfl,z,D,P⟩:=d.refAt g N;exact .inl (.inl ⟨_,rfl,⟨z,SqL.of D⟩,k R1 m _ o d (Qdh B)⟩)
  ·cases i
 |_=>cases i
noncomputable def Qw(lo:Int)(n:Nat):List W:=(List.range n).map fun(i:Nat)=>W.int (lo+(i:Int))
noncomputable def V9(ms:MA):MI:=fun d h=>(ms d h).bind fun p=>match p.1 with
 |[.int j]=>if -(2^62)<=j/\j<2^62 then some (Qw 0 j.toNat,none,p.2)else none
 |_=>none
noncomputable def Qhy(ms:MA):MI:=fun d h=>(ms d h).bind fun p=>match p.1 with
 |[.int i,.int j]=>if -(2^62)<=i/\i<2^62/\-(2^62)<=j/\j<2^62 then some (Qw i (j-i).toNat,none,p.2)else none
 |_=>none
theorem Xe(z:Gl X "range")(y:X.mg "range"=none)(A:PMA X [a] ms)(x:starEach [a] X.env=[(false,eval a X.env)]:=by rfl):PMI X tg (.Call (.Name "range" p) [a] [] pos) (V9 ms):=
 G5 (Qbw z y A x) fun F H C o=>by
  obtain⟨R,f,h,items,t,I,u,st,e,k⟩:=o;obtain⟨⟨r,B⟩,D,d⟩:=Na.mp e;refine⟨R,f,h,r,B,u,st,D,fun R1 E G q g i=>?_⟩;split at d
  ·rename_i j m;simp only at m;subst m;split at d
   ·rename_i n;cases d;rw[Rws.cons_iff]at i;obtain⟨v,s,rfl,w,l⟩:=i;rw[Rws.nil_iff]at l;subst l;rw[w.int_eq];exact⟨j,rfl,n.1,n.2,k R1 E _ q g YR⟩
   ·cases d
  ·cases d
theorem Qhz(E:Gl X "range")(D:X.mg "range"=none)(G:PMA X [a,b] ms)(B:starEach [a,b] X.env=[(false,eval a X.env),(false,eval b X.env)]:=by rfl)(l:starEach [b] X.env=[(false,eval b X.env)]:=by rfl):PMI X tg (.Call (.Name "range" p) [a,b] [] pos) (Qhy ms):=
 G5 (QaU E D G B l) fun M H C r=>by
  obtain⟨R,f,h,items,x,P,y,st,e,k⟩:=r;obtain⟨⟨t,I⟩,J,d⟩:=Na.mp e;refine⟨R,f,h,t,I,y,st,J,fun R1 L N s g m=>?_⟩;split at d
  ·rename_i i j q;simp only at q;subst q;split at d
   ·rename_i F;cases d;rw[Rws.cons_iff]at m;obtain⟨v,w,rfl,A,o⟩:=m;rw[Rws.cons_iff]at o;obtain⟨O,u,rfl,z,n⟩:=o;rw[Rws.nil_iff]at n;subst n;rw[A.int_eq,z.int_eq];exact⟨i,j,rfl,F,k R1 L _ s g YR⟩
   ·cases d
  ·cases d
end
noncomputable def QgP(cp:List (Option Nat))(σ:MSt):MSt:=cp.map fun o=>match o with|none=>none|some j=>match σ[j]? with|some v=>v|none=>none
theorem Rst.cap{K:Nd}(s:Rst K R b σ)(cp:List (Option Nat)):Rst K R (QgP cp b) (W1 cp σ):=by
 unfold QgP W1;refine⟨by simp,fun i w e=>?_⟩;rw[Nq]at e ⊢;obtain⟨o,f,a⟩:=Nf.mp e;rw[f];cases o with
 |none=>cases a
 |some j=>
  simp only at a;split at a
  ·rename_i u hu;subst a;obtain⟨v,d,c⟩:=s.2 j w hu;exact⟨v,by simp[d],c⟩
  ·cases a
open Classical in
noncomputable def ZN(fin:List W->MH->Option (W×MH))(items:List W)(src:Option Src)(b:MG)(mt:MT)(me:ME):List W->List W->MSt->MH->Option (W×MH)
 |[],a,_,h=>if live src items h then fin a h else none
 | w::r,a,d,h=>if live src items h then(b w d h).bind fun c=>(mt c h).bind fun q=>match q.1 with
   |true=>(me c q.2).bind fun v=>if a.length<sizeLine then ZN fin items src b mt me r (a++[v.1]) c v.2 else none
   |false=>ZN fin items src b mt me r a c q.2
  else none
noncomputable def Jh(fin:List W->MH->Option (W×MH))(mi:MI)(cp:List (Option Nat))(b:MG)(mt:MT)(me:ME):ME:=fun a h=>(mi a h).bind fun p=>ZN fin p.1 p.2.1 b mt me p.1 [] (QgP cp a) p.2.2
noncomputable def Yk:MT:=fun _ h=>some (true,h)
noncomputable def XL(a:List W)(h:MH):Option (W×MH):=some (.lst a,h)
def Qcc(K:Nd)(fin:List W->MH->Option (W×MH)):Prop:=∀R h H b a w d D,Rh K R h H->Rws K R b a->fin b h=some (w,d)->H D=none->∃c,Ext R c/\Rh K c d (upd H D (.lst a))/\Rw K c w (.ref D)
theorem V5{K:Nd}:Qcc K XL:=fun R h H d a w f D b r e c=>by
 cases e;exact b.lstI c r
section
variable{X:Cx}{elt tg iter c:Expr}{scope:Scope}{pos:Pos}{cl:List (Str×Addr)}{Nb:List Str}{cp:List (Option Nat)}{mi:MI}{b:MG}{mt:MT}{me:ME}{fin:List W->MH->Option (W×MH)}
theorem Gc{K:Nd}(hf:Qcc K fin)(q:tI K (Jh fin mi cp b mt me) σ H Q):Qdr (tII K mi) cp (tIG K b) (tIT K mt) (tI K me) σ H Q:=by
 obtain⟨R,B,h,w,h',rh,s,e,k⟩:=q;obtain⟨⟨items,E,h1⟩,e1,e2⟩:=Na.mp e;refine⟨R,B,h,items,E,h1,rh,s,e1,fun R1 H1 J x1 Y it=>?_⟩;refine⟨fun i n z τ H=>i+n=items.length/\∃R2 g o a,Ext R1 R2/\Rh K R2 o H/\Rst K R2 g τ/\Rws K R2 a z/\ZN fin items E b mt me (items.drop i) a g o=some (w,h')/\After K R2 w h' Q,⟨items.length,by simp,R1,QgP cp B,h1,[],Ext.refl _,Y,(s.mono x1).cap cp,Rws.nil,by simpa using e2,k.ext x1⟩,?_⟩
 rintro i n z τ S ⟨ae,R2,g,o,a,C,m,s2,M,f,Z⟩
 by_cases G:i<items.length
 ·obtain⟨y,N⟩:∃y,items[i]?=some y:=⟨items[i],Ni G⟩
  have hd:items.drop i=y::items.drop (i+1):=by
   rw[EJ G];rw[Ni G]at N;cases N;rfl
  rw[hd]at f;unfold ZN at f;split at f
  ·rename_i O;obtain⟨d,e4,e5⟩:=Na.mp f;obtain⟨⟨t,h3⟩,e6,e7⟩:=Na.mp e5;refine .inr ⟨it.go i y R2 o S C m O N,fun x H' aa=>?_⟩;obtain⟨R3,l,r,p⟩:=it.yld i y R2 o S x H' C m O N aa;refine⟨R3,g,o,y,d,r,s2.mono l,p,e4,fun R4 H4 ab A U L=>?_⟩;refine⟨R4,d,o,t,h3,U,L,e6,fun R5 H5 j F=>?_⟩;cases t with
   |true=>
    obtain⟨⟨v,h4⟩,e8,P⟩:=Na.mp e7;dsimp only at P;split at P
    ·rename_i hz;refine QeW ⟨R5,d,h3,v,h4,F,L.mono j,e8,fun R6 H6 u I T rv=>⟨by rw[<-M.length];exact hz,n-1,by lia,by lia,R6,d,h4,a++[v],C.trans (l.trans (A.trans (j.trans I))),T,L.mono (j.trans I),?_,P,Z.ext (l.trans (A.trans (j.trans I)))⟩⟩;exact Rws.append (Rws.mono (l.trans (A.trans (j.trans I))) _ _ M) (Rws.cons rv Rws.nil)
    ·cases P
   |false=>
    exact Qgb ⟨n-1,by lia,by lia,R5,d,h3,a,C.trans (l.trans (A.trans j)),F,L.mono j,Rws.mono (l.trans (A.trans j)) _ _ M,e7,Z.ext (l.trans (A.trans j))⟩
  ·cases f
 ·have hd:items.drop i=[]:=E7 (El.mp G);rw[hd]at f;unfold ZN at f;split at f
  ·rename_i O;refine .inl ⟨it.stop i R2 o S C m O (El.mp G),fun D hD=>?_⟩;obtain⟨R3,l,r,p⟩:=hf R2 o S a z w h' D m M f hD;exact Z R3 _ _ l r p
  ·cases f
theorem XI(r:Qcc X.K fin)(v:X.calm=true)(B:BlkOk X scope cl Nb cp)(o:PMI X tg iter mi)(p:∀a d C i f,PMG (Mi.blk X scope cl Nb a d C i f) tg b)
  (u:∀a d C i f,PM (Mi.blk X scope cl Nb a d C i f) elt me) (n:∀x,foldedSetIterable iter X.env x=pure x:=by intro _;rfl) :
  PM X (.ListComp elt [⟨tg,iter,[],0⟩] scope pos) (Jh fin mi cp b Yk me):=
 QW (QgE (g:=tIG X.K b) (te:=tI X.K me) (tt:=tIT X.K Yk) v B o p (fun a d C i f j s w H Q I q=>wpAny_tests_nil (by
  obtain⟨R,l,h,t,A,m,st,e,k⟩:=q;cases e
  exact⟨H,I,k R H (Ext.refl _) m⟩)) u n) fun _ _ _ q=>Gc r q
end
open PySem.SeqAt
mutual
noncomputable def eqW:W->W->Bool
 |.non,.non=>true
 |.bl a,.bl b=>a==b
 |.bl a,.int b=>(if a then 1 else 0)==b
 |.int a,.bl b=>a==(if b then 1 else 0)
 |.int a,.int b=>a==b
 |.str a,.str b=>a==b
 |.tup a,.tup b=>YG a b
 |.lst a,.lst b=>YG a b
 |_,_=>false
noncomputable def YG:List W->List W->Bool
 |[],[]=>true
 |x::xs,y::ys=>eqW x y&&YG xs ys
 |_,_=>false
end
noncomputable def Zt(f:b->Option a):List b->Option (List a)
 |[]=>some []
 |x::xs=>(f x).bind fun y=>(Zt f xs).map (y::·)
noncomputable def drf(h:MH):Nat->W->Option W
 |0,_=>none
 |n+1,w=>match w with
  |.tup ws=>(Zt (drf h n) ws).map .tup
  |.lst ws=>(Zt (drf h n) ws).map .lst
  |.frz ws=>(Zt (drf h n) ws).map .lst
  |.ref k=>match h[k]? with|some (.lst ws)=>(Zt (drf h n) ws).map .lst|_=>none
  |.ty _=>none
  |.non=>some .non
  |.bl b=>some (.bl b)
  |.int i=>some (.int i)
  |.str x=>some (.str x)
theorem QD:∀{xs:List m} {ys:List j},Zt f xs=some ys->xs.length=ys.length/\∀(i:Nat) x,xs[i]?=some x->∃y,ys[i]?=some y/\f x=some y
 |[],ys,e=>by cases e;exact⟨rfl,fun i x h=>by simp at h⟩
 |x::xs,ys,e=>by
  obtain⟨y,h1,h2⟩:=Na.mp e;obtain⟨n,g,d⟩:=Nf.mp h2;subst d;obtain⟨l,q⟩:=QD g;refine⟨by simp[l],fun i z a=>?_⟩;cases i with
  |zero=>simp at a;subst a;exact⟨y,by simp,h1⟩
  |succ i=>simp at a;obtain⟨u,c,b⟩:=q i z a;exact⟨u,by simp[c],b⟩
theorem XB:∀{a b:List W},a.length≠b.length->YG a b=false
 |[],[],h=>absurd rfl h
 |[],_::_,_=>by unfold YG;rfl
 |_::_,[],_=>by unfold YG;rfl
 |x::xs,y::ys,h=>by
  unfold YG;rw[XB (a:=xs) (b:=ys) (fun z=>h (by simp[z])),Da]
theorem Xz:∀{a b:List W},a.length=b.length->YG a b=(List.range a.length).all fun j=>match a[j]?,b[j]? with|some x,some y=>eqW x y|_,_=>false
 |[],[],_=>by unfold YG;rfl
 |x::xs,y::ys,h=>by
  have c:=Xz (a:=xs) (b:=ys) (by simpa using h);unfold YG;rw[c,Nz,EE,II,List.all_map];simp[E9]
inductive Kd(K:Nd)(R:Rn)(h:MH)(H:Hp)(n:Nat)(v:V):W->Prop where
 |flat {a:W} (f:Qfk v=true) (e:(v=.non/\a=.non)\/(∃b,v=.bl b/\a=.bl b)\/(∃i,v=.int i/\a=.int i)\/∃x,v=.str x/\a=.str x):Kd K R h H n v a
 |lst {ad:Addr} {xs:List V} {ws as:List W} (e:v=.ref ad) (q:SqL K H ad xs) (r:Rws K R ws xs) (m:Zt (drf h n) ws=some as):Kd K R h H n v (.lst as)
 |tup {ad:Addr} {xs:List V} {ws as:List W} (e:v=.ref ad) (q:SqT K H ad xs) (r:Rws K R ws xs) (m:Zt (drf h n) ws=some as):Kd K R h H n v (.tup as)
theorem VR{K:Nd}{v:V}(g:Rh K R h H)(r:Rw K R w v)(e:drf h (n+1) w=some a):Kd K R h H n v a:=by
 cases w with
 |non=>rw[r.non_eq];cases e;exact .flat rfl (.inl ⟨rfl,rfl⟩)
 |bl b=>rw[r.bl_eq];cases e;exact .flat rfl (.inr (.inl ⟨b,rfl,rfl⟩))
 |int i=>rw[r.int_eq];cases e;exact .flat rfl (.inr (.inr (.inl ⟨i,rfl,rfl⟩)))
 |str x=>rw[r.str_eq];cases e;exact .flat rfl (.inr (.inr (.inr ⟨x,rfl,rfl⟩)))
 |tup l=>
  obtain⟨ad,j,f,q,c⟩:=g.tupAt r;obtain⟨as,m,d⟩:=Nf.mp e;subst d;exact .tup f q c m
 |lst l=>
  obtain⟨ad,j,f,q,c⟩:=g.lstAt r;obtain⟨as,m,d⟩:=Nf.mp e;subst d;exact .lst f (SqL.of q) c m
 |frz l=>
  obtain⟨ad,j,f,q,c⟩:=g.frzAt r;obtain⟨as,m,d⟩:=Nf.mp e;subst d;exact .lst f q c m
 |ref k=>
  simp only[drf]at e;split at e
  ·rename_i l o;obtain⟨as,m,d⟩:=Nf.mp e;subst d;obtain⟨_,f,j,q,c⟩:=g.refAt r o;exact .lst f (SqL.of q) c m
  ·cases e
 |ty _=>cases e
section
variable{X:Cx}{pins:List (Addr×Obj)}{σ:L2.St}{H:Hp}{s:Shared}{R:Rn}{h:MH}
theorem KB{K:Nd}(r:∀q p v a b,Rw K R q v->Rw K R p v->drf h n q=some a->drf h n p=some b->a=b) :
  ∀{d c:List W} {xs:List V} {a b:List W},Rws K R d xs->Rws K R c xs->Zt (drf h n) d=some a->Zt (drf h n) c=some b->a=b
 |[],c,xs,a,b,f,e,i,g=>by
  rw[Rws.nil_iff]at f;subst f;cases c with
  |nil=>cases i;cases g;rfl
  |cons w ws=>rw[Rws.cons_iff]at e;obtain⟨_,_,z,_⟩:=e;cases z
 | w::d,c,xs,a,b,f,e,i,g=>by
  rw[Rws.cons_iff]at f;obtain⟨v,x,rfl,C,B⟩:=f;cases c with
  |nil=>rw[Rws.nil_iff]at e;cases e
  |cons A c=>
   rw[Rws.cons_iff]at e;obtain⟨_,_,z,q1,q2⟩:=e;cases z;obtain⟨y,G,F⟩:=Na.mp i;obtain⟨I,E,D⟩:=Nf.mp F;obtain⟨u,o,m⟩:=Na.mp g;obtain⟨t,l,j⟩:=Nf.mp m;subst D j;rw[r w A v y u C q1 G o,KB r B q2 E l]
theorem X5(I:Inv X pins σ H s)(q:SqL X.K H a xs)(e:SqT X.K H a ys):False:=by
 obtain⟨g,_,p,_⟩:=I.list q;obtain⟨d,_,f,_⟩:=I.tuple e;obtain⟨o,n,j,i,_⟩:=p;obtain⟨l,c,b,_⟩:=f;rw[j]at c;cases c;rw[i]at b;exact absurd b (by simp)
theorem Ko(I:Inv X pins σ H s)(g:Rh X.K R h H):∀(n:Nat) (l j:W) (v:V) (a b:W),Rw X.K R l v->Rw X.K R j v->drf h n l=some a->drf h n j=some b->a=b
 |0,_,_,_,_,_,_,_,e,_=>by cases e
 | n+1,l,j,v,a,b,y,o,A,u=>by
  have w:=Ko I g n;cases VR g y A with
  | flat f z=>
   cases VR g o u with
   |flat B x=>
    rcases z with⟨rfl,rfl⟩|⟨_,rfl,rfl⟩|⟨_,rfl,rfl⟩|⟨_,rfl,rfl⟩<;>rcases x with⟨i,rfl⟩|⟨_,i,rfl⟩|⟨_,i,rfl⟩|⟨_,i,rfl⟩<;>cases i<;>rfl
   |lst e=>subst e;cases f
   |tup e=>subst e;cases f
  |lst e q r m=>
   subst e;cases VR g o u with
   |flat f=>cases f
   |lst d c p t=>cases d;have:=I.list_inj q c;subst this;rw[KB w r p m t]
   |tup d c=>cases d;exact(X5 I q c).elim
  |tup e q r m=>
   subst e;cases VR g o u with
   |flat f=>cases f
   |lst d c=>cases d;exact(X5 I c q).elim
   |tup d c p t=>cases d;have:=I.tuple_inj q c;subst this;rw[KB w r p m t]
mutual
theorem Wk:∀(n:Nat) (w a:W),drf h n w=some a->eqW a a=true
 |0,_,_,e=>by cases e
 | n+1,w,a,e=>by
  cases w with
  |non=>cases e;unfold eqW;rfl
  |bl b=>cases e;unfold eqW;simp
  |int i=>cases e;unfold eqW;simp
  |str x=>cases e;unfold eqW;simp
  |tup ws=>obtain⟨as,m,c⟩:=Nf.mp e;subst c;unfold eqW;exact Vr n ws as m
  |lst ws=>obtain⟨as,m,c⟩:=Nf.mp e;subst c;unfold eqW;exact Vr n ws as m
  |frz ws=>obtain⟨as,m,c⟩:=Nf.mp e;subst c;unfold eqW;exact Vr n ws as m
  |ref k=>
   simp only[drf]at e;split at e
   ·rename_i ws d;obtain⟨as,m,c⟩:=Nf.mp e;subst c;unfold eqW;exact Vr n ws as m
   ·cases e
  |ty _=>cases e
theorem Vr:∀(n:Nat) (ws as:List W),Zt (drf h n) ws=some as->YG as as=true
 |n,[],_,m=>by cases m;unfold YG;rfl
 |n,w::ws,_,m=>by
  obtain⟨y,h1,h2⟩:=Na.mp m;obtain⟨a,c,b⟩:=Nf.mp h2;subst b;unfold YG;rw[Wk n w y h1,Vr n ws a c];rfl
end
theorem VJ(J:∀i g v1 l q p a b,Rw X.K R i v1->Rw X.K R g l->RelV v1 q->RelV l p->drf h n i=some a->drf h n g=some b->EqAt A s q p (eqW a b))
  (v:Rws X.K R e xs) (r:Rws X.K R d ys) (v1:Vals xs f) (l:Vals ys c) (E:Zt (drf h n) e=some as) (D:Zt (drf h n) d=some bs)
  (j:Nat) (h1:j<f.toArray.size) (h2:j<c.toArray.size):EqAt A s f.toArray[j] c.toArray[j] (match as[j]?,bs[j]? with|some x,some y=>eqW x y|_,_=>false):=by
 have I:=v.length;have H:=v1.length;have G:=r.length;have F:=l.length;rw[Nk]at h1 h2;obtain⟨i,o⟩:∃w,e[j]?=some w:=⟨e[j]'(Nm (Nm h1 (NH H.symm)) (NH I.symm)),Ni _⟩
 obtain⟨g,m⟩:∃w,d[j]?=some w:=⟨d[j]'(Nm (Nm h2 (NH F.symm)) (NH G.symm)),Ni _⟩
 obtain⟨x,M,B⟩:=v.get o;obtain⟨y,L,z⟩:=r.get m;obtain⟨u,hu,C⟩:=v1.get M;obtain⟨t,N,rt⟩:=l.get L;obtain⟨a,P,S⟩:=(QD E).2 j i o;obtain⟨b,O,Q⟩:=(QD D).2 j g m;rw[P,O]
 have U:f.toArray[j]=u:=by
  have:=hu;rw[Ni h1]at this;simpa using this
 have T:c.toArray[j]=t:=by
  have:=N;rw[Ni h2]at this;simpa using this
 rw[U,T];exact J i g x y u t a b B z C rt S Q
theorem GG(I:Inv X q σ H s)(hu:A.units<cLine)(y:∀i g v1 c m l a b,Rw X.K R i v1->Rw X.K R g c->RelV v1 m->RelV c l->drf h n i=some a->drf h n g=some b->EqAt A.in1 s m l (eqW a b))
  {ad bd:Addr} (q1:SqL X.K H ad xs) (q2:SqL X.K H bd ys) (p:Rws X.K R e xs) (o:Rws X.K R d ys) (v:Zt (drf h n) e=some as) (u:Zt (drf h n) d=some bs):RcAt A s (.ref ad) (.ref bd) (YG as bs):=by
 obtain⟨f,v1,t,_⟩:=I.list q1;obtain⟨w,c,r,_⟩:=I.list q2;have J:=p.length;have G:=v1.length;have F:=o.length;have E:=c.length;have D:=(QD v).1;have C:=(QD u).1
 by_cases x:as.length=bs.length
 ·rw[Xz x];have:=RcAt.lists (A:=A) t.isList r.isList (by rw[Nk,Nk];lia) hu (fun j B z=>VJ y p o v1 c v u j B z);rw[Nk]at this;rw[show as.length=f.length by lia];exact this
 ·rw[XB x];exact RcAt.lists_lengths t.isList r.isList (by rw[Nk,Nk];simp;lia) hu
theorem Qbx(I:Inv X r σ H s)(hu:A.units<cLine)(y:∀l i v1 e o m a b,Rw X.K R l v1->Rw X.K R i e->RelV v1 o->RelV e m->drf h n l=some a->drf h n i=some b->EqAt A.in1 s o m (eqW a b))
  {ad bd:Addr} (q1:SqT X.K H ad xs) (q2:SqT X.K H bd ys) (q:Rws X.K R g xs) (p:Rws X.K R f ys) (u:Zt (drf h n) g=some as) (t:Zt (drf h n) f=some bs):RcAt A s (.ref ad) (.ref bd) (YG as bs):=by
 obtain⟨d,v1,x,_⟩:=I.tuple q1;obtain⟨c,e,w,_⟩:=I.tuple q2;have J:=q.length;have G:=v1.length;have F:=p.length;have E:=e.length;have D:=(QD u).1;have C:=(QD t).1;have:=RcAt.tuples (A:=A) (show s.heap.IsTuple ad d.toArray from x) (show s.heap.IsTuple bd c.toArray from w) hu (fun j B z=>VJ y q p v1 e u t j B z);rw[Nk,Nk]at this
 by_cases v:as.length=bs.length
 ·rw[Xz v];rw[show min d.length c.length=as.length by lia,show(d.length==c.length)=true by simp;omega,Fj]at this;exact this
 ·rw[XB v];rw[show(d.length==c.length)=false by simp;omega,Da]at this;exact this
theorem GA(I:Inv X Z σ H s)(o:Rh X.K R h H):∀(n:Nat) (A:Around),A.units+n<cLine->∀(E l:W) (v1 L:V) (N M:Value) (a b:W),Rw X.K R E v1->Rw X.K R l L->RelV v1 N->RelV L M->drf h n E=some a->drf h n l=some b->EqAt A s N M (eqW a b)
 |0,_,_,_,_,_,_,_,_,_,_,_,_,_,_,e,_=>by cases e
 | n+1,A,hu,E,l,v1,L,N,M,a,b,O,F,i,g,Y,x=>by
  have c:A.units<cLine:=by exact NL (NW _ _) hu
  have ih:=GA I o n A.in1 (by show A.units+1+n<cLine;lia)
  have w:∀{ad:Addr} {J:List V},SqL X.K H ad J->∃d:Array Value,s.heap.IsList ad d:=fun q=>by
   obtain⟨d,_,p,_⟩:=I.list q;exact⟨_,p.isList⟩
  have v:∀{ad:Addr} {J:List V},SqT X.K H ad J->∃d:Array Value,s.heap.IsTuple ad d:=fun q=>by
   obtain⟨d,_,p,_⟩:=I.tuple q;exact⟨_,p⟩
  cases VR o O Y with
  | flat f z=>
   cases VR o F x with
   |flat U D=>
    have:=QiD (A:=A) (s:=s) i g f U
    rcases z with⟨rfl,rfl⟩|⟨_,rfl,rfl⟩|⟨_,rfl,rfl⟩|⟨_,rfl,rfl⟩<;>rcases D with⟨rfl,rfl⟩|⟨_,rfl,rfl⟩|⟨_,rfl,rfl⟩|⟨_,rfl,rfl⟩<;>(unfold eqW;exact this)
   |lst e q=>
    subst e;cases g;obtain⟨d,p⟩:=w q
    rcases z with⟨rfl,rfl⟩|⟨_,rfl,rfl⟩|⟨_,rfl,rfl⟩|⟨_,rfl,rfl⟩
    ·cases i;unfold eqW;exact EqAt.none_list p c
    ·cases i;unfold eqW;exact EqAt.bool_list _ p c
    ·obtain⟨t,rfl⟩:=i;unfold eqW;exact EqAt.int_list _ t p c
    ·obtain⟨t,rfl⟩:=i;unfold eqW;exact EqAt.str_list _ t p c
   |tup e q=>
    subst e;cases g;obtain⟨d,p⟩:=v q
    rcases z with⟨rfl,rfl⟩|⟨_,rfl,rfl⟩|⟨_,rfl,rfl⟩|⟨_,rfl,rfl⟩
    ·cases i;unfold eqW;exact EqAt.none_tuple p c
    ·cases i;unfold eqW;exact EqAt.bool_tuple _ p c
    ·obtain⟨t,rfl⟩:=i;unfold eqW;exact EqAt.int_tuple _ t p c
    ·obtain⟨t,rfl⟩:=i;unfold eqW;exact EqAt.str_tuple _ t p c
  | @lst C _ _ _ e q r m=>
   subst e;cases i;obtain⟨d,p⟩:=w q;have T:=VR o F x;cases T with
   |flat U D=>
    rcases D with⟨rfl,rfl⟩|⟨_,rfl,rfl⟩|⟨_,rfl,rfl⟩|⟨_,rfl,rfl⟩
    ·cases g;unfold eqW;exact EqAt.list_none p c
    ·cases g;unfold eqW;exact EqAt.list_bool _ p c
    ·obtain⟨t,rfl⟩:=g;unfold eqW;exact EqAt.list_int _ t p c
    ·obtain⟨t,rfl⟩:=g;unfold eqW;exact EqAt.list_str _ t p c
   |@lst B _ _ _ y u P S=>
    subst y;cases g
    by_cases j:C=B
    ·subst j;have:=Ko I o (n+1) E l _ _ _ O F Y x;rw[this,Wk (n+1) l _ x];exact EqAt.same _
    ·unfold eqW;exact EqAt.of_refs j (GG I c ih q u r P m S)
   |tup y u=>
    subst y;cases g;obtain⟨G,Q⟩:=v u;unfold eqW;exact EqAt.list_tuple p Q c
  | @tup C _ _ _ e q r m=>
   subst e;cases i;obtain⟨d,p⟩:=v q;have T:=VR o F x;cases T with
   |flat U D=>
    rcases D with⟨rfl,rfl⟩|⟨_,rfl,rfl⟩|⟨_,rfl,rfl⟩|⟨_,rfl,rfl⟩
    ·cases g;unfold eqW;exact EqAt.tuple_none p c
    ·cases g;unfold eqW;exact EqAt.tuple_bool _ p c
    ·obtain⟨t,rfl⟩:=g;unfold eqW;exact EqAt.tuple_int _ t p c
    ·obtain⟨t,rfl⟩:=g;unfold eqW;exact EqAt.tuple_str _ t p c
   |lst y u=>
    subst y;cases g;obtain⟨G,Q⟩:=w u;unfold eqW;exact EqAt.tuple_list p Q c
   |@tup B _ _ _ y u P S=>
    subst y;cases g
    by_cases j:C=B
    ·subst j;have:=Ko I o (n+1) E l _ _ _ O F Y x;rw[this,Wk (n+1) l _ x];exact EqAt.same _
    ·unfold eqW;exact EqAt.of_refs j (Qbx I c ih q u r P m S)
end
end Mi
namespace Mi
open L2 PySem.SeqAt
section
variable{X:Cx}{pins:List (Addr×Obj)}{σ:L2.St}{H:Hp}{s:Shared}{R:Rn}{h:MH}
theorem QaC(I:Inv X pins σ H s)(hu:A.units<cLine)(x:∀i g v1 c m l a b,Rw X.K R i v1->Rw X.K R g c->RelV v1 m->RelV c l->drf h n i=some a->drf h n g=some b->EqAt A.in1 s m l (eqW a b))
  {ad bd:Addr} (q1:SqL X.K H ad xs) (q2:SqL X.K H bd ys) (p:Rws X.K R e xs) (o:Rws X.K R d ys) (u:Zt (drf h n) e=some as) (t:Zt (drf h n) d=some bs):RcNeAt A s (.ref ad) (.ref bd) (!YG as bs):=by
 obtain⟨f,v1,r,_⟩:=I.list q1;obtain⟨v,c,q,_⟩:=I.list q2;have G:=p.length;have F:=v1.length;have E:=o.length;have D:=c.length;have C:=(QD u).1;have B:=(QD t).1
 by_cases w:as.length=bs.length
 ·rw[Xz w];have:=RcNeAt.lists (A:=A) r.isList q.isList (by rw[Nk,Nk];lia) hu (fun j z y=>VJ x p o v1 c u t j z y);rw[Nk]at this;rw[show as.length=f.length by lia];exact this
 ·rw[XB w];exact RcNeAt.lists_lengths r.isList q.isList (by rw[Nk,Nk];simp;lia) hu
theorem Qbm(I:Inv X pins σ H s)(hu:A.units<cLine)(x:∀l i v1 e o m a b,Rw X.K R l v1->Rw X.K R i e->RelV v1 o->RelV e m->drf h n l=some a->drf h n i=some b->EqAt A.in1 s o m (eqW a b))
  {ad bd:Addr} (q1:SqT X.K H ad xs) (q2:SqT X.K H bd ys) (q:Rws X.K R g xs) (p:Rws X.K R f ys) (t:Zt (drf h n) g=some as) (r:Zt (drf h n) f=some bs):RcNeAt A s (.ref ad) (.ref bd) (!YG as bs):=by
 obtain⟨d,v1,w,_⟩:=I.tuple q1;obtain⟨c,e,v,_⟩:=I.tuple q2;have G:=q.length;have F:=v1.length;have E:=p.length;have D:=e.length;have C:=(QD t).1;have B:=(QD r).1;have:=RcNeAt.tuples (A:=A) (show s.heap.IsTuple ad d.toArray from w) (show s.heap.IsTuple bd c.toArray from v) hu (fun j z y=>VJ x q p v1 e t r j z y);rw[Nk,Nk]at this
 by_cases u:as.length=bs.length
 ·rw[Xz u];rw[show min d.length c.length=as.length by lia,show(d.length==c.length)=true by simp;omega,Fj]at this;exact this
 ·rw[XB u];rw[show(d.length==c.length)=false by simp;omega,Da]at this;exact this
theorem QiJ(I:Inv X pins σ H s)(x:Rh X.K R h H)(n:Nat)(A:Around)(hu:A.units+n<cLine)(N M:W)(v1 O:V)(Q P:Value)(a b:W)(Z:Rw X.K R N v1)(C:Rw X.K R M O)(j:RelV v1 Q)(c:RelV O P)(U:drf h n N=some a)(J:drf h n M=some b):RcAt A s Q P (eqW a b):=by
 cases n with
 |zero=>cases U
 | succ n=>
  have d:A.units<cLine:=by exact NL (NW _ _) hu
  have S:=GA I x n A.in1 (by show A.units+1+n<cLine;lia)
  have u:∀{ad:Addr} {B:List V},SqL X.K H ad B->∃i:Array Value,s.heap.IsList ad i:=fun q=>by
   obtain⟨i,_,p,_⟩:=I.list q;exact⟨_,p.isList⟩
  have o:∀{ad:Addr} {B:List V},SqT X.K H ad B->∃i:Array Value,s.heap.IsTuple ad i:=fun q=>by
   obtain⟨i,_,p,_⟩:=I.tuple q;exact⟨_,p⟩
  cases VR x Z U with
  | flat f z=>
   cases VR x C J with
   | flat T w=>
    rcases z with⟨rfl,rfl⟩|⟨_,rfl,rfl⟩|⟨_,rfl,rfl⟩|⟨_,rfl,rfl⟩<;>rcases w with⟨rfl,rfl⟩|⟨_,rfl,rfl⟩|⟨_,rfl,rfl⟩|⟨_,rfl,rfl⟩<;>first|(obtain⟨Y,rfl⟩:=j)|cases j
    ·first|(obtain⟨g,rfl⟩:=c)|cases c
     unfold eqW;exact RcAt.none_none
    ·first|(obtain⟨g,rfl⟩:=c)|cases c
     unfold eqW;exact RcAt.none_bool _
    ·first|(obtain⟨g,rfl⟩:=c)|cases c
     unfold eqW;exact RcAt.none_int _ _
    ·first|(obtain⟨g,rfl⟩:=c)|cases c
     unfold eqW;exact RcAt.none_str _ _
    ·first|(obtain⟨g,rfl⟩:=c)|cases c
     unfold eqW;exact RcAt.bool_none _
    ·first|(obtain⟨g,rfl⟩:=c)|cases c
     unfold eqW;exact RcAt.bool_bool _ _
    ·first|(obtain⟨g,rfl⟩:=c)|cases c
     unfold eqW;exact RcAt.bool_int _ _ _
    ·first|(obtain⟨g,rfl⟩:=c)|cases c
     unfold eqW;exact RcAt.bool_str _ _ _
    ·first|(obtain⟨g,rfl⟩:=c)|cases c
     unfold eqW;exact RcAt.int_none _ _
    ·first|(obtain⟨g,rfl⟩:=c)|cases c
     unfold eqW;exact RcAt.int_bool _ _ _
    ·first|(obtain⟨g,rfl⟩:=c)|cases c
     unfold eqW;exact RcAt.int_int _ _ _ _
    ·first|(obtain⟨g,rfl⟩:=c)|cases c
     unfold eqW;exact RcAt.int_str _ _ _ _
    ·first|(obtain⟨g,rfl⟩:=c)|cases c
     unfold eqW;exact RcAt.str_none _ _
    ·first|(obtain⟨g,rfl⟩:=c)|cases c
     unfold eqW;exact RcAt.str_bool _ _ _
    ·first|(obtain⟨g,rfl⟩:=c)|cases c
     unfold eqW;exact RcAt.str_int _ _ _ _
    ·first|(obtain⟨g,rfl⟩:=c)|cases c
     unfold eqW;exact RcAt.str_str _ _ _ _
   |lst e q=>
    subst e;cases c;obtain⟨i,p⟩:=u q
    rcases z with⟨rfl,rfl⟩|⟨_,rfl,rfl⟩|⟨_,rfl,rfl⟩|⟨_,rfl,rfl⟩
    ·cases j;unfold eqW;exact RcAt.none_list p d
    ·cases j;unfold eqW;exact RcAt.bool_list _ p d
    ·obtain⟨t,rfl⟩:=j;unfold eqW;exact RcAt.int_list _ t p d
    ·obtain⟨t,rfl⟩:=j;unfold eqW;exact RcAt.str_list _ t p d
   |tup e q=>
    subst e;cases c;obtain⟨i,p⟩:=o q
    rcases z with⟨rfl,rfl⟩|⟨_,rfl,rfl⟩|⟨_,rfl,rfl⟩|⟨_,rfl,rfl⟩
    ·cases j;unfold eqW;exact RcAt.none_tuple p d
    ·cases j;unfold eqW;exact RcAt.bool_tuple _ p d
    ·obtain⟨t,rfl⟩:=j;unfold eqW;exact RcAt.int_tuple _ t p d
    ·obtain⟨t,rfl⟩:=j;unfold eqW;exact RcAt.str_tuple _ t p d
  | @lst L _ _ _ e q r m=>
   subst e;cases j;obtain⟨i,p⟩:=u q;have G:=VR x C J;cases G with
   |flat T w=>
    rcases w with⟨rfl,rfl⟩|⟨_,rfl,rfl⟩|⟨_,rfl,rfl⟩|⟨_,rfl,rfl⟩
    ·cases c;unfold eqW;exact RcAt.list_none p d
    ·cases c;unfold eqW;exact RcAt.list_bool _ p d
    ·obtain⟨t,rfl⟩:=c;unfold eqW;exact RcAt.list_int _ t p d
    ·obtain⟨t,rfl⟩:=c;unfold eqW;exact RcAt.list_str _ t p d
   |tup v l=>
    subst v;cases c;obtain⟨y,E⟩:=o l;unfold eqW;exact RcAt.list_tuple p E d
   |lst v l D F=>
    subst v;cases c;unfold eqW;exact GG I d S q l r D m F
  | @tup L _ _ _ e q r m=>
   subst e;cases j;obtain⟨i,p⟩:=o q;have G:=VR x C J;cases G with
   |flat T w=>
    rcases w with⟨rfl,rfl⟩|⟨_,rfl,rfl⟩|⟨_,rfl,rfl⟩|⟨_,rfl,rfl⟩
    ·cases c;unfold eqW;exact RcAt.tuple_none p d
    ·cases c;unfold eqW;exact RcAt.tuple_bool _ p d
    ·obtain⟨t,rfl⟩:=c;unfold eqW;exact RcAt.tuple_int _ t p d
    ·obtain⟨t,rfl⟩:=c;unfold eqW;exact RcAt.tuple_str _ t p d
   |lst v l=>
    subst v;cases c;obtain⟨y,E⟩:=u l;unfold eqW;exact RcAt.tuple_list p E d
   |tup v l D F=>
    subst v;cases c;unfold eqW;exact Qbx I d S q l r D m F
theorem Qdt(I:Inv X pins σ H s)(x:Rh X.K R h H)(n:Nat)(A:Around)(hu:A.units+n<cLine)(N M:W)(v1 O:V)(Q P:Value)(a b:W)(Z:Rw X.K R N v1)(C:Rw X.K R M O)(j:RelV v1 Q)(c:RelV O P)(U:drf h n N=some a)(J:drf h n M=some b):RcNeAt A s Q P (!eqW a b):=by
 cases n with
 |zero=>cases U
 | succ n=>
  have d:A.units<cLine:=by exact NL (NW _ _) hu
  have S:=GA I x n A.in1 (by show A.units+1+n<cLine;omega)
  have u:∀{ad:Addr} {B:List V},SqL X.K H ad B->∃i:Array Value,s.heap.IsList ad i:=fun q=>by
   obtain⟨i,_,p,_⟩:=I.list q;exact⟨_,p.isList⟩
  have o:∀{ad:Addr} {B:List V},SqT X.K H ad B->∃i:Array Value,s.heap.IsTuple ad i:=fun q=>by
   obtain⟨i,_,p,_⟩:=I.tuple q;exact⟨_,p⟩
  cases VR x Z U with
  | flat f z=>
   cases VR x C J with
   | flat T w=>
    rcases z with⟨rfl,rfl⟩|⟨_,rfl,rfl⟩|⟨_,rfl,rfl⟩|⟨_,rfl,rfl⟩<;>rcases w with⟨rfl,rfl⟩|⟨_,rfl,rfl⟩|⟨_,rfl,rfl⟩|⟨_,rfl,rfl⟩<;>first|(obtain⟨Y,rfl⟩:=j)|cases j
    ·first|(obtain⟨g,rfl⟩:=c)|cases c
     unfold eqW;exact RcNeAt.none_none
    ·first|(obtain⟨g,rfl⟩:=c)|cases c
     unfold eqW;exact RcNeAt.none_bool _
    ·first|(obtain⟨g,rfl⟩:=c)|cases c
     unfold eqW;exact RcNeAt.none_int _ _
    ·first|(obtain⟨g,rfl⟩:=c)|cases c
     unfold eqW;exact RcNeAt.none_str _ _
    ·first|(obtain⟨g,rfl⟩:=c)|cases c
     unfold eqW;exact RcNeAt.bool_none _
    ·first|(obtain⟨g,rfl⟩:=c)|cases c
     unfold eqW;exact RcNeAt.bool_bool _ _
    ·first|(obtain⟨g,rfl⟩:=c)|cases c
     unfold eqW;exact RcNeAt.bool_int _ _ _
    ·first|(obtain⟨g,rfl⟩:=c)|cases c
     unfold eqW;exact RcNeAt.bool_str _ _ _
    ·first|(obtain⟨g,rfl⟩:=c)|cases c
     unfold eqW;exact RcNeAt.int_none _ _
    ·first|(obtain⟨g,rfl⟩:=c)|cases c
     unfold eqW;exact RcNeAt.int_bool _ _ _
    ·first|(obtain⟨g,rfl⟩:=c)|cases c
     unfold eqW;exact RcNeAt.int_int _ _ _ _
    ·first|(obtain⟨g,rfl⟩:=c)|cases c
     unfold eqW;exact RcNeAt.int_str _ _ _ _
    ·first|(obtain⟨g,rfl⟩:=c)|cases c
     unfold eqW;exact RcNeAt.str_none _ _
    ·first|(obtain⟨g,rfl⟩:=c)|cases c
     unfold eqW;exact RcNeAt.str_bool _ _ _
    ·first|(obtain⟨g,rfl⟩:=c)|cases c
     unfold eqW;exact RcNeAt.str_int _ _ _ _
    ·first|(obtain⟨g,rfl⟩:=c)|cases c
     unfold eqW;exact RcNeAt.str_str _ _ _ _
   |lst e q=>
    subst e;cases c;obtain⟨i,p⟩:=u q
    rcases z with⟨rfl,rfl⟩|⟨_,rfl,rfl⟩|⟨_,rfl,rfl⟩|⟨_,rfl,rfl⟩
    ·cases j;unfold eqW;exact RcNeAt.none_list p d
    ·cases j;unfold eqW;exact RcNeAt.bool_list _ p d
    ·obtain⟨t,rfl⟩:=j;unfold eqW;exact RcNeAt.int_list _ t p d
    ·obtain⟨t,rfl⟩:=j;unfold eqW;exact RcNeAt.str_list _ t p d
   |tup e q=>
    subst e;cases c;obtain⟨i,p⟩:=o q
    rcases z with⟨rfl,rfl⟩|⟨_,rfl,rfl⟩|⟨_,rfl,rfl⟩|⟨_,rfl,rfl⟩
    ·cases j;unfold eqW;exact RcNeAt.none_tuple p d
    ·cases j;unfold eqW;exact RcNeAt.bool_tuple _ p d
    ·obtain⟨t,rfl⟩:=j;unfold eqW;exact RcNeAt.int_tuple _ t p d
    ·obtain⟨t,rfl⟩:=j;unfold eqW;exact RcNeAt.str_tuple _ t p d
  | @lst L _ _ _ e q r m=>
   subst e;cases j;obtain⟨i,p⟩:=u q;have G:=VR x C J;cases G with
   |flat T w=>
    rcases w with⟨rfl,rfl⟩|⟨_,rfl,rfl⟩|⟨_,rfl,rfl⟩|⟨_,rfl,rfl⟩
    ·cases c;unfold eqW;exact RcNeAt.list_none p d
    ·cases c;unfold eqW;exact RcNeAt.list_bool _ p d
    ·obtain⟨t,rfl⟩:=c;unfold eqW;exact RcNeAt.list_int _ t p d
    ·obtain⟨t,rfl⟩:=c;unfold eqW;exact RcNeAt.list_str _ t p d
   |tup v l=>
    subst v;cases c;obtain⟨y,E⟩:=o l;unfold eqW;exact RcNeAt.list_tuple p E d
   |lst v l D F=>
    subst v;cases c;unfold eqW;exact QaC I d S q l r D m F
  | @tup L _ _ _ e q r m=>
   subst e;cases j;obtain⟨i,p⟩:=o q;have G:=VR x C J;cases G with
   |flat T w=>
    rcases w with⟨rfl,rfl⟩|⟨_,rfl,rfl⟩|⟨_,rfl,rfl⟩|⟨_,rfl,rfl⟩
    ·cases c;unfold eqW;exact RcNeAt.tuple_none p d
    ·cases c;unfold eqW;exact RcNeAt.tuple_bool _ p d
    ·obtain⟨t,rfl⟩:=c;unfold eqW;exact RcNeAt.tuple_int _ t p d
    ·obtain⟨t,rfl⟩:=c;unfold eqW;exact RcNeAt.tuple_str _ t p d
   |lst v l=>
    subst v;cases c;obtain⟨y,E⟩:=u l;unfold eqW;exact RcNeAt.tuple_list p E d
   |tup v l D F=>
    subst v;cases c;unfold eqW;exact Qbm I d S q l r D m F
end
noncomputable def wEq(a b:W)(h:MH):Option (W×MH):=(drf h 40 a).bind fun x=>(drf h 40 b).map fun y=>(.bl (eqW x y),h)
noncomputable def wNe(a b:W)(h:MH):Option (W×MH):=(drf h 40 a).bind fun x=>(drf h 40 b).map fun y=>(.bl (!eqW x y),h)
theorem Qk{K:Nd}:OpM K (F2 K f) f:=fun _ _ _ _ q=>q
section
variable{X:Cx}
theorem Qb0(hu:X.A.units+64<cLine):OpR X (compareOp .Eq) (F2 X.K wEq):=by
 intro d s t H x y v u Q I g f q;obtain⟨R,h,a,b,w,z,c,j,i,e,k⟩:=q;obtain⟨r,o,n⟩:=Na.mp e;obtain⟨p,m,l⟩:=Nf.mp n;cases l;exact QiJ I c 40 X.A (N4 (Es (by decide) _) hu) a b x y v u r p j i g f o m _ _ _ _ ⟨.bl _,H,I,rfl,k R H _ (Ext.refl _) c (Rw.bl _)⟩
theorem Qcu(hu:X.A.units+64<cLine):OpR X (compareOp .NotEq) (F2 X.K wNe):=by
 intro d s t H x y v u Q I g f q;obtain⟨R,h,a,b,w,z,c,j,i,e,k⟩:=q;obtain⟨r,o,n⟩:=Na.mp e;obtain⟨p,m,l⟩:=Nf.mp n;cases l;exact Qdt I c 40 X.A (N4 (Es (by decide) _) hu) a b x y v u r p j i g f o m _ _ _ _ ⟨.bl _,H,I,rfl,k R H _ (Ext.refl _) c (Rw.bl _)⟩
noncomputable def inW(x:W)(xs:List W):Bool:=xs.any fun y=>eqW y x
noncomputable def wIn(neg:Bool)(a b:W)(h:MH):Option (W×MH):=match b with
 |.tup d=>(drf h 40 a).bind fun x=>(Zt (drf h 40) d).map fun c=>(.bl (if neg then !inW x c else inW x c),h)
 |b=>(lsW h b).bind fun d=>(drf h 40 a).bind fun x=>(Zt (drf h 40) d).map fun c=>(.bl (if neg then !inW x c else inW x c),h)
open Classical in
noncomputable def QaP(K:Nd)(R:Rn)(h:MH)(x:W)(u:Value):Bool:=decide (∃w v a,Rw K R w v/\RelV v u/\drf h 40 w=some a/\eqW a x=true)
open Classical in
theorem U3(I:Inv X c σ H s)(i:Rh X.K R h H)(r:Rw X.K R w v)(t:RelV v u)(e:drf h 40 w=some a):QaP X.K R h x u=eqW a x:=by
 unfold QaP
 by_cases q:eqW a x=true
 ·rw[q];exact decide_eq_true ⟨w,v,a,r,t,e,q⟩
 ·have b:eqW a x=false:=by simpa using q
  rw[b];refine decide_eq_false fun d=>?_;obtain⟨f,n,m,j,g,l,z⟩:=d;have:=t.inj g;subst this;rw[Ko I i 40 w f v a m r j e l,z]at b;cases b
theorem U1(I:Inv X b σ H s)(a:Rh X.K R h H):∀{ws as:List W} {xs:List V} {us:List Value},Rws X.K R ws xs->Vals xs us->Zt (drf h 40) ws=some as->us.any (QaP X.K R h x)=inW x as
 |[],_,_,_,r,t,m=>by
  rw[Rws.nil_iff]at r;subst r;cases t;cases m;rfl
 | w::ws,_,_,_,r,t,m=>by
  rw[Rws.cons_iff]at r;obtain⟨v,d,rfl,i,g⟩:=r;cases t with
  |cons f e=>
   obtain⟨y,o,n⟩:=Na.mp m;obtain⟨p,l,j⟩:=Nf.mp n;subst j;have c:=U1 I a (x:=x) g e l;unfold inW at c ⊢;rw[Ez,Ez,U3 I a i f o,c]
theorem Xg(I:Inv X j σ H s)(g:Rh X.K R h H)(hu:A.units+40<cLine)(q:Rw X.K R a v)(p:RelV v u)(E:drf h 40 a=some x) 
  (r:Rws X.K R ws xs) (t:Vals xs us) (m:Zt (drf h 40) ws=some as):∀y∈us,EqAt A s y u (QaP X.K R h x y):=by
 intro y C;obtain⟨i,l,e⟩:=List.mem_iff_getElem.mp C;have B:=r.length;have z:=t.length;obtain⟨w,hw⟩:∃w,ws[i]?=some w:=⟨ws[i]'(Nm (Nm l (NH z.symm)) (NH B.symm)),Ni _⟩
 obtain⟨o,D,d⟩:=r.get hw;obtain⟨F,c,f⟩:=t.get D;rw[Ni l,e]at c;cases c;obtain⟨b,G,n⟩:=(QD m).2 i w hw;rw[U3 I g d f n];exact GA I g 40 A hu w a o v y u b x d q f p n E
theorem G0(hu:X.A.units+64<cLine):OpR X (compareOp .In) (F2 X.K (wIn false)):=by
 intro p s P H x y v u Q I M L q;obtain⟨R,h,a,b,w,J,l,O,N,e,k⟩:=q;have B:X.A.in1.units+40<cLine:=by show X.A.units+1+40<cLine;lia
 have main:∀g,((drf h 40 a).bind fun x=>(Zt (drf h 40) g).map fun c=>((W.bl (if false then !inW x c else inW x c),h):W×MH))=some (w,J)->∃d c,drf h 40 a=some d/\Zt (drf h 40) g=some c/\w=.bl (inW d c)/\J=h:=fun g e=>by
  obtain⟨d,j,T⟩:=Na.mp e;obtain⟨c,i,S⟩:=Nf.mp T;cases S;exact⟨d,c,j,i,rfl,rfl⟩
 have fin:∀{d:W} {c E:List W} {m:List V} {f:List Value},Rws X.K R E m->Vals m f->drf h 40 a=some d->Zt (drf h 40) E=some c->w=.bl (inW d c)->J=h->EP X p P Q (.bool (f.toArray.any (QaP X.K R h d))) s:=fun {d c E m f} r t Y em C D=>by
  subst C D;rw[LG,U1 I l r t em];exact⟨.bl _,H,I,rfl,k R H _ (Ext.refl _) l (Rw.bl _)⟩
 unfold wIn at e;split at e
 ·rename_i g;obtain⟨d,c,j,i,C,D⟩:=main g e;obtain⟨ad,m,rfl,q1,o⟩:=l.tupAt N;cases L;obtain⟨f,n,F,_⟩:=I.tuple q1;exact in_tupleAt (QaP X.K R h d) (show s.heap.IsTuple ad f.toArray from F) (fun z G=>Xg I l B O M j o n i z (by simpa using G)) (fin o n j i C D)
 ·obtain⟨g,U,e⟩:=Na.mp e;obtain⟨d,c,j,i,C,D⟩:=main g e;obtain⟨ad,m,rfl,q1,o⟩:=l.lsAt N U;cases L;obtain⟨f,n,F,_⟩:=I.list q1;exact in_listAt (QaP X.K R h d) F.isList (fun z G=>Xg I l B O M j o n i z (by simpa using G)) (fin o n j i C D)
theorem Qb1(hu:X.A.units+64<cLine):OpR X (compareOp .NotIn) (F2 X.K (wIn true)):=by
 intro p s P H x y v u Q I M L q;obtain⟨R,h,a,b,w,J,l,O,N,e,k⟩:=q;have B:X.A.in1.units+40<cLine:=by show X.A.units+1+40<cLine;omega
 have main:∀g,((drf h 40 a).bind fun x=>(Zt (drf h 40) g).map fun c=>((W.bl (if true then !inW x c else inW x c),h):W×MH))=some (w,J)->∃d c,drf h 40 a=some d/\Zt (drf h 40) g=some c/\w=.bl (!inW d c)/\J=h:=fun g e=>by
  obtain⟨d,j,T⟩:=Na.mp e;obtain⟨c,i,S⟩:=Nf.mp T;cases S;exact⟨d,c,j,i,rfl,rfl⟩
 have fin:∀{d:W} {c E:List W} {m:List V} {f:List Value},Rws X.K R E m->Vals m f->drf h 40 a=some d->Zt (drf h 40) E=some c->w=.bl (!inW d c)->J=h->EP X p P Q (.bool (!f.toArray.any (QaP X.K R h d))) s:=fun {d c E m f} r t Y em C D=>by
  subst C D;rw[LG,U1 I l r t em];exact⟨.bl _,H,I,rfl,k R H _ (Ext.refl _) l (Rw.bl _)⟩
 unfold wIn at e;split at e
 ·rename_i g;obtain⟨d,c,j,i,C,D⟩:=main g e;obtain⟨ad,m,rfl,q1,o⟩:=l.tupAt N;cases L;obtain⟨f,n,F,_⟩:=I.tuple q1;exact notIn_tupleAt (QaP X.K R h d) (show s.heap.IsTuple ad f.toArray from F) (fun z G=>Xg I l B O M j o n i z (by simpa using G)) (fin o n j i C D)
 ·obtain⟨g,U,e⟩:=Na.mp e;obtain⟨d,c,j,i,C,D⟩:=main g e;obtain⟨ad,m,rfl,q1,o⟩:=l.lsAt N U;cases L;obtain⟨f,n,F,_⟩:=I.list q1;exact notIn_listAt (QaP X.K R h d) F.isList (fun z G=>Xg I l B O M j o n i z (by simpa using G)) (fin o n j i C D)
end
noncomputable def Zs(a b:W)(h:MH):Option (W×MH):=match a,b with
 |.int i,.int j=>some (.int (i+j),h)
 |.str x,.str y=>if x.length+y.length<=sizeLine then some (.str (x++y),h)else none
 |.tup d,.tup c=>if d.length+c.length<=sizeLine then some (.tup (d++c),h)else none
 |a,b=>(loW h a).bind fun d=>(loW h b).bind fun c=>if d.length+c.length<=sizeLine then some (.lst (d++c),h)else none
noncomputable def QbX(a b:W)(h:MH):Option (W×MH):=match a,b with|.int i,.int j=>some (.int (i-j),h)|_,_=>none
noncomputable def QhI(a b:W)(h:MH):Option (W×MH):=match a,b with|.int i,.int j=>if(-(2^64)<i/\i<2^64)\/(-(2^64)<j/\j<2^64)then some (.int (i*j),h)else none|_,_=>none
noncomputable def KW(a b:W)(h:MH):Option (W×MH):=match a,b with|.int i,.int j=>if 0<j/\j<1073741824 then some (.int (i/j),h)else none|_,_=>none
noncomputable def JC(a b:W)(h:MH):Option (W×MH):=match a,b with|.int i,.int j=>if 0<j then some (.int (i%j),h)else none|_,_=>none
noncomputable def wLt(a b:W)(h:MH):Option (W×MH):=match a,b with|.int i,.int j=>some (.bl (decide (i<j)),h)|.str x,.str y=>some (.bl (decide (x.cps.toList<y.cps.toList)),h)|_,_=>none
noncomputable def wGt(a b:W)(h:MH):Option (W×MH):=match a,b with|.int i,.int j=>some (.bl (decide (j<i)),h)|_,_=>none
noncomputable def wGe(a b:W)(h:MH):Option (W×MH):=match a,b with|.int i,.int j=>some (.bl (decide (j<=i)),h)|_,_=>none
noncomputable def Vm:W->Bool
 |.non=>true
 |_=>false
noncomputable def wIs(a b:W)(h:MH):Option (W×MH):=match b with
 |.non=>some (.bl (Vm a),h)
 |.bl y=>match a with|.bl x=>some (.bl (x==y),h)|_=>none
 |_=>none
noncomputable def Jy(a b:W)(h:MH):Option (W×MH):=match b with
 |.non=>some (.bl (!Vm a),h)
 |_=>none
theorem Qed{K:Nd}(r:Rw K R a v):decide (v=.non)=Vm a:=by
 cases a with
 |non=>rw[r.non_eq];rfl
 |bl _=>rw[r.bl_eq];rfl
 |int _=>rw[r.int_eq];rfl
 |str _=>rw[r.str_eq];rfl
 |ty _=>rw[r.ty_eq];rfl
 |tup _=>unfold Rw at r;obtain⟨_,_,rfl,_⟩:=r;rfl
 |lst _=>unfold Rw at r;obtain⟨_,_,rfl,_⟩:=r;rfl
 |frz _=>unfold Rw at r;obtain⟨_,_,rfl,_⟩:=r;rfl
 |ref _=>unfold Rw at r;obtain⟨_,rfl⟩:=r;rfl
section
variable{X:Cx}
noncomputable def QjW(K:Nd):R2:=fun x y H Q=>∃a b c d,x=.ref a/\y=.ref b/\SqT K H a c/\SqT K H b d/\c.length+d.length<=sizeLine /\
 (c=[]->Q (.ref b) H)/\(c≠[]->d=[]->Q (.ref a) H)/\(c≠[]->d≠[]->∀p,H p=none->Q (.ref p) (upd H p (.tup (c++d))))
theorem op_catA:OpR X (binaryOp .Add) (QjW X.K):=by
 intro c s A H x y v u Q I p o h;obtain⟨a,b,m,B,rfl,rfl,w,t,M,E,q1,q2⟩:=h
 by_cases i:m=[]
 ·subst i;cases p;cases o;obtain⟨L,D,G,_⟩:=I.tuple w;obtain⟨d,O,F,_⟩:=I.tuple t;cases D;obtain⟨⟨cls,N,data,C⟩,q,r,n,hd⟩:=id G;obtain⟨⟨z,l,data2,j⟩,e,g,J,f⟩:=id F;simp only at r hd g f;subst r hd g f
  exact IY ⟨_,q,rfl⟩ ⟨_,e,rfl⟩ FF IG DO DC (Dt _ _)
   (tuple_addW0 a b #[] d.toArray n J N l C j (by simp)) ⟨q,e,⟨.ref b,H,I,rfl,E rfl⟩⟩
 ·exact Qgt c s A H _ _ v u Q I p o ⟨a,b,m,B,rfl,rfl,w,t,i,M,q1 i,q2 i⟩
theorem QhB:OpR X (compareOp .Is) (fun x y H Q=>∃i j,x=.bl i/\y=.bl j/\Q (.bl (i==j)) H):=by
 intro a s d H x y v u Q I c b h;obtain⟨i,j,rfl,rfl,q⟩:=h;cases c;cases b;exact is_bool ⟨.bl _,H,I,rfl,q⟩
theorem Qgq:OpR X (binaryOp .Add) (F2 X.K Zs):=by
 intro m s L H x y v u Q I N M q;refine(op_add.or (op_add_str.or (op_catA.or Qer))) m s L H x y v u Q I N M ?_;obtain⟨R,h,a,b,w,O,c,i,g,e,k⟩:=q;unfold Zs at e;split at e
 ·cases e;exact .inl ⟨_,_,i.int_eq,g.int_eq,k R H _ (Ext.refl _) c (Rw.int _)⟩
 ·split at e
  ·rename_i B;cases e;exact .inr (.inl ⟨_,_,i.str_eq,g.str_eq,B,k R H _ (Ext.refl _) c (Rw.str _)⟩)
  ·cases e
 ·split at e
  ·rename_i F E B;cases e;obtain⟨ad,t,o,q1,l⟩:=c.tupAt i;obtain⟨C,r,n,q2,j⟩:=c.tupAt g;have J:=l.length;have G:=j.length;refine .inr (.inr (.inl ⟨ad,C,t,r,o,n,q1,q2,by lia,fun z=>?_,fun _ z=>?_,fun _ _ p hp=>?_⟩))
   ·subst z;have:F=[]:=N5.mp J;subst this;exact k R H _ (Ext.refl _) c (n▸g)
   ·subst z;have:E=[]:=N5.mp G;subst this;rw[N9]at k;exact k R H _ (Ext.refl _) c (o▸i)
   ·obtain⟨D,A,f,d⟩:=c.tup hp (Rws.append l j);exact k D _ _ A f d
  ·cases e
 ·obtain⟨F,o,e⟩:=Na.mp e;obtain⟨E,n,e⟩:=Na.mp e;split at e
  ·rename_i B;cases e;obtain⟨ad,t,f1,q1,l⟩:=c.loAt i o;obtain⟨C,r,f2,q2,j⟩:=c.loAt g n;have J:=l.length;have G:=j.length;refine .inr (.inr (.inr ⟨ad,C,t,r,f1,f2,q1,q2,by omega,fun p hp=>?_⟩));obtain⟨D,A,f,d⟩:=c.lstI hp (Rws.append l j);exact k D _ _ A f d
  ·cases e
theorem Yc:OpR X (binaryOp .Sub) (F2 X.K QbX):=by
 intro c s d H x y v u Q I g f q;refine QiU c s d H x y v u Q I g f ?_;obtain⟨R,h,a,b,w,m,i,l,j,e,k⟩:=q;unfold QbX at e;split at e
 ·cases e;exact⟨_,_,l.int_eq,j.int_eq,k R H _ (Ext.refl _) i (Rw.int _)⟩
 ·cases e
theorem Qfm:OpR X (binaryOp .Mult) (F2 X.K QhI):=by
 intro c s d H x y v u Q I g f q;refine Qir c s d H x y v u Q I g f ?_;obtain⟨R,h,a,b,w,n,i,l,j,e,k⟩:=q;unfold QhI at e;split at e
 ·split at e
  ·rename_i m;cases e;exact⟨_,_,l.int_eq,j.int_eq,m,k R H _ (Ext.refl _) i (Rw.int _)⟩
  ·cases e
 ·cases e
theorem JX:OpR X (binaryOp .FloorDiv) (F2 X.K KW):=by
 intro c s d H x y v u Q I g f q;refine Qfa c s d H x y v u Q I g f ?_;obtain⟨R,h,a,b,w,n,i,l,j,e,k⟩:=q;unfold KW at e;split at e
 ·split at e
  ·rename_i m;cases e;exact⟨_,_,l.int_eq,j.int_eq,m,k R H _ (Ext.refl _) i (Rw.int _)⟩
  ·cases e
 ·cases e
theorem Qfj:OpR X (binaryOp .Mod) (F2 X.K JC):=by
 intro c s d H x y v u Q I g f q;refine QiX c s d H x y v u Q I g f ?_;obtain⟨R,h,a,b,w,n,i,l,j,e,k⟩:=q;unfold JC at e;split at e
 ·split at e
  ·rename_i m;cases e;exact⟨_,_,l.int_eq,j.int_eq,m,k R H _ (Ext.refl _) i (Rw.int _)⟩
  ·cases e
 ·cases e
theorem QhJ:OpR X (compareOp .Lt) (F2 X.K wLt):=by
 intro c s i H x y v u Q I l j q;refine(op_lt.or Qa6) c s i H x y v u Q I l j ?_;obtain⟨R,h,a,b,w,m,d,g,f,e,k⟩:=q;unfold wLt at e;split at e
 ·cases e;exact .inl ⟨_,_,g.int_eq,f.int_eq,k R H _ (Ext.refl _) d (Rw.bl _)⟩
 ·cases e;exact .inr ⟨_,_,g.str_eq,f.str_eq,k R H _ (Ext.refl _) d (Rw.bl _)⟩
 ·cases e
theorem Qha:OpR X (compareOp .Gt) (F2 X.K wGt):=by
 intro c s d H x y v u Q I g f q;refine Qkk c s d H x y v u Q I g f ?_;obtain⟨R,h,a,b,w,m,i,l,j,e,k⟩:=q;unfold wGt at e;split at e
 ·cases e;exact⟨_,_,l.int_eq,j.int_eq,k R H _ (Ext.refl _) i (Rw.bl _)⟩
 ·cases e
theorem Qia:OpR X (compareOp .GtE) (F2 X.K wGe):=by
 intro c s d H x y v u Q I g f q;refine Qj2 c s d H x y v u Q I g f ?_;obtain⟨R,h,a,b,w,m,i,l,j,e,k⟩:=q;unfold wGe at e;split at e
 ·cases e;exact⟨_,_,l.int_eq,j.int_eq,k R H _ (Ext.refl _) i (Rw.bl _)⟩
 ·cases e
theorem KN:OpR X (compareOp .Is) (F2 X.K wIs):=by
 intro c s i H x y v u Q I l j q;refine(op_isN.or QhB) c s i H x y v u Q I l j ?_;obtain⟨R,h,a,b,w,m,d,g,f,e,k⟩:=q;unfold wIs at e;split at e
 ·cases e;exact .inl ⟨f.non_eq,by rw[Qed g];exact k R H _ (Ext.refl _) d (Rw.bl _)⟩
 ·split at e
  ·cases e;exact .inr ⟨_,_,g.bl_eq,f.bl_eq,k R H _ (Ext.refl _) d (Rw.bl _)⟩
  ·cases e
 ·cases e
theorem Z4:OpR X (compareOp .IsNot) (F2 X.K Jy):=by
 intro c s d H x y v u Q I g f q;refine QfC c s d H x y v u Q I g f ?_;obtain⟨R,h,a,b,w,m,i,l,j,e,k⟩:=q;unfold Jy at e;split at e
 ·cases e;exact⟨j.non_eq,by rw[Qed l];exact k R H _ (Ext.refl _) i (Rw.bl _)⟩
 ·cases e
noncomputable def QaL(a:W)(h:MH):Option (W×MH):=match a with|.int i=>some (.int (-i),h)|_=>none
theorem X4(f:PM X a d):PM X (.UnaryOp .USub a pos) (mUn QaL d):=QW (Qki QhQ f) fun i H Q q=>Jc (un1 q) <|by
 rintro x g ⟨R,h,a,w,j,b,c,e,k⟩
 unfold QaL at e;split at e
 ·cases e;exact⟨_,c.int_eq,k R g _ (Ext.refl _) b (Rw.int _)⟩
 ·cases e
noncomputable def wIx(a b:W)(h:MH):Option (W×MH):=match b with
 |.int i=>match a with
  |.tup d=>(atI d i).map fun w=>(w,h)
  |.str x=>if x.length<=sizeLine then(atI x.cps.toList i).map fun c=>(.str ⟨#[c]⟩,h)else none
  |a=>(lsW h a).bind fun d=>(atI d i).map fun w=>(w,h)
 |_=>none
theorem QbB{K:Nd}(r:Rws K R ws xs)(e:atI ws i=some w):∃v,atI xs i=some v/\Rw K R w v:=by
 unfold atI at e ⊢;rw[<-r.length];obtain⟨j,d,c⟩:=Na.mp e;obtain⟨v,b,a⟩:=r.get c;exact⟨v,by rw[d];exact b,a⟩
theorem QeS:IxR X (F2 X.K wIx):=by
 intro value slice f s t H x y v u Q I C B q D;refine QiR value slice f s t H x y v u Q I C B ?_ D;obtain⟨R,h,a,b,w,G,d,n,m,e,k⟩:=q;unfold wIx at e;split at e
 ·rename_i i;split at e
  ·rename_i z;obtain⟨A,j,g⟩:=Nf.mp e;cases g;obtain⟨ad,l,rfl,q1,p⟩:=d.tupAt n;obtain⟨v1,r,o⟩:=QbB p j;exact .inr (.inl ⟨ad,l,i,v1,rfl,m.int_eq,q1,r,k R H _ (Ext.refl _) d o⟩)
  ·split at e
   ·rename_i E;obtain⟨c,j,g⟩:=Nf.mp e;cases g;exact .inr (.inr ⟨_,i,c,n.str_eq,m.int_eq,E,j,k R H _ (Ext.refl _) d (Rw.str _)⟩)
   ·cases e
  ·obtain⟨z,F,e⟩:=Na.mp e;obtain⟨A,j,g⟩:=Nf.mp e;cases g;obtain⟨ad,l,rfl,q1,p⟩:=d.lsAt n F;obtain⟨v1,r,o⟩:=QbB p j;exact .inl ⟨ad,l,i,v1,rfl,m.int_eq,q1,r,k R H _ (Ext.refl _) d o⟩
 ·cases e
theorem QkA(g:PM X a d)(f:PM X b c)(e:UO b:=by intro _ _;rfl):PM X (.Subscript a b pos) (Qc wIx d c):=
 QW (QjS QeS g f e) fun _ _ _ q=>Jc (QiV q) fun _ _ q1=>Jc q1 fun _ _ q2=>q2
noncomputable def VN(ws:List W)(h:MH):Option (W×MH):=match ws with
 |[.str x]=>if x.length<=sizeLine then some (.int x.length,h)else none
 |[.tup ws]=>some (.int ws.length,h)
 |[a]=>(lsW h a).map fun ws=>(.int ws.length,h)
 |_=>none
theorem VL{K:Nd}:Qgr K (Fs K f) f:=fun _ _ _ q=>q
theorem Yu{K:Nd}(r:Rws K R [a] xs):∃v,xs=[v]/\Rw K R a v:=by
 rw[Rws.cons_iff]at r;obtain⟨v,d,rfl,c,b⟩:=r;rw[Rws.nil_iff]at b;subst b;exact⟨v,rfl,c⟩
theorem QiE{K:Nd}(r:Rws K R [a,b] xs):∃v u,xs=[v,u]/\Rw K R a v/\Rw K R b u:=by
 rw[Rws.cons_iff]at r;obtain⟨v,f,rfl,e,d⟩:=r;obtain⟨u,rfl,c⟩:=Yu d;exact⟨v,u,rfl,e,c⟩
theorem Qbd:CallR X (.builtin "len") (Fs X.K VN):=by
 intro d s g H a i Q I r q;refine(call_len_seq.or WV) d s g H a i Q I r ?_;obtain⟨R,h,o,w,p,b,rw,e,k⟩:=q;unfold VN at e;split at e
 ·split at e
  ·rename_i j;cases e;obtain⟨v,rfl,c⟩:=Yu rw;exact .inr ⟨_,by rw[c.str_eq],j,k R H _ (Ext.refl _) b (Rw.int _)⟩
  ·cases e
 ·cases e;obtain⟨v,rfl,c⟩:=Yu rw;obtain⟨ad,a,rfl,q1,f⟩:=b.tupAt c;exact .inl ⟨ad,a,rfl,.inr q1,by rw[<-f.length];exact k R H _ (Ext.refl _) b (Rw.int _)⟩
 ·obtain⟨n,m,l⟩:=Nf.mp e;cases l;obtain⟨v,rfl,c⟩:=Yu rw;obtain⟨ad,a,rfl,q1,f⟩:=b.lsAt c m;exact .inl ⟨ad,a,rfl,.inl q1,by rw[<-f.length];exact k R H _ (Ext.refl _) b (Rw.int _)⟩
 ·cases e
noncomputable def Uu(ws:List W)(h:MH):Option (W×MH):=match ws with
 |[.tup ws]=>some (.tup ws,h)
 |[a]=>(lsW h a).map fun ws=>(.tup ws,h)
 |_=>none
noncomputable def QdF(ws:List W)(h:MH):Option (W×MH):=match ws with
 |[.tup ws]=>some (.lst ws,h)
 |[a]=>(lsW h a).map fun ws=>(.lst ws,h)
 |_=>none
theorem UV:CallR X (.type "tuple") (Fs X.K Uu):=by
 intro b s j H a m Q I r q;refine Wq b s j H a m Q I r ?_;obtain⟨R,h,x,w,y,c,rw,e,k⟩:=q;unfold Uu at e;split at e
 ·cases e;obtain⟨v,rfl,d⟩:=Yu rw;obtain⟨ad,a,rfl,q1,i⟩:=c.tupAt d;exact⟨ad,a,rfl,.inr ⟨q1,k R H _ (Ext.refl _) c d⟩⟩
 ·obtain⟨u,o,n⟩:=Nf.mp e;cases n;obtain⟨v,rfl,d⟩:=Yu rw;obtain⟨ad,a,rfl,q1,i⟩:=c.lsAt d o;refine⟨ad,a,rfl,.inl ⟨q1,fun p hp=>?_⟩⟩;obtain⟨t,l,g,f⟩:=c.tup hp i;exact k t _ _ l g f
 ·cases e
theorem Qau:CallR X (.type "list") (Fs X.K QdF):=by
 intro d s m H c n Q I r q;refine Ke d s m H c n Q I r ?_;obtain⟨R,h,x,w,y,f,rw,e,k⟩:=q;unfold QdF at e;split at e
 ·cases e;obtain⟨v,rfl,j⟩:=Yu rw;obtain⟨ad,c,rfl,q1,i⟩:=f.tupAt j;refine⟨ad,c,rfl,.inr q1,fun p hp=>?_⟩;obtain⟨l,g,b,a⟩:=f.lstI hp i;exact k l _ _ g b a
 ·obtain⟨u,t,o⟩:=Nf.mp e;cases o;obtain⟨v,rfl,j⟩:=Yu rw;obtain⟨ad,c,rfl,q1,i⟩:=f.lsAt j t;refine⟨ad,c,rfl,.inl q1,fun p hp=>?_⟩;obtain⟨l,g,b,a⟩:=f.lstI hp i;exact k l _ _ g b a
 ·cases e
end
section
variable{prog:Program}{w:World}{A:Around}{E:Value->Shared->Prop}{s:Shared}
theorem V6{lo b:Option Int}(a:IsTup s.heap t items)(i:s.heap.IsSliceOf g l j .none)(pl:IsPart l lo)(n:IsPart j b)
  (hw:HT.sIx items.size 0 lo=0/\HT.sIx items.size items.size b=items.size) (h:Q (.ref t) s):wpAny (model prog w) A (getItem (.ref t) (.ref g)) Q E s:=by
 obtain⟨os,c,e,o⟩:=id i;have f:s.TypeIs (.ref g) "slice":=⟨os,c,e⟩
 unfold getItem
 try with_reducible refine NP ?_
 first|refine Nc (Nh ?_)|skip
 refine Nc (Lf a.typeIs (by decide) ?_)
 refine Nc (E3 (name:=Str.ofString "__getitem__") a.typeIs NY
  (EU NY a.typeIs IL ?_ (IZ _ _)))
 show wpAny _ _ (Builtin.Tuple.tupleItemsOf (.ref t)>>=_) _ _ s;refine Nc (tupleItemsOf_ a ?_);refine Nc (Dd f ?_);rw[if_pos (by decide)];refine Nc (HT.sliceApplied_gen i pl n ?_)
 have d:((((HT.sIx items.size 0 lo:Nat):Int)==0&&(1:Int)==1&&(HT.sIx items.size items.size b-HT.sIx items.size 0 lo)==items.size)=true):=by
  rw[hw.1,hw.2];simp
 show wpAny _ _ (if(((HT.sIx items.size 0 lo:Nat):Int)==0&&(1:Int)==1&&(HT.sIx items.size items.size b-HT.sIx items.size 0 lo)==items.size)=true then _ else _) _ _ s;rw[if_pos d];refine Nc (m:=Builtin.Tuple.tupleIsExact _) ?_;unfold Builtin.Tuple.tupleIsExact;refine Nc (Dd a.typeIs (Nh ?_));rw[if_pos (by decide)];exact Nc (DB (Nh ⟨_,rfl,Nh h⟩))
end
noncomputable def QcH(xs:List a)(lo b:Option Int):List a:=(xs.drop (HT.sIx xs.length 0 lo)).take (HT.sIx xs.length xs.length b-HT.sIx xs.length 0 lo)
noncomputable def wSl(a:W)(lo c:Option Int)(h:MH):Option (W×MH):=match a with
 |.tup b=>some (.tup (QcH b lo c),h)
 |.str x=>if x.length<=sizeLine then some (.str (Txt.slice x lo c),h)else none
 |a=>(lsW h a).map fun b=>(.lst (QcH b lo c),h)
theorem Qcp{K:Nd}{ws:List W}(r:Rws K R ws xs)(lo a:Option Int):Rws K R (QcH ws lo a) (QdT xs lo a):=by
 unfold QcH QdT;rw[r.length];exact(r.drop _).take _
theorem Qaw{xs:List b}{lo a:Option Int}(h:HT.sIx xs.length 0 lo=0/\HT.sIx xs.length xs.length a=xs.length):QcH xs lo a=xs:=by
 unfold QcH;rw[h.1,h.2];simp
noncomputable abbrev MOp:=MSt->MH->Option (Option Int×MH)
noncomputable def tIO(K:Nd)(m:MOp):TO:=fun e H Q=>∃R a h o b,Rh K R h H/\Rst K R a e/\m a h=some (o,b)/\∀c d,Ext R c->Rh K c b d->Q o d
def PMO(X:Cx)(e:Option Expr)(m:MOp):Prop:=PO X e (tIO X.K m)
noncomputable def QaN:MOp:=fun _ h=>some (none,h)
noncomputable def QaB(m:ME):MOp:=fun a h=>(m a h).bind fun p=>match p.1 with|.int i=>some (some i,p.2)|_=>none
noncomputable def mSl(d:ME)(b c:MOp):ME:=fun a h=>(d a h).bind fun p=>(b a p.2).bind fun q=>(c a q.2).bind fun r=>wSl p.1 q.1 r.1 r.2
section
variable{X:Cx}
theorem sl_tupA:SlR X (fun x lo b H Q=>∃a xs,x=.ref a/\SqT X.K H a xs/\((HT.sIx xs.length 0 lo=0/\HT.sIx xs.length xs.length b=xs.length)->Q (.ref a) H) /\
  (¬(HT.sIx xs.length 0 lo=0/\HT.sIx xs.length xs.length b=xs.length)->∀p,H p=none->Q (.ref p) (upd H p (.tup (QdT xs lo b))))):=by
 intro c s n H x v q o lo b t Q I f m i g h;obtain⟨a,xs,rfl,j,q1,q2⟩:=h
 by_cases hw:HT.sIx xs.length 0 lo=0/\HT.sIx xs.length xs.length b=xs.length
 ·cases f;obtain⟨e,r,l,u⟩:=I.tuple j;have d:e.toArray.size=xs.length:=by rw[Nk];exact r.length.symm
  refine⟨"tuple",_,NY.lookup,l.typeIs,?_⟩;exact V6 l m i g (by rw[d];exact hw) ⟨.ref a,H,I,rfl,q1 hw⟩
 ·exact QhS c s n H (.ref a) v q o lo b t Q I f m i g ⟨a,xs,rfl,j,hw,q2 hw⟩
theorem Qip:SlR X (fun x lo f H Q=>∃z,x=.str z/\z.length<=sizeLine/\Q (.str (Txt.slice z lo f)) H):=by
 intro a s n H x v w r lo f y Q I o c p m h;obtain⟨z,rfl,b,q⟩:=h;obtain⟨t,rfl⟩:=o;refine⟨"str",_,PySem.F.slot_str_getitem.lookup,LO _ _ _,?_⟩;have fin:∀(e:Tok) (k:Nat),EP X a n Q (.str (Txt.slice z lo f) e) { s with toks:=k }:=fun e k=>⟨.str _,H,I.tok _,⟨e,rfl⟩,q⟩
 cases p with
 |none=>
  cases m with
  |none=>exact E4 (l:=none) (u:=none) (st:=none) c rfl (D3 ⟨Nu (Dv z _ _) b,fin⟩)
  |int j d=>exact E4 (l:=none) (u:=some (j,d)) (st:=none) c rfl (D3 ⟨Nu (Dv z _ _) b,fin⟩)
 |int i g=>
  cases m with
  |none=>exact E4 (l:=some (i,g)) (u:=none) (st:=none) c rfl (D3 ⟨Nu (Dv z _ _) b,fin⟩)
  |int j d=>exact E4 (l:=some (i,g)) (u:=some (j,d)) (st:=none) c rfl (D3 ⟨Nu (Dv z _ _) b,fin⟩)
theorem Kq:PMO X none QaN:=fun a s c H Q I d=>by
 obtain⟨R,b,h,o,g,f,st,e,k⟩:=d;cases e;exact Qfy a s c H Q I (k R H (Ext.refl _) f)
theorem Kv(n:PM X e m):PMO X (some e) (QaB m):=fun a s f H Q I g=>by
 obtain⟨R,b,h,o,u,l,st,r,k⟩:=g;refine QfJ n a s f H Q I ?_;obtain⟨⟨w,p⟩,q,d⟩:=Na.mp r;refine⟨R,b,h,w,p,l,st,q,fun R1 t v i c j=>?_⟩;cases w<;>simp only at d<;>first|(cases d;exact⟨_,j.int_eq,k R1 t i c⟩)|cases d
theorem Ky{lo z:Option Expr}{pos I:Pos}(S:PM X a M)(O:PMO X lo J)(P:PMO X z L):PM X (.Subscript a (.Slice lo z none I) pos) (mSl M J L):=
 QW (QcP (sl_list.or (sl_tupA.or Qip)) S O P) fun σ H Q E=>by
  obtain⟨R,f,h,w,h',G,st,e,k⟩:=E;obtain⟨⟨a,B⟩,Z,e2⟩:=Na.mp e;obtain⟨⟨l,A⟩,Y,e3⟩:=Na.mp e2;obtain⟨⟨u,T⟩,U,d⟩:=Na.mp e3;refine⟨R,f,h,a,B,G,st,Z,fun R1 H1 x r t F=>⟨R1,f,B,l,A,t,st.mono r,Y,fun R2 H2 q s=>⟨R2,f,A,u,T,s,st.mono (r.trans q),U,fun C D y b=>?_⟩⟩⟩;have c:=Rw.mono (q.trans y) _ _ F;have j:=k.ext (r.trans (q.trans y));dsimp only at d;unfold wSl at d;split at d
  ·cases d;obtain⟨ad,n,rfl,q1,m⟩:=b.tupAt c;refine .inr (.inl ⟨ad,n,rfl,q1,fun hw=>?_,fun _ p hp=>?_⟩)
   ·rw[Qaw (by rw[m.length];exact hw)]at j;exact j C D _ (Ext.refl _) b c
   ·obtain⟨v,o,i,g⟩:=b.tup hp (Qcp m l u);exact j v _ _ o i g
  ·split at d
   ·rename_i N;cases d;exact .inr (.inr ⟨_,c.str_eq,N,j C D _ (Ext.refl _) b (Rw.str _)⟩)
   ·cases d
  ·obtain⟨ys,e5,e6⟩:=Nf.mp d;cases e6;obtain⟨ad,n,rfl,q1,m⟩:=b.lsAt c e5;refine .inl ⟨ad,n,rfl,q1,fun p hp=>?_⟩;obtain⟨v,o,i,g⟩:=b.lstI hp (Qcp m l u);exact j v _ _ o i g
end
def QaT(X:Cx)(id:String)(f:W->List W->MH->Option (W×MH)):Prop:=
 MtR X id (fun x d H Q=>∃R h a b w c,Rh X.K R h H/\Rw X.K R a x/\Rws X.K R b d/\f a b h=some (w,c)/\After X.K R w c Q)
noncomputable def tyW(h:MH)(T:String):W->Bool
 |.str _=>T=="str"
 |.int _=>T=="int"
 |.lst _=>T=="list"
 |.frz _=>T=="list"
 |.ref n=>match h[n]? with|some (.lst _)=>T=="list"|some (.dic _)=>T=="dict"|some (.dct _)=>T=="dict"|_=>false
 |_=>false
noncomputable def mMt(T:String)(f:W->List W->MH->Option (W×MH))(mo:ME)(ms:MA):ME:=fun a h=>(mo a h).bind fun p=>if tyW p.2 T p.1=true then(ms a p.2).bind fun q=>f p.1 q.1 q.2 else none
theorem QeD{K:Nd}{x:V}(c:Rh K R h H)(r:Rw K R a x)(e:tyW h T a=true):tyV K T x H:=by
 cases a with
 |str _=>rw[r.str_eq];exact EG e
 |int _=>rw[r.int_eq];exact EG e
 |lst _=>
  obtain⟨ad,b,rfl,q,_⟩:=c.lstAt r;exact .inl ⟨EG e,b,SqL.of q⟩
 |frz _=>
  obtain⟨ad,b,rfl,q,_⟩:=c.frzAt r;exact .inl ⟨EG e,b,q⟩
 |ref n=>
  simp only[tyW]at e;split at e
  ·rename_i j d;obtain⟨_,rfl,b,f,_⟩:=c.refAt r d;exact .inl ⟨EG e,b,SqL.of f⟩
  ·rename_i i d;unfold Rw at r;obtain⟨g,f,_⟩:=c.obj n _ d;rw[r.2];exact .inr (.inr (.inl ⟨EG e,.inl ⟨g,f⟩⟩))
  ·rename_i i d;unfold Rw at r;obtain⟨g,f,_⟩:=c.obj n _ d;rw[r.2];exact .inr (.inr (.inl ⟨EG e,.inr ⟨g,f⟩⟩))
  ·cases e
 |_=>cases e
section
variable{X:Cx}{o e:Expr}{es:List Expr}{mo:ME}{ms:MA}{name:Str}{apos cpos:Pos}{T id:String}{f:W->List W->MH->Option (W×MH)}
theorem Qiq{X:Cx}{e:Expr}{es:List Expr}{cpos:Pos}(a:decide ((e::es).length<30)=true)(b:JM e=false)(hp:Vo es=true) :
  ((backTo cpos (starEach (e::es) X.env)).all (fun x=>!x.1)&&(backToKw cpos (keywordEach [] X.env)).all (fun x=>x.1.isSome)
   && decide ((e::es).length+([]:List Keyword).length+(if([]:List Keyword).isEmpty then 0 else 1)<30))=true:=by
 rw[Qd1 (by unfold Vo at hp ⊢;rw[II,b,hp];rfl)];exact a
theorem Yr(B:PlainAttrs T)(slot:Slot T name id)(p:typeOf (.builtin id)=pure (.type "method_descriptor"))(E:QaT X id f)(D:PM X o mo)(F:PMA X (e::es) ms)
  (d:attributeBase o name X.env (eval o X.env)=eval o X.env:=by rfl) (j:decide ((e::es).length<30)=true:=by rfl)
  (c:(apos.endLine==cpos.line)=true:=by rfl) (u:JM e=false:=by rfl) (b:Vo es=true:=by rfl) :
  PM X (.Call (.Attribute o name apos) (e::es) [] cpos) (mMt T f mo ms):=
 QW (Qky B slot p E D F d (Qiq j u b) c (QQ u) (Jm b)) fun L H Q z=>by
  obtain⟨R,g,h,w,G,A,st,e,k⟩:=z;obtain⟨⟨a,y⟩,I,l⟩:=Na.mp e;dsimp only at l;split at l
  ·rename_i C;obtain⟨⟨s,v⟩,es,J⟩:=Na.mp l;exact⟨R,g,h,a,y,A,st,I,fun R1 O x r i t=>⟨QeD i t C,R1,g,y,s,v,i,st.mono r,es,fun R2 N M q n m=>⟨R2,v,a,s,w,G,n,Rw.mono q _ _ t,m,J,k.ext (r.trans q)⟩⟩⟩
  ·cases l
theorem Qhe(r:PlainAttrs T)(slot:Slot T name id)(j:typeOf (.builtin id)=pure (.type "method_descriptor"))(u:QaT X id f)(t:PM X o mo)
  (c:attributeBase o name X.env (eval o X.env)=eval o X.env:=by rfl) (b:(apos.endLine==cpos.line)=true:=by rfl):PM X (.Call (.Attribute o name apos) [] [] cpos) (mMt T f mo Qd):=
 QW (QiG r slot j u t c b) fun A H Q n=>by
  obtain⟨R,i,h,w,v,q,st,e,k⟩:=n;obtain⟨⟨a,m⟩,y,g⟩:=Na.mp e;dsimp only at g;split at g
  ·rename_i s;obtain⟨⟨B,C⟩,es,z⟩:=Na.mp g;cases es;exact⟨R,i,h,a,m,q,st,y,fun R1 D x p d l=>⟨QeD d l s,R1,m,a,[],w,v,d,l,Rws.nil,z,k.ext p⟩⟩
  ·cases g
end
noncomputable def QB(a:W)(ws:List W)(h:MH):Option (W×MH):=match a,ws with
 |.ref n,[w]=>match h[n]? with|some (.lst b)=>if b.length<sizeLine then some (.non,h.set n (.lst (b++[w])))else none|_=>none
 |_,_=>none
noncomputable def Y3(a:W)(ws:List W)(h:MH):Option (W×MH):=match a,ws with
 |.ref n,[w]=>match h[n]? with|some (.lst c)=>(loW h w).bind fun b=>if c.length+b.length<=sizeLine then some (.non,h.set n (.lst (c++b)))else none|_=>none
 |_,_=>none
noncomputable def Qiw(a:W)(ws:List W)(h:MH):Option (W×MH):=match a,ws with
 |.ref n,[]=>match h[n]? with|some (.lst b)=>(b[b.length-1]?).map fun w=>(w,h.set n (.lst b.dropLast))|_=>none
 |_,_=>none
section
variable{X:Cx}
theorem Rws.dropLast{K:Nd}(r:Rws K R ws vs):Rws K R ws.dropLast vs.dropLast:=by
 rw[Im,Im,r.length];exact r.take _
theorem QaI:QaT X "list.append" QB:=by
 intro b s i H x l v m Q I p r q;refine QbL b s i H x l v m Q I p r ?_;obtain⟨R,h,a,C,w,E,f,t,c,e,k⟩:=q;unfold QB at e;split at e
 ·rename_i n D;split at e
  ·rename_i B u;split at e
   ·rename_i z;cases e;obtain⟨d,rfl,j,A,g⟩:=f.refAt t u;obtain⟨y,rfl,o⟩:=Yu c;refine⟨_,j,y,rfl,rfl,A,by rw[<-g.length];exact z,?_⟩;exact k R _ _ (Ext.refl _) (f.put d ⟨_,rfl,Rws.append g (Rws.cons o Rws.nil)⟩) Rw.non
   ·cases e
  ·cases e
 ·cases e
theorem Qay:QaT X "list.extend" Y3:=by
 intro b s j H x o v p Q I t u q;refine QcF b s j H x o v p Q I t u ?_;obtain⟨R,h,a,L,w,N,d,z,c,e,k⟩:=q;unfold Y3 at e;split at e
 ·rename_i n M;split at e
  ·rename_i J A;obtain⟨G,E,e⟩:=Na.mp e;split at e
   ·rename_i B;cases e;obtain⟨f,rfl,m,D,i⟩:=d.refAt z A;obtain⟨y,rfl,r⟩:=Yu c;obtain⟨F,l,rfl,C,g⟩:=d.loAt r E;refine⟨_,F,m,l,rfl,rfl,D,C,by rw[<-i.length,<-g.length];exact B,?_⟩;exact k R _ _ (Ext.refl _) (d.put f ⟨_,rfl,Rws.append i g⟩) Rw.non
   ·cases e
  ·cases e
 ·cases e
theorem QfN:QaT X "list.pop" Qiw:=by
 intro c s i H x l v m Q I p r q;refine Qi2 c s i H x l v m Q I p r ?_;obtain⟨R,h,a,E,w,G,g,t,b,e,k⟩:=q;unfold Qiw at e;split at e
 ·rename_i n;split at e
  ·rename_i D u;obtain⟨F,C,B⟩:=Nf.mp e;cases B;obtain⟨f,rfl,j,z,d⟩:=g.refAt t u;rw[Rws.nil_iff]at b;subst b;obtain⟨y,A,o⟩:=d.get C;refine⟨_,j,y,rfl,rfl,z,by rw[<-d.length];exact A,?_⟩;exact k R _ _ (Ext.refl _) (g.put f ⟨_,rfl,d.dropLast⟩) o
  ·cases e
 ·cases e
noncomputable def Uz:List W->Option (List Str)
 |[]=>some []
 |.str x::r=>(Uz r).map (x::·)
 |_=>none
theorem Wz{K:Nd}:∀{ws:List W} {xs:List V} {ys:List Str},Rws K R ws xs->Uz ws=some ys->xs=ys.map V.str
 |[],xs,ys,r,e=>by rw[Rws.nil_iff]at r;subst r;cases e;rfl
 |w::ws,xs,ys,r,e=>by
  rw[Rws.cons_iff]at r;obtain⟨v,vs,rfl,b,a⟩:=r;cases w<;>simp only[Uz]at e<;>first|cases e|skip
  obtain⟨f,d,c⟩:=Nf.mp e;subst c;rw[b.str_eq,Wz a d];rfl
theorem XQ:∀{ys:List Str} {us:List Value},Vals (ys.map V.str) us->StrsAre us ys
 |[],us,r=>by cases r;exact .nil
 |y::ys,us,r=>by
  cases r with
  |cons b a=>obtain⟨t,rfl⟩:=b;exact .cons y t (XQ a)
noncomputable def Qag(a:W)(ws:List W)(h:MH):Option (W×MH):=match a,ws with
 |.str x,[.tup d]=>(Uz d).bind fun c=>if(c.map (·.length)).sum+c.length*x.length<=16777216 then some (.str (Txt.join x c),h)else none
 |.str x,[b]=>(lsW h b).bind fun d=>(Uz d).bind fun c=>if(c.map (·.length)).sum+c.length*x.length<=16777216 then some (.str (Txt.join x c),h)else none
 |_,_=>none
theorem QcN:QaT X "str.join" Qag:=by
 intro B s L H x M v O Q I d z q;obtain⟨R,h,a,N,w,P,f,A,c,e,k⟩:=q;unfold Qag at e;split at e
 ·rename_i F E;obtain⟨C,r,e⟩:=Na.mp e;split at e
  ·rename_i p;cases e;obtain⟨y,rfl,j⟩:=Yu c;obtain⟨ad,D,rfl,q1,m⟩:=f.tupAt j;obtain⟨u,rfl,l⟩:=KG z;cases l;rw[A.str_eq]at d;obtain⟨t,rfl⟩:=d;obtain⟨o,g,n,_⟩:=I.tuple q1;have:=Wz m r;subst this;exact join_tuple n (by simpa using XQ g) p fun i G=>⟨.str _,H,I.tok _,⟨i,rfl⟩,k R H _ (Ext.refl _) f (Rw.str _)⟩
  ·cases e
 ·rename_i F b _;obtain⟨E,J,e⟩:=Na.mp e;obtain⟨C,r,e⟩:=Na.mp e;split at e
  ·rename_i p;cases e;obtain⟨y,rfl,j⟩:=Yu c;obtain⟨ad,D,rfl,q1,m⟩:=f.lsAt j J;obtain⟨u,rfl,l⟩:=KG z;cases l;rw[A.str_eq]at d;obtain⟨t,rfl⟩:=d;obtain⟨o,g,n,_⟩:=I.list q1;have:=Wz m r;subst this;exact join_list n.isList (by simpa using XQ g) p fun i G=>⟨.str _,H,I.tok _,⟨i,rfl⟩,k R H _ (Ext.refl _) f (Rw.str _)⟩
  ·cases e
 ·cases e
end
structure Cal(P:Program)(w:World)(K:Nd)(mg:Str->Option Value)(base:Heap)(k:Nat)(x:Str)(ps:List Str)(g:FM):Prop where
 ex:∃(f:Addr) (fd:FuncData),FnOk P w K mg base CX0 k f fd ps (spM K ps.length g)/\mg x=some (.ref f)/\N8 K (.ref f)=true/\Binds K fd ps []/\∃(oc:Value) (od:Option Addr) (osl:Array (Option Value)),K.lookup f=some ⟨oc,od,.func fd,osl⟩
structure DefAt(K:Nd)(mg:Str->Option Value)(x:Str)(st:Stmt)(ps:List Str):Prop where
 ex:∃(f:Addr) (fd:FuncData),Fun K x x st f fd/\mg x=some (.ref f)/\Binds K fd ps []
theorem Xi{K:Nd}{h:Heap}{x:Str}{st:Stmt}{f:Addr}{j:Value}{kV d pm g ct:Value}(X:K.In h)(G:h.Ns mainGlobals m)
  (a:Dw K mainGlobals x=some (some (.ref f))) (l:K.lookup f=some ⟨j,o,.func (Ex x x (JZ st) (ZK st) (Qf st) .none kV d pm i g ct),n⟩) (c:DA K g x=true) (k:N8 K (.ref f)=true)
  (b:∀(kV d pm:Value) (i:Option Addr) (e ct:Value) (us:List Value),us.length=ps.length->bindArgs (Ex x x (JZ st) (ZK st) (Qf st) .none kV d pm i e ct) ⟨us,[]⟩=pure (ps.zip us)):DefAt K m x st ps:=
 ⟨f,_,Gg l c k,Dm X G a,(Gg l c k).binds b⟩
structure Glob(K:Nd)(mg:Str->Option Value)(x:Str)(w:W):Prop where
 ex:∃(v:V) (u:Value),mg x=some u/\RelV v u/\∀R,Rw K R w v
theorem Qjh{K:Nd}(X:K.In h)(G:h.Ns mainGlobals b)(a:Dw K mainGlobals x=some (some (.int i t))):Glob K b x (.int i):=
 ⟨.int i,_,Dm X G a,⟨t,rfl⟩,fun _=>Rw.int i⟩
noncomputable def Qa5:List Str->List W:=List.map W.str
theorem GI{K:Nd}:∀(ys:List Str),Rws K R (Qa5 ys) (ys.map V.str)
 |[]=>Rws.nil
 |y::ys=>Rws.cons (Rw.str y) (GI ys)
theorem Uy:∀{a:List Value} {ys:List Str},StrsAre a ys->Vals (ys.map V.str) a
 |_,_,.nil=>.nil
 |_,_,.cons y t r=>.cons ⟨t,rfl⟩ (Uy r)
theorem QcD{K:Nd}{h:Heap}{x:Str}{c:Addr}{n:Nat}(X:K.In h)(G:h.Ns mainGlobals d)(a:Dw K mainGlobals x=some (some (.ref c)))
  (l:K.lookup c=some ⟨.type "tuple",g,.seq b n,f⟩) (hz:b.size<=sizeLine) (e:StrsAre b.toList ys):Glob K d x (.tup (Qa5 ys)):=
 ⟨.ref c,_,Dm X G a,rfl,fun R=>by
  unfold Rw
  exact⟨c,_,rfl,.inr ⟨_,b,n,l,rfl,rfl,hz,Uy e⟩,GI ys⟩⟩
section
variable{X:Cx}{k n:Nat}{g:FM}{x:Str}{ps:List Str}{p pos:Pos}{e:Expr}{es:List Expr}{ms:MA}
theorem Qj(C:Cal X.prog X.w X.K X.mg X.base k x ps g)(hr:Room k X.A)(i:Gl X x)(m:PMA X (e::es) ms)(c:ps.length=n:=by rfl)
  (b:(x==("__debug__":Str))=false:=by decide) (j:JM e=false:=by rfl) (a:Vo es=true:=by rfl) :
  PM X (.Call (.Name x p) (e::es) [] pos) (Ql n g ms):=by
 obtain⟨f,fd,F,d,h,l,_⟩:=C.ex;subst c;exact Qfc F hr i d h l QdN m b j a
theorem QcE(C:Cal X.prog X.w X.K X.mg X.base k x ps g)(hr:Room k X.A)(h:Gl X x)(b:ps.length=n:=by rfl)(a:(x==("__debug__":Str))=false:=by decide):PM X (.Call (.Name x p) [] [] pos) (Ql n g Qd):=by
 obtain⟨f,fd,F,c,d,i,_⟩:=C.ex;subst b;exact Qdx F hr h c d i QdN a
theorem GQ(C:Glob X.K X.mg x w)(b:Gl X x)(hd:(x==("__debug__":Str))=false:=by decide):PM X (.Name x pos) (mC w):=by
 obtain⟨v,u,a,r,rw⟩:=C.ex;exact QgM b a r rw hd
end
section
variable{P:Program}{w:World}{K:Nd}{mg:Str->Option Value}{base:Heap}
theorem QK{st:Stmt}(d:DefAt K mg x st ps)(S:FnScope N ps (Qf st))(hN:N.length=ps.length+more)
  (c:∀(f:Addr) (b:Value) (A:Around) (a:List Env) (s:Shared) (H:Hp) (E:XK),Room k (A.deeper (envOfC x (Qf st) s.heap.objs.size f b))->Qca (Qc3 CX0 P w K mg base N x (Qf st) f b A a s H E).nox (ZK st) m) :
  Cal P w K mg base (k+1) x ps (QI more m):=by
 obtain⟨f,fd,F,j,n⟩:=d.ex;obtain⟨i,h,kV,o,pm,p,b,ct,g,e,lk,l⟩:=F.ex;exact⟨f,fd,Qil F S hN (fun b A a s H E hr=>c f b A a s H E hr),j,F.kp,n,i,h,g,lk⟩
theorem Cal.imp(C:Cal P w K mg base k x ps g)(h:∀vs H Q E,spM K ps.length g' vs H Q E->spM K ps.length g vs H Q E):Cal P w K mg base k x ps g':=by
 obtain⟨f,fd,F,r⟩:=C.ex;exact⟨f,fd,F.imp h,r⟩
theorem Cal.eq(C:Cal P w K mg base k x ps g)(h:∀ws hp r,ws.length=ps.length->g' ws hp=some r->g ws hp=some r):Cal P w K mg base k x ps g':=
 C.imp fun _ _ _ _ z=>by
  obtain⟨R,ws,hp,w,d,b,c,a,e,k⟩:=z;exact⟨R,ws,hp,w,d,b,c,a,h ws hp _ b e,k⟩
end
theorem Kl{K:Nd}:∀(ns:List Int),Rws K R (ns.map W.int) (ns.map V.int)
 |[]=>Rws.nil
 |n::ns=>Rws.cons (Rw.int n) (Kl ns)
theorem QmB{l:PySem.W.OpenLaw}{d:DefRec}{K:Params->Nd}{st:Stmt}{sem:FM}{k:Nat}(y:l.most=some 63)(B:d.params.defaults=[])(hr:Room k callerA)(A:d.name="law")
  (S:∀(w:World) (h:Heap),X w h->(K w.params).In h)
  (R:∀(kV c pm:Value) (C:Option Addr) (g ct:Value) (s:Shared) (u:Value),BindsTo s (Ex "law" "law" (JZ st) (ZK st) (Qf st) .none kV c pm C g ct) ⟨[u],[]⟩ [("script",u)])
  (F:∀(w:World) (i:Str->Option Value) (h:Heap),(K w.params).In h->h.Ns mainGlobals i ->
   DefAt (K w.params) i "law" st ["script"]/\∀base:Heap,(K w.params).In base->base.Ns mainGlobals i->Cal l.prog w (K w.params) i base k "law" ["script"] sem)
  (main:∀ns:List Int,ns.length<=63->∃h',sem [.frz (ns.map W.int)] []=some (.bl true,h')) :
  IH q t XP X l.row.toRowW d [] (fun f vs=>IB f vs):=by
 refine L2.QbI (n:=63) (k:=k) (x:="script") (CX:=fun _=>CX0) (sp:=fun w=>spM (K w.params) 1 sem) y (by decide) B hr S ?_ ?_ fun _ _ _ _ _ z=>z
 ·intro w i fa h Y G b;obtain⟨D,Z⟩:=F w i h Y G;obtain⟨f,fd,Fu,r,_⟩:=D.ex;rw[A]at b;rw[r]at b;cases b;obtain⟨oc,od,kV,c,pm,C,g,ct,J,e,lk,Q⟩:=Fu.ex;refine⟨fd,fun s u=>?_,fun base O N=>?_⟩
  rotate_left
  ·obtain⟨f',U,F',p,_,_,M,L,E,j⟩:=(Z base O N).ex;rw[r]at p;cases p;rw[lk]at j;cases j;exact F'
  rw[e];exact R kV c pm C g ct s u
 ·intro w H a ns P hO T;obtain⟨h',e⟩:=main ns P;refine⟨⟨fun _=>0,0,H,fun _=>none⟩,[.frz (ns.map W.int)],[],.bl true,h',rfl,⟨rfl,fun _ _ z=>z,fun n y=>absurd y (E6 _),fun m n r=>absurd r (E6 _),(fun n o z=>by simp at z),(fun _ _ z=>by cases z),(fun _ _=>rfl),(fun _ _ z=>by cases z)⟩,?_,e,fun R' H' v _ _ I=>I.bl_eq⟩;refine Rws.cons ?_ Rws.nil;unfold Rw;exact⟨a,_,rfl,T,Kl ns⟩
noncomputable def Qck(a:Scope):Bool:=a.names.all fun y=>y.2 != .cell&&(y.2 != .local ||a.names.lookup y.1==some .local)
noncomputable def QjH(N:List Str)(xs a:Scope)(cp:List (Option Nat))(Nb:List Str):Bool:=(cp.zip Nb).all fun p=>match p.1 with
 |none=>true
 |some j=>N[j]?==some p.2&&(xs.names.lookup p.2==some .cell ||xs.names.lookup p.2==some .free)&&a.names.lookup p.2==some .free
noncomputable def Qeo(a:Scope)(ks:List Str):Bool:=a.names.all fun y=>y.2 != .free ||ks.contains y.1
theorem Jr{env:Env}:∀{a:List (Str×NameKind)} {x:Str},a.lookup x=some .free ->
  (a.map fun(n,k)=>if(k==NameKind.free&&env.scope.kind==.function&&env.kindOf n==some .cell)then(n,NameKind.cell)else(n,k)).lookup x=some .cell \/
  (a.map fun(n,k)=>if(k==NameKind.free&&env.scope.kind==.function&&env.kindOf n==some .cell)then(n,NameKind.cell)else(n,k)).lookup x=some .free
 |[],_,h=>by simp at h
 | (n,k)::r,x,h=>by
  have d:=@Jr env r x;rw[Nr];dsimp only;cases b:x==n with
  |true=>
   simp only[NX,b]at h;cases h
   by_cases c:(NameKind.free==NameKind.free&&env.scope.kind==.function&&env.kindOf n==some .cell)=true
   ·rw[if_pos c];exact .inl (by simp[NX,b])
   ·rw[if_neg c];exact .inr (by simp[NX,b])
  |false=>
   simp only[NX,b]at h
   by_cases c:(k==NameKind.free&&env.scope.kind==.function&&env.kindOf n==some .cell)=true
   ·rw[if_pos c];simp only[NX,b];exact d h
   ·rw[if_neg c];simp only[NX,b];exact d h
theorem Zx{env:Env}:∀{a:List (Str×NameKind)} {x:Str} {c:NameKind},(∀y∈a,y.2≠.cell)->(c=.cell\/c=.free) ->
  (a.map fun(n,k)=>if(k==NameKind.free&&env.scope.kind==.function&&env.kindOf n==some .cell)then(n,NameKind.cell)else(n,k)).lookup x=some c->(x,NameKind.free)∈a
 |[],_,_,_,_,h=>by simp at h
 | (n,k)::r,x,c,e,f,h=>by
  rw[Nr]at h;dsimp only at h;have g:=@Zx env r x c (fun y i=>e y (Nt _ i)) f;cases d:x==n with
  | true=>
   have:x=n:=EG d;subst this
   by_cases b:(k==NameKind.free&&env.scope.kind==.function&&env.kindOf x==some .cell)=true
   ·have:k=.free:=by
     simp only[NB,beq_iff_eq]at b;exact b.1.1
    subst this;exact Nv
   ·rw[if_neg b]at h;simp[NX]at h;subst h
    rcases f with z|z
    ·exact absurd z (e (x,k) Nv)
    ·subst z;exact Nv
  |false=>
   refine Nt _ (g ?_)
   by_cases b:(k==NameKind.free&&env.scope.kind==.function&&env.kindOf n==some .cell)=true
   ·rw[if_pos b]at h;simpa only[NX,d]using h
   ·rw[if_neg b]at h;simpa only[NX,d]using h
theorem Qav{d:List (Str×Addr)}(h:d.lookup x=some c):(x,c)∈d:=by
 induction d with
 |nil=>simp at h
 | cons p r e=>
  obtain⟨n,a⟩:=p;cases b:x==n with
  |true=>
   simp only[NX,b]at h;cases h;rw[EG b];exact Nv
  |false=>
   simp only[NX,b]at h;exact Nt _ (e h)
theorem Wm{d:List (Str×Addr)}(h:x∈d.map (·.1)):∃c,d.lookup x=some c:=by
 induction d with
 |nil=>simp at h
 | cons p r e=>
  obtain⟨n,a⟩:=p;cases b:x==n with
  |true=>exact⟨a,by simp only[NX,b]⟩
  |false=>
   rcases Nx.mp h with z|z
   ·dsimp only at z;rw[z,beq_self_eq_true]at b;cases b
   ·obtain⟨c,f⟩:=e z;exact⟨c,by simp only[NX,b];exact f⟩
theorem GL(g:closureFor d X.env=pure o)(kind:d.kind=.function)(r:Qck d=true)(u:o.map (·.1)=ks)(n:Qeo d ks=true)
  (f:∀p∈o,X.env.cells.lookup p.1=some p.2) (hN:X.N=N) (q:X.env.scope=xs) (m:cp.length=Nb.length) (v:QjH N xs d cp Nb=true):BlkOk X d o Nb cp:=by
 have e:∀y∈d.names,y.2≠.cell:=fun y l=>by
  have:=Eu.mp r y l;simp only[NB,bne_iff_ne]at this;exact this.1
 refine⟨g,e,kind,fun y l m=>?_,fun x c h=>f _ (Qav h),fun x h=>?_,m,fun i j x A w=>?_⟩
 ·have:=Eu.mp r y l;simp only[NB,EC,bne_iff_ne,beq_iff_eq]at this
  rcases this.2 with z|z
  ·exact absurd m z
  ·exact z
 ·have t:(x,NameKind.free)∈d.names:=by
   rcases h with h|h
   ·exact Zx e (.inl rfl) h
   ·exact Zx e (.inr rfl) h
  have:=Eu.mp n _ t;simp only[EC,bne_iff_ne,ne_eq,not_true_eq_false,false_or,List.contains_iff_mem]at this;exact Wm (by rw[u];exact this)
 ·have s:(cp.zip Nb)[i]?=some (some j,x):=by rw[EK];exact⟨A,w⟩
  have:=Eu.mp v _ (DZ s);simp only[NB,EC,beq_iff_eq]at this;obtain⟨⟨a,b⟩,c⟩:=this;refine⟨by rw[hN];exact a,?_,?_,Jr c⟩
  ·rw[q]
   rcases b with b|b
   ·exact .inr (.inl b)
   ·exact .inr (.inr b)
  ·unfold Env.kindOf;rw[q];exact b
theorem KQ(kind:a.kind=.function)(l:Qck a=true)(g:Qeo a []=true)(f:cp.length=Nb.length)(n:cp.all (·.isNone)=true):BlkOk X a [] Nb cp:=by
 have d:∀y∈a.names,y.2≠.free:=fun y e z=>by
  have:=Eu.mp g y e;simp[z]at this
 have b:∀y∈a.names,y.2≠.cell:=fun y e=>by
  have:=Eu.mp l y e;simp only[NB,bne_iff_ne]at this;exact this.1
 refine⟨closureFor_none d,b,kind,fun y e f=>?_,fun x c h=>by simp at h,fun x h=>?_,f,fun i j x o p=>?_⟩
 ·have:=Eu.mp l y e;simp only[NB,EC,bne_iff_ne,beq_iff_eq]at this
  rcases this.2 with z|z
  ·exact absurd f z
  ·exact z
 ·have m:(x,NameKind.free)∈a.names:=by
   rcases h with h|h
   ·exact Zx b (.inl rfl) h
   ·exact Zx b (.inr rfl) h
  exact absurd rfl (d _ m)
 ·have:=Eu.mp n _ (DZ o);simp at this
theorem Zu(items:List W)(h:MH):live none items h:=fun _ z=>by cases z
theorem XU{mt:MT}{me:ME}{h:MH}:∀(rest a:List W) (o:Option W),
  (∀w∈rest,mt (some w::caps) h=some (p w,h))->(∀w∈rest,p w=true->me (some w::caps) h=some (f w,h))->a.length+rest.length<=sizeLine ->
  ZN fin items none (ZU 0) mt me rest a (o::caps) h=fin (a++(rest.filter p).map f) h
 |[],a,o,_,_,_=>by
  unfold ZN;rw[if_pos (Zu _ _)];simp
 | w::rest,a,o,c,d,g=>by
  unfold ZN;rw[if_pos (Zu _ _)];have h1:ZU 0 w (o::caps) h=some (some w::caps):=rfl;rw[h1,Nj,c w Nv,Nj];have e:a.length+(rest.length+1)<=sizeLine:=by simpa using g
  cases hp:p w with
  |true=>
   simp only[hp];rw[d w Nv hp,Nj,if_pos (by lia)];rw[XU rest (a++[f w]) (some w) (fun x b=>c x (Nt _ b)) (fun x b=>d x (Nt _ b)) (by simp;lia)];simp[DR,hp]
  |false=>
   simp only[hp];rw[XU rest a (some w) (fun x b=>c x (Nt _ b)) (fun x b=>d x (Nt _ b)) (by lia)];simp[DR,hp]
theorem Xs(c:b w σ h=some σ1)(a:body σ1 h=some (.nx σ2 h2)):Jg items none b body (w::r) σ h=Jg items none b body r σ2 h2:=by
 rw[Jg,if_pos (Zu _ _),c,Nj,a,Nj]
theorem Wv:Jg items none b body [] σ h=some (.nx σ h):=by
 rw[Jg,if_pos (Zu _ _)]
section
variable{σ σ1:MSt}{h h1 h2 h3:MH}{a b c w:W}{ws:List W}{ma mb mc:ME}{ms:MA}{mt mu:MT}{s1 s2:SM}{f f':W->W->MH->Option (W×MH)}{g:List W->MH->Option (W×MH)}{z:MF}
theorem QhC:Qd σ h=some ([],h):=rfl
theorem GX(e:ma σ h=some (a,h1))(d:ms σ h1=some (ws,h2)):Qa ma ms σ h=some (a::ws,h2):=by unfold Qa;rw[e,Nj,d];rfl
end
theorem Qcy(c:(-(2^64)<i/\i<2^64)\/(-(2^64)<j/\j<2^64)):QhI (.int i) (.int j) h=some (.int (i*j),h):=by unfold QhI;exact if_pos c
theorem QeP(c:0<j/\j<1073741824):KW (.int i) (.int j) h=some (.int (i/j),h):=by unfold KW;exact if_pos c
theorem Qfp(c:0<j):JC (.int i) (.int j) h=some (.int (i%j),h):=by unfold JC;exact if_pos c
theorem QgY(a:x.length<=sizeLine)(e:atI x.cps.toList i=some d):wIx (.str x) (.int i) h=some (.str ⟨#[d]⟩,h):=by
 unfold wIx;simp only;rw[if_pos a,e];rfl
theorem Qbc{lo a:Option Int}(b:x.length<=sizeLine):wSl (.str x) lo a h=some (.str (Txt.slice x lo a),h):=by unfold wSl;exact if_pos b
theorem Qhx(b:0<=i)(h1:i<xs.length):∃x∈xs,atI xs i=some x:=by
 have a:i.toNat<xs.length:=by lia
 refine⟨xs[i.toNat],DS a,?_⟩;obtain⟨n,rfl⟩:∃n:Nat,i=n:=⟨i.toNat,by exact(Et ‹_›).symm⟩
 exact Qb5 (Ni a)
noncomputable def Qjl(mo mi c:ME):SM:=fun a h=>(c a h).bind fun v=>(mo a v.2).bind fun o=>(mi a o.2).bind fun i=>match o.1,i.1 with
 |.ref n,.int k=>match i.2[n]? with
  |some (.lst b)=>(ixN b.length k).map fun j=>.nx a (i.2.set n (.lst (b.set j v.1)))
  |_=>none
 |_,_=>none
section
variable{X:Cx}{o i e:Expr}{mo mi mv:ME}{pos pos':Pos}
theorem Qhn{K:Nd}(q:tS K (Qjl mo mi mv) D σ H):Qji (tI K mv) (Qly (tI K mo) (tI K mi) Qim) D σ H:=by
 obtain⟨R,a,h,r,F,s,e,k⟩:=q;obtain⟨⟨v,w⟩,Y,U⟩:=Na.mp e;obtain⟨⟨ob,u⟩,T,S⟩:=Na.mp U;obtain⟨⟨I,M⟩,Q,b⟩:=Na.mp S;refine⟨R,a,h,v,w,F,s,Y,fun R1 H1 x g m E=>⟨R1,a,w,ob,u,m,s.mono g,T,fun R2 H2 y f l C=>⟨R2,a,u,I,M,l,s.mono (g.trans f),Q,fun Z H3 z d c B=>?_⟩⟩⟩;dsimp only at b;split at b
 ·rename_i n G;split at b
  ·rename_i xs J;obtain⟨j,P,O⟩:=Nf.mp b;cases O;obtain⟨p,N,A,L,t⟩:=c.refAt (Rw.mono d _ _ C) J;refine⟨_,A,G,j,N,B.int_eq,L,by rw[<-t.length];exact P,?_⟩;exact k Z _ σ (g.trans (f.trans d)) (c.put p ⟨_,rfl,t.set j (Rw.mono (f.trans d) _ _ E)⟩) (s.mono (g.trans (f.trans d)))
  ·cases b
 ·cases b
theorem Qgv(d:PM X o mo)(f:PM X i mi)(g:PM X e mv)
  (h:∀v,assign (.Subscript o i pos') X.env v=(do
   let a <-holding [v] (eval o X.env)
   let b <-holding [v,a] (eval i X.env)
   standAt pos'
   holding [v,a,b] (setItem a b v)
   release [v,a,b] []):=by intro _;rfl)
  (c:Uv e=false:=by rfl) (hw:swappedStores [.Subscript o i pos'] e X.env=pure none:=by rfl):PMS X (.Assign [.Subscript o i pos'] e pos) (Qjl mo mi mv):=
 JO (QeI g (QhL d f set_list h) (show swapsWith e (some (.Subscript o i pos')) pos.line X.env=pure false from Ku c) hw rfl) fun _ _ _=>Qhn
end
noncomputable def Qah(a b:W)(h:MH):Option (W×MH):=match a,b with|.int i,.int j=>some (.int (i+j),h)|_,_=>none
section
variable{X:Cx}{o i e:Expr}{mo mi mv:ME}{pos pos':Pos}
theorem WD:OpR X (inplaceOp .Add) (F2 X.K Qah):=by
 intro c s d H x y v u Q I g f q;refine Qgg c s d H x y v u Q I g f ?_;obtain⟨R,h,a,b,w,n,j,m,l,e,k⟩:=q;unfold Qah at e;split at e
 ·cases e;exact⟨_,_,m.int_eq,l.int_eq,k R H _ (Ext.refl _) j (Rw.int _)⟩
 ·cases e
end
noncomputable def KU(a:W)(ws:List W)(h:MH):Option (W×MH):=match ws with
 |[w]=>(lsW h a).bind fun c=>(drf h 40 w).bind fun x=>(Zt (drf h 40) c).bind fun b=>(b.findIdx? fun y=>eqW y x).map fun j=>(.int (j:Nat),h)
 |_=>none
theorem Ua(hu:X.A.units+64<cLine):QaT X "list.index" KU:=by
 intro U s σ H x xs v us Q I rx rv q;obtain⟨R,h,a,ws,w,h',p,ra,C,e,k⟩:=q;unfold KU at e;split at e
 ·rename_i w1;obtain⟨T,e1,e⟩:=Na.mp e;obtain⟨r,e2,e⟩:=Na.mp e;obtain⟨S,P,e⟩:=Na.mp e;obtain⟨j,e4,e5⟩:=Nf.mp e;cases e5;obtain⟨y,rfl,ry⟩:=Yu C;obtain⟨u,rfl,ru⟩:=KG rv;obtain⟨ad,xv,rfl,q1,G⟩:=p.lsAt ra e1;cases rx;obtain⟨c,B,p1,hz⟩:=I.list q1;have N:X.A.in1.units+40<cLine:=by show X.A.units+1+40<cLine;lia
  have l1:=G.length;have l2:=B.length;have l3:=(QD P).1;obtain⟨hj,l,d⟩:=EY.mp e4
  have o:∀m (f:m<c.toArray.size),QaP X.K R h r c.toArray[m]=eqW (S[m]'(by rw[Nk]at f;lia)) r:=by
   intro m f;rw[Nk]at f;obtain⟨t,g⟩:∃t,T[m]?=some t:=⟨T[m]'(Nm (Nm f (NH l2.symm)) (NH l1.symm)),Ni _⟩
   obtain⟨v2,L,D⟩:=G.get g;obtain⟨u2,M,E⟩:=B.get L;obtain⟨b,hb,eb⟩:=(QD P).2 m t g;have eu:c.toArray[m]=u2:=by have:=M;rw[Ni f]at this;simpa using this
   have ez:S[m]'(by omega)=b:=by have:=hb;rw[Ni (by omega)]at this;simpa using this
   rw[eu,ez];exact U3 I p D E eb
  obtain⟨ob,n,Y,Z,ab,hd⟩:=p1;obtain⟨cls,dd,data,sl⟩:=ob;simp only at Z hd;subst Z hd;have i:j<c.toArray.size:=by rw[Nk];lia
  refine Dl DD ⟨_,Y,rfl⟩ PySem.F.entry_list_index (PySem.F.args_list_index_2 _ _)
   (list_indexAt ad c.toArray n dd sl u (QaP X.K R h r) j i ?_ ?_ ?_) ⟨Y,fun z J=>Xg I p N ry ru e2 G B P z (by simpa using J),?_⟩
  ·have:(sizeLine:Nat)<2^62:=by decide
   have aa:j<2^62:=by lia
   lia
  ·rw[o j i];exact l
  ·intro m f O;rw[o m f];simpa using d m O
  ·exact⟨.int j,H,I.tok _,⟨_,rfl⟩,k R H _ (Ext.refl _) p (Rw.int _)⟩
 ·cases e
inductive TabIs:List DictEntry->List (Str×Int)->Prop where
 |nil:TabIs [] []
 |cons {e:DictEntry} {x:Str} {i:Int} {t t':Tok} {es:List DictEntry} {tab:List (Str×Int)} (hk:e.key=.str x t) (hv:e.val=.int i t') (r:TabIs es tab):TabIs (e::es) ((x,i)::tab)
structure GTab(w:World)(K:Nd)(mg:Str->Option Value)(x:Str)(tab:List (Str×Int)):Prop where
 ex:∃(a:Addr) (es:List DictEntry) (n:Nat),mg x=some (.ref a)/\K.lookup a=some ⟨.type "dict",none,.dict es.toArray n,#[]⟩/\LQ w.params es/\(a==sysModules)=false/\TabIs es tab
theorem QkG{K:Nd}{x:Str}{c:Addr}{n:Nat}(X:K.In h)(G:h.Ns mainGlobals d)(a:Dw K mainGlobals x=some (some (.ref c)))
  (l:K.lookup c=some ⟨.type "dict",none,.dict b.toArray n,#[]⟩) (k:LQ w.params b) (s:(c==sysModules)=false) (t:TabIs b tab):GTab w K d x tab:=
 ⟨c,b,n,Dm X G a,l,k,s,t⟩
theorem Qnj(d:mo σ h=some (a,h1))(b:tyW h1 T a=true)(c:ms σ h1=some (ws,h2)):mMt T f mo ms σ h=f a ws h2:=by
 unfold mMt;rw[d,Nj];simp only;rw[if_pos b,c,Nj]
theorem QeR(a b:Int)(h:MH):wEq (.int a) (.int b) h=some (.bl (a==b),h):=by unfold wEq;simp[drf,eqW]
theorem Qfv(a b:Str)(h:MH):wEq (.str a) (.str b) h=some (.bl (a==b),h):=by unfold wEq;simp[drf,eqW]
theorem GE(Q:W->Prop):∀(rest a:List W) (o:Option W),(∀w∈rest,∃v,Q v/\me (some w::caps) h=some (v,h))->a.length+rest.length<=sizeLine ->
  ∃vs:List W,vs.length=rest.length/\(∀v∈vs,Q v)/\ZN fin items none (ZU 0) Yk me rest a (o::caps) h=fin (a++vs) h
 |[],a,o,_,_=>⟨[],rfl,(fun v c=>by cases c),by unfold ZN;rw[if_pos (Zu _ _)];simp⟩
 | w::rest,a,o,d,g=>by
  have f:a.length+(rest.length+1)<=sizeLine:=by simpa using g
  obtain⟨v,c,l⟩:=d w Nv;obtain⟨vs,e,q1,m⟩:=GE (fin:=fin) (items:=items) Q rest (a++[v]) (some w) (fun x b=>d x (Nt _ b)) (by simp;lia);refine⟨v::vs,by simp[e],fun x b=>?_,?_⟩
  ·rcases Nx.mp b with rfl|b
   ·exact c
   ·exact q1 x b
  ·unfold ZN;rw[if_pos (Zu _ _)];have j:ZU 0 w (o::caps) h=some (some w::caps):=rfl;have i:Yk (some w::caps) h=some (true,h):=rfl;rw[j,Nj,i,Nj];dsimp only;rw[l,Nj,if_pos (by lia)];rw[m];simp
theorem QcB:∀vs:List W,(∀v∈vs,∃t:Str,v=.str t/\t.length<=m)->∃b:List Str,vs=b.map W.str/\∀z∈b,z.length<=m
 |[],_=>⟨[],rfl,(fun z hz=>by cases hz)⟩
 |v::vs,h=>by
  obtain⟨t,rfl,d⟩:=h v Nv;obtain⟨b,rfl,hz⟩:=QcB vs fun x c=>h x (Nt _ c);refine⟨t::b,rfl,fun z a=>?_⟩
  rcases Nx.mp a with rfl|a
  ·exact d
  ·exact hz z a
theorem QeC:∀a:List Str,(∀z∈a,z.length<=m)->(a.map (·.length)).sum<=a.length*m
 |[],_=>NT _
 |z::a,h=>by
  rw[Nr,List.sum_cons,Nz,Nat.succ_mul];have:=QeC a fun x b=>h x (Nt _ b);have c:=h z Nv;lia
theorem WF:(("":Str)).length=0:=by decide +kernel
theorem QdZ(zs:List Str):(Txt.join "" zs).length<=(zs.map (·.length)).sum:=by
 have a:=StrLaws.join_length_le ("":Str) zs;have:Txt.join ("":Str) zs=Str.join "" zs:=EG (join_plain_closes _ _);rw[this];rw[WF]at a;omega
theorem WK:∀a:List Str,Uz (a.map W.str)=some a
 |[]=>rfl
 |z::a=>by rw[Nr];unfold Uz;rw[WK a];rfl
theorem Qdc(c:(a.map (·.length)).sum<=16777216):Qag (.str "") [.lst (a.map W.str)] h=some (.str (Txt.join "" a),h):=by
 show((lsW h (.lst (a.map W.str))).bind fun b=>(Uz b).bind fun a=>if(a.map (·.length)).sum+a.length*(("":Str)).length<=16777216 then some (W.str (Txt.join "" a),h)else none)=_;rw[show lsW h (.lst (a.map W.str))=some (a.map W.str)from rfl,Nj,WK,Nj,if_pos (by rw[WF];omega)]
theorem Qbp(q:mi σ h=some (items,none,h1))(l:QgP cp σ=none::caps)(one:∀w∈items,∃t:Str,t.length<=m/\me (some w::caps) h1=some (.str t,h1))(j:items.length*m<=16777216)(i:items.length<=sizeLine) :
  ∃t:Str,t.length<=items.length*m/\mMt "str" Qag (mC (.str "")) (Qa (Jh XL mi cp (ZU 0) Yk me) Qd) σ h=some (.str t,h1):=by
 obtain⟨e,d,q1,p⟩:=GE (fin:=XL) (items:=items) (me:=me) (caps:=caps) (h:=h1) (fun v=>∃t:Str,v=.str t/\t.length<=m) items [] none (fun w hw=>by
  obtain⟨t,g,n⟩:=one w hw
  exact⟨_,⟨t,rfl,g⟩,n⟩) (by simpa using i)
 obtain⟨b,rfl,f⟩:=QcB e q1;have c:=QeC b f;rw[Nw]at d;rw[d]at c;refine⟨Txt.join "" b,Nu (QdZ b) c,?_⟩
 have o:Jh XL mi cp (ZU 0) Yk me σ h=some (.lst (b.map W.str),h1):=by
  unfold Jh;rw[q,Nj,l];exact p
 rw[Qnj (a:=.str "") rfl rfl (GX o QhC)];exact Qdc (Nu c j)
noncomputable def Qju(lo c:Int)(n:Nat):It:=⟨fun i _=>i<n,fun i H x a=>a=H/\x=.int (lo+i*c),fun i _=>n<=i⟩
theorem Qcj{K:Nd}(it:Addr)(lo c:Int)(n:Nat):Turn P w K L (Qju lo c n) [it] it (fun i h=>IsRangeIter h it (lo+(i:Nat)*c) ((n:Int)-(i:Nat)) c) where
 mem:=by simp
 obj:=fun i h st b d=>by
  have e:b=it:=by simpa using d
  subst e
  exact⟨_,st,fun v z=>by
   have D:Data.fields _=Data.cell v:=z
   cases D⟩
 keep:=fun i h j st k=>k it (by simp) _ st
 item:=by
  intro X p hw q m i a s A H E I g st l;subst p hw q;obtain⟨y,f1,f2,x,u,r⟩:=g it (by simp);have W:=Ob (prog:=X.prog) (w:=X.w) (I.ok.hd m) it lo c n;refine W.item i s _ _ l st fun v j B G f F=>?_;obtain⟨t,rfl⟩:=G;have I1:Inv X a A H { s with heap:=j,toks:=B }:=I.turned (fun b o d e=>F b o (by simpa using d) e) y f1 x u r;exact⟨_,rfl,Qba (s:={ s with heap:=j,toks:=B }) (n:="range_iterator") f rfl rfl (by decide) ⟨.int (lo+i*c),H,I1,⟨t,rfl⟩,⟨rfl,rfl⟩,f,fun b d=>(g b d).1⟩⟩
 done:=by
  intro X p hw q m i a s A H E I g st l;subst p hw q;obtain⟨y,f1,f2,x,u,r⟩:=g it (by simp);exact F5 (I.ok.hd m) st (by have:n<=i:=l;lia) fun j J=>⟨rfl,I.turned (t':=s.toks) (fun b o d e=>J b o d e) y f1 x u r⟩
 self:=fun _ _ _ _ _ st h=>F6 st h
theorem WT(d:c≠0):0<=Builtin.Range.rangeSize a b c:=by
 unfold Builtin.Range.rangeSize;split
 ·split
  ·have:0<=(b-a-1)/c:=LR (by lia) (by lia);omega
  ·exact Int.le_refl _
 ·split
  ·have:0<=(a-b-1)/(-c):=LR (by lia) (by lia);omega
  ·exact Int.le_refl _
section
variable{X:Cx}{tg:Expr}
theorem Qgi{σ:L2.St}{H:Hp}{lo d c:Int}{tk:Nat}(I:Inv X f σ H s)(g:c≠0)(h1:Builtin.Range.small lo d c=true)
  (q:R (Qju lo c (Builtin.Range.rangeSize lo d c).toNat) H):wpAny (model X.prog X.w) X.A (pyIter (.ref s.heap.objs.size)) (PIE X f σ tg R) E { s with heap:=s.heap.push { cls:=.type "range",data:=.fields #[.int lo t,.int d u,.int c v] },toks:=tk }:=by
 refine IX (Oc ..) h1 ?_;have I1:Inv X f σ H { s with heap:=s.heap.push { cls:=.type "range",data:=.fields #[.int lo t,.int d u,.int c v] },toks:=tk }:=I.kept fun b o e=>Nl _ e
 refine⟨(s.heap.push { cls:=.type "range",data:=.fields #[.int lo t,.int d u,.int c v] }).objs.size,[(s.heap.push { cls:=.type "range",data:=.fields #[.int lo t,.int d u,.int c v] }).objs.size],_,_,H,rfl,
  I1.kept (t':=tk) fun b o e=>Nl _ e,Qcj _ lo c (Builtin.Range.rangeSize lo d c).toNat,?_,fun b h=>?_,q⟩
 ·have j:lo+((0:Nat):Int)*c=lo:=by simp
  have i:(((Builtin.Range.rangeSize lo d c).toNat:Nat):Int)-((0:Nat):Int)=Builtin.Range.rangeSize lo d c:=by
   have:=WT (a:=lo) (b:=d) g;lia
  show IsRangeIter _ _ (lo+((0:Nat):Int)*c) ((((Builtin.Range.rangeSize lo d c).toNat:Nat):Int)-((0:Nat):Int)) c;rw[j,i];exact Ny _ rfl
 ·have e:b=(s.heap.push { cls:=.type "range",data:=.fields #[.int lo t,.int d u,.int c v] }).objs.size:=by simpa using h
  subst e;exact I1.fpOk (Nn _) (I1.hok.fresh (Nn _))
noncomputable def QjP(d:TA):TI:=fun a H R=>d a H fun b e=>∃i j c:Int,b=[.int i,.int j,.int c]/\(c≠0/\c.natAbs<1073741824/\Builtin.Range.small i j c=true)/\R (Qju i c (Builtin.Range.rangeSize i j c).toNat) e
theorem Qa8(A:Gl X "range")(z:X.mg "range"=none)(B:PA X [a,b,d] u)(y:starEach [a,b,d] X.env=[(false,eval a X.env),(false,eval b X.env),(false,eval d X.env)]:=by rfl)(l:starEach [b,d] X.env=[(false,eval b X.env),(false,eval d X.env)]:=by rfl) :
  PI X tg (.Call (.Name "range" p) [a,b,d] [] pos) (QjP u):=by
 intro g s n H R I h;refine Call_ (XG I A z LL (Ei (thn (B pos g s n H _ I h) fun D F o=>?_) (by rw[y,l]) (by rw[l];rfl)));obtain⟨C,G,I1,w,q1⟩:=o;obtain⟨i,j,c,e,⟨q1,q2,q3⟩,q⟩:=q1;subst e;cases w with
 | cons r f=>
  cases f with
  | cons x f=>
   cases f with
   |cons m f=>
    cases f;obtain⟨t,rfl⟩:=r;obtain⟨E,rfl⟩:=x;obtain⟨v,rfl⟩:=m;exact call_range_3 q1 (Qgi I1 q1 q3 q) (.inl (F7 q2))
end
noncomputable def XA(lo c:Int)(n:Nat):List W:=(List.range n).map fun(i:Nat)=>W.int (lo+(i:Int)*c)
section
variable{K:Nd}{R:Rn}
theorem Qbu{lo c:Int}:ItOk K R (Qju lo c n) (XA lo c n) none where
 go:=fun i w d h H _ _ _ e=>by
  have:=(Ng.mp e).1;show i<n;simpa[XA]using this
 yld:=fun i w d h H v o e f _ b g=>by
  obtain⟨rfl,rfl⟩:=g;unfold XA at b;rw[Nq]at b;obtain⟨j,a,m⟩:=Nf.mp b;rw[Er (by have:=(Ng.mp a).1;simpa using this)]at a;cases a;cases m;exact⟨d,Ext.refl _,f,Rw.int _⟩
 stop:=fun i d h H _ _ _ l=>by
  show n<=i;simpa[XA]using l
end
noncomputable def Qi5(ms:MA):MI:=fun a h=>(ms a h).bind fun p=>match p.1 with
 |[.int i,.int j,.int c]=>if c≠0/\c.natAbs<1073741824/\Builtin.Range.small i j c=true then some (XA i c (Builtin.Range.rangeSize i j c).toNat,none,p.2)else none
 |_=>none
section
variable{X:Cx}{tg a b d:Expr}{ms:MA}{p pos:Pos}
theorem Qhr(J:Gl X "range")(I:X.mg "range"=none)(M:PMA X [a,b,d] ms)(G:starEach [a,b,d] X.env=[(false,eval a X.env),(false,eval b X.env),(false,eval d X.env)]:=by rfl)(m:starEach [b,d] X.env=[(false,eval b X.env),(false,eval d X.env)]:=by rfl):PMI X tg (.Call (.Name "range" p) [a,b,d] [] pos) (Qi5 ms):=
 G5 (Qa8 J I M G m) fun Q H C t=>by
  obtain⟨R,g,h,items,A,Y,B,st,e,k⟩:=t;obtain⟨⟨w,N⟩,O,f⟩:=Na.mp e;refine⟨R,g,h,w,N,B,st,O,fun R1 P S u l n=>?_⟩;split at f
  ·rename_i i j c s;simp only at s;subst s;split at f
   ·rename_i L;cases f;rw[Rws.cons_iff]at n;obtain⟨v,z,rfl,F,r⟩:=n;rw[Rws.cons_iff]at r;obtain⟨U,y,rfl,E,q⟩:=r;rw[Rws.cons_iff]at q;obtain⟨T,x,rfl,D,o⟩:=q;rw[Rws.nil_iff]at o;subst o;rw[F.int_eq,E.int_eq,D.int_eq];exact⟨i,j,c,rfl,L,k R1 P _ u l Qbu⟩
   ·cases f
  ·cases f
end
noncomputable def Jk(kvs:List (Key×W))(k:Key):Option W:=(kvs.find? fun a=>decide (a.1=k)).map (·.2)
noncomputable def Vp(kvs:List (Key×W))(k:Key)(v:W):List (Key×W):=
 if(kvs.any fun a=>decide (a.1=k))=true then kvs.map (fun a=>if a.1=k then(a.1,v)else a)else kvs++[(k,v)]
noncomputable def Qcn:W->Option Key
 |.int i=>some (.inl i)
 |.str x=>some (.inr x)
 |_=>none
section
variable{K:Nd}{R:Rn}
noncomputable abbrev DicR(K:Nd)(R:Rn):List (Key×W)->List (Key×V)->Prop:=Paired fun p q=>p.1=q.1/\Rw K R p.2 q.2
theorem Ve(r:Rw K R w v)(e:Qcn w=some k):v=kV k:=by
 cases w with
 |int i=>cases e;exact r.int_eq
 |str x=>cases e;exact r.str_eq
 |_=>cases e
theorem VZ:∀{kvs:List (Key×W)} {a:List (Key×V)},DicR K R kvs a->(Jk kvs k=none/\UB a k=none)\/∃w v,Jk kvs k=some w/\UB a k=some v/\Rw K R w v
 |_,_,.nil=>.inl ⟨rfl,rfl⟩
 | p::ps,q::qs,.cons h t=>by
  by_cases e:p.1=k
  ·have b:q.1=k:=h.1▸e;exact .inr ⟨p.2,q.2,by simp[Jk,Ea,e],by simp[UB,Ea,b],h.2⟩
  ·have b:¬q.1=k:=h.1▸e;have d:Jk (p::ps) k=Jk ps k:=by simp only[Jk,Ea,e,decide_false]
   have c:UB (q::qs) k=UB qs k:=by simp only[UB,Ea,b,decide_false]
   rcases VZ (k:=k) t with z|⟨w,v,i,g,f⟩
   ·exact .inl ⟨d.trans z.1,c.trans z.2⟩
   ·exact .inr ⟨w,v,d.trans i,c.trans g,f⟩
theorem QbK:∀{kvs:List (Key×W)} {d:List (Key×V)},DicR K R kvs d->(kvs.any fun c=>decide (c.1=k))=d.any fun c=>decide (c.1=k)
 |_,_,.nil=>rfl
 |_,_,.cons (a:=p) (b:=q) h t=>by
  rw[Ez,Ez,QbK t,h.1]
theorem Gi(r:Rw K R w v):∀{kvs:List (Key×W)} {d:List (Key×V)},DicR K R kvs d->DicR K R (kvs.map (fun c=>if c.1=k then(c.1,w)else c)) (d.map (fun c=>if c.1=k then(c.1,v)else c))
 |_,_,.nil=>.nil
 |_,_,.cons (a:=p) (b:=q) h t=>by
  rw[Nr,Nr];refine .cons ?_ (Gi r t)
  by_cases e:p.1=k
  ·rw[if_pos e,if_pos (h.1▸e)];exact⟨h.1,r⟩
  ·rw[if_neg e,if_neg (h.1▸e)];exact h
theorem Ww(d:DicR K R kvs a)(r:Rw K R w v):DicR K R (Vp kvs k w) (Yt a k v):=by
 unfold Vp Yt;rw[QbK d];split
 ·exact Gi r d
 ·exact Od d ⟨rfl,r⟩
theorem Rh.dicAt(q:Rh K R h H)(r:Rw K R (.ref n) v)(e:h[n]?=some (.dic kvs)) :
  n<R.N/\v=.ref (R.ρ n)/\∃a,H (R.ρ n)=some (.dK a)/\DicR K R kvs a:=by
 unfold Rw at r;exact⟨r.1,r.2,q.obj n _ e⟩
end
noncomputable def Qbl:ME:=fun _ h=>some (.ref h.length,h++[.dic []])
noncomputable def Qak(h:MH):W->Option (List (Key×W))
 |.ref n=>match h[n]? with|some (.dic kvs)=>some kvs|_=>none
 |_=>none
theorem XC(e:Qak h a=some kvs):∃n,a=.ref n/\h[n]?=some (.dic kvs):=by
 cases a with
 |ref n=>
  simp only[Qak]at e;split at e
  ·rename_i c b;cases e;exact⟨n,rfl,b⟩
  ·cases e
 |_=>cases e
noncomputable def UC(a b:W)(h:MH):Option (W×MH):=(Qak h a).bind fun c=>(Qcn b).bind fun k=>(Jk c k).map fun v=>(v,h)
noncomputable def Qjt(neg:Bool)(b a:W)(h:MH):Option (W×MH):=(Qak h a).bind fun c=>(Qcn b).map fun k=>(.bl (if neg then !(Jk c k).isSome else(Jk c k).isSome),h)
noncomputable def KK(mo mi c:ME):SM:=fun b h=>(c b h).bind fun v=>(mo b v.2).bind fun o=>(mi b o.2).bind fun i=>(Qcn i.1).bind fun k=>match o.1 with
 |.ref n=>match i.2[n]? with
  |some (.dic a)=>if a.length<sizeLine then some (.nx b (i.2.set n (.dic (Vp a k v.1))))else none
  |_=>none
 |_=>none
section
variable{X:Cx}{o i e a b:Expr}{mo mi mv ma mb:ME}{pos pos':Pos}
theorem UW:PM X (.Dict [] [] pos) Qbl:=QW QdO fun m H Q q=>by
 obtain⟨R,f,h,w,r,j,st,e,k⟩:=q;cases e;intro p hp;obtain⟨l,g,d,c⟩:=j.new (mo:=.dic []) (o:=.dK []) hp fun s n=>⟨[],rfl,.nil⟩
 exact k l _ _ g d c
theorem X3(hu:X.A.units+64<cLine)(E:PM X a ma)(D:PM X b mb)(B:UO b:=by intro _ _;rfl):PM X (.Subscript a b pos) (Qc UC ma mb):=
 QW (QfU (N4 (Es (by decide) _) hu) E D B) fun S H Q q=>Jc (QiV q) fun x Z q1=>Jc q1 fun y P l=>by
  obtain⟨R,h,a,b,w,Y,d,r,p,e,k⟩:=l;unfold UC at e;obtain⟨s,N,M⟩:=Na.mp e;obtain⟨t,L,J⟩:=Na.mp M;obtain⟨v,c,I⟩:=Nf.mp J;cases I;obtain⟨n,rfl,C⟩:=XC N;obtain⟨_,F,U,u,O⟩:=d.dicAt r C;have G:=Ve p L;subst G
  rcases VZ (k:=t) O with z|⟨T,m,j,g,f⟩
  ·rw[z.1]at c;cases c
  ·rw[j]at c;cases c;exact⟨_,m,F,by rw[<-g];exact DGet.k u,k R P _ (Ext.refl _) d f⟩
theorem Qgj(hu:X.A.units+64<cLine):OpR X (compareOp .In) (F2 X.K (Qjt false)):=by
 intro g s O H x y v u Q I q p ⟨R,h,a,b,w,Y,f,t,r,e,k⟩;unfold Qjt at e;obtain⟨d,L,J⟩:=Na.mp e;obtain⟨c,G,F⟩:=Nf.mp J;cases F;obtain⟨n,rfl,C⟩:=XC L;obtain⟨_,D,j,B,M⟩:=f.dicAt r C;have E:=Ve t G;subst E D;obtain rfl:u=Value.ref (R.ρ n):=p;refine QnG (N4 (Es (by decide) _) hu) I (DGet.k (k:=c) B) q fun U N=>⟨.bl (UB j c).isSome,H,N,rfl,?_⟩
 have:(Jk d c).isSome=(UB j c).isSome:=by
  rcases VZ (k:=c) M with z|⟨S,T,m,l,P⟩
  ·rw[z.1,z.2];rfl
  ·rw[m,l];rfl
 rw[<-this];exact k R H _ (Ext.refl _) f (Rw.bl _)
theorem QfS{K:Nd}(q:tS K (KK mo mi mv) D σ H):QiS (tI K mo) (tI K mi) (tI K mv) D σ H:=by
 obtain⟨R,d,h,r,G,s,e,k⟩:=q;obtain⟨⟨v,B⟩,e1,Z⟩:=Na.mp e;obtain⟨⟨ob,A⟩,Y,U⟩:=Na.mp Z;obtain⟨⟨J,N⟩,T,S⟩:=Na.mp U;obtain⟨kk,Q,c⟩:=Na.mp S;refine⟨R,d,h,v,B,G,s,e1,fun R1 H1 x m t F=>⟨R1,d,B,ob,A,t,s.mono m,Y,fun R2 H2 y l p E=>⟨R2,d,A,J,N,p,s.mono (m.trans l),T,fun R3 H3 z j f C=>?_⟩⟩⟩;dsimp only at c;split at c
 ·rename_i n;split at c
  ·rename_i I L;split at c
   ·rename_i g;cases c;obtain⟨u,P,kx,M,w⟩:=f.dicAt (Rw.mono j _ _ E) L;have O:=Ve C Q;subst O;refine⟨_,_,P,DPut.k M (by rw[<-N6 w];exact g),?_⟩;exact k R3 _ σ (m.trans (l.trans j)) (f.put u ⟨_,rfl,Ww w (Rw.mono (l.trans j) _ _ F)⟩) (s.mono (m.trans (l.trans j)))
   ·cases c
  ·cases c
 ·cases c
theorem Kr(hu:X.A.units+64<cLine)(d:PM X o mo)(f:PM X i mi)(g:PM X e mv)(c:Uv e=false:=by rfl):PMS X (.Assign [.Subscript o i pos'] e pos) (KK mo mi mv):=
 JO (Qe7 (N4 (Es (by decide) _) hu) d f g (show swapsWith e (some (.Subscript o i pos')) pos.line X.env=pure false from Ku c)) fun _ _ _=>QfS
end
theorem WB(c:b w σ h=some σ1)(a:body σ1 h=some (.rt v h2)):Jg items none b body (w::r) σ h=some (.rt v h2):=by
 rw[Jg,if_pos (Zu _ _),c,Nj,a,Nj]
theorem Gm(xs:List a)(x:a):atI (xs++[x]) (-1)=some x:=by
 unfold atI ixN;rw[if_neg (by decide),if_pos (by simp;lia),Nj];have:((-1:Int)+((xs++[x]).length:Nat)).toNat=xs.length:=by simp;lia
 rw[this];simp
theorem QO(kvs:List (Key×W))(k:Key)(v:W):Jk (Vp kvs k v) k=some v:=by
 unfold Vp;split
 ·rename_i h
  induction kvs with
  |nil=>simp at h
  | cons p r b=>
   by_cases e:p.1=k
   ·simp[Jk,Ea,e]
   ·have c:(r.any fun a=>decide (a.1=k))=true:=by simpa[Ez,e]using h
    have:=b c;simp only[Jk,Nr,Ea,if_neg e,decide_eq_false e]at this ⊢;exact this
 ·rename_i h
  have:kvs.find? (fun a=>decide (a.1=k))=none:=by
   rw[Fi];intro p hp q;exact h (FG.mpr ⟨p,hp,q⟩)
  simp[Jk,Lj,this]
theorem QL(kvs:List (Key×W))(v:W)(c:a≠k):Jk (Vp kvs k v) a=Jk kvs a:=by
 unfold Vp;split
 ·rename_i h;clear h
  induction kvs with
  |nil=>rfl
  | cons p r f=>
   simp only[Jk,Nr,Ea]at f ⊢
   by_cases e:p.1=k
   ·have d:¬p.1=a:=fun z=>c (z.symm.trans e);rw[if_pos e];simp only[decide_eq_false d];exact f
   ·rw[if_neg e]
    by_cases d:p.1=a
    ·simp[d]
    ·simp only[decide_eq_false d];exact f
 ·have b:¬k=a:=fun z=>c z.symm;simp only[Jk,Lj];cases kvs.find? (fun g=>decide (g.1=a))with
  |some x=>simp
  |none=>simp[b]
theorem Qdk{k:Nat}(a:k<1000000):Builtin.Range.small ((k:Int)-1) (-1) (-1)=true/\(Builtin.Range.rangeSize ((k:Int)-1) (-1) (-1)).toNat=k:=by
 have e:Builtin.Range.rangeSize ((k:Int)-1) (-1) (-1)=k:=by
  unfold Builtin.Range.rangeSize;rw[if_neg (by decide)]
  by_cases z:k=0
  ·subst z;rfl
  ·rw[if_pos (by lia)];simp
 refine⟨?_,by rw[e];simp⟩;unfold Builtin.Range.small;rw[e];simp only[Builtin.Range.rangeFitsLong,NB,EC,decide_eq_true_eq,beq_iff_eq];exact⟨by lia,.inr (by decide)⟩
theorem Qjz{c b a:ME}{k:Nat}(e:c σ h=some (.int ((k:Int)-1),h))(j:b σ h=some (.int (-1),h))(i:a σ h=some (.int (-1),h))(d:k<1000000):Qi5 (Qa c (Qa b (Qa a Qd))) σ h=some (XA ((k:Int)-1) (-1) k,none,h):=by
 unfold Qi5;rw[GX e (GX j (GX i QhC)),Nj];obtain⟨g,f⟩:=Qdk d;show(if _ then _ else _)=_;rw[if_pos ⟨by decide,by decide,g⟩,f]
mutual
noncomputable def pur:W->Bool
 |.tup ws=>ZL ws
 |.lst ws=>ZL ws
 |.frz ws=>ZL ws
 |.ref _=>false
 |_=>true
noncomputable def ZL:List W->Bool
 |[]=>true
 |w::ws=>pur w&&ZL ws
end
noncomputable def QbP:MO->Bool
 |.lst ws=>ZL ws
 |.dic kvs=>ZL (kvs.map (·.2))
 |.dct kvs=>ZL (kvs.map (·.2))
 |.ins _ _=>false
mutual
noncomputable def th(f:Nat->Option W):W->Option W
 |.tup ws=>(ths f ws).map .tup
 |.lst ws=>(ths f ws).map .lst
 |.frz ws=>(ths f ws).map .frz
 |.ref j=>f j
 |w=>some w
noncomputable def ths(f:Nat->Option W):List W->Option (List W)
 |[]=>some []
 |w::ws=>(th f w).bind fun x=>(ths f ws).map (x::·)
end
noncomputable def thO(f:Nat->Option W):MO->Option MO
 |.lst ws=>(ths f ws).map .lst
 |.dic kvs=>(ths f (kvs.map (·.2))).map fun vs=>.dic ((kvs.map (·.1)).zip vs)
 |.dct kvs=>(ths f (kvs.map (·.2))).map fun vs=>.dct ((kvs.map (·.1)).zip vs)
 |.ins _ _=>none
noncomputable def res(a:Nat->Option Nat)(g:MH):Nat->Nat->Option W
 |0,j=>(a j).map .ref
 | d+1,j=>match a j with
  |some n=>some (.ref n)
  |none=>match g[j]? with
   |some (.lst ws)=>(ths (res a g d) ws).map .lst
   |_=>none
noncomputable def Yf(ns a:List Nat)(N j:Nat):Option Nat:=match ns[j]? with
 |some n=>some n
 |none=>(a.findIdx? (·==j)).map (N+·)
noncomputable def XW:Nat->List W->Option (List W×List Nat)
 |_,[]=>some ([],[])
 |k,.ref n::ws=>(XW (k+1) ws).map fun p=>(.ref k::p.1,n::p.2)
 |k,w::ws=>if pur w then(XW k ws).map fun p=>(w::p.1,p.2)else none
noncomputable def QN:List Nat->List MO->MH->MH
 |n::ns,o::os,h=>QN ns os (h.set n o)
 |_,_,h=>h
noncomputable def QaH(h:MH)(n:Nat):Option MO:=match h[n]? with|some o=>if QbP o then some o else none|none=>none
noncomputable def QfZ(a:W->List Nat)(m:FM)(as:List W)(ns:List Nat)(h:MH):Option (W×MH):=
 if ns.Nodup then(Zt (QaH h) ns).bind fun c=>(m as c).bind fun p=>
  if(a p.1).Nodup/\(∀j∈a p.1,ns.length<=j)then
   (th (res (Yf ns (a p.1) h.length) p.2 3) p.1).bind fun w=>
   (Zt (fun j=>(p.2[j]?).bind (thO (res (Yf ns (a p.1) h.length) p.2 3))) (List.range ns.length)).bind fun os=>
   (Zt (fun j=>(p.2[j]?).bind (thO (res (Yf ns (a p.1) h.length) p.2 3))) (a p.1)).map fun b=>
   (w,QN ns os h++b)
  else none
 else none
noncomputable def box(c:W->List Nat)(m:FM):FM:=fun b h=>(XW 0 b).bind fun a=>QfZ c m a.1 a.2 h
section
variable{K:Nd}{R R':Rn}
mutual
theorem Rw.pur_mono(b:∀a o,R.F a=some o->R'.F a=some o):∀(w:W) (v:V),pur w=true->Rw K R w v->Rw K R' w v
 |.non,_,_,h=>by unfold Rw at h ⊢;exact h
 |.bl _,_,_,h=>by unfold Rw at h ⊢;exact h
 |.int _,_,_,h=>by unfold Rw at h ⊢;exact h
 |.str _,_,_,h=>by unfold Rw at h ⊢;exact h
 |.ty _,_,_,h=>by unfold Rw at h ⊢;exact h
 |.tup ws,_,p,h=>by
  unfold Rw at h ⊢;obtain⟨a,xs,e,d,c⟩:=h;exact⟨a,xs,e,JD b d,Rws.pur_mono b ws xs (by unfold pur at p;exact p) c⟩
 |.lst ws,_,p,h=>by
  unfold Rw at h ⊢;obtain⟨a,xs,e,d,c⟩:=h;exact⟨a,xs,e,b a _ d,Rws.pur_mono b ws xs (by unfold pur at p;exact p) c⟩
 |.frz ws,_,p,h=>by
  unfold Rw at h ⊢;obtain⟨a,xs,e,d,c⟩:=h;exact⟨a,xs,e,Za b d,Rws.pur_mono b ws xs (by unfold pur at p;exact p) c⟩
 |.ref n,_,p,h=>by unfold pur at p;cases p
theorem Rws.pur_mono(c:∀a o,R.F a=some o->R'.F a=some o):∀(ws:List W) (vs:List V),ZL ws=true->Rws K R ws vs->Rws K R' ws vs
 |[],_,_,h=>by unfold Rws at h ⊢;exact h
 |w::ws,_,p,h=>by
  unfold Rws at h ⊢;obtain⟨v,b,f,e,d⟩:=h;unfold ZL at p;rw[NB]at p;exact⟨v,b,f,Rw.pur_mono c w v p.1 e,Rws.pur_mono c ws b p.2 d⟩
end
mutual
theorem Rw.th_ok(c:∀a o,R.F a=some o->R'.F a=some o)(hr:∀j v w,Rw K R (.ref j) v->f j=some w->Rw K R' w v):∀(w:W) (v:V) (w':W),th f w=some w'->Rw K R w v->Rw K R' w' v
 |.non,_,_,e,h=>by unfold th at e;cases e;unfold Rw at h ⊢;exact h
 |.bl _,_,_,e,h=>by unfold th at e;cases e;unfold Rw at h ⊢;exact h
 |.int _,_,_,e,h=>by unfold th at e;cases e;unfold Rw at h ⊢;exact h
 |.str _,_,_,e,h=>by unfold th at e;cases e;unfold Rw at h ⊢;exact h
 |.ty _,_,_,e,h=>by unfold th at e;cases e;unfold Rw at h ⊢;exact h
 |.tup ws,_,_,e,h=>by
  unfold th at e;obtain⟨us,h1,h2⟩:=Nf.mp e;subst h2;unfold Rw at h ⊢;obtain⟨a,b,i,g,d⟩:=h;exact⟨a,b,i,JD c g,Rws.th_ok c hr ws b us h1 d⟩
 |.lst ws,_,_,e,h=>by
  unfold th at e;obtain⟨us,h1,h2⟩:=Nf.mp e;subst h2;unfold Rw at h ⊢;obtain⟨a,b,i,g,d⟩:=h;exact⟨a,b,i,c a _ g,Rws.th_ok c hr ws b us h1 d⟩
 |.frz ws,_,_,e,h=>by
  unfold th at e;obtain⟨us,h1,h2⟩:=Nf.mp e;subst h2;unfold Rw at h ⊢;obtain⟨a,b,i,g,d⟩:=h;exact⟨a,b,i,Za c g,Rws.th_ok c hr ws b us h1 d⟩
 |.ref n,v,w',e,h=>by unfold th at e;exact hr n v w' h e
theorem Rws.th_ok(d:∀a o,R.F a=some o->R'.F a=some o)(hr:∀j v w,Rw K R (.ref j) v->f j=some w->Rw K R' w v):∀(ws:List W) (vs:List V) (b:List W),ths f ws=some b->Rws K R ws vs->Rws K R' b vs
 |[],_,_,e,h=>by unfold ths at e;cases e;unfold Rws at h ⊢;exact h
 |w::ws,_,_,e,h=>by
  unfold ths at e;obtain⟨x,h1,h2⟩:=Na.mp e;obtain⟨g,l,i⟩:=Nf.mp h2;subst i;unfold Rws at h;obtain⟨v,c,p,n,m⟩:=h;subst p;exact Rws.cons (Rw.th_ok d hr w v x h1 n) (Rws.th_ok d hr ws c g l m)
end
theorem DicR.vals:∀{kvs:List (Key×W)} {a:List (Key×V)},Paired (fun p q=>p.1=q.1/\Rw K R p.2 q.2) kvs a->Rws K R (kvs.map (·.2)) (a.map (·.2))/\kvs.map (·.1)=a.map (·.1):=by
 intro kvs a p
 induction p with
 |nil=>exact⟨Rws.nil,rfl⟩
 |cons h t b=>exact⟨Rws.cons h.2 b.1,by rw[Nr,Nr,b.2,h.1]⟩
theorem DicR.zip:∀{ks:List Key} {a:List (Key×V)} {us:List W},ks=a.map (·.1)->Rws K R us (a.map (·.2))->Paired (fun p q=>p.1=q.1/\Rw K R p.2 q.2) (ks.zip us) a
 |_,[],us,e,h=>by
  subst e;exact .nil
 | _,q::a,us,e,h=>by
  subst e;rw[Nr]at h;cases us with
  |nil=>rw[Rws.nil_iff]at h;cases h
  |cons u us=>
   rw[Rws.cons_iff]at h;obtain⟨v,vs,d,c,b⟩:=h;cases d;exact .cons ⟨rfl,c⟩ (DicR.zip rfl b)
theorem Qaa:∀(n:Nat) (w:W) (k:Tr),QeB n w=some k->pur w=true
 |0,_,_,e=>by simp[QeB]at e
 | n+1,w,k,e=>by
  cases w with
  | tup ws=>
   simp only[QeB]at e;obtain⟨ks,b,f⟩:=Nf.mp e;unfold pur;clear e f
   induction ws generalizing ks with
   |nil=>rfl
   |cons x ws d=>
    rw[List.mapM_cons]at b;obtain⟨c,h,i⟩:=Na.mp b;obtain⟨a,g,_⟩:=Na.mp i;unfold ZL;rw[Qaa n x c h,d a g];rfl
  |lst ws=>simp[QeB]at e
  |frz ws=>simp[QeB]at e
  |ref j=>simp[QeB]at e
  |_=>rfl
theorem Qcw(e:nrm w=some k):pur w=true:=by
 cases w with
 |tup a=>exact Qaa 8 _ k e
 |_=>cases e
theorem DctR.vals:∀{kvs:List (W×W)} {a:List (Tr×Addr×V)},Paired (fun p q=>Rw K R p.1 (.ref q.2.1)/\nrm p.1=some q.1/\Rw K R p.2 q.2.2) kvs a->Rws K R (kvs.map (·.2)) (a.map (·.2.2))/\Paired (fun p q=>Rw K R p (.ref q.2.1)/\nrm p=some q.1) (kvs.map (·.1)) a:=by
 intro kvs a p
 induction p with
 |nil=>exact⟨Rws.nil,.nil⟩
 |cons h t b=>exact⟨Rws.cons h.2.2 b.1,.cons ⟨h.1,h.2.1⟩ b.2⟩
theorem DctR.zip:∀{ks:List W} {a:List (Tr×Addr×V)} {us:List W},Paired (fun p q=>Rw K R p (.ref q.2.1)/\nrm p=some q.1) ks a->Rws K R us (a.map (·.2.2))->Paired (fun p q=>Rw K R p.1 (.ref q.2.1)/\nrm p.1=some q.1/\Rw K R p.2 q.2.2) (ks.zip us) a
 |_,[],us,.nil,h=>.nil
 | _,q::a,us,.cons e t,h=>by
  rw[Nr]at h;cases us with
  |nil=>rw[Rws.nil_iff]at h;cases h
  |cons u us=>
   rw[Rws.cons_iff]at h;obtain⟨v,vs,d,c,b⟩:=h;cases d;exact .cons ⟨e.1,e.2,c⟩ (DctR.zip t b)
theorem GK(m:∀a o,R.F a=some o->R'.F a=some o)(hr:∀j v w,Rw K R (.ref j) v->f j=some w->Rw K R' w v)(e:thO f o=some x)(h:Ro K R o u):Ro K R' x u:=by
 cases o with
 |lst t=>
  unfold thO at e;obtain⟨c,g,d⟩:=Nf.mp e;subst d;obtain⟨s,l,i⟩:=h;exact⟨s,l,Rws.th_ok m hr t s c g i⟩
 |dic r=>
  unfold thO at e;obtain⟨c,g,d⟩:=Nf.mp e;subst d;obtain⟨n,l,i⟩:=h;obtain⟨a,b⟩:=DicR.vals i;exact⟨n,l,DicR.zip b (Rws.th_ok m hr _ _ c g a)⟩
 |dct r=>
  unfold thO at e;obtain⟨c,g,d⟩:=Nf.mp e;subst d;obtain⟨n,l,i⟩:=h;obtain⟨a,b⟩:=DctR.vals i;exact⟨n,l,DctR.zip (Paired.mapP b fun p q z=>⟨Rw.pur_mono m _ _ (Qcw z.2) z.1,z.2⟩) (Rws.th_ok m hr _ _ c g a)⟩
 |ins C fs=>cases e
theorem UP(f:∀a o,R.F a=some o->R'.F a=some o)(p:QbP o=true)(h:Ro K R o u):Ro K R' o u:=by
 cases o with
 |lst l=>
  obtain⟨j,d,e⟩:=h;exact⟨j,d,Rws.pur_mono f l j p e⟩
 | dic c=>
  obtain⟨g,d,e⟩:=h;refine⟨g,d,?_⟩;have b:ZL (c.map (·.2))=true:=p;clear p d;revert b
  induction e with
  |nil=>exact fun _=>.nil
  |cons h t i=>
   intro b;rw[Nr]at b;unfold ZL at b;rw[NB]at b;exact .cons ⟨h.1,Rw.pur_mono f _ _ b.1 h.2⟩ (i b.2)
 | dct c=>
  obtain⟨g,d,e⟩:=h;refine⟨g,d,?_⟩;have b:ZL (c.map (·.2))=true:=p;clear p d;revert b
  induction e with
  |nil=>exact fun _=>.nil
  |cons h t i=>
   intro b;rw[Nr]at b;unfold ZL at b;rw[NB]at b;exact .cons ⟨Rw.pur_mono f _ _ (Qcw h.2.1) h.1,h.2.1,Rw.pur_mono f _ _ b.1 h.2.2⟩ (i b.2)
 |ins C fs=>cases p
theorem U2(f:∀a o,R.F a=some o->R0.F a=some o)(b:∀(i n:Nat),all[i]?=some n->i<R0.N/\R0.ρ i=R.ρ n):∀{ws:List W} {vs:List V} {pre:List Nat} {as:List W} {ns:List Nat},XW pre.length ws=some (as,ns)->all=pre++ns->Rws K R ws vs->Rws K R0 as vs
 |[],vs,pre,as,ns,e,d,h=>by
  unfold XW at e;cases e;rw[Rws.nil_iff]at h;subst h;exact Rws.nil
 | w::ws,vs,pre,as,ns,e,d,h=>by
  rw[Rws.cons_iff]at h;obtain⟨v,s,rfl,h1,h2⟩:=h
  by_cases hw:∃n,w=.ref n
  ·obtain⟨n,rfl⟩:=hw;unfold XW at e;obtain⟨⟨m,c⟩,j,g⟩:=Nf.mp e;cases g;refine Rws.cons ?_ (U2 f b (pre:=pre++[n]) (ns:=c) (by rw[NC];exact j) (by rw[d];simp) h2);obtain⟨r,q⟩:=b pre.length n (by rw[d];simp);unfold Rw at h1 ⊢;exact⟨r,by rw[q];exact h1.2⟩
  ·have l:(if pur w then(XW pre.length ws).map fun p=>(w::p.1,p.2)else none)=some (as,ns):=by
    rw[<-e];cases w<;>first|(exact absurd ⟨_,rfl⟩ hw)|(conv=>rhs;unfold XW)
   split at l
   ·rename_i hp;obtain⟨⟨m,c⟩,j,g⟩:=Nf.mp l;cases g;exact Rws.cons (Rw.pur_mono f w v hp h1) (U2 f b j d h2)
   ·cases l
theorem ZT:∀(ns:List Nat) (os:List MO) (h:MH),(QN ns os h).length=h.length
 |[],_,h=>by unfold QN;rfl
 |_::_,[],h=>by unfold QN;rfl
 |n::ns,o::os,h=>by unfold QN;rw[ZT ns os,EB]
theorem V7:∀(ns:List Nat) (os:List MO) (h:MH) (n:Nat),n∉ns->(QN ns os h)[n]?=h[n]?
 |[],_,h,n,_=>by unfold QN;rfl
 |_::_,[],h,n,_=>by unfold QN;rfl
 |m::ns,o::os,h,n,a=>by
  unfold QN;rw[V7 ns os _ n (fun z=>a (Nt _ z)),N1 (fun z=>a (by rw[z];exact Nv))]
theorem YN:∀(ns:List Nat) (os:List MO) (h:MH) (i n:Nat),ns.Nodup->ns.length=os.length->ns[i]?=some n->n<h.length->(QN ns os h)[n]?=os[i]?
 |[],_,h,i,n,_,_,e,_=>by simp at e
 |m::ns,[],h,i,n,_,a,_,_=>by simp at a
 |m::ns,o::os,h,0,n,hd,a,e,b=>by
  simp at e;subst e;unfold QN;rw[V7 ns os _ m (EN.mp hd).1,N2 b];rfl
 |m::ns,o::os,h,i+1,n,hd,a,e,b=>by
  unfold QN;rw[YN ns os (h.set m o) i n (EN.mp hd).2 (by simpa using a) (by simpa using e) (by rw[EB];exact b)];simp
end
end Mi
namespace Mi
open L2
theorem Y6:∀{ws:List W} {k:Nat} {as:List W} {ns:List Nat},XW k ws=some (as,ns)->as.length=ws.length
  |[],k,as,ns,e=>by unfold XW at e;cases e;rfl
  | w::ws,k,as,ns,e=>by
    cases w<;>unfold XW at e<;>first
      | (obtain⟨⟨d,a⟩,c,b⟩:=Nf.mp e
         cases b
         simp[Y6 c])
      | (split at e
         · obtain⟨⟨d,a⟩,c,b⟩:=Nf.mp e;cases b;simp[Y6 c]
         · cases e)
theorem W6{a:List Nat}(e:a.findIdx? (·==j)=some i):a[i]?=some j:=by
 rw[EY]at e;obtain⟨h,b,_⟩:=e;rw[Ni h];simp at b;rw[b]
theorem Ut{js:List Nat}(e:js.findIdx? (·==j)=none):j∉js:=by
 rw[Fy]at e;intro z;have:=e j z;simp at this
theorem Qco(e:QaH h n=some o):h[n]?=some o/\QbP o=true:=by
 unfold QaH at e;split at e
 ·rename_i b a;split at e
  ·rename_i hp;cases e;exact⟨a,hp⟩
  ·cases e
 ·cases e
theorem Ud{a:List Nat}(h:a.Nodup){i b j:Nat}(e:a[i]?=some j)(c:a[b]?=some j):i=b:=
 (List.getElem?_inj (Ng.mp e).1 h).mp (e.trans c.symm)
section
variable{K:Nd}
open Classical in
theorem QhG(q:spM K n (box fr m) vs H Q E):spM K n m vs H Q E:=by
 obtain⟨R,ws,h,wx,h2,hl,L,aw,e,k⟩:=q;unfold box at e;obtain⟨⟨as,A⟩,e1,e2⟩:=Na.mp e;unfold QfZ at e2;split at e2
 case isFalse=>cases e2
 rename_i hd;obtain⟨h0,e3,e4⟩:=Na.mp e2;obtain⟨⟨w,g⟩,e5,e6⟩:=Na.mp e4;dsimp only at e6;split at e6
 case isFalse=>cases e6
 rename_i hj;obtain⟨a3,a2⟩:=hj;obtain⟨wy,e7,e8⟩:=Na.mp e6;obtain⟨os,e9,a7⟩:=Na.mp e8;obtain⟨us,al,a6⟩:=Nf.mp a7;cases a6;generalize a8:fr w=js at *
 have X:∀(i x:Nat),A[i]?=some x->x<R.N/\∃o,h[x]?=some o/\h0[i]?=some o/\QbP o=true:=fun i x l=>by
  obtain⟨o,D,t⟩:=(QD e3).2 i x l;obtain⟨z3,z4⟩:=Qco t;exact⟨by rw[L.len];exact(Ng.mp z3).1,o,z3,D,z4⟩
 have af:∀x,x∈A->∃i:Nat,A[i]?=some x:=fun x l=>NA.mp l
 let R0:Rn:={ ρ:=fun i=>R.ρ (A.getD i 0),N:=A.length,F:=R.F,G:=fun a=>if∃x,x<R.N/\x∉A/\R.ρ x=a then H a else R.G a }
 have T:∀(i x:Nat),A[i]?=some x->i<R0.N/\R0.ρ i=R.ρ x:=fun i x l=>by
  refine⟨(Ng.mp l).1,?_⟩;show R.ρ (A.getD i 0)=_;rw[NE,l];rfl
 have ag:∀i:Nat,i<A.length->∃x,A[i]?=some x:=fun i O=>⟨A[i],Ni O⟩
 have ak:∀x,x<R.N->x∉A->R0.G (R.ρ x)=H (R.ρ x):=fun x l hn=>if_pos ⟨x,l,hn,rfl⟩
 have aj:∀a o,R.G a=some o->R0.G a=some o:=fun a o z=>by
  show(if∃x,x<R.N/\x∉A/\R.ρ x=a then H a else R.G a)=some o;split
  ·exact L.gsub a o z
  ·exact z
 have ax:Rh K R0 h0 H:=by
  refine⟨(QD e3).1,L.sub,fun i O=>?_,fun i j O hj ee=>?_,fun i o O=>?_,fun a o ha=>?_,fun i O=>?_,fun a o ha=>?_⟩
  ·obtain⟨x,l⟩:=ag i O;rw[(T i x l).2];exact L.sep x (X i x l).1
  ·obtain⟨x,l⟩:=ag i O;obtain⟨y,U⟩:=ag j hj;rw[(T i x l).2,(T j y U).2]at ee;have:=L.inj x y (X i x l).1 (X j y U).1 ee;subst this;exact Ud hd l U
  ·have a5:i<A.length:=by rw[(QD e3).1];exact(Ng.mp O).1
   obtain⟨x,l⟩:=ag i a5;obtain⟨_,o',D,t,z3⟩:=X i x l;rw[O]at t;cases t;rw[(T i x l).2];exact UP (R:=R) (R':=R0) (fun _ _ z=>z) z3 (L.obj x o D)
  ·have J:(if∃x,x<R.N/\x∉A/\R.ρ x=a then H a else R.G a)=some o:=ha;split at J
   ·exact J
   ·exact L.gsub a o J
  ·obtain⟨x,l⟩:=ag i O;rw[(T i x l).2];show(if∃y,y<R.N/\y∉A/\R.ρ y=R.ρ x then H (R.ρ x)else R.G (R.ρ x))=none;rw[if_neg]
   ·exact L.gsep x (X i x l).1
   ·rintro⟨y,U,ay,ey⟩
    have:=L.inj y x U (X i x l).1 ey;subst this;exact ay (NA.mpr ⟨i,l⟩)
  ·have J:(if∃x,x<R.N/\x∉A/\R.ρ x=a then H a else R.G a)=some o:=ha;split at J
   ·rename_i l;obtain⟨x,l,_,rfl⟩:=l;exact L.sep x l
   ·exact L.gf a o J
 refine⟨R0,as,h0,w,g,(Y6 e1).trans hl,ax,U2 (R:=R) (R0:=R0) (pre:=[]) (fun _ _ z=>z) T e1 rfl aw,e5,fun R1 H1 v x1 s rv=>?_⟩;have ab:R1.G=R0.G:=x1.g
 have aa:∀(i x:Nat),A[i]?=some x->i<R1.N/\R1.ρ i=R.ρ x:=fun i x l=>by
  obtain⟨D,t⟩:=T i x l;exact⟨Nm D x1.n,(x1.ρ i D).trans t⟩
 have Y:∀(i j:Nat),js[i]?=some j->A.length<=j/\j<R1.N/\∃o u,us[i]?=some u/\g[j]?=some o/\thO (res (Yf A js h.length) g 3) o=some u:=fun i j p=>by
  obtain⟨u,D,t⟩:=(QD al).2 i j p;obtain⟨o,z3,z4⟩:=Na.mp t;exact⟨a2 j (NA.mpr ⟨i,p⟩),by rw[s.len];exact(Ng.mp z3).1,o,u,D,z3,z4⟩
 have P:∀x,x<R.N->∀j,A.length<=j->j<R1.N->R1.ρ j≠R.ρ x:=fun x l j hj ap ee=>by
  by_cases hm:x∈A
  ·obtain⟨i,O⟩:=af x hm;obtain⟨D,t⟩:=aa i x O;have:=s.inj j i ap D (ee.trans t.symm);have:=(Ng.mp O).1;lia
  ·have z:=s.gsep j ap;rw[ab,ee,ak x l hm]at z;obtain⟨_,u,_,hu⟩:=L.there l;rw[hu]at z;cases z
 let R2:Rn:={ ρ:=fun n=>if n<R.N then R.ρ n else R1.ρ (js.getD (n-R.N) 0),N:=R.N+js.length,F:=fun a=>match R1.F a with|some o=>some o|none=>if∃j,A.length<=j/\j<R1.N/\j∉js/\R1.ρ j=a then H1 a else none,G:=R.G }
 have C:∀x,x<R.N->R2.ρ x=R.ρ x:=fun x l=>if_pos l
 have I:∀(i j:Nat),js[i]?=some j->R2.ρ (R.N+i)=R1.ρ j:=fun i j p=>by
  show(if R.N+i<R.N then R.ρ (R.N+i)else R1.ρ (js.getD (R.N+i-R.N) 0))=_;rw[if_neg (El.mpr (NW _ _)),FP,NE,p];rfl
 have f1:∀a o,R1.F a=some o->R2.F a=some o:=fun a o z=>by
  show(match R1.F a with|some o=>some o|none=>if∃j,A.length<=j/\j<R1.N/\j∉js/\R1.ρ j=a then H1 a else none)=some o;rw[z]
 have Z:∀a,R1.F a=none->(¬∃j,A.length<=j/\j<R1.N/\j∉js/\R1.ρ j=a)->R2.F a=none:=fun a D t=>by
  show(match R1.F a with|some o=>some o|none=>if∃j,A.length<=j/\j<R1.N/\j∉js/\R1.ρ j=a then H1 a else none)=none;rw[D];exact if_neg t
 have aq:∀j,A.length<=j->j<R1.N->j∉js->R2.F (R1.ρ j)=H1 (R1.ρ j):=fun j a b c=>by
  show(match R1.F (R1.ρ j)with|some o=>some o|none=>if∃j',A.length<=j'/\j'<R1.N/\j'∉js/\R1.ρ j'=R1.ρ j then H1 (R1.ρ j)else none)=_;rw[s.sep j b];exact if_pos ⟨j,a,b,c,rfl⟩
 have ai:Ext R R2:=⟨NW _ _,fun x l=>C x l,fun a o z=>f1 a o (x1.f a o z),rfl⟩
 have B:∀x,x<R2.N->x<R.N\/∃i j:Nat,x=R.N+i/\js[i]?=some j:=fun x l=>by
  have ah:x<R.N+js.length:=l
  by_cases z:x<R.N
  ·exact .inl z
  ·exact .inr ⟨x-R.N,js[x-R.N]'(Fz (El.mp z) ah),by lia,Ni (Fz (El.mp z) ah)⟩
 have hr:∀d j v w,Rw K R1 (.ref j) v->res (Yf A js h.length) g d j=some w->Rw K R2 w v:=by
  have ae:∀j v x,Rw K R1 (.ref j) v->Yf A js h.length j=some x->Rw K R2 (.ref x) v:=fun j v x r z=>by
   unfold Rw at r ⊢;unfold Yf at z;split at z
   ·rename_i y U;cases z;obtain⟨D,t⟩:=aa j x U;have am:=(X j x U).1;exact⟨Nm am ai.n,by rw[C x am,<-t];exact r.2⟩
   ·obtain⟨i,D,t⟩:=Nf.mp z;have p:=W6 D;subst t;rw[<-L.len,I i j p];exact⟨Es (Ng.mp p).1 _,r.2⟩
  intro d
  induction d with
  |zero=>
   intro j v w r z;unfold res at z;obtain⟨x,D,t⟩:=Nf.mp z;subst t;exact ae j v x r D
  | succ d ih=>
   intro j v w r z;unfold res at z;split at z
   ·rename_i x l;cases z;exact ae j v x r l
   ·rename_i M;split at z
    ·rename_i au hg;obtain⟨av,D,t⟩:=Nf.mp z;subst t;obtain⟨xs,o1,o2⟩:=s.obj j _ hg;have an:j<R1.N/\v=.ref (R1.ρ j):=by unfold Rw at r;exact r
     unfold Yf at M;split at M
     ·cases M
     ·rename_i a1;have ao:j∉js:=Ut (by simpa using M);unfold Rw;refine⟨R1.ρ j,xs,an.2,?_,Rws.th_ok f1 ih au xs av D o2⟩;rw[aq j (FA.mp a1) an.1 ao];exact o1
    ·cases z
 refine k R2 H1 v ai ⟨?_,fun a o ha=>?_,fun x l=>?_,fun x y l U ee=>?_,fun x o l=>?_,fun a o ha=>?_,fun x l=>?_,fun a o ha=>?_⟩ (Rw.th_ok f1 (hr 3) w v _ e7 rv)
 ·show R.N+js.length=_;rw[NC,ZT,<-(QD al).1,L.len]
 ·have J:(match R1.F a with|some o=>some o|none=>if∃j,A.length<=j/\j<R1.N/\j∉js/\R1.ρ j=a then H1 a else none)=some o:=ha;split at J
  ·rename_i o' a0;cases J;exact s.sub a _ a0
  ·split at J
   ·exact J
   ·cases J
 ·rcases B x l with l|⟨i,j,rfl,p⟩
  ·rw[C x l];refine Z _ ?_ (fun⟨j,a,b,_,c⟩=>P x l j a b c)
   by_cases hm:x∈A
   ·obtain⟨i,O⟩:=af x hm;obtain⟨D,t⟩:=aa i x O;rw[<-t];exact s.sep i D
   ·obtain⟨_,u,_,hu⟩:=L.there l;exact s.gf _ u (by rw[ab,ak x l hm];exact hu)
  ·obtain⟨D,t,_⟩:=Y i j p;rw[I i j p];refine Z _ (s.sep j t) (fun⟨j',a,b,c,d⟩=>?_);have:=s.inj j' j b t d;subst this;exact c (NA.mpr ⟨i,p⟩)
 ·rcases B x l with l|⟨i,j,rfl,p⟩<;>rcases B y U with U|⟨i',j',rfl,S⟩
  ·rw[C x l,C y U]at ee;exact L.inj x y l U ee
  ·rw[C x l,I i' j' S]at ee;obtain⟨D,t,_⟩:=Y i' j' S;exact absurd ee.symm (P x l j' D t)
  ·rw[C y U,I i j p]at ee;obtain⟨D,t,_⟩:=Y i j p;exact absurd ee (P y U j D t)
  ·rw[I i j p,I i' j' S]at ee;obtain⟨_,t,_⟩:=Y i j p;obtain⟨_,ar,_⟩:=Y i' j' S;have:=s.inj j j' t ar ee;subst this;rw[Ud a3 p S]
 ·have ah:x<R2.N:=by
   have:=(Ng.mp l).1;rw[NC,ZT,<-(QD al).1,<-L.len]at this;exact this
  rcases B x ah with hn|⟨i,j,rfl,p⟩
  ·rw[Np (by rw[ZT,<-L.len];exact hn)]at l;rw[C x hn]
   by_cases hm:x∈A
   ·obtain⟨i,O⟩:=af x hm;obtain⟨D,t⟩:=aa i x O;have a4:=(Ng.mp O).1;rw[YN A os h i x hd (by rw[<-(QD e9).1,DK]) O (by rw[<-L.len];exact hn)]at l;obtain⟨u,y1,y2⟩:=(QD e9).2 i i (by rw[Er a4]);rw[l]at y1;cases y1;obtain⟨o',y3,y4⟩:=Na.mp y2;rw[<-t];exact GK f1 (hr 3) y4 (s.obj i o' y3)
   ·rw[V7 A os h x hm]at l;obtain⟨_,u,_,hu⟩:=L.there hn;have az:H1 (R.ρ x)=some u:=s.gsub _ u (by rw[ab,ak x hn hm];exact hu);have:=L.obj x o l;rw[hu]at this;rw[az];exact this.mono ai
  ·obtain⟨D,t,o',u,y1,y2,y3⟩:=Y i j p;rw[NQ (by rw[ZT,<-L.len];exact NW _ _),ZT,<-L.len,FP,y1]at l;cases l;rw[I i j p];exact GK f1 (hr 3) y3 (s.obj j o' y2)
 ·exact s.gsub a o (by rw[ab];exact aj a o ha)
 ·rcases B x l with l|⟨i,j,rfl,p⟩
  ·rw[C x l];exact L.gsep x l
  ·rw[I i j p];obtain⟨_,t,_⟩:=Y i j p;cases z:R2.G (R1.ρ j)with
   |none=>rfl
   |some u=>
    have z3:=s.gsep j t;rw[ab,aj _ u z]at z3;cases z3
 ·have hg:R1.G a=some o:=by rw[ab];exact aj a o ha
  refine Z a (s.gf a o hg) (fun⟨j,_,b,_,d⟩=>?_);have z3:=s.gsep j b;rw[d,hg]at z3;cases z3
theorem Cal.box(b:W->List Nat)(C:Cal P w K a base k x ps g):Cal P w K a base k x ps (Mi.box b g):=
 C.imp fun _ _ _ _ q=>QhG q
end
noncomputable def frN:W->List Nat:=fun _=>[]
noncomputable def Wo:List Nat->List W->MSt->Option MSt
 |[],[],σ=>some σ
 |i::is,w::ws,σ=>Wo is ws (σ.set i (some w))
 |_,_,_=>none
noncomputable def XN(is:List Nat):MG:=fun w a _=>match w with|.tup b=>Wo is b a|_=>none
noncomputable def UY:List Nat->TGs
 |[]=>Ql3
 |i::is=>Qif (QaX i) (UY is)
theorem XJ:PGs X [] (UY []):=Qgf
theorem QG(hN:X.N.Nodup)(b:X.N[i]?=some x)(a:Loc X.env.scope x)(h:PGs X d (UY is))(c:X.fn x=true\/X.env.scope.names.lookup x=some .local)
  : PGs X (.Name x pos::d) (UY (i::is)):=QdH (QbS hN b a c) h
theorem WE{K:Nd}:∀{is:List Nat} {ws:List W} {xs:List V} {a σ1:MSt} {σ:L2.St},Wo is ws a=some σ1->Rws K R ws xs->Rst K R a σ->(∀b,Rst K R σ1 b->C b H)->UY is xs σ H C
 |[],[],xs,a,σ1,σ,e,r,s,k=>by
  cases e;rw[Rws.nil_iff]at r;exact⟨r,k σ s⟩
 |i::is,w::ws,xs,a,σ1,σ,e,r,s,k=>by
  rw[Rws.cons_iff]at r;obtain⟨v,vs,rfl,d,c⟩:=r;exact⟨v,vs,rfl,WE (is:=is) e c (s.set d) k⟩
 |[],_::_,_,_,_,_,e,_,_,_=>by cases e
 |_::_,[],_,_,_,_,e,_,_,_=>by cases e
theorem KT:∀{is:List Nat} {ws:List W} {σ σ1:MSt},Wo is ws σ=some σ1->ws.length=is.length
 |[],[],_,_,_=>rfl
 |i::is,w::ws,σ,σ1,e=>by
  have:=KT (is:=is) (ws:=ws) e;simp[this]
 |[],_::_,_,_,e=>by cases e
 |_::_,[],_,_,e=>by cases e
theorem Y5{is:List Nat}(o:X.calm=true)(h:PGs X b (UY is))(n:(assignEach b X.env).length=is.length)(m:(assignEach b X.env).findIdx? (·.1)=none):PMG X (.Tuple b k pos) (XN is):=
 Qbs (Qhf o h n m) fun v p H C i=>by
  obtain⟨R,f,h,w,g,c,st,rw,e,q⟩:=i;unfold XN at e;split at e
  ·rename_i r;obtain⟨ad,j,rfl,q1,d⟩:=c.tupAt rw;exact⟨ad,j,rfl,q1,by rw[<-d.length];exact KT e,WE e d st fun a l=>q R H a (Ext.refl _) c l⟩
  ·cases e
noncomputable def Qel(g:MG)(m:ME):SM:=fun b h=>(m b h).bind fun p=>(g p.1 b p.2).map fun a=>.nx a p.2
theorem Wu(u:PM X e m)(t:PMG X b g)(q:swapsWithSole [b] e pos.line X.env=pure false)(hw:swappedStores [b] e X.env=pure none)(h1:(assignEach [b] X.env).map (·.2)=[assign b X.env]) :
  PMS X (.Assign [b] e pos) (Qel g m):=JO (QeI u t q hw h1) <|by
 rintro D E H ⟨R,a,h,r,p,s,e,k⟩
 obtain⟨⟨w,h1⟩,A,z⟩:=Na.mp e;obtain⟨c,y,x⟩:=Nf.mp z;cases x;exact⟨R,a,h,w,h1,p,s,A,fun R1 F v j f o=>⟨R1,a,h1,w,c,f,s.mono j,o,y,fun B C d l i n=>k B C d (j.trans l) i n⟩⟩
noncomputable def Qn4(ws:List W)(h:MH):Option (W×MH):=match ws with
 |[.int i,.int j]=>some (.int (if j>i then j else i),h)
 |_=>none
noncomputable def Qg1(ws:List W)(h:MH):Option (W×MH):=match ws with
 |[.int i]=>some (.int i,h)
 |[.bl b]=>some (.int (if b then 1 else 0),h)
 |_=>none
section
variable{X:Cx}
theorem Qbi:CallR X (.type "int") (Fs X.K Qg1):=by
 intro a s d H f g Q I r q;refine QbJ a s d H f g Q I r ?_;obtain⟨R,h,i,w,j,c,rw,e,k⟩:=q;unfold Qg1 at e;split at e
 ·cases e;obtain⟨v,rfl,b⟩:=Yu rw;exact .inl ⟨_,by rw[b.int_eq],k R H _ (Ext.refl _) c (Rw.int _)⟩
 ·cases e;obtain⟨v,rfl,b⟩:=Yu rw;exact .inr ⟨_,by rw[b.bl_eq],k R H _ (Ext.refl _) c (Rw.int _)⟩
 ·cases e
noncomputable def rep(x:Str)(n:Int):Str:=⟨((List.replicate n.toNat x.cps.toList).flatten).toArray⟩
theorem WJ:∀(l:List (Array Nat)) (a:Array Nat),l.foldl (·++·) a=(a.toList++(l.map Array.toList).flatten).toArray
 |[],a=>by simp
 |b::l,a=>by rw[LS,WJ l];simp
theorem Qeg(x:Str)(n:Int):(⟨(List.replicate n.toNat x.cps).foldl (·++·) #[]⟩:Str)=rep x n:=by
 unfold rep;rw[WJ];simp
theorem QdE(x:Str)(h:n<1):Str.empty=rep x n:=by
 unfold rep;rw[show n.toNat=0 by lia];rfl
theorem Qgl(x:Str):x=rep x 1:=by
 unfold rep;simp
theorem QgR(n:Int)(h:(x.length==0)=true):x=rep x n:=by
 unfold rep
 have:x.cps=#[]:=by
  have:x.cps.size=0:=by simpa[Str.length]using h
  exact Array.eq_empty_of_size_eq_zero this
 obtain⟨c⟩:=x;simp at this;subst this;simp
noncomputable def JB(a b:W)(h:MH):Option (W×MH):=match a,b with
 |.str x,.int n=>if n<1000/\-1000<n/\x.length<1000 then some (.str (rep x n),h)else none
 |a,b=>QhI a b h
theorem Qge:OpR X (binaryOp .Mult) (fun x y H Q=>∃z n,x=.str z/\y=.int n/\(n<1000/\-1000<n/\z.length<1000)/\Q (.str (rep z n)) H):=by
  intro b s e H x y v u Q I i h ⟨z,n,p,o,⟨C,B,A⟩,q⟩;subst p o;obtain⟨t,rfl⟩:=i;obtain⟨w,rfl⟩:=h
  have j:z.length*n.toNat<1000000:=by
    calc z.length*n.toNat<=999*999:=Nat.mul_le_mul (by lia) (by lia)
      _<1000000:=by decide
  refine PySem.P.mul_str (by rw[decide_eq_false (by lia),decide_eq_false (by lia)];rfl) (fun a _=>?_) (fun a _=>?_) ?_
  · have:(2^63-1)/n >= 1000:=by
      rw[ge_iff_le,Int.le_ediv_iff_mul_le (by lia)];lia
    lia
  · unfold Builtin.Str.tooLong
    exact decide_eq_false (by show¬_;have:sizeLine=16777216:=by decide
                              lia)
  · have done:∀(y:Str) (f:Tok) (d:Shared),y=rep z n->Inv X b e H d->EP X b e Q (.str y f) d:=fun y f d m r=>⟨.str y,H,r,⟨_,rfl⟩,by rw[m];exact q⟩
    split
    · rename_i g;exact⟨by decide,done _ _ _ (QdE z g) (I.tok _)⟩
    · split
      · rename_i g c;rw[EC]at c;refine done _ _ _ ?_ I
        rcases c with c|c
        · have:n=1:=by simpa using c
          subst this;exact Qgl z
        · exact QgR n c
      · refine⟨?_,done _ _ _ (Qeg z n) (I.tok _)⟩;rw[Qeg]
        have l:(rep z n).length=n.toNat*z.length:=by
          unfold rep Str.length;simp
        rw[l,Nat.mul_comm];have:sizeLine=16777216:=by decide
        exact ND (Nm (N4 j (by decide)) (NH this.symm))
theorem Z0:OpR X (binaryOp .Mult) (F2 X.K JB):=by
 intro c s d H x y v u Q I g f q;obtain⟨R,h,a,b,w,n,i,l,j,e,k⟩:=q;unfold JB at e;split at e
 ·split at e
  ·rename_i m;cases e;exact Qge c s d H x y v u Q I g f ⟨_,_,l.str_eq,j.int_eq,m,k R H _ (Ext.refl _) i (Rw.str _)⟩
  ·cases e
 ·exact Qfm c s d H x y v u Q I g f ⟨R,h,a,b,w,n,i,l,j,e,k⟩
end
section
variable{X:Cx}{elt tg iter c:Expr}{scope:Scope}{pos pos' spos:Pos}{cl:List (Str×Addr)}{Nb:List Str}{cp:List (Option Nat)}{mi:MI}{b:MG}{mt:MT}{me m:ME}{fin:List W->MH->Option (W×MH)}{i:Nat}{x:Str}{e:Expr}
theorem Qcx{K:Nd}(q:tS K (QP i m) D σ H):tI K m σ H fun v f=>QaX i v σ f D.nx:=by
 obtain⟨R,a,h,r,l,s,e,k⟩:=q;obtain⟨⟨w,n⟩,p,o⟩:=Nf.mp e;cases o;exact⟨R,a,h,w,n,l,s,p,fun R1 f v g d j=>k R1 f _ g d ((s.mono g).set j)⟩
theorem Qcg(hN:X.N.Nodup)(n:X.N[i]?=some x)(v:Loc X.env.scope x)(o:X.fn x=true\/X.env.scope.names.lookup x=some .local)(A:Qcc X.K fin)(E:X.calm=true)(B:BlkOk X scope cl Nb cp)(y:PMI X tg iter mi)(z:∀a d C j f,PMG (Mi.blk X scope cl Nb a d C j f) tg b)
  (D:∀a d C j f,PM (Mi.blk X scope cl Nb a d C j f) elt me) (w:∀x,foldedSetIterable iter X.env x=pure x) (l:swapsWith (.ListComp elt [⟨tg,iter,[],0⟩] scope pos) (some (.Name x pos')) spos.line X.env=pure true) :
  PMS X (.Assign [.Name x pos'] (.ListComp elt [⟨tg,iter,[],0⟩] scope pos) spos) (QP i (Jh fin mi cp b Yk me)):=
 JO (Qct (g:=tIG X.K b) (te:=tI X.K me) (tt:=tIT X.K Yk) hN n v o l E B y z (fun a d C j f p s F H Q I q=>wpAny_tests_nil (by
  obtain⟨R,r,h,t,L,u,st,e,k⟩:=q;cases e
  exact⟨H,I,k R H (Ext.refl _) u⟩)) D w) fun _ _ _ q=>Gc A (Qcx q)
theorem Qbk(hN:X.N.Nodup)(n:X.N[i]?=some x)(r:Loc X.env.scope x)(o:X.fn x=true\/X.env.scope.names.lookup x=some .local)(y:Qcc X.K fin)(A:X.calm=true)(B:BlkOk X scope cl Nb cp)(v:PMI X tg iter mi)(w:∀a d C h f,PMG (Mi.blk X scope cl Nb a d C h f) tg b)
  (t:∀a d C h f,PMT (Mi.blk X scope cl Nb a d C h f) c mt)
  (z:∀a d C h f,PM (Mi.blk X scope cl Nb a d C h f) elt me) (u:∀x,foldedSetIterable iter X.env x=pure x) (l:swapsWith (.ListComp elt [⟨tg,iter,[c],0⟩] scope pos) (some (.Name x pos')) spos.line X.env=pure true) :
  PMS X (.Assign [.Name x pos'] (.ListComp elt [⟨tg,iter,[c],0⟩] scope pos) spos) (QP i (Jh fin mi cp b mt me)):=
 JO (Qct (g:=tIG X.K b) (te:=tI X.K me) (tt:=tIT X.K mt) hN n r o l A B v w (fun a d C h f j s p H Q I q=>wpAny_tests_one (t a d C h f j s p H Q I q)) z u) fun _ _ _ q=>Gc y (Qcx q)
end
set_option checkBinderAnnotations false in
noncomputable def ob[f:b->Option a](x:Option b):Option a:=x.bind f
set_option checkBinderAnnotations false in
noncomputable def om[f:b->a](x:Option b):Option a:=x.map f
@[simp]theorem Wl:@ob _ _ f (some a)=f a:=id rfl
@[simp]theorem Qk3:@om _ _ f (some a)=some (f a):=id rfl
noncomputable def Qg2(b:SM):MF->Option MF
 |.nx σ h=>b σ h
 |r=>some r
section
variable{σ σ':MSt}{h h':MH}{a b:SM}{m ma mb mc:ME}{t u:MT}{ms:MA}{w x y:W}{ws:List W}
@[simp]theorem Qfg:Qg2 b (.nx σ h)=b σ h:=id rfl
@[simp]theorem QkX:Qg2 b (.rt w h)=some (.rt w h):=id rfl
@[simp]theorem Qj3:Qg2 b (.bk σ h)=some (.bk σ h):=id rfl
@[simp]theorem QkQ:Qg2 b (.ct σ h)=some (.ct σ h):=id rfl
@[simp]theorem QdR:Qh a b σ h=@ob _ _ (Qg2 b) (a σ h):=by
 unfold Qh;refine congrArg (fun c=>@ob _ _ c (a σ h)) (funext fun r=>?_);cases r<;>rfl
@[simp]theorem QlI:Qx σ h=some (.nx σ h):=id rfl
@[simp]theorem QmK:Zg m σ h=@om _ _ (fun p=>.rt p.1 p.2) (m σ h):=id rfl
noncomputable def onB(a b:SM)(σ:MSt)(p:Bool×MH):Option MF:=if p.1=true then a σ p.2 else b σ p.2
@[simp]theorem Qf4(c:Bool):onB a b σ (c,h)=if c=true then a σ h else b σ h:=id rfl
@[simp]theorem QjJ:Q9 t a b σ h=@ob _ _ (onB a b σ) (t σ h):=by
 unfold Q9;refine congrArg (fun d=>@ob _ _ d (t σ h)) (funext fun p=>?_);obtain⟨c,h⟩:=p;cases c<;>rfl
@[simp]theorem QlH:Zf m σ h=@om _ _ (fun p=>.nx σ p.2) (m σ h):=id rfl
@[simp 500]theorem Qnx:QP i m σ h=@om _ _ (fun p=>.nx (σ.set i (some p.1)) p.2) (m σ h):=id rfl
@[simp]theorem Qnl:Qf8 i f m σ h=@ob _ _ (fun x=>@ob _ _ (fun p=>@om _ _ (fun q=>.nx (σ.set i (some q.1)) q.2) (f x.1 p.1 p.2)) (m σ h)) (Qb i σ h):=by
 unfold Qf8 Qb
 rcases σ[i]? with _|_|x<;>rfl
@[simp 1100]theorem Qmu{v0 v1 x:Option W}{r:MSt}:List.set (v0::v1::r) 1 x=v0::x::r:=id rfl
@[simp 1100]theorem Qnd{v0 v1 c x:Option W}{r:MSt}:List.set (v0::v1::c::r) 2 x=v0::v1::x::r:=id rfl
@[simp 1100]theorem QnC{v0 v1 c d x:Option W}{r:MSt}:List.set (v0::v1::c::d::r) 3 x=v0::v1::c::x::r:=id rfl
@[simp 1100]theorem Qnm{v0 v1 d c v4 x:Option W}{r:MSt}:List.set (v0::v1::d::c::v4::r) 4 x=v0::v1::d::c::x::r:=id rfl
@[simp 1100]theorem Qne{v0 v1 d c v4 e x:Option W}{r:MSt}:List.set (v0::v1::d::c::v4::e::r) 5 x=v0::v1::d::c::v4::x::r:=id rfl
@[simp 1100]theorem Qng{v0 v1 e d v4 c v6 x:Option W}{r:MSt}:List.set (v0::v1::e::d::v4::c::v6::r) 6 x=v0::v1::e::d::v4::c::x::r:=id rfl
@[simp 1100]theorem QnB{v0 v1 e d v4 c v6 f x:Option W}{r:MSt}:List.set (v0::v1::e::d::v4::c::v6::f::r) 7 x=v0::v1::e::d::v4::c::v6::x::r:=id rfl
@[simp 1100]theorem Qm7{v0 v1 f e v4 d v6 c g x:Option W}{r:MSt}:List.set (v0::v1::f::e::v4::d::v6::c::g::r) 8 x=v0::v1::f::e::v4::d::v6::c::x::r:=id rfl
@[simp 1100]theorem Qni{v0 v1 g f v4 e v6 d c i x:Option W}{r:MSt}:List.set (v0::v1::g::f::v4::e::v6::d::c::i::r) 9 x=v0::v1::g::f::v4::e::v6::d::c::x::r:=id rfl
@[simp]theorem Qnb:Qel g m σ h=@ob _ _ (fun p=>@om _ _ (fun σ1=>.nx σ1 p.2) (g p.1 σ p.2)) (m σ h):=id rfl
@[simp]theorem GM:Qb 0 (some o::r) h=some (o,h):=id rfl
@[simp]theorem Qk9:Qb 1 (v0::some o::r) h=some (o,h):=id rfl
@[simp]theorem Qis:Qb 2 (v0::v1::some o::r) h=some (o,h):=id rfl
@[simp]theorem QlO:Qb 3 (v0::v1::c::some o::r) h=some (o,h):=id rfl
@[simp]theorem Qlj:Qb 4 (v0::v1::d::c::some o::r) h=some (o,h):=id rfl
@[simp]theorem Qme:Qb 5 (v0::v1::d::c::v4::some o::r) h=some (o,h):=id rfl
@[simp]theorem QlZ:Qb 6 (v0::v1::e::d::v4::c::some o::r) h=some (o,h):=id rfl
@[simp]theorem Qmk:Qb 7 (v0::v1::e::d::v4::c::v6::some o::r) h=some (o,h):=id rfl
@[simp]theorem Ql4:Qb 8 (v0::v1::f::e::v4::d::v6::c::some o::r) h=some (o,h):=id rfl
@[simp]theorem Qlx:Qb 9 (v0::v1::g::f::v4::e::v6::d::c::some o::r) h=some (o,h):=id rfl
@[simp 400]theorem Qlt:Qb (i+1) (o::r) h=Qb i r h:=by
 unfold Qb;rw[List.getElem?_cons_succ]
@[simp]theorem s_c:mC w σ h=some (w,h):=id rfl
@[simp 500]theorem Qnz:Qc f ma mb σ h=@ob _ _ (fun p=>@ob _ _ (fun q=>f p.1 q.1 q.2) (mb σ p.2)) (ma σ h):=id rfl
@[simp]theorem Qn5:mUn f ma σ h=@ob _ _ (fun p=>f p.1 p.2) (ma σ h):=id rfl
@[simp]theorem QnV:mFn f ms σ h=@ob _ _ (fun p=>f p.1 p.2) (ms σ h):=id rfl
@[simp]theorem QlB:Ql n g ms σ h=@ob _ _ (fun p=>if p.1.length=n then g p.1 p.2 else none) (ms σ h):=id rfl
@[simp]theorem QkH:Qd σ h=some ([],h):=id rfl
@[simp 600]theorem QlL:Qc f ma (mC w) σ h=@ob _ _ (fun p=>f p.1 w p.2) (ma σ h):=id rfl
@[simp 600]theorem QkP:Qa (mC w) ms σ h=@ob _ _ (fun q=>some (w::q.1,q.2)) (ms σ h):=id rfl
@[simp 610]theorem Qk5:Qa m Qd σ h=@ob _ _ (fun p=>some ([p.1],p.2)) (m σ h):=id rfl
@[simp 620]theorem Qjq:Qa (mC w) Qd σ h=some ([w],h):=id rfl
@[simp 600]theorem Qlr:QP i (mC w) σ h=some (.nx (σ.set i (some w)) h):=id rfl
@[simp 500]theorem Qhw:Qa m ms σ h=@ob _ _ (fun p=>@ob _ _ (fun q=>some (p.1::q.1,q.2)) (ms σ p.2)) (m σ h):=id rfl
noncomputable def asB(p:W×MH):Option (Bool×MH):=match p.1 with|.bl b=>some (b,p.2)|_=>none
@[simp]theorem QlR(c:Bool):asB (.bl c,h)=some (c,h):=id rfl
@[simp 500]theorem QlY:Qg m σ h=@ob _ _ asB (m σ h):=id rfl
@[simp]theorem QlN:KM t σ h=@om _ _ (fun p=>(!p.1,p.2)) (t σ h):=by
 unfold KM
 first|rfl|(cases t σ h<;>rfl)
noncomputable def Qi3(u:MT)(σ:MSt)(p:Bool×MH):Option (Bool×MH):=if p.1=true then u σ p.2 else some (false,p.2)
noncomputable def Qlb(u:MT)(σ:MSt)(p:Bool×MH):Option (Bool×MH):=if p.1=true then some (true,p.2)else u σ p.2
@[simp]theorem Qh4(c:Bool):Qi3 u σ (c,h)=if c=true then u σ h else some (false,h):=id rfl
@[simp]theorem Qjx(c:Bool):Qlb u σ (c,h)=if c=true then some (true,h)else u σ h:=id rfl
@[simp 500]theorem Qll:Z8 t u σ h=@ob _ _ (Qi3 u σ) (t σ h):=by
 unfold Z8;refine congrArg (fun d=>@ob _ _ d (t σ h)) (funext fun p=>?_);obtain⟨c,h⟩:=p;cases c<;>rfl
@[simp 500]theorem QnI:QaR t u σ h=@ob _ _ (Qlb u σ) (t σ h):=by
 unfold QaR;refine congrArg (fun d=>@ob _ _ d (t σ h)) (funext fun p=>?_);obtain⟨c,h⟩:=p;cases c<;>rfl
noncomputable def Qmh(ma mb:ME)(σ:MSt)(p:Bool×MH):Option (W×MH):=if p.1=true then ma σ p.2 else mb σ p.2
@[simp]theorem Qjk(c:Bool):Qmh ma mb σ (c,h)=if c=true then ma σ h else mb σ h:=id rfl
@[simp]theorem QnT:mIf t ma mb σ h=@ob _ _ (Qmh ma mb σ) (t σ h):=by
 unfold mIf;refine congrArg (fun d=>@ob _ _ d (t σ h)) (funext fun p=>?_);obtain⟨c,h⟩:=p;cases c<;>rfl
@[simp]theorem Qms:YK m σ h=@ob _ _ (fun p=>@om _ _ (fun b=>(b,p.2)) (Qev p.2 p.1)) (m σ h):=by
 unfold YK;rfl
@[simp]theorem Qn2:mMt T f m ms σ h=@ob _ _ (fun p=>if tyW p.2 T p.1=true then@ob _ _ (fun q=>f p.1 q.1 q.2) (ms σ p.2)else none) (m σ h):=id rfl
end
section
variable{h:MH}{i j:Int}{x y:Str}{ws us:List W}{w:W}
@[simp]theorem QmH:Zs (.int i) (.int j) h=some (.int (i+j),h):=id rfl
@[simp]theorem Qnh:QbX (.int i) (.int j) h=some (.int (i-j),h):=id rfl
@[simp]theorem Qn9:wLt (.int i) (.int j) h=some (.bl (decide (i<j)),h):=id rfl
@[simp]theorem QnN:wGt (.int i) (.int j) h=some (.bl (decide (j<i)),h):=id rfl
@[simp]theorem Qn1:wGe (.int i) (.int j) h=some (.bl (decide (j<=i)),h):=id rfl
@[simp]theorem QmS:QaL (.int i) h=some (.int (-i),h):=id rfl
@[simp]theorem Qla:Qah (.int i) (.int j) h=some (.int (i+j),h):=id rfl
@[simp]theorem Qns(c:0<j):JC (.int i) (.int j) h=some (.int (i%j),h):=Qfp c
@[simp]theorem Qmt(c:0<j)(a:j<1073741824):KW (.int i) (.int j) h=some (.int (i/j),h):=QeP ⟨c,a⟩
@[simp]theorem Qle(c:-18446744073709551616<j)(a:j<18446744073709551616):JB (.int i) (.int j) h=some (.int (i*j),h):=Qcy (.inr ⟨c,a⟩)
@[simp]theorem Ql9(c:-18446744073709551616<i)(a:i<18446744073709551616):JB (.int i) (.int j) h=some (.int (i*j),h):=Qcy (.inl ⟨c,a⟩)
theorem QiO(c:j<1000/\-1000<j/\x.length<1000):JB (.str x) (.int j) h=some (.str (rep x j),h):=if_pos c
@[simp]theorem QmA:Q4 ws h=if ws.length<=sizeLine then some (.tup ws,h)else none:=id rfl
@[simp]theorem QmC:Zb ws h=if ws.length<=sizeLine then some (.lst ws,h)else none:=id rfl
@[simp]theorem Qnk:Yi ws h=if ws.length<=sizeLine then some (.ref h.length,h++[.lst ws])else none:=id rfl
@[simp]theorem Qmz:wIx (.tup ws) (.int i) h=@om _ _ (fun w=>(w,h)) (atI ws i):=id rfl
@[simp]theorem QmO:wIx (.lst ws) (.int i) h=@om _ _ (fun w=>(w,h)) (atI ws i):=id rfl
@[simp]theorem Qmy:wIx (.frz ws) (.int i) h=@om _ _ (fun w=>(w,h)) (atI ws i):=id rfl
@[simp]theorem Qmw:wIx (.ref n) (.int i) h=@ob _ _ (fun(ws:List W)=>@om _ _ (fun w=>(w,h)) (atI ws i)) (match h[n]? with|some (.lst ws)=>some ws|_=>none):=id rfl
@[simp]theorem QlC:VN [.tup ws] h=some (.int ws.length,h):=id rfl
@[simp]theorem Ql6:VN [.lst ws] h=some (.int ws.length,h):=id rfl
@[simp]theorem QlK:VN [.frz ws] h=some (.int ws.length,h):=id rfl
@[simp]theorem QlJ:VN [.ref n] h=@om _ _ (fun(ws:List W)=>(.int ws.length,h)) (match h[n]? with|some (.lst ws)=>some ws|_=>none):=id rfl
theorem Qs{xs:List a}{n:Nat}:atI xs (n:Int)=xs[n]?:=by
 cases e:xs[n]? with
 |some x=>exact Qb5 e
 |none=>
  unfold atI ixN;have:xs.length<=n:=FA.mp e;rw[if_pos (by lia)];rw[if_neg (by lia)];rfl
@[simp]theorem Qn0:atI xs 0=xs[0]?:=Qs (n:=0)
@[simp]theorem Qn7:atI xs 1=xs[1]?:=Qs (n:=1)
@[simp]theorem Qhu{a:Type}{xs:List a}{y:a}:atI (xs++[y]) (-1)=some y:=Gm xs y
theorem Qfz(a:k<n):ixN n (k:Int)=some k:=by unfold ixN;rw[if_pos (by lia),if_pos (by lia)];simp
noncomputable def Qh7(o i v:W)(σ:MSt)(h:MH):Option MF:=match o,i with
 |.ref n,.int k=>match h[n]? with
  |some (.lst a)=>@om _ _ (fun j=>.nx σ (h.set n (.lst (a.set j v)))) (ixN a.length k)
  |_=>none
 |_,_=>none
@[simp]theorem QkO:Qjl mo mi a σ h=@ob _ _ (fun v=>@ob _ _ (fun o=>@ob _ _ (fun i=>Qh7 o.1 i.1 v.1 σ i.2) (mi σ o.2)) (mo σ v.2)) (a σ h):=id rfl
@[simp]theorem QjD:Qh7 (.ref n) (.int i) v σ h=match h[n]? with
  |some (.lst xs)=>@om _ _ (fun j=>.nx σ (h.set n (.lst (xs.set j v)))) (ixN xs.length i)
  |_=>none:=id rfl
@[simp]theorem Qmc{w:W}:UA (some (.rt w h))=some (w,h):=id rfl
@[simp]theorem Qlp:UA (some (.nx σ h))=some (.non,h):=id rfl
@[simp]theorem Qjm{n:Nat}{w:W}:QB (.ref n) [w] h=match h[n]? with|some (.lst xs)=>if xs.length<sizeLine then some (.non,h.set n (.lst (xs++[w])))else none|_=>none:=id rfl
@[simp]theorem Qjo{n:Nat}{w:W}:Y3 (.ref n) [w] h=match h[n]? with|some (.lst xs)=>@ob _ _ (fun ys=>if xs.length+ys.length<=sizeLine then some (.non,h.set n (.lst (xs++ys)))else none) (loW h w)|_=>none:=id rfl
@[simp]theorem Qnr:loW h (.lst ws)=some ws:=id rfl
@[simp]theorem QmM:Qiw (.ref n) [] h=match h[n]? with|some (.lst xs)=>@om _ _ (fun w=>(w,h.set n (.lst xs.dropLast))) (xs[xs.length-1]?)|_=>none:=id rfl
@[simp]theorem QmR:tyW h T (.ref n)=match h[n]? with|some (.lst _)=>T=="list"|some (.dic _)=>T=="dict"|some (.dct _)=>T=="dict"|_=>false:=id rfl
@[simp]theorem Qm4:tyW h T (.lst ws)=(T=="list"):=id rfl
@[simp]theorem Qmd:Qev h (.ref n)=match h[n]? with|some (.lst ws)=>some (!ws.isEmpty)|some (.dic kvs)=>some (!kvs.isEmpty)|_=>none:=id rfl
@[simp]theorem Qmm:Qev h (.bl b)=some b:=id rfl
@[simp]theorem Qli:Qev h (.tup ws)=some (!ws.isEmpty):=id rfl
@[simp]theorem QnR:mSl c a b σ h=@ob _ _ (fun p=>@ob _ _ (fun q=>@ob _ _ (fun r=>wSl p.1 q.1 r.1 r.2) (b σ q.2)) (a σ p.2)) (c σ h):=id rfl
@[simp]theorem QnX:QaN σ h=some (none,h):=id rfl
noncomputable def asI(p:W×MH):Option (Option Int×MH):=match p.1 with|.int i=>some (some i,p.2)|_=>none
@[simp]theorem Qkq:asI (.int i,h)=some (some i,h):=id rfl
@[simp]theorem Qn6:QaB m σ h=@ob _ _ asI (m σ h):=id rfl
@[simp]theorem Qmn{lo a:Option Int}:wSl (.tup ws) lo a h=some (.tup (QcH ws lo a),h):=id rfl
@[simp]theorem Qcd:Zs (.str x) (.str y) h=if x.length+y.length<=sizeLine then some (.str (x++y),h)else none:=id rfl
@[simp]theorem Qnt:wIs a .non h=some (.bl (Vm a),h):=id rfl
@[simp]theorem Qkx:Jy a .non h=some (.bl (!Vm a),h):=id rfl
@[simp]theorem Qi7:Vm .non=true:=id rfl
@[simp]theorem Qjs:Vm (.int i)=false:=id rfl
@[simp]theorem Qi8:Vm (.str x)=false:=id rfl
end
mutual
noncomputable def pln:W->Bool
 |.tup ws=>Km ws
 |.lst ws=>Km ws
 |.frz _=>false
 |.ref _=>false
 |.ty _=>false
 |_=>true
noncomputable def Km:List W->Bool
 |[]=>true
 |w::ws=>pln w&&Km ws
end
mutual
noncomputable def dep:W->Nat
 |.tup ws=>Yp ws+1
 |.lst ws=>Yp ws+1
 |_=>1
noncomputable def Yp:List W->Nat
 |[]=>0
 |w::ws=>max (dep w) (Yp ws)
end
mutual
theorem VA(h:MH):∀(w:W) (n:Nat),pln w=true->dep w<=n->drf h n w=some w
 |.non,n+1,_,_=>rfl
 |.bl _,n+1,_,_=>rfl
 |.int _,n+1,_,_=>rfl
 |.str _,n+1,_,_=>rfl
 |.tup ws,n+1,p,d=>by
  unfold pln at p;unfold dep at d;show(Zt (drf h n) ws).map W.tup=_;rw[VP h ws n p (by lia)];rfl
 |.lst ws,n+1,p,d=>by
  unfold pln at p;unfold dep at d;show(Zt (drf h n) ws).map W.lst=_;rw[VP h ws n p (by omega)];rfl
 |.frz _,_,p,_=>by unfold pln at p;cases p
 |.ref _,_,p,_=>by unfold pln at p;cases p
 |.ty _,_,p,_=>by unfold pln at p;cases p
 |.non,0,_,d=>by unfold dep at d;lia
 |.bl _,0,_,d=>by unfold dep at d;omega
 |.int _,0,_,d=>by unfold dep at d;omega
 |.str _,0,_,d=>by unfold dep at d;omega
 |.tup _,0,_,d=>by unfold dep at d;lia
 |.lst _,0,_,d=>by unfold dep at d;omega
theorem VP(h:MH):∀(ws:List W) (n:Nat),Km ws=true->Yp ws<=n->Zt (drf h n) ws=some ws
 |[],_,_,_=>rfl
 |w::ws,n,p,d=>by
  unfold Km at p;unfold Yp at d;rw[NB]at p;rw[Zt,VA h w n p.1 (Nu (Nat.le_max_left _ _) d),Nj,VP h ws n p.2 (Nu (Nat.le_max_right _ _) d)];rfl
end
mutual
theorem G7:∀(w:W),pln w=true->eqW w w=true
 |.non,_=>by unfold eqW;rfl
 |.bl _,_=>by unfold eqW;simp
 |.int _,_=>by unfold eqW;simp
 |.str _,_=>by unfold eqW;simp
 |.tup ws,p=>by unfold pln at p;unfold eqW;exact KJ ws p
 |.lst ws,p=>by unfold pln at p;unfold eqW;exact KJ ws p
 |.frz _,p=>by unfold pln at p;cases p
 |.ref _,p=>by unfold pln at p;cases p
 |.ty _,p=>by unfold pln at p;cases p
theorem KJ:∀(ws:List W),Km ws=true->YG ws ws=true
 |[],_=>by unfold YG;rfl
 |w::ws,p=>by
  unfold Km at p;rw[NB]at p;unfold YG;rw[G7 w p.1,KJ ws p.2];rfl
end
theorem QlV(d:pln a=true)(c:pln b=true)(f:dep a<=40)(e:dep b<=40):wEq a b h=some (.bl (eqW a b),h):=by
 unfold wEq;rw[VA h a 40 d f,VA h b 40 c e];rfl
theorem Qmp(d:pln a=true)(c:pln b=true)(f:dep a<=40)(e:dep b<=40):wNe a b h=some (.bl (!eqW a b),h):=by
 unfold wNe;rw[VA h a 40 d f,VA h b 40 c e];rfl
@[simp]theorem QkF:wEq (.int i) (.int j) h=some (.bl (i==j),h):=QeR i j h
@[simp]theorem Qkr:wEq (.str x) (.str y) h=some (.bl (x==y),h):=Qfv x y h
@[simp]theorem Qnc:wNe (.str x) (.str y) h=some (.bl (!(x==y)),h):=by unfold wNe;simp[drf,eqW]
mutual
theorem K9:∀(w:W),pln w=true->pur w=true
 |.non,_=>rfl
 |.bl _,_=>rfl
 |.int _,_=>rfl
 |.str _,_=>rfl
 |.tup ws,p=>by unfold pln at p;unfold pur;exact Z6 ws p
 |.lst ws,p=>by unfold pln at p;unfold pur;exact Z6 ws p
 |.frz _,p=>by unfold pln at p;cases p
 |.ref _,p=>by unfold pln at p;cases p
 |.ty _,p=>by unfold pln at p;cases p
theorem Z6:∀(ws:List W),Km ws=true->ZL ws=true
 |[],_=>rfl
 |w::ws,p=>by
  unfold Km at p;rw[NB]at p;unfold ZL;rw[K9 w p.1,Z6 ws p.2];rfl
end
mutual
theorem YO(f:Nat->Option W):∀(w:W),pur w=true->th f w=some w
 |.non,_=>rfl
 |.bl _,_=>rfl
 |.int _,_=>rfl
 |.str _,_=>rfl
 |.ty _,_=>rfl
 |.tup ws,p=>by unfold pur at p;unfold th;rw[ZS f ws p];rfl
 |.lst ws,p=>by unfold pur at p;unfold th;rw[ZS f ws p];rfl
 |.frz ws,p=>by unfold pur at p;unfold th;rw[ZS f ws p];rfl
 |.ref _,p=>by unfold pur at p;cases p
theorem ZS(f:Nat->Option W):∀(ws:List W),ZL ws=true->ths f ws=some ws
 |[],_=>rfl
 |w::ws,p=>by
  unfold ZL at p;rw[NB]at p;unfold ths;rw[YO f w p.1,ZS f ws p.2];rfl
end
theorem QF(hp:ZL ws=true)(e:m ws []=some (w,g))(hw:pur w=true):box frN m ws h=some (w,h):=by
 have hr:XW 0 ws=some (ws,[]):=by
  generalize 0=k;clear e
  induction ws with
  |nil=>rfl
  |cons a r b=>
   unfold ZL at hp;rw[NB]at hp;have:=b hp.2;cases a<;>first|(unfold pur at hp;cases hp.1;done)|(unfold XW;rw[if_pos hp.1,this];rfl)
 unfold box;rw[hr,Nj];unfold QfZ;rw[if_pos En];simp only[Zt,Nj,e,frN,E5,LU];rw[if_pos ⟨En,by simp⟩,YO _ w hw];simp[QN]
theorem G3(hp:ZL ws=true)(e:m ws []=some (.ref j,g))(c:g[j]?=some (.lst us))(hu:ZL us=true):box frN m ws h=some (.lst us,h):=by
 have hr:XW 0 ws=some (ws,[]):=by
  generalize 0=k;clear e
  induction ws with
  |nil=>rfl
  |cons a r b=>
   unfold ZL at hp;rw[NB]at hp;have:=b hp.2;cases a<;>first|(unfold pur at hp;cases hp.1;done)|(unfold XW;rw[if_pos hp.1,this];rfl)
 unfold box;rw[hr,Nj];unfold QfZ;rw[if_pos En];simp only[Zt,Nj,e,frN,E5,LU];rw[if_pos ⟨En,by simp⟩]
 have:th (res (Yf [] [] h.length) g 3) (.ref j)=some (.lst us):=by
  unfold th res;simp only[Yf,Fv,Fw,FW,c];rw[ZS _ us hu];rfl
 rw[this];simp[QN]
theorem UI{os os':List MO}(hr:XW 0 args=some (as,ns))(hd:ns.Nodup)(q:Zt (QaH h) ns=some os)(e:m as os=some (w,os'++g))(r:os'.length=ns.length)
  (c:∀o∈os',∃us,o=.lst us/\ZL us=true) (hw:th (res (Yf ns [] h.length) (os'++g) 3) w=some w'):box frN m args h=some (w',QN ns os' h):=by
 unfold box;rw[hr,Nj];unfold QfZ;rw[if_pos hd,q];simp only[Nj,e];rw[if_pos (show(frN w).Nodup/\∀j∈frN w,ns.length<=j from⟨En,fun j s=>by simp[frN]at s⟩)];show(th (res (Yf ns [] h.length) (os'++g) 3) w).bind _=_;rw[hw,Nj];show(Zt (fun j=>((os'++g)[j]?).bind (thO (res (Yf ns [] h.length) (os'++g) 3))) (List.range ns.length)).bind (fun os=>(Zt (fun j=>((os'++g)[j]?).bind (thO (res (Yf ns [] h.length) (os'++g) 3))) []).map fun us=>(w',QN ns os h++us))=_
 have:Zt (fun j=>((os'++g)[j]?).bind (thO (res (Yf ns [] h.length) (os'++g) 3))) (List.range ns.length)=some os':=by
  rw[<-r]
  have key:∀(k:Nat) (a:List MO),(∀i o,a[i]?=some o->(os'++g)[k+i]?=some o)->(∀o∈a,∃us,o=.lst us/\ZL us=true)->Zt (fun j=>((os'++g)[j]?).bind (thO (res (Yf ns [] h.length) (os'++g) 3))) (List.range' k a.length)=some a:=by
   intro k a
   induction a generalizing k with
   |nil=>intro _ _;rfl
   |cons x a n=>
    intro f d;obtain⟨us,hu,hp⟩:=d x Nv;rw[Nz,FH];unfold Zt;have l:=f 0 x rfl;rw[FI]at l;rw[l,Nj,n (k+1) (fun i o b=>by have:=f (i+1) o (by simpa using b);rw[show k+1+i=k+(i+1) by exact Dx _ _ _];exact this) fun o p=>d o (Nt _ p),hu];show((ths _ us).map MO.lst).bind _=_;rw[ZS _ us hp];rfl
  rw[D4];exact key 0 os' (fun i o b=>by rw[NZ,Np (Ng.mp b).1];exact b) c
 rw[this];simp[Zt]
@[simp]theorem KC{os:List MO}:QN [] os h=h:=by unfold QN;rfl
theorem Wd(f:W->W)(c:mi σ h=some (items,none,h))(a:∃o,QgP cp σ=o::caps)(d:∀w∈items,me (some w::caps) h=some (f w,h))(b:items.length<=sizeLine) :
  Jh fin mi cp (ZU 0) Yk me σ h=fin (items.map f) h:=by
 obtain⟨o,a⟩:=a;unfold Jh;rw[c,Nj];simp only[a];rw[XU (p:=fun _=>true) (f:=f) items [] o (fun _ _=>rfl) (fun w hw _=>d w hw) (by simpa using b),List.filter_eq_self.mpr (fun _ _=>rfl)];rfl
theorem Vh(P:Nat->MSt->MH->Prop):∀(r:List W) (n:Nat) (σ:MSt) (h:MH),P n σ h ->
  (∀(j:Nat) (w:W),r[j]?=some w->∀σ h,P (n+j) σ h->∃σ1,b w σ h=some σ1/\∃σ2 h2,(body σ1 h=some (.nx σ2 h2)\/body σ1 h=some (.ct σ2 h2))/\P (n+j+1) σ2 h2) ->
  ∃a h',Jg items none b body r σ h=some (.nx a h')/\P (n+r.length) a h'
 |[],n,σ,h,hp,_=>⟨σ,h,Wv,hp⟩
 | w::r,n,σ,h,hp,d=>by
  obtain⟨σ1,l,σ2,h2,c,f⟩:=d 0 w rfl σ h hp
  obtain⟨a,h',i,e⟩:=Vh (items:=items) (b:=b) (body:=body) P r (n+1) σ2 h2 f fun j x g σ h hp=>by
   have:=d (j+1) x (by simpa using g) σ h (by rw[show n+(j+1)=n+1+j by lia];exact hp);rw[show n+(j+1)+1=n+1+j+1 by exact Dx _ _ _]at this;exact this
  refine⟨a,h',?_,by rw[Nz,show n+(r.length+1)=n+1+r.length by lia];exact e⟩;rw[Jg,if_pos (Zu _ _),l,Nj]
  rcases c with c|c<;>rw[c]<;>exact i
noncomputable def eqS(y:Str)(p:W×MH):Option (Bool×MH):=@ob _ _ asB (wEq p.1 (.str y) p.2)
noncomputable def eqN(j:Int)(p:W×MH):Option (Bool×MH):=@ob _ _ asB (wEq p.1 (.int j) p.2)
@[simp 650]theorem Qlh:Qg (Qc wEq a (mC (.str y))) σ h=@ob _ _ (eqS y) (a σ h):=by
 unfold Qg Qc mC eqS ob;cases a σ h<;>rfl
@[simp 650]theorem Qlk:Qg (Qc wEq a (mC (.int j))) σ h=@ob _ _ (eqN j) (a σ h):=by
 unfold Qg Qc mC eqN ob;cases a σ h<;>rfl
@[simp]theorem Qk0:eqS y (.str x,h)=some (x==y,h):=by unfold eqS;rw[Qkr];rfl
@[simp]theorem Qj5:eqN j (.int i,h)=some (i==j,h):=by unfold eqN;rw[QkF];rfl
end Mi
namespace Mi
open L2
noncomputable def Qad(ws:List W)(h:MH):Option (W×MH):=match ws with
 |[.tup ws]=>some (.ref h.length,h++[.lst ws])
 |[a]=>(lsW h a).map fun ws=>(.ref h.length,h++[.lst ws])
 |_=>none
noncomputable def QbQ(a:W)(ws:List W)(h:MH):Option (W×MH):=match a,ws with
 |.ref n,[.int 0]=>match h[n]? with|some (.lst (x::b))=>some (x,h.set n (.lst b))|_=>none
 |_,_=>none
section
variable{X:Cx}
theorem UR:CallR X (.type "list") (Fs X.K Qad):=by
 intro d s n H a t Q I r q;refine Ke d s n H a t Q I r ?_;obtain⟨R,h,B,w,C,f,rw,e,k⟩:=q;unfold Qad at e;split at e
 ·cases e;obtain⟨v,rfl,l⟩:=Yu rw;obtain⟨ad,a,rfl,q1,j⟩:=f.tupAt l;refine⟨ad,a,rfl,.inr q1,fun p hp=>?_⟩;obtain⟨m,g,c,b⟩:=f.new (mo:=.lst _) (o:=.lst a) hp fun z i=>⟨a,rfl,Rws.mono i _ _ j⟩
  exact k m _ _ g c b
 ·obtain⟨A,y,x⟩:=Nf.mp e;cases x;obtain⟨v,rfl,l⟩:=Yu rw;obtain⟨ad,a,rfl,q1,j⟩:=f.lsAt l y;refine⟨ad,a,rfl,.inl q1,fun p hp=>?_⟩;obtain⟨m,g,c,b⟩:=f.new (mo:=.lst _) (o:=.lst a) hp fun z i=>⟨a,rfl,Rws.mono i _ _ j⟩
  exact k m _ _ g c b
 ·cases e
theorem QcO:QaT X "list.pop" QbQ:=by
 intro b s j H x o v p Q I r t q;refine Qc4 b s j H x o v p Q I r t ?_;obtain⟨R,h,a,G,w,J,f,z,c,e,k⟩:=q;unfold QbQ at e;split at e
 ·rename_i n;split at e
  ·rename_i y E C;cases e;obtain⟨d,rfl,F,D,g⟩:=f.refAt z C;obtain⟨i,rfl,u⟩:=Yu c;rw[Rws.cons_iff]at g;obtain⟨m,l,rfl,B,A⟩:=g;refine⟨_,_,0,0,m,rfl,by rw[u.int_eq],D,by decide,by decide,by simp[seqIndex?],rfl,?_⟩;exact k R _ _ (Ext.refl _) (f.put d ⟨_,rfl,A⟩) B
  ·cases e
 ·cases e
end
section
open PySem.AutoSeq1
theorem Qap(l:Addr)(c:Array Value)(n:Nat)(b:Addr)(a:Array Value)(r:Nat)(e:Obj)(u:e.cls=.type "tuple")(hd:e.data=.seq a r)(t:¬(!c.isEmpty&&Builtin.List.listTooLong (c.size+a.size))=true)(j:c.size<=sizeLine)(i:c.size+a.size<=sizeLine+1) :
  Meets (Builtin.«list.extend» ⟨[.ref l,.ref b],[]⟩) (fun _ R s=>s.heap.get? l=some { cls:=.type "list",dict:=none,data:=.seq c n,slots:=#[] }/\s.heap.get? b=some e /\
   R (.ok (.ret Value.none)) { s with heap:=s.heap.update l (Obj.mapSeq fun x=>x++a),toks:=s.toks }):=
 .of_wp fun m w A R s h=>by
  obtain⟨G,F,y,q⟩:=e;subst u hd;obtain⟨hp,g,d,z,os⟩:=s;obtain⟨o,v,h⟩:=h;have f1:=idx_int;have f2:=AutoSeq1.sub_tuple_tuple;have E:=AutoSeq1.sub_list_list;have D:=AutoSeq1.sub_tuple_list;have C:=AutoSeq1.sub_list_tuple;have f:(c++a).size<=sizeLine+1:=by rw[Array.size_append];exact i
  wp_walk using(FX o rfl (hz:=j) (_hz':=f)),D1 o,D1 v
  exact⟨_,rfl,h⟩
end
section
variable{X:Cx}
theorem Qal:MtM X "list.extend" (fun x vs H Q=>∃l b xs g,x=.ref l/\vs=[.ref b]/\H l=some (.lst xs)/\SqT X.K H b g/\xs.length+g.length<=sizeLine/\Q .non (upd H l (.lst (xs++g)))):=by
 intro j s L H x vs v M Q I t w h;obtain⟨l,b,xs,g,rfl,rfl,p,G,C,q⟩:=h;cases t;obtain⟨u,rfl,y⟩:=w.one;cases y;obtain⟨z,c,n,r,E,e⟩:=I.lstM p;obtain⟨a,i,⟨A,J,F,B,hd⟩,D⟩:=I.tuple G;have o:=i.length;have f:c.toArray.size+a.toArray.size<=sizeLine:=by rw[Nk,Nk];lia
 have d:¬(!c.toArray.isEmpty&&Builtin.List.listTooLong (c.toArray.size+a.toArray.size))=true:=by
  rw[Gr f,Da];exact N3
 refine Dl De ⟨_,e,rfl⟩ IN (IA _ _)
  (Qap l c.toArray n b a.toArray B A F hd d (by rw[Nk];exact Nu (NH E.symm) z) (Nu f (NW _ _))) ⟨e,J,?_⟩
 refine⟨.non,_,I.lset (its':=c++a) p e (by simp) (r.append i) ?_,rfl,q⟩;rw[NC];exact C
noncomputable def Kp(a:W)(ws:List W)(h:MH):Option (W×MH):=match a,ws with
 |.ref n,[.tup b]=>match h[n]? with|some (.lst c)=>if c.length+b.length<=sizeLine then some (.non,h.set n (.lst (c++b)))else none|_=>none
 |_,_=>none
theorem Ge:QaT X "list.extend" Kp:=by
 intro b s j H x o v p Q I t u q;refine Qal b s j H x o v p Q I t u ?_;obtain⟨R,h,a,J,w,L,d,z,c,e,k⟩:=q;unfold Kp at e;split at e
 ·rename_i n F;split at e
  ·rename_i G A;split at e
   ·rename_i B;cases e;obtain⟨f,rfl,m,D,i⟩:=d.refAt z A;obtain⟨y,rfl,r⟩:=Yu c;obtain⟨E,l,rfl,C,g⟩:=d.tupAt r;refine⟨_,E,m,l,rfl,rfl,D,C,by rw[<-i.length,<-g.length];exact B,?_⟩;exact k R _ _ (Ext.refl _) (d.put f ⟨_,rfl,Rws.append i g⟩) Rw.non
   ·cases e
  ·cases e
 ·cases e
end
end Mi
namespace L2
def RawD(h:Heap)(d:Addr)(a:Array DictEntry)(b:Nat):Prop:=∃o,h.get? d=some o/\o.ExactDict/\o.data=.dict a b
theorem RawD.typeIs{s:Shared}(m:RawD s.heap d c e):s.TypeIs (.ref d) "dict":=by obtain⟨o,a,b,_⟩:=m;exact⟨o,a,b.1⟩
theorem RawD.lt(m:RawD h d b c):d<h.objs.size:=by obtain⟨_,a,_⟩:=m;exact No a
theorem RawD.at(m:RawD h d b c)(k:∀o,h.get? d=some o->h'.get? d=some o):RawD h' d b c:=by obtain⟨o,a,r⟩:=m;exact⟨o,k o a,r⟩
end L2
namespace Mi
open L2
noncomputable abbrev DctR(K:Nd)(R:Rn):List (W×W)->List (Tr×Addr×V)->Prop:=Paired fun p q=>Rw K R p.1 (.ref q.2.1)/\nrm p.1=some q.1/\Rw K R p.2 q.2.2
section
variable{X:Cx}{pins:List (Addr×Obj)}{σ:L2.St}{H:Hp}{s:Shared}{R:Rn}{h:MH}
def DctE(prog:Program)(w:World)(h:Heap)(d:Addr)(xs:List (Tr×Addr×Value)):Prop:=
 ∃o a b,h.get? d=some o/\o.ExactDict/\o.data=.dict a b/\a.toList=xs.map (entryOfKey (Zn prog w))/\(∀x∈xs,(Zn prog w).is h x.1 x.2.1)/\(xs.map (·.1)).Nodup/\b=a.size
theorem DctE.of{h:Heap}:DctE prog w h d xs->h.DictOfH (Zn prog w) d xs:=fun z=>by
 obtain⟨o,i,j,g,f,e,c,b,a,_⟩:=z;exact⟨o,i,j,g,f,e,c,b,a⟩
end
end Mi
namespace L2
section
variable{X:Cx}{pins:List (Addr×Obj)}{σ:St}{H:Hp}{s:Shared}{h':Heap}{t':Nat}{ch:List Addr}
theorem Inv.turnedL(I:Inv X pins σ H s)(k:∀b o,b∉ch->s.heap.get? b=some o->h'.get? b=some o)(f:∀b∈ch,QaS X pins H b)(d:∀b u,H b=some u->i b=some u)(x:∀b o,s.heap.get? b=some o->H b=none->i b=none)
  (new:∀b u,H b=none->i b=some u->ObjOk X.prog X.w i h' b u):Inv X pins σ i { s with heap:=h',toks:=t' }:=by
 have g:∀b u,H b=some u->b∉ch:=fun b u e z=>by rw[(f b z).1]at e;cases e
 refine I.step (g':=s.gens) (d':=s.drawn) (ch:=ch) (fun b h=>⟨(f b h).2.2.2.1,(f b h).2.1,(f b h).2.2.2.2.1,(f b h).2.2.2.2.2⟩) (fun b o _ _ a e _=>k b o a e) (fun b o _ _ a e _=>⟨o.slots,k b o a e⟩) (fun b o _ e n=>x b o e n)
  (fun b o a e=>⟨o,k b o a e⟩) (fun b j e=>d b _ e) (fun b o u e=>d b _ e) (fun b ps e=>⟨#[],by rw[d b _ e];simp⟩) (fun m y=>?_) (fun b u e=>?_) I.bare
 ·obtain⟨o,A,B,t,r⟩:=y;exact⟨o,A,B,k _ o (fun z=>(f _ z).2.1 rfl) t,r⟩
 ·cases q:H b with
  |none=>exact new b u q e
  |some l=>
   rw[d b l q]at e;cases e;refine(I.hok b _ q).stay (fun c v a p=>k c v ?_ p) (fun c z=>d c _ z) fun c j z=>d c _ z
   rcases a with z|z
   ·rw[z];exact g b _ q
   ·exact g c _ z
theorem Inv.turnedN(I:Inv X pins σ H s)(k:∀b o,b∉ch->s.heap.get? b=some o->h'.get? b=some o)(d:∀b∈ch,QaS X pins H b)(a:s.heap.objs.size<=T)(new:ObjOk X.prog X.w (upd H T (.tup xs)) h' T (.tup xs)) :
  Inv X pins σ (upd H T (.tup xs)) { s with heap:=h',toks:=t' }:=by
 have c:=I.hok.fresh a;refine I.turnedL k d (fun b u e=>by rw[Qt (Jp e c)];exact e) (fun b o e n=>by rw[Qt (fun z=>by rw[z]at e;exact absurd (No e) (El.mpr a))];exact n) fun b u n e=>?_
 by_cases z:b=T
 ·subst z;rw[ZH]at e;cases e;exact new
 ·rw[Qt z,n]at e;cases e
end
noncomputable def Itz(K:Nd)(a b:Addr)(n m:Nat):It:=
  ⟨fun i H=>i<min n m/\∃d c,SqL K H a d/\SqL K H b c/\d.length=n/\c.length=m,
   fun i H v e=>∃T x y,v=.ref T/\H T=none/\e=upd H T (.tup [x,y])/\(∀d,SqL K H a d->d[i]?=some x)/\∀c,SqL K H b c->c[i]?=some y,
   fun i H=>min n m<=i/\∃d c,SqL K H a d/\SqL K H b c/\d.length=n/\c.length=m⟩
theorem QdC{K:Nd}(Y U z TI TO l j:Addr)(n m:Nat)(D:ZipApart z TI TO l j Y U):Turn P w K (.Tuple af kk pos) (Itz K Y U n m) [z,TI,TO,l,j] z
  (fun i h=>i<=min n m/\IsZip h z TI TO .none/\IsPair h TI (.ref l) (.ref j)/\(∃a b,IsPair h TO a b)/\h.IsListIter l Y i/\h.IsListIter j U i) where
 mem:=by simp
 obj:=fun i h st b g=>by
  obtain⟨_,hz,Q,⟨a,c,r⟩,⟨o1,e1,c1,d1⟩,⟨o2,e2,c2,d2⟩⟩:=st;have O:b=z\/b=TI\/b=TO\/b=l\/b=j:=by simpa using g
  rcases O with rfl|rfl|rfl|rfl|rfl
  ·exact⟨_,hz,fun v q=>nomatch q⟩
  ·exact⟨_,Q,fun v q=>nomatch q⟩
  ·exact⟨_,r,fun v q=>nomatch q⟩
  ·exact⟨o1,e1,fun v q=>by rw[d1]at q;cases q⟩
  ·exact⟨o2,e2,fun v q=>by rw[d2]at q;cases q⟩
 keep:=fun i h h' st k=>by
  obtain⟨N,hz,Q,⟨a,c,r⟩,h1,h2⟩:=st;exact⟨N,k z (by simp) _ hz,k TI (by simp) _ Q,⟨a,c,k TO (by simp) _ r⟩,h1.at fun o e=>k l (by simp) o e,h2.at fun o e=>k j (by simp) o e⟩
 item:=by
  intro X hP hw hK hc i S s σ H E I hf st hg;subst hP hw hK;obtain⟨N,xs,ys,J,G,aa,Z⟩:=hg;obtain⟨f,F,p1,ah⟩:=I.list J;obtain⟨d,C,p2,ag⟩:=I.list G;have an:=F.length;have am:=C.length;obtain⟨_,sz,B,A,s1,s2⟩:=st;have W:=Oe (prog:=X.prog) (w:=X.w) (I.ok.hd hc) z TI TO l j Y U D f.toArray d.toArray;have p:min f.toArray.size d.toArray.size=min n m:=by rw[Nk,Nk];lia
  refine W.item i s _ _ (by rw[p];exact N) ⟨sz,B,A,s1,s2,p1.isList,p2.isList⟩ fun T vals h' tk hP hT ae L hk=>?_;obtain⟨u1,u2,al,ak,rfl⟩:=hP;refine⟨.ref T,rfl,W.go af kk pos i T _ _ _ L fun as t ab=>?_⟩;obtain⟨x,hx⟩:∃x,xs[i]?=some x:=⟨xs[i]'(Nm (Nm N (Nat.min_le_left _ _)) (NH aa.symm)),Ni _⟩
  obtain⟨y,hy⟩:∃y,ys[i]?=some y:=⟨ys[i]'(Nm (Nm N (Lz _ _)) (NH Z.symm)),Ni _⟩
  obtain⟨v1,aj,r1⟩:=F.get hx;obtain⟨v2,ai,r2⟩:=C.get hy;have e1:v1=u1:=by have:=al;rw[Dg,aj]at this;exact NU this
  have e2:v2=u2:=by have:=ak;rw[Dg,ai]at this;exact NU this
  subst e1 e2;have ap:=W.apart i T _ L
  have aq:IsTup as T #[v1,v2]:=by
   obtain⟨o,ho,ao,q⟩:=ae;exact⟨o,ab T o ap ho,ao,q⟩
  have ar:=I.hok.fresh hT
  refine⟨.ref T,_,I.turnedN (ch:=[z,TO,l,j]) (t':=tk) (xs:=[x,y]) (fun b o g e=>ab b o g (hk b o g e)) (fun b g=>hf b (by simp at g ⊢;rcases g with h|h|h|h<;>simp[h])) hT ⟨by simp[EL],[v1,v2],.cons r1 (.cons r2 .nil),aq⟩,rfl,
   ⟨T,x,y,rfl,ar,rfl,fun zs M=>by rw[I.list_inj M J];exact hx,fun zs M=>by rw[I.list_inj M G];exact hy⟩,⟨N,t.1,t.2.1,t.2.2.1,t.2.2.2.1,t.2.2.2.2.1⟩,fun b g=>?_⟩
  rw[Qt (fun q=>?_)]
  ·exact(hf b g).1
  ·obtain⟨o,ho,_⟩:∃o,s.heap.get? b=some o/\True:=by
    obtain⟨a,c,r⟩:=A;obtain⟨o1,e1,_⟩:=s1;obtain⟨o2,e2,_⟩:=s2;have O:b=z\/b=TI\/b=TO\/b=l\/b=j:=by simpa using g
    rcases O with rfl|rfl|rfl|rfl|rfl
    ·exact⟨_,sz,trivial⟩
    ·exact⟨_,B,trivial⟩
    ·exact⟨_,r,trivial⟩
    ·exact⟨o1,e1,trivial⟩
    ·exact⟨o2,e2,trivial⟩
   rw[q]at ho;exact absurd (No ho) (El.mpr hT)
 done:=by
  intro X hP hw hK hc i S s σ H E I hf st hg;subst hP hw hK;obtain⟨N,xs,ys,J,G,aa,Z⟩:=hg;obtain⟨f,F,p1,ah⟩:=I.list J;obtain⟨d,C,p2,ag⟩:=I.list G;have an:=F.length;have am:=C.length;obtain⟨au,sz,B,A,s1,s2⟩:=st;have W:=Oe (prog:=X.prog) (w:=X.w) (I.ok.hd hc) z TI TO l j Y U D f.toArray d.toArray;have p:min f.toArray.size d.toArray.size=i:=by rw[Nk,Nk];lia
  refine W.done s _ _ (by rw[p];exact⟨sz,B,A,s1,s2,p1.isList,p2.isList⟩) fun h' tk hk=>⟨rfl,?_⟩
  exact I.turnedL (ch:=[z,TO,l,j]) (fun b o g e=>hk b o g e) (fun b g=>hf b (by simp at g ⊢;rcases g with h|h|h|h<;>simp[h])) (fun _ _ e=>e) (fun _ _ _ n=>n) fun b u n e=>by rw[n]at e;cases e
 self:=fun _ _ _ _ _ st h=>wpAny_pyIter_zip st.2.1 h
noncomputable def QnD(K:Nd)(h:TA):TI:=fun f H R=>h f H fun g c=>∃a b e d,g=[.ref a,.ref b]/\SqL K c a e/\SqL K c b d/\R (Itz K a b e.length d.length) c
theorem Qh3{X:Cx}{l:List Expr}(hg:Gl X "zip")(Z:X.mg "zip"=none)(ha:PA X [a,b] N)(Y:starEach [a,b] X.env=[(false,eval a X.env),(false,eval b X.env)]:=by rfl)(f:starEach [b] X.env=[(false,eval b X.env)]:=by rfl) :
  PI X (.Tuple l kk y) (.Call (.Name "zip" p) [a,b] [] pos) (QnD X.K N):=by
 intro d s G H R I h;refine Call_ (XG I hg Z boot_zip (Ei (thn (ha pos d s G H _ I h) fun us c J=>?_) (by rw[Y,f]) (by rw[f];rfl)));obtain⟨vs,H1,I1,Q,q1⟩:=J;obtain⟨ad,F,M,L,e,r,o,q⟩:=q1;subst e;obtain⟨u1,u2,rfl,n,m⟩:=Qc6 Q;cases n;cases m;obtain⟨C,P,A,T⟩:=I1.list r;obtain⟨B,O,z,S⟩:=I1.list o;have i:ad<c.heap.objs.size:=let⟨_,t,_⟩:=A.isList;No t
 have g:F<c.heap.objs.size:=let⟨_,t,_⟩:=z.isList;No t
 refine call_zip_2 A.isList z.isList fun h' D x w v u U hk=>wpAny_pyIter_zip D ?_;refine⟨c.heap.objs.size+4,[c.heap.objs.size+4,c.heap.objs.size+2,c.heap.objs.size+3,c.heap.objs.size,c.heap.objs.size+1],_,_,H1,rfl,I1.kept (t':=c.toks) hk,QdC ad F _ _ _ _ _ M.length L.length (PySem.W.ktu_apart _ _ _ i g),⟨NT _,D,x,⟨_,_,w⟩,v,u⟩,fun b E=>?_,q⟩
 have j:c.heap.objs.size<=b:=by
  simp at E
  rcases E with h|h|h|h|h<;>(rw[h];first|exact Nn _|exact NW _ _)
 exact I1.fpOk j (I1.hok.fresh j)
end L2
namespace Mi
open L2
noncomputable def Qm3(ms:MA):MI:=fun b h=>(ms b h).bind fun p=>match p.1 with
 |[.lst a]=>some (a.reverse,none,p.2)
 |[.ref n]=>match p.2[n]? with|some (.lst a)=>some (a.reverse,some (.r n),p.2)|_=>none
 |_=>none
noncomputable def GZ(as bs:List W):List W:=(as.zip bs).map fun q=>.tup [q.1,q.2]
noncomputable def Qdq(ms:MA):MI:=fun a h=>(ms a h).bind fun p=>match p.1 with
 |[.lst as,.lst bs]=>some (GZ as bs,none,p.2)
 |[.ref n,.ref m]=>match p.2[n]?,p.2[m]? with|some (.lst as),some (.lst bs)=>some (GZ as bs,some (.z n m as.length bs.length),p.2)|_,_=>none
 |_=>none
section
variable{K:Nd}{R:Rn}
theorem Qc5(g:SqL K R.F a xs)(d:SqL K R.F b ys)(m:Rws K R as xs)(l:Rws K R bs ys):ItOk K R (Itz K a b xs.length ys.length) (GZ as bs) none where
 go:=fun i w t h H x c _ e=>by
  have j:=(Ng.mp e).1;have v:=m.length;have u:=l.length;unfold GZ at j;rw[Nw,D5]at j;exact⟨by lia,xs,ys,Za (fun b o z=>c.sub b o (x.f b o z)) g,Za (fun b o z=>c.sub b o (x.f b o z)) d,rfl,rfl⟩
 yld:=fun i w t h H x J e c _ q n=>by
  obtain⟨T,D,C,rfl,A,rfl,y,n⟩:=n;unfold GZ at q;rw[Nq]at q;obtain⟨⟨G,E⟩,p,rfl⟩:=Nf.mp q;rw[EK]at p;obtain⟨v1,g1,g2⟩:=m.get p.1;obtain⟨I,g3,B⟩:=l.get p.2;have s:=y xs (Za (fun b o z=>c.sub b o (e.f b o z)) g);rw[g1]at s;cases s;have r:=n ys (Za (fun b o z=>c.sub b o (e.f b o z)) d);rw[g3]at r;cases r;exact c.tup A (Rws.cons (Rw.mono e _ _ g2) (Rws.cons (Rw.mono e _ _ B) Rws.nil))
 stop:=fun i t h H x c _ j=>by
  have v:=m.length;have u:=l.length;unfold GZ at j;rw[Nw,D5]at j;exact⟨by lia,xs,ys,Za (fun b o z=>c.sub b o (x.f b o z)) g,Za (fun b o z=>c.sub b o (x.f b o z)) d,rfl,rfl⟩
theorem Qce(q:n<R.N)(r:m<R.N):ItOk K R (Itz K (R.ρ n) (R.ρ m) o l) items (some (.z n m o l)) where
 go:=fun i w C h H x a b e=>by
  obtain⟨as,bs,g,f,rfl,rfl,rfl⟩:=b (.z n m o l) rfl;obtain⟨d,g1,g2⟩:=a.obj n _ g;obtain⟨c,g3,j⟩:=a.obj m _ f;rw[x.ρ n q]at g1;rw[x.ρ m r]at g3;have b:=(Ng.mp e).1;rw[Nw,D5]at b;exact⟨b,d,c,SqL.of g1,SqL.of g3,g2.length.symm,j.length.symm⟩
 yld:=fun i w C h H x P e a b y p=>by
  obtain⟨T,J,I,rfl,G,rfl,F,p⟩:=p;obtain⟨as,bs,g,f,rfl,rfl,rfl⟩:=b (.z n m o l) rfl;obtain⟨d,u,E⟩:=a.obj n _ g;obtain⟨c,t,D⟩:=a.obj m _ f;rw[e.ρ n q]at u;rw[e.ρ m r]at t;rw[Nq]at y;obtain⟨⟨M,L⟩,s,rfl⟩:=Nf.mp y;rw[EK]at s;obtain⟨v1,g1,g2⟩:=E.get s.1;obtain⟨O,g3,j⟩:=D.get s.2;have B:=F d (SqL.of u);rw[g1]at B;cases B;have A:=p c (SqL.of t);rw[g3]at A;cases A;exact a.tup G (Rws.cons g2 (Rws.cons j Rws.nil))
 stop:=fun i C h H x a b v=>by
  obtain⟨as,bs,g,f,rfl,rfl,rfl⟩:=b (.z n m o l) rfl;obtain⟨d,g1,g2⟩:=a.obj n _ g;obtain⟨c,g3,j⟩:=a.obj m _ f;rw[x.ρ n q]at g1;rw[x.ρ m r]at g3;rw[Nw,D5]at v;exact⟨v,d,c,SqL.of g1,SqL.of g3,g2.length.symm,j.length.symm⟩
end
section
variable{X:Cx}{tg a b:Expr}{ms:MA}{p pos tpos:Pos}{elts:List Expr}{kk:Nat}
theorem QgK(O:Gl X "zip")(w:X.mg "zip"=none)(P:PMA X [a,b] ms)(M:starEach [a,b] X.env=[(false,eval a X.env),(false,eval b X.env)]:=by rfl)(u:starEach [b] X.env=[(false,eval b X.env)]:=by rfl):PMI X (.Tuple elts kk tpos) (.Call (.Name "zip" p) [a,b] [] pos) (Qdq ms):=
 G5 (Qh3 O w P M u) fun σ H C D=>by
  obtain⟨R,o,h,items,I,h',L,st,e,k⟩:=D;obtain⟨⟨E,Y⟩,Z,d⟩:=Na.mp e;refine⟨R,o,h,E,Y,L,st,Z,fun R1 B vs y c z=>?_⟩;split at d
  ·rename_i G s g;simp only at g;subst g;cases d;obtain⟨v,F,rfl,l,j⟩:=QiE z;unfold Rw at l j;obtain⟨ad,r,rfl,A,J⟩:=l;obtain⟨bd,q,rfl,i,t⟩:=j;exact⟨ad,bd,r,q,rfl,SqL.of (c.sub _ _ A),SqL.of (c.sub _ _ i),k R1 B _ y c (Qc5 (SqL.of A) (SqL.of i) J t)⟩
  ·rename_i n m g;simp only at g;subst g;split at d
   ·rename_i G s N w;cases d;obtain⟨v,F,rfl,l,j⟩:=QiE z;obtain⟨x,rfl,r,U,T⟩:=c.refAt l N;obtain⟨f,rfl,q,S,Q⟩:=c.refAt j w;refine⟨_,_,r,q,rfl,SqL.of U,SqL.of S,?_⟩;rw[<-T.length,<-Q.length];exact k R1 B _ y c (Qce x f)
   ·cases d
  ·cases d
end
end Mi
namespace St
theorem Yo(t:SetTable)(n:Nat):(t.orStandIn n).led=t.led/\(t.plain=false->(t.orStandIn n).plain=false):=by
 unfold SetTable.orStandIn;split
 ·exact⟨rfl,id⟩
 ·exact⟨rfl,fun _=>rfl⟩
theorem UQ(t:SetTable)(a:Array (Int×Value))(g:Int)(x:Value):(layNew t a g x).2.1.led=t.led/\(t.plain=false->(layNew t a g x).2.1.plain=false):=by
 unfold layNew;split
 ·exact Yo _ _
 ·exact⟨rfl,fun _=>rfl⟩
theorem Qa4(e:SetTable.laid m f v l p b=some r):r.1.led=l/\r.1.plain=p:=by
 unfold SetTable.laid at e;obtain⟨o,_,a⟩:=Na.mp e;cases a;exact⟨rfl,rfl⟩
theorem WC(t:SetTable)(b:Array (Int×Value))(n:Nat):(relayAll t b n).2.1.led=t.led/\(t.plain=false->(relayAll t b n).2.1.plain=false):=by
 unfold relayAll;split
 ·rename_i c d e;have a:=Qa4 e;dsimp only;split
  ·exact⟨a.1,fun hp=>a.2.trans hp⟩
  ·exact⟨rfl,fun _=>rfl⟩
 ·exact⟨rfl,fun _=>rfl⟩
section
variable{prog:Program}{w:World}{A:Around}{E:Value->Shared->Prop}{s:Shared}
def SetL(prog:Program)(w:World)(h:Heap)(a:Addr)(ks:List Str)(led:Bool):Prop:=
 ∃o b c t,h.get? a=some o/\o.ExactSet/\o.data=.set b c t/\ElemsOf (strKind prog w) b.toList/\b.size<scanBound/\t.fits b.size=true/\t.led=led/\(b.size=0\/t.plain=false)/\ks.Nodup/\b.size=ks.length/\∀k,k∈ks↔∃e∈b.toList,(strKind prog w).is k e.2=true
theorem SetL.at{h h':Heap}{a:Addr}{ks:List Str}{led:Bool}(x:SetL prog w h a ks led)(e:∀o,h.get? a=some o->h'.get? a=some o):SetL prog w h' a ks led:=by obtain⟨o,c,d,t,b,r⟩:=x;exact⟨o,c,d,t,e _ b,r⟩
theorem SetL.lt{h:Heap}{a:Addr}{ks:List Str}{led:Bool}(x:SetL prog w h a ks led):a<h.objs.size:=by obtain⟨_,_,_,_,b,_⟩:=x;exact No b
theorem SetL.typeIs{a:Addr}{ks:List Str}{led:Bool}(x:SetL prog w s.heap a ks led):s.TypeIs (.ref a) "set":=by obtain⟨o,_,_,_,c,b,_⟩:=x;exact⟨o,c,b.1⟩
theorem stored{h:Heap}{o:Obj}(g:h.get? a=some o)(f:o.ExactSet)(hd:o.data=.set p q t)(h1:ElemsOf (strKind prog w) b.toList)(h2:b.size<scanBound)(n:t'.fits b.size=true)(m:b.size=0\/t'.plain=false)(l:ks.Nodup)(j:b.size=ks.length)(i:∀k,k∈ks↔∃e∈b.toList,(strKind prog w).is k e.2=true) :
  (h.update a (Obj.putSet b t')).get? a=some (Obj.putSet b t' o)/\(Obj.putSet b t' o).ExactSet/\(∃c,(Obj.putSet b t' o).data=.set b c t')/\SetL prog w (h.update a (Obj.putSet b t')) a ks t'.led:=by
 have g1:(h.update a (Obj.putSet b t')).get? a=some (Obj.putSet b t' o):=EH _ g (by rw[putSet_of b t' hd];rfl);have g2:(Obj.putSet b t' o).ExactSet:=by rw[putSet_of b t' hd];exact f
 have g3:∃c,(Obj.putSet b t' o).data=.set b c t':=by rw[putSet_of b t' hd];exact⟨_,rfl⟩
 obtain⟨c,d⟩:=g3;exact⟨g1,g2,⟨c,d⟩,_,b,c,t',g1,g2,d,h1,h2,n,rfl,m,l,j,i⟩
theorem Qeh(x:Str)(c:Tok):(strKind prog w).is x (.str x c)=true:=by
 show Value.isStrOf x (.str x c)=true;simp[Value.isStrOf]
theorem Qnf{a:Addr}{ks:List Str}{led:Bool}{x:Str}{c:Tok}{Q:Bool->Shared->Prop}(hS:SetL prog w s.heap a ks led)(room:ks.length+1<scanBound)
  (h:∀b h',Heap.SameBut a s.heap h'->SetL prog w h' a (if x∈ks then ks else ks++[x]) led->Q b { s with heap:=h' }) :
  wpAny (model prog w) A (setAddHashed a (.str x c) ((strKind prog w).hash x)) Q E s:=by
 obtain⟨o,I,ep,t,S,hx,hd,y,hb,hf,m,aa,T,hn,i⟩:=hS;have Z:(strKind prog w).is x (.str x c)=true:=Qeh x c;have G:(Value.str x c).scannable=true:=rfl;have quiet:∀(b:Bool) {B:Shared} {D:Unit->Shared->Prop},D () B->wpAny (model prog w) A (match b with|true=>rule "set.scan.the-table-gave-way"|false=>pure ()) D E B:=fun b _ _ q=>by cases b<;>first|exact Nh q|exact DB q
 unfold setAddHashed setAddHashedIn;refine NP (Nc (EX S hd hf ?_));dsimp only;rw[byScan_of G hb y,if_pos rfl];unfold setAddByScan;refine Nc (Nc (DB (Nc (wpAny_setScan_of Z S hd hf y ?_))));cases hr:List.findIdx? (fun e=>(strKind prog w).is x e.2) I.toList with
 |some j=>
  obtain⟨hj,pj,_⟩:=EY.mp hr;have f:x∈ks:=(i x).mpr ⟨I.toList[j],DS hj,pj⟩;refine Nh (Nh ?_);have q:=h false s.heap (Lk a s.heap) ⟨o,I,ep,t,S,hx,hd,y,hb,hf,m,aa,by rw[if_pos f];exact T,by rw[if_pos f];exact hn,by rw[if_pos f];exact i⟩;exact q
 | none=>
  have f:x∉ks:=fun f=>by
   obtain⟨e,z,p⟩:=(i x).mp f;have:=Fy.mp hr e z;rw[p]at this;cases this
  rw[if_neg f]at h;have pm:=layNew_perm t I ((strKind prog w).hash x) (.str x c);have ft:=layNew_fits t I ((strKind prog w).hash x) (.str x c);have Y:=UQ t I ((strKind prog w).hash x) (.str x c);dsimp only;generalize layNew t I ((strKind prog w).hash x) (.str x c)=L at pm ft Y ⊢;obtain⟨d,t1,ab,gv⟩:=L;dsimp only at pm ft Y ⊢;rw[Ll]at pm;have X:ElemsOf (strKind prog w) d.toList:=(y.push Z G).perm pm;have F:d.size=(ks++[x]).length:=by rw[<-NR,pm.length_eq,NC,NR,NC,hn];rfl
  have b1:d.size<scanBound:=by rw[F,NC,EI];exact room
  have P:(ks++[x]).Nodup:=by
   rw[DL];exact⟨T,by simp,fun u hu v hv e=>f (by rw[NI.mp hv]at e;rw[<-e];exact hu)⟩
  have C:∀k,k∈ks++[x]↔∃e∈d.toList,(strKind prog w).is k e.2=true:=fun k=>by
   rw[NK,NI,i k];constructor
   ·rintro(⟨e,z,p⟩|rfl)
    ·exact⟨e,pm.mem_iff.mpr (Ek _ z),p⟩
    ·exact⟨_,pm.mem_iff.mpr (NJ _ (NI.mpr rfl)),Z⟩
   ·rintro⟨e,z,p⟩
    rcases NK.mp (pm.mem_iff.mp z)with q|q
    ·exact .inl ⟨e,q,p⟩
    ·rw[NI.mp q]at p;exact .inr ((strKind prog w).inj _ _ _ p Z)
  -- af table is stored,and laid anew where it is ae full
  have fin:∀(g:SetTable),g.fits d.size=true->g.led=led->g.plain=false->wpAny (model prog w) A (do
    storeSet a d g
    if(!ab&&g.tooFull)=true then do
      (match (relayAll g d (SetTable.grown d.size)).2.2 with|true=>rule "set.scan.the-table-gave-way"|false=>pure ())
      storeSet a (relayAll g d (SetTable.grown d.size)).1 (relayAll g d (SetTable.grown d.size)).2.1
      pure (some true)
     else pure (some true)) (fun r N=>∃v,r=some v/\∃h',Heap.SameBut a s.heap h'/\SetL prog w h' a (ks++[x]) led/\N={ s with heap:=h' }) E s:=by
   intro g f2 l2 p2;refine Nc (Lm S hd ?_ (Lo b1));obtain⟨g1,g2,⟨ah,g3⟩,g4⟩:=stored (prog:=prog) (w:=w) S hx hd X b1 f2 (.inr p2) P F C;rw[l2]at g4;have sb:=Ec s.heap a (Obj.putSet d g);split
   ·have l:=relayAll_perm g d (SetTable.grown d.size);have H:=relayAll_fits g d (SetTable.grown d.size);have n:=WC g d (SetTable.grown d.size);generalize relayAll g d (SetTable.grown d.size)=R at l H n ⊢;obtain⟨U,t3,ag⟩:=R;dsimp only at l H n ⊢;have M:U.size=d.size:=by rw[<-NR,l.length_eq,NR]
    have b2:U.size<scanBound:=by rw[M];exact b1
    refine Nc (quiet _ (Nc (Lm g1 g3 (Nh ⟨true,rfl,_,sb.trans (Ec _ a _),?_,rfl⟩) (Lo b2))));obtain⟨_,_,_,g5⟩:=stored (prog:=prog) (w:=w) (ks:=ks++[x]) g1 g2 g3 (X.perm l) b2 H (.inr (n.2 p2)) P (M.trans F) (fun k=>(C k).trans ⟨fun⟨e,z,q⟩=>⟨e,l.mem_iff.mpr z,q⟩,fun⟨e,z,q⟩=>⟨e,l.mem_iff.mp z,q⟩⟩);rw[n.1,l2]at g5;exact g5
   ·exact Nh ⟨true,rfl,_,sb,g4,rfl⟩
  have O:∀r N,(∃v,r=some v/\∃h',Heap.SameBut a s.heap h'/\SetL prog w h' a (ks++[x]) led/\N={ s with heap:=h' })->wpAny (model prog w) A (match r with|some J=>pure J|none=>setAddHashedIn a (.str x c) ((strKind prog w).hash x) 99999) Q E N:=by
   rintro r N ⟨v,rfl,h',q1,q2,rfl⟩
   exact Nh (h v h' q1 q2)
  refine Nc (quiet _ ?_);cases hp:t1.plain with
  |true=>
   rw[if_pos rfl,hashByValue_scannable 8 G];refine Nc (Nh ?_);exact NO (fin { t1 with plain:=false } (SetTable.fits_plain_off ft) (Y.1.trans m) rfl) O fun _ _ q=>q
  |false=>
   rw[if_neg (by simp)];refine Nc (Nh ?_);exact NO (fin t1 ft (Y.1.trans m) hp) O fun _ _ q=>q
end
noncomputable def uniq(l:List Str):List Str:=l.foldl (fun u x=>if x∈u then u else u++[x]) []
theorem uniq_snoc(l:List Str)(x:Str):uniq (l++[x])=if x∈uniq l then uniq l else uniq l++[x]:=by unfold uniq;rw[List.foldl_append];rfl
theorem Qc7:∀(n:Nat) (l:List Str),l.length=n->(uniq l).length<=n:=by
 intro n
 induction n with
 |zero=>intro l h;rw[N5.mp h];exact Nn _
 |succ n a=>
  intro l h;obtain⟨u,x,rfl⟩:∃u x,l=u++[x]:=⟨l.dropLast,l.getLast (fun z=>by rw[z]at h;cases h),(Dh _).symm⟩
  rw[uniq_snoc];have:=a u (by simp at h;exact h);split
  ·exact Nu this (NW _ _)
  ·rw[NC,EI];exact ID this _
theorem uniq_mem:∀(n:Nat) (l:List Str),l.length=n->∀y,y∈uniq l↔y∈l:=by
 intro n
 induction n with
 |zero=>intro l h y;rw[N5.mp h];exact Iff.rfl
 |succ n a=>
  intro l h y;obtain⟨u,x,rfl⟩:∃u x,l=u++[x]:=⟨l.dropLast,l.getLast (fun z=>by rw[z]at h;cases h),(Dh _).symm⟩
  have q:=a u (by simp at h;exact h);rw[uniq_snoc,NK,NI];split
  ·rename_i b;rw[q y];exact⟨.inl,fun z=>z.elim id fun e=>by rw[e];exact(q x).mp b⟩
  ·rw[NK,NI,q y]
section
variable{prog:Program}{w:World}{A:Around}{R:Result->Shared->Prop}{I:Addr}{fp wr:List Addr}{G:Array GenState->Array GenState->Prop}{n:Nat}{P:Nat->Value->Prop}{St':Nat->Shared->Prop}
theorem QjC(W:WalksS prog w A.in1 I fp wr G n P St')(S:Addr)(f:S∉fp)(led:Bool)(l:List Str)(H:l.length=n)(F:∀i v,P i v->∃x c,l[i]?=some x/\v=.str x c)(O:n+1<scanBound) :
  ∀(k i:Nat) (s:Shared),n-i=k->i<=n->St' i s->SetL prog w s.heap S (uniq (l.take i)) led ->
   (∀a,Moved (S::wr) G s a->SetL prog w a.heap S (uniq l) led->R (.ok (.ret .none)) a) ->
   codeAny (model prog w) A (.builtin "set.update.loop" ⟨[.ref S,.ref I],[]⟩) R s:=by
 have C:S∉wr:=fun z=>f (W.sub _ z);have sub:∀b∈wr,b∈S::wr:=fun b z=>Nt _ z;intro k
 induction k with
 |zero=>
  intro i s J L st g u;obtain rfl:i=n:=by lia
  refine EO FQ ?_;rw[EQ DE _];show wpAny _ A.in1 (pyNext (.ref I)>>=_) _ _ s;refine Nc (W.done s _ _ st fun a d=>Nh (u a (d.mono sub) ?_));rw[E8 (NH H)]at g;exact g.at fun o e=>d.heap S _ C e
 | succ k D=>
  intro i s J L st g u;have lt:i<n:=by lia
  refine EO FQ ?_;rw[EQ DE _];show wpAny _ A.in1 (pyNext (.ref I)>>=_) _ _ s;refine Nc (W.item i s _ _ lt st fun v a M h d=>?_);obtain⟨x,c,E,rfl⟩:=F i v M;have t:SetL prog w a.heap S (uniq (l.take i)) led:=g.at fun o e=>d.heap S _ C e;show wpAny _ A.in1 (holding [Value.str x c] (setAdd S (.str x c))>>=_) _ _ a;refine Nc (NP ?_);unfold setAdd;refine NP (Nc ((strKind prog w).pyHash (k:=x) (Qeh x c) ?_))
  have room:(uniq (l.take i)).length+1<scanBound:=by
   have:=Qc7 _ (l.take i) rfl;rw[Dk]at this;lia
  refine Qnf (s:={ a with toks:=a.toks+1 }) t room fun b N B r=>?_
  have p:SetL prog w N S (uniq (l.take (i+1))) led:=by
   rw[DM,E,Option.toList_some,uniq_snoc];exact r
  refine Nh ⟨Dn DE _,D (i+1) _ (by lia) lt (W.frame _ a _ _ h (Dp _) fun b z o e=>?_) p fun j m q=>?_⟩
  ·exact(B.2 b (fun y:b=S=>f (by rw[<-y];exact z))).trans e
  ·refine u j (Moved.trans W.gtrans ((d.mono sub).then_heap (Dp _) fun b o z e=>?_) m) q;exact(B.2 b (fun y:b=S=>z (by rw[y];exact Nv))).trans e
end
section
variable{prog:Program}{w:World}{A:Around}{E:Value->Shared->Prop}{s:Shared}
noncomputable abbrev Kw(w:World):Bool:=!(w.params.followText "set-order")
noncomputable abbrev Q0(b:Bool):Obj:={ cls:=.type "set",dict:=none,data:=.set #[] 0 (.fresh 0 0 b) }
theorem QnF(a:Value)(h:Q₁ (.ref s.heap.objs.size) { s with heap:=s.heap.push (Q0 (Kw w)) }) :
  codeAny (model prog w) A (.call (.builtin "set.__new__") ⟨[.type "set",a],[]⟩) (wants Q₁ E) s:=by
 refine codeAny_of_tree (show wpAny _ A.in1 (do checkBuiltinCall "set.__new__" ⟨[.type "set",a],[]⟩;again (.builtin "set.__new__" ⟨[.type "set",a],[]⟩)) _ _ s from ?_);refine Nc (wpAny_of_eq (F.newCall_set_1 a) (Nh ⟨Dn LV _,EO (F.entry_set_new) ?_⟩));rw[EQ LV _];unfold Builtin.«set.__new__» Builtin.Frozenset.newClass;have b:=sub_set_self;obtain⟨hp,g,d,c,os⟩:=s;dsimp only
 wp_walk
 refine EZ (Nh ?_);dsimp only;simp only[newObj];exact Nc (wpAny_alloc (Nh (Nh h)))
theorem QaG(e:h.get? a=some (Q0 b)):SetL prog w h a [] b:=
 ⟨_,#[],0,_,e,⟨rfl,rfl,rfl⟩,rfl,fun x c=>by simp at c,by decide,rfl,rfl,.inl rfl,En,rfl,fun k=>by simp⟩
theorem Qka{Q:Value->Shared->Prop}(P:A.handled=none)(O:s.heap.IsList l items)(D:StrsAre items.toList ss)(R:items.size+1<scanBound)
  (h:∀(h':Heap) (tk:Nat),SetL prog w h' s.heap.objs.size (uniq ss) (Kw w)->(∀b o,b<s.heap.objs.size->s.heap.get? b=some o->h'.get? b=some o)->Q (.ref s.heap.objs.size) { s with heap:=h',toks:=tk }) :
  wpAny (model prog w) A (Builtin.«set.__init__» ⟨[.ref s.heap.objs.size,.ref l],[]⟩) (fun fin u=>fin=.done (.ret .none)/\Q (.ref s.heap.objs.size) u) E { s with heap:=s.heap.push (Q0 (Kw w)) }:=by
 have J:(s.heap.push (Q0 (Kw w))).get? s.heap.objs.size=some (Q0 (Kw w)):=Ny _ rfl;have hT:Shared.TypeIs { s with heap:=s.heap.push (Q0 (Kw w)) } (.ref s.heap.objs.size) "set":=⟨_,J,rfl⟩
 obtain⟨ol,j,q,nl,p⟩:=O;obtain⟨I,f,z,a⟩:=ol;simp only at q p;subst q p;have g:(s.heap.push (Q0 (Kw w))).get? l=some { cls:=.type "list",dict:=f,data:=.seq items nl,slots:=a }:=Nl _ j;have n:(s.heap.push (Q0 (Kw w))).IsList l items:=⟨_,g,rfl,nl,rfl⟩
 have n1:=F.sub_list_set;have n2:=F.sub_list_frozenset;have Z:(Value.type "list"==Value.type "dict")=false:=by decide
 unfold Builtin.«set.__init__» noKeywords Builtin.Frozenset.updateFrom;generalize H:pyIter=PI
 wp_walk
 subst H;refine DJ n (Nc (wpAny_runValue ?_));have m:l<s.heap.objs.size:=No j;have d:(s.heap.push (Q0 (Kw w))).objs.size=s.heap.objs.size+1:=Dz _ _;have B:l≠(s.heap.push (Q0 (Kw w))).objs.size:=by rw[d];exact NG (DN m)
 have M:s.heap.objs.size∉[(s.heap.push (Q0 (Kw w))).objs.size,l]:=by
  rw[d];simp only[Nx,Ey,or_false,not_or];exact⟨NG (Ev _),FD m⟩
 have C:ss.length=items.size:=by have:=Io D;rw[NR]at this;exact this.symm
 have N:∀(i:Nat) (v:Value),items[i]?=some v->∃x c,ss[i]?=some x/\v=.str x c:=fun i v e=>by
  have L:items.toList[i]?=some v:=by rw[Ee];exact e
  obtain⟨x,c,rfl⟩:=D.all v (NA.mpr ⟨i,L⟩);refine⟨x,c,?_,rfl⟩;rw[<-D.strs,Nq,L];rfl
 refine QjC ((Walks.list (show A.in1.handled=none by simp[P]) _ l B items).toS) s.heap.objs.size M (Kw w) ss C N R (items.size-0) 0 _ rfl (NT _) ⟨⟨_,Ny _ rfl,rfl,rfl⟩,n.push _⟩ (QaG (Nl _ J)) fun u r G=>?_;obtain⟨h',S,Y,t,y⟩:=u;have U:S=s.gens:=r.gens;have X:Y=s.drawn:=r.drawn;have T:y=s.os:=r.os;subst U X T;refine Nh (Nh ⟨rfl,h h' t G fun b o lt e=>?_⟩);refine r.heap b o ?_ (Nl _ (Nl _ e));simp only[Nx,Ey,or_false,not_or];exact⟨NG lt,by rw[d];exact NG (DN lt)⟩
theorem set_list(v:A.handled=none)(t:s.heap.IsList l items)(u:StrsAre items.toList ss)(x:items.size+1<scanBound)
  (h:∀(h':Heap) (tk:Nat),SetL prog w h' s.heap.objs.size (uniq ss) (Kw w)->(∀b o,b<s.heap.objs.size->s.heap.get? b=some o->h'.get? b=some o)->Q (.ref s.heap.objs.size) { s with heap:=h',toks:=tk }) :
  wpAny (model prog w) A (call (.type "set") [.ref l]) Q E s:=by
 have body:∀(j:Around),j.handled=none->wpAny (model prog w) j (Builtin.«set.__init__» ⟨[.ref s.heap.objs.size,.ref l],[]⟩) (fun fin m=>fin=.done (.ret .none)/\Q (.ref s.heap.objs.size) m) E { s with heap:=s.heap.push (Q0 (Kw w)) }:=by
  intro j B;exact Qka B t u x h
 obtain⟨c,D,n⟩:=E1.mro;have N:=E1.made;have M:=E1.sub;refine LM (codeAny_of_tree (show wpAny _ _ (callAny (.type "set") _) _ _ _ from ?_));refine Nh ⟨Lb _ (by decide +kernel),EO (F.entry_type_call) ?_⟩;rw[Around.under_plain (weight_type_call_type "set" [Value.ref l] []) rfl];have L:=E1.notType;have J:=E1.canCreate;have I:=F.typeCall_set_1 (Value.ref l)
 repeat (any_goals (first|assumption|wp_step))
 refine Db (QnF (Value.ref l) (E:=E) (Q₁:=fun obj f=>obj=.ref s.heap.objs.size/\f={ s with heap:=s.heap.push (Q0 (Kw w)) }) ⟨rfl,rfl⟩) fun r f hr=>?_;cases r with
 |error e=>exact hr
 | ok C=>
  cases C with
  | ret obj=>
   obtain⟨rfl,rfl⟩:=hr;have z:(s.heap.push (Q0 (Kw w))).get? s.heap.objs.size=some (Q0 (Kw w)):=Ny _ rfl;have y:Shared.TypeIs { s with heap:=s.heap.push (Q0 (Kw w)) } (.ref s.heap.objs.size) "set":=⟨_,z,rfl⟩
   have H:=E1.init.lookup;have G:=E1.init.bind (.ref s.heap.objs.size)
   repeat (any_goals (first|assumption|wp_step))
   refine Db (codeAny_call_builtin (R:=wants (fun r d=>r=.none/\Q (.ref s.heap.objs.size) d) E) E1.init.plain F.entry_set_init (check_set_init_1 y (NO (body _ (by simp[v])) (fun fin m q=>?_) fun _ _ q=>q))) fun i d a=>?_
   ·obtain⟨rfl,q⟩:=q;exact⟨rfl,q⟩
   ·cases i with
    |error e=>exact a
    | ok g=>
     cases g with
     |ret r=>
      obtain⟨rfl,q⟩:=a
      repeat (any_goals (first|assumption|wp_step))
     |_=>exact a.elim
  |_=>exact hr.elim
end
theorem slotN:Slot "set_iterator" "__next__" "set_iterator.__next__":=.of (owner:="set_iterator") (n:="__next__") (by rw[FY,DT];kernel_rfl) (by decide +kernel) (by decide +kernel) (by decide +kernel) (by first|exact .inl (by decide +kernel)|exact .inr (by decide +kernel)) (by rw[Ip];kernel_rfl)
theorem QeG:entryFor table "set_iterator.__next__"=some Builtin.«set_iterator.__next__»:=entryFor_of_tree (by kernel_rfl)
theorem QiW(a:Value):argsOk "set_iterator.__next__" ⟨[a],[]⟩:=by unfold argsOk;kernel_rfl
theorem Qit:entryFor table "set.__iter__"=some Builtin.«frozenset.__iter__»:=entryFor_alias (id':="frozenset.__iter__") (by kernel_rfl) rfl (by decide +kernel) (by kernel_rfl)
theorem YS(lt:j<l.length):List.Perm (l[j]::l.eraseIdx j) l:=by
 rw[List.eraseIdx_eq_take_drop_succ];have e:l=l.take j++l[j]::l.drop (j+1):=by rw[<-EJ lt,List.take_append_drop]
 conv=>rhs;rw[e]
 exact List.perm_middle.symm
theorem QbV(nx:Nat->Nat):∀(f k:Nat) (l:List a) (o:Array a),f=l.length->List.Perm (pickOrder.go nx f k l o).toList (o.toList++l)
 |0,k,l,o,h=>by
  rw[N5.mp h.symm,N9];exact .rfl
 |f+1,k,l,o,h=>by
  unfold pickOrder.go;have lt:nx k%l.length<l.length:=Nat.mod_lt _ (Nm (Nat.succ_pos _) (NH h));generalize nx k%l.length=j at lt;rw[Ni lt];refine(QbV nx f (k+1) (l.eraseIdx j) (o.push l[j]) (by rw[Fo lt];lia)).trans ?_;rw[Ll,ES,List.singleton_append];exact List.Perm.append_left _ (YS lt)
theorem Qa1(nx:Nat->Nat)(xs:Array a):List.Perm (pickOrder nx xs).toList xs.toList:=by
 have:=QbV nx xs.size 0 xs.toList #[] (by simp);simpa[pickOrder]using this
section
variable{prog:Program}{w:World}{A:Around}{E:Value->Shared->Prop}{s:Shared}
theorem Qhj(a:n≠0)(h:∀j d,j<n->Q j { s with drawn:=d }):wpAny M A (choose src n) Q E s:=fun b p _=>by
 show Sem.wp M b (.choose src n fun i=>pure i) _ _ p s;rw[Sem.wp_choose];exact⟨a,h _ _ (Nat.mod_lt _ (Nat.pos_of_ne_zero a))⟩
theorem Uf:∀(n:Nat) (xs:List b) (s:Shared) (Q:List b->Shared->Prop),n=xs.length->(∀ys d,List.Perm ys xs->Q ys { s with drawn:=d })->wpAny (model prog w) A (drawOrder n xs) Q E s
 |0,xs,s,Q,a,h=>by
  have e:=N5.mp a.symm;subst e;exact Nh (h [] s.drawn .rfl)
 |n+1,[],s,Q,a,h=>by cases a
 |n+1,x::xs,s,Q,a,h=>by
  unfold drawOrder;refine Nc (Qhj (by simp) fun j c lt=>?_);rw[Ni lt];refine Nc (Uf n _ _ _ (by rw[Fo lt];simp at a ⊢;exact a) fun ys d p=>Nh (h _ d ?_));exact(p.cons _).trans (YS lt)
end
end St
namespace Sb
open PySem SetTable
noncomputable abbrev At(xs:Array Nat)(i:Nat):Nat:=xs.getD i 0
def Up(xs:Array Nat):Prop:=∀i j,i<j->j<xs.size->At xs i<At xs j
theorem Wy(up:Up xs):∀(f lo c:Nat),c-lo<=f->lo<=c->c<=xs.size->(∀i,i<lo->At xs i<j)->(∀i,c<=i->i<xs.size->j<=At xs i) ->
  below.go xs j f lo c<=xs.size/\(∀i,i<below.go xs j f lo c->At xs i<j)/\∀i,below.go xs j f lo c<=i->i<xs.size->j<=At xs i
 |0,lo,c,h1,h2,m,l,h=>by
  have:lo=c:=by lia
  subst this;exact⟨m,l,h⟩
 | f+1,lo,c,h1,h2,m,l,h=>by
  unfold below.go
  by_cases d:lo<c
  ·rw[if_pos d];have p:(lo+c)/2<xs.size:=by lia
   have e:xs.getD ((lo+c)/2) j=At xs ((lo+c)/2):=by simp[Array.getD,p]
   have rel:∀a b,a<=b->b<xs.size->At xs a<=At xs b:=fun a b o n=>by
    rcases Nat.lt_or_ge a b with z|z
    ·exact ND (up a b z n)
    ·rw[show a=b by exact LW o z];exact Nn _
   dsimp only;rw[e]
   by_cases g:At xs ((lo+c)/2)<j
   ·rw[if_pos g];exact Wy up f _ c (by omega) (by lia) m (fun i q=>NL (rel i _ (by lia) p) g) h
   ·rw[if_neg g];exact Wy up f lo _ (by omega) (by lia) (ND p) l (fun i o n=>Nu (El.mp g) (rel _ i o n))
  ·rw[if_neg d];have:lo=c:=by exact LW h2 (El.mp d)
   subst this;exact⟨m,l,h⟩
theorem G1(up:Up xs)(j:Nat):below xs j<=xs.size/\(∀i,i<below xs j->At xs i<j)/\∀i,below xs j<=i->i<xs.size->j<=At xs i:=
 Wy up xs.size 0 xs.size (Nat.sub_le _ _) (NT _) (Nn _) (fun i h=>absurd h (E6 _)) (fun i b a=>by omega)
theorem below_next(up:Up xs)(a:i<xs.size):below xs (At xs i+1)=i+1:=by
 obtain⟨d,c,b⟩:=G1 up (At xs i+1)
 rcases Nat.lt_trichotomy (below xs (At xs i+1)) (i+1)with z|z|z
 ·have:=b i (by omega) a;lia
 ·exact z
 ·have:=c (i+1) z;have:=up i (i+1) (Ev _) (Nm z d);omega
theorem below_zero(up:Up xs):below xs 0=0:=by
 obtain⟨c,a,b⟩:=G1 up 0
 rcases Nat.eq_zero_or_pos (below xs 0)with z|z
 ·exact z
 ·exact absurd (a 0 z) (E6 _)
theorem at_get(a:i<xs.size):xs[i]?=some (At xs i):=by simp[Array.getD,a]
noncomputable def bk(m:Nat)(h:Int):Nat->Nat×Nat
 |0=>(bits h%(m+1),bits h)
 |k+1=>leap m (bk m h k).1 (bk m h k).2
noncomputable def ps(m:Nat)(h:Int):Nat->Nat
 |0=>0
 |k+1=>ps m h k+(runEnd m (bk m h k).1-(bk m h k).1)+1
end Sb
namespace St
theorem QeK:Slot "set_iterator" "__iter__" "set_iterator.__iter__":=.of (owner:="set_iterator") (n:="__iter__") (by rw[FY,DT];kernel_rfl) (by decide +kernel) (by decide +kernel) (by decide +kernel) (by first|exact .inl (by decide +kernel)|exact .inr (by decide +kernel)) (by rw[Ip];kernel_rfl)
theorem QfO:entryFor table "set_iterator.__iter__"=some Builtin.«dict_keyiterator.__iter__»:=entryFor_alias (id':="dict_keyiterator.__iter__") (by kernel_rfl) rfl (by decide +kernel) (by kernel_rfl)
theorem Qg7(a:Value):argsOk "set_iterator.__iter__" ⟨[a],[]⟩:=by unfold argsOk;kernel_rfl
section
variable{prog:Program}{w:World}{A:Around}{E:Value->Shared->Prop}{s:Shared}
noncomputable abbrev Qc8(f:Value)(i:Nat)(S:Addr)(n a:Nat):Obj:={ cls:=.type "set_iterator",data:=.fields #[f,.int i 0,.ref S,.int n 0,.int a 0] }
inductive How(w:World)(S T:Addr)(h:Heap)(es:Array (Int×Value))(ep:Nat)(t:SetTable)(vs:List Value):Nat->Value->Prop where
 |tup {i:Nat} {ps:List Nat} (hT:h.get? T=some { cls:=.type "tuple",data:=.seq (ps.map fun(p:Nat)=>rawInt p).toArray 0 }) (hl:ps.length=vs.length) (hp:∀(j p:Nat),ps[j]?=some p->∃e,es[p]?=some e/\vs[j]?=some e.2):How w S T h es ep t vs i (.ref T)
 |text {i:Nat} (c:Nat) (hb:w.params.followText "set-order"=true) (hv:vs=(pickOrder (w.params.setOrder S ep) es).toList.map (·.2)):How w S T h es ep t vs i (.int c 0)
 |slots {i:Nat} (c:Nat) (hb:w.params.followText "set-order"=false) (hled:t.led=true) (hs:t.plain=true\/es.size<=1) (hv:vs=es.toList.map (·.2)) (hc:SetTable.below t.place c=i):How w S T h es ep t vs i (.int c 0)
def ItT(w:World)(I S T:Addr)(vs:List Value)(i:Nat)(h:Heap):Prop:=
 ∃f o a b t,h.get? I=some (Qc8 f i S vs.length b)/\h.get? S=some o/\o.data=.set a b t/\t.fits a.size=true/\(t.plain=true\/a.size<=1->Sb.Up t.place)/\a.size=vs.length/\How w S T h a b t vs i f
theorem Qae{t:SetTable}(a:t.fits n=true):t.place.size=n:=by
 simp only[SetTable.fits,NB,beq_iff_eq]at a;exact a.1
theorem How.keep(x:How w S T h m n t vs i f)(k:∀o,h.get? T=some o->h'.get? T=some o):How w S T h' m n t vs i f:=by
 cases x with
 |tup l g hp=>exact .tup (k _ l) g hp
 |text c d b=>exact .text c d b
 |slots c d a e b j=>exact .slots c d a e b j
theorem QgU(k:Nat):rawInt (k:Int)=Value.int k 0:=rfl
theorem QmY:(#[f,a,b,c,d]:Array Value).setIfInBounds 0 x=#[x,a,b,c,d]:=by rfl
theorem Qm8:(#[f,a,b,c,d]:Array Value).setIfInBounds 1 x=#[f,x,b,c,d]:=by rfl
theorem Gk{h:Heap}(e:h.get? I=some (Qc8 f i S n a))(k:Nat)(x:Value):(h.update I (Obj.mapFields (·.setIfInBounds k x))).get? I=some { cls:=.type "set_iterator",data:=.fields ((#[f,.int i 0,.ref S,.int n 0,.int a 0]:Array Value).setIfInBounds k x) }:=EH _ e rfl
theorem Qnw{h:Heap}(e:h.get? I=some (Qc8 f i S n a)):((h.update I (Obj.mapFields (·.setIfInBounds 0 x))).update I (Obj.mapFields (·.setIfInBounds 1 y))).get? I=some { cls:=.type "set_iterator",data:=.fields #[x,y,.ref S,.int n 0,.int a 0] }:=by
 have g1:=Gk e 0 x;rw[QmY]at g1;exact EH (Obj.mapFields (·.setIfInBounds 1 y)) g1 rfl
theorem X7(j:s.heap.get? S=some o)(g:o.data=.set d f t)(b:t.fits d.size=true)(a:w.params.followText "set-order"=true)
  (h:Q (((pickOrder (w.params.setOrder S f) d)[i]?).map fun e=>(e.2,c)) s):wpAny (model prog w) A (setNext S c i f) Q E s:=by
 unfold setNext;refine Nc (EX j g b ?_);dsimp only;unfold setsByText;refine Nc (Nc (EZ (Nh ?_)));show wpAny _ _ (if(w.params.followText "set-order")=true then _ else _) _ _ _;rw[if_pos a];rw[if_neg (by simp)];refine Nc ?_;unfold setWalk;refine Nc (EX j g b ?_);dsimp only;unfold setsByText;refine Nc (Nc (EZ (Nh ?_)));show wpAny _ _ (if(w.params.followText "set-order")=true then _ else _) _ _ _;rw[if_pos a];refine Nc (EZ (Nh ?_));exact Nh h
theorem Y2(f:s.heap.get? S=some o)(d:o.data=.set a c t)(b:t.fits a.size=true)(hp:a[p]?=some e)(h:Q e.2 s):wpAny (model prog w) A (setNextDrawn S p c) Q E s:=by
 unfold setNextDrawn;refine Nc (EX f d b ?_);dsimp only;rw[if_neg (by simp),hp];exact Nh h
theorem XD(m:s.heap.get? S=some o)(l:o.data=.set a g t)(f:t.fits a.size=true)(e:w.params.followText "set-order"=false)(b:t.led=true)(d:t.plain=true\/a.size<=1)
  (h:Q (match a[SetTable.below t.place c]?,t.place[SetTable.below t.place c]? with|some (_,x),some j=>some (x,j+1)|_,_=>none) s):wpAny (model prog w) A (setNext S c i g) Q E s:=by
 unfold setNext;refine Nc (EX m l f ?_);dsimp only;unfold setsByText;refine Nc (Nc (EZ (Nh ?_)));show wpAny _ _ (if(w.params.followText "set-order")=true then _ else _) _ _ _;rw[if_neg (by rw[e];simp)];show wpAny _ _ (if(!t.plain&&decide (a.size>1))=true then _ else _) _ _ _
 rw[if_neg (by
  rcases d with z|z
  ·rw[z];simp
  ·have:¬a.size>1:=by exact El.mpr z
   simp[this])]
 show wpAny _ _ ((if(!t.led&&!a.isEmpty)=true then unsupported "set:maker-not-led"else pure ())>>=_) _ _ _;rw[if_neg (by rw[b];simp)];exact Nc (Nh (Nh h))
theorem Qbr{i:Nat}(F:S≠I)(D:T≠I)(st:ItT w I S T vs i s.heap)(M:i<vs.length)
  (U:∀v h',vs[i]?=some v->ItT w I S T vs (i+1) h'->Heap.SameBut I s.heap h'->Q (some v) { s with heap:=h' }):wpAny (model prog w) A (pyNext (.ref I)) Q E s:=by
 obtain⟨f,o,m,G,t,l,r,n,j,up,d,hw⟩:=st;have R:s.TypeIs (.ref I) "set_iterator":=⟨_,l,rfl⟩
 unfold pyNext;refine Nc (wpAny_attempt (E3 (name:=Str.ofString "__next__") R slotN (EU slotN R QeG ?_ (QiW _))));unfold Builtin.«set_iterator.__next__»;refine Nc (Nh (Nc (wpAny_fieldsOf l rfl ?_)));dsimp only;refine Nc (Fc r n j ?_);rw[if_neg (by simp[d])];have two:∀(x y:Value),Heap.SameBut I s.heap ((s.heap.update I (Obj.mapFields (·.setIfInBounds 0 x))).update I (Obj.mapFields (·.setIfInBounds 1 y))):=fun x y=>(Ec ..).trans (Ec ..)
 have O:∀(x:Value) (nx:Nat),vs[i]?=some x->How w S T s.heap m G t vs (i+1) (.int nx 0)->wpAny (model prog w) A.in1 (do
   setField (Value.ref I) 0 (rawInt (nx:Int))
   setField (Value.ref I) 1 (rawInt ((i:Int)+1))
   ret x) (fun fin H=>∃v,fin=Fin.done (Flow.ret v)/\wpAny (model prog w) A (pure (some v)) Q E H) (fun e H=>wpAny (model prog w) A (do if(<-isInstance e (Value.type "StopIteration"))=true then pure none else throw e) Q E H) s:=by
  intro x nx Y J;refine Nc (Di l rfl (by simp) (Nc (Di (Gk l 0 _) rfl (by simp) (Nh ⟨x,rfl,Nh (U x _ Y ?_ (two _ _))⟩))));refine⟨.int nx 0,o,m,G,t,Qnw l,?_,n,j,up,d,J.keep fun X e=>?_⟩
  ·rw[(two _ _).2 S F];exact r
  ·rw[(two _ _).2 T D];exact e
 cases hw with
 |@tup ps C P hp=>
  simp only[EA];refine Nc (Ij C rfl ?_);dsimp only;have h:ps[i]?=some ps[i]:=Ni (Nm M (NH P.symm));generalize ps[i]=q at h;obtain⟨e,Z,u⟩:=hp i q h;have:((ps.map fun(p:Nat)=>rawInt p).toArray)[i]?=some (Value.int (q:Int) 0):=by simp[h,QgU]
  rw[this];dsimp only;refine Nc (Y2 r n j (p:=q) Z (Nc (Di l rfl (by simp) (Nh ⟨e.2,rfl,Nh (U e.2 _ u ?_ (Ec ..))⟩))));have N:Heap.SameBut I s.heap (s.heap.update I (Obj.mapFields (·.setIfInBounds 1 (rawInt ((i:Int)+1))))):=Ec ..;refine⟨.ref T,o,m,G,t,?_,by rw[N.2 S F];exact r,n,j,up,d,How.keep (.tup C P hp) fun X e=>by rw[N.2 T D];exact e⟩;have g:=Gk l 1 (rawInt ((i:Int)+1));rw[Qm8]at g;exact g
 |text c B u=>
  simp only[EA];refine Nc (X7 r n j (i:=i) (c:=c) B ?_);subst u;have a:i<(pickOrder (w.params.setOrder S G) m).size:=by simpa using M
  rw[NN a];exact O _ c (by rw[Nq,Ee,NN a];rfl) (.text c B rfl)
 |slots c B b L u hc=>
  simp only[EA];refine Nc (XD r n j (i:=i) (c:=c) B b L ?_);subst u;have a:i<m.size:=by simpa using M
  have z:i<t.place.size:=by rw[Qae j];exact a
  rw[hc,NN a,Sb.at_get z];exact O m[i].2 (Sb.At t.place i+1) (by rw[Nq,Ee,NN a];rfl) (.slots _ B b L rfl (Sb.below_next (up L) z))
theorem G9(d:B.handled=none)(f:∀h',(∀b o,s.heap.get? b=some o->h'.get? b=some o)->Q none { s with heap:=h' }) :
  wpAny (model prog w) B (newExc (.type "StopIteration") []>>=raiseNew) (fun(fin:Fin) c=>∃v,fin=Fin.done (Flow.ret v)/\wpAny (model prog w) A (pure (some v)) Q E c) (fun e c=>wpAny (model prog w) A (do if(<-isInstance e (Value.type "StopIteration"))=true then pure none else throw e) Q E c) s:=by
 refine Nc ?_;simp only[newExc,newTuple];refine Nc (Ep ?_ (by size_fits));refine Nc (m:=firstArgMember _ _) (wpAny_of_eq (a:=Value.none) (by first|rfl|(simp only[firstArgMember];rfl)) (Ep ?_ (by size_fits)));simp only[raiseNew];refine Nc (wpAny_handled ?_);rw[d];refine Nc (Nh (wpAny_throw ?_));refine Nc (FC (T:="StopIteration") (b:=true) ⟨_,Ny _ rfl,rfl⟩ isSubtype_stop ?_);refine Nh (f _ ?_);exact fun b o e=>Nl _ (Nl _ e)
theorem Qdi(F:A.handled=none)(J:S≠I)(H:T≠I)(st:ItT w I S T vs vs.length s.heap)
  (y:∀h',Heap.ExtBut I s.heap h'->Q none { s with heap:=h' }):wpAny (model prog w) A (pyNext (.ref I)) Q E s:=by
 obtain⟨f,o,B,L,t,h,r,q,n,up,d,hw⟩:=st;have x:s.TypeIs (.ref I) "set_iterator":=⟨_,h,rfl⟩
 unfold pyNext;refine Nc (wpAny_attempt (E3 (name:=Str.ofString "__next__") x slotN (EU slotN x QeG ?_ (QiW _))));unfold Builtin.«set_iterator.__next__»;refine Nc (Nh (Nc (wpAny_fieldsOf h rfl ?_)));dsimp only;refine Nc (Fc r q n ?_);rw[if_neg (by simp[d])];have z:A.in1.handled=none:=F
 have one:wpAny (model prog w) A.in1 (do
   setField (Value.ref I) 2 Value.none
   raiseNew (<-newExc (Value.type "StopIteration") [])) (fun(fin:Fin) j=>∃v,fin=Fin.done (Flow.ret v)/\wpAny (model prog w) A (pure (some v)) Q E j) (fun e j=>wpAny (model prog w) A (do if(<-isInstance e (Value.type "StopIteration"))=true then pure none else throw e) Q E j) s:=by
  refine Nc (Di h rfl (by simp) (G9 z fun h' k=>y h' fun b l a e=>k b l ?_));rw[(Ec ..).2 b a];exact e
 cases hw with
 |@tup ps m D hp=>
  simp only[EA];refine Nc (Ij m rfl ?_);dsimp only;rw[show((ps.map fun(p:Nat)=>rawInt p).toArray)[vs.length]?=none by simp[D]];refine Nc (Di h rfl (by simp) (Nc (Di (Gk h 0 _) rfl (by simp) (G9 z fun h' k=>y h' fun b l a e=>k b l ?_))));rw[((Ec s.heap I _).trans (Ec ..)).2 b a];exact e
 |text c a u=>
  simp only[EA];refine Nc (X7 r q n (i:=vs.length) (c:=c) a ?_);rw[show(pickOrder (w.params.setOrder S L) B)[vs.length]?=none by rw[u];simp];exact one
 |slots c a g C u G=>
  simp only[EA];refine Nc (XD r q n (i:=vs.length) (c:=c) a g C ?_);rw[G,show B[vs.length]?=none from Ig (NH d)];exact one
theorem Qku(st:ItT w I S T vs i s.heap)(h:Q (.ref I) s):wpAny (model prog w) A (pyIter (.ref I)) Q E s:=by
 obtain⟨f,o,c,d,t,b,_⟩:=st;have a:s.TypeIs (.ref I) "set_iterator":=⟨_,b,rfl⟩
 refine Lp a QeK (EU QeK a QfO ?_ (Qg7 _));exact Nh ⟨_,rfl,"set_iterator",_,a,slotN.lookup,h⟩
theorem QhY(u:A.handled=none)(I S T:Addr)(d:S≠I)(c:T≠I)(vs:List Value) :
  Walks prog w A I [I,S,T] [I] vs.length (fun i v=>vs[i]?=some v) (fun i h=>ItT w I S T vs i h) where
 sub:=fun b a=>by simp at a;simp[a]
 frame:=fun i h g z k=>by
  obtain⟨f,o,B,C,t,G,F,D,y,up,l,hw⟩:=z;exact⟨f,o,B,C,t,k I (by simp) _ G,k S (by simp) _ F,D,y,up,l,hw.keep fun o e=>k T (by simp) o e⟩
 item:=fun i s Q E r st m=>Qbr d c st r fun v g p j n=>m v g s.toks p j fun b o a e=>by rw[n.2 b (fun z=>a (by simp[z]))];exact e
 done:=fun s Q E st m=>Qdi u d c st fun g x=>m g s.toks fun b o a e=>x b o (fun z=>a (by simp[z])) e
 self:=fun i s Q E st q=>Qku st q
noncomputable abbrev atP(a:Array (Int×Value))(i:Nat):Value:=(a.getD i (0,.none)).2
theorem QaO{ps:List Nat}(p:ps.Perm (List.range a.size)):(ps.map (atP a)).Perm (a.toList.map (·.2))/\∀(j q:Nat),ps[j]?=some q->∃e,a[q]?=some e/\(ps.map (atP a))[j]?=some e.2:=by
 constructor
 ·refine(p.map _).trans ?_
  have:(List.range a.size).map (atP a)=a.toList.map (·.2):=by
   apply DG;intro j;rw[Nq,Nq]
   by_cases lt:j<a.size
   ·simp[atP,Array.getD,lt]
   ·rw[NF (by simpa using lt),NF (by simpa using lt)];rfl
  rw[this]
 ·intro j q b;have lt:q<a.size:=N7.mp (p.mem_iff.mp (NA.mpr ⟨j,b⟩));refine⟨a[q],NN lt,?_⟩;rw[Nq,b];simp[atP,Array.getD,lt]
theorem QkT{a:Array (Int×Value)}(g:s.heap.get? S=some o)(M:o.ExactSet)(x:o.data=.set a B t)(u:t.fits a.size=true)(up:t.plain=true\/a.size<=1->Sb.Up t.place)(y:t.led=Kw w)(hz:a.size<=sizeLine)
  (h:∀h' d I T (vs:List Value),(∀b o,s.heap.get? b=some o->h'.get? b=some o)->s.heap.objs.size<=I->(T=S\/s.heap.objs.size<=T)->S≠I->T≠I->vs.Perm (a.toList.map (·.2))->vs.length=a.size->ItT w I S T vs 0 h'->Q (.ref I) { s with heap:=h',drawn:=d }) :
  wpAny (model prog w) A (pyIter (.ref S)) Q E s:=by
 have H:s.TypeIs (.ref S) "set":=⟨o,g,M.1⟩
 have m:=No g;refine Lp H LX (EU LX H Qit ?_ (F.args_set_iter_1 _));unfold Builtin.«frozenset.__iter__» Builtin.Frozenset.slot0;refine Nc (Nc (Nh (Nh ?_)));unfold Builtin.Frozenset.sizeOf;refine Nc (Nc (Fc g x u (Nh ?_)));refine Nc (Nc (EX g x u ?_));dsimp only;unfold setsByText;refine Nc (Nc (EZ (Nh (Nh ?_))));show wpAny _ _ (if(!(w.params.followText "set-order")&&(!t.plain&&decide (a.size>1)))=true then _ else _) _ _ _
 have made:∀(c:Int) (vs:List Value),c=0->vs.Perm (a.toList.map (·.2))->How w S S (s.heap.push (Qc8 (.int (0:Nat) 0) 0 S a.size B)) a B t vs 0 (.int (0:Nat) 0)->wpAny (model prog w) A.in1 (do
   let first <-pure (rawInt c)
   ret (<-newFields "set_iterator" [first,rawInt 0,Value.ref S,rawInt (a.size:Int),rawInt ((<-setEpoch S):Int)])) (fun fin G=>∃v,fin=Fin.done (Flow.ret v)/\∃J r,G.TypeIs v J/\typeLookup (Value.type J) (Str.ofString "__next__")=pure (some r)/\Q v G) E s:=by
  intro c vs N p hw;subst N;refine Nc (Nh (Nc (Lq g x u (Nc (Ep (Nh ⟨_,rfl,"set_iterator",_,⟨_,Ny _ rfl,rfl⟩,slotN.lookup,?_⟩))))));have f:a.size=vs.length:=by rw[p.length_eq,Nw,NR]
  refine h _ s.drawn s.heap.objs.size S vs (fun b L e=>Nl _ e) (Nn _) (.inl rfl) (NG m) (NG m) p f.symm ?_;exact⟨.int (0:Nat) 0,o,a,B,t,by rw[<-f];exact Ny _ rfl,Nl _ g,x,u,up,f,hw⟩
 cases q:w.params.followText "set-order"with
 |true=>
  rw[if_neg (by simp)];exact made 0 ((pickOrder (w.params.setOrder S B) a).toList.map (·.2)) rfl ((Qa1 _ a).map _) (.text 0 q rfl)
 | false=>
  have n:t.led=true:=by rw[y];simp[Kw,q]
  by_cases D:t.plain=false/\a.size>1
  ·rw[if_pos (by simp[D.1,D.2])];refine Nc (Uf a.size (List.range a.size) s _ (by simp) fun ps d p=>?_);have C:ps.length=a.size:=by rw[p.length_eq,DK]
   refine Nc (wpAny_newTuple ?_ (by rw[Nw,C];exact hz));refine Nc (Lq (s:={ s with drawn:=d,heap:=s.heap.push { cls:=.type "tuple",data:=.seq (ps.map fun(i:Nat)=>rawInt i).toArray } }) (Nl _ g) x u ?_);refine Nc (Ep (Nh ⟨_,rfl,"set_iterator",_,⟨_,Ny _ rfl,rfl⟩,slotN.lookup,?_⟩));obtain⟨q1,q2⟩:=QaO p;have f:a.size=(ps.map (atP a)).length:=by rw[Nw,C]
   have j:(s.heap.push { cls:=.type "tuple",data:=.seq (ps.map fun(i:Nat)=>rawInt i).toArray }).objs.size=s.heap.objs.size+1:=Dz _ _;refine h _ d _ s.heap.objs.size (ps.map (atP a)) (fun b L e=>Nl _ (Nl _ e)) (by show s.heap.objs.size<=(s.heap.push _).objs.size;rw[j];exact NW _ _) (.inr (Nn _)) (by show S≠(s.heap.push _).objs.size;rw[j];exact NG (DN m)) (by show s.heap.objs.size≠(s.heap.push _).objs.size;rw[j];exact NG (Ev _)) q1 f.symm ?_;refine⟨.ref s.heap.objs.size,o,a,B,t,by rw[<-f];exact Ny _ rfl,Nl _ (Nl _ g),x,u,up,f,.tup (ps:=ps) (Nl _ (Ny _ rfl)) (by rw[<-f,C]) q2⟩
  ·have l:t.plain=true\/a.size<=1:=by
    cases hp:t.plain with
    |true=>exact .inl rfl
    |false=>
     right
     rcases Nat.lt_or_ge 1 a.size with z|z
     ·exact absurd ⟨hp,z⟩ D
     ·exact z
   rw[if_neg (by
    rcases l with z|z
    ·rw[z];simp
    ·have:¬a.size>1:=by exact El.mpr z
     simp[this])]
   exact made 0 (a.toList.map (·.2)) rfl .rfl (.slots 0 q n l rfl (Sb.below_zero (up l)))
theorem QjO(d:s.TypeIs (.ref S) "set")(h:Q false s):wpAny (model prog w) A (Builtin.List.listLengthHint (.ref S)) Q E s:=by
 unfold Builtin.List.listLengthHint;refine Nc (DW d F.slot_set_len.lookup ?_);generalize a:("set.__len__":String)=c
 wp_delta
 rw[show splitId c=some ("set","__len__")from by subst a;decide +kernel];subst a;refine Nc (FC (T:="set") (b:=true) d (by rw[Ip];kernel_rfl) ?_);refine FZ (fun z=>absurd z (by decide)) (fun _=>FZ (fun _=>?_) (fun z=>absurd (by decide +kernel) z));exact Nc (Dd d (Nh h))
noncomputable abbrev lsO(xs:Array Value)(c:Nat):Obj:={ cls:=.type "list",dict:=none,data:=.seq xs c,slots:=#[] }
theorem Qfx(hh:A.handled=none)(Y:s.heap.get? S=some o)(H:o.ExactSet)(e3:o.data=.set G ep t)(ft:t.fits G.size=true)(up:t.plain=true\/G.size<=1->Sb.Up t.place)(y:t.led=Kw w)(m:N≠S)(res:Value)(i:Nat)(hN:s.heap.get? N=some (lsO #[] i))(hz:G.size<=sizeLine)
  (hR:∀h' d tk (vs:List Value) r,vs.Perm (G.toList.map (·.2))->(∀b o,b≠N->s.heap.get? b=some o->h'.get? b=some o)->h'.get? N=some (lsO vs.toArray r)->R (.ok (.ret res)) { s with heap:=h',drawn:=d,toks:=tk }) :
  wpAny (model prog w) A.in1 (Builtin.List.listExtendWith (.ref N) (.ref S) res) (fun fin l=>match fin with|.done f=>R (.ok f) l|.again r=>r.quiet=true/\codeAny (model prog w) A r R l) (fun e l=>R (.error e) l) s:=by
 unfold Builtin.List.listExtendWith;refine Nc (Dd (T:="set") ⟨o,Y,H.1⟩ ?_);have n1:Builtin.List.listSameRef (.ref N) (.ref S)=false:=by simp[Builtin.List.listSameRef,m]
 have n2:(Value.type "set"==Value.type "list")=false:=by decide
 have n3:(Value.type "set"==Value.type "tuple")=false:=by decide
 simp only[n1,n2,n3,L4,Eh,if_false];refine Nc (QkT Y H e3 ft up y hz fun X d I T vs D hI L O M str J st=>?_);have n:=D _ _ hN;have v:N<s.heap.objs.size:=No hN;have Q:N≠I:=fun z=>absurd hI (by rw[<-z];exact IC.mpr v)
 have P:N≠T:=by
  rcases L with z|z
  ·rw[z];exact m
  ·exact fun e=>absurd z (by rw[<-e];exact IC.mpr v)
 have Z:N∉[I,S,T]:=by
  simp only[Nx,Ey,or_false,not_or];exact⟨Q,m,P⟩
 have W:=QhY (prog:=prog) (w:=w) (A:=A.in1.in1) (by simp[hh]) I S T O M vs
 have key:∀(C:Heap) (a:Nat),ItT w I S T vs 0 C->(∀b o,b≠N->s.heap.get? b=some o->C.get? b=some o)->C.get? N=some (lsO #[] a)->codeAny (model prog w) A (.builtin "list.extend.loop" ⟨[.ref N,.ref I,res],[]⟩) R { s with heap:=C,drawn:=d }:=by
  intro C a st2 k2 g;refine codeAny_extend_loopS (Walks.of_in1 W).toS (by rw[J];exact hz) N Z res vs.length 0 _ #[] a rfl (NT _) st2 g (ItemsOf.nil _) fun l p r hm B h=>?_;rw[Moved.eq_with hm]
  have ea:p=vs.toArray:=by
   apply Array.ext_getElem?;intro j
   by_cases F:j<p.size
   ·have q:=h.2 j p[j] (NN F);rw[NN F,Dg,q]
   ·rw[Ig (El.mp F),Dg,NF (by have:=h.1;exact Nu (NH this.symm) (El.mp F))]
  rw[ea]at B;refine hR l.heap d l.toks vs r str (fun b o c e=>hm.heap b o (fun x=>?_) (k2 b o c e)) B
  rcases Nx.mp x with z|z
  ·exact c z
  ·rw[NI.mp z]at e;exact absurd (No e) (El.mpr hI)
 refine Nc (NP (QjO ⟨o,D _ _ Y,H.1⟩ ?_));refine FZ (fun _=>?_) (fun _=>Nh ⟨Dn IP _,key X i st (fun b o _ e=>D b o e) n⟩);refine Nc (DB (Nc ?_));show wpAny _ _ (updateSeq N (·.push .none)>>=fun _=>updateSeq N (·.pop)) _ _ _;refine Nc (FX n rfl ?_);have g:=EH (Obj.mapSeq (·.push Value.none)) n rfl;refine FX (hz:=by seq_fits) g rfl ?_;have U:=EH (Obj.mapSeq (·.pop)) g rfl;have u:∀b o,b≠N->X.get? b=some o->((X.update N (Obj.mapSeq (·.push Value.none))).update N (Obj.mapSeq (·.pop))).get? b=some o:=fun b o c e=>(ED _ _ (EF c)).trans ((ED _ _ (EF c)).trans e);refine Nh ⟨Dn IP _,key _ _ (W.frame 0 _ _ st fun b c o e=>u b o (fun z=>Z (by rw[<-z];exact c)) e) (fun b o c e=>u b o c (D b o e)) U⟩
theorem Qdj(x:A.handled=none)(n:s.heap.get? S=some o)(u:o.ExactSet)(z:o.data=.set i B t)(y:t.fits i.size=true)(up:t.plain=true\/i.size<=1->Sb.Up t.place)(l:t.led=Kw w)(hz:i.size<=sizeLine)
  (h:∀h' d tk (vs:List Value),vs.Perm (i.toList.map (·.2))->(∀b o,s.heap.get? b=some o->h'.get? b=some o)->s.heap.objs.size<=h'.objs.size->Q vs { s with heap:=h',drawn:=d,toks:=tk }):wpAny (model prog w) A (collect (.ref S)) Q E s:=by
 unfold collect;refine Nc (wpAny_runValue (EO entry_proto_collect' (show wpAny _ _ (do again (.builtin "list.__iadd__" ⟨[<-newList [],.ref S],[]⟩)) _ _ s from ?_)));refine Nc (wpAny_newList (Nh ⟨Lb _ (by decide +kernel),EO (entry_list_iadd') ?_⟩));have m:=No n;rw[EQ F.plain_list_iadd _]
 have fin:∀(r:Result) (c:Shared),(r=.ok (.ret (.ref s.heap.objs.size))/\∃h' d tk,∃vs:List Value,∃g,vs.Perm (i.toList.map (·.2))/\(∀b o,s.heap.get? b=some o->h'.get? b=some o)/\h'.get? s.heap.objs.size=some (lsO vs.toArray g)/\c={ s with heap:=h',drawn:=d,toks:=tk })->(match r with
   | .ok (.ret v)=>wpAny (model prog w) A (match v with
    |.ref a=>do
     match (<-load a).data with
     |.seq p _=>pure p.toList
     |_=>unsupported "internal:collect"
    |_=>unsupported "internal:collect") Q E c
   |.ok _=>False
   |.error e=>E e c):=by
  rintro r c ⟨rfl,h',d,tk,vs,g,str,k,hN,rfl⟩
  refine Nc (LK hN ?_);show wpAny _ _ (pure vs.toArray.toList) Q E _;rw[IQ];exact Nh (h h' d tk vs str k (ND (No hN)))
 refine NO (Qfx (A:=A) (s:={ s with heap:=s.heap.push (lsO #[] 0) }) (R:=fun r c=>r=.ok (.ret (.ref s.heap.objs.size))/\∃h' d tk,∃vs:List Value,∃g,vs.Perm (i.toList.map (·.2))/\(∀b o,s.heap.get? b=some o->h'.get? b=some o)/\h'.get? s.heap.objs.size=some (lsO vs.toArray g)/\c={ s with heap:=h',drawn:=d,toks:=tk }) x (Nl _ n) u z y up l (FD m) (.ref s.heap.objs.size) 0 (Ny _ rfl) hz fun h' d tk vs g str k hN=>⟨rfl,h',d,tk,vs,g,str,fun b o e=>k b o (NG (No e)) (Nl _ e),hN,rfl⟩) ?_ ?_
 ·intro f c q;cases f with
  |done f=>exact fin _ _ q
  |again g=>exact⟨q.1,Db q.2 fun r j hr=>fin r j hr⟩
 ·intro e c q;exact fin _ _ q
end
theorem Yz:∀(ks a:List Str),ks.Nodup->(∀k∈ks,k∈a)->a.length=ks.length->a.Perm ks
 |[],a,_,_,h=>by rw[N5.mp h]
 |k::r,a,b,c,h=>by
  have e:=c k Nv;rw[EN]at b;refine(List.perm_cons_erase e).trans (List.Perm.cons k (Yz r (a.erase k) b.2 (fun x d=>?_) ?_))
  ·exact(IE (fun z=>b.1 (by rw[<-z];exact d))).mpr (c x (Nt _ d))
  ·rw[FJ e,h];rfl
section
variable{prog:Program}{w:World}{A:Around}{E:Value->Shared->Prop}{s:Shared}
theorem QgO{h:Heap}{a:Addr}{led:Bool}{b:Array (Int×Value)}(h1:ElemsOf (strKind prog w) b.toList)(n:ks.Nodup)(m:b.size=ks.length)(l:∀k,k∈ks↔∃e∈b.toList,(strKind prog w).is k e.2=true)(p:vs.Perm (b.toList.map (·.2))):∃ss,StrsAre vs ss/\ss.Perm ks:=by
 have d:∀v∈vs,∃x c,v=.str x c:=fun v d=>by
  obtain⟨e,i,rfl⟩:=Eb.mp (p.mem_iff.mp d);obtain⟨⟨k,g,_⟩,_⟩:=h1 e i;obtain⟨c,j⟩:=D9 g;exact⟨k,c,j⟩
 refine⟨vs.map strOf,strsAre_map vs d,Yz ks _ n (fun k g=>?_) ?_⟩
 ·obtain⟨e,i,f⟩:=(l k).mp g;obtain⟨c,j⟩:=D9 f;exact Eb.mpr ⟨e.2,p.mem_iff.mpr (Eb.mpr ⟨e,i,rfl⟩),by rw[j];rfl⟩
 ·rw[Nw,p.length_eq,Nw,NR,m]
theorem Qee{t:SetTable}(b:t.fits n=true)(c:n<=1):Sb.Up t.place:=fun i j d a=>by
 rw[Qae b]at a;omega
theorem QdM(n:A.handled=none)(q:SetL prog w s.heap S ks (Kw w))(hz:ks.length<=sizeLine)
  (h:∀h' d tk vs,(∃ss,StrsAre vs ss/\ss.Perm ks)->(∀b o,s.heap.get? b=some o->h'.get? b=some o)->s.heap.objs.size<=h'.objs.size->Q vs { s with heap:=h',drawn:=d,toks:=tk }):wpAny (model prog w) A (collect (.ref S)) Q E s:=by
 obtain⟨o,x,B,t,u,m,r,i,v,j,e,f,g,l,c⟩:=q;refine Qdj n u m r j (fun z=>?_) e (by rw[l];exact hz) fun h' d tk vs p=>h h' d tk vs (QgO (h:=s.heap) (a:=S) (led:=true) i g l c p)
 rcases z with z|z
 ·rcases f with y|y
  ·exact Qee j (ND (NL (NH y) (by decide)))
  ·rw[z]at y;cases y
 ·exact Qee j z
theorem sortedS'(u:A.handled=none)(x:SetL prog w s.heap S ks (Kw w))(hz:ks.length<64)
  (h:∀(D:Addr) h' d tk (vs:List Value) (ss:List Str) c,StrsAre vs ss->ss.Perm ks->sortedS ss=true->(∀b o,s.heap.get? b=some o->h'.get? b=some o)->s.heap.objs.size<=D->h'.get? D=some (lsO vs.toArray c)->Q (.ref D) { s with heap:=h',drawn:=d,toks:=tk }) :
  wpAny (model prog w) A (call (.builtin "sorted") [.ref S]) Q E s:=by
 refine Calls.call_function_entry kind_sorted plain_sorted entry_sorted (args_sorted1 _) ?_;unfold Builtin.«sorted»;refine Nc (m:=checkCount "sorted" 1 1 _) (Nh (Nc (QdM (by simp[u]) x (by rw[EL];exact ND (N4 hz (by decide))) fun l d tk vs str q j=>?_)));obtain⟨ss,st,pm⟩:=str;have g:vs.length<64:=by rw[Io st,pm.length_eq];exact hz
 refine Nc (wpAny_newList ?_ (by rw[EL];exact ND (N4 g (by decide))));have a:(l.push (seqObj "list" vs.toArray 0)).get? l.objs.size=some (seqObj "list" vs.toArray 0):=Ny _ rfl;refine Nc (NP (EU slot_list_sort ⟨_,a,rfl⟩ entry_list_sort (list_sort_treeK (κ:=PyProof.Rows.strKind) strKind_oneLt a st.keysOf (fun p n rest e=>keyKind_strs (by rw[<-e];exact st)) g fun f F C=>⟨_,rfl,?_⟩) (args_list_sort _)));obtain⟨i,B,z,y⟩:=sorted_out_str st F C;obtain⟨c,v⟩:=sortedHeap_at (out:=(arrOf f).map (·.2)) a;refine Nh ⟨_,rfl,h l.objs.size _ d tk ((arrOf f).map (·.2)).toList i c B (z.trans pm) y (fun b o e=>?_) j ?_⟩
 ·have r:=Nl (seqObj "list" vs.toArray 0) (q b o e);rw[sortedHeap_old (NG (No (q b o e))) (No r)];exact r
 ·rw[Array.toArray_toList];exact v
end
theorem le_of_lt{a b:Str}:ltCps b.cps.toList a.cps.toList=false↔a.cps.toList<=b.cps.toList:=by
 rw[ltCps_eq,decide_eq_false_iff_not];exact Iff.rfl
theorem XS:∀(x:Str) (r:List Str),risingS x r=true->∀z∈r,x.cps.toList<=z.cps.toList
 |x,[],_,z,hz=>by cases hz
 |x,y::r,h,z,hz=>by
  have h':(!ltCps y.cps.toList x.cps.toList&&risingS y r)=true:=h;rw[NB,Lr]at h';have a:=le_of_lt.mp h'.1
  rcases Nx.mp hz with rfl|hz
  ·exact a
  ·exact L5 a (XS y r h'.2 z hz)
theorem K1(h:sortedS (x::r)=true):sortedS r=true:=by
 cases r with
 |nil=>rfl
 |cons y r=>
  have a:(!ltCps y.cps.toList x.cps.toList&&risingS y r)=true:=h;rw[NB]at a;exact a.2
theorem str_eq{a b:Str}(h:a.cps.toList=b.cps.toList):a=b:=by
 obtain⟨a⟩:=a;obtain⟨b⟩:=b;congr 1;exact Array.toList_inj.mp h
theorem YI:∀(a b:List Str),a.Perm b->sortedS a=true->sortedS b=true->a=b
 |[],b,p,_,_=>(L6.mp p).symm
 |x::r,[],p,_,_=>by cases L7.mp p
 | x::r,y::t,p,d,c=>by
  have e:x=y:=by
   have g:y∈x::r:=p.mem_iff.mpr Nv;have f:x∈y::t:=p.mem_iff.mp Nv
   rcases Nx.mp g with z|z
   ·exact z.symm
   ·rcases Nx.mp f with q|q
    ·exact q
    ·exact str_eq (List.le_antisymm (XS x r d y z) (XS y t c x q))
  subst e;rw[YI r t (Lc p) (K1 d) (K1 c)]
open Classical in
noncomputable def srt(ks:List Str):List Str:=if h:∃a:List Str,a.Perm ks/\sortedS a=true then h.choose else[]
theorem srt_eq(p:ss.Perm ks)(h:sortedS ss=true):srt ks=ss:=by
 have a:∃ss:List Str,ss.Perm ks/\sortedS ss=true:=⟨ss,p,h⟩
 unfold srt;rw[dif_pos a];exact YI _ _ (a.choose_spec.1.trans p.symm) a.choose_spec.2 h
end St
namespace Mi
open L2
noncomputable def txW:List W->Option (List Str)
 |[]=>some []
 |.str x::r=>(txW r).map (x::·)
 |_=>none
@[simp]theorem Qf5(l:List Str):txW (l.map .str)=some l:=by
 induction l with
 |nil=>rfl
 |cons x l a=>rw[Nr,txW,a];rfl
theorem Qex:∀{ws:List W} {ss:List Str},txW ws=some ss->ws=ss.map .str
 |[],ss,e=>by cases e;rfl
 |.str x::r,ss,e=>by
  obtain⟨t,b,a⟩:=Nf.mp e;subst a;rw[Qex b];rfl
theorem QeF{K:Nd}:∀{ss:List Str} {xs:List V} {us:List Value},Rws K R (ss.map .str) xs->Vals xs us->StrsAre us ss
 |[],xs,us,r,v=>by
  rw[Em,Rws.nil_iff]at r;subst r;cases v;exact .nil
 | x::ss,xs,us,r,v=>by
  rw[Nr]at r;unfold Rws at r;obtain⟨y,ys,rfl,a,b⟩:=r;unfold Rw at a;subst a;cases v with
  |cons h t=>
   obtain⟨c,rfl⟩:=h;exact .cons x c (QeF b t)
theorem UZ{K:Nd}:∀{ss:List Str} {us:List Value},StrsAre us ss->Vals (ss.map V.str) us/\Rws K R (ss.map W.str) (ss.map V.str)
 |[],_,.nil=>⟨.nil,by unfold Rws;rfl⟩
 |_::_,_,.cons x c h=>by
  obtain⟨a,b⟩:=UZ (K:=K) (R:=R) h;refine⟨.cons ⟨c,rfl⟩ a,?_⟩;rw[Nr,Nr];unfold Rws;exact⟨_,_,rfl,by unfold Rw;rfl,b⟩
noncomputable def QmU(ws:List W)(h:MH):Option (W×MH):=match ws with
 |[a]=>(lsW h a).bind fun c=>(txW c).bind fun b=>if b.length<64 then some (.lst ((St.srt b).map .str),h)else none
 |_=>none
noncomputable def VD(ws:List W)(h:MH):Option (W×MH):=match ws with
 |[a]=>(lsW h a).bind fun c=>(txW c).bind fun b=>if b.length<4000/\(St.uniq b).length<64 then some (.ref h.length,h++[.lst ((St.srt (St.uniq b)).map .str)])else none
 |_=>none
section
variable{X:Cx}
theorem Inv.drew(I:Inv X a σ H s)(d:Drawn):Inv X a σ H { s with drawn:=d }:=⟨I.ok,I.os,I.bare,I.base,I.loc,I.cell,I.free,I.freeC,I.pin,I.hok,I.len⟩
theorem Ue{p1 M l g:Pos}(S:X.calm=true)(hg:Gl X "sorted")(hm:X.mg "sorted"=none)(E:Gl X "set")(A:X.mg "set"=none)(he:PM X e me)(P:JM e=false:=by rfl) :
  PM X (.Call (.Name "sorted" p1) [.Call (.Name "set" M) [e] [] g] [] l) (mFn VD (Qa me Qd)):=by
 intro m s σ H Q I ⟨R,p,h,w,h',rh,st,e1,N⟩;obtain⟨⟨as,h2⟩,e2,e3⟩:=Na.mp e1;obtain⟨⟨a,U⟩,e4,e5⟩:=Na.mp e2;obtain⟨⟨bs,h3⟩,e6,e7⟩:=Na.mp e5;cases e6;cases e7;refine Ew (XG I hg hm boot_sorted (D0 ?_ (QQ rfl) (Jm rfl)) (by decide) (by decide));rw[QQ (e:=.Call (.Name "set" M) [e] [] g) rfl];refine Ds (Ew (XG I E A boot_set (Ei ?_ (QQ P) (Jm rfl)) (by decide) (by decide)));rw[QQ P];refine Ds (thn (he m s σ H (fun v H2=>∃R2,Ext R R2/\Rh X.K R2 U H2/\Rw X.K R2 a v) I ⟨R,p,h,a,U,rh,st,e4,fun R2 H2 v x f z=>⟨R2,x,f,z⟩⟩) fun u J ⟨v,H1,I1,ru,R2,x2,f,z⟩=>DI ?_);obtain⟨ys,e8,e9⟩:=Na.mp e3;obtain⟨ss,F,j⟩:=Na.mp e9;split at j
 ·rename_i O;cases j;obtain⟨ad,xs,rfl,q1,L⟩:=f.lsAt z e8;cases ru;rw[Qex F]at L;obtain⟨aa,rv,pl,hl⟩:=I1.list q1;have T:=QeF L rv;have B:=Io T;refine St.set_list (I1.ok.hd S) pl.isList (by rw[IQ];exact T) (by rw[Nk,B];show ss.length+1<4096;lia) fun g1 r i k1=>DI ?_;refine St.sortedS' (s:={ J with heap:=g1,toks:=r }) (I1.ok.hd S) i O.2 fun D g2 d q vs G c Z Y b3 k2 C hD=>?_;obtain⟨v1,v2⟩:=UZ (K:=X.K) (R:=R2) Z;have n:J.heap.objs.size<=D:=Nu (ND i.lt) C;have hp:=I1.hok.fresh n;have eq:=St.srt_eq Y b3;obtain⟨R3,x3,y,t⟩:=f.new (mo:=.lst (G.map .str)) (o:=.lst (G.map V.str)) hp fun R' x'=>⟨_,rfl,(UZ (K:=X.K) (R:=R') Z).2⟩
  rw[eq]at N;refine⟨.ref D,_,Inv.drew (I1.laid (t':=q) (fun b o e=>k2 b o (k1 b o (No e) e)) n (show ObjOk X.prog X.w _ _ _ (.lst _)from⟨?_,vs,c,v1,hD⟩)) d,rfl,N R3 _ _ (x2.trans x3) y t⟩;rw[Nw,Y.length_eq,EL];exact ND (N4 O.2 (by decide))
 ·cases j
end
end Mi
namespace Dc
section
variable{prog:Program}{w:World}{A:Around}{E:Value->Shared->Prop}{s:Shared}
theorem Qf9:typeLookup (.type "list") (Str.ofString "keys")=pure none:=by rw[FY,DT];kernel_rfl
set_option maxHeartbeats 4000000 in
theorem QbR(i:s.heap.get? a=some { cls:=.type "list",dict:=none,data:=.seq xs k,slots:=l })(m:A.handled=none)
  (h:∀h' tk,(∀b o,s.heap.get? b=some o->h'.get? b=some o)->Q none { s with heap:=h',toks:=tk }):wpAny (model prog w) A (getAttr? (.ref a) (Str.ofString "keys")) Q E s:=by
 obtain⟨hp,g,d,tk,os⟩:=s;have j:∀c,(⟨hp,g,d,c,os⟩:Shared).TypeIs (.ref a) "list":=fun _=>⟨_,i,rfl⟩
 have f1:=sub_AttributeError;have u:=Dy.lookup;have t:=Dy.bind (.ref a);have r:=am_list_getattr_none;unfold getAttr? getAttrBy? getAttrBy
 repeat (any_goals (first|assumption|exact j _|((with_reducible show wpAny _ _ (call (Value.builtin "list.__getattribute__") _ _) _ _ _);refine Dl Dy (j _) am_entry_list_getattribute (F.args_list_getattribute_2 _ _) (meets_getattribute_miss_list a xs k l (Str.ofString "keys") _ Qf9 (by decide +kernel)) ⟨i,m,fun h' c e f=>?_⟩)|wp_step))
 obtain⟨p,n,q⟩:=f.there;show wpAny _ _ (getattributeRaised _ _ _ _ _ _ _) _ _ _;unfold getattributeRaised
 repeat (any_goals (first|assumption|wp_step))
 exact h _ _ f.keeps
end
theorem QhV:entryFor table "dict.update.loop"=some Builtin.«dict.update.loop»:=entryFor_of_tree (by kernel_rfl)
theorem Qd2:plainId "dict.update.loop"=true:=by decide +kernel
section
variable{prog:Program}{w:World}{K:Type}[DecidableEq K]{knd:KeyKind prog w K}{A:Around}{E:Value->Shared->Prop}{s:Shared}
def PairAt(knd:KeyKind prog w K)(h:Heap)(v:Value)(p:K×Value):Prop:=∃a o n key,v=.ref a/\h.get? a=some o/\o.cls=.type "tuple"/\o.data=.seq #[key,p.2] n/\knd.is p.1 key=true
theorem PairAt.keep(x:PairAt knd h v p)(k:∀a o,v=.ref a->h.get? a=some o->h'.get? a=some o):PairAt knd h' v p:=by
 obtain⟨a,o,n,key,rfl,e,d,c,b⟩:=x;exact⟨a,o,n,key,rfl,k a o rfl e,d,c,b⟩
noncomputable def mrg(kvs ps:List (K×Value)):List (K×Value):=ps.foldl (fun a p=>stored a p.1 p.2) kvs
theorem Qgc(kvs:List (K×Value))(k:K)(v:Value):(stored kvs k v).length<=kvs.length+1:=by
 unfold stored;split
 ·rw[Nw];exact NW _ _
 ·rw[NC,Nz,E5];lia
theorem Qj1{ps:List (K×Value)}(hh:A.in1.handled=none)(C:l≠I)(f:D≠I)(J:D≠l)(h:ps.length=items.size):∀(k i:Nat) (s:Shared) (kvs:List (K×Value)),items.size-i=k->i<=items.size->s.heap.IsListIter I l i->s.heap.IsList l items ->
  (∀(j:Nat) (v:Value) (p:K×Value),items[j]?=some v->ps[j]?=some p->PairAt knd s.heap v p/\v≠.ref D/\v≠.ref I)->s.heap.DictOf knd D kvs->kvs.length+k<=sizeLine ->
  (∀h' tk,h'.DictOf knd D (mrg kvs (ps.drop i))->(∀b o,b≠D->b≠I->s.heap.get? b=some o->h'.get? b=some o)->R (.ok (.ret .none)) { s with heap:=h',toks:=tk }) ->
  ∀t,codeAny (model prog w) A (.builtin "dict.update.loop" ⟨[.ref D,.ref I,.int i t,.none],[]⟩) R s:=by
 intro k;have W:=Walks.list (prog:=prog) (w:=w) (A:=A.in1) hh I l C items
 induction k with
 |zero=>
  intro i s kvs hk hi st1 st2 hp O Q H t;have F:i=items.size:=by lia
  subst F;refine EO QhV ?_;rw[EQ Qd2 _];refine(show wpAny _ A.in1 (pyNext (.ref I)>>=_) _ _ s from Nc (W.done s _ _ ⟨st1,st2⟩ fun h' tk c=>?_));refine(show wpAny _ A.in1 (Builtin.Dict.addKeywords D []>>=_) _ _ _ from Nc (Nh (Nh (H h' tk ?_ fun b o _ hb e=>c b o (by simpa using hb) e))));rw[List.drop_of_length_le (NH h)];exact O.at fun o e=>c D o (by simpa using f) e
 | succ k ih=>
  intro i s kvs hk hi st1 st2 hp O Q H t;have d:i<items.size:=by lia
  refine EO QhV ?_;rw[EQ Qd2 _];refine(show wpAny _ A.in1 (pyNext (.ref I)>>=_) _ _ s from Nc (W.item i s _ _ d ⟨st1,st2⟩ fun v h' tk hv g c=>?_));have m:i<ps.length:=by exact Nm d (NH h.symm)
  obtain⟨X,Z,Y⟩:=hp i v ps[i] hv (Ni m);obtain⟨a,o,n,key,rfl,h1,S,P,h4⟩:=X;have G:a≠I:=fun z=>Y (by rw[z]);have ab:a≠D:=fun z=>Z (by rw[z]);have u:=c a o (by simpa using G) h1;refine(show wpAny _ A.in1 (holding [Value.ref a] _>>=_) _ _ _ from Nc (NP ?_));refine Nc (wpAny_tryCatch (show wpAny _ _ (Builtin.Dict.pairItems (.ref a)) _ _ _ from ?_));unfold Builtin.Dict.pairItems;refine Nc (Dd (T:="tuple") ⟨o,u,S⟩ ?_);rw[if_pos (by decide)];refine Nc (show wpAny _ _ (seqItems? (.ref a)) _ _ _ from ?_);unfold seqItems?;refine Nc (LK u ?_);rw[P];refine Nh (Nh ?_);refine(show wpAny _ A.in1 (holding [key,(ps[i]).2] (dictSet D key (ps[i]).2)) _ _ _ from NP ?_);have N:h'.DictOf knd D kvs:=O.at fun o e=>c D o (by simpa using f) e;refine wpAny_dictSet_pairs (s:={ s with heap:=h',toks:=tk }) (hsz:=by exact Nu (NW _ _) Q) h4 N fun S M x=>?_;refine Nh ⟨Dn Qd2 _,ih (i+1) _ (stored kvs (ps[i]).1 (ps[i]).2) (by lia) d (g.1.at fun o e=>by rw[x.2 I (EF f)];exact e) (g.2.at fun o e=>by rw[x.2 l (EF J)];exact e) (fun j v p e1 e2=>?_) M (by have:=Qgc kvs (ps[i]).1 (ps[i]).2;lia) (fun P y L B=>?_) _⟩
  ·obtain⟨q1,q2,q3⟩:=hp j v p e1 e2;refine⟨q1.keep fun b o U e=>?_,q2,q3⟩;rw[x.2 b fun z=>q2 (by rw[U,z])];exact c b o (by simpa using fun z=>q3 (by rw[U,z])) e
  ·refine H P y ?_ fun b o r q e=>B b o r q ?_
   ·rw[EJ m];exact L
   ·rw[x.2 b r];exact c b o (by simpa using q) e
theorem call_pairs{Q:Value->Shared->Prop}(I:A.handled=none)(D:s.heap.get? l=some { cls:=.type "list",dict:=none,data:=.seq items m,slots:=R })(C:ps.length=items.size)(hz:items.size<=sizeLine)
  (hp:∀(j:Nat) (v:Value) (p:K×Value),items[j]?=some v->ps[j]?=some p->PairAt knd s.heap v p)
  (h:∀h' tk,h'.DictOf knd s.heap.objs.size (mrg [] ps)->(∀b o,s.heap.get? b=some o->h'.get? b=some o)->Q (.ref s.heap.objs.size) { s with heap:=h',toks:=tk }) :
  wpAny (model prog w) A (call (.type "dict") [.ref l]) Q E s:=by
 refine callType_codes (Q₁:=fun obj d=>obj=.ref s.heap.objs.size/\d={ s with heap:=s.heap.push { cls:=.type "dict",data:=.dict #[] } }) F.kt_called_dict (F.kt_typeCall_dict_1 _) F.entry_dict_init (kt_code_dict_new _ ⟨rfl,rfl⟩) fun obj d r=>?_;obtain⟨rfl,rfl⟩:=r;have c:(s.heap.push { cls:=.type "dict",data:=.dict #[] }).DictOf knd s.heap.objs.size []:=LP s.heap;have g:l<s.heap.objs.size:=No D;have f:=Nl { cls:=.type "dict",data:=.dict #[] } D;refine⟨c.typeIs,F.args_dict_init_2 _ _,?_⟩;unfold Builtin.«dict.__init__» Builtin.Dict.selfAndRest;refine Nc (Nc (wpAny_notOrdered_dict c.typeIs (show wpAny _ _ (pure (s.heap.objs.size,[Value.ref l])) _ _ _ from Nh ?_)));show wpAny _ _ (Builtin.Dict.updateFrom "dict.__init__" s.heap.objs.size (.ref l) [] .none) _ _ _;unfold Builtin.Dict.updateFrom;refine Nc (Dd (T:="list") ⟨_,f,rfl⟩ ?_);rw[if_pos (by decide)];refine Nc (QbR f (by simp[I]) fun i x t=>?_);rw[if_pos (by rfl)];refine Nc (DB (Nc (DJ (s:={ s with heap:=i,toks:=x }) ⟨_,t _ _ f,rfl,_,rfl⟩ ?_)));have B:∀b o,s.heap.get? b=some o->(i.push { cls:=.type "list_iterator",data:=.fields #[.ref l,.int 0 0] }).get? b=some o:=fun b o e=>Nl _ (t _ _ (Nl _ e));have H:(i.push { cls:=.type "list_iterator",data:=.fields #[.ref l,.int 0 0] }).DictOf knd s.heap.objs.size []:=c.keep fun b o e=>Nl _ (t _ _ e)
 have lD:s.heap.objs.size<i.objs.size:=by
  obtain⟨o,_,_,e,_⟩:=c;exact No (t _ _ e)
 refine Nh ⟨Dn Qd2 _,Qj1 (knd:=knd) (l:=l) (items:=items) (ps:=ps) (by simp[I]) (NG (N4 g lD)) (NG lD) (FD g) C (items.size-0) 0 _ [] rfl (NT _) ⟨_,Ny _ rfl,rfl,rfl⟩ ⟨_,B _ _ D,rfl,_,rfl⟩ (fun j v p O N=>?_) H (by simpa using hz) (fun L u G y=>?_) _⟩
 ·have q:=hp j v p O N
  have lt:∀b,v=.ref b->b<s.heap.objs.size:=fun b M=>by
   obtain⟨a,o,n,key,e,P,_⟩:=q;rw[M]at e;cases e;exact No P
  refine⟨q.keep fun b o _ e=>B b o e,fun z=>absurd (lt _ z) (Ed _),fun z=>?_⟩;have:=lt _ z;change i.objs.size<s.heap.objs.size at this;exact Nat.not_lt_of_le (ND this) lD
 ·refine⟨rfl,h L u (by simpa using G) fun b o e=>y b o ?_ ?_ (B b o e)⟩
  ·exact NG (No e)
  ·exact NG (N4 (No e) lD)
end
end Dc
namespace Mi
open L2
noncomputable def prW:List W->Option (List (Key×W))
 |[]=>some []
 |.tup [k,v]::r=>(Qcn k).bind fun y=>(prW r).map ((y,v)::·)
 |_=>none
noncomputable def Qa7(kvs ps:List (Key×W)):List (Key×W):=ps.foldl (fun a p=>Vp a p.1 p.2) kvs
noncomputable def WX(ws:List W)(h:MH):Option (W×MH):=match ws with
 |[a]=>(lsW h a).bind fun b=>(prW b).bind fun ps=>if ps.length<=100000 then some (.ref h.length,h++[.dic (Qa7 [] ps)])else none
 |_=>none
section
variable{X:Cx}
theorem QbT{K:Nd}{H:Hp}(f:Rh K R h H)(ok:∀a xs,SqT K H a xs->∃o n b,g.get? a=some o/\o.cls=.type "tuple"/\o.data=.seq b.toArray n/\Vals xs b):∀{ys:List W} {ps:List (Key×W)} {xs:List V} {us:List Value},prW ys=some ps->Rws K R ys xs->Vals xs us ->
  ∃(c:List (Key×V)) (vs:List (Key×Value)),DicR K R ps c/\KV c vs/\vs.length=us.length/\∀(j:Nat) (u:Value) (p:Key×Value),us[j]?=some u->vs[j]?=some p->Dc.PairAt (Zy P w) g u p
 |[],ps,xs,us,e,r,v=>by
  cases e;rw[Rws.nil_iff]at r;subst r;cases v;exact⟨[],[],.nil,.nil,rfl,fun j u p hu=>by simp at hu⟩
 | .tup [k,x]::ys,ps,xs,us,e,r,v=>by
  obtain⟨y,N,M⟩:=Na.mp e;obtain⟨Y,L,J⟩:=Nf.mp M;subst J;rw[Rws.cons_iff]at r;obtain⟨z,T,rfl,i,F⟩:=r;cases v with
  |@cons _ u _ us hu A=>
  obtain⟨c,vs,S,Q,d3,O⟩:=QbT f ok L F A;unfold Rw at i;obtain⟨a,s,rfl,q1,q2⟩:=i;obtain⟨o,n,b,g1,g2,g3,I⟩:=ok a s (JD f.sub q1);obtain⟨U,q,rfl,E,D⟩:=QiE q2;obtain⟨t,d,rfl,C,B⟩:=Qc6 I;have G:=Ve E N;subst G;obtain rfl:u=Value.ref a:=hu;refine⟨(y,q)::c,(y,d)::vs,.cons ⟨rfl,D⟩ S,.cons ⟨rfl,B⟩ Q,by simp[d3],fun j u p m l=>?_⟩;cases j with
  |zero=>
   have f1:Value.ref a=u:=by simpa using m
   have f2:(y,d)=p:=by simpa using l
   subst f1;subst f2;exact⟨a,o,n,t,rfl,g1,g2,g3,WY C⟩
  |succ j=>exact O j u p (by simpa using m) (by simpa using l)
theorem QgF{K:Nd}:∀{ps a:List (Key×W)} {e c:List (Key×V)},DicR K R ps e->DicR K R a c->DicR K R (Qa7 a ps) (e.foldl (fun b p=>Yt b p.1 p.2) c):=by
 intro ps a e c t d
 induction t generalizing a c with
 |nil=>exact d
 |@cons p q _ _ h t f=>
  show DicR K R (Qa7 (Vp _ p.1 p.2) _) (List.foldl _ (Yt _ q.1 q.2) _);have:=Ww (k:=p.1) d h.2;rw[h.1]at this;rw[h.1];exact f this
theorem QeL:∀{c e:List (Key×V)} {vs f:List (Key×Value)},KV c vs->KV e f->KV (c.foldl (fun b p=>Yt b p.1 p.2) e) (Dc.mrg f vs)
 |_,_,_,_,.nil,d=>d
 |_,_,_,_,.cons (a:=p) (b:=q) h t,d=>by
  show KV (List.foldl _ (Yt _ p.1 p.2) _) (Dc.mrg (stored _ q.1 q.2) _);have:=KV.put d p.1 h.2;rw[h.1]at this;rw[h.1];exact QeL t this
theorem Qeu:∀(ps a:List (Key×V)),(ps.foldl (fun b p=>Yt b p.1 p.2) a).length<=a.length+ps.length
 |[],a=>by simp
 |p::ps,a=>by
  have h1:=Qeu ps (Yt a p.1 p.2);have c:=Vi a p.1 p.2;rw[LS,Nz];lia
theorem UH(hc:X.calm=true):CallR X (.type "dict") (Fs X.K WX):=by
 intro A s σ H G us Q I r q;obtain⟨R,h,ws,w,h',t,f,e,k⟩:=q;unfold WX at e;split at e
 ·rename_i a;obtain⟨ys,e1,e2⟩:=Na.mp e;obtain⟨ps,e3,y⟩:=Na.mp e2;split at y
  ·rename_i hz;cases y;obtain⟨v,rfl,U⟩:=Yu f;obtain⟨ad,G,rfl,q1,T⟩:=t.lsAt U e1;obtain⟨u,rfl,S⟩:=KG r;obtain rfl:u=Value.ref ad:=S;obtain⟨c,O,x,hl⟩:=I.list q1
   obtain⟨D,M,F,E,d3,d4⟩:=QbT (P:=X.prog) (w:=X.w) (g:=s.heap) t (fun b zs q=>by
    obtain⟨c,g1,⟨o,g2,g3,n,g4⟩,g5⟩:=I.tuple q
    exact⟨o,n,c,g2,g3,g4,g1⟩) e3 T O
   ·have l1:=N6 F;have l2:=E.length;obtain⟨⟨oc,Z,aa,Y⟩,m,x,C,B,d⟩:=x;dsimp only at C B d;subst C B d;refine Dc.call_pairs (knd:=Zy X.prog X.w) (ps:=M) (items:=c.toArray) (I.ok.hd hc) x (by simpa using d3) (by rw[Nk,EL];lia) (fun j u p h1 h2=>d4 j u p (by simpa using h1) h2) fun g N dd kp=>?_;have hp:=I.hok.fresh (Nn s.heap.objs.size);obtain⟨R3,J,l,i⟩:=t.new (mo:=.dic (Qa7 [] ps)) (o:=.dK (D.foldl (fun b p=>Yt b p.1 p.2) [])) hp fun R' L=>⟨_,rfl,Paired.mapP (QgF F .nil) fun a b z=>⟨z.1,Rw.mono L _ _ z.2⟩⟩
    refine⟨.ref s.heap.objs.size,_,I.laid (t':=N) kp (Nn _) (show ObjOk X.prog X.w _ _ _ (.dK _)from⟨?_,?_,_,QeL E .nil,dd⟩),rfl,k R3 _ _ J l i⟩
    ·have:=Qeu D [];rw[EL];simp at this;lia
    ·exact beq_eq_false_iff_ne.mpr fun z=>absurd I.big (by rw[<-z];exact Ed _)
  ·cases y
 ·cases e
end
theorem Qd3{K:Nd}(X:K.In h)(G:h.Ns mainGlobals b)(a:Dw K mainGlobals x=some (some (.str y t))):Glob K b x (.str y):=
 ⟨.str y,_,Dm X G a,⟨t,rfl⟩,fun _=>Rw.str y⟩
theorem Ws:∀(l:List (b×a)),(l.map (·.1)).zip (l.map (·.2))=l
 |[]=>rfl
 |p::l=>by rw[Nr,Nr,List.zip_cons_cons,Ws l]
theorem QaW(f:Nat->Option W):∀(o:MO),QbP o=true->thO f o=some o
 |.lst ws,p=>by show(ths f ws).map MO.lst=_;rw[ZS f ws p];rfl
 |.dic kvs,p=>by show(ths f (kvs.map (·.2))).map (fun vs=>MO.dic ((kvs.map (·.1)).zip vs))=_;rw[ZS f _ p,LY,Ws]
 |.dct kvs,p=>by show(ths f (kvs.map (·.2))).map (fun vs=>MO.dct ((kvs.map (·.1)).zip vs))=_;rw[ZS f _ p,LY,Ws]
 |.ins _ _,p=>by cases p
theorem X8:∀(ns:List Nat) (os:List MO) (h:MH),Zt (QaH h) ns=some os->QN ns os h=h
 |[],os,h,_=>by unfold QN;rfl
 | n::ns,os,h,e=>by
  unfold Zt at e;obtain⟨o,a,j⟩:=Na.mp e;obtain⟨r,i,g⟩:=Nf.mp j;subst g
  have f:h[n]?=some o:=by
   unfold QaH at a;split at a
   ·rename_i q b;split at a
    ·cases a;exact b
    ·cases a
   ·cases a
  have d:h.set n o=h:=by
   obtain⟨c,b⟩:=Ng.mp f;rw[<-b];exact Iq c
  rw[QN,d];exact X8 ns r h i
theorem Gp:∀(ns:List Nat) (os:List MO) (h:MH),Zt (QaH h) ns=some os->ns.length=os.length/\∀o∈os,QbP o=true
 |[],os,h,e=>by cases e;exact⟨rfl,fun _ b=>nomatch b⟩
 | n::ns,os,h,e=>by
  unfold Zt at e;obtain⟨o,a,i⟩:=Na.mp e;obtain⟨r,g,f⟩:=Nf.mp i;subst f;obtain⟨d,c⟩:=Gp ns r h g;refine⟨by simp[d],fun x b=>?_⟩
  rcases Nx.mp b with rfl|b
  ·unfold QaH at a;split at a
   ·split at a
    ·rename_i hp;cases a;exact hp
    ·cases a
   ·cases a
  ·exact c x b
theorem Gv{os:List MO}(hr:XW 0 args=some (as,ns))(hd:ns.Nodup)(c:Zt (QaH h) ns=some os)(e:m as os=some (w,os++g))(hw:pur w=true):box frN m args h=some (w,h):=by
 obtain⟨r,hp⟩:=Gp ns os h c;unfold box;rw[hr,Nj];unfold QfZ;rw[if_pos hd,c];simp only[Nj,e];rw[if_pos (show(frN w).Nodup/\∀j∈frN w,ns.length<=j from⟨En,fun j s=>by simp[frN]at s⟩),YO _ w hw,Nj]
 have key:∀(f:Nat->Option W) (k:Nat) (a:List MO),(∀i o,a[i]?=some o->(os++g)[k+i]?=some o)->(∀o∈a,QbP o=true)->Zt (fun j=>((os++g)[j]?).bind (thO f)) (List.range' k a.length)=some a:=by
  intro f k a
  induction a generalizing k with
  |nil=>intro _ _;rfl
  |cons x a p=>
   intro l d;rw[Nz,FH];unfold Zt;have n:=l 0 x rfl;rw[FI]at n;rw[n,Nj,p (k+1) (fun i o b=>by have:=l (i+1) o (by simpa using b);rw[show k+1+i=k+(i+1) by exact Dx _ _ _];exact this) fun o q=>d o (Nt _ q),QaW _ x (d x Nv)];rfl
 rw[r,D4,key _ 0 os (fun i o b=>by rw[NZ,Np (Ng.mp b).1];exact b) hp,Nj];have:frN w=[]:=rfl;rw[this];simp[Zt,X8 ns os h c]
noncomputable def frD:W->List Nat
 |.tup (.ref j::_)=>[j]
 |_=>[]
@[simp]theorem Qln:Qak h (.ref n)=match h[n]? with|some (.dic kvs)=>some kvs|_=>none:=id rfl
@[simp]theorem Qnu:UC a (.str x) h=@ob _ _ (fun kvs=>@om _ _ (fun v=>(v,h)) (Jk kvs (.inr x))) (Qak h a):=id rfl
noncomputable def QbN(o:W)(k:Key)(v:W)(σ:MSt)(h:MH):Option MF:=match o with
 |.ref n=>match h[n]? with
  |some (.dic a)=>if a.length<sizeLine then some (.nx σ (h.set n (.dic (Vp a k v))))else none
  |_=>none
 |_=>none
@[simp]theorem QlA:KK mo mi a σ h=@ob _ _ (fun v=>@ob _ _ (fun o=>@ob _ _ (fun i=>@ob _ _ (fun k=>QbN o.1 k v.1 σ i.2) (Qcn i.1)) (mi σ o.2)) (mo σ v.2)) (a σ h):=by
 unfold KK ob QbN;rfl
@[simp]theorem Qmj:Qcn (.str x)=some (.inr x):=id rfl
@[simp]theorem Qlv:Qcn (.int i)=some (.inl i):=id rfl
@[simp]theorem Qjg:QbN (.ref n) k v σ h=match h[n]? with
  |some (.dic kvs)=>if kvs.length<sizeLine then some (.nx σ (h.set n (.dic (Vp kvs k v))))else none
  |_=>none:=id rfl
@[simp]theorem QlS:Qbl σ h=some (.ref h.length,h++[.dic []]):=id rfl
theorem QfY{os os':List MO}(hr:XW 0 args=some (as,ns))(hd:ns.Nodup)(q:Zt (QaH h) ns=some os)(e:m as os=some (w,os'++g))(r:os'.length=ns.length)(hp:∀o∈os',QbP o=true)(hw:pur w=true):box frN m args h=some (w,QN ns os' h):=by
 unfold box;rw[hr,Nj];unfold QfZ;rw[if_pos hd,q];simp only[Nj,e];rw[if_pos (show(frN w).Nodup/\∀j∈frN w,ns.length<=j from⟨En,fun j s=>by simp[frN]at s⟩),YO _ w hw,Nj]
 have key:∀(f:Nat->Option W) (k:Nat) (a:List MO),(∀i o,a[i]?=some o->(os'++g)[k+i]?=some o)->(∀o∈a,QbP o=true)->Zt (fun j=>((os'++g)[j]?).bind (thO f)) (List.range' k a.length)=some a:=by
  intro f k a
  induction a generalizing k with
  |nil=>intro _ _;rfl
  |cons x a n=>
   intro d c;rw[Nz,FH];unfold Zt;have l:=d 0 x rfl;rw[FI]at l;rw[l,Nj,n (k+1) (fun i o b=>by have:=d (i+1) o (by simpa using b);rw[show k+1+i=k+(i+1) by exact Dx _ _ _];exact this) fun o p=>c o (Nt _ p),QaW _ x (c x Nv)];rfl
 rw[<-r,D4,key _ 0 os' (fun i o b=>by rw[NZ,Np (Ng.mp b).1];exact b) hp,Nj];have:frN w=[]:=rfl;rw[this];simp[Zt]
noncomputable def Wn(a:W)(ws:List W)(h:MH):Option (W×MH):=match ws with
 |[b,v]=>(Qak h a).bind fun c=>(Qcn b).map fun k=>((Jk c k).getD v,h)
 |_=>none
section
variable{X:Cx}
theorem Qdv(hu:X.A.units+64<cLine):QaT X "dict.get" Wn:=by
 intro g s U H x Y v us Q I u B q;obtain⟨R,h,a,Z,w,h',f,E,d,e,k⟩:=q;unfold Wn at e;split at e
 ·rename_i b dv;obtain⟨F,S,P⟩:=Na.mp e;obtain⟨i,O,N⟩:=Nf.mp P;cases N;obtain⟨n,rfl,J⟩:=XC S;obtain⟨y,z,rfl,D,C⟩:=QiE d;obtain⟨uy,uz,rfl,t,r⟩:=Qc6 B;obtain⟨_,L,kx,G,T⟩:=f.dicAt E J;have M:=Ve D O;subst M L;obtain rfl:v=Value.ref (R.ρ n):=u;refine QhH (N4 (Es (by decide) _) hu) I (DGet.k (k:=i) G) t r fun p s' j c=>?_
  rcases VZ (k:=i) T with z|⟨p,v',o,m,l⟩
  ·rw[z.2]at c;rw[z.1]at k;exact⟨_,H,j,c,k R H _ (Ext.refl _) f C⟩
  ·rw[m]at c;rw[o]at k;exact⟨_,H,j,c,k R H _ (Ext.refl _) f l⟩
 ·cases e
@[simp]theorem Qlf:Wn a [.str x,v] h=@ob _ _ (fun kvs=>some ((Jk kvs (.inr x)).getD v,h)) (Qak h a):=id rfl
end
end Mi
namespace L2
open PySem.SeqAt
section
variable{prog:Program}{w:World}{A:Around}{E:Value->Shared->Prop}{s:Shared}
theorem Qb3{stored:List Value}(c:∀v∈stored,∃k b,v=.ref b/\(Zn prog w).is s.heap k b)(h:Q false s):wpAny (model prog w) A (tableMayTell .none stored) Q E s:=by
 unfold tableMayTell;split
 ·exact Nh h
 ·refine Nc (m:=eqIsQuiet 8 .none) (Nh ?_);simp only[Fk,Eh,if_false];refine Nc (DQ _ (fun rest r a=>a=s/\r=(none,())/\∀v∈rest,∃d b,v=.ref b/\(Zn prog w).is s.heap d b) _ ?_ ?_ _ _ ⟨rfl,rfl,c⟩)
  ·rintro x rest r a ⟨rfl,rfl,hr⟩
   obtain⟨d,b,rfl,f⟩:=hr x Nv;refine Nc ((Zn prog w).quiet f ?_);simp only[Fk,Eh,if_false];exact Nh ⟨rfl,rfl,fun v e=>hr v (Nt _ e)⟩
  ·rintro r a ⟨rfl,rfl,_⟩
   exact Nh h
theorem Ux {a q} {xs:List (Tr×Addr×Value)} (hu:A.units<cLine) (p:s.heap.get? d=some o) (hd:o.data=.dict a q) (J:a.toList=xs.map (entryOfKey (Zn prog w))) (n:∀x∈xs,(Zn prog w).is s.heap x.1 x.2.1)
  (C:Q none s):wpAny (model prog w) A (dictFind d .none g) Q E s:=by
 have c:∀e∈a,∃x∈xs,e=entryOfKey (Zn prog w) x:=fun e z=>by
  have:e∈xs.map (entryOfKey (Zn prog w)):=J▸Iy.mpr z;obtain⟨x,m,rfl⟩:=Eb.mp this;exact⟨x,m,rfl⟩
 have u:∀v∈(placesWithHash a.size (fun i=>a[i]?.map (·.hash)) g).filterMap (fun i=>a[i]?.map (·.key)),∃D b,v=.ref b/\(Zn prog w).is s.heap D b:=by
  intro v G;obtain⟨i,_,I⟩:=Fg.mp G;obtain⟨e,B,rfl⟩:=Nf.mp I;obtain⟨x,m,rfl⟩:=c e (DU B);exact⟨x.1,x.2.1,rfl,n x m⟩
 have eq:∀{b:Addr} {k:Tr} {R:Bool->Shared->Prop},(Zn prog w).is s.heap k b->R false s->wpAny (model prog w) A (eqBool (.ref b) .none) R E s:=fun {b k R} L r=>by
  obtain⟨_,_,F,_,_,H,_⟩:=UX (show IsT s.heap 8 k (.ref b)from L);exact EqAt.tuple_none H hu prog w E R r
 unfold dictFind;refine NP (Nc (wpAny_dictEntries p hd ?_));dsimp only
 by_cases j:((Value.none::(placesWithHash a.size (fun i=>a[i]?.map (·.hash)) g).filterMap (fun i=>a[i]?.map (·.key))).all carriedByValue)=true
 ·rw[if_pos j];unfold dictWalkPlain;refine Nc (DQ _ (fun rest r l=>l=s/\r=(none,())) _ ?_ ?_ _ _ ⟨rfl,rfl⟩)
  ·rintro x rest r l ⟨rfl,rfl⟩
   cases m:a[x]? with
   |none=>exact Nh ⟨rfl,rfl⟩
   |some e=>
    obtain⟨y,t,rfl⟩:=c e (DU m);dsimp only;split
    ·refine Nc (D6 p hd (Nc (eq (n y t) (Nc (D6 p hd ?_)))));show wpAny _ _ (if(q != q)=true then _ else _) _ E _;rw[if_neg (by simp)];simp only[Eh,if_false];exact Nc (DB (Nh ⟨rfl,rfl⟩))
    ·exact Nh ⟨rfl,rfl⟩
  ·rintro r l ⟨rfl,rfl⟩
   exact Nh C
 ·rw [if_neg j]
  have go:∀stored:List Value,wpAny (model prog w) A (do
    let mut hit:Option Nat:=none
    for i in placesWithHash a.size (fun i=>a[i]?.map (·.hash)) g do
     if let some e:=a[i]? then
      if e.hash==g then
       let f <-dictEpoch d (keyPart .none)
       let same <-eqBool e.key .none
       if(<-dictEpoch d (keyPart .none)) != f then unsupported "dict.changed-during-lookup"
       if same then
        if hit.isSome then unsupported "dict.find:order-among-keys-of-one-hash"
        rule "dict.find.hit"
        if stored.length<2 then return some i
        hit:=some i
       else
        rule "dict.find.same-hash-other-key"
        if false&&!(0<=g&&g<32)then unsupported "dict.find:asked-again-or-not-hangs-on-the-table"
    return hit) Q E s:=by
   intro stored;refine Nc (DQ _ (fun rest r l=>l=s/\r=(none,none)) _ ?_ ?_ _ _ ⟨rfl,rfl⟩)
   ·rintro x rest r l ⟨rfl,rfl⟩
    cases m:a[x]? with
    |none=>exact Nh ⟨rfl,rfl⟩
    | some e=>
     obtain⟨y,t,rfl⟩:=c e (DU m);dsimp only;split
     ·refine Nc (D6 p hd (Nc (eq (n y t) (Nc (D6 p hd ?_)))));show wpAny _ _ (if(q != q)=true then _ else _) _ E _;rw[if_neg (by simp)];simp only[Eh,if_false];refine Nc (DB ?_)
      first|rw[if_neg (by simp)]|skip
      first|exact Nh ⟨rfl,rfl⟩|exact Nc (Nh (Nh ⟨rfl,rfl⟩))
     ·exact Nh ⟨rfl,rfl⟩
   ·rintro r l ⟨rfl,rfl⟩
    exact Nh C
  by_cases h:(((placesWithHash a.size (fun i=>a[i]?.map (·.hash)) g).filterMap (fun i=>a[i]?.map (·.key)))==[Value.none])=true
  ·rw[if_pos h];refine Nc (Nh ?_);rw[if_neg (by simp)];exact go _
  ·rw[if_neg h];refine Nc (Qb3 u ?_);rw[if_neg (by simp)];exact go _
end
end L2
namespace Mi
open L2
noncomputable def G8(C:Addr)(h:MH)(w:W):Option (List (Str×W)):=match w with
 |.ref n=>match h[n]? with|some (.ins a fs)=>if a=C then some fs else none|_=>none
 |_=>none
noncomputable def QfQ(f:Str)(v:W):List (Str×W)->List (Str×W)
 |[]=>[(f,v)]
 |(g,x)::r=>if g=f then(g,v)::r else(g,x)::QfQ f v r
noncomputable def Zm(C:Addr)(f:Str)(a:W)(h:MH):Option (W×MH):=(G8 C h a).bind fun fs=>(fs.lookup f).map fun w=>(w,h)
noncomputable def Xb(C:Addr)(f:Str)(o v:W)(σ:MSt)(h:MH):Option MF:=match o with
 |.ref n=>(G8 C h (.ref n)).bind fun fs=>if fs.length<1000 then some (.nx σ (h.set n (.ins C (QfQ f v fs))))else none
 |_=>none
noncomputable def Xp(C:Addr)(f:Str)(mo b:ME):SM:=fun a h=>(b a h).bind fun v=>(mo a v.2).bind fun o=>Xb C f o.1 v.1 a o.2
noncomputable def QcG(C:Addr)(f:Str)(mo b:ME):SM:=fun a h=>(mo a h).bind fun o=>(G8 C o.2 o.1).bind fun fs=>match fs.lookup f with
 |some (.int i)=>(b a o.2).bind fun v=>match v.1 with|.int j=>Xb C f o.1 (.int (i+j)) a v.2|_=>none
 |_=>none
noncomputable def K5(C:Addr)(m:Str)(n:Nat)(g:FM)(mo:ME)(ms:MA):ME:=fun b h=>(mo b h).bind fun o=>(G8 C o.2 o.1).bind fun fs=>if(fs.lookup m).isNone then
 (ms b o.2).bind fun a=>if(o.1::a.1).length=n then g (o.1::a.1) a.2 else none else none
noncomputable def Qds(C:Addr)(n:Nat)(g:FM)(ms:MA):ME:=fun b h=>(ms b h).bind fun a=>if a.1.length+1=n then
 (g (.ref a.2.length::a.1) (a.2++[.ins C []])).bind fun r=>match r.1 with|.non=>some (.ref a.2.length,r.2)|_=>none else none
section
variable{K:Nd}{R:Rn}{h:MH}{H:Hp}
noncomputable abbrev FR(K:Nd)(R:Rn):List (Str×W)->List (Str×V)->Prop:=Paired (fun p q=>p.1=q.1/\Rw K R p.2 q.2)
theorem FR.get(r:FR K R fs b)(e:fs.lookup f=some w):∃v,b.lookup f=some v/\Rw K R w v:=by
 induction r with
 |nil=>cases e
 |@cons p q fs b z t d=>
  obtain⟨g,x⟩:=p;obtain⟨i,y⟩:=q;obtain⟨rfl,c⟩:=z;unfold List.lookup at e ⊢;dsimp only at e ⊢;cases a:f==g with
  |true=>rw[a]at e;cases e;exact⟨y,rfl,c⟩
  |false=>rw[a]at e;exact d e
theorem FR.none(r:FR K R fs b)(e:fs.lookup f=none):b.lookup f=none:=by
 induction r with
 |nil=>rfl
 |@cons p q fs b z t c=>
  obtain⟨g,x⟩:=p;obtain⟨i,y⟩:=q;obtain⟨rfl,d⟩:=z;unfold List.lookup at e ⊢;dsimp only at e ⊢;cases a:f==g with
  |true=>rw[a]at e;cases e
  |false=>rw[a]at e;exact c e
theorem FR.put(r:FR K R fs a)(z:Rw K R w v):FR K R (QfQ f w fs) (YZ f v a):=by
 induction r with
 |nil=>exact .cons ⟨rfl,z⟩ .nil
 |@cons p q fs a y t c=>
  obtain⟨g,x⟩:=p;obtain⟨e,d⟩:=q;obtain⟨rfl,b⟩:=y;unfold QfQ YZ;split
  ·exact .cons ⟨rfl,z⟩ t
  ·exact .cons ⟨rfl,b⟩ c
theorem Wx(c:Rh K R h H)(e:G8 C h w=some fs)(r:Rw K R w v):∃n b a,w=.ref n/\n<R.N/\v=.ref (R.ρ n)/\H (R.ρ n)=some (.ins C b a)/\FR K R fs a:=by
 unfold G8 at e;split at e
 ·rename_i n;split at e
  ·rename_i l j d;split at e
   ·rename_i f;subst f;cases e;obtain⟨b,a,i,g⟩:=c.obj n _ d;unfold Rw at r;exact⟨n,b,a,rfl,r.1,r.2,i,g⟩
   ·cases e
  ·cases e
 ·cases e
theorem W2(i:Rh K R h H)(e:Xb C f o v σ h=some r)(g:Rw K R o x)(t:Rw K R v y):∃n c a fs,o=.ref n/\n<R.N/\x=.ref (R.ρ n)/\H (R.ρ n)=some (.ins C c a)/\a.length<1000/\r=.nx σ (h.set n (.ins C (QfQ f v fs)))/\FR K R fs a:=by
 unfold Xb at e;split at e
 ·rename_i n;obtain⟨fs,s,b⟩:=Na.mp e;split at b
  ·rename_i j;cases b;obtain⟨u,c,a,q,p,m,l,d⟩:=Wx i s g;cases q;exact⟨n,c,a,fs,rfl,p,m,l,by rw[<-N6 d];exact j,rfl,d⟩
  ·cases b
 ·cases e
end
section
variable{X:Cx}{C:Addr}{f m:Str}{o e value:Expr}{es:List Expr}{mo mv me:ME}{ms:MA}{pos pos' apos tpos:Pos}
theorem QR(c:Cls X.K C)(g:NoAttr X.K C f)(i:PM X e me)(j:attributeBase e f X.env (eval e X.env)=eval e X.env:=by rfl):PM X (.Attribute e f pos) (mUn (Zm C f) me):=
 QW (Qhd i j) fun I H Q q=>Jc (un1 q) fun x G z=>by
  obtain⟨R,h,a,w,N,b,d,E,k⟩:=z;obtain⟨fs,D,B⟩:=Na.mp E;obtain⟨J,A,y⟩:=Nf.mp B;cases y;obtain⟨n,F,u,M,L,t,s,r⟩:=Wx b D d;obtain⟨v,p,l⟩:=r.get A;exact⟨_,C,F,u,v,t,s,c,g,p,k R G v (Ext.refl _) b l⟩
theorem JW(c:Cls X.K C)(u:NoAttr X.K C f)(B:PM X o mo)(z:PM X value mv)(A:swapsWith value (some (.Attribute o f pos')) pos.line X.env=pure false:=by rfl):PMS X (.Assign [.Attribute o f pos'] value pos) (Xp C f mo mv):=
 JO (QiK B z A) fun D Q H q=>by
  obtain⟨R,a,h,r,t,st,e,k⟩:=q;obtain⟨⟨v,l⟩,P,O⟩:=Na.mp e;obtain⟨⟨w,E⟩,N,M⟩:=Na.mp O;refine⟨R,a,h,v,l,t,st,P,fun R1 T y g i j=>⟨R1,a,l,w,E,i,st.mono g,N,fun R2 S x d b s=>?_⟩⟩;obtain⟨n,p,L,fs,g1,g2,g3,J,I,G,F⟩:=W2 b M s (Rw.mono d _ _ j);subst G;refine⟨_,C,p,L,g3,J,c,u,I,k R2 _ _ (g.trans d) (b.put g2 ⟨p,_,rfl,F.put (Rw.mono d _ _ j)⟩) ((st.mono g).mono d)⟩
theorem Qd0(c:Cls X.K C)(J:NoAttr X.K C f)(T:PM X o mo)(S:PM X value mv):PMS X (.AugAssign (.Attribute o f tpos) .Add value pos) (QcG C f mo mv):=
 JO (Qb9 T S QhR) fun D σ H q=>by
  obtain⟨R,a,h,r,I,st,e,k⟩:=q;obtain⟨⟨w,F⟩,e1,e2⟩:=Na.mp e;obtain⟨fs,e3,z⟩:=Na.mp e2;split at z
  ·rename_i i U;obtain⟨⟨v,Y⟩,e5,t⟩:=Na.mp z;split at t
   ·rename_i j E;dsimp only at E;subst E;refine⟨R,a,h,w,F,I,st,e1,fun R1 H1 x p d B=>?_⟩;obtain⟨n,dx,fx,g1,g2,g3,g4,g5⟩:=Wx d e3 B;obtain⟨u,Z,G⟩:=g5.get U;refine⟨_,C,dx,fx,u,g3,g4,c,J,Z,R1,a,F,_,Y,d,st.mono p,e5,fun R2 H2 y l b A=>?_⟩;refine⟨i,j,by unfold Rw at G;exact G,by unfold Rw at A;exact A,?_⟩;obtain⟨n',g,s,aa,k1,Q,P,O,N,M,L⟩:=W2 (v:=.int (i+j)) (y:=.int (i+j)) b t (Rw.mono l _ _ B) (by unfold Rw;rfl);subst M;rw[P]at g3;injection g3 with g3
    exact⟨g,s,by rw[<-g3];exact O,N,by rw[<-g3];exact k R2 _ _ (p.trans l) (b.put Q ⟨g,_,rfl,L.put (by unfold Rw;rfl)⟩) ((st.mono p).mono l)⟩
   ·cases t
  ·cases z
end
structure Mal(P:Program)(w:World)(K:Nd)(mg:Str->Option Value)(base:Heap)(k:Nat)(C:Addr)(x:Str)(ps:List Str)(g:FM):Prop where
 ex:∃(f:Addr) (fd:FuncData),FnOk P w K mg base CX0 k f fd ps (spM K ps.length g)/\Meth K C x f/\Binds K fd ps []
structure MetAt(K:Nd)(C:Addr)(x q:Str)(st:Stmt)(ps:List Str):Prop where
 ex:∃(f:Addr) (fd:FuncData),Fun K x q st f fd/\Meth K C x f/\Binds K fd ps []
structure ClsAt(K:Nd)(mg:Str->Option Value)(C:Addr)(c:Str):Prop where
 cl:Cls K C
 ms:DY K C=true
 kp:N8 K (.ref C)=true
 mg:mg c=some (.ref C)
theorem Xa{K:Nd}{C:Addr}{x q:Str}{st:Stmt}{f:Addr}{j:Value}{kV d pm g ct:Value}
  (a:Ef K (.ref C) x=some (some (.ref f))) (i:FE K (.ref f)=true) (l:K.lookup f=some ⟨j,n,.func (Ex x q (JZ st) (ZK st) (Qf st) .none kV d pm h g ct),m⟩) (c:DA K g q=true) (k:N8 K (.ref f)=true)
  (b:∀(kV d pm:Value) (h:Option Addr) (e ct:Value) (us:List Value),us.length=ps.length->bindArgs (Ex x q (JZ st) (ZK st) (Qf st) .none kV d pm h e ct) ⟨us,[]⟩=pure (ps.zip us)):MetAt K C x q st ps:=
 ⟨f,_,Gg l c k,⟨a,i,k⟩,(Gg l c k).binds b⟩
section
variable{P:Program}{w:World}{K:Nd}{mg:Str->Option Value}{base:Heap}{C:Addr}
theorem Ug{st:Stmt}(d:MetAt K C x q st ps)(S:FnScope N ps (Qf st))(hN:N.length=ps.length+more)
  (c:∀(f:Addr) (b:Value) (A:Around) (a:List Env) (s:Shared) (H:Hp) (E:XK),Room k (A.deeper (envOfC q (Qf st) s.heap.objs.size f b))->Qca (Qc3 CX0 P w K mg base N q (Qf st) f b A a s H E).nox (ZK st) m) :
  Mal P w K mg base (k+1) C x ps (QI more m):=by
 obtain⟨f,fd,F,e,g⟩:=d.ex;exact⟨f,fd,Qil F S hN (fun b A a s H E hr=>c f b A a s H E hr),e,g⟩
end
section
variable{X:Cx}{C:Addr}{k n:Nat}{g:FM}{x c:Str}{ps:List Str}{p pos apos:Pos}{o e:Expr}{es:List Expr}{mo:ME}{ms:MA}
theorem Wa(cl:Cls X.K C)(M:Mal X.prog X.w X.K X.mg X.base k C x ps g)(hr:Room k X.A)(I:PM X o mo)(S:PMA X (e::es) ms)(J:ps.length=n:=by rfl)(O:JM e=false:=by rfl)(m:Vo es=true:=by rfl)
  (G:eval (.Call (.Attribute o x apos) (e::es) [] pos) X.env=(do
   let z <-eval o X.env
   standAt apos.atName
   let(f,first) <-holding [z] (getMethod z x pl)
   callWith pos f first (backTo pos (starEach (e::es) X.env)) (backToKw pos (keywordEach [] X.env))):=by rfl):PM X (.Call (.Attribute o x apos) (e::es) [] pos) (K5 C x n g mo ms):=by
 obtain⟨f,fd,F,L,P⟩:=M.ex;subst J;refine QW (QgS I cl L F hr P .nil QdN S (QQ O) (Jm m) G) fun σ H Q q=>?_;obtain⟨R,d,h,w,T,E,st,e1,k⟩:=q;obtain⟨⟨a,D⟩,e2,e3⟩:=Na.mp e1;obtain⟨fs,e4,s⟩:=Na.mp e3;split at s
 ·rename_i b;obtain⟨⟨as,B⟩,e6,r⟩:=Na.mp s;split at r
  ·rename_i N;refine⟨R,d,h,a,D,E,st,e2,fun R1 H1 v u i y=>?_⟩;obtain⟨n,dx,Z,g1,g2,g3,Y,U⟩:=Wx i e4 y;refine⟨_,dx,Z,g3,Y,U.none (Option.isNone_iff_eq_none.mp b),R1,d,D,as,B,i,st.mono u,e6,fun R2 H2 vs t l j=>?_⟩;exact⟨R2,a::as,B,w,T,N,l,Rws.cons (Rw.mono t _ _ y) (by rw[N9];exact j),r,k.ext (u.trans t)⟩
  ·cases r
 ·cases s
theorem Qft(D:ClsAt X.K X.mg C c)(M:Mal X.prog X.w X.K X.mg X.base k C "__init__" ps g)(hr:Room (k+1) X.A)(Y:Gl X c)(ha:PMA X (e::es) ms)(T:ps.length=n:=by rfl)
  (u:(c==("__debug__":Str))=false:=by decide) (Z:JM e=false:=by rfl) (t:Vo es=true:=by rfl):PM X (.Call (.Name c p) (e::es) [] pos) (Qds C n g ms):=by
 obtain⟨f,fd,F,L,hb⟩:=M.ex;subst T;refine QW (QgZ ⟨D.ms,L.at_,L.fn,D.kp⟩ F hr Y D.mg hb .nil QdN ha u (QQ Z) (Jm t)) fun σ H Q q=>?_;obtain⟨R,d,h,w,h',P,st,e1,k⟩:=q;obtain⟨⟨as,y⟩,e2,B⟩:=Na.mp e1;split at B
 ·rename_i U;obtain⟨⟨r,h2⟩,e4,z⟩:=Na.mp B;refine⟨R,d,h,as,y,P,st,e2,fun R1 H1 vs O s i x N nx S ne=>?_⟩;obtain⟨E,m⟩:=s.fix (o:=.own x) S;obtain⟨R3,I,l,b⟩:=m.new (mo:=.ins C []) (o:=.ins C N []) (p:=x) (by rw[Qt (EF ne)];exact nx) fun R' _=>⟨N,[],rfl,.nil⟩
  rw[N9];split at z
  ·rename_i a;cases z;dsimp only at a;subst a;refine⟨R3,.ref y.length::as,y++[.ins C []],.non,h2,by rw[Nz];exact U,l,Rws.cons b (Rws.mono (E.trans I) _ _ i),e4,fun R4 H4 v G j J=>⟨by unfold Rw at J;exact J,?_⟩⟩;exact k R4 H4 _ (O.trans (E.trans (I.trans G))) j (Rw.mono G _ _ b)
  ·cases z
 ·cases B
end
theorem QdI{K:Nd}{h:Heap}{c:Str}{C:Addr}(X:K.In h)(G:h.Ns mainGlobals d)(f:Dw K mainGlobals c=some (some (.ref C)))(b:Dj K C Str.empty=true)(hd:DH K C=true)(po:Ft K C=true)
  (a:Ef K (.ref C) "__setattr__"=some (some (.builtin "object.__setattr__"))) (mk:DY K C=true) (e:N8 K (.ref C)=true):ClsAt K d C c:=
 ⟨⟨b,hd,po,a⟩,mk,e,Dm X G f⟩
theorem Qj4{l:PySem.W.OpenLaw}{d:DefRec}{K:Params->Nd}{st:Stmt}{sem:Addr->FM}{k:Nat}(y:l.most=some 63)(B:d.params.defaults=[])(hr:Room k callerA)(A:d.name="law")
  (X:∀(w:World) (h:Heap),YP w h->(K w.params).In h)
  (U:∀(kV c pm:Value) (I:Option Addr) (g ct:Value) (s:Shared) (u:Value),BindsTo s (Ex "law" "law" (JZ st) (ZK st) (Qf st) .none kV c pm I g ct) ⟨[u],[]⟩ [("script",u)])
  (F:∀(w:World) (i:Str->Option Value) (h:Heap),(K w.params).In h->h.Ns mainGlobals i ->
   DefAt (K w.params) i "law" st ["script"]/\∀base:Heap,(K w.params).In base->base.Ns mainGlobals i->∃C,Cal l.prog w (K w.params) i base k "law" ["script"] (sem C))
  (main:∀(C:Addr) (ns:List Int),ns.length<=63->∃h',sem C [.frz (ns.map W.int)] []=some (.bl true,h')) :
  IH q t XP YP l.row.toRowW d [] (fun f vs=>IB f vs):=by
 refine L2.QbI (n:=63) (k:=k) (x:="script") (CX:=fun _=>CX0) (sp:=fun w vs H Q E=>vs.length=1/\∀C,spM (K w.params) 1 (sem C) vs H Q E) y (by decide) B hr X ?_ ?_ fun _ _ _ _ _ z=>z
 ·intro w i fa h KX G b;obtain⟨D,Fn⟩:=F w i h KX G;obtain⟨f,fd,Fu,r,_⟩:=D.ex;rw[A]at b;rw[r]at b;cases b;obtain⟨oc,od,kV,c,pm,I,g,ct,M,e,lk,T⟩:=Fu.ex;refine⟨fd,fun s u=>?_,fun base R P=>?_⟩
  rotate_left
  ·obtain⟨C,CC⟩:=Fn base R P;obtain⟨f',Z,F',p,_,_,O,N,J,j⟩:=CC.ex;rw[r]at p;cases p;rw[lk]at j;cases j;exact F'.imp fun _ _ _ _ z=>z.2 C
  rw[e];exact U kV c pm I g ct s u
 ·intro w H a ns S hO Y;refine⟨rfl,fun C=>?_⟩;obtain⟨h',e⟩:=main C ns S;refine⟨⟨fun _=>0,0,H,fun _=>none⟩,[.frz (ns.map W.int)],[],.bl true,h',rfl,⟨rfl,fun _ _ z=>z,fun n y=>absurd y (E6 _),fun m n r=>absurd r (E6 _),(fun n o z=>by simp at z),(fun _ _ z=>by cases z),(fun _ _=>rfl),(fun _ _ z=>by cases z)⟩,?_,e,fun R' H' v _ _ L=>L.bl_eq⟩;refine Rws.cons ?_ Rws.nil;unfold Rw;exact⟨a,_,rfl,Y,Kl ns⟩
noncomputable def VS(a:W)(ws:List W)(h:MH):Option (W×MH):=match ws with
 |[b]=>(Qak h a).bind fun c=>(Qcn b).map fun k=>((Jk c k).getD .non,h)
 |_=>none
noncomputable def Qg3(n:Nat)(k:Key)(v:W)(kvs:List (Key×W))(h:MH):Option (W×MH):=match Jk kvs k with
 |some x=>some (x,h)
 |none=>if kvs.length<sizeLine then some (v,h.set n (.dic (Vp kvs k v)))else none
noncomputable def Qh9(a:W)(ws:List W)(h:MH):Option (W×MH):=match a,ws with
 |.ref n,[b,v]=>(Qak h (.ref n)).bind fun c=>(Qcn b).bind fun k=>Qg3 n k v c h
 |_,_=>none
noncomputable def QaF:List W->Option (List Int)
 |[]=>some []
 |.int i::r=>(QaF r).map (i::·)
 |_=>none
noncomputable def Qaq(ns:List Int):List Int:=ns.mergeSort fun a b=>decide (b<=a)
noncomputable def W9(ws:List W)(h:MH):Option (W×MH):=match ws with
 |[a]=>(lsW h a).bind fun c=>(QaF c).bind fun b=>if b.length<64 then some (.ref h.length,h++[.lst ((Qaq b).map .int)])else none
 |_=>none
noncomputable def Qfe(kvs:List (Str×Int)):ME:=fun _ h=>some (.ref h.length,h++[.dic (Qa7 [] (kvs.map fun p=>(.inr p.1,.int p.2)))])
section
variable{X:Cx}
theorem QcZ(hu:X.A.units+64<cLine):QaT X "dict.get" VS:=by
 intro g s S H x T v us Q I t u q;obtain⟨R,h,a,U,w,h',f,C,d,e,k⟩:=q;unfold VS at e;split at e
 ·rename_i b;obtain⟨D,O,N⟩:=Na.mp e;obtain⟨i,M,L⟩:=Nf.mp N;cases L;obtain⟨n,rfl,F⟩:=XC O;obtain⟨y,rfl,B⟩:=Yu d;obtain⟨Z,rfl,r⟩:=KG u;obtain⟨_,G,kx,E,P⟩:=f.dicAt C F;have J:=Ve B M;subst J G;obtain rfl:v=Value.ref (R.ρ n):=t;refine QiQ (N4 (Es (by decide) _) hu) I (DGet.k (k:=i) E) r fun p s' j c=>?_
  rcases VZ (k:=i) P with z|⟨p,Y,o,m,l⟩
  ·rw[z.2]at c;rw[z.1]at k;exact⟨_,H,j,c,k R H _ (Ext.refl _) f (by unfold Rw;rfl)⟩
  ·rw[m]at c;rw[o]at k;exact⟨_,H,j,c,k R H _ (Ext.refl _) f l⟩
 ·cases e
theorem QfW(hu:X.A.units+64<cLine):QaT X "dict.setdefault" Qh9:=by
 intro L s σ H x xs v us Q I Z rv q;obtain⟨R,h,a,ws,w,h',m,ra,l,e,k⟩:=q;unfold Qh9 at e;split at e
 ·rename_i n b dv;obtain⟨aa,e1,e2⟩:=Na.mp e;obtain⟨f,e3,c⟩:=Na.mp e2;obtain⟨n',r,hn⟩:=XC e1;cases r;obtain⟨y,B,rfl,rb,J⟩:=QiE l;obtain⟨uy,U,rfl,Y,G⟩:=Qc6 rv;obtain⟨t,ey,M,N,i⟩:=m.dicAt ra hn;have eb:=Ve rb e3;subst eb ey;obtain rfl:v=Value.ref (R.ρ n):=Z;obtain⟨z,hd,T,rel,O⟩:=QeZ I.hok N;have d:=rel.val f;refine La Ff O.typeIs PySem.F.entry_dict_setdefault (PySem.F.args_dict_setdefault_3 _ _ _) (kt_meets_setdefault (Zy X.prog X.w) _ (WY Y) hd U) ⟨T,O,?_,fun p hp=>?_,fun o u g hs=>?_⟩
  ·rw[<-N6 rel];exact z
  ·rw[hp]at d
   rcases VZ (k:=f) i with z|⟨S,E,D,j,C⟩
   ·rw[z.2]at d;exact d.elim
   ·unfold Qg3 at c;rw[D]at c;cases c;rw[j]at d;exact⟨E,H,I.tok _,d,k R H _ (Ext.refl _) m C⟩
  ·rw [o]at d
   rcases VZ (k:=f) i with P|⟨S,E,D,j,C⟩
   ·unfold Qg3 at c;rw[P.1]at c;dsimp only at c;split at c
    ·rename_i hl;cases c;have he:∃q,u.get? (R.ρ n)=some q:=let⟨q,_,_,hq,_⟩:=g;⟨q,hq⟩
     have hz:(Yt M f B).length<=sizeLine:=by
      have h1:=Vi M f B;have h2:=N6 i;lia
     exact⟨B,_,UU (t':=s.toks+1) I (by rw[N];exact True.intro) hs he (Qcs hz hd (rel.put f G) g),G,k R _ _ (Ext.refl _) (m.put t ⟨_,rfl,Ww i J⟩) J⟩
    ·cases c
   ·rw[j]at d;exact d.elim
 ·cases e
theorem Uj{K:Nd}:∀{ys:List W} {ns:List Int} {xs:List V},QaF ys=some ns->Rws K R ys xs->xs=ns.map V.int
 |[],_,_,e,r=>by cases e;rw[Rws.nil_iff]at r;exact r
 | y::ys,ns,xs,e,r=>by
  rw[Rws.cons_iff]at r;obtain⟨v,vs,rfl,a,b⟩:=r;cases y with
  |int i=>
   obtain⟨d,c,rfl⟩:=Nf.mp (show(QaF ys).map (i::·)=some ns from e);unfold Rw at a;rw[a,Uj c b];rfl
  |_=>cases e
theorem X0:∀{ns:List Int} {a:List Value},Vals (ns.map V.int) a->IntsAre a ns
 |[],_,r=>by cases r;exact .nil
 | n::ns,_,r=>by
  cases r with
  |cons h t=>
   obtain⟨t',rfl⟩:=h;exact .cons _ _ (X0 t)
theorem XZ:∀{a:List Value} {ns:List Int},IntsAre a ns->Vals (ns.map V.int) a
 |_,_,.nil=>.nil
 |_,_,.cons y t r=>.cons ⟨t,rfl⟩ (XZ r)
theorem QbM:∀{a b:List Int},a.Pairwise (· >= ·)->b.Pairwise (· >= ·)->a.Perm b->a=b
 |[],b,_,_,p=>(L6.mp p).symm
 |x::a,[],_,_,p=>absurd (L7.mp p) (by simp)
 | x::a,y::b,g,f,p=>by
  rw[Ld]at g f
  have e:x=y:=by
   have d:x∈y::b:=p.mem_iff.mp Nv;have c:y∈x::a:=p.mem_iff.mpr Nv
   rcases Nx.mp d with d|d
   ·exact d
   ·rcases Nx.mp c with c|c
    ·exact c.symm
    ·exact Int.le_antisymm (f.1 x d) (g.1 y c)
  subst e;rw[QbM g.2 f.2 (Lc p)]
theorem KF(ns:List Int):(Qaq ns).Perm ns:=IR _ _
theorem Uq(ns:List Int):(Qaq ns).Pairwise (· >= ·):=by
 refine(FS (le:=fun a b:Int=>decide (b<=a)) ?_ ?_ ns).imp fun {a b} h=>by simpa using h
 ·intro a b c e d;simp only[decide_eq_true_eq]at *;exact Int.le_trans d e
 ·intro a b;simp only[EC,decide_eq_true_eq];exact Int.le_total b a
theorem Qdm{Y i Z cp:Pos}(hg:Gl X "sorted")(hm:X.mg "sorted"=none)(he:PM X e me)(A:JM e=false:=by rfl) :
  PM X (.Call (.Name "sorted" Y) [e] [⟨some "reverse",.Constant (.bool true) j cp,Z⟩] i) (mFn W9 (Qa me Qd)):=by
 intro l s M H Q I ⟨R,q,h,w,h',S,st,e1,kk⟩;obtain⟨⟨as,h2⟩,e2,e3⟩:=Na.mp e1;obtain⟨⟨a,G⟩,e4,e5⟩:=Na.mp e2;obtain⟨⟨bs,h3⟩,e6,e7⟩:=Na.mp e5;cases e6;cases e7;refine Ew (XG I hg hm boot_sorted (PyProof.Rows.callWith_kw ?_ (by rw[QQ A];rfl) (by rw[QQ A];rfl) rfl rfl) (by decide) (by decide));rw[QQ A];refine Ds (thn (he l s M H (fun v L=>∃R2,Ext R R2/\Rh X.K R2 G L/\Rw X.K R2 a v) I ⟨R,q,h,a,G,S,st,e4,fun R2 L v x c y=>⟨R2,x,c,y⟩⟩) fun u g ⟨v,H1,I1,P,R2,O,c,y⟩=>DI ?_);refine wpAny_evalAll_cons (Nc (Constant_bool (Nc (DP (Nh (wpAny_evalAll_nil ?_))))));obtain⟨ys,e8,e9⟩:=Na.mp e3;obtain⟨f,D,d⟩:=Na.mp e9;split at d
 ·rename_i F;cases d;obtain⟨ad,xs,rfl,q1,T⟩:=c.lsAt y e8;cases P;have ex:=Uj D T;subst ex;obtain⟨n,E,U,hl⟩:=I1.list q1;have B:n.length=f.length:=by rw[<-E.length,Nw]
  refine sorted_ints_rev (b:=true) U.isList (X0 E) (by rw[B];exact F) fun m z a1 J a3=>?_;obtain⟨ep,C⟩:=sortedAll_at g.heap n m;have en:z=Qaq f:=QbM (by simpa[Ordered]using a3) (Uq f) (J.trans (KF f).symm);subst en;have hp:=I1.hok.fresh (Dp g.heap.objs.size);obtain⟨R3,N,t,r⟩:=c.new (mo:=.lst ((Qaq f).map .int)) (o:=.lst ((Qaq f).map V.int)) (p:=g.heap.objs.size+1) hp fun R' x'=>⟨_,rfl,Kl _⟩
  refine⟨.ref (g.heap.objs.size+1),_,I1.laid (t':=g.toks) (fun b o e=>sortedAll_old e) (Dp _) (show ObjOk X.prog X.w _ _ _ (.lst _)from⟨?_,m.toList,ep,XZ a1,C⟩),rfl,kk R3 _ _ (O.trans N) t r⟩;rw[Nw,J.length_eq,EL];exact ND (N4 F (by decide))
 ·cases d
theorem QjM:∀{kvs:List (Str×Int)} {ks:List (Option Expr)} {vs:List Expr},PPs X pos ks vs (kvs.map fun p=>(tC (.str p.1),tC (.int p.2)))->ks.all (·.isSome)=true->ks.length=vs.length->ks≠[]->ks.length<=15->kvs.length<=15->PM X (.Dict ks vs pos) (Qfe kvs):=by
 intro kvs ks vs hp x v u t s;refine QW (Qfb hp x v u t) fun i H Q q p n=>?_;obtain⟨R,g,h,w,D,m,st,e,k⟩:=q;cases e
 have key:∀(kvs:List (Str×Int)) (H:Hp) (C:List (V×V)->Hp->Prop),C (kvs.map fun p=>(V.str p.1,V.int p.2)) H->Gs (kvs.map fun p=>(tC (.str p.1),tC (.int p.2))) i H C:=by
  intro kvs
  induction kvs with
  |nil=>exact fun _ _ z=>z
  |cons p r f=>exact fun H C z=>f H (fun ps A=>C ((V.str p.1,V.int p.2)::ps) A) z
 refine key kvs _ _ ⟨ZH,kvs.map fun p=>(.inr p.1,.int p.2),by rw[D7];rfl,by rw[Nw];exact s,?_⟩;rw[QgG]
 have rel:∀(kvs:List (Str×Int)) (a:List (Key×W)) (b:List (Key×V)),DicR X.K R a b->DicR X.K R (Qa7 a (kvs.map fun p=>(.inr p.1,.int p.2))) (K4 b (kvs.map fun p=>(.inr p.1,.int p.2))):=by
  intro kvs
  induction kvs with
  |nil=>exact fun _ _ z=>z
  |cons p r f=>exact fun a b z=>f _ _ (Ww z (by unfold Rw;rfl))
 obtain⟨y,j,d,c⟩:=m.new (mo:=.dic (Qa7 [] (kvs.map fun p=>(.inr p.1,.int p.2)))) (o:=.dK (K4 [] (kvs.map fun p=>(.inr p.1,.int p.2)))) n fun E l=>⟨_,rfl,Paired.mapP (rel kvs [] [] .nil) fun _ _ z=>⟨z.1,Rw.mono l _ _ z.2⟩⟩
 exact k y _ _ j d c
end
end Mi
namespace L2
section
variable{prog:Program}{w:World}{A:Around}{E:Value->Shared->Prop}
theorem Qe2{it l:Addr}{xs:Array Value}(d:l≠it):∀(n i:Nat) (s:Shared) (Q:List Value->Shared->Prop),s.heap.IsListIter it l i->s.heap.IsList l xs->i+n<=xs.size ->
  (∀h',h'.IsListIter it l (i+n)->Heap.SameBut it s.heap h'->Q ((xs.toList.drop i).take n) { s with heap:=h' })->wpAny (model prog w) A (draw (.ref it) n) Q E s:=by
 intro n
 induction n with
 |zero=>
  intro i s Q g _ _ q;refine(show wpAny _ _ (pure []) Q E s from Nh ?_);simpa using q s.heap g (Lk ..)
 |succ n j=>
  intro i s Q g h o q;have b:i<xs.size:=by lia
  refine(show wpAny _ _ (pyNext (.ref it)>>=_) Q E s from Nc (F4 g h (x:=xs[i]) (by simp[b]) fun p f a=>?_));refine Nc (NP (j (i+1) _ _ f (h.extBut a.extBut d) (by lia) fun m e c=>Nh ?_));have z:=q m (by rw[show i+(n+1)=i+1+n by lia];exact e) (a.trans c);rw[show xs.toList.drop i=xs[i]::xs.toList.drop (i+1) by simp[EJ,b],List.take_succ_cons]at z;exact z
theorem Qb4{s:Shared}{env:Env}{f:List Expr}{k:Nat}{pos:Pos}{l:Addr}{xs:Array Value}{Q:Unit->Shared->Prop}(p:A.handled=none)(d:s.heap.IsList l xs)(n:(assignEach f env).length=xs.size)(g:(assignEach f env).findIdx? (·.1)=none)
  (q:∀h',Heap.ExtBut s.heap.objs.size s.heap h'->wpAny (model prog w) A (assignInOrder ((assignEach f env).map (·.2)) xs.toList) Q E { s with heap:=h' }):wpAny (model prog w) A (assign (.Tuple f k pos) env (.ref l)) Q E s:=by
 have c:l≠s.heap.objs.size:=let⟨o,m,_⟩:=d;NG (No m)
 rw[assign_Tuple];refine Nc (DP ?_);unfold unpack;rw[n,g];refine Nc (NP ?_);unfold unpackItems notIterableAtAll;refine Nc (Nc (DW d.typeIs PySem.slot_list_iter.lookup (Nh ?_)));simp only[Eh,if_false];refine Nc (NP (DJ d ?_));refine Nc (NP (Qe2 c xs.size 0 _ _ ⟨_,Ny _ rfl,rfl,rfl⟩ (d.push _) (by lia) fun u i a=>?_));rw[show List.take xs.size (List.drop 0 xs.toList)=xs.toList by rw[List.drop_zero];exact E8 (by simp),if_neg (by simp)];have h:u.IsList l xs:=(d.push _).extBut a.extBut c;refine Nc (NP (Ik p i h (by simp) fun t r=>?_));simp only[Option.isSome_none,Eh,if_false];exact Nh (q t fun b o j e=>r b o j (a.extBut b o j (Nl _ e)))
end
noncomputable def gLs(K:Nd)(n:Nat)(t:TGs):TG:=fun v c H Q=>∃a b,v=.ref a/\SqL K H a b/\b.length=n/\t b c H Q
theorem Qk1{X:Cx}{d:List Expr}{k:Nat}{t:TGs}{n:Nat}{pos:Pos}(y:X.calm=true)(h:PGs X d t)
  (w:(assignEach d X.env).length=n:=by rfl) (f:(assignEach d X.env).findIdx? (·.1)=none:=by rfl):PG X (.Tuple d k pos) (gLs X.K n t):=by
 intro c s i H v u Q I r hw;obtain⟨a,j,z,q,x,hw⟩:=hw;subst z;cases r;obtain⟨l,g,p,B⟩:=I.list q;refine Qb4 (I.ok.hd y) p.isList (by simp[w,<-x,g.length]) f fun C m=>?_;exact h c _ i H j _ Q (I.kept (t':=s.toks) fun b o e=>m b o (NG (No e)) e) (by simpa using g) hw
end L2
namespace Mi
open L2
noncomputable def Qcm(is:List Nat):MG:=fun w a h=>(lsW h w).bind fun b=>Wo is b a
theorem GW{X:Cx}{a:List Expr}{k:Nat}{pos:Pos}{is:List Nat}(p:X.calm=true)(h:PGs X a (UY is))(o:(assignEach a X.env).length=is.length)(n:(assignEach a X.env).findIdx? (·.1)=none):PMG X (.Tuple a k pos) (Qcm is):=
 Qbs (Qk1 p h o n) fun v s H C j=>by
  obtain⟨R,g,h,w,i,c,st,rw,e,q⟩:=j;obtain⟨t,r,f⟩:=Na.mp e;obtain⟨ad,l,rfl,q1,d⟩:=c.lsAt rw r;exact⟨ad,l,rfl,q1,by rw[<-d.length];exact KT f,WE f d st fun b m=>q R H b (Ext.refl _) c m⟩
noncomputable def QbA(a b:W)(h:MH):Option (W×MH):=(loW h a).bind fun d=>(loW h b).bind fun c=>if d.length+c.length<=sizeLine then some (.ref h.length,h++[.lst (d++c)])else none
theorem Qc1{X:Cx}:OpR X (binaryOp .Add) (F2 X.K QbA):=by
 intro c s n H x y v u Q I C B q;refine(op_add.or (op_add_str.or (op_catA.or Qer))) c s n H x y v u Q I C B ?_;obtain⟨R,h,a,b,w,S,g,E,D,e,k⟩:=q;obtain⟨t,G,e⟩:=Na.mp e;obtain⟨r,F,e⟩:=Na.mp e;split at e
 ·rename_i P;cases e;obtain⟨ad,j,f1,q1,m⟩:=g.loAt E G;obtain⟨J,i,f2,q2,l⟩:=g.loAt D F;have O:=m.length;have N:=l.length;refine .inr (.inr (.inr ⟨ad,J,j,i,f1,f2,q1,q2,by lia,fun p hp=>?_⟩));obtain⟨L,z,f,d⟩:=g.new (mo:=.lst (t++r)) (o:=.lst (j++i)) hp fun T A=>⟨_,rfl,Rws.mono A _ _ (Rws.append m l)⟩
  exact k L _ _ z f d
 ·cases e
open PySem
section
variable{p:List Value->Prop}
theorem ar0(h:p []):∀us:List Value,us.length=0->p us
 |[],_=>h
theorem ar1(h:∀a,p [a]):∀us:List Value,us.length=1->p us
 |[_],_=>h _
theorem ar2(h:∀a b,p [a,b]):∀us:List Value,us.length=2->p us
 |[_,_],_=>h _ _
theorem ar3(h:∀a b c,p [a,b,c]):∀us:List Value,us.length=3->p us
 |[_,_,_],_=>h _ _ _
theorem ar5(h:∀a b c d e,p [a,b,c,d,e]):∀us:List Value,us.length=5->p us
 |[_,_,_,_,_],_=>h _ _ _ _ _
end
end Mi
namespace My
open L2 Mi
set_option maxHeartbeats 4000000
local macro_rules|`(tactic|walk_at $s:str)=>do
 let l:=s.getString.toList
 if l.head? != some '~'then Lean.Macro.throwUnsupported
 let mut r:Array (Lean.TSyntax `tactic):=#[]
 let mut f:=false
 for c in l.tail do
  if c=='!'then f:=true
  else
   r:=r.push (<-match f,c with
    |false,'#'=>`(tactic|refine QcJ ?_ ?_)
    |false,'$'=>`(tactic|exact rfl)
    |false,'%'=>`(tactic|exact Qf6)
    |false,'&'=>`(tactic|first|exact .inl rfl|exact .inr rfl)
    |false,'('=>`(tactic|exact QiA)
    |false,')'=>`(tactic|refine QdW ?_ ?_)
    |false,'*'=>`(tactic|refine QkA ?_ ?_)
    |false,'+'=>`(tactic|exact Qe 0)
    |false,','=>`(tactic|refine Qf1 ?_)
    |false,'-'=>`(tactic|refine QgA ?_ ?_ ?_ ?_ ?_ ?_)
    |false,'.'=>`(tactic|refine QC (Qb0 ?_) Qk ?_ ?_)
    |false,'/'=>`(tactic|exact QiF)
    |false,'0'=>`(tactic|exact $(Lean.mkIdent `hr.mono) (by decide))
    |false,'1'=>`(tactic|exact Qe 1)
    |false,'2'=>`(tactic|refine Yr Ej D2 PySem.F.type_list_append QaI ?_ ?_)
    |false,'3'=>`(tactic|exact(Or.inl rfl))
    |false,'4'=>`(tactic|refine Qh0 ?_ ?_ ?_)
    |false,'5'=>`(tactic|refine Qfs ?_)
    |false,'6'=>`(tactic|refine ZM Qgq Qk ?_ ?_)
    |false,'7'=>`(tactic|refine QdY Qbd VL ?_ ?_ PySem.boot_len ?_ ?_ ?_ ?_ ?_)
    |false,'8'=>`(tactic|decide)
    |false,'9'=>`(tactic|exact $(Lean.mkIdent `hu))
    |false,':'=>`(tactic|refine Qiy ?_)
    |false,';'=>`(tactic|have $(Lean.mkIdent `hu):ident:=$(Lean.mkIdent `hr.units))
    |false,'<'=>`(tactic|exact Qe 3)
    |false,'='=>`(tactic|refine ZM Qfj Qk ?_ ?_)
    |false,'>'=>`(tactic|exact $(Lean.mkIdent `nd_))
    |false,'?'=>`(tactic|exact Qe 2)
    |false,'@'=>`(tactic|refine Yr DF Df Ir (QcZ ?_) ?_ ?_)
    |false,'A'=>`(tactic|exact QfP)
    |false,'B'=>`(tactic|refine QhO ?_)
    |false,'C'=>`(tactic|exact Qe 4)
    |false,'D'=>`(tactic|refine Qj (k:=1) (ps:=["spot","k"]) ?_ ?_ ?_ ?_ ?_ ?_ ?_ ?_)
    |false,'E'=>`(tactic|refine Qj (k:=1) (ps:=["line"]) ?_ ?_ ?_ ?_ ?_ ?_ ?_ ?_)
    |_,_=>Lean.Macro.throwUnsupported)
   f:=false
 `(tactic|($[$r]*))
noncomputable def top(i:Nat):Stmt:=FK.main.body.getD i (.Pass ⟨0,0,0,0⟩)
noncomputable abbrev J3:W:=.tup (Qa5 ["pair","first","second","same","none"])
noncomputable abbrev Zi:W:=.str "-"
section
variable{P:Program}{w:World}{K:Nd}{mg:Str->Option Value}{base:Heap}{C_Shelf:Addr}
noncomputable abbrev Q5:Stmt:=top 37
theorem Xt:FnScope ["number","many","letters","near","kept","size","at","base","found","k","name"] ["number","many"] (Qf Q5):=⟨rfl,rfl,rfl,by decide +kernel,rfl,by decide +kernel,by decide +kernel⟩
noncomputable abbrev ZG:SM:=(Qh (QP 10 (Qc Zs (Qc Zs (mSl (Qb 7) QaN (QaB (Qb 6))) (Qc wIx (Qb 2) (Qc JC (Qc Zs (Qc KW (Qb 0) (mC (.int 9360))) (Qc JB (mC (.int 3)) (Qb 9))) (mC (.int 26))))) (mSl (Qb 7) (QaB (Qb 6)) QaN)))
  (Qh (Q9 (Qg (Qc (wIn false) (Qb 10) (Qb 4))) (QP 10 (Qc Zs (Qb 10) (mC (.str "s")))) Qx)
  (Zf (mMt "list" QB (Qb 8) (Qa (Qb 10) Qd)))))
noncomputable def Zv:FM:=QI 9
  (Qh (QP 2 (mC (.str "abcdefghijklmnopqrstuvwxyz")))
  (Qh (QP 3 (mFn Zb (Qa (mC (.str "pairs")) (Qa (mC (.str "o")) (Qa (mC (.str "seconda")) (Qa (mC (.str "nones")) (Qa (mC (.str "en")) (Qa (mC (.str "backs")) (Qa (mC (.str "eithera")) (Qa (mC (.str "ors")) (Qa (mC (.str "dos")) (Qa (mC (.str "ends")) (Qa (mC (.str "agains")) (Qa (mC (.str "parts")) (Qa (mC (.str "firs")) Qd)))))))))))))))
  (Qh (QP 3 (Qc Zs (Qb 3) (mFn Zb (Qa (mC (.str "same")) (Qa (mC (.str "tells")) (Qa (mC (.str "firsts")) Qd))))))
  (Qh (QP 4 (mFn Q4 (Qa (mC (.str "pair")) (Qa (mC (.str "first")) (Qa (mC (.str "second")) (Qa (mC (.str "none")) (Qa (mC (.str "tell")) (Qa (mC (.str "back")) (Qa (mC (.str "either")) (Qa (mC (.str "or")) (Qa (mC (.str "again")) (Qa (mC (.str "end")) (Qa (mC (.str "do")) (Qa (mC (.str "part")) Qd))))))))))))))
  (Qh (Q9 (Qg (Qc wEq (Qc JC (Qb 0) (mC (.int 5))) (mC (.int 0)))) (Zg (Jh XL (V9 (Qa (Qb 1) Qd)) [none,some 3,some 0] (ZU 0) Yk (Qc wIx (Qb 1) (Qc JC (Qc Zs (Qc KW (Qb 2) (mC (.int 5))) (Qb 0)) (mC (.int 16)))))) Qx)
  (Qh (Q9 (Qg (Qc wEq (Qc JC (Qb 0) (mC (.int 5))) (mC (.int 1)))) (Zg (Jh XL (V9 (Qa (Qb 1) Qd)) [none,some 2,some 0] (ZU 0) Yk (Qc JB (Qc wIx (Qb 1) (Qc JC (Qc KW (Qb 2) (mC (.int 5))) (mC (.int 26)))) (Qc Zs (Qb 0) (mC (.int 1)))))) Qx)
  (Qh (QP 5 (Qc JC (Qc KW (Qb 0) (mC (.int 5))) (mC (.int 8))))
  (Qh (QP 6 (Qc JC (Qc KW (Qb 0) (mC (.int 40))) (Qc Zs (Qb 5) (mC (.int 1)))))
  (Qh (QP 7 (mMt "str" Qag (mC (.str "")) (Qa (Jh XL (V9 (Qa (Qb 5) Qd)) [none,some 2,some 0] (ZU 0) Yk (Qc wIx (Qb 1) (Qc JC (Qc Zs (Qc KW (Qb 2) (mC (.int 360))) (Qc JB (Qc JB (mC (.int 5)) (Qb 0)) (Qb 0))) (mC (.int 26))))) Qd)))
  (Qh (QP 8 (mFn Yi Qd))
  (Qh (Vv (V9 (Qa (Qb 1) Qd)) (ZU 9)
  ZG)
  (Zg (Qb 8)))))))))))))
theorem Yj(d:DefAt K mg "_law_names" Q5 ["number","many"])(b_range:mg "range"=none):Cal P w K mg base 1 "_law_names" ["number","many"] Zv:=by
 refine QK (k:=0) (more:=9) d Xt rfl fun _ _ _ _ _ _ _ hr=>?_;have nd_:=(Xt).nd
 walk_at"~;)->$"
 exact(Or.inr rfl)
 walk_at"~/$&)->$"
 exact(Or.inr rfl)
 walk_at"~B#/#/#/#/#/#/#/#/#/#/#/#/#/%$&)->$"
 exact(Or.inr rfl)
 walk_at"~6<B#/#/#/%$&)->$3:#/#/#/#/#/#/#/#/#/#/#/#/%$&)4.9=+((,5"
 refine XI V5 ?_ (GL (ks:=["number","near"]) (Nb:=["k","near","number"]) (cp:=[none,some 3,some 0]) (N:=["number","many","letters","near","kept","size","at","base","found","k","name"]) (xs:=(Qf Q5)) rfl rfl (by decide +kernel) rfl (by decide +kernel) (by intro p hp;simp only[Nx,Ey,or_false]at hp;rcases hp with rfl|rfl<;>rfl) rfl rfl rfl (by decide +kernel)) ?_ (fun _ _ _ _ _=>?_) (fun _ _ _ _ _=>?_)
 walk_at"~$"
 refine Xe ?_ ?_ ?_ ?_
 walk_at"~$"
 exact b_range
 walk_at"~#1%$"
 exact QS (i:=0) (x:="k") (show List.Nodup (["k","near","number"]:List Str)from by decide +kernel) rfl (Or.inl rfl)
 walk_at"~*1=6"
 refine ZM JX Qk ?_ ?_
 walk_at"~?(+(A)4.9=+((,5"
 refine XI V5 ?_ (GL (ks:=["number","letters"]) (Nb:=["k","letters","number"]) (cp:=[none,some 2,some 0]) (N:=["number","many","letters","near","kept","size","at","base","found","k","name"]) (xs:=(Qf Q5)) rfl rfl (by decide +kernel) rfl (by decide +kernel) (by intro p hp;simp only[Nx,Ey,or_false]at hp;rcases hp with rfl|rfl<;>rfl) rfl rfl rfl (by decide +kernel)) ?_ (fun _ _ _ _ _=>?_) (fun _ _ _ _ _=>?_)
 walk_at"~$"
 refine Xe ?_ ?_ ?_ ?_
 walk_at"~$"
 exact b_range
 walk_at"~#1%$"
 exact QS (i:=0) (x:="k") (show List.Nodup (["k","letters","number"]:List Str)from by decide +kernel) rfl (Or.inl rfl);refine ZM Z0 Qk ?_ ?_
 walk_at"~*1="
 refine ZM JX Qk ?_ ?_
 walk_at"~?((6+(A)->$3="
 refine ZM JX Qk ?_ ?_
 walk_at"~+(($&)->$3="
 refine ZM JX Qk ?_ ?_
 walk_at"~+(6"
 exact Qe 5
 walk_at"~($&)->$3"
 refine Yr PySem.F.plainAttrs_str PySem.F.slot_str_join PySem.F.type_str_join QcN ?_ ?_
 walk_at"~/#"
 refine XI V5 ?_ (GL (ks:=["number","letters"]) (Nb:=["k","letters","number"]) (cp:=[none,some 2,some 0]) (N:=["number","many","letters","near","kept","size","at","base","found","k","name"]) (xs:=(Qf Q5)) rfl rfl (by decide +kernel) rfl (by decide +kernel) (by intro p hp;simp only[Nx,Ey,or_false]at hp;rcases hp with rfl|rfl<;>rfl) rfl rfl rfl (by decide +kernel)) ?_ (fun _ _ _ _ _=>?_) (fun _ _ _ _ _=>?_)
 walk_at"~$"
 refine Xe ?_ ?_ ?_ ?_
 walk_at"~$"
 exact b_range
 walk_at"~#"
 exact Qe 5
 walk_at"~%$"
 exact QS (i:=0) (x:="k") (show List.Nodup (["k","letters","number"]:List Str)from by decide +kernel) rfl (Or.inl rfl)
 walk_at"~*1=6"
 refine ZM JX Qk ?_ ?_
 walk_at"~?("
 refine ZM Z0 Qk ?_ ?_;refine ZM Z0 Qk ?_ ?_
 walk_at"~(++(%$&)->$3"
 refine Jq ?_
 walk_at"~%$&)"
 refine Jd ?_ ?_ ?_ ?_ ?_ ?_;exact NV
 walk_at"~$"
 refine Xe ?_ ?_ ?_ ?_
 walk_at"~$"
 exact b_range
 walk_at"~#1%$"
 exact QS (i:=9) (x:="k") nd_ rfl (Or.inl rfl)
 walk_at"~)->$366"
 refine Ky ?_ ?_ ?_;exact Qe 7;exact Kq;refine Kv ?_;exact Qe 6
 walk_at"~*?=6"
 refine ZM JX Qk ?_ ?_
 walk_at"~+("
 refine ZM Z0 Qk ?_ ?_
 walk_at"~("
 exact Qe 9
 walk_at"~("
 refine Ky ?_ ?_ ?_;exact Qe 7;refine Kv ?_;exact Qe 6;exact Kq
 walk_at"~$&)4"
 refine QC (G0 ?_) Qk ?_ ?_
 walk_at"~9"
 exact Qe 10
 walk_at"~C,->$36"
 exact Qe 10
 walk_at"~/$&A,"
 refine QE ?_
 walk_at"~2"
 exact Qe 8
 walk_at"~#"
 exact Qe 10
 walk_at"~%"
 exact fun _=>rfl
 walk_at"~,5"
 exact Qe 8
noncomputable def QU:FM:=box frN Zv
noncomputable abbrev Jl:Stmt:=top 36
theorem Xn:FnScope ["script","k","cell","number"] ["script","k"] (Qf Jl):=⟨rfl,rfl,rfl,by decide +kernel,rfl,by decide +kernel,by decide +kernel⟩
noncomputable def ZW:FM:=QI 2
  (Qh (QP 2 (mC (.int 0)))
  (Qh (Q9 (Qg (Qc wGt (mFn VN (Qa (Qb 0) Qd)) (mC (.int 0)))) (QP 2 (Qc wIx (Qb 0) (Qc JC (Qb 1) (mFn VN (Qa (Qb 0) Qd))))) Qx)
  (Qh (QP 3 (Qc JC (Qc JB (Qc Zs (Qc Zs (Qb 2) (Qc JB (Qc JB (mC (.int 7919)) (Qb 1)) (Qb 1))) (mC (.int 1))) (mC (.int 1357913579135791357))) (mC (.int 2305843009213693951))))
  (Zg (Qc JC (Qc Zs (Qc Zs (Qc JB (Qb 3) (Qb 3)) (Qc JB (mC (.int 48271)) (Qb 3))) (Qc JB (mC (.int 104729)) (Qb 1))) (mC (.int 2305843009213693951)))))))
theorem Yg(d:DefAt K mg "_law_mixed" Jl ["script","k"])(b_len:mg "len"=none):Cal P w K mg base 1 "_law_mixed" ["script","k"] ZW:=by
 refine QK (k:=0) (more:=2) d Xn rfl fun _ _ _ _ _ _ _ hr=>?_;have nd_:=(Xn).nd
 walk_at"~;)->$3($&)4"
 refine QC Qha Qk ?_ ?_
 walk_at"~7$"
 exact b_len
 walk_at"~#+%88$$(,->$3*+=17$"
 exact b_len
 walk_at"~#+%88$$$&A)->$3="
 refine ZM Z0 Qk ?_ ?_
 walk_at"~66?"
 refine ZM Z0 Qk ?_ ?_;refine ZM Z0 Qk ?_ ?_
 walk_at"~(11((($&,5=66"
 refine ZM Z0 Qk ?_ ?_
 walk_at"~<<"
 refine ZM Z0 Qk ?_ ?_
 walk_at"~(<"
 refine ZM Z0 Qk ?_ ?_
 walk_at"~(1("
noncomputable def Qi:FM:=box frN ZW
noncomputable abbrev ZC:Stmt:=top 43
theorem XF:FnScope ["script","boxes","words","a","b","c","d","first","other","numbers","second","lines","backs","k","way","reading"] ["script","boxes","words"] (Qf ZC):=⟨rfl,rfl,rfl,by decide +kernel,rfl,by decide +kernel,by decide +kernel⟩
noncomputable abbrev Jz:SM:=(Zf (mMt "list" QB (Qb 11) (Qa (mFn Q4 (Qa (mC (.str "pair")) (Qa (Qc wIx (mFn Zb (Qa (Qb 5) (Qa (Qb 6) Qd))) (Qc JC (Qc KW (Qc wIx (Qb 9) (mC (.int 2))) (mC (.int 6))) (mC (.int 2)))) (Qa (Qc wIx (Qb 2) (Qc JC (Qc KW (Qc wIx (Qb 9) (mC (.int 3))) (Qc Zs (Qb 13) (mC (.int 1)))) (mC (.int 2)))) (Qa (Qb 5) (Qa (Qb 4) Qd)))))) Qd)))
noncomputable def JV:FM:=QI 13
  (Qh (Qel (Qcm [3,4,5,6]) (Qb 1))
  (Qh (Qel (Qcm [7,8]) (Qb 2))
  (Qh (QP 9 (Jh XL (V9 (Qa (mC (.int 8)) Qd)) [none,some 0] (ZU 0) Yk (Ql 2 Qi (Qa (Qb 1) (Qa (Qc Zs (mC (.int 4)) (Qb 0)) Qd)))))
  (Qh (QP 10 (Qc wIx (mFn Zb (Qa (mFn Q4 (Qa (mC (.str "same")) (Qa (Qb 4) (Qa (Qb 3) Qd)))) (Qa (mFn Q4 (Qa (mC (.str "pair")) (Qa (Qb 4) (Qa (Qb 8) (Qa (Qb 3) (Qa (Qb 6) Qd)))))) (Qa (mFn Q4 (Qa (mC (.str "pair")) (Qa (Qb 4) (Qa (Qb 8) (Qa (Qb 6) (Qa (Qb 3) Qd)))))) Qd)))) (Qc JC (Qc wIx (Qb 9) (mC (.int 0))) (mC (.int 3)))))
  (Qh (QP 11 (mFn Yi (Qa (mFn Q4 (Qa (mC (.str "pair")) (Qa (Qb 3) (Qa (Qb 7) (Qa (Qb 6) (Qa (Qb 6) Qd)))))) (Qa (Qb 10) Qd))))
  (Qh (Q9 (Qg (Qc wEq (Qc JC (Qc KW (Qc wIx (Qb 9) (mC (.int 0))) (mC (.int 3))) (mC (.int 3))) (mC (.int 0)))) (QP 11 (Qc Zs (Qb 11) (mFn Zb (Qa (mFn Q4 (Qa (mC (.str "none")) (Qa (Qb 3) Qd))) Qd)))) Qx)
  (Qh (QP 12 (mFn Zb (Qa (mFn Q4 (Qa (mC (.str "back")) (Qa (Qc wIx (mFn Zb (Qa (Qb 7) (Qa (Qb 8) Qd))) (mFn Qg1 (Qa (Qc wEq (Qc JC (Qc wIx (Qb 9) (mC (.int 1))) (mC (.int 4))) (mC (.int 0))) Qd))) Qd))) Qd)))
  (Qh (QP 11 (Qc QbA (Qb 11) (Qc wIx (mFn Zb (Qa (Qb 12) (Qa (Qc Zs (Qb 12) (Qb 12)) (Qa (Qc Zs (Qc Zs (mFn Zb (Qa (mFn Q4 (Qa (mC (.str "again")) Qd)) Qd)) (Qb 12)) (mFn Zb (Qa (mFn Q4 (Qa (mC (.str "end")) Qd)) Qd))) Qd)))) (Qc JC (Qc KW (Qc wIx (Qb 9) (mC (.int 1))) (mC (.int 4))) (mC (.int 3))))))
  (Qh (Vv (V9 (Qa (Qc JC (Qc wIx (Qb 9) (mC (.int 2))) (mC (.int 6))) Qd)) (ZU 13)
  Jz)
  (Qh (Q9 (Qg (Qc wEq (Qc JC (Qc wIx (Qb 9) (mC (.int 4))) (mC (.int 3))) (mC (.int 0)))) (QP 11 (Qc Zs (Qb 11) (mFn Zb (Qa (mFn Q4 (Qa (mC (.str "same")) (Qa (Qb 5) (Qa (Qb 4) Qd)))) (Qa (mFn Q4 (Qa (mC (.str "pair")) (Qa (Qb 6) (Qa (Qb 8) (Qa (Qb 5) (Qa (Qb 3) Qd)))))) Qd))))) Qx)
  (Qh (QP 14 (Qc JC (Qc wIx (Qb 9) (mC (.int 5))) (mC (.int 8))))
  (Qh (QP 15 (mFn Zb (Qa (mFn Q4 (Qa (mC (.str "tell")) (Qa (Qb 3) Qd))) (Qa (mFn Q4 (Qa (mC (.str "tell")) (Qa (Qb 4) Qd))) (Qa (mFn Q4 (Qa (mC (.str "first")) (Qa (Qb 5) (Qa (Qb 3) Qd)))) (Qa (mFn Q4 (Qa (mC (.str "second")) (Qa (Qb 5) (Qa (Qb 4) Qd)))) (Qa (mFn Q4 (Qa (mC (.str "first")) (Qa (Qb 5) (Qa (Qb 4) Qd)))) (Qa (mFn Q4 (Qa (mC (.str "same")) (Qa (Qb 5) (Qa (Qb 4) Qd)))) Qd))))))))
  (Qh (QP 15 (Qc Zs (Qb 15) (mFn Zb (Qa (mFn Q4 (Qa (mC (.str "pair")) (Qa (Qb 5) (Qa (Qb 7) (Qa (Qb 3) (Qa (Qb 4) Qd)))))) (Qa (mFn Q4 (Qa (mC (.str "tell")) (Qa (Qb 5) Qd))) Qd)))))
  (Zg (Qc Zs (Qb 11) (mFn Zb (Qa (Qc wIx (Qb 15) (Qb 14)) (Qa (mFn Q4 (Qa (mC (.str "tell")) (Qa (Qc wIx (mFn Zb (Qa (Qb 3) (Qa (Qb 4) (Qa (Qb 5) (Qa (Qb 6) Qd))))) (Qc JC (Qc wIx (Qb 9) (mC (.int 6))) (mC (.int 4)))) Qd))) (Qa (mFn Q4 (Qa (mC (.str "first")) (Qa (Qb 6) (Qa (Qb 5) Qd)))) (Qa (mFn Q4 (Qa (mC (.str "tell")) (Qa (Qb 6) Qd))) Qd))))))))))))))))))))
theorem Yh(d:DefAt K mg "_law_lines" ZC ["script","boxes","words"])(b_int:mg "int"=none)(b_range:mg "range"=none)(c__law_mixed:Cal P w K mg base 1 "_law_mixed" ["script","k"] Qi):Cal P w K mg base 2 "_law_lines" ["script","boxes","words"] JV:=by
 refine QK (k:=1) (more:=13) d XF rfl fun _ _ _ _ _ _ _ hr=>?_;have nd_:=(XF).nd
 walk_at"~;)"
 refine Wu ?_ ?_ ?_ ?_ ?_
 walk_at"~1"
 refine GW (is:=[3,4,5,6]) ?_ ?_ ?_ ?_
 walk_at"~$"
 refine QG (i:=3) (x:="a") nd_ rfl (Or.inl rfl) ?_ ?_;refine QG (i:=4) (x:="b") nd_ rfl (Or.inl rfl) ?_ ?_;refine QG (i:=5) (x:="c") nd_ rfl (Or.inl rfl) ?_ ?_;refine QG (i:=6) (x:="d") nd_ rfl (Or.inl rfl) ?_ ?_;exact XJ
 walk_at"~&&&&$$$$$)"
 refine Wu ?_ ?_ ?_ ?_ ?_
 walk_at"~?"
 refine GW (is:=[7,8]) ?_ ?_ ?_ ?_
 walk_at"~$"
 refine QG (i:=7) (x:="first") nd_ rfl (Or.inl rfl) ?_ ?_;refine QG (i:=8) (x:="other") nd_ rfl (Or.inl rfl) ?_ ?_;exact XJ
 walk_at"~&&$$$$$)"
 refine Qcg nd_ rfl (Or.inl rfl) ?_ V5 ?_ (GL (ks:=["script"]) (Nb:=["k","script"]) (cp:=[none,some 0]) (N:=["script","boxes","words","a","b","c","d","first","other","numbers","second","lines","backs","k","way","reading"]) (xs:=(Qf ZC)) rfl rfl (by decide +kernel) rfl (by decide +kernel) (by intro p hp;simp only[Nx,Ey,or_false]at hp;rcases hp with rfl<;>rfl) rfl rfl rfl (by decide +kernel)) ?_ (fun _ _ _ _ _=>?_) (fun _ _ _ _ _=>?_) ?_ ?_
 walk_at"~&$"
 refine Xe ?_ ?_ ?_ ?_
 walk_at"~$"
 exact b_range
 walk_at"~#(%$"
 exact QS (i:=0) (x:="k") (show List.Nodup (["k","script"]:List Str)from by decide +kernel) rfl (Or.inl rfl);refine Qj (k:=1) (ps:=["script","k"]) ?_ ?_ ?_ ?_ ?_ ?_ ?_ ?_;exact c__law_mixed
 walk_at"~0$#1#6(+%$8$$"
 exact fun _=>rfl
 walk_at"~$)->$3*B#:#/#C#<%#:#/#C#"
 exact Qe 8
 walk_at"~#<#"
 exact Qe 6
 walk_at"~%#:#/#C#"
 exact Qe 8
 walk_at"~#"
 exact Qe 6
 walk_at"~#<%%=*"
 exact Qe 9
 walk_at"~(($&)->$3"
 refine Jq ?_
 walk_at"~#:#/#<#"
 exact Qe 7
 walk_at"~#"
 exact Qe 6
 walk_at"~#"
 exact Qe 6
 walk_at"~%#"
 exact Qe 10
 walk_at"~%$&)4.9="
 refine ZM JX Qk ?_ ?_
 walk_at"~*"
 exact Qe 9
 walk_at"~((((,->$36"
 exact Qe 11
 walk_at"~B#:#/#<%%$&A)->$3B#:#/#*B#"
 exact Qe 7
 walk_at"~#"
 exact Qe 8
 walk_at"~%"
 refine Vz Qbi VL ?_ ?_ PyProof.Rows.boot_int ?_ ?_ ?_ ?_ ?_
 walk_at"~$"
 exact b_int
 walk_at"~#"
 refine Qep (Qb0 ?_) Qk ?_ ?_
 walk_at"~9=*"
 exact Qe 9
 walk_at"~(((%88$$%%$&)->$3"
 refine ZM Qc1 Qk ?_ ?_;exact Qe 11
 walk_at"~*B#"
 exact Qe 12
 walk_at"~#6"
 exact Qe 12;exact Qe 12
 walk_at"~#66B#:#/%%"
 exact Qe 12
 walk_at"~B#:#/%%%="
 refine ZM JX Qk ?_ ?_
 walk_at"~*"
 exact Qe 9
 walk_at"~((($&)"
 refine Jd ?_ ?_ ?_ ?_ ?_ ?_;exact NV
 walk_at"~$"
 refine Xe ?_ ?_ ?_ ?_
 walk_at"~$"
 exact b_range
 walk_at"~#=*"
 exact Qe 9
 walk_at"~((%$"
 exact QS (i:=13) (x:="k") nd_ rfl (Or.inl rfl)
 walk_at"~,"
 refine QE ?_
 walk_at"~2"
 exact Qe 11
 walk_at"~#:#/#*B#"
 exact Qe 5
 walk_at"~#"
 exact Qe 6
 walk_at"~%="
 refine ZM JX Qk ?_ ?_
 walk_at"~*"
 exact Qe 9
 walk_at"~(((#*?="
 refine ZM JX Qk ?_ ?_
 walk_at"~*"
 exact Qe 9
 walk_at"~(6"
 exact Qe 13
 walk_at"~((#"
 exact Qe 5
 walk_at"~#C%%"
 exact fun _=>rfl
 walk_at"~)4.9=*"
 exact Qe 9
 walk_at"~(((,->$36"
 exact Qe 11
 walk_at"~B#:#/#"
 exact Qe 5
 walk_at"~#C%#:#/#"
 exact Qe 6
 walk_at"~#"
 exact Qe 8
 walk_at"~#"
 exact Qe 5
 walk_at"~#<%%$&A)->$3=*"
 exact Qe 9
 walk_at"~(($&)->$3B#:#/#<%#:#/#C%#:#/#"
 exact Qe 5
 walk_at"~#<%#:#/#"
 exact Qe 5
 walk_at"~#C%#:#/#"
 exact Qe 5
 walk_at"~#C%#:#/#"
 exact Qe 5
 walk_at"~#C%%$&)->$36"
 exact Qe 15
 walk_at"~B#:#/#"
 exact Qe 5
 walk_at"~#"
 exact Qe 7
 walk_at"~#<#C%#:#/#"
 exact Qe 5
 walk_at"~%%$&,56"
 exact Qe 11
 walk_at"~B#*"
 exact Qe 15;exact Qe 14
 walk_at"~#:#/#*B#<#C#"
 exact Qe 5
 walk_at"~#"
 exact Qe 6
 walk_at"~%=*"
 exact Qe 9
 walk_at"~((%#:#/#"
 exact Qe 6
 walk_at"~#"
 exact Qe 5
 walk_at"~%#:#/#"
 exact Qe 6
 walk_at"~%%"
noncomputable def Je:FM:=box frN JV
noncomputable abbrev JT:Stmt:=top 14
theorem Kg:FnScope ["program","lines","part"] ["program"] (Qf JT):=⟨rfl,rfl,rfl,by decide +kernel,rfl,by decide +kernel,by decide +kernel⟩
noncomputable abbrev VT:SM:=(Zf (mMt "list" Kp (Qb 1) (Qa (Qc wIx (Qb 2) (mC (.int 1))) Qd)))
noncomputable def Vj:FM:=QI 2
  (Qh (QP 1 (mFn Yi Qd))
  (Qh (Vv (Jw (Qb 0)) (ZU 2)
  VT)
  (Zg (Qb 1))))
theorem Y1(d:DefAt K mg "all_lines" JT ["program"]):Cal P w K mg base 1 "all_lines" ["program"] Vj:=by
 refine QK (k:=0) (more:=2) d Kg rfl fun _ _ _ _ _ _ _ hr=>?_;have nd_:=(Kg).nd
 walk_at"~;)->$3"
 refine Jq ?_
 walk_at"~%$&)"
 refine Jd ?_ ?_ ?_ ?_ ?_ ?_;exact NV
 walk_at"~$"
 refine V1 ?_
 walk_at"~+"
 exact QS (i:=2) (x:="part") nd_ rfl (Or.inl rfl)
 walk_at"~,"
 refine QE ?_;refine Yr Ej De FL Ge ?_ ?_
 walk_at"~1#*?(%"
 exact fun _=>rfl
 walk_at"~,51"
noncomputable def Zz:FM:=box frN Vj
noncomputable abbrev Vb:Stmt:=top 15
theorem K8:FnScope ["line"] ["line"] (Qf Vb):=⟨rfl,rfl,rfl,by decide +kernel,rfl,by decide +kernel,by decide +kernel⟩
noncomputable def VF:FM:=QI 0
  (Qh (Q9 (Qg (Qc wEq (Qc wIx (Qb 0) (mC (.int 0))) (mC (.str "pair")))) (Zg (mFn Zb (Qa (Qc wIx (Qb 0) (mC (.int 1))) (Qa (Qc wIx (Qb 0) (mC (.int 3))) (Qa (Qc wIx (Qb 0) (mC (.int 4))) Qd))))) Qx)
  (Qh (Q9 (Qg (Qc (wIn false) (Qc wIx (Qb 0) (mC (.int 0))) (mFn Q4 (Qa (mC (.str "first")) (Qa (mC (.str "second")) (Qa (mC (.str "same")) (Qa (mC (.str "none")) (Qa (mC (.str "tell")) Qd)))))))) (Zg (mFn QdF (Qa (mSl (Qb 0) (QaB (mC (.int 1))) QaN) Qd))) Qx)
  (Zg (mFn Zb Qd))))
theorem Um(d:DefAt K mg "boxes_in" Vb ["line"])(b_list:mg "list"=none):Cal P w K mg base 1 "boxes_in" ["line"] VF:=by
 refine QK (k:=0) (more:=0) d K8 rfl fun _ _ _ _ _ _ _ hr=>?_;have nd_:=(K8).nd
 walk_at"~;)4.9*+(/,5B#*+(#*+(#*+(%A)4"
 refine QC (G0 ?_) Qk ?_ ?_
 walk_at"~9*+(:#/#/#/#/#/%,5"
 refine Vz Qau VL ?_ ?_ Ih ?_ ?_ ?_ ?_ ?_
 walk_at"~$"
 exact b_list
 walk_at"~#"
 refine Ky ?_ ?_ ?_
 walk_at"~+"
 refine Kv ?_
 walk_at"~("
 exact Kq
 walk_at"~%88$$A,5B%"
noncomputable def J9:FM:=box frN VF
noncomputable abbrev Vd:Stmt:=top 12
theorem KZ:FnScope ["program","boxes","line"] ["program"] (Qf Vd):=⟨rfl,rfl,rfl,by decide +kernel,rfl,by decide +kernel,by decide +kernel⟩
noncomputable abbrev Xd:SM:=(Zf (mMt "list" Y3 (Qb 1) (Qa (Ql 1 J9 (Qa (Qb 2) Qd)) Qd)))
noncomputable def Vx:FM:=QI 2
  (Qh (QP 1 (mFn Yi Qd))
  (Qh (Vv (Jw (Ql 1 Zz (Qa (Qb 0) Qd))) (ZU 2)
  Xd)
  (Zg (mFn VD (Qa (Qb 1) Qd)))))
theorem WI(d:DefAt K mg "boxes_of" Vd ["program"])(b_set:mg "set"=none)(b_sorted:mg "sorted"=none)(c_all_lines:Cal P w K mg base 1 "all_lines" ["program"] Zz)(c_boxes_in:Cal P w K mg base 1 "boxes_in" ["line"] J9):Cal P w K mg base 2 "boxes_of" ["program"] Vx:=by
 refine QK (k:=1) (more:=2) d KZ rfl fun _ _ _ _ _ _ _ hr=>?_;have nd_:=(KZ).nd
 walk_at"~;)->$3"
 refine Jq ?_
 walk_at"~%$&)"
 refine Jd ?_ ?_ ?_ ?_ ?_ ?_;exact NV
 walk_at"~$"
 refine V1 ?_;refine Qj (k:=1) (ps:=["program"]) ?_ ?_ ?_ ?_ ?_ ?_ ?_ ?_;exact c_all_lines
 walk_at"~0$#+%$8$$"
 exact QS (i:=2) (x:="line") nd_ rfl (Or.inl rfl)
 walk_at"~,"
 refine QE ?_;refine Yr Ej De FL Qay ?_ ?_
 walk_at"~1#E"
 exact c_boxes_in
 walk_at"~0$#?%$8$$%"
 exact fun _=>rfl
 walk_at"~,5"
 refine Ue ?_ ?_ ?_ ?_ ?_ ?_ ?_
 walk_at"~$$"
 exact b_sorted
 walk_at"~$"
 exact b_set
 walk_at"~1$"
noncomputable def Jx:FM:=box frN Vx
noncomputable abbrev Zo:Stmt:=KE (top 33) 0
theorem J5:FnScope ["self","program","size"] ["self","program","size"] (Qf Zo):=⟨rfl,rfl,rfl,by decide +kernel,rfl,by decide +kernel,by decide +kernel⟩
noncomputable def Qu(C_Shelf:Addr):FM:=QI 0
  (Qh (Xp C_Shelf "size" (Qb 0) (Qb 2))
  (Qh (Xp C_Shelf "held" (Qb 0) (mFn WX (Qa (Jh XL (Jw (Ql 1 Jx (Qa (Qb 1) Qd))) [none] (ZU 0) Yk (mFn Q4 (Qa (Qb 0) (Qa (mC .non) Qd)))) Qd)))
  (Qh (Xp C_Shelf "rooms" (Qb 0) (mFn Yi Qd))
  (Qh (Xp C_Shelf "taken" (Qb 0) (mFn Yi Qd))
  (Qh (Xp C_Shelf "words" (Qb 0) (mFn Yi Qd))
  (Qh (Xp C_Shelf "in_use" (Qb 0) Qbl)
  (Qh (Xp C_Shelf "gone" (Qb 0) Qbl)
  (Qh (Xp C_Shelf "fresh" (Qb 0) (mC (.int 0)))
  (Xp C_Shelf "free_again" (Qb 0) (mFn Yi Qd))))))))))
theorem Xm(d:MetAt K C_Shelf "__init__" "Shelf.__init__" Zo ["self","program","size"])(k_Shelf:ClsAt K mg C_Shelf "Shelf")(n_free_again:NoAttr K C_Shelf "free_again")(n_fresh:NoAttr K C_Shelf "fresh")(n_gone:NoAttr K C_Shelf "gone")(n_held:NoAttr K C_Shelf "held")(n_in_use:NoAttr K C_Shelf "in_use")(n_rooms:NoAttr K C_Shelf "rooms")(n_size:NoAttr K C_Shelf "size")(n_taken:NoAttr K C_Shelf "taken")(n_words:NoAttr K C_Shelf "words")(b_dict:mg "dict"=none)(c_boxes_of:Cal P w K mg base 2 "boxes_of" ["program"] Jx):Mal P w K mg base 3 C_Shelf "__init__" ["self","program","size"] (Qu C_Shelf):=by
 refine Ug (k:=2) (more:=0) d J5 rfl fun _ _ _ _ _ _ _ hr=>?_;have nd_:=(J5).nd
 walk_at"~;)"
 refine JW k_Shelf.cl n_size ?_ ?_ ?_
 walk_at"~+?$)"
 refine JW k_Shelf.cl n_held ?_ ?_ ?_
 walk_at"~+"
 refine Vz (UH ?_) VL ?_ ?_ PyProof.Rows.boot_dict ?_ ?_ ?_ ?_ ?_
 walk_at"~$$"
 exact b_dict
 walk_at"~#"
 refine XI V5 ?_ (KQ (Nb:=["box"]) (cp:=[none]) rfl (by decide +kernel) (by decide +kernel) rfl rfl) ?_ (fun _ _ _ _ _=>?_) (fun _ _ _ _ _=>?_)
 walk_at"~$"
 refine V1 ?_;refine Qj (k:=2) (ps:=["program"]) ?_ ?_ ?_ ?_ ?_ ?_ ?_ ?_;exact c_boxes_of
 walk_at"~0$#1%$8$$"
 exact QS (i:=0) (x:="box") (show List.Nodup (["box"]:List Str)from by decide +kernel) rfl (Or.inl rfl)
 walk_at"~:#+#"
 exact QV
 walk_at"~%%88$$$)"
 refine JW k_Shelf.cl n_rooms ?_ ?_ ?_
 walk_at"~+"
 refine Jq ?_
 walk_at"~%$)"
 refine JW k_Shelf.cl n_taken ?_ ?_ ?_
 walk_at"~+"
 refine Jq ?_
 walk_at"~%$)"
 refine JW k_Shelf.cl n_words ?_ ?_ ?_
 walk_at"~+"
 refine Jq ?_
 walk_at"~%$)"
 refine JW k_Shelf.cl n_in_use ?_ ?_ ?_
 walk_at"~+"
 exact UW
 walk_at"~$)"
 refine JW k_Shelf.cl n_gone ?_ ?_ ?_
 walk_at"~+"
 exact UW
 walk_at"~$)"
 refine JW k_Shelf.cl n_fresh ?_ ?_ ?_
 walk_at"~+($,"
 refine JW k_Shelf.cl n_free_again ?_ ?_ ?_
 walk_at"~+"
 refine Jq ?_
 walk_at"~%$"
noncomputable abbrev VH:Stmt:=top 18
theorem YA:FnScope ["program","spot","lines"] ["program","spot"] (Qf VH):=⟨rfl,rfl,rfl,by decide +kernel,rfl,by decide +kernel,by decide +kernel⟩
noncomputable def Jt:FM:=QI 1
  (Qh (QP 2 (Qc wIx (Qc wIx (Qb 0) (Qc wIx (Qb 1) (mC (.int 1)))) (mC (.int 1))))
  (Qh (Q9 (QaR (YK (Qc wIx (Qb 1) (mC (.int 3)))) (Qg (Qc wEq (Qc wIx (Qb 1) (mC (.int 2))) (mFn VN (Qa (Qb 2) Qd))))) (Zg (mC .non)) Qx)
  (Zg (Qc wIx (Qb 2) (Qc wIx (Qb 1) (mC (.int 2)))))))
theorem UM(d:DefAt K mg "line_of" VH ["program","spot"])(b_len:mg "len"=none):Cal P w K mg base 1 "line_of" ["program","spot"] Jt:=by
 refine QK (k:=0) (more:=1) d YA rfl fun _ _ _ _ _ _ _ hr=>?_;have nd_:=(YA).nd
 walk_at"~;)->$3**+*1(($&)4"
 refine PMW.pt ?_;refine YC ?_ ?_;refine J8 ?_
 walk_at"~*1("
 refine XM ?_
 walk_at"~.9*1(7$"
 exact b_len
 walk_at"~#?%88$$,5"
 exact QV
 walk_at"~A,5*?*1("
noncomputable def ZQ:FM:=box frN Jt
noncomputable abbrev Xk:Stmt:=top 22
theorem Uc:FnScope ["spot","k"] ["spot","k"] (Qf Xk):=⟨rfl,rfl,rfl,by decide +kernel,rfl,by decide +kernel,by decide +kernel⟩
noncomputable def XO:FM:=QI 0
  (Zg (mFn Q4 (Qa (Qc wIx (Qb 0) (mC (.int 0))) (Qa (Qc wIx (Qb 0) (mC (.int 1))) (Qa (Qb 1) (Qa (mC (.bl false)) Qd))))))
theorem Qas(d:DefAt K mg "at_gap" Xk ["spot","k"]):Cal P w K mg base 1 "at_gap" ["spot","k"] XO:=by
 refine QK (k:=0) (more:=0) d Uc rfl fun _ _ _ _ _ _ _ hr=>?_;have nd_:=(Uc).nd
 walk_at"~;,5:#*+(#*+(#1#"
 exact KI
 walk_at"~%"
noncomputable def Q6:FM:=box frN XO
noncomputable abbrev VQ:Stmt:=top 23
theorem YQ:FnScope ["spot","k"] ["spot","k"] (Qf VQ):=⟨rfl,rfl,rfl,by decide +kernel,rfl,by decide +kernel,by decide +kernel⟩
noncomputable def V8:FM:=QI 0
  (Zg (mFn Q4 (Qa (Qc wIx (Qb 0) (mC (.int 0))) (Qa (Qc wIx (Qb 0) (mC (.int 1))) (Qa (Qb 1) (Qa (mC (.bl true)) Qd))))))
theorem Gf(d:DefAt K mg "at_head" VQ ["spot","k"]):Cal P w K mg base 1 "at_head" ["spot","k"] V8:=by
 refine QK (k:=0) (more:=0) d YQ rfl fun _ _ _ _ _ _ _ hr=>?_;have nd_:=(YQ).nd
 walk_at"~;,5:#*+(#*+(#1#"
 exact KI
 walk_at"~%"
noncomputable def J2:FM:=box frN V8
noncomputable abbrev ZB:Stmt:=top 4
theorem VC:FnScope ["line"] ["line"] (Qf ZB):=⟨rfl,rfl,rfl,by decide +kernel,rfl,by decide +kernel,by decide +kernel⟩
noncomputable def Jb:FM:=QI 0
  (Qh (Q9 (QaR (Qg (Qc wEq (Qc wIx (Qb 0) (mC (.int 0))) (mC (.str "either")))) (Qg (Qc wEq (Qc wIx (Qb 0) (mC (.int 0))) (mC (.str "again"))))) (Zg (mC (.int 1))) Qx)
  (Zg (mIf (Qg (Qc wEq (Qc wIx (Qb 0) (mC (.int 0))) (mC (.str "end")))) (mUn QaL (mC (.int 1))) (mC (.int 0)))))
theorem Kk(d:DefAt K mg "level_change" ZB ["line"]):Cal P w K mg base 1 "level_change" ["line"] Jb:=by
 refine QK (k:=0) (more:=0) d VC rfl fun _ _ _ _ _ _ _ hr=>?_;have nd_:=(VC).nd
 walk_at"~;)4"
 refine PMW.pt ?_;refine YC ?_ ?_
 walk_at"~.9*+(/"
 refine XM ?_
 walk_at"~.9*+(/,5(A,5"
 refine WQ ?_ ?_ ?_
 walk_at"~.9*+(/"
 refine X4 ?_
 walk_at"~(("
noncomputable def QH:FM:=box frN Jb
noncomputable abbrev VM:Stmt:=top 3
theorem Yy:FnScope ["lines","k","level","j"] ["lines","k"] (Qf VM):=⟨rfl,rfl,rfl,by decide +kernel,rfl,by decide +kernel,by decide +kernel⟩
noncomputable abbrev Vw:SM:=(Qh (Qf8 2 Qah (Ql 1 QH (Qa (Qc wIx (Qb 0) (Qb 3)) Qd)))
  (Q9 (Qg (Qc wEq (Qb 2) (mC (.int 1)))) (Zg (Qb 3)) Qx))
noncomputable def V4:FM:=QI 2
  (Qh (QP 2 (mC (.int 0)))
  (Qh (Vv (Qi5 (Qa (Qc QbX (Qb 1) (mC (.int 1))) (Qa (mUn QaL (mC (.int 1))) (Qa (mUn QaL (mC (.int 1))) Qd)))) (ZU 3)
  Vw)
  (Zg (mC .non))))
theorem UF(d:DefAt K mg "head_of" VM ["lines","k"])(b_range:mg "range"=none)(c_level_change:Cal P w K mg base 1 "level_change" ["line"] QH):Cal P w K mg base 2 "head_of" ["lines","k"] V4:=by
 refine QK (k:=1) (more:=2) d Yy rfl fun _ _ _ _ _ _ _ hr=>?_;have nd_:=(Yy).nd
 walk_at"~;)->$3($&)"
 refine Jd ?_ ?_ ?_ ?_ ?_ ?_;exact NV
 walk_at"~$"
 refine Qhr ?_ ?_ ?_ ?_ ?_
 walk_at"~$"
 exact b_range
 walk_at"~#"
 refine ZM Yc Qk ?_ ?_
 walk_at"~1(#"
 refine X4 ?_
 walk_at"~(#"
 refine X4 ?_
 walk_at"~(%$$"
 exact QS (i:=3) (x:="j") nd_ rfl (Or.inl rfl)
 walk_at"~)"
 refine UL ?_ ?_ ?_ WD Qk ?_ ?_
 walk_at"~>$3E"
 exact c_level_change
 walk_at"~0$#*+<%$8$$&,4.9?(,5<A"
 exact fun _=>rfl
 walk_at"~,5"
 exact QV
noncomputable def J6:FM:=box frN V4
noncomputable abbrev ZA:Stmt:=top 5
theorem VE:FnScope ["lines","k","kind","level","j"] ["lines","k","kind"] (Qf ZA):=⟨rfl,rfl,rfl,by decide +kernel,rfl,by decide +kernel,by decide +kernel⟩
noncomputable abbrev ZR:SM:=(Qh (Q9 (Z8 (Qg (Qc wEq (Qb 3) (mC (.int 0)))) (Qg (Qc wEq (Qc wIx (Qc wIx (Qb 0) (Qb 4)) (mC (.int 0))) (Qb 2)))) (Zg (Qb 4)) Qx)
  (Qf8 3 Qah (Ql 1 QH (Qa (Qc wIx (Qb 0) (Qb 4)) Qd))))
noncomputable def Ja:FM:=QI 2
  (Qh (QP 3 (mC (.int 0)))
  (Qh (Vv (Qhy (Qa (Qc Zs (Qb 1) (mC (.int 1))) (Qa (mFn VN (Qa (Qb 0) Qd)) Qd))) (ZU 4)
  ZR)
  (Zg (mC .non))))
theorem Kh(d:DefAt K mg "found_behind" ZA ["lines","k","kind"])(b_len:mg "len"=none)(b_range:mg "range"=none)(c_level_change:Cal P w K mg base 1 "level_change" ["line"] QH):Cal P w K mg base 2 "found_behind" ["lines","k","kind"] Ja:=by
 refine QK (k:=1) (more:=2) d VE rfl fun _ _ _ _ _ _ _ hr=>?_;have nd_:=(VE).nd
 walk_at"~;)->$3($&)"
 refine Jd ?_ ?_ ?_ ?_ ?_ ?_;exact NV
 walk_at"~$"
 refine Qhz ?_ ?_ ?_ ?_ ?_
 walk_at"~$"
 exact b_range
 walk_at"~#61(#7$"
 exact b_len
 walk_at"~#+%88$$%$$"
 exact QS (i:=4) (x:="j") nd_ rfl (Or.inl rfl)
 walk_at"~)4"
 refine PMW.pt ?_;refine ZO ?_ ?_
 walk_at"~.9<("
 refine ZJ ?_
 walk_at"~.9**+C(?,5CA,"
 refine UL ?_ ?_ ?_ WD Qk ?_ ?_
 walk_at"~>$3E"
 exact c_level_change
 walk_at"~0$#*+C%$8$$&"
 exact fun _=>rfl
 walk_at"~,5"
 exact QV
noncomputable def Zh:FM:=box frN Ja
noncomputable abbrev Kx:Stmt:=top 2
theorem G4:FnScope ["lines","k"] ["lines","k"] (Qf Kx):=⟨rfl,rfl,rfl,by decide +kernel,rfl,by decide +kernel,by decide +kernel⟩
noncomputable def Ul:FM:=QI 0
  (Zg (Ql 3 Zh (Qa (Qb 0) (Qa (Qb 1) (Qa (mC (.str "or")) Qd)))))
theorem QbU(d:DefAt K mg "or_of" Kx ["lines","k"])(c_found_behind:Cal P w K mg base 2 "found_behind" ["lines","k","kind"] Zh):Cal P w K mg base 3 "or_of" ["lines","k"] Ul:=by
 refine QK (k:=2) (more:=0) d G4 rfl fun _ _ _ _ _ _ _ hr=>?_;have nd_:=(G4).nd
 walk_at"~;,5"
 refine Qj (k:=2) (ps:=["lines","k","kind"]) ?_ ?_ ?_ ?_ ?_ ?_ ?_ ?_;exact c_found_behind
 walk_at"~0$#+#1#/%$8$$"
noncomputable def Gz:FM:=box frN Ul
noncomputable abbrev Xx:Stmt:=top 1
theorem Ur:FnScope ["lines","k"] ["lines","k"] (Qf Xx):=⟨rfl,rfl,rfl,by decide +kernel,rfl,by decide +kernel,by decide +kernel⟩
noncomputable def XT:FM:=QI 0
  (Zg (Ql 3 Zh (Qa (Qb 0) (Qa (Qb 1) (Qa (mC (.str "end")) Qd)))))
theorem Qaf(d:DefAt K mg "end_of" Xx ["lines","k"])(c_found_behind:Cal P w K mg base 2 "found_behind" ["lines","k","kind"] Zh):Cal P w K mg base 3 "end_of" ["lines","k"] XT:=by
 refine QK (k:=2) (more:=0) d Ur rfl fun _ _ _ _ _ _ _ hr=>?_;have nd_:=(Ur).nd
 walk_at"~;,5"
 refine Qj (k:=2) (ps:=["lines","k","kind"]) ?_ ?_ ?_ ?_ ?_ ?_ ?_ ?_;exact c_found_behind
 walk_at"~0$#+#1#/%$8$$"
noncomputable def J1:FM:=box frN XT
noncomputable abbrev ZI:Stmt:=top 20
theorem Vs:FnScope ["lines","spot","k","kind"] ["lines","spot"] (Qf ZI):=⟨rfl,rfl,rfl,by decide +kernel,rfl,by decide +kernel,by decide +kernel⟩
noncomputable def QT:FM:=QI 2
  (Qh (QP 2 (Qc wIx (Qb 1) (mC (.int 2))))
  (Qh (QP 3 (Qc wIx (Qc wIx (Qb 0) (Qb 2)) (mC (.int 0))))
  (Qh (Q9 (Qg (Qc wEq (Qb 3) (mC (.str "either")))) (Zg (mFn Zb (Qa (Ql 2 Q6 (Qa (Qb 1) (Qa (Qc Zs (Qb 2) (mC (.int 1))) Qd))) (Qa (Ql 2 Q6 (Qa (Qb 1) (Qa (Qc Zs (Ql 2 Gz (Qa (Qb 0) (Qa (Qb 2) Qd))) (mC (.int 1))) Qd))) Qd)))) Qx)
  (Qh (Q9 (Qg (Qc wEq (Qb 3) (mC (.str "or")))) (Zg (mFn Zb (Qa (Ql 2 Q6 (Qa (Qb 1) (Qa (Qc Zs (Ql 2 J1 (Qa (Qb 0) (Qa (Qb 2) Qd))) (mC (.int 1))) Qd))) Qd))) Qx)
  (Qh (Q9 (Qg (Qc wEq (Qb 3) (mC (.str "again")))) (Zg (mFn Zb (Qa (Ql 2 J2 (Qa (Qb 1) (Qa (Qb 2) Qd))) Qd))) Qx)
  (Qh (Q9 (Z8 (Qg (Qc wEq (Qb 3) (mC (.str "end")))) (Qg (Qc wEq (Qc wIx (Qc wIx (Qb 0) (Ql 2 J6 (Qa (Qb 0) (Qa (Qb 2) Qd)))) (mC (.int 0))) (mC (.str "again"))))) (Zg (mFn Zb (Qa (Ql 2 J2 (Qa (Qb 1) (Qa (Ql 2 J6 (Qa (Qb 0) (Qa (Qb 2) Qd))) Qd))) Qd))) Qx)
  (Zg (mFn Zb (Qa (Ql 2 Q6 (Qa (Qb 1) (Qa (Qc Zs (Qb 2) (mC (.int 1))) Qd))) Qd)))))))))
theorem Ki(d:DefAt K mg "next_in_part" ZI ["lines","spot"])(c_at_gap:Cal P w K mg base 1 "at_gap" ["spot","k"] Q6)(c_at_head:Cal P w K mg base 1 "at_head" ["spot","k"] J2)(c_end_of:Cal P w K mg base 3 "end_of" ["lines","k"] J1)(c_head_of:Cal P w K mg base 2 "head_of" ["lines","k"] J6)(c_or_of:Cal P w K mg base 3 "or_of" ["lines","k"] Gz):Cal P w K mg base 4 "next_in_part" ["lines","spot"] QT:=by
 refine QK (k:=3) (more:=2) d Vs rfl fun _ _ _ _ _ _ _ hr=>?_;have nd_:=(Vs).nd
 walk_at"~;)->$3*1($&)->$3**+?($&)4.9</,5B#D"
 exact c_at_gap
 walk_at"~0$#1#6?(%$8$$#D"
 exact c_at_gap
 walk_at"~0$#1#6"
 refine Qj (k:=3) (ps:=["lines","k"]) ?_ ?_ ?_ ?_ ?_ ?_ ?_ ?_;exact c_or_of
 walk_at"~0$#+#?%$8$$(%$8$$%A)4.9</,5B#D"
 exact c_at_gap
 walk_at"~0$#1#6"
 refine Qj (k:=3) (ps:=["lines","k"]) ?_ ?_ ?_ ?_ ?_ ?_ ?_ ?_;exact c_end_of
 walk_at"~0$#+#?%$8$$(%$8$$%A)4.9</,5B#D"
 exact c_at_head
 walk_at"~0$#1#?%$8$$%A)4"
 refine PMW.pt ?_;refine ZO ?_ ?_
 walk_at"~.9</"
 refine ZJ ?_
 walk_at"~.9**+"
 refine Qj (k:=2) (ps:=["lines","k"]) ?_ ?_ ?_ ?_ ?_ ?_ ?_ ?_;exact c_head_of
 walk_at"~0$#+#?%$8$$(/,5B#D"
 exact c_at_head
 walk_at"~0$#1#"
 refine Qj (k:=2) (ps:=["lines","k"]) ?_ ?_ ?_ ?_ ?_ ?_ ?_ ?_;exact c_head_of
 walk_at"~0$#+#?%$8$$%$8$$%A,5B#D"
 exact c_at_gap
 walk_at"~0$#1#6?(%$8$$%"
noncomputable def ZE:FM:=box frN QT
noncomputable abbrev JI:Stmt:=top 21
theorem Ka:FnScope ["spot","way"] ["spot"] (Qf JI):=⟨rfl,rfl,rfl,by decide +kernel,rfl,by decide +kernel,by decide +kernel⟩
noncomputable def Vc:FM:=QI 1
  (Qh (QP 1 (Qc wIx (Qb 0) (mC (.int 0))))
  (Qh (Q9 (KM (YK (Qb 1))) (Zg (mFn Zb Qd)) Qx)
  (Zg (mFn Zb (Qa (mFn Q4 (Qa (mSl (Qb 1) QaN (QaB (mUn QaL (mC (.int 1))))) (Qa (Qc wIx (Qc wIx (Qb 1) (mUn QaL (mC (.int 1)))) (mC (.int 0))) (Qa (Qc Zs (Qc wIx (Qc wIx (Qb 1) (mUn QaL (mC (.int 1)))) (mC (.int 1))) (mC (.int 1))) (Qa (mC (.bl false)) Qd))))) Qd)))))
theorem Wb(d:DefAt K mg "behind_do" JI ["spot"]):Cal P w K mg base 1 "behind_do" ["spot"] Vc:=by
 refine QK (k:=0) (more:=1) d Ka rfl fun _ _ _ _ _ _ _ hr=>?_;have nd_:=(Ka).nd
 walk_at"~;)->$3*+($&)4"
 refine UG ?_;refine J8 ?_
 walk_at"~1,5B%A,5B#:#"
 refine Ky ?_ ?_ ?_
 walk_at"~1"
 exact Kq;refine Kv ?_;refine X4 ?_
 walk_at"~(#**1"
 refine X4 ?_
 walk_at"~((#6**1"
 refine X4 ?_
 walk_at"~(((#"
 exact KI
 walk_at"~%%"
noncomputable def Vq:FM:=box frN Vc
noncomputable abbrev Z2:Stmt:=top 13
theorem VW:FnScope ["program","name"] ["program","name"] (Qf Z2):=⟨rfl,rfl,rfl,by decide +kernel,rfl,by decide +kernel,by decide +kernel⟩
noncomputable def VB:FM:=QI 0
  (Zg (mMt "list" KU (Jh XL (Jw (Qb 0)) [none] (ZU 0) Yk (Qc wIx (Qb 0) (mC (.int 0)))) (Qa (Qb 1) Qd)))
theorem K2(d:DefAt K mg "part_number" Z2 ["program","name"]):Cal P w K mg base 1 "part_number" ["program","name"] VB:=by
 refine QK (k:=0) (more:=0) d VW rfl fun _ _ _ _ _ _ _ hr=>?_;have nd_:=(VW).nd
 walk_at"~;,5"
 refine Yr Ej DD FT (Ua ?_) ?_ ?_
 walk_at"~9"
 refine XI V5 ?_ (KQ (Nb:=["part"]) (cp:=[none]) rfl (by decide +kernel) (by decide +kernel) rfl rfl) ?_ (fun _ _ _ _ _=>?_) (fun _ _ _ _ _=>?_)
 walk_at"~$"
 refine V1 ?_
 walk_at"~+"
 exact QS (i:=0) (x:="part") (show List.Nodup (["part"]:List Str)from by decide +kernel) rfl (Or.inl rfl)
 walk_at"~*+(#1%"
noncomputable def VX:FM:=box frN VB
noncomputable abbrev Jj:Stmt:=top 19
theorem Xr:FnScope ["program","spot","lines","line","way"] ["program","spot"] (Qf Jj):=⟨rfl,rfl,rfl,by decide +kernel,rfl,by decide +kernel,by decide +kernel⟩
noncomputable def Zw:FM:=QI 3
  (Qh (QP 2 (Qc wIx (Qc wIx (Qb 0) (Qc wIx (Qb 1) (mC (.int 1)))) (mC (.int 1))))
  (Qh (Q9 (YK (Qc wIx (Qb 1) (mC (.int 3)))) (Zg (mFn Zb (Qa (Ql 2 Q6 (Qa (Qb 1) (Qa (Qc Zs (Ql 2 J1 (Qa (Qb 2) (Qa (Qc wIx (Qb 1) (mC (.int 2))) Qd))) (mC (.int 1))) Qd))) (Qa (Ql 2 Q6 (Qa (Qb 1) (Qa (Qc Zs (Qc wIx (Qb 1) (mC (.int 2))) (mC (.int 1))) Qd))) Qd)))) Qx)
  (Qh (QP 3 (Ql 2 ZQ (Qa (Qb 0) (Qa (Qb 1) Qd))))
  (Qh (Q9 (Qg (Qc wIs (Qb 3) (mC .non))) (Zg (Ql 1 Vq (Qa (Qb 1) Qd))) Qx)
  (Qh (Q9 (Qg (Qc wEq (Qc wIx (Qb 3) (mC (.int 0))) (mC (.str "do")))) (Qh (QP 4 (Qc Zs (Qc wIx (Qb 1) (mC (.int 0))) (mFn Q4 (Qa (mFn Q4 (Qa (Qc wIx (Qb 1) (mC (.int 1))) (Qa (Qc wIx (Qb 1) (mC (.int 2))) Qd))) Qd))))
  (Zg (mFn Zb (Qa (mFn Q4 (Qa (Qb 4) (Qa (Ql 2 VX (Qa (Qb 0) (Qa (Qc wIx (Qb 3) (mC (.int 1))) Qd))) (Qa (mC (.int 0)) (Qa (mC (.bl false)) Qd))))) Qd)))) Qx)
  (Zg (Ql 2 ZE (Qa (Qb 2) (Qa (Qb 1) Qd)))))))))
theorem Yl(d:DefAt K mg "next_spots" Jj ["program","spot"])(c_at_gap:Cal P w K mg base 1 "at_gap" ["spot","k"] Q6)(c_behind_do:Cal P w K mg base 1 "behind_do" ["spot"] Vq)(c_end_of:Cal P w K mg base 3 "end_of" ["lines","k"] J1)(c_line_of:Cal P w K mg base 1 "line_of" ["program","spot"] ZQ)(c_next_in_part:Cal P w K mg base 4 "next_in_part" ["lines","spot"] ZE)(c_part_number:Cal P w K mg base 1 "part_number" ["program","name"] VX):Cal P w K mg base 5 "next_spots" ["program","spot"] Zw:=by
 refine QK (k:=4) (more:=3) d Xr rfl fun _ _ _ _ _ _ _ hr=>?_;have nd_:=(Xr).nd
 walk_at"~;)->$3**+*1(($&)4"
 refine J8 ?_
 walk_at"~*1(,5B#D"
 exact c_at_gap
 walk_at"~0$#1#6"
 refine Qj (k:=3) (ps:=["lines","k"]) ?_ ?_ ?_ ?_ ?_ ?_ ?_ ?_;exact c_end_of
 walk_at"~0$#?#*1(%$8$$(%$8$$#D"
 exact c_at_gap
 walk_at"~0$#1#6*1((%$8$$%A)->$3"
 refine Qj (k:=1) (ps:=["program","spot"]) ?_ ?_ ?_ ?_ ?_ ?_ ?_ ?_;exact c_line_of
 walk_at"~0$#+#1%$8$$$&)4"
 refine QC KN Qk ?_ ?_
 walk_at"~<"
 exact QV
 walk_at"~,5"
 refine Qj (k:=1) (ps:=["spot"]) ?_ ?_ ?_ ?_ ?_ ?_ ?_ ?_;exact c_behind_do
 walk_at"~0$#1%$8$$A)4.9*<(/)->$36*1(:#:#*1(#*1(%%$&,5B#:#C#"
 refine Qj (k:=1) (ps:=["program","name"]) ?_ ?_ ?_ ?_ ?_ ?_ ?_ ?_;exact c_part_number
 walk_at"~0$#+#*<(%$8$$#(#"
 exact KI
 walk_at"~%%A,5"
 refine Qj (k:=4) (ps:=["lines","spot"]) ?_ ?_ ?_ ?_ ?_ ?_ ?_ ?_;exact c_next_in_part
 walk_at"~0$#?#1%$8$$"
noncomputable def Qm:FM:=box frN Zw
noncomputable abbrev Ji:Stmt:=top 17
theorem Xj:FnScope [] [] (Qf Ji):=⟨rfl,rfl,rfl,by decide +kernel,rfl,by decide +kernel,by decide +kernel⟩
noncomputable def JY:FM:=QI 0
  (Zg (mFn Q4 (Qa (mFn Q4 Qd) (Qa (mC (.int 0)) (Qa (mC (.int 0)) (Qa (mC (.bl false)) Qd))))))
theorem Yq(d:DefAt K mg "first_spot" Ji []):Cal P w K mg base 1 "first_spot" [] JY:=by
 refine QK (k:=0) (more:=0) d Xj rfl fun _ _ _ _ _ _ _ hr=>?_;have nd_:=(Xj).nd
 walk_at"~;,5:#:%#(#(#"
 exact KI
 walk_at"~%"
noncomputable def Vf:FM:=box frN JY
noncomputable abbrev Xy:Stmt:=top 31
theorem W5:FnScope ["program","choices","run","used","later"] ["program","choices"] (Qf Xy):=⟨rfl,rfl,rfl,by decide +kernel,rfl,by decide +kernel,by decide +kernel⟩
noncomputable abbrev KO:SM:=(Qh (Q9 (Qg (Qc wEq (mFn VN (Qa (Qb 4) Qd)) (mC (.int 2)))) (Qh (Zf (mMt "list" QB (Qb 2) (Qa (Qc wIx (Qb 4) (Qc wIx (Qb 1) (Qb 3))) Qd)))
  (Qf8 3 Qah (mC (.int 1)))) (Zf (mMt "list" QB (Qb 2) (Qa (Qc wIx (Qb 4) (mC (.int 0))) Qd))))
  (QP 4 (Ql 2 Qm (Qa (Qb 0) (Qa (Qc wIx (Qb 2) (mUn QaL (mC (.int 1)))) Qd)))))
noncomputable def J0:FM:=QI 3
  (Qh (QP 2 (mFn Yi (Qa (Ql 0 Vf Qd) Qd)))
  (Qh (QP 3 (mC (.int 0)))
  (Qh (QP 4 (Ql 2 Qm (Qa (Qb 0) (Qa (Qc wIx (Qb 2) (mUn QaL (mC (.int 1)))) Qd))))
  (Qh (Q8 (QaR (Qg (Qc wEq (mFn VN (Qa (Qb 4) Qd)) (mC (.int 1)))) (Z8 (Qg (Qc wEq (mFn VN (Qa (Qb 4) Qd)) (mC (.int 2)))) (Qg (Qc wLt (Qb 3) (mFn VN (Qa (Qb 1) Qd)))))) KO 1000000)
  (Zg (mFn Q4 (Qa (Qb 2) (Qa (Qb 3) Qd))))))))
theorem QaE(d:DefAt K mg "run_by" Xy ["program","choices"])(b_len:mg "len"=none)(c_first_spot:Cal P w K mg base 1 "first_spot" [] Vf)(c_next_spots:Cal P w K mg base 5 "next_spots" ["program","spot"] Qm):Cal P w K mg base 6 "run_by" ["program","choices"] J0:=by
 refine QK (k:=5) (more:=3) d W5 rfl fun _ _ _ _ _ _ _ hr=>?_;have nd_:=(W5).nd
 walk_at"~;)->$3"
 refine Jq ?_
 walk_at"~#"
 exact QcE c_first_spot (hr.mono (by decide)) rfl
 walk_at"~%$&)->$3($&)->$3"
 refine Qj (k:=5) (ps:=["program","spot"]) ?_ ?_ ?_ ?_ ?_ ?_ ?_ ?_;exact c_next_spots
 walk_at"~0$#+#*?"
 refine X4 ?_
 walk_at"~(%$8$$$&)"
 refine WW 1000000 ?_ ?_ ?_;exact NV;refine PMW.pt ?_;refine YC ?_ ?_
 walk_at"~.97$"
 exact b_len
 walk_at"~#C%88$$("
 refine XM ?_;refine PMW.pt ?_;refine ZO ?_ ?_
 walk_at"~.97$"
 exact b_len
 walk_at"~#C%88$$("
 refine ZJ ?_;refine QC QhJ Qk ?_ ?_
 walk_at"~<7$"
 exact b_len
 walk_at"~#1%88$$)4.97$"
 exact b_len
 walk_at"~#C%88$$()"
 refine QE ?_
 walk_at"~2?#*C*1<%,"
 refine UL ?_ ?_ ?_ WD Qk ?_ ?_
 walk_at"~>$3(&,"
 refine QE ?_
 walk_at"~2?#*C(%,->$3"
 refine Qj (k:=5) (ps:=["program","spot"]) ?_ ?_ ?_ ?_ ?_ ?_ ?_ ?_;exact c_next_spots
 walk_at"~0$#+#*?"
 refine X4 ?_
 walk_at"~(%$8$$$&,5:#?#<%"
noncomputable def Xh:FM:=box frN J0
noncomputable abbrev Ks:Stmt:=top 9
theorem Gx:FnScope ["line"] ["line"] (Qf Ks):=⟨rfl,rfl,rfl,by decide +kernel,rfl,by decide +kernel,by decide +kernel⟩
noncomputable def Jv:FM:=QI 0
  (Qh (Q9 (QaR (Qg (Qc wEq (Qc wIx (Qb 0) (mC (.int 0))) (mC (.str "first")))) (Qg (Qc wEq (Qc wIx (Qb 0) (mC (.int 0))) (mC (.str "second"))))) (Zg (Qc wIx (Qb 0) (mC (.int 2)))) Qx)
  (Zg (mIf (Qg (Qc wEq (Qc wIx (Qb 0) (mC (.int 0))) (mC (.str "tell")))) (Qc wIx (Qb 0) (mC (.int 1))) (mC .non))))
theorem Qbj(d:DefAt K mg "reads" Ks ["line"]):Cal P w K mg base 1 "reads" ["line"] Jv:=by
 refine QK (k:=0) (more:=0) d Gx rfl fun _ _ _ _ _ _ _ hr=>?_;have nd_:=(Gx).nd
 walk_at"~;)4"
 refine PMW.pt ?_;refine YC ?_ ?_
 walk_at"~.9*+(/"
 refine XM ?_
 walk_at"~.9*+(/,5*+(A,5"
 refine WQ ?_ ?_ ?_
 walk_at"~.9*+(/*+("
 exact QV
noncomputable def Xl:FM:=box frN Jv
noncomputable abbrev JQ:Stmt:=top 26
theorem X2:FnScope ["line","held"] ["line","held"] (Qf JQ):=⟨rfl,rfl,rfl,by decide +kernel,rfl,by decide +kernel,by decide +kernel⟩
noncomputable def QX:FM:=QI 0
  (Zg (mIf (Qg (Qc wIs (Ql 1 Xl (Qa (Qb 0) Qd)) (mC .non))) (mC .non) (Qc UC (Qb 1) (Ql 1 Xl (Qa (Qb 0) Qd)))))
theorem YW(d:DefAt K mg "room_read" JQ ["line","held"])(c_reads:Cal P w K mg base 1 "reads" ["line"] Xl):Cal P w K mg base 2 "room_read" ["line","held"] QX:=by
 refine QK (k:=1) (more:=0) d X2 rfl fun _ _ _ _ _ _ _ hr=>?_;have nd_:=(X2).nd
 walk_at"~;,5"
 refine WQ ?_ ?_ ?_;refine QC KN Qk ?_ ?_
 walk_at"~E"
 exact c_reads
 walk_at"~0$#+%$8$$"
 exact QV;exact QV;refine X3 ?_ ?_ ?_
 walk_at"~91E"
 exact c_reads
 walk_at"~0$#+%$8$$"
noncomputable abbrev JP:Stmt:=KE (top 33) 1
theorem X1:FnScope ["self","line","read"] ["self","line"] (Qf JP):=⟨rfl,rfl,rfl,by decide +kernel,rfl,by decide +kernel,by decide +kernel⟩
noncomputable def QM(C_Shelf:Addr):FM:=QI 1
  (Qh (QP 2 (Ql 2 QX (Qa (Qb 1) (Qa (mUn (Zm C_Shelf "held") (Qb 0)) Qd))))
  (Qh (Q9 (Z8 (Qg (Qc Jy (Qb 2) (mC .non))) (Qg (Qc (Qjt false) (Qb 2) (mUn (Zm C_Shelf "gone") (Qb 0))))) (Zg (mC (.str "gone"))) Qx)
  (Qh (Q9 (Z8 (Qg (Qc wEq (Qc wIx (Qb 1) (mC (.int 0))) (mC (.str "pair")))) (Z8 (KM (YK (mUn (Zm C_Shelf "free_again") (Qb 0)))) (Qg (Qc wGe (mUn (Zm C_Shelf "fresh") (Qb 0)) (mUn (Zm C_Shelf "size") (Qb 0)))))) (Zg (mC (.str "full"))) Qx)
  (Zg (mC .non)))))
theorem Y0(d:MetAt K C_Shelf "bar" "Shelf.bar" JP ["self","line"])(k_Shelf:ClsAt K mg C_Shelf "Shelf")(n_free_again:NoAttr K C_Shelf "free_again")(n_fresh:NoAttr K C_Shelf "fresh")(n_gone:NoAttr K C_Shelf "gone")(n_held:NoAttr K C_Shelf "held")(n_size:NoAttr K C_Shelf "size")(c_room_read:Cal P w K mg base 2 "room_read" ["line","held"] QX):Mal P w K mg base 3 C_Shelf "bar" ["self","line"] (QM C_Shelf):=by
 refine Ug (k:=2) (more:=1) d X1 rfl fun _ _ _ _ _ _ _ hr=>?_;have nd_:=(X1).nd
 walk_at"~;)->$3"
 refine Qj (k:=2) (ps:=["line","held"]) ?_ ?_ ?_ ?_ ?_ ?_ ?_ ?_;exact c_room_read
 walk_at"~0$#1#"
 refine QR k_Shelf.cl n_held ?_ ?_
 walk_at"~+$%$8$$$&)4"
 refine PMW.pt ?_;refine ZO ?_ ?_;refine QC Z4 Qk ?_ ?_
 walk_at"~?"
 exact QV;refine ZJ ?_;refine QC (Qgj ?_) Qk ?_ ?_
 walk_at"~9?"
 refine QR k_Shelf.cl n_gone ?_ ?_
 walk_at"~+$,5/A)4"
 refine PMW.pt ?_;refine ZO ?_ ?_
 walk_at"~.9*1(/"
 refine ZO ?_ ?_;refine UG ?_;refine J8 ?_;refine QR k_Shelf.cl n_free_again ?_ ?_
 walk_at"~+$"
 refine ZJ ?_;refine QC Qia Qk ?_ ?_;refine QR k_Shelf.cl n_fresh ?_ ?_
 walk_at"~+$"
 refine QR k_Shelf.cl n_size ?_ ?_
 walk_at"~+$,5/A,5"
 exact QV
noncomputable abbrev Kn:Stmt:=top 8
theorem G6:FnScope ["line"] ["line"] (Qf Kn):=⟨rfl,rfl,rfl,by decide +kernel,rfl,by decide +kernel,by decide +kernel⟩
noncomputable def J7:FM:=QI 0
  (Zg (mIf (Qg (Qc (wIn false) (Qc wIx (Qb 0) (mC (.int 0))) (mC J3))) (Qc wIx (Qb 0) (mC (.int 1))) (mC .non)))
theorem Qbb(d:DefAt K mg "gives" Kn ["line"])(g_GIVING:Glob K mg "GIVING" J3):Cal P w K mg base 1 "gives" ["line"] J7:=by
 refine QK (k:=0) (more:=0) d G6 rfl fun _ _ _ _ _ _ _ hr=>?_;have nd_:=(G6).nd
 walk_at"~;,5"
 refine WQ ?_ ?_ ?_;refine QC (G0 ?_) Qk ?_ ?_
 walk_at"~9*+("
 exact GQ g_GIVING rfl
 walk_at"~*+("
 exact QV
noncomputable def Vg:FM:=box frN J7
noncomputable abbrev JJ:Stmt:=top 10
theorem Kc:FnScope ["line"] ["line"] (Qf JJ):=⟨rfl,rfl,rfl,by decide +kernel,rfl,by decide +kernel,by decide +kernel⟩
noncomputable def Zp:FM:=QI 0
  (Qh (Q9 (Qg (Qc wEq (Qc wIx (Qb 0) (mC (.int 0))) (mC (.str "first")))) (Zg (mC (.int 1))) Qx)
  (Zg (mIf (Qg (Qc wEq (Qc wIx (Qb 0) (mC (.int 0))) (mC (.str "second")))) (mC (.int 2)) (mC .non))))
theorem Wt(d:DefAt K mg "letter_of" JJ ["line"]):Cal P w K mg base 1 "letter_of" ["line"] Zp:=by
 refine QK (k:=0) (more:=0) d Kc rfl fun _ _ _ _ _ _ _ hr=>?_;have nd_:=(Kc).nd
 walk_at"~;)4.9*+(/,5(A,5"
 refine WQ ?_ ?_ ?_
 walk_at"~.9*+(/("
 exact QV
noncomputable def Z5:FM:=box frN Zp
noncomputable abbrev ZV:Stmt:=top 29
theorem VU:FnScope ["rooms","room","letter"] ["rooms","room","letter"] (Qf ZV):=⟨rfl,rfl,rfl,by decide +kernel,rfl,by decide +kernel,by decide +kernel⟩
noncomputable def Qy:FM:=QI 0
  (Zg (mIf (Qg (Qc wIs (Qb 1) (mC .non))) (mC .non) (Qc wIx (Qc wIx (Qb 0) (Qb 1)) (Qb 2))))
theorem KR(d:DefAt K mg "room_within" ZV ["rooms","room","letter"]):Cal P w K mg base 1 "room_within" ["rooms","room","letter"] Qy:=by
 refine QK (k:=0) (more:=0) d VU rfl fun _ _ _ _ _ _ _ hr=>?_;have nd_:=(VU).nd
 walk_at"~;,5"
 refine WQ ?_ ?_ ?_;refine QC KN Qk ?_ ?_
 walk_at"~1"
 exact QV;exact QV
 walk_at"~**+1?"
noncomputable abbrev Vk:Stmt:=top 28
theorem KA:FnScope ["line","rooms","held","letter"] ["line","rooms","held"] (Qf Vk):=⟨rfl,rfl,rfl,by decide +kernel,rfl,by decide +kernel,by decide +kernel⟩
noncomputable def Qz:FM:=QI 1
  (Qh (Q9 (Qg (Qc wEq (Qc wIx (Qb 0) (mC (.int 0))) (mC (.str "pair")))) (Zg (Qc QbX (mFn VN (Qa (Qb 1) Qd)) (mC (.int 1)))) Qx)
  (Qh (Q9 (Qg (Qc wEq (Qc wIx (Qb 0) (mC (.int 0))) (mC (.str "same")))) (Zg (Qc UC (Qb 2) (Qc wIx (Qb 0) (mC (.int 2))))) Qx)
  (Qh (QP 3 (Ql 1 Z5 (Qa (Qb 0) Qd)))
  (Zg (mIf (Qg (Qc wIs (Qb 3) (mC .non))) (mC .non) (Ql 3 Qy (Qa (Qb 1) (Qa (Qc UC (Qb 2) (Qc wIx (Qb 0) (mC (.int 2)))) (Qa (Qb 3) Qd)))))))))
theorem WR(d:DefAt K mg "given_by" Vk ["line","rooms","held"])(b_len:mg "len"=none)(c_letter_of:Cal P w K mg base 1 "letter_of" ["line"] Z5)(c_room_within:Cal P w K mg base 1 "room_within" ["rooms","room","letter"] Qy):Cal P w K mg base 2 "given_by" ["line","rooms","held"] Qz:=by
 refine QK (k:=1) (more:=1) d KA rfl fun _ _ _ _ _ _ _ hr=>?_;have nd_:=(KA).nd
 walk_at"~;)4.9*+(/,5"
 refine ZM Yc Qk ?_ ?_
 walk_at"~7$"
 exact b_len
 walk_at"~#1%88$$(A)4.9*+(/,5"
 refine X3 ?_ ?_ ?_
 walk_at"~9?*+(A)->$3E"
 exact c_letter_of
 walk_at"~0$#+%$8$$$&,5"
 refine WQ ?_ ?_ ?_;refine QC KN Qk ?_ ?_
 walk_at"~<"
 exact QV;exact QV;refine Qj (k:=1) (ps:=["rooms","room","letter"]) ?_ ?_ ?_ ?_ ?_ ?_ ?_ ?_;exact c_room_within
 walk_at"~0$#1#"
 refine X3 ?_ ?_ ?_
 walk_at"~9?*+(#<%$8$$"
noncomputable abbrev JF:Stmt:=top 27
theorem XX:FnScope ["rooms","room"] ["rooms","room"] (Qf JF):=⟨rfl,rfl,rfl,by decide +kernel,rfl,by decide +kernel,by decide +kernel⟩
noncomputable def QY:FM:=QI 0
  (Zg (mIf (Qg (Qc wIs (Qb 1) (mC .non))) (mC Zi) (Qc wIx (Qc wIx (Qb 0) (Qb 1)) (mC (.int 0)))))
theorem Y7(d:DefAt K mg "word_told" JF ["rooms","room"])(g_NOTHING_TOLD:Glob K mg "NOTHING_TOLD" Zi):Cal P w K mg base 1 "word_told" ["rooms","room"] QY:=by
 refine QK (k:=0) (more:=0) d XX rfl fun _ _ _ _ _ _ _ hr=>?_;have nd_:=(XX).nd
 walk_at"~;,5"
 refine WQ ?_ ?_ ?_;refine QC KN Qk ?_ ?_
 walk_at"~1"
 exact QV;exact GQ g_NOTHING_TOLD rfl
 walk_at"~**+1("
noncomputable abbrev Zd:Stmt:=KE (top 33) 3
theorem JL:FnScope ["self","line"] ["self","line"] (Qf Zd):=⟨rfl,rfl,rfl,by decide +kernel,rfl,by decide +kernel,by decide +kernel⟩
noncomputable def Qn(C_Shelf:Addr):FM:=QI 0
  (Qh (Zf (mMt "list" QB (mMt "dict" Qh9 (mUn (Zm C_Shelf "in_use") (Qb 0)) (Qa (Qc wIx (Qb 1) (mC (.int 2))) (Qa (mFn Yi Qd) Qd))) (Qa (mFn VN (Qa (mUn (Zm C_Shelf "rooms") (Qb 0)) Qd)) Qd)))
  (Qh (Zf (mMt "list" QB (mUn (Zm C_Shelf "rooms") (Qb 0)) (Qa (mFn Q4 (Qa (Qc wIx (Qb 1) (mC (.int 2))) (Qa (Qc UC (mUn (Zm C_Shelf "held") (Qb 0)) (Qc wIx (Qb 1) (mC (.int 3)))) (Qa (Qc UC (mUn (Zm C_Shelf "held") (Qb 0)) (Qc wIx (Qb 1) (mC (.int 4)))) Qd)))) Qd)))
  (Q9 (YK (mUn (Zm C_Shelf "free_again") (Qb 0))) (Zf (mMt "list" QB (mUn (Zm C_Shelf "taken") (Qb 0)) (Qa (mMt "list" Qiw (mUn (Zm C_Shelf "free_again") (Qb 0)) Qd) Qd))) (Qh (Zf (mMt "list" QB (mUn (Zm C_Shelf "taken") (Qb 0)) (Qa (mUn (Zm C_Shelf "fresh") (Qb 0)) Qd)))
  (QcG C_Shelf "fresh" (Qb 0) (mC (.int 1)))))))
theorem V2(d:MetAt K C_Shelf "make_room" "Shelf.make_room" Zd ["self","line"])(k_Shelf:ClsAt K mg C_Shelf "Shelf")(n_free_again:NoAttr K C_Shelf "free_again")(n_fresh:NoAttr K C_Shelf "fresh")(n_held:NoAttr K C_Shelf "held")(n_in_use:NoAttr K C_Shelf "in_use")(n_rooms:NoAttr K C_Shelf "rooms")(n_taken:NoAttr K C_Shelf "taken")(b_len:mg "len"=none):Mal P w K mg base 1 C_Shelf "make_room" ["self","line"] (Qn C_Shelf):=by
 refine Ug (k:=0) (more:=0) d JL rfl fun _ _ _ _ _ _ _ hr=>?_;have nd_:=(JL).nd
 walk_at"~;)"
 refine QE ?_
 walk_at"~2"
 refine Yr DF Ff PySem.F.type_dict_setdefault (QfW ?_) ?_ ?_
 walk_at"~9"
 refine QR k_Shelf.cl n_in_use ?_ ?_
 walk_at"~+$#*1(#"
 refine Jq ?_
 walk_at"~%%#7$"
 exact b_len
 walk_at"~#"
 refine QR k_Shelf.cl n_rooms ?_ ?_
 walk_at"~+$%88$$%)"
 refine QE ?_
 walk_at"~2"
 refine QR k_Shelf.cl n_rooms ?_ ?_
 walk_at"~+$#:#*1(#"
 refine X3 ?_ ?_ ?_
 walk_at"~9"
 refine QR k_Shelf.cl n_held ?_ ?_
 walk_at"~+$*1(#"
 refine X3 ?_ ?_ ?_
 walk_at"~9"
 refine QR k_Shelf.cl n_held ?_ ?_
 walk_at"~+$*1(%%,4"
 refine J8 ?_;refine QR k_Shelf.cl n_free_again ?_ ?_
 walk_at"~+$,"
 refine QE ?_
 walk_at"~2"
 refine QR k_Shelf.cl n_taken ?_ ?_
 walk_at"~+$#"
 refine Qhe Ej Du Iu QfN ?_;refine QR k_Shelf.cl n_free_again ?_ ?_
 walk_at"~+$%)"
 refine QE ?_
 walk_at"~2"
 refine QR k_Shelf.cl n_taken ?_ ?_
 walk_at"~+$#"
 refine QR k_Shelf.cl n_fresh ?_ ?_
 walk_at"~+$%,"
 refine Qd0 k_Shelf.cl n_fresh ?_ ?_
 walk_at"~+("
noncomputable abbrev Ze:Stmt:=KE (top 33) 4
theorem JU:FnScope ["self","word","room"] ["self","word"] (Qf Ze):=⟨rfl,rfl,rfl,by decide +kernel,rfl,by decide +kernel,by decide +kernel⟩
noncomputable abbrev QZ(C_Shelf:Addr):SM:=(Qh (KK (mUn (Zm C_Shelf "gone") (Qb 0)) (Qb 2) (mC (.bl true)))
  (Zf (mMt "list" QB (mUn (Zm C_Shelf "free_again") (Qb 0)) (Qa (Qc wIx (mUn (Zm C_Shelf "taken") (Qb 0)) (Qb 2)) Qd))))
noncomputable def Qr(C_Shelf:Addr):FM:=QI 1
  (Qh (Vv (Jw (mMt "dict" Wn (mUn (Zm C_Shelf "in_use") (Qb 0)) (Qa (Qb 1) (Qa (mFn Zb Qd) Qd)))) (ZU 2)
  (QZ C_Shelf))
  (Qh (KK (mUn (Zm C_Shelf "in_use") (Qb 0)) (Qb 1) (mFn Yi Qd))
  (Xp C_Shelf "free_again" (Qb 0) (mFn W9 (Qa (mUn (Zm C_Shelf "free_again") (Qb 0)) Qd)))))
theorem V3(d:MetAt K C_Shelf "give_back" "Shelf.give_back" Ze ["self","word"])(k_Shelf:ClsAt K mg C_Shelf "Shelf")(n_free_again:NoAttr K C_Shelf "free_again")(n_gone:NoAttr K C_Shelf "gone")(n_in_use:NoAttr K C_Shelf "in_use")(n_taken:NoAttr K C_Shelf "taken")(b_sorted:mg "sorted"=none):Mal P w K mg base 1 C_Shelf "give_back" ["self","word"] (Qr C_Shelf):=by
 refine Ug (k:=0) (more:=1) d JU rfl fun _ _ _ _ _ _ _ hr=>?_;have nd_:=(JU).nd
 walk_at"~;)"
 refine Jd ?_ ?_ ?_ ?_ ?_ ?_;exact NV
 walk_at"~$"
 refine V1 ?_;refine Yr DF Df Ir (Qdv ?_) ?_ ?_
 walk_at"~9"
 refine QR k_Shelf.cl n_in_use ?_ ?_
 walk_at"~+$#1#B%%"
 exact QS (i:=2) (x:="room") nd_ rfl (Or.inl rfl)
 walk_at"~)"
 refine Kr ?_ ?_ ?_ ?_ ?_
 walk_at"~9"
 refine QR k_Shelf.cl n_gone ?_ ?_
 walk_at"~+$?"
 exact KI
 walk_at"~$,"
 refine QE ?_
 walk_at"~2"
 refine QR k_Shelf.cl n_free_again ?_ ?_
 walk_at"~+$#*"
 refine QR k_Shelf.cl n_taken ?_ ?_
 walk_at"~+$?%"
 exact fun _=>rfl
 walk_at"~)"
 refine Kr ?_ ?_ ?_ ?_ ?_
 walk_at"~9"
 refine QR k_Shelf.cl n_in_use ?_ ?_
 walk_at"~+$1"
 refine Jq ?_
 walk_at"~%$,"
 refine JW k_Shelf.cl n_free_again ?_ ?_ ?_
 walk_at"~+"
 refine Qdm ?_ ?_ ?_ ?_
 walk_at"~$"
 exact b_sorted;refine QR k_Shelf.cl n_free_again ?_ ?_
 walk_at"~+$$$"
noncomputable abbrev Zc:Stmt:=KE (top 33) 2
theorem JE:FnScope ["self","line"] ["self","line"] (Qf Zc):=⟨rfl,rfl,rfl,by decide +kernel,rfl,by decide +kernel,by decide +kernel⟩
noncomputable def Qp(C_Shelf:Addr):FM:=QI 0
  (Qh (Q9 (Qg (Qc wEq (Qc wIx (Qb 1) (mC (.int 0))) (mC (.str "tell")))) (Zf (mMt "list" QB (mUn (Zm C_Shelf "words") (Qb 0)) (Qa (Ql 2 QY (Qa (mUn (Zm C_Shelf "rooms") (Qb 0)) (Qa (Qc UC (mUn (Zm C_Shelf "held") (Qb 0)) (Qc wIx (Qb 1) (mC (.int 1)))) Qd))) Qd))) (Q9 (Qg (Qc wEq (Qc wIx (Qb 1) (mC (.int 0))) (mC (.str "pair")))) (Zf (K5 C_Shelf "make_room" 2 (Qn C_Shelf) (Qb 0) (Qa (Qb 1) Qd))) (Q9 (Qg (Qc wEq (Qc wIx (Qb 1) (mC (.int 0))) (mC (.str "back")))) (Zf (K5 C_Shelf "give_back" 2 (Qr C_Shelf) (Qb 0) (Qa (Qc wIx (Qb 1) (mC (.int 1))) Qd))) Qx)))
  (Q9 (Qg (Qc Jy (Ql 1 Vg (Qa (Qb 1) Qd)) (mC .non))) (KK (mUn (Zm C_Shelf "held") (Qb 0)) (Ql 1 Vg (Qa (Qb 1) Qd)) (Ql 3 Qz (Qa (Qb 1) (Qa (mUn (Zm C_Shelf "rooms") (Qb 0)) (Qa (mUn (Zm C_Shelf "held") (Qb 0)) Qd))))) Qx))
theorem V0(d:MetAt K C_Shelf "pass_line" "Shelf.pass_line" Zc ["self","line"])(k_Shelf:ClsAt K mg C_Shelf "Shelf")(n_held:NoAttr K C_Shelf "held")(n_rooms:NoAttr K C_Shelf "rooms")(n_words:NoAttr K C_Shelf "words")(c_Shelf_give_back:Mal P w K mg base 1 C_Shelf "give_back" ["self","word"] (Qr C_Shelf))(c_Shelf_make_room:Mal P w K mg base 1 C_Shelf "make_room" ["self","line"] (Qn C_Shelf))(c_given_by:Cal P w K mg base 2 "given_by" ["line","rooms","held"] Qz)(c_gives:Cal P w K mg base 1 "gives" ["line"] Vg)(c_word_told:Cal P w K mg base 1 "word_told" ["rooms","room"] QY):Mal P w K mg base 3 C_Shelf "pass_line" ["self","line"] (Qp C_Shelf):=by
 refine Ug (k:=2) (more:=0) d JE rfl fun _ _ _ _ _ _ _ hr=>?_;have nd_:=(JE).nd
 walk_at"~;)4.9*1(/,"
 refine QE ?_
 walk_at"~2"
 refine QR k_Shelf.cl n_words ?_ ?_
 walk_at"~+$#"
 refine Qj (k:=1) (ps:=["rooms","room"]) ?_ ?_ ?_ ?_ ?_ ?_ ?_ ?_;exact c_word_told
 walk_at"~0$#"
 refine QR k_Shelf.cl n_rooms ?_ ?_
 walk_at"~+$#"
 refine X3 ?_ ?_ ?_
 walk_at"~9"
 refine QR k_Shelf.cl n_held ?_ ?_
 walk_at"~+$*1(%$8$$%,4.9*1(/,"
 refine QE ?_;refine Wa (k:=1) (ps:=["self","line"]) k_Shelf.cl ?_ ?_ ?_ ?_ ?_ ?_ ?_ rfl;exact c_Shelf_make_room
 walk_at"~0+#1%$$$,4.9*1(/,"
 refine QE ?_;refine Wa (k:=1) (ps:=["self","word"]) k_Shelf.cl ?_ ?_ ?_ ?_ ?_ ?_ ?_ rfl;exact c_Shelf_give_back
 walk_at"~0+#*1(%$$$A,4"
 refine QC Z4 Qk ?_ ?_
 walk_at"~E"
 exact c_gives
 walk_at"~0$#1%$8$$"
 exact QV
 walk_at"~,"
 refine Kr ?_ ?_ ?_ ?_ ?_
 walk_at"~9"
 refine QR k_Shelf.cl n_held ?_ ?_
 walk_at"~+$E"
 exact c_gives
 walk_at"~0$#1%$8$$"
 refine Qj (k:=2) (ps:=["line","rooms","held"]) ?_ ?_ ?_ ?_ ?_ ?_ ?_ ?_;exact c_given_by
 walk_at"~0$#1#"
 refine QR k_Shelf.cl n_rooms ?_ ?_
 walk_at"~+$#"
 refine QR k_Shelf.cl n_held ?_ ?_
 walk_at"~+$%$8$$$A"
noncomputable abbrev Va:Stmt:=top 34
theorem K3:FnScope ["program","choices","size","run","shelf","step","line","why"] ["program","choices","size"] (Qf Va):=⟨rfl,rfl,rfl,by decide +kernel,rfl,by decide +kernel,by decide +kernel⟩
noncomputable abbrev ZF(C_Shelf:Addr):SM:=(Qh (QP 6 (Ql 2 ZQ (Qa (Qb 0) (Qa (Qc wIx (Qb 3) (Qb 5)) Qd))))
  (Q9 (Qg (Qc Jy (Qb 6) (mC .non))) (Qh (QP 7 (K5 C_Shelf "bar" 2 (QM C_Shelf) (Qb 4) (Qa (Qb 6) Qd)))
  (Qh (Q9 (Qg (Qc Jy (Qb 7) (mC .non))) (Zg (mFn Q4 (Qa (Qb 7) (Qa (Qb 5) (Qa (mUn (Zm C_Shelf "words") (Qb 4)) (Qa (mUn (Zm C_Shelf "taken") (Qb 4)) Qd)))))) Qx)
  (Zf (K5 C_Shelf "pass_line" 2 (Qp C_Shelf) (Qb 4) (Qa (Qb 6) Qd))))) Qx))
noncomputable def Z7(C_Shelf:Addr):FM:=QI 5
  (Qh (QP 3 (Qc wIx (Ql 2 Xh (Qa (Qb 0) (Qa (Qb 1) Qd))) (mC (.int 0))))
  (Qh (QP 4 (Qds C_Shelf 3 (Qu C_Shelf) (Qa (Qb 0) (Qa (Qb 2) Qd))))
  (Qh (Vv (V9 (Qa (Qc QbX (mFn VN (Qa (Qb 3) Qd)) (mC (.int 1))) Qd)) (ZU 5)
  (ZF C_Shelf))
  (Zg (mFn Q4 (Qa (mC (.str "told")) (Qa (Qc QbX (mFn VN (Qa (Qb 3) Qd)) (mC (.int 1))) (Qa (mUn (Zm C_Shelf "words") (Qb 4)) (Qa (mUn (Zm C_Shelf "taken") (Qb 4)) Qd)))))))))
theorem WG(d:DefAt K mg "on_shelf" Va ["program","choices","size"])(k_Shelf:ClsAt K mg C_Shelf "Shelf")(n_taken:NoAttr K C_Shelf "taken")(n_words:NoAttr K C_Shelf "words")(b_len:mg "len"=none)(b_range:mg "range"=none)(c_Shelf___init__:Mal P w K mg base 3 C_Shelf "__init__" ["self","program","size"] (Qu C_Shelf))(c_Shelf_bar:Mal P w K mg base 3 C_Shelf "bar" ["self","line"] (QM C_Shelf))(c_Shelf_pass_line:Mal P w K mg base 3 C_Shelf "pass_line" ["self","line"] (Qp C_Shelf))(c_line_of:Cal P w K mg base 1 "line_of" ["program","spot"] ZQ)(c_run_by:Cal P w K mg base 6 "run_by" ["program","choices"] Xh):Cal P w K mg base 7 "on_shelf" ["program","choices","size"] (Z7 C_Shelf):=by
 refine QK (k:=6) (more:=5) d K3 rfl fun _ _ _ _ _ _ _ hr=>?_;have nd_:=(K3).nd
 walk_at"~;)->$3*"
 refine Qj (k:=6) (ps:=["program","choices"]) ?_ ?_ ?_ ?_ ?_ ?_ ?_ ?_;exact c_run_by
 walk_at"~0$#+#1%$8$$($&)->$3"
 refine Qft (k:=3) (ps:=["self","program","size"]) k_Shelf ?_ ?_ ?_ ?_ ?_ ?_ ?_ ?_;exact c_Shelf___init__
 walk_at"~0$#+#?%$8$$$&)"
 refine Jd ?_ ?_ ?_ ?_ ?_ ?_;exact NV
 walk_at"~$"
 refine Xe ?_ ?_ ?_ ?_
 walk_at"~$"
 exact b_range
 walk_at"~#"
 refine ZM Yc Qk ?_ ?_
 walk_at"~7$"
 exact b_len
 walk_at"~#<%88$$(%$"
 exact QS (i:=5) (x:="step") nd_ rfl (Or.inl rfl)
 walk_at"~)->$3"
 refine Qj (k:=1) (ps:=["program","spot"]) ?_ ?_ ?_ ?_ ?_ ?_ ?_ ?_;exact c_line_of
 walk_at"~0$#+#*<"
 exact Qe 5
 walk_at"~%$8$$$&,4"
 refine QC Z4 Qk ?_ ?_;exact Qe 6;exact QV
 walk_at"~)->$3"
 refine Wa (k:=3) (ps:=["self","line"]) k_Shelf.cl ?_ ?_ ?_ ?_ ?_ ?_ ?_ rfl;exact c_Shelf_bar
 walk_at"~0C#"
 exact Qe 6
 walk_at"~%$$$$&)4"
 refine QC Z4 Qk ?_ ?_;exact Qe 7;exact QV
 walk_at"~,5:#"
 exact Qe 7
 walk_at"~#"
 exact Qe 5
 walk_at"~#"
 refine QR k_Shelf.cl n_words ?_ ?_
 walk_at"~C$#"
 refine QR k_Shelf.cl n_taken ?_ ?_
 walk_at"~C$%A,"
 refine QE ?_;refine Wa (k:=3) (ps:=["self","line"]) k_Shelf.cl ?_ ?_ ?_ ?_ ?_ ?_ ?_ rfl;exact c_Shelf_pass_line
 walk_at"~0C#"
 exact Qe 6
 walk_at"~%$$$A"
 exact fun _=>rfl
 walk_at"~,5:#/#"
 refine ZM Yc Qk ?_ ?_
 walk_at"~7$"
 exact b_len
 walk_at"~#<%88$$(#"
 refine QR k_Shelf.cl n_words ?_ ?_
 walk_at"~C$#"
 refine QR k_Shelf.cl n_taken ?_ ?_
 walk_at"~C$%"
noncomputable def VY(C_Shelf:Addr):FM:=box frN (Z7 C_Shelf)
noncomputable abbrev ZD:Stmt:=top 38
theorem Vy:FnScope ["program","spot","way","part","k","head"] ["program","spot"] (Qf ZD):=⟨rfl,rfl,rfl,by decide +kernel,rfl,by decide +kernel,by decide +kernel⟩
noncomputable def Q7:FM:=QI 4
  (Qh (Qel (XN [2,3,4,5]) (Qb 1))
  (Qh (Q9 (QaR (YK (Qb 5)) (Qg (Qc wEq (Qb 4) (mFn VN (Qa (Qc wIx (Qc wIx (Qb 0) (Qb 3)) (mC (.int 1))) Qd))))) (Zg (mC .non)) Qx)
  (Zg (Qc wIx (Qc wIx (Qc wIx (Qb 0) (Qb 3)) (mC (.int 1))) (Qb 4)))))
theorem Kj(d:DefAt K mg "_law_line_at" ZD ["program","spot"])(b_len:mg "len"=none):Cal P w K mg base 1 "_law_line_at" ["program","spot"] Q7:=by
 refine QK (k:=0) (more:=4) d Vy rfl fun _ _ _ _ _ _ _ hr=>?_;have nd_:=(Vy).nd
 walk_at"~;)"
 refine Wu ?_ ?_ ?_ ?_ ?_
 walk_at"~1"
 refine Y5 (is:=[2,3,4,5]) ?_ ?_ ?_ ?_
 walk_at"~$"
 refine QG (i:=2) (x:="way") nd_ rfl (Or.inl rfl) ?_ ?_;refine QG (i:=3) (x:="part") nd_ rfl (Or.inl rfl) ?_ ?_;refine QG (i:=4) (x:="k") nd_ rfl (Or.inl rfl) ?_ ?_;refine QG (i:=5) (x:="head") nd_ rfl (Or.inl rfl) ?_ ?_;exact XJ
 walk_at"~&&&&$$$$$)4"
 refine PMW.pt ?_;refine YC ?_ ?_;refine J8 ?_;exact Qe 5;refine XM ?_
 walk_at"~.9C7$"
 exact b_len
 walk_at"~#**+<(%88$$,5"
 exact QV
 walk_at"~A,5***+<(C"
noncomputable def Zk:FM:=box frN Q7
noncomputable abbrev JR:Stmt:=top 39
theorem Kf:FnScope ["numbers","gone","size","taken","number"] ["numbers","gone","size"] (Qf JR):=⟨rfl,rfl,rfl,by decide +kernel,rfl,by decide +kernel,by decide +kernel⟩
noncomputable abbrev ZX:SM:=(Q9 (Qg (Qc (wIn true) (Qb 4) (Qb 3))) (Zg (Qb 4)) Qx)
noncomputable def Jf:FM:=QI 2
  (Qh (QP 3 (Jh XL (Qdq (Qa (Qb 0) (Qa (Qb 1) Qd))) [none,none] (XN [0,1]) (KM (YK (Qb 1))) (Qb 0)))
  (Qh (Vv (V9 (Qa (Qb 2) Qd)) (ZU 4)
  ZX)
  (Zg (mC .non))))
theorem Y9(d:DefAt K mg "_law_free" JR ["numbers","gone","size"])(b_range:mg "range"=none)(b_zip:mg "zip"=none):Cal P w K mg base 1 "_law_free" ["numbers","gone","size"] Jf:=by
 refine QK (k:=0) (more:=2) d Kf rfl fun _ _ _ _ _ _ _ hr=>?_;have nd_:=(Kf).nd
 walk_at"~;)"
 refine Qbk nd_ rfl (Or.inl rfl) ?_ V5 ?_ (KQ (Nb:=["number","given"]) (cp:=[none,none]) rfl (by decide +kernel) (by decide +kernel) rfl rfl) ?_ (fun _ _ _ _ _=>?_) (fun _ _ _ _ _=>?_) (fun _ _ _ _ _=>?_) ?_ ?_
 walk_at"~&$"
 refine QgK ?_ ?_ ?_ ?_ ?_
 walk_at"~$"
 exact b_zip
 walk_at"~#+#1%$$"
 refine Y5 (is:=[0,1]) ?_ ?_ ?_ ?_
 walk_at"~$"
 refine QG (i:=0) (x:="number") (show List.Nodup (["number","given"]:List Str)from by decide +kernel) rfl (Or.inl rfl) ?_ ?_;refine QG (i:=1) (x:="given") (show List.Nodup (["number","given"]:List Str)from by decide +kernel) rfl (Or.inl rfl) ?_ ?_;exact XJ
 walk_at"~&&$$"
 refine UG ?_;refine J8 ?_
 walk_at"~1+"
 exact fun _=>rfl
 walk_at"~$)"
 refine Jd ?_ ?_ ?_ ?_ ?_ ?_;exact NV
 walk_at"~$"
 refine Xe ?_ ?_ ?_ ?_
 walk_at"~$"
 exact b_range
 walk_at"~#?%$"
 exact QS (i:=4) (x:="number") nd_ rfl (Or.inl rfl)
 walk_at"~,4"
 refine QC (Qb1 ?_) Qk ?_ ?_
 walk_at"~9C<,5CA"
 exact fun _=>rfl
 walk_at"~,5"
 exact QV
noncomputable def JK:FM:=box frN Jf
noncomputable abbrev JS:Stmt:=top 40
theorem X6:FnScope ["line","rooms","gone","boxes","free","box"] ["line","rooms","gone","boxes","free"] (Qf JS):=⟨rfl,rfl,rfl,by decide +kernel,rfl,by decide +kernel,by decide +kernel⟩
noncomputable def Zr:FM:=QI 1
  (Qh (QP 5 (mMt "dict" VS (Qfe [("first",2),("second",2),("tell",1)]) (Qa (Qc wIx (Qb 0) (mC (.int 0))) Qd)))
  (Qh (Q9 (Z8 (Qg (Qc Jy (Qb 5) (mC .non))) (Z8 (Qg (Qc Jy (mMt "dict" VS (Qb 3) (Qa (Qc wIx (Qb 0) (Qb 5)) Qd)) (mC .non))) (YK (Qc wIx (Qb 2) (mMt "dict" VS (Qb 3) (Qa (Qc wIx (Qb 0) (Qb 5)) Qd)))))) (Zg (mC (.str "gone"))) Qx)
  (Qh (Q9 (Z8 (Qg (Qc wEq (Qc wIx (Qb 0) (mC (.int 0))) (mC (.str "pair")))) (Qg (Qc wIs (Qb 4) (mC .non)))) (Zg (mC (.str "full"))) Qx)
  (Zg (mC (.str ""))))))
theorem Y8(d:DefAt K mg "_law_stop" JS ["line","rooms","gone","boxes","free"]):Cal P w K mg base 1 "_law_stop" ["line","rooms","gone","boxes","free"] Zr:=by
 refine QK (k:=0) (more:=1) d X6 rfl fun _ _ _ _ _ _ _ hr=>?_;have nd_:=(X6).nd
 walk_at"~;)->$3@9"
 refine QjM (kvs:=[("first",2),("second",2),("tell",1)]) ?_ ?_ ?_ ?_ ?_ ?_;refine Wi Gq Gj ?_;refine Wi Gq Gj ?_;refine Wi Gq Gj ?_;exact QfX
 walk_at"~$$"
 exact fun h=>nomatch h
 walk_at"~88#*+(%$&)4"
 refine PMW.pt ?_;refine ZO ?_ ?_;refine QC Z4 Qk ?_ ?_;exact Qe 5;exact QV;refine ZO ?_ ?_;refine QC Z4 Qk ?_ ?_
 walk_at"~@9<#*+"
 exact Qe 5
 walk_at"~%"
 exact QV;refine ZJ ?_;refine J8 ?_
 walk_at"~*?@9<#*+"
 exact Qe 5
 walk_at"~%,5/A)4"
 refine PMW.pt ?_;refine ZO ?_ ?_
 walk_at"~.9*+(/"
 refine ZJ ?_;refine QC KN Qk ?_ ?_
 walk_at"~C"
 exact QV
 walk_at"~,5/A,5/"
noncomputable def JG:FM:=box frN Zr
noncomputable abbrev JH:Stmt:=top 41
theorem X9:FnScope ["line","rooms","gone","boxes","words","there","k"] ["line","rooms","gone","boxes","words"] (Qf JH):=⟨rfl,rfl,rfl,by decide +kernel,rfl,by decide +kernel,by decide +kernel⟩
noncomputable abbrev Z1:SM:=(Qjl (Qb 2) (Qb 6) (mOr (Qc wIx (Qb 2) (Qb 6)) (Qc wEq (Qc wIx (Qc wIx (Qb 1) (Qb 6)) (mC (.int 0))) (Qc wIx (Qb 0) (mC (.int 1))))))
noncomputable def Zq:FM:=QI 2
  (Qh (QP 5 (mC .non))
  (Qh (Q9 (Qg (Qc (wIn false) (Qc wIx (Qb 0) (mC (.int 0))) (mFn Q4 (Qa (mC (.str "first")) (Qa (mC (.str "second")) (Qa (mC (.str "same")) (Qa (mC (.str "pair")) (Qa (mC (.str "none")) Qd)))))))) (Qh (Q9 (Qg (Qc wEq (Qc wIx (Qb 0) (mC (.int 0))) (mC (.str "pair")))) (Qh (Zf (mMt "list" QB (Qb 1) (Qa (mFn Q4 (Qa (Qc wIx (Qb 0) (mC (.int 2))) (Qa (mMt "dict" VS (Qb 3) (Qa (Qc wIx (Qb 0) (mC (.int 3))) Qd)) (Qa (mMt "dict" VS (Qb 3) (Qa (Qc wIx (Qb 0) (mC (.int 4))) Qd)) Qd)))) Qd)))
  (Qh (Zf (mMt "list" QB (Qb 2) (Qa (mC (.bl false)) Qd)))
  (QP 5 (Qc QbX (mFn VN (Qa (Qb 1) Qd)) (mC (.int 1)))))) (Q9 (Qg (Qc wEq (Qc wIx (Qb 0) (mC (.int 0))) (mC (.str "same")))) (QP 5 (mMt "dict" VS (Qb 3) (Qa (Qc wIx (Qb 0) (mC (.int 2))) Qd))) (Q9 (Z8 (Qg (Qc wNe (Qc wIx (Qb 0) (mC (.int 0))) (mC (.str "none")))) (Qg (Qc Jy (mMt "dict" VS (Qb 3) (Qa (Qc wIx (Qb 0) (mC (.int 2))) Qd)) (mC .non)))) (QP 5 (Qc wIx (Qc wIx (Qb 1) (Qc UC (Qb 3) (Qc wIx (Qb 0) (mC (.int 2))))) (Qc Zs (mMt "list" KU (mFn Zb (Qa (mC (.str "first")) (Qa (mC (.str "second")) Qd))) (Qa (Qc wIx (Qb 0) (mC (.int 0))) Qd)) (mC (.int 1))))) Qx)))
  (KK (Qb 3) (Qc wIx (Qb 0) (mC (.int 1))) (Qb 5))) Qx)
  (Qh (Q9 (Z8 (Qg (Qc wEq (Qc wIx (Qb 0) (mC (.int 0))) (mC (.str "tell")))) (Qg (Qc wIs (mMt "dict" VS (Qb 3) (Qa (Qc wIx (Qb 0) (mC (.int 1))) Qd)) (mC .non)))) (Zf (mMt "list" QB (Qb 4) (Qa (mC (.str "-")) Qd))) (Q9 (Qg (Qc wEq (Qc wIx (Qb 0) (mC (.int 0))) (mC (.str "tell")))) (Zf (mMt "list" QB (Qb 4) (Qa (Qc wIx (Qc wIx (Qb 1) (Qc UC (Qb 3) (Qc wIx (Qb 0) (mC (.int 1))))) (mC (.int 0))) Qd))) Qx))
  (Q9 (Qg (Qc wEq (Qc wIx (Qb 0) (mC (.int 0))) (mC (.str "back")))) (Vv (V9 (Qa (mFn VN (Qa (Qb 1) Qd)) Qd)) (ZU 6)
  Z1) Qx))))
theorem YY(d:DefAt K mg "_law_step" JH ["line","rooms","gone","boxes","words"])(b_len:mg "len"=none)(b_range:mg "range"=none):Cal P w K mg base 1 "_law_step" ["line","rooms","gone","boxes","words"] Zq:=by
 refine QK (k:=0) (more:=2) d X9 rfl fun _ _ _ _ _ _ _ hr=>?_;have nd_:=(X9).nd
 walk_at"~;)->$3"
 exact QV
 walk_at"~$&)4"
 refine QC (G0 ?_) Qk ?_ ?_
 walk_at"~9*+(:#/#/#/#/#/%)4.9*+(/)"
 refine QE ?_
 walk_at"~21#:#*+(#@9<#*+(%#@9<#*+(%%%)"
 refine QE ?_
 walk_at"~2?#"
 exact KI
 walk_at"~%,->$3"
 refine ZM Yc Qk ?_ ?_
 walk_at"~7$"
 exact b_len
 walk_at"~#1%88$$($&,4.9*+(/,->$3@9<#*+(%$&,4"
 refine PMW.pt ?_;refine ZO ?_ ?_;refine QC (Qcu ?_) Qk ?_ ?_
 walk_at"~9*+(/"
 refine ZJ ?_;refine QC Z4 Qk ?_ ?_
 walk_at"~@9<#*+(%"
 exact QV
 walk_at"~,->$3**1"
 refine X3 ?_ ?_ ?_
 walk_at"~9<*+(6"
 refine Yr Ej DD FT (Ua ?_) ?_ ?_
 walk_at"~9B#/#/%#*+(%($&A,"
 refine Kr ?_ ?_ ?_ ?_ ?_
 walk_at"~9<*+("
 exact Qe 5
 walk_at"~$A)4"
 refine PMW.pt ?_;refine ZO ?_ ?_
 walk_at"~.9*+(/"
 refine ZJ ?_;refine QC KN Qk ?_ ?_
 walk_at"~@9<#*+(%"
 exact QV
 walk_at"~,"
 refine QE ?_
 walk_at"~2C#/%,4.9*+(/,"
 refine QE ?_
 walk_at"~2C#**1"
 refine X3 ?_ ?_ ?_
 walk_at"~9<*+((%A,4.9*+(/,"
 refine Jd ?_ ?_ ?_ ?_ ?_ ?_;exact NV
 walk_at"~$"
 refine Xe ?_ ?_ ?_ ?_
 walk_at"~$"
 exact b_range
 walk_at"~#7$"
 exact b_len
 walk_at"~#1%88$$%$"
 exact QS (i:=6) (x:="k") nd_ rfl (Or.inl rfl)
 walk_at"~,"
 refine Qgv ?_ ?_ ?_ ?_ ?_ ?_
 walk_at"~?"
 exact Qe 6;refine Qkm ?_ ?_
 walk_at"~*?"
 exact Qe 6;refine Qi1 ?_;refine Qep (Qb0 ?_) Qk ?_ ?_
 walk_at"~9**1"
 exact Qe 6
 walk_at"~(*+("
 exact fun _=>rfl
 walk_at"~$$"
 exact fun _=>rfl
 walk_at"~A"
noncomputable def JN:FM:=box frN Zq
noncomputable abbrev Jn:Stmt:=top 42
theorem Xv:FnScope ["program","choices","size","rooms","gone","boxes","words","numbers","spot","step","left","line","free","word","others"] ["program","choices","size"] (Qf Jn):=⟨rfl,rfl,rfl,by decide +kernel,rfl,by decide +kernel,by decide +kernel⟩
noncomputable abbrev JA:SM:=(Qh (QP 11 (Ql 2 Zk (Qa (Qb 0) (Qa (Qb 8) Qd))))
  (Qh (Q9 (Qg (Qc Jy (Qb 11) (mC .non))) (Qh (QP 12 (Ql 3 JK (Qa (Qb 7) (Qa (Qb 4) (Qa (Qb 2) Qd)))))
  (Qh (QP 13 (Ql 5 JG (Qa (Qb 11) (Qa (Qb 3) (Qa (Qb 4) (Qa (Qb 5) (Qa (Qb 12) Qd)))))))
  (Qh (Q9 (Qg (Qc wNe (Qb 13) (mC (.str "")))) (Zg (mFn Q4 (Qa (Qb 13) (Qa (Qb 9) (Qa (Qb 6) (Qa (Qb 7) Qd)))))) Qx)
  (Qh (Q9 (Qg (Qc wEq (Qc wIx (Qb 11) (mC (.int 0))) (mC (.str "pair")))) (Zf (mMt "list" QB (Qb 7) (Qa (Qb 12) Qd))) Qx)
  (Zf (Ql 5 JN (Qa (Qb 11) (Qa (Qb 3) (Qa (Qb 4) (Qa (Qb 5) (Qa (Qb 6) Qd))))))))))) Qx)
  (Qh (QP 14 (Ql 2 Qm (Qa (Qb 0) (Qa (Qb 8) Qd))))
  (Qh (Q9 (QaR (Qg (Qc wEq (Qb 14) (mFn Zb Qd))) (Z8 (Qg (Qc wEq (mFn VN (Qa (Qb 14) Qd)) (mC (.int 2)))) (Qg (Qc wEq (Qb 10) (mFn Zb Qd))))) (Zg (mFn Q4 (Qa (mC (.str "told")) (Qa (Qb 9) (Qa (Qb 6) (Qa (Qb 7) Qd)))))) Qx)
  (Qh (QP 8 (Qc wIx (Qb 14) (mC (.int 0))))
  (Qh (Q9 (Z8 (Qg (Qc wEq (mFn VN (Qa (Qb 14) Qd)) (mC (.int 2)))) (Qg (Qc wEq (mMt "list" QbQ (Qb 10) (Qa (mC (.int 0)) Qd)) (mC (.int 1))))) (QP 8 (Qc wIx (Qb 14) (mC (.int 1)))) Qx)
  (QP 9 (Qc Zs (Qb 9) (mC (.int 1))))))))))
noncomputable def ZY:FM:=QI 12
  (Qh (Qel (XN [3,4,5,6,7]) (mFn Q4 (Qa (mFn Yi Qd) (Qa (mFn Yi Qd) (Qa Qbl (Qa (mFn Yi Qd) (Qa (mFn Yi Qd) Qd)))))))
  (Qh (QP 8 (mFn Q4 (Qa (mFn Q4 Qd) (Qa (mC (.int 0)) (Qa (mC (.int 0)) (Qa (mC (.bl false)) Qd))))))
  (Qh (QP 9 (mC (.int 0)))
  (Qh (QP 10 (mFn Qad (Qa (Qb 1) Qd)))
  (Q8 (YK (mC (.bl true))) JA 1000000)))))
theorem Yn(d:DefAt K mg "_law_shelf" Jn ["program","choices","size"])(b_len:mg "len"=none)(b_list:mg "list"=none)(c__law_free:Cal P w K mg base 1 "_law_free" ["numbers","gone","size"] JK)(c__law_line_at:Cal P w K mg base 1 "_law_line_at" ["program","spot"] Zk)(c__law_step:Cal P w K mg base 1 "_law_step" ["line","rooms","gone","boxes","words"] JN)(c__law_stop:Cal P w K mg base 1 "_law_stop" ["line","rooms","gone","boxes","free"] JG)(c_next_spots:Cal P w K mg base 5 "next_spots" ["program","spot"] Qm):Cal P w K mg base 6 "_law_shelf" ["program","choices","size"] ZY:=by
 refine QK (k:=5) (more:=12) d Xv rfl fun _ _ _ _ _ _ _ hr=>?_;have nd_:=(Xv).nd
 walk_at"~;)"
 refine Wu ?_ ?_ ?_ ?_ ?_
 walk_at"~:#"
 refine Jq ?_
 walk_at"~%#"
 refine Jq ?_
 walk_at"~%#"
 exact UW
 walk_at"~#"
 refine Jq ?_
 walk_at"~%#"
 refine Jq ?_
 walk_at"~%%"
 refine Y5 (is:=[3,4,5,6,7]) ?_ ?_ ?_ ?_
 walk_at"~$"
 refine QG (i:=3) (x:="rooms") nd_ rfl (Or.inl rfl) ?_ ?_;refine QG (i:=4) (x:="gone") nd_ rfl (Or.inl rfl) ?_ ?_;refine QG (i:=5) (x:="boxes") nd_ rfl (Or.inl rfl) ?_ ?_;refine QG (i:=6) (x:="words") nd_ rfl (Or.inl rfl) ?_ ?_;refine QG (i:=7) (x:="numbers") nd_ rfl (Or.inl rfl) ?_ ?_;exact XJ
 walk_at"~&&&&&$$$$$)->$3:#:%#(#(#"
 exact KI
 walk_at"~%$&)->$3($&)->$3"
 refine Vz UR VL ?_ ?_ Ih ?_ ?_ ?_ ?_ ?_
 walk_at"~$"
 exact b_list
 walk_at"~#1%88$$$&,"
 refine WW 1000000 ?_ ?_ ?_;exact NV;refine J8 ?_;exact KI
 walk_at"~)->$3"
 refine Qj (k:=1) (ps:=["program","spot"]) ?_ ?_ ?_ ?_ ?_ ?_ ?_ ?_;exact c__law_line_at
 walk_at"~0$#+#"
 exact Qe 8
 walk_at"~%$8$$$&)4"
 refine QC Z4 Qk ?_ ?_;exact Qe 11;exact QV
 walk_at"~)->$3"
 refine Qj (k:=1) (ps:=["numbers","gone","size"]) ?_ ?_ ?_ ?_ ?_ ?_ ?_ ?_;exact c__law_free
 walk_at"~0$#"
 exact Qe 7
 walk_at"~#C#?%$8$$$&)->$3"
 refine Qj (k:=1) (ps:=["line","rooms","gone","boxes","free"]) ?_ ?_ ?_ ?_ ?_ ?_ ?_ ?_;exact c__law_stop
 walk_at"~0$#"
 exact Qe 11
 walk_at"~#<#C#"
 exact Qe 5
 walk_at"~#"
 exact Qe 12
 walk_at"~%$8$$$&)4"
 refine QC (Qcu ?_) Qk ?_ ?_
 walk_at"~9"
 exact Qe 13
 walk_at"~/,5:#"
 exact Qe 13
 walk_at"~#"
 exact Qe 9
 walk_at"~#"
 exact Qe 6
 walk_at"~#"
 exact Qe 7
 walk_at"~%A)4.9*"
 exact Qe 11
 walk_at"~(/,"
 refine QE ?_
 walk_at"~2"
 exact Qe 7
 walk_at"~#"
 exact Qe 12
 walk_at"~%A,"
 refine QE ?_;refine Qj (k:=1) (ps:=["line","rooms","gone","boxes","words"]) ?_ ?_ ?_ ?_ ?_ ?_ ?_ ?_;exact c__law_step
 walk_at"~0$#"
 exact Qe 11
 walk_at"~#<#C#"
 exact Qe 5
 walk_at"~#"
 exact Qe 6
 walk_at"~%$8$$A)->$3"
 refine Qj (k:=5) (ps:=["program","spot"]) ?_ ?_ ?_ ?_ ?_ ?_ ?_ ?_;exact c_next_spots
 walk_at"~0$#+#"
 exact Qe 8
 walk_at"~%$8$$$&)4"
 refine PMW.pt ?_;refine YC ?_ ?_
 walk_at"~.9"
 exact Qe 14
 walk_at"~B%"
 refine XM ?_;refine PMW.pt ?_;refine ZO ?_ ?_
 walk_at"~.97$"
 exact b_len
 walk_at"~#"
 exact Qe 14
 walk_at"~%88$$("
 refine ZJ ?_
 walk_at"~.9"
 exact Qe 10
 walk_at"~B%,5:#/#"
 exact Qe 9
 walk_at"~#"
 exact Qe 6
 walk_at"~#"
 exact Qe 7
 walk_at"~%A)->$3*"
 exact Qe 14
 walk_at"~($&)4"
 refine PMW.pt ?_;refine ZO ?_ ?_
 walk_at"~.97$"
 exact b_len
 walk_at"~#"
 exact Qe 14
 walk_at"~%88$$("
 refine ZJ ?_
 walk_at"~.9"
 refine Yr Ej Du Iu QcO ?_ ?_;exact Qe 10
 walk_at"~#(%(,->$3*"
 exact Qe 14
 walk_at"~($&A,->$36"
 exact Qe 9
 walk_at"~($&"
noncomputable def Vl:FM:=box frN ZY
noncomputable abbrev Uk:Stmt:=top 44
theorem QeJ:FnScope ["script","boxes","words","program","size","choices"] ["script"] (Qf Uk):=⟨rfl,rfl,rfl,by decide +kernel,rfl,by decide +kernel,by decide +kernel⟩
noncomputable abbrev Wc(C_Shelf:Addr):SM:=(Q9 (Qg (Qc wNe (Ql 3 (VY C_Shelf) (Qa (Qb 3) (Qa (Qb 5) (Qa (Qb 4) Qd)))) (Ql 3 Vl (Qa (Qb 3) (Qa (Qb 5) (Qa (Qb 4) Qd)))))) (Zg (mC (.bl false))) Qx)
noncomputable abbrev Xo(C_Shelf:Addr):SM:=(Vv (Jw (mFn Zb (Qa (mFn Zb (Qa (mC (.int 1)) (Qa (mC (.int 0)) Qd))) (Qa (mFn Zb (Qa (mC (.int 1)) (Qa (mC (.int 1)) (Qa (mC (.int 0)) Qd)))) (Qa (mFn Zb (Qa (mC (.int 0)) Qd)) (Qa (mFn Zb Qd) Qd)))))) (ZU 5)
  (Wc C_Shelf))
noncomputable def KP(C_Shelf:Addr):FM:=QI 5
  (Qh (QP 1 (Ql 2 QU (Qa (Ql 2 Qi (Qa (Qb 0) (Qa (mC (.int 0)) Qd))) (Qa (mC (.int 4)) Qd))))
  (Qh (QP 2 (Ql 2 QU (Qa (Ql 2 Qi (Qa (Qb 0) (Qa (mC (.int 1)) Qd))) (Qa (mC (.int 2)) Qd))))
  (Qh (QP 3 (mFn Q4 (Qa (mFn Q4 (Qa (mC (.str "main")) (Qa (mFn Uu (Qa (Ql 3 Je (Qa (Qb 0) (Qa (Qb 1) (Qa (Qb 2) Qd)))) Qd)) Qd))) Qd)))
  (Qh (Vv (Jw (mFn Zb (Qa (Qc Zs (mC (.int 1)) (Qc JC (Ql 2 Qi (Qa (Qb 0) (Qa (mC (.int 2)) Qd))) (mC (.int 9)))) (Qa (mC (.int 9)) (Qa (mC (.int 1)) (Qa (mC (.int 0)) Qd)))))) (ZU 4)
  (Xo C_Shelf))
  (Zg (mC (.bl true)))))))
theorem Qff(d:DefAt K mg "law" Uk ["script"])(b_tuple:mg "tuple"=none)(c__law_lines:Cal P w K mg base 2 "_law_lines" ["script","boxes","words"] Je)(c__law_mixed:Cal P w K mg base 1 "_law_mixed" ["script","k"] Qi)(c__law_names:Cal P w K mg base 1 "_law_names" ["number","many"] QU)(c__law_shelf:Cal P w K mg base 6 "_law_shelf" ["program","choices","size"] Vl)(c_on_shelf:Cal P w K mg base 7 "on_shelf" ["program","choices","size"] (VY C_Shelf)):Cal P w K mg base 8 "law" ["script"] (KP C_Shelf):=by
 refine QK (k:=7) (more:=5) d QeJ rfl fun _ _ _ _ _ _ _ hr=>?_;have nd_:=(QeJ).nd
 walk_at"~;)->$3"
 refine Qj (k:=1) (ps:=["number","many"]) ?_ ?_ ?_ ?_ ?_ ?_ ?_ ?_;exact c__law_names
 walk_at"~0$#"
 refine Qj (k:=1) (ps:=["script","k"]) ?_ ?_ ?_ ?_ ?_ ?_ ?_ ?_;exact c__law_mixed
 walk_at"~0$#+#(%$8$$#(%$8$$$&)->$3"
 refine Qj (k:=1) (ps:=["number","many"]) ?_ ?_ ?_ ?_ ?_ ?_ ?_ ?_;exact c__law_names
 walk_at"~0$#"
 refine Qj (k:=1) (ps:=["script","k"]) ?_ ?_ ?_ ?_ ?_ ?_ ?_ ?_;exact c__law_mixed
 walk_at"~0$#+#(%$8$$#(%$8$$$&)->$3:#:#/#"
 refine Vz UV VL ?_ ?_ PyProof.Rows.boot_tuple ?_ ?_ ?_ ?_ ?_
 walk_at"~$"
 exact b_tuple
 walk_at"~#"
 refine Qj (k:=2) (ps:=["script","boxes","words"]) ?_ ?_ ?_ ?_ ?_ ?_ ?_ ?_;exact c__law_lines
 walk_at"~0$#+#1#?%$8$$%88$$%%$&)"
 refine Jd ?_ ?_ ?_ ?_ ?_ ?_;exact NV
 walk_at"~$"
 refine V1 ?_
 walk_at"~B#6(="
 refine Qj (k:=1) (ps:=["script","k"]) ?_ ?_ ?_ ?_ ?_ ?_ ?_ ?_;exact c__law_mixed
 walk_at"~0$#+#(%$8$$(#(#(#(%"
 exact QS (i:=4) (x:="size") nd_ rfl (Or.inl rfl)
 walk_at"~,"
 refine Jd ?_ ?_ ?_ ?_ ?_ ?_;exact NV
 walk_at"~$"
 refine V1 ?_
 walk_at"~B#B#(#(%#B#(#(#(%#B#(%#B%%"
 exact QS (i:=5) (x:="choices") nd_ rfl (Or.inl rfl)
 walk_at"~,4"
 refine QC (Qcu ?_) Qk ?_ ?_
 walk_at"~9"
 refine Qj (k:=7) (ps:=["program","choices","size"]) ?_ ?_ ?_ ?_ ?_ ?_ ?_ ?_;exact c_on_shelf
 walk_at"~0$#<#"
 exact Qe 5
 walk_at"~#C%$8$$"
 refine Qj (k:=6) (ps:=["program","choices","size"]) ?_ ?_ ?_ ?_ ?_ ?_ ?_ ?_;exact c__law_shelf
 walk_at"~0$#<#"
 exact Qe 5
 walk_at"~#C%$8$$,5"
 exact KI
 walk_at"~A"
 exact fun _=>rfl;exact fun _=>rfl
 walk_at"~,5"
 exact KI
end
theorem QfH{P:Program}{w:World}{K:Nd}{b:Str->Option Value}{base:Heap}{a:Addr}(f:ClsAt K b a "Shelf")(c:NoAttr K a "free_again")(G:NoAttr K a "fresh")(af:NoAttr K a "gone")(D:NoAttr K a "held")(u:NoAttr K a "in_use")(F:NoAttr K a "rooms")(bc:NoAttr K a "size")(r:NoAttr K a "taken")(E:NoAttr K a "words")(R:DefAt K b "_law_names" Q5 ["number","many"])(S:DefAt K b "_law_mixed" Jl ["script","k"])(T:DefAt K b "_law_lines" ZC ["script","boxes","words"])(ak:DefAt K b "all_lines" JT ["program"])(a2:DefAt K b "boxes_in" Vb ["line"])(a1:DefAt K b "boxes_of" Vd ["program"])(s:MetAt K a "__init__" "Shelf.__init__" Zo ["self","program","size"])(a7:DefAt K b "line_of" VH ["program","spot"])(bh:DefAt K b "at_gap" Xk ["spot","k"])(a9:DefAt K b "at_head" VQ ["spot","k"])(y:DefAt K b "level_change" ZB ["line"])(a8:DefAt K b "head_of" VM ["lines","k"])(z:DefAt K b "found_behind" ZA ["lines","k","kind"])(bm:DefAt K b "or_of" Kx ["lines","k"])(bg:DefAt K b "end_of" Xx ["lines","k"])(x:DefAt K b "next_in_part" ZI ["lines","spot"])(aj:DefAt K b "behind_do" JI ["spot"])(I:DefAt K b "part_number" Z2 ["program","name"])(N:DefAt K b "next_spots" Jj ["program","spot"])(O:DefAt K b "first_spot" Ji [])(bf:DefAt K b "run_by" Xy ["program","choices"])(bj:DefAt K b "reads" Ks ["line"])(ah:DefAt K b "room_read" JQ ["line","held"])(ao:MetAt K a "bar" "Shelf.bar" JP ["self","line"])(bn:DefAt K b "gives" Kn ["line"])(ai:DefAt K b "letter_of" JJ ["line"])(H:DefAt K b "room_within" ZV ["rooms","room","letter"])(a0:DefAt K b "given_by" Vk ["line","rooms","held"])(ag:DefAt K b "word_told" JF ["rooms","room"])(m:MetAt K a "make_room" "Shelf.make_room" Zd ["self","line"])(n:MetAt K a "give_back" "Shelf.give_back" Ze ["self","word"])(l:MetAt K a "pass_line" "Shelf.pass_line" Zc ["self","line"])(az:DefAt K b "on_shelf" Va ["program","choices","size"])(A:DefAt K b "_law_line_at" ZD ["program","spot"])(an:DefAt K b "_law_free" JR ["numbers","gone","size"])(al:DefAt K b "_law_stop" JS ["line","rooms","gone","boxes","free"])(am:DefAt K b "_law_step" JH ["line","rooms","gone","boxes","words"])(Q:DefAt K b "_law_shelf" Jn ["program","choices","size"])(bu:DefAt K b "law" Uk ["script"])(be:Glob K b "GIVING" J3)(v:Glob K b "NOTHING_TOLD" Zi)(bt:b "dict"=none)(b0:b "int"=none)(e:b "len"=none)(bd:b "list"=none)(d:b "range"=none)(bz:b "set"=none)(ae:b "sorted"=none)(br:b "tuple"=none)(bw:b "zip"=none):Cal P w K b base 8 "law" ["script"] (KP a):=by
 have Y:=(Yj (P:=P) (w:=w) (base:=base) R d).box frN;have j:=(Yg (P:=P) (w:=w) (base:=base) S e).box frN;have Z:=(Yh T b0 d j).box frN;have au:=(Y1 (P:=P) (w:=w) (base:=base) ak).box frN;have a6:=(Um (P:=P) (w:=w) (base:=base) a2 bd).box frN;have a5:=(WI a1 bz ae au a6).box frN;have t:Mal P w K b base 3 a "__init__" ["self","program","size"] (Qu a):=Xm s f c G af D u F bc r E bt a5;have M:=(UM (P:=P) (w:=w) (base:=base) a7 e).box frN;have ab:=(Qas (P:=P) (w:=w) (base:=base) bh).box frN;have bb:=(Gf (P:=P) (w:=w) (base:=base) a9).box frN;have g:=(Kk (P:=P) (w:=w) (base:=base) y).box frN;have ba:=(UF a8 d g).box frN;have h:=(Kh z e d g).box frN;have bp:=(QbU bm h).box frN;have aa:=(Qaf bg h).box frN;have B:=(Ki x ab bb aa ba bp).box frN;have as:=(Wb (P:=P) (w:=w) (base:=base) aj).box frN;have L:=(K2 (P:=P) (w:=w) (base:=base) I).box frN;have i:=(Yl N ab as aa M B L).box frN;have U:=(Yq (P:=P) (w:=w) (base:=base) O).box frN;have bi:=(QaE bf e U i).box frN;have bo:=(Qbj (P:=P) (w:=w) (base:=base) bj).box frN;have aq:Cal P w K b base 2 "room_read" ["line","held"] QX:=YW ah bo;have ay:Mal P w K b base 3 a "bar" ["self","line"] (QM a):=Y0 ao f c G af D bc aq;have bq:=(Qbb (P:=P) (w:=w) (base:=base) bn be).box frN;have ar:=(Wt (P:=P) (w:=w) (base:=base) ai).box frN;have J:Cal P w K b base 1 "room_within" ["rooms","room","letter"] Qy:=KR H;have a4:Cal P w K b base 2 "given_by" ["line","rooms","held"] Qz:=WR a0 e ar J;have ap:Cal P w K b base 1 "word_told" ["rooms","room"] QY:=Y7 ag v;have p:Mal P w K b base 1 a "make_room" ["self","line"] (Qn a):=V2 m f c G D u F r e;have q:Mal P w K b base 1 a "give_back" ["self","word"] (Qr a):=V3 n f c af u r ae;have o:Mal P w K b base 3 a "pass_line" ["self","line"] (Qp a):=V0 l f D F E q p a4 bq ap;have a3:=(WG az f r E e d t ay o M bi).box frN;have C:=(Kj (P:=P) (w:=w) (base:=base) A e).box frN;have ax:=(Y9 (P:=P) (w:=w) (base:=base) an d bw).box frN;have av:=(Y8 (P:=P) (w:=w) (base:=base) al).box frN;have aw:=(YY (P:=P) (w:=w) (base:=base) am e d).box frN;have X:=(Yn Q e bd ax C aw av i).box frN;have bv:Cal P w K b base 8 "law" ["script"] (KP a):=Qff bu br Z j Y X a3;exact bv
noncomputable abbrev Ln:=List Str
noncomputable def Qv(l:Ln):W:=.tup (l.map .str)
noncomputable def ZP(xs:List Str):W:=.lst (xs.map .str)
noncomputable abbrev Pt:=Str×List Ln
noncomputable def Ym(p:Pt):W:=.tup [.str p.1,.tup (p.2.map Qv)]
noncomputable def Q2(p:List Pt):W:=.tup (p.map Ym)
structure Spt where
 way:List (Nat×Nat)
 part:Nat
 k:Nat
 head:Bool
noncomputable def Qhc(q:Nat×Nat):W:=.tup [.int q.1,.int q.2]
noncomputable def QJ(s:Spt):W:=.tup [.tup (s.way.map Qhc),.int s.part,.int s.k,.bl s.head]
theorem GB:∀{ws:List W},(∀w∈ws,pln w=true)->Km ws=true
 |[],_=>rfl
 |w::ws,h=>by unfold Km;rw[h w Nv,GB fun x a=>h x (Nt _ a)];rfl
theorem GR{n:Nat}:∀{ws:List W},(∀w∈ws,dep w<=n)->Yp ws<=n
 |[],_=>NT _
 |w::ws,h=>by unfold Yp;exact Nat.max_le.mpr ⟨h w Nv,GR fun x a=>h x (Nt _ a)⟩
theorem Jo{f:a->W}{xs:List a}(h:∀x,pln (f x)=true):Km (xs.map f)=true:=GB fun w hw=>by obtain⟨x,_,rfl⟩:=Eb.mp hw;exact h x
theorem Xc{f:a->W}{xs:List a}(h:∀x,dep (f x)<=n):Yp (xs.map f)<=n:=GR fun w hw=>by obtain⟨x,_,rfl⟩:=Eb.mp hw;exact h x
@[simp]theorem XH{xs:List Str}:Km (xs.map .str)=true:=Jo fun _=>rfl
theorem Wh{xs:List Str}:Yp (xs.map .str)<=1:=Xc fun _=>Nn _
@[simp]theorem Qdg{l:Ln}:pln (Qv l)=true:=by unfold Qv pln;exact XH
@[simp]theorem Qda{xs:List Str}:pln (ZP xs)=true:=by unfold ZP pln;exact XH
@[simp]theorem Qkz{ls:List Ln}:Km (ls.map Qv)=true:=Jo fun _=>Qdg
@[simp]theorem QkV{p:Pt}:pln (Ym p)=true:=by simp[Ym,pln,Km]
@[simp]theorem QaZ{ps:List Pt}:Km (ps.map Ym)=true:=Jo fun _=>QkV
@[simp]theorem Qk6{ps:List Pt}:pln (Q2 ps)=true:=by unfold Q2 pln;exact QaZ
@[simp]theorem QjQ{q:Nat×Nat}:pln (Qhc q)=true:=id rfl
theorem Qj8{q:Nat×Nat}:dep (Qhc q)<=2:=Nn _
@[simp]theorem Qkh{qs:List (Nat×Nat)}:Km (qs.map Qhc)=true:=Jo fun _=>QjQ
theorem QfK{qs:List (Nat×Nat)}:Yp (qs.map Qhc)<=2:=Xc fun _=>Qj8
@[simp]theorem Qh2{s:Spt}:pln (QJ s)=true:=by simp[QJ,pln,Km]
theorem Qj0{s:Spt}:dep (QJ s)<=4:=by simp[QJ,dep,Yp];have:=QfK (qs:=s.way);exact this
@[simp]theorem QbD{ss:List Spt}:Km (ss.map QJ)=true:=Jo fun _=>Qh2
theorem QeT{ss:List Spt}:Yp (ss.map QJ)<=4:=Xc fun _=>Qj0
@[simp]theorem Qno{l:Ln}:pur (Qv l)=true:=K9 _ Qdg
@[simp]theorem Qjp{xs:List Str}:pur (ZP xs)=true:=K9 _ Qda
@[simp]theorem Qmv{ps:List Pt}:pur (Q2 ps)=true:=K9 _ Qk6
@[simp]theorem QmX{s:Spt}:pur (QJ s)=true:=K9 _ Qh2
@[simp]theorem Qd9{xs:List Str}:ZL (xs.map .str)=true:=Z6 _ XH
@[simp]theorem QkM{ls:List Pt}:ZL (ls.map Ym)=true:=Z6 _ QaZ
@[simp]theorem Qga{ss:List Spt}:ZL (ss.map QJ)=true:=Z6 _ QbD
@[simp]theorem Qnn{i:Int}:pur (.int i)=true:=id rfl
@[simp]theorem QmF{x:Str}:pur (.str x)=true:=id rfl
@[simp]theorem QnS{b:Bool}:pur (.bl b)=true:=id rfl
@[simp]theorem QnJ:pur .non=true:=id rfl
@[simp]theorem Qnq{ws:List W}:pur (.tup ws)=ZL ws:=by unfold pur;rfl
@[simp]theorem Qk8{ws:List W}:pur (.lst ws)=ZL ws:=by unfold pur;rfl
@[simp]theorem QmQ{ws:List W}:pur (.frz ws)=ZL ws:=by unfold pur;rfl
@[simp]theorem QiY:ZL []=true:=id rfl
@[simp]theorem Ga{ws:List W}:ZL (w::ws)=(pur w&&ZL ws):=by rw[ZL]
@[simp]theorem QhU{ws us:List W}:ZL (ws++us)=(ZL ws&&ZL us):=by
 induction ws with
 |nil=>simp
 |cons w ws a=>simp[a,L0]
@[simp]theorem Qho{ns:List Int}:ZL (ns.map .int)=true:=by
 induction ns with
 |nil=>rfl
 |cons n ns a=>simp[a]
@[simp]theorem QlT{ws:List W}:QbP (.lst ws)=ZL ws:=id rfl
@[simp]theorem Ql7:1<=sizeLine:=by decide
@[simp]theorem Ql1:2<=sizeLine:=by decide
@[simp]theorem Qlg:3<=sizeLine:=by decide
@[simp]theorem Qlc:4<=sizeLine:=by decide
@[simp]theorem Qlz:5<=sizeLine:=by decide
@[simp]theorem Qlm:6<=sizeLine:=by decide
@[simp]theorem Qmg:8<=sizeLine:=by decide
@[simp]theorem QlE:0<sizeLine:=by decide
theorem Qfw{xs:List b}{i:Int}{P:b->Prop}{f:b->W}(c:0<=i)(h1:i<xs.length)(hp:∀x∈xs,P x):∃x,x∈xs/\P x/\atI (xs.map f) i=some (f x):=by
 obtain⟨n,rfl⟩:∃n:Nat,i=n:=⟨i.toNat,by exact(Et ‹_›).symm⟩
 have a:n<xs.length:=by lia
 exact⟨xs[n],DS a,hp _ (DS a),by rw[Qs,Nq,Ni a];rfl⟩
theorem QkB{ys:List W}(c:pln a=true)(py:Km ys=true)(e:dep a<=40)(d:Yp ys<=40):wIn neg a (.lst ys) h=some (.bl (if neg=true then !inW a ys else inW a ys),h):=by
 show((lsW h (.lst ys)).bind fun ys=>(drf h 40 a).bind fun x=>(Zt (drf h 40) ys).map fun b=>(W.bl (if neg then !inW x b else inW x b),h))=_;simp only[lsW,Nj];rw[VA h a 40 c e,VP h ys 40 py d];rfl
theorem QhX{ys:List W}(c:pln a=true)(py:Km ys=true)(e:dep a<=40)(d:Yp ys<=40):wIn neg a (.tup ys) h=some (.bl (if neg=true then !inW a ys else inW a ys),h):=by
 show((drf h 40 a).bind fun x=>(Zt (drf h 40) ys).map fun b=>(W.bl (if neg then !inW x b else inW x b),h))=_;rw[VA h a 40 c e,VP h ys 40 py d];rfl
@[simp]theorem QnP{xs:List a}:atI xs 2=xs[2]?:=Qs (n:=2)
@[simp]theorem Qn3{xs:List a}:atI xs 3=xs[3]?:=Qs (n:=3)
@[simp]theorem QnZ{xs:List a}:atI xs 4=xs[4]?:=Qs (n:=4)
theorem Vt{n j:Nat}(h:(Qw a n)[j]?=some w):j<n/\w=.int (a+j):=by
 have b:=(Ng.mp h).1;simp[Qw]at b;refine⟨b,?_⟩;unfold Qw at h;rw[Nq,Er b]at h;cases h;rfl
theorem Qgh{a b:Char}(h:a.toNat=b.toNat):a=b:=by
 have:a.val=b.val:=by
  apply UInt32.toNat_inj.mp;exact h
 exact Char.ext this
theorem Yb:∀{a b:List Char},a.map Char.toNat=b.map Char.toNat->a=b
 |[],[],_=>rfl
 |[],_::_,h=>by simp at h
 |_::_,[],h=>by simp at h
 |x::a,y::b,h=>by
  simp only[Nr,List.cons.injEq]at h;rw[Qgh h.1,Yb h.2]
@[simp]theorem QjR{a b:String}:(Str.ofString a=Str.ofString b)↔a=b:=by
 constructor
 ·intro h;rw[Ii,Ii]at h;have c:=Yb (List.toArray_inj (Str.mk.inj h));exact String.toList_inj.mp c
 ·intro h;rw[h]
inductive Li where
 |pair (x w y z:Str)|first (x y:Str)|second (x y:Str)|same (x y:Str)|non (x:Str)|tell (x:Str)|back (w:Str)|doo (n:Str)|either|or|again|fin
noncomputable def ln:Li->Ln
 |.pair x w y z=>[("pair":Str),x,w,y,z]
 |.first x y=>[("first":Str),x,y]
 |.second x y=>[("second":Str),x,y]
 |.same x y=>[("same":Str),x,y]
 |.non x=>[("none":Str),x]
 |.tell x=>[("tell":Str),x]
 |.back w=>[("back":Str),w]
 |.doo n=>[("do":Str),n]
 |.either=>[("either":Str)]
 |.or=>[("or":Str)]
 |.again=>[("again":Str)]
 |.fin=>[("end":Str)]
noncomputable def bx:Li->List Str
 |.pair x _ y z=>[x,y,z]
 |.first x y|.second x y|.same x y=>[x,y]
 |.non x|.tell x=>[x]
 |_=>[]
noncomputable abbrev Pr:=Str×List Li
noncomputable def pp(p:List Pr):List Pt:=p.map fun x=>(x.1,x.2.map ln)
noncomputable def als(p:List Pr):List Li:=p.flatMap (·.2)
structure Rm where
 word:Str
 a:Option Nat
 b:Option Nat
 at':Nat
noncomputable def oN:Option Nat->W
 |none=>.non
 |some n=>.int n
structure TS where
 rooms:List Rm
 read:List (Nat×Nat)
 told:List Str
 f:Str->Option Nat
noncomputable def up(f:Str->Option Nat)(x:Str)(v:Option Nat):Str->Option Nat:=fun y=>if y=x then v else f y
noncomputable def Qld(rs:List Rm)(g:Rm->Option Nat):Option Nat->Option Nat
 |none=>none
 |some n=>(rs[n]?).bind g
theorem Qcb{N:Nat}(b:∀y n,f y=some n->n<N)(a:∀n,v=some n->n<N):∀y n,up f x v y=some n->n<N:=by
 intro y n e;unfold up at e;split at e
 ·exact a n e
 ·exact b y n e
noncomputable def dcE(bs:List Str)(f:Str->Option Nat):List (Key×W):=bs.map fun b=>(Sum.inr b,oN (f b))
theorem K7(c:x∈bs):Jk (dcE bs f) (.inr x)=some (oN (f x)):=by
 induction bs with
 |nil=>cases c
 |cons b bs a=>
  unfold dcE Jk at a ⊢;rw[Nr,Ea]
  by_cases e:b=x
  ·subst e;simp
  ·have:decide ((Sum.inr b:Key)=Sum.inr x)=false:=decide_eq_false fun z=>e (Eg z);simp only[this];exact a ((Nx.mp c).resolve_left fun z=>e z.symm)
theorem Qi6(c:x∈bs):Vp (dcE bs f) (.inr x) (oN v)=dcE bs (up f x v):=by
 have d:((dcE bs f).any fun a=>decide (a.1=Sum.inr x))=true:=by
  rw[FG];exact⟨(Sum.inr x,oN (f x)),Eb.mpr ⟨x,c,rfl⟩,by simp⟩
 unfold Vp;rw[if_pos d];unfold dcE;rw[D7];refine Fd fun b _=>?_;show(if(Sum.inr b:Key)=Sum.inr x then _ else _)=_
 by_cases e:b=x
 ·subst e;simp[up]
 ·have:¬(Sum.inr b:Key)=Sum.inr x:=fun z=>e (Eg z);rw[if_neg this];simp[up,e]
@[simp]theorem QlW:pur (oN o)=true:=by cases o<;>rfl
@[simp]theorem Ql2:Vm (oN o)=o.isNone:=by cases o<;>rfl
@[simp]theorem QlX:QbP (.dic kvs)=ZL (kvs.map (·.2)):=id rfl
structure Ro where
 word:Str
 a:Option Nat
 b:Option Nat
structure Sh where
 rooms:List Ro
 gone:List Bool
 f:Str->Option Nat
 words:List Str
 nums:List Int
noncomputable def tkn(S:Sh):List Int:=((S.nums.zip S.gone).filter fun p=>!p.2).map (·.1)
noncomputable def frL(S:Sh)(zz:Nat):Option Nat:=(List.range zz).find? fun n=>!decide ((n:Int)∈tkn S)
noncomputable def J4(S:Sh)(o:Option Nat):Bool:=match o with
 |some n=>S.gone.getD n false
 |none=>false
noncomputable def rdF(S:Sh):Li->Option Nat
 |.first _ y|.second _ y|.tell y=>S.f y
 |_=>none
noncomputable def Kb:Li->Bool
 |.pair _ _ _ _=>true
 |_=>false
noncomputable def Z3(S:Sh)(zz:Nat)(l:Li):Option Str:=
 if J4 S (rdF S l)=true then some "gone"else if Kb l=true/\frL S zz=none then some "full"else none
noncomputable def wi(rs:List Ro)(g:Ro->Option Nat):Option Nat->Option Nat
 |none=>none
 |some n=>(rs[n]?).bind g
noncomputable def wdT(rs:List Ro):Option Nat->Str
 |none=>"-"
 |some n=>match rs[n]? with|some r=>r.word|none=>"-"
noncomputable def Vu(rs:List Ro)(w:Str)(k:Nat):Bool:=match rs[k]? with
 |some r=>r.word==w
 |none=>false
noncomputable def Qo(zz:Nat)(S:Sh):Li->Sh
 |.pair x w y z=>{ S with rooms:=S.rooms++[⟨w,S.f y,S.f z⟩],gone:=S.gone++[false],nums:=S.nums++[(((frL S zz).getD 0:Nat):Int)],f:=up S.f x (some S.rooms.length) }
 |.first x y=>{ S with f:=up S.f x (wi S.rooms Ro.a (S.f y)) }
 |.second x y=>{ S with f:=up S.f x (wi S.rooms Ro.b (S.f y)) }
 |.same x y=>{ S with f:=up S.f x (S.f y) }
 |.non x=>{ S with f:=up S.f x none }
 |.tell x=>{ S with words:=S.words++[wdT S.rooms (S.f x)] }
 |.back w=>{ S with gone:=(List.range S.gone.length).map fun k=>(S.gone.getD k false ||Vu S.rooms w k) }
 |_=>S
noncomputable def sim(zz:Nat):List (Option Li)->Nat->Sh->Str×Nat×List Str×List Int
 |[],i,S=>("told",i,S.words,S.nums)
 |none::r,i,S=>sim zz r (i+1) S
 |some l::r,i,S=>match Z3 S zz l with
  |some w=>(w,i,S.words,S.nums)
  |none=>sim zz r (i+1) (Qo zz S l)
structure OkS(i:Nat)(S:Sh):Prop where
 rl:S.rooms.length<=i
 gl:S.gone.length=S.rooms.length
 nl:S.nums.length=S.rooms.length
 tl:S.words.length<=i
 f:∀x n,S.f x=some n->n<S.rooms.length
 a:∀(k:Nat) r n,S.rooms[k]?=some r->(r.a=some n\/r.b=some n)->n<k
theorem QiT(h:OkS i S)(d:∀r n,g r=some n->r.a=some n\/r.b=some n){n:Nat}(e:wi S.rooms g o=some n):n<S.rooms.length:=by
 cases o with
 |none=>cases e
 |some k=>
  obtain⟨r,c,f⟩:=Na.mp e;have:=h.a k r n c (d r n f);have:=(Ng.mp c).1;lia
theorem VO(h:OkS i S)(l:Li):OkS (i+1) (Qo zz S l):=by
 have k:OkS (i+1) S:=⟨N0 h.rl,h.gl,h.nl,N0 h.tl,h.f,h.a⟩
 cases l with
 | pair x w y z=>
  have b:(S.rooms++[(⟨w,S.f y,S.f z⟩:Ro)]).length=S.rooms.length+1:=by simp
  refine⟨by rw[Qo,b];have:=h.rl;exact ID this _,by simp[Qo,h.gl],by simp[Qo,h.nl],k.tl,fun q n e=>?_,fun j r n e hr=>?_⟩
  ·rw[Qo,b];exact Qcb (fun y n e=>DN (h.f y n e)) (fun n e=>by cases e;exact Ev _) q n e
  ·have g:=(Ng.mp e).1;rw[Qo,b]at g
   by_cases c:j<S.rooms.length
   ·have d:S.rooms[j]?=some r:=by rw[<-e];exact(Np c).symm
    exact h.a j r n d hr
   ·have:j=S.rooms.length:=by lia
    subst this
    have d:(⟨w,S.f y,S.f z⟩:Ro)=r:=by
     have:(S.rooms++[⟨w,S.f y,S.f z⟩])[S.rooms.length]?=some r:=e;simpa using this
    subst d
    rcases hr with z|z
    ·exact h.f _ _ z
    ·exact h.f _ _ z
 |first x y=>exact⟨k.rl,k.gl,k.nl,k.tl,Qcb h.f fun n e=>QiT h (fun _ _ q=>.inl q) e,h.a⟩
 |second x y=>exact⟨k.rl,k.gl,k.nl,k.tl,Qcb h.f fun n e=>QiT h (fun _ _ q=>.inr q) e,h.a⟩
 |same x y=>exact⟨k.rl,k.gl,k.nl,k.tl,Qcb h.f fun n e=>h.f y n e,h.a⟩
 |non x=>exact⟨k.rl,k.gl,k.nl,k.tl,Qcb h.f fun n e=>(nomatch e),h.a⟩
 |tell x=>exact⟨k.rl,k.gl,k.nl,by show(S.words++[_]).length<=_;have:=h.tl;simp;exact this,h.f,h.a⟩
 |back w=>exact⟨k.rl,by simp[Qo,h.gl],k.nl,k.tl,h.f,h.a⟩
 |_=>exact k
structure Bk2(zz:Nat)(S:Sh)(use:Str->List Nat)(fh:Nat)(fr:List Int):Prop where
 use:∀w,use w=(List.range S.rooms.length).filter fun k=>Vu S.rooms w k&&!(S.gone.getD k false)
 desc:fr.Pairwise (·>·)
 lo:∀n∈fr,0<=n/\n<fh
 tl:∀n∈tkn S,0<=n/\n<fh/\n∉fr
 all:∀n:Int,0<=n->n<fh->n∈fr\/n∈tkn S
 inj:∀(j k:Nat) n,S.nums[j]?=some n->S.nums[k]?=some n->S.gone[j]?=some false->S.gone[k]?=some false->j=k
 fs:fh<=zz
theorem tkn_mem{S:Sh}{n:Int}:n∈tkn S↔∃k:Nat,S.nums[k]?=some n/\S.gone[k]?=some false:=by
 unfold tkn;rw[Eb];constructor
 ·rintro⟨⟨a,b⟩,h,rfl⟩
  obtain⟨e,d⟩:=EV.mp h;obtain⟨k,c⟩:=NA.mp e;rw[EK]at c;refine⟨k,c.1,?_⟩;cases b with
  |true=>simp at d
  |false=>exact c.2
 ·rintro⟨k,e,d⟩
  refine⟨(n,false),EV.mpr ⟨NA.mpr ⟨k,?_⟩,rfl⟩,rfl⟩;rw[EK];exact⟨e,d⟩
theorem YM{p:Nat->Bool}{n m:Nat}(a:m<n)(hp:p m=true)(b:∀k,k<m->p k=false):(List.range n).find? p=some m:=by
 rw[FN];refine⟨hp,by simpa using a,fun k c=>by simp[b k c]⟩
theorem Ux{p:Nat->Bool}{n:Nat}(a:∀k,k<n->p k=false):(List.range n).find? p=none:=by
 rw[Fi];intro k b;simp[a k (by simpa using b)]
theorem GO(B:Bk2 zz S use fh []):frL S zz=if fh<zz then some fh else none:=by
 have b:∀k:Nat,k<fh->(k:Int)∈tkn S:=fun k a=>by
  rcases B.all k (by lia) (by lia)with z|z
  ·cases z
  ·exact z
 split
 ·rename_i h;refine YM h ?_ fun k a=>?_
  ·have:¬(fh:Int)∈tkn S:=fun z=>by have:=(B.tl _ z).2.1;lia
   simp[this]
  ·simp[b k a]
 ·rename_i h;have:=B.fs;refine Ux fun k a=>?_;simp[b k (by lia)]
theorem Uo(B:Bk2 zz S use fh (r++[m])):frL S zz=some m.toNat/\0<=m:=by
 have a:=B.lo m (by simp);have c:=B.fs;have hd:=IF.mp B.desc;refine⟨YM (by lia) ?_ fun k d=>?_,a.1⟩
 ·have:¬(m.toNat:Int)∈tkn S:=fun z=>by
   have b:=(B.tl _ z).2.2;rw[Et a.1]at b;exact b (by simp)
  simp only[this];rfl
 ·rcases B.all k (by lia) (by lia)with z|z
  ·exfalso
   rcases NK.mp z with z|z
   ·have:=hd.2.2 _ z m (by simp);lia
   ·have:=NI.mp z;lia
  ·simp[z]
theorem Qe4{rs:List Ro}{r:Ro}{w:Str}{k:Nat}(a:k<rs.length):Vu (rs++[r]) w k=Vu rs w k:=by
 unfold Vu;rw[Np a]
theorem Qci{rs:List Ro}{r:Ro}{w:Str}:Vu (rs++[r]) w rs.length=(r.word==w):=by
 unfold Vu;simp
theorem Qdz(ok:OkS i S){a:Sh}(b:a.nums=S.nums++[v])(c:a.gone=S.gone++[false]):tkn a=tkn S++[v]:=by
 unfold tkn;have:S.nums.length=S.gone.length:=by rw[ok.gl,ok.nl]
 rw[b,c,List.zip_append this];simp
theorem Qdn{l:List a}{x y:a}{k:Nat}:(l++[x])[k]?=some y↔l[k]?=some y\/(k=l.length/\x=y):=by
 by_cases h:k<l.length
 ·rw[Np h];constructor
  ·exact .inl
  ·rintro(z|⟨z,_⟩)
   ·exact z
   ·lia
 ·have b:l[k]?=none:=NF (by lia);rw[b]
  by_cases e:k=l.length
  ·subst e;simp
  ·rw[NF (by simp;lia)];simp[e]
noncomputable def QaQ(use:Str->List Nat)(w:Str)(n:Nat):Str->List Nat:=fun v=>if v=w then use v++[n]else use v
theorem Qd7(ok:OkS i S)(B:∀w,use w=(List.range S.rooms.length).filter fun k=>Vu S.rooms w k&&!(S.gone.getD k false)){r:Ro}:∀w,QaQ use r.word S.rooms.length w=(List.range (S.rooms++[r]).length).filter fun k=>Vu (S.rooms++[r]) w k&&!((S.gone++[false]).getD k false):=by
 intro w
 have d:(List.range S.rooms.length).filter (fun k=>Vu (S.rooms++[r]) w k&&!((S.gone++[false]).getD k false))=use w:=by
  rw[B w];apply Fx;intro k a;have a:=N7.mp a;have b:k<S.gone.length:=by rw[ok.gl];exact a
  rw[Qe4 a]
  have:(S.gone++[false]).getD k false=S.gone.getD k false:=by
   simp only[NE];rw[Np b]
  rw[this]
 rw[NC,EI,F0,List.filter_append,d];have c:(S.gone++[false]).getD S.rooms.length false=false:=by rw[<-ok.gl];simp
 unfold QaQ
 by_cases e:w=r.word
 ·subst e;rw[DR,Qci,c];simp
 ·have f:¬r.word=w:=fun z=>e z.symm;rw[DR,Qci,c];simp[e,f]
theorem Qfr(ok:OkS i S)(B:Bk2 zz S use fh p)(L:frL S zz≠none)(x w y z:Str):match p.getLast? with
  |none=>fh<zz/\(frL S zz).getD 0=fh/\Bk2 zz (Qo zz S (.pair x w y z)) (QaQ use w S.rooms.length) (fh+1) []
  |some m=>0<=m/\((frL S zz).getD 0:Int)=m/\Bk2 zz (Qo zz S (.pair x w y z)) (QaQ use w S.rooms.length) fh p.dropLast:=by
 have hu:=Qd7 (r:=⟨w,S.f y,S.f z⟩) ok B.use;have C:∀v:Int,((frL S zz).getD 0:Nat)=v->tkn (Qo zz S (.pair x w y z))=tkn S++[v]:=fun v c=>Qdz ok (by rw[Qo,<-c]) rfl
 have u:∀v:Int,((frL S zz).getD 0:Nat)=v->v∉tkn S->∀(j k:Nat) n,(Qo zz S (.pair x w y z)).nums[j]?=some n->(Qo zz S (.pair x w y z)).nums[k]?=some n->(Qo zz S (.pair x w y z)).gone[j]?=some false->(Qo zz S (.pair x w y z)).gone[k]?=some false->j=k:=by
  intro v c s j k n g d G D;simp only[Qo]at g d G D;rw[Qdn]at g d G D
  have a:∀(q:Nat) (m:Int),S.nums[q]?=some m->q≠S.gone.length:=fun q m e z=>by
   have:=(Ng.mp e).1;rw[ok.nl]at this;rw[ok.gl]at z;lia
  have I:∀(q:Nat),S.gone[q]?=some false->q≠S.nums.length:=fun q e z=>by
   have:=(Ng.mp e).1;rw[ok.gl]at this;rw[ok.nl]at z;lia
  rcases g with g|⟨g,A⟩
  ·have g1:=G.resolve_right fun z=>a _ _ g z.1
   rcases d with d|⟨d,o⟩
   ·exact B.inj j k n g d g1 (D.resolve_right fun z=>a _ _ d z.1)
   ·exfalso;rw[c]at o;exact s (by rw[o];exact tkn_mem.mpr ⟨j,g,g1⟩)
  ·rcases d with d|⟨d,o⟩
   ·exfalso;rw[c]at A;exact s (by rw[A];exact tkn_mem.mpr ⟨k,d,D.resolve_right fun z=>a _ _ d z.1⟩)
   ·rw[g,d]
 cases J:p.getLast? with
 | none=>
  have:p=[]:=by simpa using J
  subst this;have b:=GO B
  by_cases a:fh<zz
  ·rw[if_pos a]at b;have c:((frL S zz).getD 0:Nat)=(fh:Int):=by rw[b];rfl
   have l:(fh:Int)∉tkn S:=fun q=>by have:=(B.tl _ q).2.1;lia
   refine⟨a,by rw[b];rfl,⟨hu,.nil,(fun n h=>nomatch h),fun n h=>?_,fun n H g=>?_,u _ c l,a⟩⟩
   ·rw[C _ c]at h
    rcases NK.mp h with q|q
    ·have:=B.tl _ q;exact⟨this.1,by lia,by simp⟩
    ·rw[NI.mp q];exact⟨by lia,by lia,by simp⟩
   ·rw[C _ c]
    by_cases e:n=fh
    ·subst e;simp
    ·rcases B.all n H (by lia)with q|q
     ·cases q
     ·exact .inr (Ek _ q)
  ·rw[if_neg a]at b;exact absurd b L
 | some m=>
  have F:p=p.dropLast++[m]:=by
   obtain⟨M,rfl⟩:=Dr.mp J;simp
  generalize p.dropLast=r at *;subst F;obtain⟨b,t⟩:=Uo B;have c:((frL S zz).getD 0:Nat)=m:=by rw[b];exact Et t
  have l:m∉tkn S:=fun q=>(B.tl _ q).2.2 (by simp);have hd:=IF.mp B.desc;have E:m∉r:=fun q=>by have:=hd.2.2 m q m (by simp);lia
  refine⟨t,c,⟨hu,hd.1,fun n h=>B.lo n (Ek _ h),fun n h=>?_,fun n H g=>?_,u _ c l,B.fs⟩⟩
  ·rw[C _ c]at h
   rcases NK.mp h with q|q
   ·have:=B.tl _ q;exact⟨this.1,this.2.1,fun z=>this.2.2 (Ek _ z)⟩
   ·rw[NI.mp q];have:=B.lo m (by simp);exact⟨this.1,this.2,E⟩
  ·rw[C _ c]
   rcases B.all n H g with q|q
   ·rcases NK.mp q with q|q
    ·exact .inl q
    ·exact .inr (NJ _ q)
   ·exact .inr (Ek _ q)
noncomputable def Qgk(use:Str->List Nat)(w:Str):Str->List Nat:=fun v=>if v=w then[]else use v
noncomputable def Z9(S:Sh)(k:Nat):Int:=S.nums.getD k 0
theorem U5{d g:Type}{f:d->g}{l:List d}(h:∀a∈l,∀b∈l,f a=f b->a=b)(i:l.Nodup):(l.map f).Nodup:=by
 unfold List.Nodup;rw[Ls];exact List.Pairwise.imp_of_mem (fun m j c e=>c (h _ m _ j e)) i
theorem Qgw(h:Vu rs w k=true)(e:Vu rs v k=true):v=w:=by
 unfold Vu at h e;split at h
 ·rename_i r hr;rw[hr]at e;rw[<-EG h,<-EG e]
 ·cases h
theorem Qg4(h:Vu rs w k=true):k<rs.length:=by
 unfold Vu at h;split at h
 ·rename_i r hr;exact(Ng.mp hr).1
 ·cases h
theorem Xf(a:k<S.gone.length):(Qo zz S (.back w)).gone[k]?=some (S.gone.getD k false ||Vu S.rooms w k):=by
 simp only[Qo];rw[Nq,Er a];rfl
theorem Qe9(ok:OkS i S)(B:Bk2 zz S use fh s)(w:Str):Bk2 zz (Qo zz S (.back w)) (Qgk use w) fh (Qaq (s++(use w).map (Z9 S))):=by
 have hp:=KF (s++(use w).map (Z9 S))
 have l:∀k∈use w,k<S.rooms.length/\Vu S.rooms w k=true/\S.gone[k]?=some false/\S.nums[k]?=some (Z9 S k):=by
  intro k c;rw[B.use w]at c;obtain⟨d,f⟩:=EV.mp c;have d:=N7.mp d;rw[NB]at f;have t:k<S.gone.length:=by rw[ok.gl];exact d
  have o:k<S.nums.length:=by rw[ok.nl];exact d
  refine⟨d,f.1,?_,?_⟩
  ·have:=f.2;rw[NE,Ni t]at this;rw[Ni t];simpa using this
  ·unfold Z9;rw[NE,Ni o];rfl
 have u:∀k∈use w,Z9 S k∈tkn S:=fun k c=>tkn_mem.mpr ⟨k,(l k c).2.2.2,(l k c).2.2.1⟩
 have g:∀n,n∈Qaq (s++(use w).map (Z9 S))↔n∈s\/∃k∈use w,Z9 S k=n:=fun n=>by
  rw[hp.mem_iff,NK,Eb]
 have p:∀k:Nat,(Qo zz S (.back w)).gone[k]?=some false->S.gone[k]?=some false/\Vu S.rooms w k=false:=by
  intro k c;have D:k<S.gone.length:=by have:=(Ng.mp c).1;simpa[Qo]using this
  rw[Xf D]at c;have c:=NU c;rw[Bool.or_eq_false_iff]at c;refine⟨?_,c.2⟩;have:=c.1;rw[NE,Ni D]at this;rw[Ni D];simpa using this
 have A:∀n,n∈tkn (Qo zz S (.back w))->∃k:Nat,S.nums[k]?=some n/\S.gone[k]?=some false/\Vu S.rooms w k=false:=fun n o=>by
  obtain⟨k,d,f⟩:=tkn_mem.mp o;exact⟨k,d,p k f⟩
 have G:(s++(use w).map (Z9 S)).Nodup:=by
  rw[DL];refine⟨B.desc.imp fun {a b} h e=>by lia,U5 (fun a F b E e=>?_) ?_,fun a F b E e=>?_⟩
  ·have d:=l a F;have f:=l b E;exact B.inj a b _ d.2.2.2 (by rw[e];exact f.2.2.2) d.2.2.1 f.2.2.1
  ·rw[B.use w];exact List.Pairwise.filter _ List.nodup_range
  ·obtain⟨k,c,rfl⟩:=Eb.mp E;subst e;exact(B.tl _ (u k c)).2.2 F
 refine⟨fun v=>?_,?_,fun n o=>?_,fun n o=>?_,fun n L d=>?_,fun j k n d f y J=>B.inj j k n d f (p j y).1 (p k J).1,B.fs⟩
 ·have r:∀k∈List.range S.rooms.length,(Vu S.rooms v k&&!((Qo zz S (.back w)).gone.getD k false))=(Vu S.rooms v k&&!(S.gone.getD k false)&&!(Vu S.rooms w k)):=by
   intro k c;have t:k<S.gone.length:=by rw[ok.gl];exact N7.mp c
   rw[NE,Xf t];simp[L0]
  show Qgk use w v=(List.range S.rooms.length).filter fun k=>Vu S.rooms v k&&!((Qo zz S (.back w)).gone.getD k false);rw[Fx r];unfold Qgk
  by_cases e:v=w
  ·subst e;rw[if_pos rfl,eq_comm,List.filter_eq_nil_iff];intro k _;cases Vu S.rooms v k<;>simp
  ·rw[if_neg e,B.use v];apply Fx;intro k _;cases H:Vu S.rooms v k with
   |false=>rfl
   | true=>
    have:Vu S.rooms w k=false:=by
     cases hw:Vu S.rooms w k with
     |false=>rfl
     |true=>exact absurd (Qgw hw H) e
    simp[this]
 ·have d:=Uq (s++(use w).map (Z9 S));have f:(Qaq (s++(use w).map (Z9 S))).Nodup:=hp.nodup_iff.mpr G;refine(d.and f).imp fun {a b} q=>?_;have:=q.1;have:=q.2;lia
 ·rcases(g n).mp o with z|⟨k,c,rfl⟩
  ·exact B.lo n z
  ·have:=B.tl _ (u k c);exact⟨this.1,this.2.1⟩
 ·obtain⟨k,d,f,y⟩:=A n o;have C:=B.tl n (tkn_mem.mpr ⟨k,d,f⟩);refine⟨C.1,C.2.1,fun z=>?_⟩
  rcases(g n).mp z with z|⟨j,I,e⟩
  ·exact C.2.2 z
  ·have m:=l j I;rw[e]at m;have:=B.inj j k n m.2.2.2 d m.2.2.1 f;subst this;rw[m.2.1]at y;cases y
 ·rcases B.all n L d with z|z
  ·exact .inl ((g n).mpr (.inl z))
  ·obtain⟨k,g1,g2⟩:=tkn_mem.mp z;have t:=(Ng.mp g2).1;have x:S.gone.getD k false=false:=by rw[NE,g2];rfl
   cases hw:Vu S.rooms w k with
   |true=>
    refine .inl ((g n).mpr (.inr ⟨k,?_,by unfold Z9;rw[NE,g1];rfl⟩));rw[B.use w];refine EV.mpr ⟨N7.mpr (Qg4 hw),by rw[hw,x];rfl⟩
   |false=>exact .inr (tkn_mem.mpr ⟨k,g1,by rw[Xf t,x,hw];rfl⟩)
theorem Qmx(B:Bk2 zz S use fh a):Bk2 zz { S with f:=g,words:=ws } use fh a:=⟨B.use,B.desc,B.lo,B.tl,B.all,B.inj,B.fs⟩
noncomputable def Qdb:Li->Option Str
 |.first _ y|.second _ y|.tell y=>some y
 |_=>none
noncomputable def QfF:Li->Option Str
 |.pair x _ _ _|.first x _|.second x _|.same x _|.non x=>some x
 |_=>none
noncomputable def oS:Option Str->W
 |none=>.non
 |some x=>.str x
@[simp]theorem QlP{o:Option Str}:pur (oS o)=true:=by cases o<;>rfl
theorem Qe1{x:Str}{r:List W}{h:MH}(h1:x≠"first")(h2:x≠"second")(a:x≠"tell"):Jv [.tup (.str x::r)] h=some (.non,h):=by simp[Jv,QI,h1,h2,a]
theorem QdA{l:Li}{h:MH}:Xl [Qv (ln l)] h=some (oS (Qdb l),h):=by
 refine QF (g:=[]) (by simp) ?_ (by simp);cases l with
 |first _ _=>simp[Jv,QI,Qv,ln,Qdb,oS]
 |second _ _=>simp[Jv,QI,Qv,ln,Qdb,oS]
 |tell _=>simp[Jv,QI,Qv,ln,Qdb,oS]
 |_=>exact Qe1 (by decide) (by decide) (by decide)
theorem QbO{g:Bool}{x:Str}{l:List Str}{h:MH}:wIn g (.str x) (.tup (l.map .str)) h=some (.bl (if g=true then !decide (x∈l)else decide (x∈l)),h):=by
 rw[QhX rfl XH (by simp[dep]) (Nu Wh (by decide))]
 have:inW (.str x) (l.map .str)=decide (x∈l):=by
  induction l with
  |nil=>rfl
  |cons y l a=>
   unfold inW at a ⊢;rw[Nr,Ez,a];show((y==x) ||_)=_
   by_cases e:y=x
   ·subst e;simp
   ·have b:¬x=y:=fun z=>e z.symm;rw[show(y==x)=false from beq_eq_false_iff_ne.mpr e,L8,F3,decide_eq_true_eq,decide_eq_true_eq,Nx];exact⟨.inr,fun z=>z.elim (fun q=>absurd q b) id⟩
 rw[this]
theorem QhP{x:Str}{h:MH}:wIn false (.str x) (.tup (Qa5 ["pair","first","second","same","none"])) h=some (.bl (decide (x∈[("pair":Str),"first","second","same","none"])),h):=by
 have:=QbO (g:=false) (x:=x) (l:=[("pair":Str),"first","second","same","none"]) (h:=h);simpa[Qa5]using this
theorem Qe3{x y:Str}{r:List W}{h:MH}(a:x∈[("pair":Str),"first","second","same","none"]):J7 [.tup (.str x::.str y::r)] h=some (.str y,h):=by simp[J7,QI,J3,QhP,a,-Nx]
theorem QfE{x:Str}{r:List W}{h:MH}(a:¬x∈[("pair":Str),"first","second","same","none"]):J7 [.tup (.str x::r)] h=some (.non,h):=by simp[J7,QI,J3,QhP,a,-Nx]
theorem QcV{l:Li}{h:MH}:Vg [Qv (ln l)] h=some (oS (QfF l),h):=by
 refine QF (g:=[]) (by simp) ?_ (by simp);cases l<;>first|exact Qe3 (by decide)|exact QfE (by decide)
noncomputable def Qek:Li->W
 |.first _ _=>.int 1
 |.second _ _=>.int 2
 |_=>.non
theorem Qdu{x:Str}{r:List W}{h:MH}(h1:x≠"first")(h2:x≠"second"):Zp [.tup (.str x::r)] h=some (.non,h):=by simp[Zp,QI,h1,h2]
theorem QaV{l:Li}{h:MH}:Z5 [Qv (ln l)] h=some (Qek l,h):=by
 refine QF (g:=[]) (by simp) ?_ (by cases l<;>rfl);cases l with
 |first _ _=>simp[Zp,QI,Qv,ln,Qek]
 |second _ _=>simp[Zp,QI,Qv,ln,Qek]
 |_=>exact Qdu (by decide) (by decide)
noncomputable def Q1(r:Ro):W:=.tup [.str r.word,oN r.a,oN r.b]
@[simp]theorem Qma{r:Ro}:pur (Q1 r)=true:=by simp[Q1]
@[simp]theorem QjL{rs:List Ro}:ZL (rs.map Q1)=true:=by
 induction rs with
 |nil=>rfl
 |cons r rs a=>simp[a]
theorem Qfi{l:Li}{bs:List Str}{f:Str->Option Nat}{h:MH}{n:Nat}(b:h[n]?=some (.dic (dcE bs f)))(c:∀y∈bx l,y∈bs):QX [Qv (ln l),.ref n] h=some (oN ((Qdb l).bind f),h):=by
 have hr:∀h,Xl [Qv (ln l)] h=some (oS (Qdb l),h):=fun h=>QdA;cases e:Qdb l with
 |none=>simp[QX,QI,hr,e,oS,oN]
 |some y=>
  have a:y∈bs:=c y (by cases l<;>simp[Qdb]at e<;>subst e<;>simp[bx]);have:=K7 (f:=f) a;simp[QX,QI,hr,e,oS,this,b]
theorem QfD{rs:List Ro}{o:Option Nat}{h:MH}{n:Nat}(b:h[n]?=some (.lst (rs.map Q1)))(a:∀k,o=some k->k<rs.length):QY [.ref n,oN o] h=some (.str (wdT rs o),h):=by
 cases o with
 |none=>simp[QY,QI,oN,wdT,Zi]
 |some k=>
  have c:=a k rfl;have e:rs[k]?=some rs[k]:=Ni c;simp[QY,QI,oN,wdT,Qs,e,Q1,b]
theorem Ui{rs:List Ro}{o:Option Nat}{h:MH}{n:Nat}{g:Ro->Option Nat}{c:Int}(j:(c=1/\g=Ro.a)\/(c=2/\g=Ro.b))(f:h[n]?=some (.lst (rs.map Q1)))(d:∀k,o=some k->k<rs.length):Qy [.ref n,oN o,.int c] h=some (oN (wi rs g o),h):=by
 cases o with
 |none=>simp[Qy,QI,oN,wi]
 |some k=>
  have i:=d k rfl;have e:rs[k]?=some rs[k]:=Ni i
  rcases j with⟨rfl,rfl⟩|⟨rfl,rfl⟩<;>simp[Qy,QI,oN,wi,Qs,e,Q1,f]
noncomputable def We(rs:List Ro)(f:Str->Option Nat):Li->Option Nat
 |.pair _ _ _ _=>some (rs.length-1)
 |.same _ y=>f y
 |.first _ y=>wi rs Ro.a (f y)
 |.second _ y=>wi rs Ro.b (f y)
 |_=>none
theorem Qfu{x:Str}{r:List W}{a c:W}{h:MH}(b:∀h,Z5 [.tup (.str x::r)] h=some (.non,h))(h1:x≠"pair")(h2:x≠"same"):Qz [.tup (.str x::r),a,c] h=some (.non,h):=by simp[Qz,QI,b,h1,h2]
theorem QdD{l:Li}{rs:List Ro}{f:Str->Option Nat}{bs:List Str}{h:MH}{n m:Nat}(g:h[n]?=some (.lst (rs.map Q1)))(i:h[m]?=some (.dic (dcE bs f)))(j:∀y∈bx l,y∈bs)(o:∀x k,f x=some k->k<rs.length)(hp:∀x w y z,l=.pair x w y z->0<rs.length):Qz [Qv (ln l),.ref n,.ref m] h=some (oN (We rs f l),h):=by
 have c:∀h,Z5 [Qv (ln l)] h=some (Qek l,h):=fun h=>QaV;have e:∀y,Qy [.ref n,oN (f y),.int 1] h=some (oN (wi rs Ro.a (f y)),h):=fun y=>Ui (.inl ⟨rfl,rfl⟩) g (o y);have d:∀y,Qy [.ref n,oN (f y),.int 2] h=some (oN (wi rs Ro.b (f y)),h):=fun y=>Ui (.inr ⟨rfl,rfl⟩) g (o y);cases l with
 |pair x w y z=>
  have p:=hp x w y z rfl;have:((rs.length:Int)-1)=((rs.length-1:Nat):Int):=by lia
  simp[Qz,QI,Qv,ln,We,oN,this,g]
 |first x y=>
  have:=K7 (f:=f) (j y (by simp[bx]));simp[Qv,ln,Qek]at c;simp[Qz,QI,Qv,ln,We,c,Qek,this,e,i]
 |second x y=>
  have:=K7 (f:=f) (j y (by simp[bx]));simp[Qv,ln,Qek]at c;simp[Qz,QI,Qv,ln,We,c,Qek,this,d,i]
 |same x y=>
  have:=K7 (f:=f) (j y (by simp[bx]));simp[Qz,QI,Qv,ln,We,this,i]
 |_=>exact Qfu c (by decide) (by decide)
noncomputable def oL:Option Li->W
 |none=>.non
 |some l=>Qv (ln l)
@[simp]theorem QlF{o:Option Li}:pur (oL o)=true:=by cases o<;>simp[oL]
theorem QA{a b:SM}{σ σ1:MSt}{h h1:MH}{f:Option MF}(e:a σ h=some (.nx σ1 h1))(c:b σ1 h1=f):Qh a b σ h=f:=by
 unfold Qh;rw[e];exact c
end My
namespace St
theorem Qik(ks:List Str):∃ss:List Str,ss.Perm ks/\sortedS ss=true:=by
 refine⟨ks.mergeSort (fun a b=>decide (a.cps.toList<=b.cps.toList)),IR _ _,?_⟩;apply sortedS_of_pairwise
 have:=FS (le:=fun a b:Str=>decide (a.cps.toList<=b.cps.toList)) (fun a b c e d=>by
  rw[decide_eq_true_eq]at *;exact L5 e d) (fun a b=>by
  rw[EC,decide_eq_true_eq,decide_eq_true_eq]
  exact List.le_total _ _) ks
 exact this.imp fun h=>le_of_lt.mpr (by simpa using h)
theorem srt_spec(ks:List Str):(srt ks).Perm ks/\sortedS (srt ks)=true:=by
 obtain⟨a,p,h⟩:=Qik ks;rw[srt_eq p h];exact⟨p,h⟩
end St
namespace My
open L2 Mi
theorem szG{n:Nat}(h:n<=100000):n<sizeLine:=NL h (by decide)
@[simp]theorem QjK{ws:List W}{h:MH}:QdF [.tup ws] h=some (.lst ws,h):=id rfl
theorem Qfq{a:Type}(xs:List a)(k:Nat):QcH xs (some (k:Int)) none=xs.drop k:=by
 unfold QcH;rw[HT.sIx_nat,HT.sIx_none]
 by_cases h:k<=xs.length
 ·rw[Nat.min_eq_left h,E8 (by simp)]
 ·rw[Nat.min_eq_right (by omega),E7 (Nn _),E7 (by omega)];simp
theorem QjZ{x:Str}{h:MH}:wIn false (.str x) (.tup [.str "first",.str "second",.str "same",.str "none",.str "tell"]) h=some (.bl (decide (x∈[("first":Str),"second","same","none","tell"])),h):=by
 have:=QbO (g:=false) (x:=x) (l:=[("first":Str),"second","same","none","tell"]) (h:=h);simpa using this
theorem Qgm{l:Li}{h:MH}:J9 [Qv (ln l)] h=some (.lst ((bx l).map .str),h):=by
 refine QF (g:=[]) (by simp) ?_ (by simp);have b:∀(a:W) (r:List W),QcH (a::r) (some 1) none=r:=fun a r=>Qfq (a::r) 1;cases l<;>simp[VF,QI,Qv,ln,bx,QjZ,b]
structure GP(B:List Str)(p:List Pr):Prop where
 len:p.length<=5
 sz:∀x∈p,x.2.length<=200
 b:∀l∈als p,∀y∈bx l,y∈B
 bl:B.length<=5
theorem QcY{p:List Pr}{B:List Str}(m:GP B p){h:MH}:Zz [Q2 (pp p)] h=some (.lst ((als p).map fun l=>Qv (ln l)),h):=by
 have u:=m.len
 have key:=Vh (items:=(pp p).map Ym) (b:=ZU 2) (body:=VT) (fun j f h=>∃x,f=[some (Q2 (pp p)),some (.ref 0),x]/\h=[.lst ((als (p.take j)).map fun l=>Qv (ln l))]/\(als (p.take j)).length<=200*j) ((pp p).map Ym) 0 [some (Q2 (pp p)),some (.ref 0),none] [.lst []] ⟨_,rfl,rfl,by simp[als]⟩ (by
  rintro j w i f h ⟨x,rfl,rfl,d⟩
  rw[Nq]at i;obtain⟨y,c,rfl⟩:=Nf.mp i;unfold pp at c;rw[Nq]at c;obtain⟨z,a,rfl⟩:=Nf.mp c;have s:=(Ng.mp a).1;have q:=m.sz z (NA.mpr ⟨j,a⟩);rw[NZ]at d ⊢
  have n:als (p.take (j+1))=als (p.take j)++z.2:=by
   unfold als;rw[DM,a,IS];simp
  have sz:((als (p.take j)).length+z.2.length)<=sizeLine:=ND (szG (by omega));refine⟨[some (Q2 (pp p)),some (.ref 0),some (Ym (z.1,z.2.map ln))],rfl,[some (Q2 (pp p)),some (.ref 0),some (Ym (z.1,z.2.map ln))],[.lst ((als (p.take (j+1))).map fun l=>Qv (ln l))],.inl ?_,_,rfl,rfl,by rw[n,NC];omega⟩;rw[n]
  simp[Ym,sz,Kp])
 obtain⟨o,v,e,x,rfl,rfl,_⟩:=key;rw[Nw,NZ]at e;have r:p.take (pp p).length=p:=E8 (by unfold pp;simp);rw[r]at e;refine G3 (j:=0) (g:=[.lst ((als p).map fun l=>Qv (ln l))]) (by simp) ?_ rfl (Z6 _ (Jo fun _=>Qdg));have t:Jw (Qb 0) [some (Q2 (pp p)),some (.ref 0),none] [.lst []]=some ((pp p).map Ym,none,[.lst []]):=rfl;simp[Vj,QI,Vv,t,e]
theorem Qc0{a:W}{ss:List Str}{h:MH}(b:lsW h a=some (ss.map .str))(h1:ss.length<4000)(h2:(St.uniq ss).length<64):VD [a] h=some (.ref h.length,h++[.lst ((St.srt (St.uniq ss)).map .str)]):=by
 unfold VD;simp only[b,Nj,Qf5];rw[if_pos ⟨h1,h2⟩]
theorem Qgu{p:List Pr}{B:List Str}(a:GP B p):(als p).length<=1000:=by
 have key:∀(q:List Pr),(∀x∈q,x.2.length<=200)->(als q).length<=200*q.length:=by
  intro q
  induction q with
  |nil=>intro _;simp[als]
  |cons x q c=>
   intro h;have b:=c fun y d=>h y (Nt _ d);have e:=h x Nv;unfold als at b ⊢;rw[Lu,NC,Nz];omega
 have b:=key p a.sz;have e:=a.len;omega
theorem Qei(l:Li):(bx l).length<=3:=by cases l<;>simp[bx]
theorem Gb:∀(ls:List Li),(ls.flatMap bx).length<=3*ls.length
 |[]=>by simp
 |l::ls=>by
  have h1:=Gb ls;have a:=Qei l;rw[Lu,NC,Nz];omega
theorem QbH:∀(a b:List Str),a.Nodup->(∀y∈a,y∈b)->a.length<=b.length
 |[],b,_,_=>NT _
 |k::r,b,c,h=>by
  have e:=h k Nv;rw[EN]at c;have:=QbH r (b.erase k) c.2 fun y d=>(IE (fun z=>c.1 (by rw[<-z];exact d))).mpr (h y (Nt _ d));rw[FJ e]at this;have:=List.length_pos_of_mem e;rw[Nz];omega
theorem GN:∀(n:Nat) (l:List Str),l.length=n->(St.uniq l).Nodup:=by
 intro n
 induction n with
 |zero=>intro l h;rw[N5.mp h];exact En
 |succ n c=>
  intro l h;obtain⟨u,x,rfl⟩:∃u x,l=u++[x]:=⟨l.dropLast,l.getLast (fun z=>by rw[z]at h;cases h),(Dh _).symm⟩
  have q:=c u (by simp at h;exact h);rw[St.uniq_snoc];split
  ·exact q
  ·rename_i d;rw[DL];exact⟨q,by simp,fun a g b f e=>d (by rw[NI.mp f]at e;rw[<-e];exact g)⟩
noncomputable def BX(p:List Pr):List Str:=St.srt (St.uniq ((als p).flatMap bx))
theorem BX_mem{p:List Pr}{y:Str}:y∈BX p↔∃l∈als p,y∈bx l:=by
 unfold BX;rw[(St.srt_spec _).1.mem_iff,St.uniq_mem _ _ rfl,LH]
theorem Qhb(p:List Pr):(BX p).Nodup:=(St.srt_spec _).1.nodup_iff.mpr (GN _ _ rfl)
theorem QiN{p:List Pr}{B:List Str}(c:GP B p):(BX p).length<=5:=
 Nu (QbH _ B (Qhb p) fun y a=>by obtain⟨l,d,a⟩:=BX_mem.mp a;exact c.b l d y a) c.bl
theorem QfI{p:List Pr}{B:List Str}(c:GP B p){h:MH}:Jx [Q2 (pp p)] h=some (.lst ((BX p).map .str),h):=by
 have f:=Qgu c
 have key:=Vh (items:=(als p).map fun l=>Qv (ln l)) (b:=ZU 2) (body:=Xd) (fun j d h=>∃x,d=[some (Q2 (pp p)),some (.ref 0),x]/\h=[.lst ((((als p).take j).flatMap bx).map .str)]) ((als p).map fun l=>Qv (ln l)) 0 [some (Q2 (pp p)),some (.ref 0),none] [.lst []] ⟨_,rfl,by simp⟩ (by
  rintro j w i d h ⟨x,rfl,rfl⟩
  rw[Nq]at i;obtain⟨z,e,rfl⟩:=Nf.mp i;have q:=(Ng.mp e).1;rw[NZ]
  have r:((als p).take (j+1)).flatMap bx=((als p).take j).flatMap bx++bx z:=by
   rw[DM,e,IS];simp
  have t:=Gb ((als p).take j);rw[Dk]at t;have E:=Qei z;have sz:((((als p).take j).flatMap bx).map W.str).length+((bx z).map W.str).length<=sizeLine:=by rw[Nw,Nw];exact ND (szG (by omega))
  refine⟨[some (Q2 (pp p)),some (.ref 0),some (Qv (ln z))],rfl,[some (Q2 (pp p)),some (.ref 0),some (Qv (ln z))],[.lst ((((als p).take (j+1)).flatMap bx).map .str)],.inl ?_,_,rfl,rfl⟩;rw[r,ER];have A:∀h,J9 [Qv (ln z)] h=some (.lst ((bx z).map .str),h):=fun h=>Qgm;generalize(bx z).map W.str=Y at *;generalize(((als p).take j).flatMap bx).map W.str=X at *
  simp[A,sz])
 obtain⟨n,F,m,x,rfl,rfl⟩:=key;rw[Nw,NZ,LI]at m
 have o:∀y∈(als p).flatMap bx,y∈B:=fun y a=>by
  obtain⟨l,f,a⟩:=LH.mp a;exact c.b l f y a
 have D:=Gb (als p)
 have s:(St.uniq ((als p).flatMap bx)).length<64:=by
  have:=QbH _ B (GN _ ((als p).flatMap bx) rfl) fun y a=>o y ((St.uniq_mem _ _ rfl y).mp a);have:=c.bl;omega
 refine G3 (j:=1) (g:=[.lst (((als p).flatMap bx).map .str),.lst ((BX p).map .str)]) (by simp) ?_ rfl (by simp);have C:∀h,Zz [Q2 (pp p)] h=some (.lst ((als p).map fun l=>Qv (ln l)),h):=fun h=>QcY c
 have v:Jw (Ql 1 Zz (Qa (Qb 0) Qd)) [some (Q2 (pp p)),some (.ref 0),none] [.lst []]=some ((als p).map fun l=>Qv (ln l),none,[.lst []]):=by
  have:Ql 1 Zz (Qa (Qb 0) Qd) [some (Q2 (pp p)),some (.ref 0),none] [.lst []]=some (.lst ((als p).map fun l=>Qv (ln l)),[.lst []]):=by simp[C]
  unfold Jw;rw[this];rfl
 have u:VD [.ref 0] [.lst (((als p).flatMap bx).map .str)]=some (.ref 1,[.lst (((als p).flatMap bx).map .str),.lst ((BX p).map .str)]):=Qc0 rfl (by omega) s;generalize(als p).flatMap bx=G at *;simp[Vx,QI,Vv,v,m,u]
noncomputable def Zl(p:List Pr)(s:Spt):Option Li:=if s.head=true then none else(p[s.part]?).bind fun x=>x.2[s.k]?
def SpV(p:List Pr)(s:Spt):Prop:=∃x,p[s.part]?=some x/\s.k<=x.2.length
theorem Qef{i:Nat}(h:p[i]?=some x):atI ((pp p).map Ym) (i:Int)=some (Ym (x.1,x.2.map ln)):=by
 rw[Qs,Nq];unfold pp;rw[Nq,h];rfl
theorem Qet{s:Spt}(i:SpV p s):ZQ [Q2 (pp p),QJ s] h=some (oL (Zl p s),h):=by
 obtain⟨x,a,j⟩:=i;refine QF (g:=[]) (by simp) ?_ (by simp);obtain⟨f,part,k,head⟩:=s;have b:=Qef a;simp only at b a j;cases head with
 |true=>simp[Jt,QI,QJ,Q2,b,Ym,Zl,oL]
 | false=>
  by_cases e:k=x.2.length
  ·subst e;have d:x.2[x.2.length]?=none:=NF (Nn _);simp[Jt,QI,QJ,Q2,b,Ym,Zl,a,d,oL]
  ·have c:k<x.2.length:=by lia
   have d:x.2[k]?=some x.2[k]:=Ni c;have ne:¬(k:Int)=x.2.length:=by lia
   simp[Jt,QI,QJ,Q2,b,Ym,Zl,a,d,oL,e,ne,Qs]
theorem Qhl:∀(bs:List Str),prW (bs.map fun b=>.tup [.str b,.non])=some (bs.map fun b=>(Sum.inr b,W.non))
 |[]=>rfl
 |b::bs=>by rw[Nr,prW,Qhl bs];rfl
theorem QeA:∀(ps a:List (Key×W)),((a++ps).map (·.1)).Nodup->Qa7 a ps=a++ps
 |[],a,_=>by simp[Qa7]
 | p::ps,a,b=>by
  have h1:¬(a.any fun c=>decide (c.1=p.1))=true:=by
   rw[FG]
   rintro⟨q,d,e⟩
   rw[decide_eq_true_eq]at e;rw[ER,DL]at b;exact b.2.2 q.1 (List.mem_map_of_mem d) p.1 (by simp) e
  have f:Vp a p.1 p.2=a++[p]:=by unfold Vp;rw[if_neg h1]
  show Qa7 (Vp a p.1 p.2) ps=_;rw[f,QeA ps (a++[p]) (by rw[ES];exact b),ES];rfl
theorem QkS(c:bs.Nodup)(d:bs.length<=5):WX [.lst (bs.map fun b=>.tup [.str b,.non])] h=some (.ref h.length,h++[.dic (dcE bs fun _=>none)]):=by
 unfold WX;simp only[lsW,Nj,Qhl];rw[if_pos (by rw[Nw];exact ND (NL d (by decide))),QeA _ [] ?_]
 ·rfl
 ·rw[D8,D7];unfold List.Nodup;rw[Ls];exact List.Pairwise.imp (fun {a b} q e=>q (Eg e)) c
theorem Qfd(e:ms σ h=some ([.int j],h'))(a:j<16000000):V9 ms σ h=some (Qw 0 j,none,h'):=by
 unfold V9;rw[e,Nj];exact(if_pos ⟨by lia,by lia⟩).trans (by simp)
theorem GS:(Qw a n).length=n:=by simp[Qw]
noncomputable def sp0(k:Nat):Spt:=⟨[],0,k,false⟩
noncomputable def hd0(k:Nat):Spt:=⟨[],0,k,true⟩
noncomputable def lev:Li->Int
 |.again|.either=>1
 |.fin=>-1
 |_=>0
noncomputable def plain:Li->Bool
 |.doo _|.either|.or=>false
 |_=>true
structure Shp(ls:List Li):Prop where
 ag:∀k:Nat,ls[k]?=some .again->(∃w,ls[k+1]?=some (.back w))/\ls[k+2]?=some .fin
 fn:∀k:Nat,ls[k]?=some .fin->∃j,k=j+2/\ls[j]?=some .again/\∃w,ls[j+1]?=some (.back w)
 no:∀l∈ls,plain l=true
 len:ls.length<=100
noncomputable abbrev eLs(ls:List Li):List W:=ls.map fun l=>Qv (ln l)
theorem KL{ls:List Li}:ZL (eLs ls)=true:=Z6 _ (Jo fun _=>Qdg)
theorem Yx{ls:List Li}{k:Nat}{l:Li}(h:ls[k]?=some l):atI (eLs ls) (k:Int)=some (Qv (ln l)):=by rw[Qs,Nq,h];rfl
theorem QcC{l:Li}{h:MH}:QH [Qv (ln l)] h=some (.int (lev l),h):=by
 refine QF (g:=[]) (by simp) ?_ rfl;cases l<;>simp[Jb,QI,Qv,ln,lev]
noncomputable def wrd:Li->Str
 |.pair _ _ _ _=>"pair"|.first _ _=>"first"|.second _ _=>"second"|.same _ _=>"same"|.non _=>"none"|.tell _=>"tell"|.back _=>"back"|.doo _=>"do"|.either=>"either"|.or=>"or"|.again=>"again"|.fin=>"end"
theorem Zj{l:Li}{h:MH}:wIx (Qv (ln l)) (.int 0) h=some (.str (wrd l),h):=by cases l<;>simp[ln,Qv,wrd]
theorem Qb2{ms:MA}{σ:MSt}{h h':MH}{i j:Int}(e:ms σ h=some ([.int i,.int j],h'))(b:-1000000<=i/\i<=1000000)(a:-1000000<=j/\j<=1000000):Qhy ms σ h=some (Qw i (j-i).toNat,none,h'):=by
 unfold Qhy;rw[e,Nj];exact if_pos ⟨by omega,by omega,by omega,by omega⟩
theorem Qfo(a:Int)(n:Nat):Qw a (n+2)=.int a::.int (a+1)::(List.range n).map fun i=>.int (a+((i:Int)+2)):=by
 unfold Qw;rw[EE,EE];simp[E9,L9]
theorem QgV(a c:Int)(n:Nat):XA a c (n+2)=.int a::.int (a+c)::(List.range n).map fun i=>.int (a+((i:Int)+2)*c):=by
 unfold XA;rw[EE,EE];simp[E9,L9]
theorem Qh5{ls:List Li}(S:Shp ls){k:Nat}(q:ls[k]?=some .again){h:MH}:J1 [.tup (eLs ls),.int k] h=some (.int (k+2:Nat),h):=by
 obtain⟨⟨w,s⟩,c⟩:=S.ag k q;have u:=S.len;have p:=(Ng.mp c).1;have f:=Yx s;have e:=Yx c
 have t:∀h,Zh [.tup (eLs ls),.int k,.str "end"] h=some (.int (k+2:Nat),h):=fun h=>by
  refine QF (g:=[]) (by simp[KL]) ?_ rfl
  have d:Qhy (Qa (Qc Zs (Qb 1) (mC (.int 1))) (Qa (mFn VN (Qa (Qb 0) Qd)) Qd)) [some (.tup (eLs ls)),some (.int k),some (.str "end"),some (.int 0),none] []=some (Qw ((k:Int)+1) (ls.length-(k+3)+2),none,[]):=by
   rw[Qb2 (h':=[]) (i:=(k:Int)+1) (j:=ls.length) (by simp) (by omega) (by omega),show((ls.length:Int)-((k:Int)+1)).toNat=ls.length-(k+3)+2 by omega]
  rw[Qfo]at d;have lv:∀h,QH [Qv (ln (.back w))] h=some (.int 0,h):=fun h=>QcC
  have n:ZR [some (.tup (eLs ls)),some (.int k),some (.str "end"),some (.int 0),some (.int ((k:Int)+1))] []=some (.nx [some (.tup (eLs ls)),some (.int k),some (.str "end"),some (.int 0),some (.int ((k:Int)+1))] []):=by
   rw[show((k+1:Nat):Int)=(k:Int)+1 by omega]at f;simp[f,Zj,wrd,lv]
  have m:ZR [some (.tup (eLs ls)),some (.int k),some (.str "end"),some (.int 0),some (.int ((k:Int)+1+1))] []=some (.rt (.int (k+2:Nat)) []):=by
   rw[show((k+2:Nat):Int)=(k:Int)+1+1 by omega]at e ⊢;simp[e,Zj,wrd]
  have o:=fun items r=>Xs (items:=items) (b:=ZU 4) (w:=.int ((k:Int)+1)) (σ:=[some (.tup (eLs ls)),some (.int k),some (.str "end"),some (.int 0),none]) (r:=r) rfl n;have a:=fun items r=>WB (items:=items) (b:=ZU 4) (w:=.int ((k:Int)+1+1)) (σ:=[some (.tup (eLs ls)),some (.int k),some (.str "end"),some (.int 0),some (.int ((k:Int)+1))]) (r:=r) rfl m;simp[Ja,QI,Vv,d,o,a]
 refine QF (g:=[]) (by simp[KL]) ?_ rfl;simp[XT,QI,t]
theorem QfA{ls:List Li}(S:Shp ls){j:Nat}(e:ls[j]?=some .again){h:MH}:J6 [.tup (eLs ls),.int (j+2:Nat)] h=some (.int j,h):=by
 obtain⟨⟨w,p⟩,o⟩:=S.ag j e;have y:=S.len;have n:=(Ng.mp o).1;have s:=Yx p;have q:=Yx e;refine QF (g:=[]) (by simp[KL]) ?_ rfl;have d:Qi5 (Qa (Qc QbX (Qb 1) (mC (.int 1))) (Qa (mUn QaL (mC (.int 1))) (Qa (mUn QaL (mC (.int 1))) Qd))) [some (.tup (eLs ls)),some (.int (j+2:Nat)),some (.int 0),none] []=some (XA (((j+2:Nat):Int)-1) (-1) (j+2),none,[]):=Qjz rfl rfl rfl (by omega);rw[QgV]at d;have lv:∀h,QH [Qv (ln (.back w))] h=some (.int 0,h):=fun h=>QcC;have a:∀h,QH [Qv (ln .again)] h=some (.int 1,h):=fun h=>QcC;have v:((j+2:Nat):Int)-1=((j+1:Nat):Int):=by omega
 have t:((j+1:Nat):Int)+-1=(j:Int):=by omega
 rw[v,t]at d
 have l:Vw [some (.tup (eLs ls)),some (.int (j+2:Nat)),some (.int 0),some (.int (j+1:Nat))] []=some (.nx [some (.tup (eLs ls)),some (.int (j+2:Nat)),some (.int 0),some (.int (j+1:Nat))] []):=by
  generalize((j+1:Nat):Int)=u at *;simp[s,lv]
 have i:Vw [some (.tup (eLs ls)),some (.int (j+2:Nat)),some (.int 0),some (.int (j:Nat))] []=some (.rt (.int j) []):=by
  simp[q,a]
 have m:=fun items r=>Xs (items:=items) (b:=ZU 3) (w:=.int (j+1:Nat)) (σ:=[some (.tup (eLs ls)),some (.int (j+2:Nat)),some (.int 0),none]) (r:=r) rfl l;have c:=fun items r=>WB (items:=items) (b:=ZU 3) (w:=.int (j:Nat)) (σ:=[some (.tup (eLs ls)),some (.int (j+2:Nat)),some (.int 0),some (.int (j+1:Nat))]) (r:=r) rfl i;generalize((j+1:Nat):Int)=u at *;generalize((j+2:Nat):Int)=x at *;simp[V4,QI,Vv,d,m,c]
theorem Qb6{k j:Nat}{b:Bool}{h:MH}:Q6 [QJ ⟨[],0,k,b⟩,.int j] h=some (QJ (sp0 j),h):=by
 refine QF (g:=[]) (by simp) ?_ (by simp);simp[XO,QI,QJ,sp0]
theorem QjF{k j:Nat}{b:Bool}{h:MH}:J2 [QJ ⟨[],0,k,b⟩,.int j] h=some (QJ (hd0 j),h):=by
 refine QF (g:=[]) (by simp) ?_ (by simp);simp[V8,QI,QJ,hd0]
noncomputable def nx(ls:List Li)(s:Spt):List Spt:=if s.head=true then[sp0 (s.k+3),sp0 (s.k+1)]else match ls[s.k]? with
 |none=>[]
 |some .again=>[hd0 s.k]
 |some .fin=>[hd0 (s.k-2)]
 |some _=>[sp0 (s.k+1)]
theorem Qg9{ls:List Li}(S:Shp ls){k:Nat}{l:Li}(a:ls[k]?=some l){h:MH}:ZE [.tup (eLs ls),QJ (sp0 k)] h=some (.lst ((nx ls (sp0 k)).map QJ),h):=by
 have q:∀h,Q6 [QJ (sp0 k),.int ((k:Int)+1)] h=some (QJ (sp0 (k+1)),h):=fun h=>Qb6 (j:=k+1);have f:∀(j:Nat) h,J2 [QJ (sp0 k),.int j] h=some (QJ (hd0 j),h):=fun j h=>QjF;refine QF (g:=[]) (by simp[KL]) ?_ (by simp);have d:=Yx a;have c:∀h,wIx (QJ (sp0 k)) (.int 2) h=some (.int k,h):=fun h=>by simp[QJ,sp0]
 have hp:=S.no l (NA.mpr ⟨k,a⟩)
 have gen:(wrd l==("again":Str))=false->(wrd l==("end":Str))=false->nx ls (sp0 k)=[sp0 (k+1)]->QT [.tup (eLs ls),QJ (sp0 k)] []=some (.lst ((nx ls (sp0 k)).map QJ),[]):=fun m i b=>by
  have o:(wrd l==("either":Str))=false:=by cases l<;>simp[plain]at hp<;>simp[wrd]
  have n:(wrd l==("or":Str))=false:=by cases l<;>simp[plain]at hp<;>simp[wrd]
  rw[b];simp[QT,QI,d,c,q,Zj,o,n,m,i]
 cases l with
 |again=>
  have b:nx ls (sp0 k)=[hd0 k]:=by simp[nx,sp0,a]
  rw[b];simp[QT,QI,d,c,f,Zj,wrd]
 |fin=>
  obtain⟨j,rfl,e,_⟩:=S.fn k a;have b:nx ls (sp0 (j+2))=[hd0 j]:=by simp[nx,sp0,a]
  have p:∀h,J6 [.tup (eLs ls),.int (j+2:Nat)] h=some (.int j,h):=fun h=>QfA S e;have r:=Yx e;rw[b];generalize((j+2:Nat):Int)=u at *;simp[QT,QI,d,c,r,f,p,Zj,wrd]
 |doo _=>simp[plain]at hp
 |either=>simp[plain]at hp
 |or=>simp[plain]at hp
 |_=>exact gen (by simp[wrd]) (by simp[wrd]) (by simp[nx,sp0,a])
structure SV(ls:List Li)(s:Spt):Prop where
 w:s.way=[]
 p:s.part=0
 k:s.k<=ls.length
 h:s.head=true->ls[s.k]?=some .again
theorem UN{nm:Str}{ls:List Li}(S:Shp ls){s:Spt}(v:SV ls s){h:MH}:Qm [Q2 (pp [(nm,ls)]),QJ s] h=some (.lst ((nx ls s).map QJ),h):=by
 obtain⟨t,part,k,b⟩:=s;obtain⟨v1,q,p,v4⟩:=v;simp only at v1 q p v4;subst v1 q;have n:∀h,wIx (Q2 (pp [(nm,ls)])) (.int 0) h=some (.tup [.str nm,.tup (eLs ls)],h):=fun h=>by simp[Q2,pp,Ym]
 have a:∀h,ZQ [Q2 (pp [(nm,ls)]),QJ ⟨[],0,k,b⟩] h=some (oL (Zl [(nm,ls)] ⟨[],0,k,b⟩),h):=fun h=>Qet ⟨(nm,ls),rfl,p⟩;refine QF (g:=[]) (by simp) ?_ (by simp);have o:∀h,wIx (QJ ⟨[],0,k,b⟩) (.int 1) h=some (.int 0,h):=fun h=>by simp[QJ]
 cases b with
 |true=>
  have d:∀h,wIx (QJ ⟨[],0,k,true⟩) (.int 3) h=some (.bl true,h):=fun h=>by simp[QJ]
  have A:∀h,wIx (QJ ⟨[],0,k,true⟩) (.int 2) h=some (.int k,h):=fun h=>by simp[QJ]
  have x:∀h,J1 [.tup (eLs ls),.int k] h=some (.int (k+2:Nat),h):=fun h=>Qh5 S (v4 rfl);have m:∀h,Q6 [QJ ⟨[],0,k,true⟩,.int ((k:Int)+1)] h=some (QJ (sp0 (k+1)),h):=fun h=>Qb6 (j:=k+1);have i:∀h,Q6 [QJ ⟨[],0,k,true⟩,.int (((k+2:Nat):Int)+1)] h=some (QJ (sp0 (k+3)),h):=fun h=>Qb6 (j:=k+3);generalize((k+2:Nat):Int)=u at *;simp[Zw,QI,A,d,o,n,x,m,i,nx]
 | false=>
  have d:∀h,wIx (QJ ⟨[],0,k,false⟩) (.int 3) h=some (.bl false,h):=fun h=>by simp[QJ]
  by_cases B:k=ls.length
  ·have r:ls[k]?=none:=NF (by omega)
   have w:∀h,Vq [QJ ⟨[],0,k,false⟩] h=some (.lst [],h):=fun h=>by
    refine QF (g:=[]) (by simp) ?_ (by simp);simp[Vc,QI,QJ]
   simp[Zl,r,oL]at a;simp[Zw,QI,d,o,n,a,w,nx,r]
  ·have e:k<ls.length:=by omega
   have c:ls[k]?=some ls[k]:=Ni e;generalize ls[k]=l at c;have f:∀h,ZE [.tup (eLs ls),QJ ⟨[],0,k,false⟩] h=some (.lst ((nx ls ⟨[],0,k,false⟩).map QJ),h):=fun h=>Qg9 S c;have hp:=S.no l (NA.mpr ⟨k,c⟩);have z:Vm (Qv (ln l))=false:=rfl;have y:(wrd l==("do":Str))=false:=by cases l<;>simp[plain]at hp<;>simp[wrd]
   simp[Zl,c,oL]at a;simp[Zw,QI,d,o,n,a,z,Zj,y,f]
theorem QeH{ls:List Li}(S:Shp ls){s t:Spt}(v:SV ls s)(h:t∈nx ls s):SV ls t:=by
 obtain⟨e,part,k,b⟩:=s;obtain⟨v1,d,c,v4⟩:=v;simp only at v1 d c v4;subst v1 d;cases b with
 |true=>
  obtain⟨_,i⟩:=S.ag k (v4 rfl);have:=(Ng.mp i).1;simp[nx]at h
  rcases h with rfl|rfl
  ·exact⟨rfl,rfl,by show k+3<=_;omega,by simp[sp0]⟩
  ·exact⟨rfl,rfl,by show k+1<=_;omega,by simp[sp0]⟩
 | false=>
  cases a:ls[k]? with
  |none=>simp[nx,a]at h
  | some l=>
   have f:=(Ng.mp a).1;have gen:t=sp0 (k+1)->SV ls t:=by rintro rfl;exact⟨rfl,rfl,f,by simp[sp0]⟩
   cases l with
   |again=>
    simp[nx,a]at h;subst h;exact⟨rfl,rfl,c,fun _=>a⟩
   |fin=>
    obtain⟨j,rfl,g,_⟩:=S.fn k a;simp[nx,a]at h;subst h;exact⟨rfl,rfl,by show j<=_;omega,fun _=>g⟩
   |_=>simp[nx,a]at h;exact gen h
theorem Qeq{ls:List Li}{s:Spt}:(nx ls s).length<=2:=by
 unfold nx;split
 ·simp
 ·split<;>simp
theorem QgL{nm:Str}{ls:List Li}{s:Spt}(v:SV ls s)(h:(nx ls s).length≠1):Zl [(nm,ls)] s=none:=by
 obtain⟨d,part,k,b⟩:=s;obtain⟨v1,a,e,v4⟩:=v;simp only at v1 a e v4;subst v1 a;cases b with
 |true=>simp[Zl]
 |false=>
  cases c:ls[k]? with
  |none=>simp[Zl,c]
  |some l=>exfalso;apply h;cases l<;>simp[nx,c]
noncomputable def rk(ls:List Li)(s:Spt):Nat:=if s.head=true then 0 else ls.length-s.k+1
theorem Qhg{ls:List Li}{s:Spt}:rk ls s<=ls.length+1:=by unfold rk;split<;>omega
theorem Qec{ls:List Li}{s t:Spt}(v:SV ls s)(h:nx ls s=[t]):rk ls t<rk ls s:=by
 obtain⟨d,part,k,b⟩:=s;obtain⟨v1,c,e,v4⟩:=v;simp only at v1 c e v4;subst v1 c;cases b with
 |true=>simp[nx]at h
 | false=>
  cases a:ls[k]? with
  |none=>simp[nx,a]at h
  |some l=>
   have f:=(Ng.mp a).1;cases l<;>simp[nx,a]at h<;>subst h<;>simp[rk,sp0,hd0]<;>omega
noncomputable def pk(a b:Spt)(c:Nat):Spt:=if c=0 then a else b
inductive Go(ls:List Li):Spt->List Nat->List Spt->Prop where
 |stop {s:Spt} {cs:List Nat} (h:nx ls s=[]):Go ls s cs []
 |one {s t:Spt} {cs:List Nat} {tr:List Spt} (h:nx ls s=[t]) (g:Go ls t cs tr):Go ls s cs (t::tr)
 |wait {s a b:Spt} (h:nx ls s=[a,b]):Go ls s [] []
 |two {s a b:Spt} {c:Nat} {cs:List Nat} {tr:List Spt} (h:nx ls s=[a,b]) (hc:c<=1) (g:Go ls (pk a b c) cs tr):Go ls s (c::cs) (pk a b c::tr)
theorem Qid{L:List Spt}(h:L.length<=2):L=[]\/(∃t,L=[t])\/∃a b,L=[a,b]:=by
 match L,h with
 |[],_=>exact .inl rfl
 |[t],_=>exact .inr (.inl ⟨t,rfl⟩)
 |[a,b],_=>exact .inr (.inr ⟨a,b,rfl⟩)
 |_::_::_::_,h=>simp at h
theorem GU{a b:Spt}{c:Nat}:pk a b c∈[a,b]:=by unfold pk;split<;>simp
theorem QkL{ls:List Li}(S:Shp ls):∀(n:Nat) (s:Spt) (cs:List Nat),SV ls s->(∀c∈cs,c<=1)->rk ls s+cs.length*200<=n->∃d,Go ls s cs d/\d.length<=n:=by
 have p:=S.len;intro n
 induction n with
 | zero=>
  intro s cs f h i
  rcases Qid (Qeq (ls:=ls) (s:=s))with e|⟨t,e⟩|⟨a,b,e⟩
  ·exact⟨[],.stop e,Nn _⟩
  ·have:=Qec f e;omega
  ·cases cs with
   |nil=>exact⟨[],.wait e,Nn _⟩
   |cons c cs=>rw[Nz,Nat.add_mul]at i;omega
 | succ n j=>
  intro s cs f h i
  rcases Qid (Qeq (ls:=ls) (s:=s))with e|⟨t,e⟩|⟨a,b,e⟩
  ·exact⟨[],.stop e,NT _⟩
  ·have o:=Qec f e;have v1:=QeH S f (t:=t) (by rw[e];simp);obtain⟨d,g,m⟩:=j t cs v1 h (by omega);exact⟨t::d,.one e g,by simp;omega⟩
  ·cases cs with
   |nil=>exact⟨[],.wait e,NT _⟩
   |cons c cs=>
    have v1:=QeH S f (t:=pk a b c) (by rw[e];exact GU);rw[Nz,Nat.add_mul]at i;have o:=Qhg (ls:=ls) (s:=pk a b c);obtain⟨d,g,m⟩:=j (pk a b c) cs v1 (fun x l=>h x (Nt _ l)) (by omega);exact⟨pk a b c::d,.two e (h c Nv) g,by simp;omega⟩
theorem Qm0{ls:List Li}(S:Shp ls){s:Spt}{cs:List Nat}{e:List Spt}(g:Go ls s cs e):SV ls s->∀t∈e,SV ls t:=by
 induction g with
 |stop h=>intro _ t d;cases d
 |wait h=>intro _ t d;cases d
 |one h g f=>
  intro v t d;have v1:=QeH S v (by rw[h];exact Nv)
  rcases Nx.mp d with rfl|d
  ·exact v1
  ·exact f v1 t d
 |@two s a b c cs e h i g f=>
  intro v t d;have v1:=QeH S v (t:=pk a b c) (by rw[h];exact GU)
  rcases Nx.mp d with rfl|d
  ·exact v1
  ·exact f v1 t d
noncomputable def Vn(cs:List Nat):List W:=cs.map fun(c:Nat)=>.int (c:Int)
@[simp]theorem Qjj{cs:List Nat}:(Vn cs).length=cs.length:=by simp[Vn]
@[simp]theorem Qmi{cs:List Nat}:ZL (Vn cs)=true:=by
 induction cs with
 |nil=>rfl
 |cons c cs a=>unfold Vn at a ⊢;simp[a]
@[simp]theorem Qjv:Vn []=[]:=id rfl
@[simp]theorem QiB{c:Nat}{cs:List Nat}:Vn (c::cs)=.int (c:Int)::Vn cs:=id rfl
@[simp]theorem Qje{a b:List Nat}:Vn (a++b)=Vn a++Vn b:=by simp[Vn]
theorem QmJ{a b:List Nat}{c:Nat}:atI (Vn a++.int (c:Int)::Vn b) (a.length:Int)=some (.int (c:Int)):=by
 rw[Qs,NQ (by simp)];simp
theorem Qj9{a b:Spt}{c:Nat}(h:c<=1):atI [QJ a,QJ b] (c:Int)=some (QJ (pk a b c)):=by
 rw[Qs]
 match c,h with
 |0,_=>rfl
 |1,_=>rfl
@[simp]theorem QjA{a:Type}{xs:List a}{x y:a}:atI (xs++[x,y]) (-1)=some y:=by rw[show xs++[x,y]=(xs++[x])++[y] by simp];exact Mi.Gm _ _
theorem XE{t:MT}{body:SM}{f:Nat}{σ σ2:MSt}{h h2:MH}(e:t σ h=some (true,h))(a:body σ h=some (.nx σ2 h2)):Q8 t body (f+1) σ h=Q8 t body f σ2 h2:=by
 rw[Q8,e];simp only[Nj,a]
theorem WL{t:MT}{body:SM}{f:Nat}{σ:MSt}{h:MH}(e:t σ h=some (false,h)):Q8 t body (f+1) σ h=some (.nx σ h):=by rw[Q8,e];rfl
theorem Wf{t:MT}{body:SM}{f:Nat}{σ:MSt}{h h2:MH}{v:W}(e:t σ h=some (true,h))(a:body σ h=some (.rt v h2)):Q8 t body (f+1) σ h=some (.rt v h2):=by
 rw[Q8,e];simp only[Nj,a]
noncomputable abbrev tR:MT:=QaR (Qg (Qc wEq (mFn VN (Qa (Qb 4) Qd)) (mC (.int 1)))) (Z8 (Qg (Qc wEq (mFn VN (Qa (Qb 4) Qd)) (mC (.int 2)))) (Qg (Qc wLt (Qb 3) (mFn VN (Qa (Qb 1) Qd)))))
noncomputable abbrev rS(p:W)(all:List Nat)(u:Nat)(L:List Spt):MSt:=[some p,some (.lst (Vn all)),some (.ref 0),some (.int u),some (.lst (L.map QJ))]
noncomputable abbrev rH(R:List Spt)(s:Spt):MH:=[.lst (R.map QJ++[QJ s])]
theorem QdX{nm:Str}{ls:List Li}(S:Shp ls){s:Spt}{cs:List Nat}{d:List Spt}(g:Go ls s cs d):∀(R:List Spt) (pre:List Nat) (f:Nat),SV ls s->d.length<f->R.length+1+d.length<=100000 ->
  ∃(v:Nat) (L:List Spt),Q8 tR KO f (rS (Q2 (pp [(nm,ls)])) (pre++cs) pre.length (nx ls s)) (rH R s)=some (.nx (rS (Q2 (pp [(nm,ls)])) (pre++cs) v L) [.lst ((R++s::d).map QJ)]):=by
 induction g with
 |@stop s cs h=>
  intro R pre f _ j _;obtain⟨f,rfl⟩:∃k,f=k+1:=⟨f-1,by omega⟩
  refine⟨pre.length,nx ls s,?_⟩;rw[WL (by rw[h];simp)];simp
 |@wait s a b h=>
  intro R pre f _ j _;obtain⟨f,rfl⟩:∃k,f=k+1:=⟨f-1,by omega⟩
  refine⟨pre.length,nx ls s,?_⟩;rw[WL (by rw[h];simp)];simp
 |@one s t cs d h g n=>
  intro R pre f v1 j o;obtain⟨f,rfl⟩:∃k,f=k+1:=⟨f-1,by omega⟩
  have i:=QeH S v1 (t:=t) (by rw[h];simp);have p:∀h,Qm [Q2 (pp [(nm,ls)]),QJ t] h=some (.lst ((nx ls t).map QJ),h):=fun h=>UN S i;simp only[Nz]at j o;obtain⟨v,L,e⟩:=n (R++[s]) pre f i (by omega) (by simp;omega);refine⟨v,L,?_⟩;have m:R.length+1<sizeLine:=szG (by omega);rw[XE (σ2:=rS (Q2 (pp [(nm,ls)])) (pre++cs) pre.length (nx ls t)) (h2:=rH (R++[s]) t) (by rw[h];simp) (by rw[h];simp[p,m,rS,rH]),e];simp
 |@two s a b c cs d h r g n=>
  intro R pre f v1 j o;obtain⟨f,rfl⟩:∃k,f=k+1:=⟨f-1,by omega⟩
  have i:=QeH S v1 (t:=pk a b c) (by rw[h];exact GU);have p:∀h,Qm [Q2 (pp [(nm,ls)]),QJ (pk a b c)] h=some (.lst ((nx ls (pk a b c)).map QJ),h):=fun h=>UN S i;simp only[Nz]at j o;obtain⟨v,L,e⟩:=n (R++[s]) (pre++[c]) f i (by omega) (by simp;omega);refine⟨v,L,?_⟩;have m:R.length+1<sizeLine:=szG (by omega);have x:=QmJ (a:=pre) (b:=cs) (c:=c);have w:=Qj9 (a:=a) (b:=b) r;have q:(pre.length:Int)<pre.length+(cs.length+1):=by omega
  rw[ES]at e;rw[XE (σ2:=rS (Q2 (pp [(nm,ls)])) (pre++c::cs) (pre++[c]).length (nx ls (pk a b c))) (h2:=rH (R++[s]) (pk a b c)) (by rw[h];simp;omega) (by rw[h];simp[p,m,x,w,rS,rH])];simp only[List.cons_append,D8]at e;rw[e];simp
theorem Qiz{nm:Str}{ls:List Li}(S:Shp ls){cs:List Nat}{a:List Spt}(g:Go ls (sp0 0) cs a)(p:a.length<=900)(h:MH):∃v:Nat,Xh [Q2 (pp [(nm,ls)]),.lst (Vn cs)] h=some (.tup [.lst ((sp0 0::a).map QJ),.int v],h):=by
 have v0:SV ls (sp0 0):=⟨rfl,rfl,NT _,by simp[sp0]⟩
 obtain⟨v,L,e⟩:=QdX (nm:=nm) S g [] [] 1000000 v0 (by omega) (by simp;omega);have f:∀h,Qm [Q2 (pp [(nm,ls)]),QJ (sp0 0)] h=some (.lst ((nx ls (sp0 0)).map QJ),h):=fun h=>UN S v0
 have i:∀h,Vf [] h=some (QJ (sp0 0),h):=fun h=>by
  refine QF (g:=[]) (by simp) ?_ (by simp);simp[JY,QI,QJ,sp0]
 have c:atI [QJ (sp0 0)] (-1)=some (QJ (sp0 0)):=Qhu (xs:=[]);simp only[D8,E5,rS,rH,Em]at e
 have body:J0 [Q2 (pp [(nm,ls)]),.lst (Vn cs)] []=some (.tup [.ref 0,.int v],[.lst ((sp0 0::a).map QJ)]):=by
  simp[J0,QI,i,f,c];simp at e;simp[e]
 refine⟨v,?_⟩;have q1:ZL ((sp0 0::a).map QJ)=true:=Qga;generalize(sp0 0::a).map QJ=X at *;have fin:=UI (m:=J0) (h:=h) (ns:=[]) (os:=[]) (os':=[]) (g:=[.lst X]) (as:=[Q2 (pp [(nm,ls)]),.lst (Vn cs)]) (args:=[Q2 (pp [(nm,ls)]),.lst (Vn cs)]) (w':=.tup [.lst X,.int v]) (by unfold Q2;simp[XW]) En rfl body rfl (fun o d=>nomatch d) (by simp only[th,ths,res,Yf];simp[ZS _ _ q1]);rw[KC]at fin;exact fin
noncomputable def fld(zz fh q:Nat):List (Str×W):=[("size",.int zz),("held",.ref 1),("rooms",.ref 2),("taken",.ref 3),("words",.ref 4),("in_use",.ref 5),("gone",.ref 6),("fresh",.int fh),("free_again",.ref (q+7))]
noncomputable def hp(C:Addr)(zz fh q:Nat)(D:List (Key×W))(R N T:List W)(iu gd:List (Key×W))(rest:MH):MH:=
 .ins C (fld zz fh q)::.dic D::.lst R::.lst N::.lst T::.dic iu::.dic gd::rest
section
variable{C:Addr}{zz fh q:Nat}{D iu gd:List (Key×W)}{R N T:List W}{rest:MH}
theorem Xu{f:Str}{v:W}(e:(fld zz fh q).lookup f=some v):Zm C f (.ref 0) (hp C zz fh q D R N T iu gd rest)=some (v,hp C zz fh q D R N T iu gd rest):=by
 unfold Zm G8;simp only[hp,ET,if_true,Nj,e];rfl
@[simp]theorem Qkn:Zm C "size" (.ref 0) (hp C zz fh q D R N T iu gd rest)=some (.int zz,hp C zz fh q D R N T iu gd rest):=Xu rfl
@[simp]theorem QkC:Zm C "held" (.ref 0) (hp C zz fh q D R N T iu gd rest)=some (.ref 1,hp C zz fh q D R N T iu gd rest):=Xu rfl
@[simp]theorem Qjd:Zm C "rooms" (.ref 0) (hp C zz fh q D R N T iu gd rest)=some (.ref 2,hp C zz fh q D R N T iu gd rest):=Xu rfl
@[simp]theorem Qja:Zm C "taken" (.ref 0) (hp C zz fh q D R N T iu gd rest)=some (.ref 3,hp C zz fh q D R N T iu gd rest):=Xu rfl
@[simp]theorem Qjf:Zm C "words" (.ref 0) (hp C zz fh q D R N T iu gd rest)=some (.ref 4,hp C zz fh q D R N T iu gd rest):=Xu rfl
@[simp]theorem Ql5:Zm C "in_use" (.ref 0) (hp C zz fh q D R N T iu gd rest)=some (.ref 5,hp C zz fh q D R N T iu gd rest):=Xu rfl
@[simp]theorem Qkf:Zm C "gone" (.ref 0) (hp C zz fh q D R N T iu gd rest)=some (.ref 6,hp C zz fh q D R N T iu gd rest):=Xu rfl
@[simp]theorem Qjc:Zm C "fresh" (.ref 0) (hp C zz fh q D R N T iu gd rest)=some (.int fh,hp C zz fh q D R N T iu gd rest):=Xu rfl
@[simp]theorem Qkb:Zm C "free_again" (.ref 0) (hp C zz fh q D R N T iu gd rest)=some (.ref (q+7),hp C zz fh q D R N T iu gd rest):=Xu rfl
@[simp 2000]theorem Qn8:(hp C zz fh q D R N T iu gd rest)[1]?=some (.dic D):=id rfl
@[simp 2000]theorem QnM:(hp C zz fh q D R N T iu gd rest)[2]?=some (.lst R):=id rfl
@[simp 2000]theorem Qm5:(hp C zz fh q D R N T iu gd rest)[3]?=some (.lst N):=id rfl
@[simp 2000]theorem Qm2:(hp C zz fh q D R N T iu gd rest)[4]?=some (.lst T):=id rfl
@[simp 2000]theorem QnQ:(hp C zz fh q D R N T iu gd rest)[5]?=some (.dic iu):=id rfl
@[simp 2000]theorem QnW:(hp C zz fh q D R N T iu gd rest)[6]?=some (.dic gd):=id rfl
@[simp 2000]theorem QkZ{m:Nat}:(hp C zz fh q D R N T iu gd rest)[m+7]?=rest[m]?:=id rfl
@[simp]theorem QnY{a:List (Key×W)}:(hp C zz fh q D R N T iu gd rest).set 1 (.dic a)=hp C zz fh q a R N T iu gd rest:=id rfl
@[simp]theorem Qof{X:List W}:(hp C zz fh q D R N T iu gd rest).set 2 (.lst X)=hp C zz fh q D X N T iu gd rest:=id rfl
@[simp]theorem Qod{X:List W}:(hp C zz fh q D R N T iu gd rest).set 3 (.lst X)=hp C zz fh q D R X T iu gd rest:=id rfl
@[simp]theorem QnU{X:List W}:(hp C zz fh q D R N T iu gd rest).set 4 (.lst X)=hp C zz fh q D R N X iu gd rest:=id rfl
@[simp]theorem Qoc{X:List (Key×W)}:(hp C zz fh q D R N T iu gd rest).set 5 (.dic X)=hp C zz fh q D R N T X gd rest:=id rfl
@[simp]theorem Qoe{X:List (Key×W)}:(hp C zz fh q D R N T iu gd rest).set 6 (.dic X)=hp C zz fh q D R N T iu X rest:=id rfl
@[simp]theorem QnO{m:Nat}{o:MO}:(hp C zz fh q D R N T iu gd rest).set (m+7) o=hp C zz fh q D R N T iu gd (rest.set m o):=id rfl
@[simp]theorem Qih:(hp C zz fh q D R N T iu gd rest).length=rest.length+7:=id rfl
@[simp]theorem Qhm{o:MO}:hp C zz fh q D R N T iu gd rest++[o]=hp C zz fh q D R N T iu gd (rest++[o]):=id rfl
theorem Qb7{σ:MSt}{x:Option W}{r:MSt}:QcG C "fresh" (Qb 0) (mC (.int 1)) (some (.ref 0)::r) (hp C zz fh q D R N T iu gd rest)=some (.nx (some (.ref 0)::r) (hp C zz (fh+1) q D R N T iu gd rest)):=by
 unfold QcG;simp only[GM,Nj]
 have e:G8 C (hp C zz fh q D R N T iu gd rest) (.ref 0)=some (fld zz fh q):=by
  unfold G8;simp only[hp,ET,if_true]
 have a:(fld zz fh q).lookup ("fresh":Str)=some (.int fh):=rfl;simp only[e,Nj,a,s_c];unfold Xb;simp only[e,Nj];rw[if_pos (by show 9<1000;decide)];rfl
theorem Qc2{r:MSt}{a:Nat}{b:ME}{h':MH}(e:b (some (.ref 0)::r) h'=some (.ref (a+7),hp C zz fh q D R N T iu gd rest)):Xp C "free_again" (Qb 0) b (some (.ref 0)::r) h'=some (.nx (some (.ref 0)::r) (hp C zz fh a D R N T iu gd rest)):=by
 unfold Xp;rw[e];simp only[GM,Nj]
 have e:G8 C (hp C zz fh q D R N T iu gd rest) (.ref 0)=some (fld zz fh q):=by
  unfold G8;simp only[hp,ET,if_true]
 unfold Xb;simp only[e,Nj];rw[if_pos (by show 9<1000;decide)];rfl
theorem Qi9{σ:MSt}{m:Str}{n:Nat}{g:FM}{mo:ME}{ms:MA}{as:List W}{r:Option (W×MH)}(b:(fld zz fh q).lookup m=none)(c:mo σ (hp C zz fh q D R N T iu gd rest)=some (.ref 0,hp C zz fh q D R N T iu gd rest))(d:ms σ (hp C zz fh q D R N T iu gd rest)=some (as,hp C zz fh q D R N T iu gd rest))(a:as.length+1=n)(e:g (.ref 0::as) (hp C zz fh q D R N T iu gd rest)=r):K5 C m n g mo ms σ (hp C zz fh q D R N T iu gd rest)=r:=by
 unfold K5;rw[c]
 have f:G8 C (hp C zz fh q D R N T iu gd rest) (.ref 0)=some (fld zz fh q):=by
  unfold G8;simp only[hp,ET,if_true]
 simp only[Nj,f,b,d,Option.isNone_none,if_true];rw[if_pos (show(W.ref 0::as).length=n from a),e]
@[simp]theorem QlQ{b:Bool}{i:Int}{a:W}{h:MH}:Qjt b (.int i) a h=@ob _ _ (fun kvs=>some (.bl (if b=true then !(Jk kvs (.inl i)).isSome else(Jk kvs (.inl i)).isSome),h)) (Qak h a):=id rfl
@[simp]theorem QmL{n:Nat}{x:Str}{v:W}{h:MH}:Qh9 (.ref n) [.str x,v] h=@ob _ _ (fun kvs=>Qg3 n (.inr x) v kvs h) (Qak h (.ref n)):=id rfl
end
structure HOk(zz i:Nat)(S:Sh)(use:Str->List Nat)(fh:Nat)(fr:List Int)(iu gd:List (Key×W))(q:Nat)(rest:MH):Prop where
 B:Bk2 zz S use fh fr
 ok:OkS i S
 hfr:rest[q]?=some (.lst (fr.map .int))
 hno:∀w,Jk iu (.inr w)=none->use w=[]
 hiu:∀w v,Jk iu (.inr w)=some v->∃m,v=.ref (m+7)/\m≠q/\rest[m]?=some (.lst ((use w).map fun(k:Nat)=>.int k))
 hij:∀w w' v,Jk iu (.inr w)=some v->Jk iu (.inr w')=some v->w=w'
 hgd:∀k:Nat,(Jk gd (.inl k)).isSome=S.gone.getD k false
 hil:iu.length<=i
 hgl:gd.length<=i*900
noncomputable abbrev hpS(C:Addr)(zz:Nat)(bs:List Str)(S:Sh)(fh:Nat)(iu gd:List (Key×W))(q:Nat)(rest:MH):MH:=hp C zz fh q (dcE bs S.f) (S.rooms.map Q1) (S.nums.map .int) (S.words.map .str) iu gd rest
noncomputable def QeY:Option Str->W
 |none=>.non
 |some x=>.str x
theorem Wr:∀{l:List Int} {n:Nat},l.Pairwise (·>·)->(∀x∈l,0<=x/\x<n)->l.length<=n
 |[],_,_,_=>NT _
 | x::l,n,hp,b=>by
  rw[Ld]at hp;have d:=b x Nv
  have:=Wr (l:=l) (n:=x.toNat) hp.2 fun y a=>by
   have e:=hp.1 y a;have c:=b y (Nt _ a);exact⟨c.1,by lia⟩
  simp;lia
theorem Qdl(B:Bk2 zz S use fh a):frL S zz=none↔a=[]/\zz<=fh:=by
 cases b:a.getLast? with
 |none=>
  have:a=[]:=by simpa using b
  subst this;rw[GO B]
  by_cases h:fh<zz
  ·simp[h]
  ·simp[h];lia
 |some m=>
  obtain⟨c,rfl⟩:=Dr.mp b;have:=(Uo B).1;simp[this]
theorem wrd_pair{l:Li}:(wrd l==("pair":Str))=Kb l:=by cases l<;>rfl
theorem QhF{S:Sh}{l:Li}:(Qdb l).bind S.f=rdF S l:=by cases l<;>rfl
theorem QiM{C:Addr}{zz i:Nat}{bs:List Str}{S:Sh}{use:Str->List Nat}{fh:Nat}{o:List Int}{iu gd:List (Key×W)}{q:Nat}{rest:MH}{l:Li}(H:HOk zz i S use fh o iu gd q rest)(s:∀y∈bx l,y∈bs) :
  QM C [.ref 0,Qv (ln l)] (hpS C zz bs S fh iu gd q rest)=some (QeY (Z3 S zz l),hpS C zz bs S fh iu gd q rest):=by
 have hr:QX [Qv (ln l),.ref 1] (hpS C zz bs S fh iu gd q rest)=some (oN (rdF S l),hpS C zz bs S fh iu gd q rest):=by rw[<-QhF];exact Qfi rfl s
 have j:=H.hfr;have m:=Qdl H.B;have key:∀b:Bool,(wrd l==("pair":Str))=b->Kb l=b:=fun b h=>wrd_pair.symm.trans h
 have tail:J4 S (rdF S l)=false->QeY (Z3 S zz l)=if(Kb l=true/\o=[]/\zz<=fh)then .str "full"else .non:=fun f=>by
  unfold Z3;rw[f,if_neg (by simp)]
  by_cases c:Kb l=true/\o=[]/\zz<=fh
  ·rw[if_pos c,if_pos ⟨c.1,m.mpr c.2⟩];rfl
  ·rw[if_neg c,if_neg fun z=>c ⟨z.1,m.mp z.2⟩];rfl
 have last:J4 S (rdF S l)=false->∀w,UA (Qh (Q9 (Z8 (Qg (Qc wEq (Qc wIx (Qb 1) (mC (.int 0))) (mC (.str "pair")))) (Z8 (KM (YK (mUn (Zm C "free_again") (Qb 0)))) (Qg (Qc wGe (mUn (Zm C "fresh") (Qb 0)) (mUn (Zm C "size") (Qb 0)))))) (Zg (mC (.str "full"))) Qx) (Zg (mC .non)) [some (.ref 0),some (Qv (ln l)),some w] (hpS C zz bs S fh iu gd q rest))=some (QeY (Z3 S zz l),hpS C zz bs S fh iu gd q rest):=by
  intro f w;rw[tail f];cases hw:(wrd l==("pair":Str))with
  |false=>
   have:=key _ hw;simp[Zj,hw,this]
  | true=>
   have:=key _ hw;cases o with
   | nil=>
    by_cases p:zz<=fh
    ·have g:(zz:Int)<=fh:=by lia
     simp[Zj,hw,this,j,p,g]
    ·have g:¬(zz:Int)<=fh:=by lia
     simp[Zj,hw,this,j,p,g]
   |cons x r=>simp[Zj,hw,this,j]
 cases a:rdF S l with
 |none=>
  have f:J4 S (rdF S l)=false:=by rw[a];rfl
  have:=last f .non;rw[a]at hr;simp only[oN]at hr;simp[QM,QI,hr]at this ⊢;exact this
 | some n=>
  have e:=H.hgd n;rw[a]at hr;simp only[oN]at hr;cases d:S.gone.getD n false with
  |true=>
   rw[d]at e;have f:J4 S (rdF S l)=true:=by rw[a];exact d
   have:QeY (Z3 S zz l)=.str "gone":=by unfold Z3;rw[f,if_pos rfl];rfl
   rw[this];simp[QM,QI,hr,e]
  |false=>
   rw[d]at e;have f:J4 S (rdF S l)=false:=by rw[a];exact d
   have:=last f (.int n);simp[QM,QI,hr,e]at this ⊢;exact this
theorem Wg(kvs:List (Key×W))(k:Key)(v:W):(Vp kvs k v).length<=kvs.length+1:=by
 unfold Vp;split<;>simp
section
variable{C:Addr}{zz i:Nat}{bs:List Str}{S:Sh}{use:Str->List Nat}{fh:Nat}{fr:List Int}{iu gd:List (Key×W)}{q:Nat}{rest:MH}
noncomputable abbrev mrS(x w y z:Str):MSt:=[some (.ref 0),some (.tup [.str "pair",.str x,.str w,.str y,.str z])]
noncomputable abbrev mr1(C:Addr):SM:=Zf (mMt "list" QB (mMt "dict" Qh9 (mUn (Zm C "in_use") (Qb 0)) (Qa (Qc wIx (Qb 1) (mC (.int 2))) (Qa (mFn Yi Qd) Qd))) (Qa (mFn VN (Qa (mUn (Zm C "rooms") (Qb 0)) Qd)) Qd))
noncomputable abbrev mr2(C:Addr):SM:=Zf (mMt "list" QB (mUn (Zm C "rooms") (Qb 0)) (Qa (mFn Q4 (Qa (Qc wIx (Qb 1) (mC (.int 2))) (Qa (Qc UC (mUn (Zm C "held") (Qb 0)) (Qc wIx (Qb 1) (mC (.int 3)))) (Qa (Qc UC (mUn (Zm C "held") (Qb 0)) (Qc wIx (Qb 1) (mC (.int 4)))) Qd)))) Qd))
noncomputable abbrev mr3(C:Addr):SM:=Q9 (YK (mUn (Zm C "free_again") (Qb 0))) (Zf (mMt "list" QB (mUn (Zm C "taken") (Qb 0)) (Qa (mMt "list" Qiw (mUn (Zm C "free_again") (Qb 0)) Qd) Qd))) (Qh (Zf (mMt "list" QB (mUn (Zm C "taken") (Qb 0)) (Qa (mUn (Zm C "fresh") (Qb 0)) Qd))) (QcG C "fresh" (Qb 0) (mC (.int 1))))
theorem QhM{D:List (Key×W)}{R N T:List W}{x w y z:Str}(H:HOk zz i S use fh fr iu gd q rest)(L:i<=900)(G:R.length=S.rooms.length) :
  ∃f c,mr1 C (mrS x w y z) (hp C zz fh q D R N T iu gd rest)=some (.nx (mrS x w y z) (hp C zz fh q D R N T f gd c))/\c[q]?=some (.lst (fr.map .int)) /\
   (∀v,Jk f (.inr v)=none->QaQ use w S.rooms.length v=[]) /\
   (∀u v,Jk f (.inr u)=some v->∃m,v=.ref (m+7)/\m≠q/\c[m]?=some (.lst ((QaQ use w S.rooms.length u).map fun(k:Nat)=>.int k))) /\
   (∀u g v,Jk f (.inr u)=some v->Jk f (.inr g)=some v->u=g)/\f.length<=i+1:=by
 have E:=(Ng.mp H.hfr).1;have r:=H.ok.rl;have hu:(use w).length<=i:=by rw[H.B.use w];exact Nu (Iv _ _) (by rw[DK];exact r)
 have sz:(use w).length<sizeLine:=szG (by lia);have J:=H.hil;have o:iu.length<sizeLine:=szG (by lia);cases h:Jk iu (.inr w)with
 | some v=>
  obtain⟨m,rfl,F,hr⟩:=H.hiu w v h;have A:=(Ng.mp hr).1;have s:(rest++[MO.lst []])[m]?=some (.lst ((use w).map fun(k:Nat)=>.int k)):=by rw[Np A];exact hr
  refine⟨iu,(rest++[MO.lst []]).set m (MO.lst ((use w++[S.rooms.length]).map fun(k:Nat)=>.int k)),?_,?_,fun v e=>?_,fun u v e=>?_,H.hij,by lia⟩
  ·simp[mrS,Qg3,h,s,sz,G]
  ·rw[N1 F,Np E];exact H.hfr
  ·have:v≠w:=fun z=>by rw[z,h]at e;cases e
   unfold QaQ;rw[if_neg this];exact H.hno v e
  ·by_cases a:u=w
   ·subst a;rw[h]at e;cases e;refine⟨m,rfl,F,?_⟩;rw[N2 (by simp;lia)];simp[QaQ]
   ·obtain⟨m',rfl,j,d⟩:=H.hiu u v e;have t:m≠m':=fun z=>a (H.hij u w (.ref (m+7)) (by rw[z];exact e) h);refine⟨m',rfl,j,?_⟩;rw[N1 t,Np (Ng.mp d).1,d];simp[QaQ,a]
 | none=>
  have p:=H.hno w h;refine⟨Vp iu (.inr w) (.ref (rest.length+7)),rest++[.lst [.int S.rooms.length]],?_,?_,fun v e=>?_,fun u v e=>?_,fun u g v e l=>?_,Nu (Wg _ _ _) (by lia)⟩
  ·have O:(rest++[MO.lst []])[rest.length]?=some (.lst []):=by simp
   have M:(rest++[MO.lst []]).set rest.length (.lst [.int S.rooms.length])=rest++[.lst [.int S.rooms.length]]:=by simp
   simp[mrS,Qg3,h,o,G]
  ·rw[Np E];exact H.hfr
  ·by_cases a:v=w
   ·subst a;rw[QO]at e;cases e
   ·rw[QL _ _ (fun z=>a (Eg z))]at e;unfold QaQ;rw[if_neg a];exact H.hno v e
  ·by_cases a:u=w
   ·subst a;rw[QO]at e;cases e;refine⟨rest.length,rfl,by lia,?_⟩;simp[QaQ,p]
   ·rw[QL _ _ (fun z=>a (Eg z))]at e;obtain⟨m',rfl,j,d⟩:=H.hiu u v e;refine⟨m',rfl,j,?_⟩;rw[Np (Ng.mp d).1,d];simp[QaQ,a]
  ·have n:∀u,Jk iu (.inr u)=some (.ref (rest.length+7))->False:=fun u e=>by
    obtain⟨m',I,_,d⟩:=H.hiu u _ e;have:=(Ng.mp d).1;injection I with I
    lia
   by_cases a:u=w
   ·by_cases b:g=w
    ·rw[a,b]
    ·exfalso;subst a;rw[QO]at e;cases e;rw[QL _ _ (fun z=>b (Eg z))]at l;exact n g l
   ·rw[QL _ _ (fun z=>a (Eg z))]at e
    by_cases b:g=w
    ·exfalso;subst b;rw[QO]at l;cases l;exact n u e
    ·rw[QL _ _ (fun z=>b (Eg z))]at l;exact H.hij u g v e l
theorem QhZ{R N T:List W}{f:Str->Option Nat}{x w y z:Str}(d:R.length<=900)(c:y∈bs)(hz:z∈bs) :
  mr2 C (mrS x w y z) (hp C zz fh q (dcE bs f) R N T iu gd rest)=some (.nx (mrS x w y z) (hp C zz fh q (dcE bs f) (R++[Q1 ⟨w,f y,f z⟩]) N T iu gd rest)):=by
 have v1:=K7 (f:=f) c;have a:=K7 (f:=f) hz;have b:R.length<sizeLine:=szG (by lia);simp[mrS,v1,a,b,Q1]
theorem Qf2{D:List (Key×W)}{R N T:List W}{x w y z:Str}(hN:N.length<=900)(a:rest[q]?=some (.lst [])) :
  mr3 C (mrS x w y z) (hp C zz fh q D R N T iu gd rest)=some (.nx (mrS x w y z) (hp C zz (fh+1) q D R (N++[.int fh]) T iu gd rest)):=by
 have b:N.length<sizeLine:=szG (by lia);have:=fun r N=>Qb7 (C:=C) (zz:=zz) (fh:=fh) (q:=q) (D:=D) (R:=R) (N:=N) (T:=T) (iu:=iu) (gd:=gd) (rest:=rest) (r:=r) (σ:=[]) (x:=none);simp[mrS,a,b,this]
theorem Qde{D:List (Key×W)}{R N T L:List W}{m:Int}{x w y z:Str}(hN:N.length<=900)(a:rest[q]?=some (.lst (L++[.int m]))) :
  mr3 C (mrS x w y z) (hp C zz fh q D R N T iu gd rest)=some (.nx (mrS x w y z) (hp C zz fh q D R (N++[.int m]) T iu gd (rest.set q (.lst L)))):=by
 have b:N.length<sizeLine:=szG (by lia);simp[mrS,a,b]
theorem W3{x w y z:Str}(a:Z3 S zz (.pair x w y z)=none):frL S zz≠none:=by
 intro e;simp[Z3,J4,rdF,Kb,e]at a
theorem QfL{x w y z:Str}(H:HOk zz i S use fh fr iu gd q rest)(O:i<=900)(J:y∈bs)(hz:z∈bs)(P:frL S zz≠none) :
  ∃g l s b a,Qn C [.ref 0,Qv (ln (.pair x w y z))] (hpS C zz bs S fh iu gd q rest)=some (.non,hp C zz l q (dcE bs S.f) ((Qo zz S (.pair x w y z)).rooms.map Q1) ((Qo zz S (.pair x w y z)).nums.map .int) (S.words.map .str) b gd a)/\HOk zz (i+1) (Qo zz S (.pair x w y z)) g l s b gd q a:=by
 obtain⟨b,a,Y,o,F,E,A,t⟩:=QhM (C:=C) (D:=dcE bs S.f) (R:=S.rooms.map Q1) (N:=S.nums.map .int) (T:=S.words.map .str) (x:=x) (w:=w) (y:=y) (z:=z) H O (by simp);have L:=H.ok.rl;have X:=QhZ (C:=C) (zz:=zz) (fh:=fh) (q:=q) (bs:=bs) (f:=S.f) (R:=S.rooms.map Q1) (N:=S.nums.map .int) (T:=S.words.map .str) (iu:=b) (gd:=gd) (rest:=a) (x:=x) (w:=w) (y:=y) (z:=z) (by simp;lia) J hz;have hN:(S.nums.map W.int).length<=900:=by rw[Nw,H.ok.nl];lia
 have j:∀k:Nat,(Jk gd (.inl k)).isSome=(S.gone++[false]).getD k false:=fun k=>by
  rw[H.hgd k,NE,NE]
  by_cases M:k<S.gone.length
  ·rw[Np M]
  ·rw[NF (by lia)]
   by_cases e:k=S.gone.length
   ·subst e;simp
   ·rw[NF (by simp;lia)]
 have all:∀c d,mr3 C (mrS x w y z) (hp C zz fh q (dcE bs S.f) (S.rooms.map Q1++[Q1 ⟨w,S.f y,S.f z⟩]) (S.nums.map .int) (S.words.map .str) b gd a)=some (.nx (mrS x w y z) (hp C zz d q (dcE bs S.f) ((Qo zz S (.pair x w y z)).rooms.map Q1) ((Qo zz S (.pair x w y z)).nums.map .int) (S.words.map .str) b gd c))->Qn C [.ref 0,Qv (ln (.pair x w y z))] (hpS C zz bs S fh iu gd q rest)=some (.non,hp C zz d q (dcE bs S.f) ((Qo zz S (.pair x w y z)).rooms.map Q1) ((Qo zz S (.pair x w y z)).nums.map .int) (S.words.map .str) b gd c):=by
  intro c d n;show UA (Qh (mr1 C) (Qh (mr2 C) (mr3 C)) (mrS x w y z) (hpS C zz bs S fh iu gd q rest))=_;rw[QA Y (QA X n)];rfl
 have B:=Qfr H.ok H.B P x w y z;cases p:fr.getLast? with
 |none=>
  rw[p]at B;have:fr=[]:=by simpa using p
  subst this;refine⟨_,fh+1,[],b,a,all a _ ?_,⟨B.2.2,VO H.ok _,o,F,E,A,j,t,by have:=H.hgl;lia⟩⟩;have n:=Qf2 (C:=C) (zz:=zz) (fh:=fh) (q:=q) (D:=dcE bs S.f) (R:=S.rooms.map Q1++[Q1 ⟨w,S.f y,S.f z⟩]) (T:=S.words.map .str) (iu:=b) (gd:=gd) (x:=x) (w:=w) (y:=y) (z:=z) hN o;rw[n];simp[Qo,B.2.1]
 | some m=>
  rw[p]at B
  have hd:fr=fr.dropLast++[m]:=by
   obtain⟨Z,rfl⟩:=Dr.mp p;simp
  have h:=o;rw[hd,ER]at h;have r:=(Ng.mp o).1;refine⟨_,fh,fr.dropLast,b,a.set q (.lst (fr.dropLast.map .int)),all _ _ ?_,⟨B.2.2,VO H.ok _,by rw[N2 r],F,fun u v e=>?_,A,j,t,by have:=H.hgl;lia⟩⟩
  ·have n:=Qde (C:=C) (zz:=zz) (fh:=fh) (q:=q) (D:=dcE bs S.f) (R:=S.rooms.map Q1++[Q1 ⟨w,S.f y,S.f z⟩]) (T:=S.words.map .str) (iu:=b) (gd:=gd) (x:=x) (w:=w) (y:=y) (z:=z) hN h;rw[n];simp[Qo,B.2.1]
  ·obtain⟨I,U,G,Q⟩:=E u v e;exact⟨I,U,G,by rw[N1 (EF G)];exact Q⟩
end
theorem GT{items:List W}{src:Option Src}{b:MG}{body:SM}(P:Nat->MSt->MH->Prop)(c:∀n σ h,P n σ h->live src items h):∀(r:List W) (n:Nat) (σ:MSt) (h:MH),P n σ h ->
  (∀(j:Nat) (w:W),r[j]?=some w->∀σ h,P (n+j) σ h->∃σ1,b w σ h=some σ1/\∃σ2 h2,body σ1 h=some (.nx σ2 h2)/\P (n+j+1) σ2 h2) ->
  ∃a h',Jg items src b body r σ h=some (.nx a h')/\P (n+r.length) a h'
 |[],n,σ,h,hp,_=>⟨σ,h,by rw[Jg,if_pos (c _ _ _ hp)],hp⟩
 | w::r,n,σ,h,hp,d=>by
  obtain⟨σ1,m,σ2,h2,l,f⟩:=d 0 w rfl σ h hp
  obtain⟨a,h',i,e⟩:=GT (items:=items) (src:=src) (b:=b) (body:=body) P c r (n+1) σ2 h2 f fun j x g σ h hp=>by
   have:=d (j+1) x (by simpa using g) σ h (by rw[show n+(j+1)=n+1+j by lia];exact hp);rw[show n+(j+1)+1=n+1+j+1 by lia]at this;exact this
  refine⟨a,h',?_,by rw[Nz,show n+(r.length+1)=n+1+r.length by lia];exact e⟩;rw[Jg,if_pos (c _ _ _ hp),m,Nj,l];exact i
theorem GF{l:List b}(h:l[q]?=some x):l.set q x=l:=by
 obtain⟨a,rfl⟩:=Ng.mp h;exact Iq a
theorem szM{n:Nat}(h:n<=16000000):n<sizeLine:=NL h (by decide)
section
variable{C:Addr}{zz i:Nat}{bs:List Str}{S:Sh}{use:Str->List Nat}{fh:Nat}{fr:List Int}{iu gd:List (Key×W)}{q:Nat}{rest:MH}
theorem UD(B:Bk2 zz S use fh fr){w:Str}{k:Nat}:k∈use w↔k<S.rooms.length/\Vu S.rooms w k=true/\S.gone.getD k false=false:=by
 rw[B.use w,EV,N7,NB,Lr]
theorem WM:∀{ns:List Int},QaF (ns.map .int)=some ns
 |[]=>rfl
 |n::ns=>by rw[Nr];show(QaF (ns.map .int)).map _=_;rw[WM];rfl
noncomputable abbrev gbS(w:Str)(x:Option W):MSt:=[some (.ref 0),some (.str w),x]
theorem Qe0{D:List (Key×W)}{R N T:List W}{w:Str}{k:Nat}{A:List Int}{v:Int}(b:gd.length<sizeLine)(a:A.length<sizeLine)(c:rest[q]?=some (.lst (A.map .int)))(d:atI N (k:Int)=some (.int v)):QZ C (gbS w (some (.int k))) (hp C zz fh q D R N T iu gd rest)=some (.nx (gbS w (some (.int k))) (hp C zz fh q D R N T iu (Vp gd (.inl k) (.bl true)) (rest.set q (.lst ((A++[v]).map .int))))):=by
 simp[gbS,b,a,c,d]
theorem QfR{D:List (Key×W)}{R T:List W}{w:Str}(H:HOk zz i S use fh fr iu gd q rest)(hi:i<=900)(hz:zz<=1000) :
  ∃x c a,Vv (Jw (mMt "dict" Wn (mUn (Zm C "in_use") (Qb 0)) (Qa (Qb 1) (Qa (mFn Zb Qd) Qd)))) (ZU 2) (QZ C) (gbS w none) (hp C zz fh q D R (S.nums.map .int) T iu gd rest)=some (.nx (gbS w x) (hp C zz fh q D R (S.nums.map .int) T iu c a)) /\
   (∀k:Nat,(Jk c (.inl k)).isSome=(S.gone.getD k false ||decide (k∈use w)))/\a=rest.set q (.lst ((fr++(use w).map (Z9 S)).map .int))/\c.length<=gd.length+i:=by
 have Q:=(Ng.mp H.hfr).1;have aa:=Wr H.B.desc H.B.lo;have Z:=H.B.fs;have O:(use w).length<=i:=by rw[H.B.use w];exact Nu (Iv _ _) (by rw[DK];exact H.ok.rl)
 have Y:=H.hgl;cases p:Jk iu (.inr w)with
 | none=>
  have f:=H.hno w p;refine⟨none,gd,rest,?_,fun k=>by rw[H.hgd k,f];simp,?_,by lia⟩
  ·have e:Jw (mMt "dict" Wn (mUn (Zm C "in_use") (Qb 0)) (Qa (Qb 1) (Qa (mFn Zb Qd) Qd))) (gbS w none) (hp C zz fh q D R (S.nums.map .int) T iu gd rest)=some ([],none,hp C zz fh q D R (S.nums.map .int) T iu gd rest):=by
    unfold Jw;have:mMt "dict" Wn (mUn (Zm C "in_use") (Qb 0)) (Qa (Qb 1) (Qa (mFn Zb Qd) Qd)) (gbS w none) (hp C zz fh q D R (S.nums.map .int) T iu gd rest)=some (.lst [],hp C zz fh q D R (S.nums.map .int) T iu gd rest):=by simp[gbS,p]
    rw[this];rfl
   unfold Vv;rw[e,Nj];exact Wv
  ·rw[f,Em,N9];exact(GF H.hfr).symm
 | some v=>
  obtain⟨m,rfl,U,hr⟩:=H.hiu w v p
  have e:Jw (mMt "dict" Wn (mUn (Zm C "in_use") (Qb 0)) (Qa (Qb 1) (Qa (mFn Zb Qd) Qd))) (gbS w none) (hp C zz fh q D R (S.nums.map .int) T iu gd rest)=some ((use w).map (fun(k:Nat)=>W.int k),some (.l (m+7)),hp C zz fh q D R (S.nums.map .int) T iu gd rest):=by
   unfold Jw;have:mMt "dict" Wn (mUn (Zm C "in_use") (Qb 0)) (Qa (Qb 1) (Qa (mFn Zb Qd) Qd)) (gbS w none) (hp C zz fh q D R (S.nums.map .int) T iu gd rest)=some (.ref (m+7),hp C zz fh q D R (S.nums.map .int) T iu gd rest):=by simp[gbS,p]
   rw[this,Nj];unfold GJ;simp only[QkZ,hr];rfl
  have d:=GT (items:=(use w).map (fun(k:Nat)=>W.int k)) (src:=some (.l (m+7))) (b:=ZU 2) (body:=QZ C)
   (fun n r h=>∃x c a,r=gbS w x/\h=hp C zz fh q D R (S.nums.map .int) T iu c a/\(∀k:Nat,(Jk c (.inl k)).isSome=(S.gone.getD k false ||decide (k∈(use w).take n)))/\a=rest.set q (.lst ((fr++((use w).take n).map (Z9 S)).map .int))/\c.length<=gd.length+n) (by
    rintro n r h ⟨x,c,a,rfl,rfl,o,rfl,F⟩ s P
    cases P;show(hp C zz fh q D R (S.nums.map .int) T iu c _)[m+7]?=_;rw[QkZ,N1 (EF U)];exact hr) ((use w).map (fun(k:Nat)=>W.int k)) 0 (gbS w none) (hp C zz fh q D R (S.nums.map .int) T iu gd rest) ⟨none,gd,rest,rfl,rfl,fun k=>by rw[H.hgd k];simp,by simp;exact(GF H.hfr).symm,by lia⟩ (by
    rintro j v G r h ⟨x,c,a,rfl,rfl,o,rfl,F⟩
    rw[Nq]at G;obtain⟨k,E,rfl⟩:=Nf.mp G;have X:=(Ng.mp E).1;have A:=UD H.B|>.mp (NA.mpr ⟨j,E⟩)
    rw[NZ]at *;have u:(use w).take (j+1)=(use w).take j++[k]:=by rw[DM,E];rfl
    have g:k<S.nums.length:=by rw[H.ok.nl];exact A.1
    have ea:atI (S.nums.map W.int) (k:Int)=some (.int (Z9 S k)):=by
     rw[Qs,Nq,Ni g];simp[Z9,g]
    have N:c.length<sizeLine:=szM (by lia);have M:fr.length+min j (use w).length<sizeLine:=szM (by lia);have y:(rest.set q (.lst ((fr++((use w).take j).map (Z9 S)).map .int)))[q]?=some (.lst ((fr++((use w).take j).map (Z9 S)).map .int)):=by rw[N2 Q]
    refine⟨gbS w (some (.int k)),rfl,gbS w (some (.int k)),hp C zz fh q D R (S.nums.map .int) T iu (Vp c (.inl k) (.bl true)) (rest.set q (.lst ((fr++((use w).take (j+1)).map (Z9 S)).map .int))),?_,some (.int k),_,_,rfl,rfl,fun t=>?_,rfl,Nu (Wg _ _ _) (by lia)⟩
    ·have:=Qe0 (C:=C) (zz:=zz) (fh:=fh) (iu:=iu) (D:=D) (R:=R) (T:=T) (w:=w) N (by simp;exact M) y ea;rw[this,u,List.set_set];simp
    ·by_cases e:t=k
     ·subst e;rw[QO,u];simp
     ·have:(Sum.inl (t:Int):Key)≠Sum.inl (k:Int):=fun z=>e (by have:=Oa z;lia);rw[QL _ _ this,o t,u]
      simp[e])
  obtain⟨J,h',e3,x,c,a,rfl,rfl,o,I,F⟩:=d;rw[NZ,Nw,LI]at o I;rw[NZ,Nw]at F;refine⟨x,c,a,?_,o,I,by lia⟩;unfold Vv;rw[e,Nj];exact e3
theorem QeV{D:List (Key×W)}{R T:List W}{w:Str}(H:HOk zz i S use fh fr iu gd q rest)(Z:i<=900)(hz:zz<=50) :
  ∃j M m c N a,Qr C [.ref 0,.str w] (hp C zz fh q D R (S.nums.map .int) T iu gd rest)=some (.non,hp C zz fh N D R (S.nums.map .int) T m c a)/\HOk zz (i+1) (Qo zz S (.back w)) j fh M m c N a:=by
 obtain⟨x,c,a,e1,s,L,h3⟩:=QfR (C:=C) (D:=D) (R:=R) (T:=T) (w:=w) H Z (by lia);have U:=(Ng.mp H.hfr).1;have Q:=H.ok.rl;have t:=Qe9 H.ok H.B w
 have n:(fr++(use w).map (Z9 S)).length<64:=by
  have:=Wr t.desc t.lo;rw[(KF _).length_eq]at this;have:=t.fs;lia
 have il:=H.hil;have P:iu.length<sizeLine:=szG (by lia);have f:a.length=rest.length:=by rw[L,EB]
 have y:a[q]?=some (.lst ((fr++(use w).map (Z9 S)).map .int)):=by rw[L,N2 U]
 have e2:KK (mUn (Zm C "in_use") (Qb 0)) (Qb 1) (mFn Yi Qd) (gbS w x) (hp C zz fh q D R (S.nums.map .int) T iu c a)=some (.nx (gbS w x) (hp C zz fh q D R (S.nums.map .int) T (Vp iu (.inr w) (.ref (rest.length+7))) c (a++[.lst []]))):=by
  simp[gbS,P,f]
 have e3:mFn W9 (Qa (mUn (Zm C "free_again") (Qb 0)) Qd) (gbS w x) (hp C zz fh q D R (S.nums.map .int) T (Vp iu (.inr w) (.ref (rest.length+7))) c (a++[.lst []]))=some (.ref (rest.length+1+7),hp C zz fh q D R (S.nums.map .int) T (Vp iu (.inr w) (.ref (rest.length+7))) c (a++[.lst []]++[.lst ((Qaq (fr++(use w).map (Z9 S))).map .int)])):=by
  have J:(a++[MO.lst []])[q]?=some (.lst ((fr++(use w).map (Z9 S)).map .int)):=by rw[Np (by lia)];exact y
  have:W9 [.ref (q+7)] (hp C zz fh q D R (S.nums.map .int) T (Vp iu (.inr w) (.ref (rest.length+7))) c (a++[.lst []]))=some (.ref (rest.length+1+7),hp C zz fh q D R (S.nums.map .int) T (Vp iu (.inr w) (.ref (rest.length+7))) c (a++[.lst []]++[.lst ((Qaq (fr++(use w).map (Z9 S))).map .int)])):=by
   unfold W9;simp only[lsW,QkZ,J,Nj,WM];rw[if_pos n,Qih,Qhm,NC,f,EI]
  simp[gbS,this]
 have e4:=Qc2 (C:=C) (r:=[some (.str w),x]) e3;refine⟨Qgk use w,Qaq (fr++(use w).map (Z9 S)),Vp iu (.inr w) (.ref (rest.length+7)),c,rest.length+1,a++[.lst []]++[.lst ((Qaq (fr++(use w).map (Z9 S))).map .int)],?_,⟨t,VO H.ok _,?_,fun v e=>?_,fun u v e=>?_,fun u p v e h=>?_,fun k=>?_,Nu (Wg _ _ _) (by lia),?_⟩⟩
 ·show UA (Qh _ (Qh _ _) (gbS w none) _)=_;rw[QA e1 (QA e2 e4)];rfl
 ·rw[NQ (by simp[f])];simp[f]
 ·unfold Qgk
  by_cases b:v=w
  ·rw[if_pos b]
  ·rw[if_neg b];rw[QL _ _ (fun z=>b (Eg z))]at e;exact H.hno v e
 ·by_cases b:u=w
  ·subst b;rw[QO]at e;cases e;refine⟨rest.length,rfl,by lia,?_⟩;rw[Np (by simp[f]),NQ (by lia)];simp[f,Qgk]
  ·rw[QL _ _ (fun z=>b (Eg z))]at e;obtain⟨O,rfl,F,g⟩:=H.hiu u v e;have Y:=(Ng.mp g).1;refine⟨O,rfl,by lia,?_⟩;rw[Np (by simp[f];lia),Np (by lia),L,N1 (EF F),g];simp[Qgk,b]
 ·have o:∀u,Jk iu (.inr u)=some (.ref (rest.length+7))->False:=fun u e=>by
   obtain⟨O,s,_,g⟩:=H.hiu u _ e;have:=(Ng.mp g).1;injection s with s
   lia
  by_cases b:u=w
  ·by_cases d:p=w
   ·rw[b,d]
   ·exfalso;subst b;rw[QO]at e;cases e;rw[QL _ _ (fun z=>d (Eg z))]at h;exact o p h
  ·rw[QL _ _ (fun z=>b (Eg z))]at e
   by_cases d:p=w
   ·exfalso;subst d;rw[QO]at h;cases h;exact o u e
   ·rw[QL _ _ (fun z=>d (Eg z))]at h;exact H.hij u p v e h
 ·rw [s k]
  by_cases I:k<S.gone.length
  ·rw[NE (l:=(Qo zz S (.back w)).gone),Xf I];have G:k<S.rooms.length:=by rw[<-H.ok.gl];exact I
   have:=UD H.B (w:=w) (k:=k);cases J:S.gone.getD k false with
   |true=>simp
   | false=>
    cases hw:Vu S.rooms w k with
    |true=>simp[this.mpr ⟨G,hw,J⟩]
    |false=>
     have:¬k∈use w:=fun z=>by have:=(this.mp z).2.1;rw[hw]at this;cases this
     simp[this]
  ·have X:S.gone.getD k false=false:=by rw[NE,NF (by lia)];rfl
   have A:¬k∈use w:=fun z=>by have:=((UD H.B).mp z).1;rw[<-H.ok.gl]at this;exact I this
   have E:(Qo zz S (.back w)).gone.getD k false=false:=by rw[NE,NF (by simp[Qo];lia)];rfl
   rw[X,E];simp[A]
 ·have:=H.hgl;lia
end
section
variable{C:Addr}{zz i:Nat}{bs:List Str}{S:Sh}{use:Str->List Nat}{fh:Nat}{fr:List Int}{iu gd:List (Key×W)}{q:Nat}{rest:MH}
noncomputable abbrev plA(C:Addr):SM:=Q9 (Qg (Qc wEq (Qc wIx (Qb 1) (mC (.int 0))) (mC (.str "tell")))) (Zf (mMt "list" QB (mUn (Zm C "words") (Qb 0)) (Qa (Ql 2 QY (Qa (mUn (Zm C "rooms") (Qb 0)) (Qa (Qc UC (mUn (Zm C "held") (Qb 0)) (Qc wIx (Qb 1) (mC (.int 1)))) Qd))) Qd))) (Q9 (Qg (Qc wEq (Qc wIx (Qb 1) (mC (.int 0))) (mC (.str "pair")))) (Zf (K5 C "make_room" 2 (Qn C) (Qb 0) (Qa (Qb 1) Qd))) (Q9 (Qg (Qc wEq (Qc wIx (Qb 1) (mC (.int 0))) (mC (.str "back")))) (Zf (K5 C "give_back" 2 (Qr C) (Qb 0) (Qa (Qc wIx (Qb 1) (mC (.int 1))) Qd))) Qx))
noncomputable abbrev plB(C:Addr):SM:=Q9 (Qg (Qc Jy (Ql 1 Vg (Qa (Qb 1) Qd)) (mC .non))) (KK (mUn (Zm C "held") (Qb 0)) (Ql 1 Vg (Qa (Qb 1) Qd)) (Ql 3 Qz (Qa (Qb 1) (Qa (mUn (Zm C "rooms") (Qb 0)) (Qa (mUn (Zm C "held") (Qb 0)) Qd))))) Qx
noncomputable abbrev plS(l:Li):MSt:=[some (.ref 0),some (Qv (ln l))]
theorem Qg6{l:Li}{h:MH}(h1:(wrd l==("tell":Str))=false)(h2:(wrd l==("pair":Str))=false)(a:(wrd l==("back":Str))=false):plA C (plS l) h=some (.nx (plS l) h):=by
 simp[plS,Zj,h1,h2,a]
theorem QcR{x:Str}{rs:List Ro}{f:Str->Option Nat}{N:List W}{T:List Str}(b:x∈bs)(c:∀k,f x=some k->k<rs.length)(g:T.length<=900) :
  plA C (plS (.tell x)) (hp C zz fh q (dcE bs f) (rs.map Q1) N (T.map .str) iu gd rest)=some (.nx (plS (.tell x)) (hp C zz fh q (dcE bs f) (rs.map Q1) N ((T++[wdT rs (f x)]).map .str) iu gd rest)):=by
 have v1:=K7 (f:=f) b;have e:=QfD (rs:=rs) (o:=f x) (h:=hp C zz fh q (dcE bs f) (rs.map Q1) N (T.map .str) iu gd rest) (n:=2) rfl c;have a:T.length<sizeLine:=szG (by lia);have d:Qv (ln (.tell x))=.tup [.str "tell",.str x]:=rfl;simp[plS,d,v1,e,a]
theorem QcL{l:Li}{r:MH}{D:List (Key×W)}{R N T:List W}(b:(wrd l==("tell":Str))=false)(a:(wrd l==("pair":Str))=true)(e:Qn C [.ref 0,Qv (ln l)] (hp C zz fh q D R N T iu gd rest)=some (.non,r)):plA C (plS l) (hp C zz fh q D R N T iu gd rest)=some (.nx (plS l) r):=by
 have:=Qi9 (C:=C) (zz:=zz) (fh:=fh) (q:=q) (D:=D) (R:=R) (N:=N) (T:=T) (iu:=iu) (gd:=gd) (rest:=rest) (σ:=plS l) (m:="make_room") (n:=2) (mo:=Qb 0) (ms:=Qa (Qb 1) Qd) (as:=[Qv (ln l)]) (g:=Qn C) rfl (by simp) (by simp) rfl e;simp only[plS]at this;simp[plS,Zj,b,a,this]
theorem Qea{w:Str}{r:MH}{D:List (Key×W)}{R N T:List W}(e:Qr C [.ref 0,.str w] (hp C zz fh q D R N T iu gd rest)=some (.non,r)):plA C (plS (.back w)) (hp C zz fh q D R N T iu gd rest)=some (.nx (plS (.back w)) r):=by
 have a:Qv (ln (.back w))=.tup [.str "back",.str w]:=rfl;have:=Qi9 (C:=C) (zz:=zz) (fh:=fh) (q:=q) (D:=D) (R:=R) (N:=N) (T:=T) (iu:=iu) (gd:=gd) (rest:=rest) (σ:=[some (.ref 0),some (.tup [.str "back",.str w])]) (m:="give_back") (n:=2) (mo:=Qb 0) (ms:=Qa (Qc wIx (Qb 1) (mC (.int 1))) Qd) (as:=[.str w]) (g:=Qr C) rfl (by simp) (by simp) rfl e;simp[plS,a,this]
noncomputable def upO(f:Str->Option Nat)(v:Option Nat):Option Str->Str->Option Nat
 |none=>f
 |some x=>up f x v
theorem Qac{l:Li}{rs:List Ro}{f:Str->Option Nat}{N T:List W}(c:∀y∈bx l,y∈bs)(p:bs.length<=900)(o:∀x k,f x=some k->k<rs.length)(a:∀x w y z,l=.pair x w y z->0<rs.length) :
  plB C (plS l) (hp C zz fh q (dcE bs f) (rs.map Q1) N T iu gd rest)=some (.nx (plS l) (hp C zz fh q (dcE bs (upO f (We rs f l) (QfF l))) (rs.map Q1) N T iu gd rest)):=by
 have b:∀h,Vg [Qv (ln l)] h=some (oS (QfF l),h):=fun h=>QcV;have j:=QdD (l:=l) (rs:=rs) (f:=f) (bs:=bs) (h:=hp C zz fh q (dcE bs f) (rs.map Q1) N T iu gd rest) (n:=2) (m:=1) rfl rfl c o a;have d:(dcE bs f).length<sizeLine:=by unfold dcE;rw[Nw];exact szG (by lia)
 cases e:QfF l with
 |none=>simp[plS,b,e,oS,upO]
 |some x=>
  have g:x∈bs:=c x (by cases l<;>simp[QfF]at e<;>subst e<;>simp[bx]);have pt:=Qi6 (f:=f) (v:=We rs f l) g;simp[plS,b,e,oS,upO,j,d,pt]
theorem HOk.next(H:HOk zz i S use fh fr iu gd q rest){a:Sh}(h1:a.rooms=S.rooms)(h2:a.gone=S.gone)(h:a.nums=S.nums)(ok:OkS (i+1) a):HOk zz (i+1) a use fh fr iu gd q rest:=by
 obtain⟨d,gone,f,words,nums⟩:=S;obtain⟨c,g,j,b,e⟩:=a;simp only at h1 h2 h;subst h1 h2 h;exact⟨Qmx H.B,ok,H.hfr,H.hno,H.hiu,H.hij,H.hgd,N0 H.hil,by have:=H.hgl;lia⟩
theorem Qfn{l:Li}(H:HOk zz i S use fh fr iu gd q rest)(X:i<=800)(hz:zz<=50)(r:∀y∈bx l,y∈bs)(n:bs.length<=900)(L:Z3 S zz l=none) :
  ∃b g j c d o a,Qp C [.ref 0,Qv (ln l)] (hpS C zz bs S fh iu gd q rest)=some (.non,hpS C zz bs (Qo zz S l) g c d o a)/\HOk zz (i+1) (Qo zz S l) b g j c d o a:=by
 have fin:∀{s B:MH},plA C (plS l) (hpS C zz bs S fh iu gd q rest)=some (.nx (plS l) s)->plB C (plS l) s=some (.nx (plS l) B)->Qp C [.ref 0,Qv (ln l)] (hpS C zz bs S fh iu gd q rest)=some (.non,B):=fun u Q=>by
  show UA (Qh (plA C) (plB C) (plS l) _)=_;rw[QA u Q];rfl
 have ok:=H.ok;have M:=ok.rl;have p:∀{v:List Ro},Kb l=false->∀x w y z,l=.pair x w y z->0<v.length:=fun h x w y z e=>by rw[e]at h;cases h
 have plain:(wrd l==("tell":Str))=false->(wrd l==("pair":Str))=false->(wrd l==("back":Str))=false->∀m:Sh,Qo zz S l=m->m.rooms=S.rooms->m.gone=S.gone->m.nums=S.nums->m.words=S.words->m.f=upO S.f (We S.rooms S.f l) (QfF l) ->
   ∃b g j c d o a,Qp C [.ref 0,Qv (ln l)] (hpS C zz bs S fh iu gd q rest)=some (.non,hpS C zz bs (Qo zz S l) g c d o a)/\HOk zz (i+1) (Qo zz S l) b g j c d o a:=by
  intro J F I m A s B G P O;refine⟨use,fh,fr,iu,gd,q,rest,?_,H.next (by rw[A,s]) (by rw[A,B]) (by rw[A,G]) (VO ok l)⟩;rw[fin (Qg6 J F I) (Qac r n ok.f (p (by rw[<-wrd_pair];exact F)))];rw[A];show _=some (W.non,hp C zz fh q (dcE bs m.f) (m.rooms.map Q1) (m.nums.map .int) (m.words.map .str) iu gd rest);rw[s,G,P,O]
 cases l with
 |pair x w y z=>
  obtain⟨b,g,j,c,a,u,E⟩:=QfL (C:=C) (bs:=bs) (x:=x) (w:=w) (y:=y) (z:=z) H (by lia) (r y (by simp[bx])) (r z (by simp[bx])) (W3 L);refine⟨b,g,j,c,gd,q,a,?_,E⟩;have t:=Qac (C:=C) (zz:=zz) (fh:=g) (q:=q) (iu:=c) (gd:=gd) (rest:=a) (bs:=bs) (l:=.pair x w y z) (rs:=(Qo zz S (.pair x w y z)).rooms) (f:=S.f) (N:=(Qo zz S (.pair x w y z)).nums.map .int) (T:=S.words.map .str) r n (fun x k e=>by have:=ok.f x k e;simp[Qo];lia) (fun _ _ _ _ _=>by simp[Qo]);rw[fin (QcL (by rfl) (by rfl) u) t];simp[Qo,We,QfF,upO,hpS]
 |back w=>
  obtain⟨b,j,c,d,o,a,u,E⟩:=QeV (C:=C) (D:=dcE bs S.f) (R:=S.rooms.map Q1) (T:=S.words.map .str) (w:=w) H (by lia) hz;refine⟨b,fh,j,c,d,o,a,?_,E⟩;have t:=Qac (C:=C) (zz:=zz) (fh:=fh) (q:=o) (iu:=c) (gd:=d) (rest:=a) (bs:=bs) (l:=.back w) (rs:=S.rooms) (f:=S.f) (N:=S.nums.map .int) (T:=S.words.map .str) r n ok.f (p rfl);rw[fin (Qea u) t];rfl
 |tell x=>
  have U:=ok.tl;refine⟨use,fh,fr,iu,gd,q,rest,?_,H.next rfl rfl rfl (VO ok (.tell x))⟩;have t:=Qac (C:=C) (zz:=zz) (fh:=fh) (q:=q) (iu:=iu) (gd:=gd) (rest:=rest) (bs:=bs) (l:=.tell x) (rs:=S.rooms) (f:=S.f) (N:=S.nums.map .int) (T:=(S.words++[wdT S.rooms (S.f x)]).map .str) r n ok.f (p rfl);rw[fin (QcR (r x (by simp[bx])) (ok.f x) (by lia)) t];rfl
 |_=>exact plain rfl rfl rfl _ rfl rfl rfl rfl rfl rfl
end
theorem Qen{m:FM}{ws us vs:List W}{a b:W}{i j:Nat}{g h:MH}(hp:ZL ws=true)(e:m ws []=some (.tup [a,b,.ref i,.ref j],g))(u:pur a=true)(t:pur b=true)(s:g[i]?=some (.lst us))(q:g[j]?=some (.lst vs))(hu:ZL us=true)(n:ZL vs=true):box frN m ws h=some (.tup [a,b,.lst us,.lst vs],h):=by
 have hr:XW 0 ws=some (ws,[]):=by
  generalize 0=k;clear e
  induction ws with
  |nil=>rfl
  |cons a r l=>
   unfold ZL at hp;rw[NB]at hp;have:=l hp.2;cases a<;>first|(unfold pur at hp;cases hp.1;done)|(unfold XW;rw[if_pos hp.1,this];rfl)
 have:=UI (m:=m) (h:=h) (ns:=[]) (os:=[]) (os':=[]) (g:=g) (as:=ws) (args:=ws) (w':=.tup [a,b,.lst us,.lst vs]) hr En rfl e rfl (fun o p=>nomatch p) (by
  have d:res (Yf [] [] h.length) g 3 i=some (.lst us):=by
   unfold res;simp only[Yf,Fv,Fw,FW,s];rw[ZS _ us hu];rfl
  have c:res (Yf [] [] h.length) g 3 j=some (.lst vs):=by
   unfold res;simp only[Yf,Fv,Fw,FW,q];rw[ZS _ vs n];rfl
  rw[D8];simp only[th,ths,YO _ a u,YO _ b t,d,c]
  rfl)
 rw[KC]at this;exact this
@[simp]theorem Qls{C:Addr}{f:Str}{mo a:ME}{σ:MSt}{h:MH}:Xp C f mo a σ h=@ob _ _ (fun v=>@ob _ _ (fun o=>Xb C f o.1 v.1 σ o.2) (mo σ v.2)) (a σ h):=id rfl
theorem Qkp{C:Addr}{f:Str}{v:W}{σ:MSt}{fs:List (Str×W)}{r:MH}(a:fs.length<1000):Xb C f (.ref 0) v σ (.ins C fs::r)=some (.nx σ (.ins C (QfQ f v fs)::r)):=by
 unfold Xb G8;simp only[ET,if_true,Nj];rw[if_pos a];rfl
noncomputable def S0:Sh:=⟨[],[],fun _=>none,[],[]⟩
theorem QfT{C:Addr}{zz:Nat}{p:List Pr}{B:List Str}(a:GP B p):Qu C [.ref 0,Q2 (pp p),.int zz] [.ins C []]=some (.non,hpS C zz (BX p) S0 0 [] [] 0 [.lst []]):=by
 have d:=QiN a
 have f:∀h,Jh XL (Jw (Ql 1 Jx (Qa (Qb 1) Qd))) [none] (ZU 0) Yk (mFn Q4 (Qa (Qb 0) (Qa (mC .non) Qd))) [some (.ref 0),some (Q2 (pp p)),some (.int zz)] h=some (.lst ((BX p).map fun b=>.tup [.str b,.non]),h):=fun h=>by
  have g:∀h,Jx [Q2 (pp p)] h=some (.lst ((BX p).map .str),h):=fun h=>QfI a;rw[Wd (caps:=[]) (items:=(BX p).map .str) (fun w=>.tup [w,.non])]
  ·simp[XL,E9]
  ·unfold Jw;simp[g,GJ]
  ·exact⟨_,rfl⟩
  ·intro w hw;simp
  ·rw[Nw];exact ND (szG (by lia))
 have e:=fun h=>QkS (h:=h) (Qhb p) d;simp[Qu,QI,f,e,Qkp,QfQ,hpS,hp,S0,fld]
noncomputable abbrev osS(p:List Pr)(cs:List Nat)(zz:Nat)(run:List Spt)(a b c:Option W):MSt:=[some (Q2 (pp p)),some (.lst (Vn cs)),some (.int zz),some (.lst (run.map QJ)),some (.ref 0),a,b,c]
theorem XV {C:Addr} {zz n:Nat} {p:List Pr} {cs:List Nat} {run:List Spt} {items:List W} (hn:n<=790) (hz:zz<=50) (J:(BX p).length<=5) (O:∀s∈run,SpV p s) (B:∀s∈run,∀l,Zl p s=some l->∀y∈bx l,y∈BX p) :
    ∀(r:List (Option Li)) (j:Nat) (S:Sh) (use:Str->List Nat) (fh:Nat) (L:List Int) (iu gd:List (Key×W)) (q:Nat) (rest:MH) (a b c:Option W),HOk zz j S use fh L iu gd q rest->j+r.length=n->(∀(k:Nat) (o:Option Li),r[k]?=some o->∃s,run[j+k]?=some s/\Zl p s=o) ->
    ∃ (v:Sh) (m:Nat) (e g:List (Key×W)) (u:Nat) (d:MH) (w:Str) (k:Nat),sim zz r j S=(w,k,v.words,v.nums) /\
      ((∃a' b' c',Jg items none (ZU 5) (ZF C) ((List.range r.length).map fun(i:Nat)=>W.int ((j:Int)+i)) (osS p cs zz run a b c) (hpS C zz (BX p) S fh iu gd q rest)=some (.nx (osS p cs zz run a' b' c') (hpS C zz (BX p) v m e g u d))/\w="told"/\k=n) \/
       Jg items none (ZU 5) (ZF C) ((List.range r.length).map fun(i:Nat)=>W.int ((j:Int)+i)) (osS p cs zz run a b c) (hpS C zz (BX p) S fh iu gd q rest)=some (.rt (.tup [.str w,.int k,.ref 4,.ref 3]) (hpS C zz (BX p) v m e g u d)))
  |[],j,S,use,fh,L,iu,gd,q,rest,a,b,c,H,Q,_=>⟨S,fh,iu,gd,q,rest,"told",j,rfl,.inl ⟨a,b,c,Wv,rfl,by simpa using Q⟩⟩
  | o::r,j,S,use,fh,L,iu,gd,q,rest,a,b,c,H,Q,hr=>by
    rw[Nz]at Q;obtain⟨s,P,I⟩:=hr 0 o rfl;rw[FI]at P;have F:s∈run:=NA.mpr ⟨j,P⟩;have M:∀h,ZQ [Q2 (pp p),QJ s] h=some (oL o,h):=fun h=>by rw[<-I];exact Qet (O s F)
    have Z:atI (run.map QJ) (j:Int)=some (QJ s):=by rw[Qs,Nq,P];rfl
    have G:∀(k:Nat) (o:Option Li),r[k]?=some o->∃s,run[j+1+k]?=some s/\Zl p s=o:=fun k o h=>by
      have:=hr (k+1) o (by simpa using h);rw[show j+1+k=j+(k+1) by lia];exact this
    have hit:(List.range (o::r).length).map (fun(i:Nat)=>W.int ((j:Int)+i))=.int j::(List.range r.length).map fun(i:Nat)=>W.int (((j+1:Nat):Int)+i):=by
      rw[Nz,EE];simp[E9];intro i _;lia
    rw[hit];cases o with
    | none=>
      have e1:ZF C (osS p cs zz run (some (.int j)) b c) (hpS C zz (BX p) S fh iu gd q rest)=some (.nx (osS p cs zz run (some (.int j)) (some .non) c) (hpS C zz (BX p) S fh iu gd q rest)):=by
        simp[osS,Z,M,oL]
      have H':HOk zz (j+1) S use fh L iu gd q rest:=H.next rfl rfl rfl ⟨N0 H.ok.rl,H.ok.gl,H.ok.nl,N0 H.ok.tl,H.ok.f,H.ok.a⟩;obtain⟨v,m,e,g,u,d,w,k,T,R⟩:=XV (items:=items) hn hz J O B r (j+1) S use fh L iu gd q rest (some (.int j)) (some .non) c H' (by lia) G;refine⟨v,m,e,g,u,d,w,k,T,?_⟩;rw[Xs (σ1:=osS p cs zz run (some (.int j)) b c) rfl e1];exact R
    | some l=>
      have hb:=B s F l I;have e2:=QiM (C:=C) H hb;have nl:Vm (Qv (ln l))=false:=rfl;have em:∀x z,K5 C "bar" 2 (QM C) (Qb 4) (Qa (Qb 6) Qd) (osS p cs zz run x (some (Qv (ln l))) z) (hpS C zz (BX p) S fh iu gd q rest)=some (QeY (Z3 S zz l),hpS C zz (BX p) S fh iu gd q rest):=fun x z=>Qi9 (as:=[Qv (ln l)]) rfl (by simp[osS]) (by simp[osS]) rfl e2;simp only[oL]at M;cases t:Z3 S zz l with
      | some w=>
        rw[t]at em;simp only[QeY,osS]at em;refine⟨S,fh,iu,gd,q,rest,w,j,by rw[sim,t],.inr ?_⟩;refine WB (σ1:=osS p cs zz run (some (.int j)) b c) rfl ?_;simp[osS,Z,M,nl,em]
      | none=>
        rw[t]at em;simp only[QeY,osS]at em;obtain⟨E,m,X,e,g,u,d,e3,H'⟩:=Qfn (C:=C) (bs:=BX p) H (by lia) hz hb (by lia) t;have ep:∀x z,K5 C "pass_line" 2 (Qp C) (Qb 4) (Qa (Qb 6) Qd) (osS p cs zz run x (some (Qv (ln l))) z) (hpS C zz (BX p) S fh iu gd q rest)=some (.non,hpS C zz (BX p) (Qo zz S l) m e g u d):=fun x z=>Qi9 (as:=[Qv (ln l)]) rfl (by simp[osS]) (by simp[osS]) rfl e3;simp only[osS]at ep
        have e1:ZF C (osS p cs zz run (some (.int j)) b c) (hpS C zz (BX p) S fh iu gd q rest)=some (.nx (osS p cs zz run (some (.int j)) (some (Qv (ln l))) (some .non)) (hpS C zz (BX p) (Qo zz S l) m e g u d)):=by
          simp[osS,Z,M,nl,em,ep]
        obtain⟨v,Y,N,U,q2,A,w,k,T,R⟩:=XV (items:=items) hn hz J O B r (j+1) (Qo zz S l) E m X e g u d (some (.int j)) (some (Qv (ln l))) (some .non) H' (by lia) G;refine⟨v,Y,N,U,q2,A,w,k,by rw[sim,t];exact T,?_⟩;rw[Xs (σ1:=osS p cs zz run (some (.int j)) b c) rfl e1];exact R
noncomputable def Qg0(r:Str×Nat×List Str×List Int):W:=.tup [.str r.1,.int r.2.1,.lst (r.2.2.1.map .str),.lst (r.2.2.2.map .int)]
theorem U6{k:Key}:Jk [] k=none:=rfl
theorem H0(zz:Nat):HOk zz 0 S0 (fun _=>[]) 0 [] [] [] 0 [.lst []] where
 B:=⟨fun w=>rfl,.nil,(fun n a=>nomatch a),(fun n a=>by simp[tkn,S0]at a),(fun n d c=>by lia),(fun j k n h=>by simp[S0]at h),NT _⟩
 ok:=⟨Nn _,rfl,rfl,Nn _,(fun x n h=>nomatch h),fun k r n h=>by simp[S0]at h⟩
 hfr:=rfl
 hno:=fun _ _=>rfl
 hiu:=fun w v h=>by rw[U6]at h;cases h
 hij:=fun w b v h=>by rw[U6]at h;cases h
 hgd:=fun k=>by rw[U6];simp[S0]
 hil:=Nn _
 hgl:=Nn _
noncomputable def Ju(p:List Pr)(run:List Spt):List (Option Li):=run.dropLast.map (Zl p)
theorem Qao{C:Addr}{nm:Str}{ls:List Li}{B:List Str}{zz:Nat}{cs:List Nat}{a:List Spt}(G:GP B [(nm,ls)])(S:Shp ls)(g:Go ls (sp0 0) cs a)(d:a.length<=790)(hz:zz<=50)(h:MH) :
  VY C [Q2 (pp [(nm,ls)]),.lst (Vn cs),.int zz] h=some (Qg0 (sim zz (Ju [(nm,ls)] (sp0 0::a)) 0 S0),h):=by
 have v0:SV ls (sp0 0):=⟨rfl,rfl,NT _,by simp[sp0]⟩
 have q:∀s∈sp0 0::a,SV ls s:=fun s b=>by
  rcases Nx.mp b with rfl|b
  ·exact v0
  ·exact Qm0 S g v0 s b
 obtain⟨v,E⟩:=Qiz (nm:=nm) S g (by lia) [];have e:(Ju [(nm,ls)] (sp0 0::a)).length=a.length:=by simp[Ju]
 obtain⟨L,D,u,A,H,f,w,k,J,t⟩:=XV (C:=C) (cs:=cs) (zz:=zz) (n:=a.length) (p:=[(nm,ls)]) (run:=sp0 0::a) (items:=Qw 0 a.length) d hz (QiN G) (fun s b=>by
   have:=q s b;exact⟨(nm,ls),by rw[this.p];rfl,this.k⟩) (fun s b l d y I=>by
   rw[BX_mem];refine⟨l,?_,I⟩;have hp:=(q s b).p;unfold Zl at d;split at d
   ·cases d
   ·rw[hp]at d;have d:ls[s.k]?=some l:=d;simp[als];exact NA.mpr ⟨s.k,d⟩) (Ju [(nm,ls)] (sp0 0::a)) 0 S0 (fun _=>[]) 0 [] [] [] 0 [.lst []] none none none (H0 zz) (by rw[e];lia) (fun j o z=>by
   unfold Ju at z;rw[Nq]at z;obtain⟨s,b,rfl⟩:=Nf.mp z;rw[List.getElem?_dropLast]at b;split at b
   ·exact⟨s,by rw[NZ];exact b,rfl⟩
   ·cases b)
 rw[e]at t;have x:(List.range a.length).map (fun(i:Nat)=>W.int (((0:Nat):Int)+i))=Qw 0 a.length:=rfl;rw[x]at t
 have r:Qds C 3 (Qu C) (Qa (Qb 0) (Qa (Qb 2) Qd)) [some (Q2 (pp [(nm,ls)])),some (.lst (Vn cs)),some (.int zz),some (.lst ((sp0 0::a).map QJ)),none,none,none,none] []=some (.ref 0,hpS C zz (BX [(nm,ls)]) S0 0 [] [] 0 [.lst []]):=by
  unfold Qds;simp only[Qhw,GM,Qis,Wl,QkH,Nj];rw[if_pos (show[Q2 (pp [(nm,ls)]),W.int zz].length+1=3 from rfl)];show(Qu C [.ref 0,Q2 (pp [(nm,ls)]),.int zz] [.ins C []]).bind _=_;rw[QfT G,Nj];rfl
 have m:V9 (Qa (Qc QbX (mFn VN (Qa (Qb 3) Qd)) (mC (.int 1))) Qd) (osS [(nm,ls)] cs zz (sp0 0::a) none none none) (hpS C zz (BX [(nm,ls)]) S0 0 [] [] 0 [.lst []])=some (Qw 0 a.length,none,hpS C zz (BX [(nm,ls)]) S0 0 [] [] 0 [.lst []]):=Qfd (by simp[osS]) (by lia)
 have fin:Z7 C [Q2 (pp [(nm,ls)]),.lst (Vn cs),.int zz] []=some (.tup [.str w,.int k,.ref 4,.ref 3],hpS C zz (BX [(nm,ls)]) L D u A H f):=by
  have c:((sp0 0::a).map QJ).length=a.length+1:=by simp
  simp only[osS]at m t;generalize(sp0 0::a).map QJ=X at *;have M:(QP 3 (Qc wIx (Ql 2 Xh (Qa (Qb 0) (Qa (Qb 1) Qd))) (mC (.int 0)))) [some (Q2 (pp [(nm,ls)])),some (.lst (Vn cs)),some (.int zz),none,none,none,none,none] []=some (.nx [some (Q2 (pp [(nm,ls)])),some (.lst (Vn cs)),some (.int zz),some (.lst X),none,none,none,none] []):=by simp[E]
  rcases t with⟨P,O,N,F,rfl,rfl⟩|F
  ·simp[Z7,QI,E,r,Vv,m,F,c]
  ·simp[Z7,QI,E,r,Vv,m,F,c]
 rw[J];refine Qen (by simp) fin (by simp) (by simp) Qm2 Qm5 (by simp) (by simp)
theorem Qgx{p:List Pr}{s:Spt}(i:SpV p s){h:MH}:Zk [Q2 (pp p),QJ s] h=some (oL (Zl p s),h):=by
 obtain⟨x,a,j⟩:=i;refine QF (g:=[]) (by simp) ?_ (by simp);obtain⟨f,part,k,head⟩:=s;have b:=Qef a;simp only at b a j;cases head with
 |true=>simp[Q7,QI,QJ,Q2,b,Ym,Zl,oL,XN,Wo]
 | false=>
  by_cases e:k=x.2.length
  ·subst e;have d:x.2[x.2.length]?=none:=NF (Nn _);simp[Q7,QI,QJ,Q2,b,Ym,Zl,a,d,oL,XN,Wo]
  ·have c:k<x.2.length:=by lia
   have d:x.2[k]?=some x.2[k]:=Ni c;have ne:¬(k:Int)=x.2.length:=by lia
   simp[Q7,QI,QJ,Q2,b,Ym,Zl,a,d,oL,e,ne,Qs,XN,Wo]
@[simp]theorem Qjw{bs:List Bool}:ZL (bs.map .bl)=true:=by
 induction bs with
 |nil=>rfl
 |cons n b a=>simp[a]
theorem WO{ns:List Int}:Km (ns.map .int)=true:=Jo fun _=>rfl
theorem W4{ns:List Int}:Yp (ns.map .int)<=1:=Xc fun _=>Nn _
theorem Qcl{i:Int}{l:List Int}{h:MH}:wIn true (.int i) (.lst (l.map .int)) h=some (.bl (!decide (i∈l)),h):=by
 rw[QkB rfl WO (by simp[dep]) (Nu W4 (by decide))]
 have:inW (.int i) (l.map .int)=decide (i∈l):=by
  induction l with
  |nil=>rfl
  |cons y l a=>
   unfold inW at a ⊢;rw[Nr,Ez,a];show((y==i) ||_)=_
   by_cases e:y=i
   ·subst e;simp
   ·have b:¬i=y:=fun z=>e z.symm;rw[show(y==i)=false from beq_eq_false_iff_ne.mpr e,L8,F3,decide_eq_true_eq,decide_eq_true_eq,Nx];exact⟨.inr,fun z=>z.elim (fun q=>absurd q b) id⟩
 rw[this];rfl
theorem Wj{items:List W}{src:Option Src}{h:MH}(f:live src items h):∀(ns:List Int) (d:List Bool) (c:List W) (e:MSt),e.length=2->c.length+ns.length<=900 ->
  ZN XL items src (XN [0,1]) (KM (YK (Qb 1))) (Qb 0) (GZ (ns.map .int) (d.map .bl)) c e h=some (.lst (c++(((ns.zip d).filter fun p=>!p.2).map (·.1)).map .int),h)
 |[],d,c,e,_,_=>by
  simp only[Em,GZ,List.zip_nil_left,ZN];rw[if_pos f];simp[XL]
 |_::_,[],c,e,_,_=>by
  simp only[Em,GZ,List.zip_nil_right,ZN];rw[if_pos f];simp[XL]
 | n::ns,g::d,c,e,j,l=>by
  have hz:GZ ((n::ns).map .int) ((g::d).map .bl)=.tup [.int n,.bl g]::GZ (ns.map .int) (d.map .bl):=rfl
  obtain⟨a,b,rfl⟩:∃a b,e=[a,b]:=by
   match e,j with
   |[a,b],_=>exact⟨a,b,rfl⟩
  rw[hz,ZN,if_pos f];have o:XN [0,1] (.tup [.int n,.bl g]) [a,b] h=some [some (.int n),some (.bl g)]:=rfl;have m:KM (YK (Qb 1)) [some (.int n),some (.bl g)] h=some (!g,h):=by simp
  rw[Nz]at l;rw[o,Nj,m,Nj];cases g with
  |true=>
   show ZN _ _ _ _ _ _ _ _ _ _=_;rw[Wj f ns d c _ rfl (by lia)];simp
  |false=>
   show(Qb 0 [some (.int n),some (.bl false)] h).bind _=_;rw[GM,Nj];have i:c.length<sizeLine:=szG (by lia);rw[if_pos i];show ZN XL items src (XN [0,1]) (KM (YK (Qb 1))) (Qb 0) (GZ (ns.map .int) (d.map .bl)) (c++[.int n]) [some (.int n),some (.bl false)] h=_;rw[Wj f ns d (c++[W.int n]) [some (.int n),some (.bl false)] rfl (by simp;lia)];simp
theorem QbF{items:List W}{b:MG}{body:SM}(P:Nat->MSt->MH->Prop)(v:W)(c:MH):∀(r:List W) (n m:Nat) (σ:MSt) (h:MH),P n σ h->m<r.length ->
  (∀(j:Nat) (w:W),j<m->r[j]?=some w->∀σ h,P (n+j) σ h->∃σ1,b w σ h=some σ1/\∃σ2 h2,body σ1 h=some (.nx σ2 h2)/\P (n+j+1) σ2 h2) ->
  (∀w,r[m]?=some w->∀σ h,P (n+m) σ h->∃σ1,b w σ h=some σ1/\body σ1 h=some (.rt v c))->Jg items none b body r σ h=some (.rt v c)
 |[],n,m,σ,h,_,d,_,_=>by simp at d
 |w::r,n,0,σ,h,hp,_,_,e=>by
  obtain⟨σ1,g,f⟩:=e w rfl σ h hp;rw[Jg,if_pos (Zu _ _),g,Nj,f];rfl
 | w::r,n,m+1,σ,h,hp,d,i,e=>by
  obtain⟨σ1,g,σ2,h2,f,l⟩:=i 0 w (by lia) rfl σ h hp;rw[Jg,if_pos (Zu _ _),g,Nj,f]
  exact QbF (items:=items) (b:=b) (body:=body) P v c r (n+1) m σ2 h2 l (by simpa using d) (fun j x o a σ h hp=>by
   have:=i (j+1) x (by lia) (by simpa using a) σ h (by rw[show n+(j+1)=n+1+j by lia];exact hp);rw[show n+(j+1)+1=n+1+j+1 by lia]at this
   exact this) (fun x a σ h hp=>e x (by simpa using a) σ h (by rw[show n+(m+1)=n+1+m by lia];exact hp))
theorem QgI{S:Sh}{zz:Nat}{h:MH}{a b:Nat}(t:a≠b)(h1:h[a]?=some (.lst (S.nums.map .int)))(h2:h[b]?=some (.lst (S.gone.map .bl)))(hz:zz<=50)(F:S.nums.length<=800):JK [.ref a,.ref b,.int zz] h=some (oN (frL S zz),h):=by
 refine Gv (as:=[.ref 0,.ref 1,.int zz]) (ns:=[a,b]) (os:=[.lst (S.nums.map .int),.lst (S.gone.map .bl)]) (g:=[]) (by simp[XW]) (by simp[t]) (by simp[Zt,QaH,h1,h2]) ?_ (by simp);have D:Qdq (Qa (Qb 0) (Qa (Qb 1) Qd)) [some (.ref 0),some (.ref 1),some (.int zz),none,none] [.lst (S.nums.map .int),.lst (S.gone.map .bl)]=some (GZ (S.nums.map .int) (S.gone.map .bl),some (.z 0 1 (S.nums.map W.int).length (S.gone.map W.bl).length),[.lst (S.nums.map .int),.lst (S.gone.map .bl)]):=rfl
 have p:live (some (.z 0 1 (S.nums.map W.int).length (S.gone.map W.bl).length)) (GZ (S.nums.map .int) (S.gone.map .bl)) [.lst (S.nums.map .int),.lst (S.gone.map .bl)]:=fun s B=>by
  cases B;exact⟨_,_,rfl,rfl,rfl,rfl,rfl⟩
 have v:Jh XL (Qdq (Qa (Qb 0) (Qa (Qb 1) Qd))) [none,none] (XN [0,1]) (KM (YK (Qb 1))) (Qb 0) [some (.ref 0),some (.ref 1),some (.int zz),none,none] [.lst (S.nums.map .int),.lst (S.gone.map .bl)]=some (.lst ((tkn S).map .int),[.lst (S.nums.map .int),.lst (S.gone.map .bl)]):=by
  unfold Jh;rw[D,Nj];exact Wj p S.nums S.gone [] _ rfl (by simp;lia)
 have u:V9 (Qa (Qb 2) Qd) [some (.ref 0),some (.ref 1),some (.int zz),some (.lst ((tkn S).map .int)),none] [.lst (S.nums.map .int),.lst (S.gone.map .bl)]=some (Qw 0 zz,none,[.lst (S.nums.map .int),.lst (S.gone.map .bl)]):=Qfd (by simp) (by lia);have A:(Qw 0 zz).length=zz:=GS;have o:∀{j:Nat} {w:W},(Qw 0 zz)[j]?=some w->w=.int j:=fun {j w} hw=>by have:=(Vt hw).2;simpa using this
 have d:∀(j:Nat) (x:Option W),(j:Int)∈tkn S->ZX [some (.ref 0),some (.ref 1),some (.int zz),some (.lst ((tkn S).map .int)),some (.int j)] [.lst (S.nums.map .int),.lst (S.gone.map .bl)]=some (.nx [some (.ref 0),some (.ref 1),some (.int zz),some (.lst ((tkn S).map .int)),some (.int j)] [.lst (S.nums.map .int),.lst (S.gone.map .bl)]):=fun j x r=>by simp[Qcl,r]
 cases l:frL S zz with
 | some m=>
  unfold frL at l;rw[FN]at l;obtain⟨g1,g2,g3⟩:=l;have g2:m<zz:=by simpa using g2
  have C:¬(m:Int)∈tkn S:=by simpa using g1
  have c:=QbF (items:=Qw 0 zz) (b:=ZU 4) (body:=ZX) (fun n i h=>∃x,i=[some (.ref 0),some (.ref 1),some (.int zz),some (.lst ((tkn S).map .int)),x]/\h=[.lst (S.nums.map .int),.lst (S.gone.map .bl)]) (.int m) [.lst (S.nums.map .int),.lst (S.gone.map .bl)] (Qw 0 zz) 0 m [some (.ref 0),some (.ref 1),some (.int zz),some (.lst ((tkn S).map .int)),none] [.lst (S.nums.map .int),.lst (S.gone.map .bl)] ⟨_,rfl,rfl⟩ (by rw[A];exact g2) (by
   rintro j w r hw i h ⟨x,rfl,rfl⟩
   have:=o hw;subst this;have f:(j:Int)∈tkn S:=by have:=g3 j r;simpa using this
   exact⟨_,rfl,_,_,d j x f,_,rfl,rfl⟩) (by
   rintro w hw i h ⟨x,rfl,rfl⟩
   have:=o hw;subst this
   exact⟨_,rfl,by simp[Qcl,C]⟩)
  simp[Jf,QI,v,Vv,u,c,oN]
 | none=>
  unfold frL at l;rw[Fi]at l
  have c:=Vh (items:=Qw 0 zz) (b:=ZU 4) (body:=ZX) (fun n i h=>∃x,i=[some (.ref 0),some (.ref 1),some (.int zz),some (.lst ((tkn S).map .int)),x]/\h=[.lst (S.nums.map .int),.lst (S.gone.map .bl)]) (Qw 0 zz) 0 [some (.ref 0),some (.ref 1),some (.int zz),some (.lst ((tkn S).map .int)),none] [.lst (S.nums.map .int),.lst (S.gone.map .bl)] ⟨_,rfl,rfl⟩ (by
   rintro j w hw i h ⟨x,rfl,rfl⟩
   have q:=(Vt hw).1;have:=o hw;subst this;have f:(j:Int)∈tkn S:=by have:=l j (by simpa using q);simpa using this
   exact⟨_,rfl,_,_,.inl (d j x f),_,rfl,rfl⟩)
  obtain⟨y,G,e,x,rfl,rfl⟩:=c;simp[Jf,QI,v,Vv,u,e,oN]
structure BD(bd:List (Key×W))(f:Str->Option Nat)(i:Nat):Prop where
 va:∀x,(Jk bd (.inr x)).getD .non=oN (f x)
 p:ZL (bd.map (·.2))=true
 l:bd.length<=i
@[simp]theorem Ql0{a:W}{x:Str}{h:MH}:VS a [.str x] h=@ob _ _ (fun kvs=>some ((Jk kvs (.inr x)).getD .non,h)) (Qak h a):=id rfl
theorem QdB:∀{kvs:List (Key×W)} {k:Key} {v:W},ZL (kvs.map (·.2))=true->pur v=true->ZL ((Vp kvs k v).map (·.2))=true:=by
 intro kvs k v a b;unfold Vp;split
 ·rename_i d;clear d
  induction kvs with
  |nil=>rfl
  |cons p r c=>
   simp only[Nr,Ga,NB]at a;rw[Nr,Nr,Ga,c a.2,Fj];split
   ·exact b
   ·exact a.1
 ·simp only[ER,QhU,a,Nr,Em,Ga,b,QiY];rfl
theorem BD.put{v:Option Nat}(B:BD bd f i):BD (Vp bd (.inr x) (oN v)) (up f x v) (i+1) where
 va:=fun y=>by
  by_cases e:y=x
  ·subst e;rw[QO];simp[up]
  ·rw[QL _ _ (fun z=>e (Eg z)),B.va y];simp[up,e]
 p:=QdB B.p (by simp)
 l:=Nu (Wg _ _ _) (LC B.l)
theorem BD.val(B:BD bd f i)(h:f x=some n):Jk bd (.inr x)=some (.int n):=by
 have:=B.va x;rw[h]at this;cases e:Jk bd (.inr x)with
 |none=>rw[e]at this;cases this
 |some w=>rw[e]at this;exact congrArg some this
noncomputable def QjV:Li->Option Int
 |.first _ _|.second _ _=>some 2
 |.tell _=>some 1
 |_=>none
noncomputable def d3:List (Key×W):=Qa7 [] ([(("first":Str),(2:Int)),("second",2),("tell",1)].map fun p=>(.inr p.1,.int p.2))
theorem Qie{l:Li}:(Jk d3 (.inr (wrd l))).getD .non=(match QjV l with|some i=>.int i|none=>.non):=by cases l<;>rfl
theorem Qjb{σ:MSt}{h:MH}:Qfe [("first",2),("second",2),("tell",1)] σ h=some (.ref h.length,h++[.dic d3]):=rfl
noncomputable def U7(o:Option Str):Str:=o.getD ""
theorem QgN{S:Sh}{zz i:Nat}{l:Li}{h:MH}{bd:List (Key×W)}{a b c:Nat}(ok:OkS i S)(B:BD bd S.f i)(q:a≠b/\a≠c/\b≠c)(h1:h[a]?=some (.lst (S.rooms.map Q1)))(h2:h[b]?=some (.lst (S.gone.map .bl)))(z:h[c]?=some (.dic bd)) :
  JG [Qv (ln l),.ref a,.ref b,.ref c,oN (frL S zz)] h=some (.str (U7 (Z3 S zz l)),h):=by
 refine Gv (as:=[Qv (ln l),.ref 0,.ref 1,.ref 2,oN (frL S zz)]) (ns:=[a,b,c]) (os:=[.lst (S.rooms.map Q1),.lst (S.gone.map .bl),.dic bd]) (g:=[.dic d3]) (by unfold Qv;cases frL S zz<;>simp[XW,oN]) (by simp[q.1,q.2.1,q.2.2]) (by simp[Zt,QaH,h1,h2,z,B.p]) ?_ (by simp);have r:=Qie (l:=l)
 have tail:J4 S (rdF S l)=false->U7 (Z3 S zz l)=if Kb l=true/\frL S zz=none then"full"else"":=fun d=>by
  unfold Z3;rw[d,if_neg (by simp)];split<;>rfl
 have last:∀w,J4 S (rdF S l)=false->UA (Qh (Q9 (Z8 (Qg (Qc wEq (Qc wIx (Qb 0) (mC (.int 0))) (mC (.str "pair")))) (Qg (Qc wIs (Qb 4) (mC .non)))) (Zg (mC (.str "full"))) Qx) (Zg (mC (.str ""))) [some (Qv (ln l)),some (.ref 0),some (.ref 1),some (.ref 2),some (oN (frL S zz)),some w] [.lst (S.rooms.map Q1),.lst (S.gone.map .bl),.dic bd,.dic d3])=some (.str (U7 (Z3 S zz l)),[.lst (S.rooms.map Q1),.lst (S.gone.map .bl),.dic bd,.dic d3]):=fun w d=>by
  rw[tail d];cases hw:(wrd l==("pair":Str))with
  |false=>
   have:=wrd_pair (l:=l);rw[hw]at this;simp[Zj,hw,<-this]
  |true=>
   have:=wrd_pair (l:=l);rw[hw]at this;cases frL S zz<;>simp[Zj,hw,<-this,oN]
 cases hr:QjV l with
 |none=>
  have d:J4 S (rdF S l)=false:=by cases l<;>simp[QjV]at hr<;>rfl
  have:=last .non d;rw[hr]at r;simp[Zr,QI,Qjb,Zj,r]at this ⊢;exact this
 | some j=>
  obtain⟨y,o,m⟩:∃y,rdF S l=S.f y/\∀h,wIx (Qv (ln l)) (.int j) h=some (.str y,h):=by
   cases l with
   |first x y=>cases hr;exact⟨y,rfl,fun h=>rfl⟩
   |second x y=>cases hr;exact⟨y,rfl,fun h=>rfl⟩
   |tell x=>cases hr;exact⟨x,rfl,fun h=>rfl⟩
   |_=>cases hr
  have t:=B.va y;rw[hr]at r;cases s:S.f y with
  |none=>
   have d:J4 S (rdF S l)=false:=by rw[o,s];rfl
   have:=last (.int j) d;rw[s]at t;simp[Zr,QI,Qjb,Zj,r,m,t,oN]at this ⊢;exact this
  | some n=>
   have v:=ok.f y n s;rw[<-ok.gl]at v;rw[s]at t;simp only[oN]at t
   have u:atI (S.gone.map W.bl) (n:Int)=some (.bl (S.gone.getD n false)):=by
    rw[Qs,Nq,Ni v];simp[v]
   cases e:S.gone.getD n false with
   |true=>
    have d:J4 S (rdF S l)=true:=by rw[o,s];exact e
    have:U7 (Z3 S zz l)="gone":=by unfold Z3;rw[d,if_pos rfl];rfl
    rw[e]at u;rw[this];simp[Zr,QI,Qjb,Zj,r,m,t,u]
   |false=>
    have d:J4 S (rdF S l)=false:=by rw[o,s];exact e
    have:=last (.int j) d;rw[e]at u;simp[Zr,QI,Qjb,Zj,r,m,t,u]at this ⊢;exact this
theorem XY{x:Str}{h:MH}:wIn false (.str x) (.tup [.str "first",.str "second",.str "same",.str "pair",.str "none"]) h=some (.bl (decide (x∈[("first":Str),"second","same","pair","none"])),h):=by
 have:=QbO (g:=false) (x:=x) (l:=[("first":Str),"second","same","pair","none"]) (h:=h);simpa using this
theorem QkN{h:MH}:KU (.lst [.str "first",.str "second"]) [.str "first"] h=some (.int 0,h):=rfl
theorem QkJ{h:MH}:KU (.lst [.str "first",.str "second"]) [.str "second"] h=some (.int 1,h):=rfl
theorem Qib{d a:ME}{σ:MSt}{h:MH}{b c:Bool}(e:d σ h=some (.bl b,h))(f:a σ h=some (.bl c,h)):mOr d a σ h=some (.bl (b ||c),h):=by
 unfold mOr;rw[e,Nj];cases b with
 |true=>rfl
 |false=>exact f
section
variable{S:Sh}{zz i:Nat}{bd:List (Key×W)}
noncomputable abbrev lsS(l:Li)(a b:Option W):MSt:=[some (Qv (ln l)),some (.ref 0),some (.ref 1),some (.ref 2),some (.ref 3),a,b]
noncomputable abbrev lsH(rs:List Ro)(a:List Bool)(bd:List (Key×W))(ws:List Str):MH:=[.lst (rs.map Q1),.lst (a.map .bl),.dic bd,.lst (ws.map .str)]
noncomputable abbrev st1:SM:=Q9 (Qg (Qc (wIn false) (Qc wIx (Qb 0) (mC (.int 0))) (mFn Q4 (Qa (mC (.str "first")) (Qa (mC (.str "second")) (Qa (mC (.str "same")) (Qa (mC (.str "pair")) (Qa (mC (.str "none")) Qd)))))))) (Qh (Q9 (Qg (Qc wEq (Qc wIx (Qb 0) (mC (.int 0))) (mC (.str "pair")))) (Qh (Zf (mMt "list" QB (Qb 1) (Qa (mFn Q4 (Qa (Qc wIx (Qb 0) (mC (.int 2))) (Qa (mMt "dict" VS (Qb 3) (Qa (Qc wIx (Qb 0) (mC (.int 3))) Qd)) (Qa (mMt "dict" VS (Qb 3) (Qa (Qc wIx (Qb 0) (mC (.int 4))) Qd)) Qd)))) Qd)))
  (Qh (Zf (mMt "list" QB (Qb 2) (Qa (mC (.bl false)) Qd)))
  (QP 5 (Qc QbX (mFn VN (Qa (Qb 1) Qd)) (mC (.int 1)))))) (Q9 (Qg (Qc wEq (Qc wIx (Qb 0) (mC (.int 0))) (mC (.str "same")))) (QP 5 (mMt "dict" VS (Qb 3) (Qa (Qc wIx (Qb 0) (mC (.int 2))) Qd))) (Q9 (Z8 (Qg (Qc wNe (Qc wIx (Qb 0) (mC (.int 0))) (mC (.str "none")))) (Qg (Qc Jy (mMt "dict" VS (Qb 3) (Qa (Qc wIx (Qb 0) (mC (.int 2))) Qd)) (mC .non)))) (QP 5 (Qc wIx (Qc wIx (Qb 1) (Qc UC (Qb 3) (Qc wIx (Qb 0) (mC (.int 2))))) (Qc Zs (mMt "list" KU (mFn Zb (Qa (mC (.str "first")) (Qa (mC (.str "second")) Qd))) (Qa (Qc wIx (Qb 0) (mC (.int 0))) Qd)) (mC (.int 1))))) Qx)))
  (KK (Qb 3) (Qc wIx (Qb 0) (mC (.int 1))) (Qb 5))) Qx
noncomputable abbrev st2:SM:=Q9 (Z8 (Qg (Qc wEq (Qc wIx (Qb 0) (mC (.int 0))) (mC (.str "tell")))) (Qg (Qc wIs (mMt "dict" VS (Qb 3) (Qa (Qc wIx (Qb 0) (mC (.int 1))) Qd)) (mC .non)))) (Zf (mMt "list" QB (Qb 4) (Qa (mC (.str "-")) Qd))) (Q9 (Qg (Qc wEq (Qc wIx (Qb 0) (mC (.int 0))) (mC (.str "tell")))) (Zf (mMt "list" QB (Qb 4) (Qa (Qc wIx (Qc wIx (Qb 1) (Qc UC (Qb 3) (Qc wIx (Qb 0) (mC (.int 1))))) (mC (.int 0))) Qd))) Qx)
noncomputable abbrev st3:SM:=Q9 (Qg (Qc wEq (Qc wIx (Qb 0) (mC (.int 0))) (mC (.str "back")))) (Vv (V9 (Qa (mFn VN (Qa (Qb 1) Qd)) Qd)) (ZU 6)
  Z1) Qx
theorem QbG{l:Li}{h:MH}{a b:Option W}(c:¬wrd l∈[("first":Str),"second","same","pair","none"]):st1 (lsS l a b) h=some (.nx (lsS l a b) h):=by
 simp[lsS,Zj,XY,c,-Nx]
theorem Ye{l:Li}{h:MH}{a b:Option W}(c:(wrd l==("tell":Str))=false):st2 (lsS l a b) h=some (.nx (lsS l a b) h):=by
 simp[lsS,Zj,c]
theorem K6{l:Li}{h:MH}{a b:Option W}(c:(wrd l==("back":Str))=false):st3 (lsS l a b) h=some (.nx (lsS l a b) h):=by
 simp[lsS,Zj,c]
theorem Qdw{x w y z:Str}(ok:OkS i S)(g:i<=800)(B:BD bd S.f i):st1 (lsS (.pair x w y z) (some .non) none) (lsH S.rooms S.gone bd S.words)=some (.nx (lsS (.pair x w y z) (some (.int S.rooms.length)) none) (lsH (S.rooms++[⟨w,S.f y,S.f z⟩]) (S.gone++[false]) (Vp bd (.inr x) (oN (some S.rooms.length))) S.words)):=by
 have e:Qv (ln (.pair x w y z))=.tup [.str "pair",.str x,.str w,.str y,.str z]:=rfl;have m:=ok.rl;have j:=ok.gl;have h:=B.l;have d:S.rooms.length<sizeLine:=szG (by lia);have c:S.gone.length<sizeLine:=szG (by lia);have b:bd.length<sizeLine:=szG (by lia);have v1:=B.va y;have a:=B.va z;simp[lsS,lsH,e,XY,d,c,b,v1,a,Q1,oN]
theorem QdQ{x y:Str}(c:i<=800)(B:BD bd S.f i):st1 (lsS (.same x y) (some .non) none) (lsH S.rooms S.gone bd S.words)=some (.nx (lsS (.same x y) (some (oN (S.f y))) none) (lsH S.rooms S.gone (Vp bd (.inr x) (oN (S.f y))) S.words)):=by
 have b:Qv (ln (.same x y))=.tup [.str "same",.str x,.str y]:=rfl;have d:=B.l;have a:bd.length<sizeLine:=szG (by lia);have v1:=B.va y;simp[lsS,lsH,b,XY,a,v1]
theorem Qf0{x:Str}(c:i<=800)(B:BD bd S.f i):st1 (lsS (.non x) (some .non) none) (lsH S.rooms S.gone bd S.words)=some (.nx (lsS (.non x) (some .non) none) (lsH S.rooms S.gone (Vp bd (.inr x) (oN none)) S.words)):=by
 have b:Qv (ln (.non x))=.tup [.str "none",.str x]:=rfl;have d:=B.l;have a:bd.length<sizeLine:=szG (by lia);simp[lsS,lsH,b,XY,a,oN]
theorem Qbq{x y:Str}(ok:OkS i S)(j:i<=800)(B:BD bd S.f i):st1 (lsS (.first x y) (some .non) none) (lsH S.rooms S.gone bd S.words)=some (.nx (lsS (.first x y) (some (oN (wi S.rooms Ro.a (S.f y)))) none) (lsH S.rooms S.gone (Vp bd (.inr x) (oN (wi S.rooms Ro.a (S.f y)))) S.words)):=by
 have d:Qv (ln (.first x y))=.tup [.str "first",.str x,.str y]:=rfl;have m:=B.l;have c:bd.length<sizeLine:=szG (by lia);have v1:=B.va y;cases b:S.f y with
 |none=>
  rw[b]at v1;simp only[oN]at v1;simp[lsS,lsH,d,XY,c,v1,oN,wi]
 |some n=>
  have g:=ok.f y n b;have e:=B.val b;have h:S.rooms[n]?=some S.rooms[n]:=Ni g;simp[lsS,lsH,d,XY,c,e,oN,wi,QkN,Qs,h,Q1]
theorem Qai{x y:Str}(ok:OkS i S)(j:i<=800)(B:BD bd S.f i):st1 (lsS (.second x y) (some .non) none) (lsH S.rooms S.gone bd S.words)=some (.nx (lsS (.second x y) (some (oN (wi S.rooms Ro.b (S.f y)))) none) (lsH S.rooms S.gone (Vp bd (.inr x) (oN (wi S.rooms Ro.b (S.f y)))) S.words)):=by
 have d:Qv (ln (.second x y))=.tup [.str "second",.str x,.str y]:=rfl;have m:=B.l;have c:bd.length<sizeLine:=szG (by lia);have v1:=B.va y;cases a:S.f y with
 |none=>
  rw[a]at v1;simp only[oN]at v1;simp[lsS,lsH,d,XY,c,v1,oN,wi]
 |some n=>
  have g:=ok.f y n a;have e:=B.val a;have h:S.rooms[n]?=some S.rooms[n]:=Ni g;simp[lsS,lsH,d,XY,c,e,oN,wi,QkJ,Qs,h,Q1]
theorem Qeb{x:Str}(ok:OkS i S)(h:i<=800)(B:BD bd S.f i):st2 (lsS (.tell x) (some .non) none) (lsH S.rooms S.gone bd S.words)=some (.nx (lsS (.tell x) (some .non) none) (lsH S.rooms S.gone bd (S.words++[wdT S.rooms (S.f x)]))):=by
 have c:Qv (ln (.tell x))=.tup [.str "tell",.str x]:=rfl;have j:=ok.tl;have b:S.words.length<sizeLine:=szG (by lia);have v1:=B.va x;cases a:S.f x with
 |none=>
  rw[a]at v1;simp only[oN]at v1;simp[lsS,lsH,c,b,v1,wdT]
 |some n=>
  have e:=ok.f x n a;have d:=B.val a;have g:S.rooms[n]?=some S.rooms[n]:=Ni e;simp[lsS,lsH,c,b,d,wdT,Qs,g,Q1]
noncomputable def gN(S:Sh)(w:Str)(n:Nat):List Bool:=(List.range S.gone.length).map fun k=>(S.gone.getD k false ||(decide (k<n)&&Vu S.rooms w k))
theorem QnE{w:Str}:gN S w 0=S.gone:=by
 apply DG;intro k;unfold gN;rw[Nq]
 by_cases a:k<S.gone.length
 ·rw[Er a];simp[a]
 ·rw[NF (by simp;lia),NF (by lia)];rfl
theorem GV{w:Str}{n:Nat}:(gN S w n).length=S.gone.length:=by simp[gN]
theorem QeX{w:Str}{n k:Nat}(a:k<S.gone.length):(gN S w n)[k]?=some (S.gone.getD k false ||(decide (k<n)&&Vu S.rooms w k)):=by
 unfold gN;rw[Nq,Er a];rfl
theorem Qg8{w:Str}:gN S w S.gone.length=(Qo zz S (.back w)).gone:=by
 unfold gN;simp only[Qo];apply Fd;intro k a;simp[N7.mp a]
theorem Qhh{w:Str}{n:Nat}(b:n<S.gone.length):(gN S w n).set n (S.gone.getD n false ||Vu S.rooms w n)=gN S w (n+1):=by
 apply DG;intro k
 by_cases a:k<S.gone.length
 ·rw[QeX a]
  by_cases e:n=k
  ·subst e;rw[N2 (by rw[GV];exact b)];simp
  ·rw[N1 e,QeX a];have:decide (k<n+1)=decide (k<n):=by rw[decide_eq_decide];lia
   rw[this]
 ·rw[NF (by rw[EB,GV];lia),NF (by rw[GV];lia)]
theorem Qd8{w:Str}(ok:OkS i S)(y:i<=800):∃b,st3 (lsS (.back w) (some .non) none) (lsH S.rooms S.gone bd S.words)=some (.nx (lsS (.back w) (some .non) b) (lsH S.rooms (Qo zz S (.back w)).gone bd S.words)):=by
 have g:Qv (ln (.back w))=.tup [.str "back",.str w]:=rfl;have z:=ok.rl;have o:V9 (Qa (mFn VN (Qa (Qb 1) Qd)) Qd) (lsS (.back w) (some .non) none) (lsH S.rooms S.gone bd S.words)=some (Qw 0 S.rooms.length,none,lsH S.rooms S.gone bd S.words):=Qfd (by simp[lsS,lsH]) (by lia)
 have a:=Vh (items:=Qw 0 S.rooms.length) (b:=ZU 6) (body:=Z1) (fun n l h=>∃x,l=lsS (.back w) (some .non) x/\h=lsH S.rooms (gN S w n) bd S.words) (Qw 0 S.rooms.length) 0 (lsS (.back w) (some .non) none) (lsH S.rooms S.gone bd S.words) ⟨_,rfl,by rw[QnE]⟩ (by
  rintro j v m l h ⟨x,rfl,rfl⟩
  have c:=(Vt m).1;have r:v=.int j:=by have:=(Vt m).2;simpa using this
  subst r;rw[NZ];have f:j<S.gone.length:=by rw[ok.gl];exact c
  have hr:S.rooms[j]?=some S.rooms[j]:=Ni c;have hw:Vu S.rooms w j=(S.rooms[j].word==w):=by unfold Vu;rw[hr]
  refine⟨lsS (.back w) (some .non) (some (.int j)),rfl,lsS (.back w) (some .non) (some (.int j)),lsH S.rooms (gN S w (j+1)) bd S.words,.inl ?_,_,rfl,rfl⟩
  have u:Qc wIx (Qb 2) (Qb 6) (lsS (.back w) (some .non) (some (.int j))) (lsH S.rooms (gN S w j) bd S.words)=some (.bl (S.gone.getD j false),lsH S.rooms (gN S w j) bd S.words):=by
   have:=QeX (w:=w) (n:=j) f;simp[lsS,lsH,Qs,this]
  have t:Qc wEq (Qc wIx (Qc wIx (Qb 1) (Qb 6)) (mC (.int 0))) (Qc wIx (Qb 0) (mC (.int 1))) (lsS (.back w) (some .non) (some (.int j))) (lsH S.rooms (gN S w j) bd S.words)=some (.bl (S.rooms[j].word==w),lsH S.rooms (gN S w j) bd S.words):=by
   simp[lsS,lsH,g,Qs,hr,Q1]
  have s:=Qib u t;have p:=Qhh (w:=w) f;rw[hw]at p;have d:ixN ((gN S w j).map W.bl).length (j:Int)=some j:=Qfz (by rw[Nw,GV];exact f);rw[<-p];unfold Z1;rw[QkO,s];simp only[Wl];simp only[Nw]at d
  simp[lsS,lsH,d,List.map_set])
 obtain⟨q,A,e,x,rfl,rfl⟩:=a;rw[GS,NZ]at e;rw[<-ok.gl,Qg8 (zz:=zz),ok.gl]at e;refine⟨x,?_⟩;simp only[lsS,g]at o e;simp[lsS,g,Vv,o,e]
theorem Qgo{l:Li}(ok:OkS i S)(d:i<=800)(B:BD bd S.f i):∃c,BD c (Qo zz S l).f (i+1)/\Zq [Qv (ln l),.ref 0,.ref 1,.ref 2,.ref 3] (lsH S.rooms S.gone bd S.words)=some (.non,lsH (Qo zz S l).rooms (Qo zz S l).gone c (Qo zz S l).words):=by
 have fin:∀(a g n:Option W) (m j h:MH),st1 (lsS l (some .non) none) (lsH S.rooms S.gone bd S.words)=some (.nx (lsS l a none) m)->st2 (lsS l a none) m=some (.nx (lsS l g none) j)->st3 (lsS l g none) j=some (.nx (lsS l g n) h)->Zq [Qv (ln l),.ref 0,.ref 1,.ref 2,.ref 3] (lsH S.rooms S.gone bd S.words)=some (.non,h):=fun a g n m j h A u t=>by
  show UA (Qh (QP 5 (mC .non)) (Qh st1 (Qh st2 st3)) (lsS l none none) _)=_;rw[QA (σ1:=lsS l (some .non) none) (by simp[lsS]) (QA A (QA u t))];rfl
 have up1:BD bd S.f (i+1):=⟨B.va,B.p,N0 B.l⟩
 have skip:¬wrd l∈[("first":Str),"second","same","pair","none"]->(wrd l==("tell":Str))=false->(wrd l==("back":Str))=false->Qo zz S l=S->∃c,BD c (Qo zz S l).f (i+1)/\Zq [Qv (ln l),.ref 0,.ref 1,.ref 2,.ref 3] (lsH S.rooms S.gone bd S.words)=some (.non,lsH (Qo zz S l).rooms (Qo zz S l).gone c (Qo zz S l).words):=fun s r q e=>by
  rw[e];exact⟨bd,up1,fin (some .non) (some .non) _ _ _ _ (QbG s) (Ye r) (K6 q)⟩
 cases l with
 |pair x w y z=>exact⟨_,B.put (x:=x) (v:=some S.rooms.length),fin _ _ _ _ _ _ (Qdw ok d B) (Ye rfl) (K6 rfl)⟩
 |first x y=>exact⟨_,B.put,fin _ _ _ _ _ _ (Qbq ok d B) (Ye rfl) (K6 rfl)⟩
 |second x y=>exact⟨_,B.put,fin _ _ _ _ _ _ (Qai ok d B) (Ye rfl) (K6 rfl)⟩
 |same x y=>exact⟨_,B.put,fin _ _ _ _ _ _ (QdQ d B) (Ye rfl) (K6 rfl)⟩
 |non x=>exact⟨_,B.put,fin _ _ _ _ _ _ (Qf0 d B) (Ye rfl) (K6 rfl)⟩
 |tell x=>exact⟨_,up1,fin _ _ _ _ _ _ (QbG (by simp[wrd])) (Qeb ok d B) (K6 rfl)⟩
 |back w=>
  obtain⟨b,e⟩:=Qd8 (zz:=zz) (bd:=bd) (w:=w) ok d;exact⟨_,up1,fin _ _ _ _ _ _ (QbG (by simp[wrd])) (Ye rfl) e⟩
 |_=>exact skip (by simp[wrd]) rfl rfl rfl
end
section
variable{zz i:Nat}{bd:List (Key×W)}{cs0:List Nat}{p:List Pr}
noncomputable abbrev lH(S:Sh)(bd:List (Key×W))(cs:List Nat):MH:=[.lst (S.rooms.map Q1),.lst (S.gone.map .bl),.dic bd,.lst (S.words.map .str),.lst (S.nums.map .int),.lst (Vn cs)]
noncomputable abbrev lv(p:List Pr)(cs0:List Nat)(zz:Nat)(s:Spt)(i:Nat)(l f w o:Option W):MSt:=[some (Q2 (pp p)),some (.lst (Vn cs0)),some (.int zz),some (.ref 0),some (.ref 1),some (.ref 2),some (.ref 3),some (.ref 4),some (QJ s),some (.int i),some (.ref 5),l,f,w,o]
noncomputable abbrev lA:SM:=QP 11 (Ql 2 Zk (Qa (Qb 0) (Qa (Qb 8) Qd)))
noncomputable abbrev lb1:SM:=QP 12 (Ql 3 JK (Qa (Qb 7) (Qa (Qb 4) (Qa (Qb 2) Qd))))
noncomputable abbrev lb2:SM:=QP 13 (Ql 5 JG (Qa (Qb 11) (Qa (Qb 3) (Qa (Qb 4) (Qa (Qb 5) (Qa (Qb 12) Qd))))))
noncomputable abbrev lb3:SM:=Q9 (Qg (Qc wNe (Qb 13) (mC (.str "")))) (Zg (mFn Q4 (Qa (Qb 13) (Qa (Qb 9) (Qa (Qb 6) (Qa (Qb 7) Qd)))))) Qx
noncomputable abbrev lb4:SM:=Q9 (Qg (Qc wEq (Qc wIx (Qb 11) (mC (.int 0))) (mC (.str "pair")))) (Zf (mMt "list" QB (Qb 7) (Qa (Qb 12) Qd))) Qx
noncomputable abbrev lb5:SM:=Zf (Ql 5 JN (Qa (Qb 11) (Qa (Qb 3) (Qa (Qb 4) (Qa (Qb 5) (Qa (Qb 6) Qd))))))
noncomputable abbrev lB:SM:=Q9 (Qg (Qc Jy (Qb 11) (mC .non))) (Qh lb1 (Qh lb2 (Qh lb3 (Qh lb4 lb5)))) Qx
noncomputable abbrev lC:SM:=QP 14 (Ql 2 Qm (Qa (Qb 0) (Qa (Qb 8) Qd)))
noncomputable abbrev lD:SM:=Q9 (QaR (Qg (Qc wEq (Qb 14) (mFn Zb Qd))) (Z8 (Qg (Qc wEq (mFn VN (Qa (Qb 14) Qd)) (mC (.int 2)))) (Qg (Qc wEq (Qb 10) (mFn Zb Qd))))) (Zg (mFn Q4 (Qa (mC (.str "told")) (Qa (Qb 9) (Qa (Qb 6) (Qa (Qb 7) Qd)))))) Qx
noncomputable abbrev lE:SM:=Qh (QP 8 (Qc wIx (Qb 14) (mC (.int 0)))) (Qh (Q9 (Z8 (Qg (Qc wEq (mFn VN (Qa (Qb 14) Qd)) (mC (.int 2)))) (Qg (Qc wEq (mMt "list" QbQ (Qb 10) (Qa (mC (.int 0)) Qd)) (mC (.int 1))))) (QP 8 (Qc wIx (Qb 14) (mC (.int 1)))) Qx) (QP 9 (Qc Zs (Qb 9) (mC (.int 1)))))
theorem VI:JA=Qh lA (Qh lB (Qh lC (Qh lD lE))):=rfl
theorem QgT{h:MH}:wEq (.lst []) (.lst []) h=some (.bl true,h):=by rw[QlV rfl rfl (by simp[dep,Yp]) (by simp[dep,Yp])];rfl
theorem QaY{L:List Spt}{t:Spt}{h:MH}:wEq (.lst (QJ t::L.map QJ)) (.lst []) h=some (.bl false,h):=by
 have hp:pln (.lst ((t::L).map QJ))=true:=by unfold pln;exact QbD
 have hd:dep (.lst ((t::L).map QJ))<=40:=by unfold dep;have:=QeT (ss:=t::L);lia
 rw[Nr]at hp hd;rw[QlV hp rfl hd (by simp[dep,Yp])];rfl
theorem Qio{cs:List Nat}:Km (Vn cs)=true:=Jo fun _=>rfl
theorem QhE{cs:List Nat}:Yp (Vn cs)<=1:=Xc fun _=>Nn _
theorem Qcr{S:Sh}{cs:List Nat}:wEq (.ref 5) (.lst []) (lH S bd cs)=some (.bl cs.isEmpty,lH S bd cs):=by
 have e:drf (lH S bd cs) 40 (.ref 5)=some (.lst (Vn cs)):=by
  unfold drf;show(Zt (drf (lH S bd cs) 39) (Vn cs)).map W.lst=_;rw[VP _ _ 39 Qio (Nu QhE (by decide))];rfl
 unfold wEq;rw[e,VA _ (.lst []) 40 rfl (by simp[dep,Yp])];cases cs<;>rfl
theorem QdU{s:Spt}{h:MH}{l f w o:Option W}(a:SpV p s):lA (lv p cs0 zz s i l f w o) h=some (.nx (lv p cs0 zz s i (some (oL (Zl p s))) f w o) h):=by
 have e:∀h,Zk [Q2 (pp p),QJ s] h=some (oL (Zl p s),h):=fun h=>Qgx a;simp[lv,e]
theorem YX{s:Spt}{h:MH}{f w o:Option W}:lB (lv p cs0 zz s i (some .non) f w o) h=some (.nx (lv p cs0 zz s i (some .non) f w o) h):=by
 simp[lv]
theorem QmN{S:Sh}{s:Spt}{l:Li}{cs:List Nat}{f w o:Option W}(ok:OkS i S)(n:i<=790)(hz:zz<=50)(B:BD bd S.f i) :
  Qh lb1 (Qh lb2 lb3) (lv p cs0 zz s i (some (Qv (ln l))) f w o) (lH S bd cs)=match Z3 S zz l with
   |some x=>some (.rt (.tup [.str x,.int i,.ref 3,.ref 4]) (lH S bd cs))
   |none=>some (.nx (lv p cs0 zz s i (some (Qv (ln l))) (some (oN (frL S zz))) (some (.str "")) o) (lH S bd cs)):=by
 have q:=ok.rl;have g:=QgI (S:=S) (zz:=zz) (h:=lH S bd cs) (a:=4) (b:=1) (by decide) rfl rfl hz (by rw[ok.nl];lia);have e:=QgN (S:=S) (zz:=zz) (l:=l) (h:=lH S bd cs) (a:=0) (b:=1) (c:=2) ok B (by decide) rfl rfl rfl
 have m:lb1 (lv p cs0 zz s i (some (Qv (ln l))) f w o) (lH S bd cs)=some (.nx (lv p cs0 zz s i (some (Qv (ln l))) (some (oN (frL S zz))) w o) (lH S bd cs)):=by
  simp only[lH]at g;simp[lv,lH,g]
 have j:lb2 (lv p cs0 zz s i (some (Qv (ln l))) (some (oN (frL S zz))) w o) (lH S bd cs)=some (.nx (lv p cs0 zz s i (some (Qv (ln l))) (some (oN (frL S zz))) (some (.str (U7 (Z3 S zz l)))) o) (lH S bd cs)):=by
  simp only[lH]at e;simp[lv,lH,e]
 rw[QA m (QA j rfl)];cases d:Z3 S zz l with
 | some x=>
  have:(x==("":Str))=false:=by
   unfold Z3 at d;split at d
   ·cases d;rfl
   ·split at d
    ·cases d;rfl
    ·cases d
  simp[lv,U7,this]
 |none=>simp[lv,U7]
theorem QiZ{S:Sh}{s:Spt}{l:Li}{cs:List Nat}{w o:Option W}(ok:OkS i S)(e:i<=790)(d:Z3 S zz l=none) :
  lb4 (lv p cs0 zz s i (some (Qv (ln l))) (some (oN (frL S zz))) w o) (lH S bd cs)=some (.nx (lv p cs0 zz s i (some (Qv (ln l))) (some (oN (frL S zz))) w o) (lH { S with nums:=(Qo zz S l).nums } bd cs)):=by
 have g:=ok.rl;have f:=ok.nl;have c:S.nums.length<sizeLine:=szG (by lia);cases hw:(wrd l==("pair":Str))with
 |false=>
  have:(Qo zz S l).nums=S.nums:=by cases l<;>first|rfl|(simp[wrd]at hw)
  rw[this];simp[lv,Zj,hw]
 | true=>
  cases l with
  |pair x a y z=>
   cases b:frL S zz with
   |none=>exact absurd b (W3 d)
   |some n=>simp[lv,Zj,hw,lH,Qo,b,oN,c]
  |_=>simp[wrd]at hw
theorem QhT{S:Sh}{s:Spt}{l:Li}{ns:List Int}{cs:List Nat}{f w o:Option W}(ok:OkS i S)(n:i<=790)(B:BD bd S.f i) :
  ∃a,BD a (Qo zz S l).f (i+1)/\lb5 (lv p cs0 zz s i (some (Qv (ln l))) f w o) (lH { S with nums:=ns } bd cs)=some (.nx (lv p cs0 zz s i (some (Qv (ln l))) f w o) (lH { Qo zz S l with nums:=ns } a cs)):=by
 obtain⟨a,d,e⟩:=Qgo (zz:=zz) (l:=l) ok (by lia) B;refine⟨a,d,?_⟩
 have c:JN [Qv (ln l),.ref 0,.ref 1,.ref 2,.ref 3] (lH { S with nums:=ns } bd cs)=some (.non,lH { Qo zz S l with nums:=ns } a cs):=by
  have:=QfY (m:=Zq) (h:=lH { S with nums:=ns } bd cs) (args:=[Qv (ln l),.ref 0,.ref 1,.ref 2,.ref 3]) (as:=[Qv (ln l),.ref 0,.ref 1,.ref 2,.ref 3]) (ns:=[0,1,2,3]) (os:=lsH S.rooms S.gone bd S.words) (os':=lsH (Qo zz S l).rooms (Qo zz S l).gone a (Qo zz S l).words) (g:=[]) (w:=.non) (by unfold Qv;simp[XW]) (by decide) (by simp[Zt,QaH,lH,lsH,B.p]) (by rw[N9];exact e) rfl (by
   intro o b;simp[lsH]at b
   rcases b with rfl|rfl|rfl|rfl<;>simp[d.p]) rfl
  exact this
 simp only[lH]at c;simp[lv,lH,c]
theorem Qe8 {S:Sh} {s:Spt} {l:Li} {cs:List Nat} {f w o:Option W} (ok:OkS i S) (q:i<=790) (hz:zz<=50) (B:BD bd S.f i):match Z3 S zz l with
      |some x=>lB (lv p cs0 zz s i (some (Qv (ln l))) f w o) (lH S bd cs)=some (.rt (.tup [.str x,.int i,.ref 3,.ref 4]) (lH S bd cs))
      |none=>∃e u w',BD e (Qo zz S l).f (i+1)/\lB (lv p cs0 zz s i (some (Qv (ln l))) f w o) (lH S bd cs)=some (.nx (lv p cs0 zz s i (some (Qv (ln l))) u w' o) (lH (Qo zz S l) e cs)):=by
  have j:=QmN (p:=p) (cs0:=cs0) (s:=s) (l:=l) (cs:=cs) (f:=f) (w:=w) (o:=o) ok q hz B
  have y:lB (lv p cs0 zz s i (some (Qv (ln l))) f w o) (lH S bd cs)=Qh lb1 (Qh lb2 (Qh lb3 (Qh lb4 lb5))) (lv p cs0 zz s i (some (Qv (ln l))) f w o) (lH S bd cs):=by
    have nl:Vm (Qv (ln l))=false:=rfl;unfold lB;rw[QjJ];have:Qg (Qc Jy (Qb 11) (mC .non)) (lv p cs0 zz s i (some (Qv (ln l))) f w o) (lH S bd cs)=some (true,lH S bd cs):=by simp[lv,nl]
    rw[this,Wl,Qf4,if_pos rfl]
  have r:∀(a b c d:SM) (g:MSt) (h:MH),Qh a (Qh b (Qh c d)) g h=@ob _ _ (Qg2 d) (Qh a (Qh b c) g h):=fun a b c d g h=>by
    simp only[QdR];cases a g h with
    |none=>rfl
    | some z=>
      cases z with
      | nx m t=>
        simp only[Wl,Qfg,QdR];cases b m t with
        |none=>rfl
        |some z=>cases z<;>simp[QdR]
      |_=>rfl
  rw[y,r];cases n:Z3 S zz l with
  |some x=>rw[n]at j;rw[j];rfl
  | none=>
    rw[n]at j;obtain⟨e,A,v⟩:=QhT (p:=p) (cs0:=cs0) (zz:=zz) (s:=s) (l:=l) (ns:=(Qo zz S l).nums) (cs:=cs) (f:=some (oN (frL S zz))) (w:=some (.str "")) (o:=o) ok q B;refine⟨e,some (oN (frL S zz)),some (.str ""),A,?_⟩;rw[j];show Qh lb4 lb5 _ _=_;exact QA (QiZ ok q n) v
theorem QeN{S:Sh}{s:Spt}{cs:List Nat}{l f w o:Option W}{L:List Spt}(c:∀h,Qm [Q2 (pp p),QJ s] h=some (.lst (L.map QJ),h))(g:L=[]\/(L.length=2/\cs=[])) :
  Qh lC (Qh lD lE) (lv p cs0 zz s i l f w o) (lH S bd cs)=some (.rt (.tup [.str "told",.int i,.ref 3,.ref 4]) (lH S bd cs)):=by
 rcases g with rfl|⟨j,rfl⟩
 ·simp[lv,c,QgT]
 ·obtain⟨a,b,rfl⟩:∃a b,L=[a,b]:=by
   match L,j with
   |[a,b],_=>exact⟨a,b,rfl⟩
  have e:=fun h=>QaY (L:=[b]) (t:=a) (h:=h);have d:=Qcr (S:=S) (bd:=bd) (cs:=[]);simp at e d;simp[lv,c,e,d]
theorem Qej{S:Sh}{s t:Spt}{cs:List Nat}{l f w o:Option W}(b:∀h,Qm [Q2 (pp p),QJ s] h=some (.lst [QJ t],h)) :
  Qh lC (Qh lD lE) (lv p cs0 zz s i l f w o) (lH S bd cs)=some (.nx (lv p cs0 zz t (i+1) l f w (some (.lst [QJ t]))) (lH S bd cs)):=by
 have a:=fun h=>QaY (L:=[]) (t:=t) (h:=h);simp at a;simp[lv,b,a]
theorem Qig{S:Sh}{s a b:Spt}{c:Nat}{cs:List Nat}{l f w o:Option W}(m:c<=1)(g:∀h,Qm [Q2 (pp p),QJ s] h=some (.lst [QJ a,QJ b],h)) :
  Qh lC (Qh lD lE) (lv p cs0 zz s i l f w o) (lH S bd (c::cs))=some (.nx (lv p cs0 zz (pk a b c) (i+1) l f w (some (.lst [QJ a,QJ b]))) (lH S bd cs)):=by
 have e:=fun h=>QaY (L:=[b]) (t:=a) (h:=h);have d:=Qcr (S:=S) (bd:=bd) (cs:=c::cs);have j:QbQ (.ref 5) [.int 0] (lH S bd (c::cs))=some (.int c,lH S bd cs):=rfl;simp at e d
 match c,m with
 |0,_=>simp[lv,g,e,d,j,pk]
 |1,_=>simp[lv,g,e,d,j,pk]
end
theorem YT{p:List Pr}{s t:Spt}{a:List Spt}:Ju p (s::t::a)=Zl p s::Ju p (t::a):=by simp[Ju]
theorem QcQ{nm:Str}{ls:List Li}{zz:Nat}{cs0:List Nat}(Sp:Shp ls)(hz:zz<=50){s:Spt}{cs:List Nat}{z:List Spt}(g:Go ls s cs z):∀(i n:Nat) (S:Sh) (bd:List (Key×W)) (l f w o:Option W),SV ls s->OkS i S->BD bd S.f i->i+z.length<=780->z.length<n ->
  ∃(r:Sh) (j:List (Key×W)) (e:List Nat) (x:Str) (k:Nat),sim zz (Ju [(nm,ls)] (s::z)) i S=(x,k,r.words,r.nums)/\Q8 (YK (mC (.bl true))) JA n (lv [(nm,ls)] cs0 zz s i l f w o) (lH S bd cs)=some (.rt (.tup [.str x,.int k,.ref 3,.ref 4]) (lH r j e)):=by
 have yes:∀N h,YK (mC (.bl true)) N h=some (true,h):=fun N h=>by simp
 have m:∀{s},SV ls s->SpV [(nm,ls)] s:=fun {s} v=>⟨(nm,ls),by rw[v.p];rfl,v.k⟩
 induction g with
 |@stop s cs h=>
  intro i n S bd l f w o v ok B C A;obtain⟨n,rfl⟩:∃k,n=k+1:=⟨n-1,by lia⟩
  refine⟨S,bd,cs,"told",i,rfl,Wf (yes _ _) ?_⟩;rw[VI];have q:=QgL (nm:=nm) v (by rw[h];simp);have d:=QdU (p:=[(nm,ls)]) (cs0:=cs0) (zz:=zz) (i:=i) (h:=lH S bd cs) (l:=l) (f:=f) (w:=w) (o:=o) (m v);rw[q]at d;exact QA d (QA YX (QeN (L:=nx ls s) (fun h=>UN Sp v) (.inl h)))
 |@wait s a b h=>
  intro i n S bd l f w o v ok B C A;obtain⟨n,rfl⟩:∃k,n=k+1:=⟨n-1,by lia⟩
  refine⟨S,bd,[],"told",i,rfl,Wf (yes _ _) ?_⟩;rw[VI];have q:=QgL (nm:=nm) v (by rw[h];simp);have d:=QdU (p:=[(nm,ls)]) (cs0:=cs0) (zz:=zz) (i:=i) (h:=lH S bd []) (l:=l) (f:=f) (w:=w) (o:=o) (m v);rw[q]at d;exact QA d (QA YX (QeN (L:=nx ls s) (fun h=>UN Sp v) (.inr ⟨by rw[h];rfl,rfl⟩)))
 | @one s t cs z h g F=>
  intro i n S bd l f w o v ok B C A;obtain⟨n,rfl⟩:∃k,n=k+1:=⟨n-1,by lia⟩
  rw[Nz]at C A;have v1:=QeH Sp v (t:=t) (by rw[h];simp);have d:=QdU (p:=[(nm,ls)]) (cs0:=cs0) (zz:=zz) (i:=i) (h:=lH S bd cs) (l:=l) (f:=f) (w:=w) (o:=o) (m v)
  have H:∀h,Qm [Q2 (pp [(nm,ls)]),QJ s] h=some (.lst [QJ t],h):=fun J=>by
   have:=UN (nm:=nm) (h:=J) Sp v;rw[h]at this;exact this
  rw[YT];cases q:Zl [(nm,ls)] s with
  |none=>
   rw[q]at d;have u:OkS (i+1) S:=⟨N0 ok.rl,ok.gl,ok.nl,N0 ok.tl,ok.f,ok.a⟩
   obtain⟨r,j,e,x,k,E,D⟩:=F (i+1) n S bd (some .non) f w (some (.lst [QJ t])) v1 u ⟨B.va,B.p,N0 B.l⟩ (by lia) (by lia);refine⟨r,j,e,x,k,E,?_⟩;rw[XE (yes _ _) (by rw[VI];exact QA d (QA YX (Qej H)))];exact D
  | some y=>
   rw[q]at d;simp only[oL]at d;have I:=Qe8 (p:=[(nm,ls)]) (cs0:=cs0) (s:=s) (l:=y) (cs:=cs) (f:=f) (w:=w) (o:=o) ok (by lia) hz B;cases G:Z3 S zz y with
   |some x=>
    rw[G]at I;refine⟨S,bd,cs,x,i,by rw[sim,G],Wf (yes _ _) ?_⟩;rw[VI];refine QA d ?_;rw[QdR,I];rfl
   |none=>
    rw[G]at I;obtain⟨M,f2,O,R,Q⟩:=I;obtain⟨r,j,e,x,k,E,D⟩:=F (i+1) n (Qo zz S y) M (some (Qv (ln y))) f2 O (some (.lst [QJ t])) v1 (VO ok y) R (by lia) (by lia);refine⟨r,j,e,x,k,by rw[sim,G];exact E,?_⟩;rw[XE (yes _ _) (by rw[VI];exact QA d (QA Q (Qej H)))];exact D
 | @two s a b c cs z h P g F=>
  intro i n S bd l f w o v ok B C A;obtain⟨n,rfl⟩:∃k,n=k+1:=⟨n-1,by lia⟩
  rw[Nz]at C A;have v1:=QeH Sp v (t:=pk a b c) (by rw[h];exact GU);have d:=QdU (p:=[(nm,ls)]) (cs0:=cs0) (zz:=zz) (i:=i) (h:=lH S bd (c::cs)) (l:=l) (f:=f) (w:=w) (o:=o) (m v)
  have H:∀h,Qm [Q2 (pp [(nm,ls)]),QJ s] h=some (.lst [QJ a,QJ b],h):=fun J=>by
   have:=UN (nm:=nm) (h:=J) Sp v;rw[h]at this;exact this
  have q:=QgL (nm:=nm) v (by rw[h];simp);rw[YT,q];rw[q]at d;have u:OkS (i+1) S:=⟨N0 ok.rl,ok.gl,ok.nl,N0 ok.tl,ok.f,ok.a⟩
  obtain⟨r,j,e,x,k,E,D⟩:=F (i+1) n S bd (some .non) f w (some (.lst [QJ a,QJ b])) v1 u ⟨B.va,B.p,N0 B.l⟩ (by lia) (by lia);refine⟨r,j,e,x,k,E,?_⟩;rw[XE (yes _ _) (by rw[VI];exact QA d (QA YX (Qig P H)))];exact D
@[simp]theorem Qjn{ws:List W}{h:MH}:Qad [.lst ws] h=some (.ref h.length,h++[.lst ws]):=id rfl
theorem US{nm:Str}{ls:List Li}{zz:Nat}{cs:List Nat}{a:List Spt}(Sp:Shp ls)(g:Go ls (sp0 0) cs a)(l:a.length<=780)(hz:zz<=50)(h:MH) :
  Vl [Q2 (pp [(nm,ls)]),.lst (Vn cs),.int zz] h=some (Qg0 (sim zz (Ju [(nm,ls)] (sp0 0::a)) 0 S0),h):=by
 have v0:SV ls (sp0 0):=⟨rfl,rfl,NT _,by simp[sp0]⟩
 obtain⟨j,d,c,x,k,e,b⟩:=QcQ (nm:=nm) (cs0:=cs) Sp hz g 0 1000000 S0 [] none none none none v0 (H0 zz).ok ⟨fun x=>rfl,rfl,Nn _⟩ (by lia) (by lia)
 have fin:ZY [Q2 (pp [(nm,ls)]),.lst (Vn cs),.int zz] []=some (.tup [.str x,.int k,.ref 3,.ref 4],lH j d c):=by
  have f:QJ (sp0 0)=.tup [.tup [],.int 0,.int 0,.bl false]:=rfl;simp only[lv,lH,S0,f,Em]at b;simp at b;simp[ZY,QI,XN,Wo,b]
 rw[e];exact Qen (by simp) fin (by simp) (by simp) rfl rfl (by simp) (by simp)
noncomputable abbrev scr(ns:List Int):W:=.frz (ns.map W.int)
theorem KY{ms:MA}{σ:MSt}{h h':MH}{j:Nat}(e:ms σ h=some ([.int j],h'))(a:j<1000000):V9 ms σ h=some (Qw 0 j,none,h'):=by
 unfold V9;rw[e,Nj];exact(if_pos ⟨by lia,by lia⟩).trans (by simp)
theorem Js{a:Int}{n:Nat}:(Qw a n).length=n:=by simp[Qw]
theorem Gu{n j:Nat}{w:W}(h:(Qw 0 n)[j]?=some w):j<n/\w=.int j:=by
 obtain⟨a,b⟩:=Vt h;exact⟨a,by rw[b];simp⟩
theorem szN{n:Nat}(h:n<=100000):n<sizeLine:=NL h (by decide)
theorem QfM{xs:List Str}{i:Int}(b:0<=i)(h1:i<xs.length):∃x,x∈xs/\atI (xs.map W.str) i=some (.str x):=by
 obtain⟨x,a,_,e⟩:=Qfw (xs:=xs) (f:=W.str) (P:=fun _=>True) b h1 (fun _ _=>True.intro);exact⟨x,a,e⟩
noncomputable def Qjr(cell k:Int):Int:=
 ((cell+7919*k*k+1)*1357913579135791357%2305843009213693951*((cell+7919*k*k+1)*1357913579135791357%2305843009213693951)+48271*((cell+7919*k*k+1)*1357913579135791357%2305843009213693951)+104729*k)%2305843009213693951
theorem Kt(ns:List Int)(k:Nat)(p:k<=1000):∃c:Int,0<=c/\∀h:MH,Qi [scr ns,.int k] h=some (.int c,h):=by
 have d:(-18446744073709551616:Int)<k:=by lia
 have b:(k:Int)<18446744073709551616:=by lia
 have a:∀x:Int,0<=x%2305843009213693951:=fun x=>NS _ (by decide);have f:∀x:Int,-18446744073709551616<x%2305843009213693951:=fun x=>by have:=a x;lia
 have e:∀x:Int,x%2305843009213693951<18446744073709551616:=fun x=>by have:=NM x (show(0:Int)<2305843009213693951 by decide);lia
 by_cases j:0<ns.length
 ·obtain⟨x,l,m⟩:=Qhx (xs:=ns.map W.int) (i:=(k:Int)%(ns.length:Nat)) (NS _ (by lia)) (by rw[Nw];exact NM _ (by lia));obtain⟨n,_,rfl⟩:=Eb.mp l;refine⟨Qjr n k,a _,fun h=>QF (by simp[scr]) (g:=[]) ?_ (by simp)⟩;simp[ZW,QI,scr,j,m,d,b,f,e,Qjr]
 ·refine⟨Qjr 0 k,a _,fun h=>QF (by simp[scr]) (g:=[]) ?_ (by simp)⟩;simp[ZW,QI,scr,j,d,b,f,e,Qjr]
theorem QbW:∀{ws:List W},ZL ws=true->∀{k:Nat},XW k ws=some (ws,[])
 |[],_,k=>rfl
 |a::r,hp,k=>by
  unfold ZL at hp;rw[NB]at hp;have:=QbW hp.2 (k:=k);cases a<;>first|(unfold pur at hp;cases hp.1;done)|(unfold XW;rw[if_pos hp.1,this];rfl)
theorem QcK{m:FM}{ws vs:List W}{j:Nat}{g h:MH}(hp:ZL ws=true)(e:m ws []=some (.ref j,g))(c:g[j]?=some (.lst vs))(b:ZL vs=true):box frN m ws h=some (.lst vs,h):=by
 have hr:XW 0 ws=some (ws,[]):=QbW hp
 have:=UI (m:=m) (args:=ws) (as:=ws) (ns:=[]) (os:=[]) (os':=[]) (g:=g) (h:=h) (w:=.ref j) (w':=.lst vs) hr (by simp) rfl e rfl (by simp) (by
  unfold th res
  simp[Yf,c,ZS _ vs b])
 simpa[QN]using this
noncomputable def Ys:List Str:=["pairs","o","seconda","nones","en","backs","eithera","ors","dos","ends","agains","parts","firs"]
noncomputable def Yv:List Str:=["same","tells","firsts"]
noncomputable def keptN:List Str:=["pair","first","second","none","tell","back","either","or","again","end","do","part"]
noncomputable def abc:Str:="abcdefghijklmnopqrstuvwxyz"
theorem QeU:abc.length=26:=by decide +kernel
theorem Qa3{i:Int}(a:0<=i)(h1:i<26)(h:MH):wIx (.str abc) (.int i) h=some (.str ⟨#[97+i.toNat]⟩,h):=by
 have e:abc.cps.toList=(List.range 26).map (97+·):=by decide +kernel
 refine QgY (by rw[QeU];decide) ?_;obtain⟨n,rfl⟩:∃n:Nat,i=n:=⟨i.toNat,by exact(Et ‹_›).symm⟩
 rw[Qs,e,Nq,Er (by lia)];rfl
noncomputable abbrev gS(n:Int)(m:Nat)(f e d c b a:Option W):MSt:=[some (.int n),some (.int m),some (.str abc),some (.lst ((Ys++Yv).map .str)),some (.tup (keptN.map .str)),f,e,d,c,b,a]
theorem YD{fin:List W->MH->Option (W×MH)}{ms:MA}{cp:List (Option Nat)}{me:ME}{σ caps:MSt}{h:MH}{m:Nat}(f:Nat->Str)(e:ms σ h=some ([.int (m:Int)],h))(d:∃o,QgP cp σ=o::caps)(a:m<=1000)(c:∀k,k<m->me (some (.int (k:Int))::caps) h=some (.str (f k),h)) :
  Jh XL (V9 ms) cp (ZU 0) Yk me σ h=some (ZP ((List.range m).map f),h):=by
 let g:W->W:=fun w=>match w with|.int i=>.str (f i.toNat)|w=>w
 have:=Wd (fin:=XL) (mi:=V9 ms) (cp:=cp) (me:=me) (σ:=σ) (h:=h) (items:=Qw 0 m) g (KY e (NL a (by decide))) d (by
  intro w hw;unfold Qw at hw;obtain⟨k,b,rfl⟩:=Eb.mp hw;rw[N7]at b;have:=c k b
  simpa[g]using this) (by rw[Js];exact ND (szN (ND (NL a (by decide)))))
 rw[this];show some (W.lst ((Qw 0 m).map g),h)=_;unfold ZP Qw;rw[D7,D7];congr 3;apply Fd;intro k _;simp[g]
theorem QjG{a b:List W}{h:MH}:Zs (.lst a) (.lst b) h=if a.length+b.length<=sizeLine then some (.lst (a++b),h)else none:=id rfl
theorem KH{n:Int}{m:Nat}{f:SM}:Qh (QP 2 (mC (.str "abcdefghijklmnopqrstuvwxyz"))) (Qh (QP 3 (mFn Zb (Qa (mC (.str "pairs")) (Qa (mC (.str "o")) (Qa (mC (.str "seconda")) (Qa (mC (.str "nones")) (Qa (mC (.str "en")) (Qa (mC (.str "backs")) (Qa (mC (.str "eithera")) (Qa (mC (.str "ors")) (Qa (mC (.str "dos")) (Qa (mC (.str "ends")) (Qa (mC (.str "agains")) (Qa (mC (.str "parts")) (Qa (mC (.str "firs")) Qd)))))))))))))))
  (Qh (QP 3 (Qc Zs (Qb 3) (mFn Zb (Qa (mC (.str "same")) (Qa (mC (.str "tells")) (Qa (mC (.str "firsts")) Qd))))))
  (Qh (QP 4 (mFn Q4 (Qa (mC (.str "pair")) (Qa (mC (.str "first")) (Qa (mC (.str "second")) (Qa (mC (.str "none")) (Qa (mC (.str "tell")) (Qa (mC (.str "back")) (Qa (mC (.str "either")) (Qa (mC (.str "or")) (Qa (mC (.str "again")) (Qa (mC (.str "end")) (Qa (mC (.str "do")) (Qa (mC (.str "part")) Qd)))))))))))))) f)))
  [some (.int n),some (.int m),none,none,none,none,none,none,none,none,none] []=f (gS n m none none none none none none) []:=by
 have b:13<=sizeLine:=by decide
 have c:12<=sizeLine:=by decide
 have a:16<=sizeLine:=by decide
 simp[gS,b,c,a,Ys,Yv,keptN,abc,QjG]
noncomputable def nmX(b a:Str)(q:Int)(k:Nat):Str:=b++(⟨#[97+((q+3*(k:Int))%26).toNat]⟩:Str)++a
noncomputable def nm(b a:Str)(q:Int)(k:Nat):Str:=if nmX b a q k∈keptN then nmX b a q k++"s"else nmX b a q k
theorem Qf3{x:Str}{h:MH}:wIn false (.str x) (.tup (keptN.map .str)) h=some (.bl (decide (x∈keptN)),h):=by
 rw[QhX rfl XH (by simp[dep]) (Nu Wh (by decide))]
 have:inW (.str x) (keptN.map .str)=decide (x∈keptN):=by
  generalize keptN=L
  induction L with
  |nil=>rfl
  | cons y L b=>
   unfold inW at b ⊢;rw[Nr,Ez,b,F3];simp only[eqW,EC,beq_iff_eq,decide_eq_true_eq,Nx];constructor
   ·rintro(a|a)
    ·exact .inl a.symm
    ·exact .inr a
   ·rintro(a|a)
    ·exact .inl a.symm
    ·exact .inr a
 rw[this];rfl
theorem Qab{n:Int}(hn:0<=n){m:Nat}(J:m<=5):∃xs:List Str,xs.length=m/\∀h:MH,QU [.int n,.int m] h=some (ZP xs,h):=by
 by_cases c0:n%5=0
 ·let f:Nat->Str:=fun k=>(Ys++Yv).getD ((n/5+(k:Int))%16).toNat ""
  refine⟨(List.range m).map f,by simp,fun h=>QF (by simp) (g:=[]) ?_ (by simp)⟩
  ·have p:=YD (fin:=XL) (ms:=Qa (Qb 1) Qd) (cp:=[none,some 3,some 0]) (me:=Qc wIx (Qb 1) (Qc JC (Qc Zs (Qc KW (Qb 2) (mC (.int 5))) (Qb 0)) (mC (.int 16)))) (σ:=gS n m none none none none none none) (h:=[]) (m:=m) f rfl ⟨_,rfl⟩ (ND (NL J (by decide))) (fun k s=>by
    have a0:0<=(n/5+(k:Int))%16:=NS _ (by decide);have a1:(n/5+(k:Int))%16<16:=NM _ (by decide)
    have r:atI ((Ys++Yv).map W.str) ((n/5+(k:Int))%16)=some (.str (f k)):=by
     obtain⟨q,hq⟩:∃q:Nat,(n/5+(k:Int))%16=q:=⟨((n/5+(k:Int))%16).toNat,by exact(Et ‹_›).symm⟩
     have E:q<(Ys++Yv).length:=by show q<16;lia
     simp only[f,hq,EA];rw[Qs,Nq,Ni E];simp[NE,Ni E]
    rw[ER]at r
    simp[r])
   unfold Zv QI;show UA (Qh _ (Qh _ (Qh _ (Qh _ _))) [some (.int n),some (.int m),none,none,none,none,none,none,none,none,none] [])=_;rw[KH];generalize Jh XL (V9 (Qa (Qb 1) Qd)) [none,some 3,some 0] (ZU 0) Yk (Qc wIx (Qb 1) (Qc JC (Qc Zs (Qc KW (Qb 2) (mC (.int 5))) (Qb 0)) (mC (.int 16))))=co at p;generalize l:(Ys++Yv).map W.str=L at p;simp only[gS,l]at p;simp only[gS,l];simp[c0,p]
 ·by_cases M:n%5=1
  ·have h0:0<=n/5%26:=NS _ (by decide);have U:n/5%26<26:=NM _ (by decide)
   let x:Str:=⟨#[97+(n/5%26).toNat]⟩
   refine⟨(List.range m).map fun(k:Nat)=>rep x ((k:Int)+1),by simp,fun h=>QF (by simp) (g:=[]) ?_ (by simp)⟩
   ·have p:=YD (fin:=XL) (ms:=Qa (Qb 1) Qd) (cp:=[none,some 2,some 0]) (me:=Qc JB (Qc wIx (Qb 1) (Qc JC (Qc KW (Qb 2) (mC (.int 5))) (mC (.int 26)))) (Qc Zs (Qb 0) (mC (.int 1)))) (σ:=gS n m none none none none none none) (h:=[]) (m:=m) (fun(k:Nat)=>rep x ((k:Int)+1)) rfl ⟨_,rfl⟩ (ND (NL J (by decide))) (fun k s=>by
     have r:=Qa3 h0 U [];have em:JB (.str x) (.int ((k:Int)+1)) []=some (.str (rep x ((k:Int)+1)),[]):=QiO ⟨by lia,by lia,by show x.cps.size<1000;simp[x]⟩
     simp[r,em,x]at em ⊢)
    unfold Zv QI;show UA (Qh _ (Qh _ (Qh _ (Qh _ _))) [some (.int n),some (.int m),none,none,none,none,none,none,none,none,none] [])=_;rw[KH];generalize Jh XL (V9 (Qa (Qb 1) Qd)) [none,some 2,some 0] (ZU 0) Yk (Qc JB (Qc wIx (Qb 1) (Qc JC (Qc KW (Qb 2) (mC (.int 5))) (mC (.int 26)))) (Qc Zs (Qb 0) (mC (.int 1))))=co at p;generalize l:(Ys++Yv).map W.str=L at p;simp only[gS,l]at p;simp only[gS,l];simp[M,p]
  ·have s0:0<=n/5%8:=NS _ (by decide);have s1:n/5%8<8:=NM _ (by decide);obtain⟨sz,O⟩:∃sz:Nat,n/5%8=sz:=⟨(n/5%8).toNat,by exact(Et ‹_›).symm⟩
   obtain⟨e,Q⟩:∃a:Int,n/40%(sz+1)=a:=⟨_,rfl⟩
   have sp:(0:Int)<sz+1:=by lia
   obtain⟨t,ht,H⟩:=Qbp (mi:=V9 (Qa (Qb 5) Qd)) (cp:=[none,some 2,some 0]) (me:=Qc wIx (Qb 1) (Qc JC (Qc Zs (Qc KW (Qb 2) (mC (.int 360))) (Qc JB (Qc JB (mC (.int 5)) (Qb 0)) (Qb 0))) (mC (.int 26)))) (σ:=gS n m (some (.int sz)) (some (.int e)) none none none none) (h:=[]) (h1:=[]) (items:=Qw 0 sz) (m:=1) (caps:=[some (.str abc),some (.int n)]) (KY rfl (by lia)) rfl (by
    intro w hw;unfold Qw at hw;obtain⟨k,s,rfl⟩:=Eb.mp hw;rw[N7]at s;have n1:(-18446744073709551616:Int)<k:=by lia
    have n2:(k:Int)<18446744073709551616:=by lia
    have r:=Qa3 (i:=(n/360+5*(k:Int)*k)%26) (NS _ (by decide)) (NM _ (by decide)) [];refine⟨⟨#[97+((n/360+5*(k:Int)*k)%26).toNat]⟩,by show(1:Nat)<=1;exact by decide,?_⟩
    simp[n1,n2,r]) (by rw[Js];lia) (by rw[Js];exact ND (szN (by lia)))
   rw[Js]at ht
   let c:Str:=Txt.slice t none (some e)
   let d:Str:=Txt.slice t (some e) none
   have l1:c.length<=10:=Nu (Dv t _ _) (by lia);have l2:d.length<=10:=Nu (Dv t _ _) (by omega);have lt':t.length<=sizeLine:=ND (szN (by lia));have q0:∀k:Nat,0<=(n/9360+3*(k:Int))%26:=fun k=>NS _ (by decide);have q1:∀k:Nat,(n/9360+3*(k:Int))%26<26:=fun k=>NM _ (by decide)
   have len:∀x y:Str,(x++y).length=x.length+y.length:=fun x y=>by
    show(x.cps++y.cps).size=_;simp[Str.length]
   have D:=Vh (items:=Qw 0 m) (b:=ZU 9) (body:=ZG) (fun j C h=>∃I o,C=gS n m (some (.int sz)) (some (.int e)) (some (.str t)) (some (.ref 0)) I o/\h=[.lst (((List.range j).map fun k=>nm c d (n/9360) k).map .str)])
    (Qw 0 m) 0 (gS n m (some (.int sz)) (some (.int e)) (some (.str t)) (some (.ref 0)) none none) [.lst []] ⟨none,none,rfl,rfl⟩ (by
     rintro j w hj C h ⟨I,o,rfl,rfl⟩
     obtain⟨P,rfl⟩:=Gu hj;rw[NZ]at *;have r:=fun h=>Qa3 (q0 j) (q1 j) h;have M:c.length+1<=sizeLine:=ND (szN (NL l1 (by decide)));have c2:c.length+1+d.length<=sizeLine:=ND (szN (by lia));have c3:c.length+1+d.length+1<=sizeLine:=ND (szN (by lia));have z:j<sizeLine:=szN (ND (N4 (Nm P J) (by decide)));have N:(⟨#[97+((n/9360+3*(j:Int))%26).toNat]⟩:Str).length=1:=rfl;have ls:("s":Str).length=1:=by decide +kernel
     have Y:=fun h=>Qf3 (x:=nmX c d (n/9360) j) (h:=h);have G:∀h,wSl (.str t) none (some e) h=some (.str c,h):=fun h=>Qbc lt';have F:∀h,wSl (.str t) (some e) none h=some (.str d,h):=fun h=>Qbc lt';have en:(List.range (j+1)).map (fun k=>nm c d (n/9360) k)=(List.range j).map (fun k=>nm c d (n/9360) k)++[nm c d (n/9360) j]:=by rw[F0,ER];rfl
     refine⟨gS n m (some (.int sz)) (some (.int e)) (some (.str t)) (some (.ref 0)) (some (.int j)) o,rfl,gS n m (some (.int sz)) (some (.int e)) (some (.str t)) (some (.ref 0)) (some (.int j)) (some (.str (nm c d (n/9360) j))),_,.inl ?_,some (.int j),some (.str (nm c d (n/9360) j)),rfl,rfl⟩;rw[en,ER];have e1:∀h,Zs (.str c) (.str (⟨#[97+((n/9360+3*(j:Int))%26).toNat]⟩:Str)) h=some (.str (c++(⟨#[97+((n/9360+3*(j:Int))%26).toNat]⟩:Str)),h):=fun h=>by rw[Qcd,if_pos (by rw[N];exact M)]
     have Z:∀h,Zs (.str (c++(⟨#[97+((n/9360+3*(j:Int))%26).toNat]⟩:Str))) (.str d) h=some (.str (nmX c d (n/9360) j),h):=fun h=>by rw[Qcd,if_pos (by rw[len,N];exact c2)];rfl
     have e3:∀h,Zs (.str (nmX c d (n/9360) j)) (.str "s") h=some (.str (nmX c d (n/9360) j++"s"),h):=fun h=>by rw[Qcd,if_pos (by unfold nmX;rw[len,len,N,ls];exact c3)]
     have v:=fun h=>Y h;clear Y
     by_cases s:nmX c d (n/9360) j∈keptN
     ·have S:nm c d (n/9360) j=nmX c d (n/9360) j++"s":=by unfold nm;rw[if_pos s]
      rw[S];rw[decide_eq_true s]at v;generalize l:(Ys++Yv).map W.str=L;generalize A:keptN.map W.str=K at v;generalize R:((List.range j).map fun k=>nm c d (n/9360) k).map W.str=MM;have u:MM.length=j:=by rw[<-R];simp
      simp[gS,l,A,G,F,r,e1,Z,e3,v,tyW,u,z]
     ·have S:nm c d (n/9360) j=nmX c d (n/9360) j:=by unfold nm;rw[if_neg s]
      rw[S];rw[decide_eq_false s]at v;generalize l:(Ys++Yv).map W.str=L;generalize A:keptN.map W.str=K at v;generalize R:((List.range j).map fun k=>nm c d (n/9360) k).map W.str=MM;have u:MM.length=j:=by rw[<-R];simp
      simp[gS,l,A,G,F,r,e1,Z,v,tyW,u,z])
   obtain⟨ab,h',X,I,o,rfl,rfl⟩:=D;rw[Js,NZ]at X;refine⟨(List.range m).map fun k=>nm c d (n/9360) k,by simp,fun h=>?_⟩
   have B:Vv (V9 (Qa (Qb 1) Qd)) (ZU 9) ZG (gS n m (some (.int sz)) (some (.int e)) (some (.str t)) (some (.ref 0)) none none) [.lst []]=some (.nx (gS n m (some (.int sz)) (some (.int e)) (some (.str t)) (some (.ref 0)) I o) [.lst (((List.range m).map fun k=>nm c d (n/9360) k).map .str)]):=by
    unfold Vv;rw[KY (j:=m) rfl (NL J (by decide)),Nj];exact X
   refine QcK (j:=0) (g:=[.lst (((List.range m).map fun k=>nm c d (n/9360) k).map .str)]) (by simp) ?_ rfl Qd9;unfold Zv QI;show UA (Qh _ (Qh _ (Qh _ (Qh _ _))) [some (.int n),some (.int m),none,none,none,none,none,none,none,none,none] [])=_;rw[KH];generalize Vv (V9 (Qa (Qb 1) Qd)) (ZU 9) ZG=fo at B;generalize mMt "str" Qag (mC (.str "")) (Qa (Jh XL (V9 (Qa (Qb 5) Qd)) [none,some 2,some 0] (ZU 0) Yk (Qc wIx (Qb 1) (Qc JC (Qc Zs (Qc KW (Qb 2) (mC (.int 360))) (Qc JB (Qc JB (mC (.int 5)) (Qb 0)) (Qb 0))) (mC (.int 26))))) Qd)=jo at H;generalize l:(Ys++Yv).map W.str=L at B H;generalize A:keptN.map W.str=K at B H;generalize((List.range m).map fun k=>nm c d (n/9360) k).map W.str=MM at B;simp only[gS,l,A]at B H;simp only[gS,l,A];have ae:0<sz+1:=by exact Nat.succ_pos _
   simp[c0,M,O,Q,sp,H,B]
noncomputable abbrev q1:SM:=(Qel (Qcm [3,4,5,6]) (Qb 1))
noncomputable abbrev q2:SM:=(Qel (Qcm [7,8]) (Qb 2))
noncomputable abbrev q3:SM:=(QP 9 (Jh XL (V9 (Qa (mC (.int 8)) Qd)) [none,some 0] (ZU 0) Yk (Ql 2 Qi (Qa (Qb 1) (Qa (Qc Zs (mC (.int 4)) (Qb 0)) Qd)))))
noncomputable abbrev q4:SM:=(QP 10 (Qc wIx (mFn Zb (Qa (mFn Q4 (Qa (mC (.str "same")) (Qa (Qb 4) (Qa (Qb 3) Qd)))) (Qa (mFn Q4 (Qa (mC (.str "pair")) (Qa (Qb 4) (Qa (Qb 8) (Qa (Qb 3) (Qa (Qb 6) Qd)))))) (Qa (mFn Q4 (Qa (mC (.str "pair")) (Qa (Qb 4) (Qa (Qb 8) (Qa (Qb 6) (Qa (Qb 3) Qd)))))) Qd)))) (Qc JC (Qc wIx (Qb 9) (mC (.int 0))) (mC (.int 3)))))
noncomputable abbrev q5:SM:=(QP 11 (mFn Yi (Qa (mFn Q4 (Qa (mC (.str "pair")) (Qa (Qb 3) (Qa (Qb 7) (Qa (Qb 6) (Qa (Qb 6) Qd)))))) (Qa (Qb 10) Qd))))
noncomputable abbrev q6:SM:=(Q9 (Qg (Qc wEq (Qc JC (Qc KW (Qc wIx (Qb 9) (mC (.int 0))) (mC (.int 3))) (mC (.int 3))) (mC (.int 0)))) (QP 11 (Qc Zs (Qb 11) (mFn Zb (Qa (mFn Q4 (Qa (mC (.str "none")) (Qa (Qb 3) Qd))) Qd)))) Qx)
noncomputable abbrev q7:SM:=(QP 12 (mFn Zb (Qa (mFn Q4 (Qa (mC (.str "back")) (Qa (Qc wIx (mFn Zb (Qa (Qb 7) (Qa (Qb 8) Qd))) (mFn Qg1 (Qa (Qc wEq (Qc JC (Qc wIx (Qb 9) (mC (.int 1))) (mC (.int 4))) (mC (.int 0))) Qd))) Qd))) Qd)))
noncomputable abbrev q8:SM:=(QP 11 (Qc QbA (Qb 11) (Qc wIx (mFn Zb (Qa (Qb 12) (Qa (Qc Zs (Qb 12) (Qb 12)) (Qa (Qc Zs (Qc Zs (mFn Zb (Qa (mFn Q4 (Qa (mC (.str "again")) Qd)) Qd)) (Qb 12)) (mFn Zb (Qa (mFn Q4 (Qa (mC (.str "end")) Qd)) Qd))) Qd)))) (Qc JC (Qc KW (Qc wIx (Qb 9) (mC (.int 1))) (mC (.int 4))) (mC (.int 3))))))
noncomputable abbrev q9:SM:=(Vv (V9 (Qa (Qc JC (Qc wIx (Qb 9) (mC (.int 2))) (mC (.int 6))) Qd)) (ZU 13)
  Jz)
noncomputable abbrev q10:SM:=(Q9 (Qg (Qc wEq (Qc JC (Qc wIx (Qb 9) (mC (.int 4))) (mC (.int 3))) (mC (.int 0)))) (QP 11 (Qc Zs (Qb 11) (mFn Zb (Qa (mFn Q4 (Qa (mC (.str "same")) (Qa (Qb 5) (Qa (Qb 4) Qd)))) (Qa (mFn Q4 (Qa (mC (.str "pair")) (Qa (Qb 6) (Qa (Qb 8) (Qa (Qb 5) (Qa (Qb 3) Qd)))))) Qd))))) Qx)
noncomputable abbrev q11:SM:=(QP 14 (Qc JC (Qc wIx (Qb 9) (mC (.int 5))) (mC (.int 8))))
noncomputable abbrev q12:SM:=(QP 15 (mFn Zb (Qa (mFn Q4 (Qa (mC (.str "tell")) (Qa (Qb 3) Qd))) (Qa (mFn Q4 (Qa (mC (.str "tell")) (Qa (Qb 4) Qd))) (Qa (mFn Q4 (Qa (mC (.str "first")) (Qa (Qb 5) (Qa (Qb 3) Qd)))) (Qa (mFn Q4 (Qa (mC (.str "second")) (Qa (Qb 5) (Qa (Qb 4) Qd)))) (Qa (mFn Q4 (Qa (mC (.str "first")) (Qa (Qb 5) (Qa (Qb 4) Qd)))) (Qa (mFn Q4 (Qa (mC (.str "same")) (Qa (Qb 5) (Qa (Qb 4) Qd)))) Qd))))))))
noncomputable abbrev q13:SM:=(QP 15 (Qc Zs (Qb 15) (mFn Zb (Qa (mFn Q4 (Qa (mC (.str "pair")) (Qa (Qb 5) (Qa (Qb 7) (Qa (Qb 3) (Qa (Qb 4) Qd)))))) (Qa (mFn Q4 (Qa (mC (.str "tell")) (Qa (Qb 5) Qd))) Qd)))))
noncomputable abbrev q14:SM:=(Zg (Qc Zs (Qb 11) (mFn Zb (Qa (Qc wIx (Qb 15) (Qb 14)) (Qa (mFn Q4 (Qa (mC (.str "tell")) (Qa (Qc wIx (mFn Zb (Qa (Qb 3) (Qa (Qb 4) (Qa (Qb 5) (Qa (Qb 6) Qd))))) (Qc JC (Qc wIx (Qb 9) (mC (.int 6))) (mC (.int 4)))) Qd))) (Qa (mFn Q4 (Qa (mC (.str "first")) (Qa (Qb 6) (Qa (Qb 5) Qd)))) (Qa (mFn Q4 (Qa (mC (.str "tell")) (Qa (Qb 6) Qd))) Qd)))))))
theorem Qbe:JV=QI 13 (Qh q1 (Qh q2 (Qh q3 (Qh q4 (Qh q5 (Qh q6 (Qh q7 (Qh q8 (Qh q9 (Qh q10 (Qh q11 (Qh q12 (Qh q13 q14))))))))))))):=rfl
noncomputable def flat:Li->Bool
 |.doo _|.either|.or|.again|.fin=>false
 |_=>true
theorem YF{l:Li}(h:flat l=true):plain l=true:=by cases l<;>simp[flat]at h<;>rfl
theorem GH{ls:List Li}(h:∀l∈ls,flat l=true)(a:ls.length<=100):Shp ls where
 ag:=fun k b=>by have:=h _ (NA.mpr ⟨k,b⟩);cases this
 fn:=fun k b=>by have:=h _ (NA.mpr ⟨k,b⟩);cases this
 no:=fun l a=>YF (h l a)
 len:=a
theorem U9{A B:List Li}{w:Str}{k:Nat}{l:Li}(b:∀l∈A,flat l=true)(a:∀l∈B,flat l=true)(h:(A++[Li.again,.back w,.fin]++B)[k]?=some l):(flat l=true)\/(k=A.length/\l=.again)\/(k=A.length+2/\l=.fin):=by
 by_cases c:k<A.length
 ·rw[Np (by simp;lia),Np c]at h;exact .inl (b l (NA.mpr ⟨k,h⟩))
 ·obtain⟨j,rfl⟩:∃j,k=A.length+j:=⟨k-A.length,by lia⟩
  rw[ES,NQ (by lia),show A.length+j-A.length=j by lia]at h
  match j,h with
  |0,h=>simp at h;exact .inr (.inl ⟨rfl,h.symm⟩)
  |1,h=>simp at h;rw[<-h];exact .inl rfl
  |2,h=>simp at h;exact .inr (.inr ⟨rfl,h.symm⟩)
  |j+3,h=>simp at h;exact .inl (a l (NA.mpr ⟨j,h⟩))
theorem Gh{A B:List Li}{w:Str}:(A++[Li.again,.back w,.fin]++B)[A.length]?=some .again/\(A++[Li.again,.back w,.fin]++B)[A.length+1]?=some (.back w)/\(A++[Li.again,.back w,.fin]++B)[A.length+2]?=some .fin:=by
 refine⟨?_,?_,?_⟩<;>rw[ES,NQ (by lia)]
 ·simp
 ·rw[show A.length+1-A.length=1 by lia];rfl
 ·rw[show A.length+2-A.length=2 by lia];rfl
theorem QdJ{A B:List Li}{w:Str}(c:∀l∈A,flat l=true)(b:∀l∈B,flat l=true)(d:A.length+B.length<=90):Shp (A++[Li.again,.back w,.fin]++B) where
 ag:=fun k a=>by
  rcases U9 c b a with z|⟨rfl,_⟩|⟨_,z⟩
  ·cases z
  ·exact⟨⟨w,Gh.2.1⟩,Gh.2.2⟩
  ·cases z
 fn:=fun k a=>by
  rcases U9 c b a with z|⟨_,z⟩|⟨rfl,_⟩
  ·cases z
  ·cases z
  ·exact⟨A.length,rfl,Gh.1,w,Gh.2.1⟩
 no:=fun l d=>by
  obtain⟨k,a⟩:=NA.mp d
  rcases U9 c b a with z|⟨_,rfl⟩|⟨_,rfl⟩
  ·exact YF z
  ·rfl
  ·rfl
 len:=by simp;lia
def Fl(bs:List Str)(l:Li):Prop:=flat l=true/\∀y∈bx l,y∈bs
section
variable{ns:List Int}{a b c d f o:Str}{n:Nat->Int}
noncomputable abbrev qS(ns:List Int)(a b c d f o:Str)(m l j i h g e:Option W):MSt:=[some (scr ns),some (ZP [a,b,c,d]),some (ZP [f,o]),some (.str a),some (.str b),some (.str c),some (.str d),some (.str f),some (.str o),m,l,j,i,h,g,e]
noncomputable abbrev nW(n:Nat->Int):W:=.lst [.int (n 0),.int (n 1),.int (n 2),.int (n 3),.int (n 4),.int (n 5),.int (n 6),.int (n 7)]
theorem QmD(l:∀k,k<8->∀h,Qi [scr ns,.int (4+k:Nat)] h=some (.int (n k),h)){r:SM}:Qh q1 (Qh q2 (Qh q3 r)) [some (scr ns),some (ZP [a,b,c,d]),some (ZP [f,o]),none,none,none,none,none,none,none,none,none,none,none,none,none] []=r (qS ns a b c d f o (some (nW n)) none none none none none none) []:=by
 have q:q1 [some (scr ns),some (ZP [a,b,c,d]),some (ZP [f,o]),none,none,none,none,none,none,none,none,none,none,none,none,none] []=some (.nx [some (scr ns),some (ZP [a,b,c,d]),some (ZP [f,o]),some (.str a),some (.str b),some (.str c),some (.str d),none,none,none,none,none,none,none,none,none] []):=rfl;have p:q2 [some (scr ns),some (ZP [a,b,c,d]),some (ZP [f,o]),some (.str a),some (.str b),some (.str c),some (.str d),none,none,none,none,none,none,none,none,none] []=some (.nx (qS ns a b c d f o none none none none none none none) []):=rfl
 have m:q3 (qS ns a b c d f o none none none none none none none) []=some (.nx (qS ns a b c d f o (some (nW n)) none none none none none none) []):=by
  have g:=Wd (fin:=XL) (mi:=V9 (Qa (mC (.int 8)) Qd)) (cp:=[none,some 0]) (me:=Ql 2 Qi (Qa (Qb 1) (Qa (Qc Zs (mC (.int 4)) (Qb 0)) Qd))) (σ:=qS ns a b c d f o none none none none none none none) (caps:=[some (scr ns)]) (h:=[]) (items:=Qw 0 8) (fun w=>match w with|.int k=>.int (n k.toNat)|w=>w) (KY (j:=8) rfl (by decide)) ⟨_,rfl⟩ (fun w hw=>by
   unfold Qw at hw;obtain⟨k,e,rfl⟩:=Eb.mp hw;rw[N7]at e;have:=l k e [];rw[show((4+k:Nat):Int)=4+(k:Int) by lia]at this
   simp[this]) (by rw[Js];exact ND (szN (by decide)))
  simp only[qS]at g;simp[qS,g,XL];rfl
 rw[QA q (QA p (QA m rfl))]
theorem QiI{bs:List Str}{xs:List Li}{i:Int}(j:0<=i)(h1:i<xs.length)(g:∀l∈xs,Fl bs l):∃l,Fl bs l/\atI (xs.map fun l=>Qv (ln l)) i=some (Qv (ln l)):=by
 obtain⟨l,_,h,e⟩:=Qfw (xs:=xs) (f:=fun l=>Qv (ln l)) (P:=Fl bs) j h1 g;exact⟨l,h,e⟩
theorem q45:∃l,Fl [a,b,c,d] l/\∀r:SM,Qh q4 (Qh q5 r) (qS ns a b c d f o (some (nW n)) none none none none none none) []=r (qS ns a b c d f o (some (nW n)) (some (Qv (ln l))) (some (.ref 0)) none none none none) [.lst (eLs [.pair a f d d,l])]:=by
 obtain⟨l,g,e⟩:=QiI (bs:=[a,b,c,d]) (xs:=[.same b a,.pair b o a d,.pair b o d a]) (i:=n 0%3) (NS _ (by decide)) (NM _ (by decide)) (by simp[Fl,flat,bx]);refine⟨l,g,fun r=>?_⟩
 have j:q4 (qS ns a b c d f o (some (nW n)) none none none none none none) []=some (.nx (qS ns a b c d f o (some (nW n)) (some (Qv (ln l))) none none none none none) []):=by
  simp[ln]at e;simp only[Qv,Nr,Em]at e;simp[qS,e];rfl
 have h:q5 (qS ns a b c d f o (some (nW n)) (some (Qv (ln l))) none none none none none) []=some (.nx (qS ns a b c d f o (some (nW n)) (some (Qv (ln l))) (some (.ref 0)) none none none none) [.lst (eLs [.pair a f d d,l])]):=by
  simp[qS,eLs];simp[Qv,ln]
 rw[QA j (QA h rfl)]
theorem Qhk{h:MH}{ws:List W}:loW h (.lst ws)=some ws:=rfl
theorem QjI{l:Li}{A:List Li}(p:A.length<=50):∃B,(B=[]\/B=[Li.non a])/\∃v,loW [.lst (eLs A)] v=some (eLs (A++B))/\∀e,q6 (qS ns a b c d f o (some (nW n)) e (some (.ref 0)) none none none none) [.lst (eLs A)]=some (.nx (qS ns a b c d f o (some (nW n)) e (some v) none none none none) [.lst (eLs A)]):=by
 by_cases g:n 0/3%3=0
 ·refine⟨[.non a],.inr rfl,.lst (eLs (A++[.non a])),rfl,fun e=>?_⟩;have i:A.length+1<=sizeLine:=ND (szN (by lia))
  have m:∀h w,h=[MO.lst (eLs A)]->Zs (.ref 0) (.lst [w]) h=some (.lst (eLs A++[w]),h):=by
   intro h w j;subst j;show(if(eLs A).length+1<=sizeLine then _ else _)=_;rw[if_pos (by simp[eLs];exact i)]
  simp[qS,g,m];simp[Qv,ln]
 ·refine⟨[],.inl rfl,.ref 0,by rw[N9];rfl,fun e=>?_⟩;simp[qS,g]
theorem Qkg:∃w,∀g e h,q7 (qS ns a b c d f o (some (nW n)) g e none none none none) h=some (.nx (qS ns a b c d f o (some (nW n)) g e (some (.lst [Qv (ln (.back w))])) none none none) h):=by
 by_cases i:n 1%4=0
 ·exact⟨o,fun g e h=>by simp[qS,i,Qv,ln,Qg1]⟩
 ·exact⟨f,fun g e h=>by simp[qS,i,Qv,ln,Qg1]⟩
noncomputable def QgH(w:Str):List (List Li):=[[.back w],[.back w,.back w],[.again,.back w,.fin]]
theorem QkK{w:Str}{A:List Li}{o1:MO}{v:W}(z:A.length<=50)(q:loW [o1] v=some (eLs A)):∃X∈QgH w,∀g,q8 (qS ns a b c d f o (some (nW n)) g (some v) (some (.lst [Qv (ln (.back w))])) none none none) [o1]=some (.nx (qS ns a b c d f o (some (nW n)) g (some (.ref 1)) (some (.lst [Qv (ln (.back w))])) none none none) [o1,.lst (eLs (A++X))]):=by
 obtain⟨X,j,_,e⟩:=Qfw (xs:=QgH w) (f:=fun x=>W.lst (eLs x)) (P:=fun _=>True) (i:=n 1/4%3) (NS _ (by decide)) (NM _ (by decide)) (fun _ _=>trivial);refine⟨X,j,fun g=>?_⟩;have r:X.length<=3:=by simp[QgH]at j;rcases j with rfl|rfl|rfl<;>simp
 have p:A.length+X.length<=sizeLine:=ND (szN (by lia))
 have l:QbA v (.lst (eLs X)) [o1]=some (.ref 1,[o1,.lst (eLs (A++X))]):=by
  unfold QbA;rw[q,Nj,Qhk,Nj,if_pos (by simp[eLs];exact p)];simp[eLs]
 have s:∀(x y:List W) (h:MH),Zs (.lst x) (.lst y) h=if x.length+y.length<=sizeLine then some (.lst (x++y),h)else none:=fun x y h=>rfl
 generalize u:MO.lst (eLs (A++X))=Z at l ⊢;have m:atI ((QgH w).map fun x=>W.lst (eLs x)) (n 1/4%3)=some (W.lst (eLs X)):=e;clear e;generalize W.lst (eLs X)=Y at m l;simp only[QgH,eLs,ln,Qv,Nr,Em]at m;simp only[Qv,ln,Nr,Em];simp[qS,s,m,l]
noncomputable abbrev dS(ns:List Int)(a b c d f o:Str)(n:Nat->Int)(h g e:Option W):MSt:=qS ns a b c d f o (some (nW n)) h (some (.ref 1)) g e none none
theorem Qj7{A:List Li}{o1:MO}(U:A.length<=50)(M:∀l∈A,True):∃P:List Li,P.length<=5/\(∀l∈P,Fl [a,b,c,d] l)/\∀p g,∃q,q9 (dS ns a b c d f o n p g none) [o1,.lst (eLs A)]=some (.nx (dS ns a b c d f o n p g q) [o1,.lst (eLs (A++P))]):=by
 have G:0<=n 2%6:=NS _ (by decide);have T:n 2%6<6:=NM _ (by decide);obtain⟨m,I⟩:∃m:Nat,n 2%6=m:=⟨(n 2%6).toNat,(Et G).symm⟩
 have y:m<=5:=by lia
 obtain⟨x,C,D⟩:=QfM (xs:=[c,d]) (i:=n 2/6%2) (NS _ (by decide)) (NM _ (by decide))
 have hw:∀k:Nat,∃w,atI ([f,o].map W.str) (n 3/((k:Int)+1)%2)=some (.str w):=fun k=>by
  obtain⟨w,_,e⟩:=QfM (xs:=[f,o]) (i:=n 3/((k:Int)+1)%2) (NS _ (by decide)) (NM _ (by decide));exact⟨w,e⟩
 let r:Nat->Str:=fun k=>Classical.choose (hw k)
 have N:∀k:Nat,atI ([f,o].map W.str) (n 3/((k:Int)+1)%2)=some (.str (r k)):=fun k=>Iw (hw k)
 let P:Nat->List Li:=fun j=>(List.range j).map fun k=>.pair x (r k) c b
 refine⟨P m,by simp[P];exact y,fun l u=>?_,fun p g=>?_⟩
 ·simp only[P,Eb]at u;obtain⟨k,_,rfl⟩:=u;simp at C;exact⟨rfl,by simp[bx];rcases C with rfl|rfl<;>simp⟩
 ·have s:=Vh (items:=Qw 0 m) (b:=ZU 13) (body:=Jz) (fun j z h=>∃q,z=dS ns a b c d f o n p g q/\h=[o1,.lst (eLs (A++P j))]) (Qw 0 m) 0 (dS ns a b c d f o n p g none) [o1,.lst (eLs A)] ⟨none,rfl,by simp[P]⟩ (by
   rintro j v H z h ⟨q,rfl,rfl⟩
   obtain⟨J,rfl⟩:=Gu H;rw[NZ]at *;have L:P (j+1)=P j++[.pair x (r j) c b]:=by simp only[P];rw[F0,ER];rfl
   have u:(A++P j).length<=60:=by simp[P];lia
   refine⟨dS ns a b c d f o n p g (some (.int j)),rfl,dS ns a b c d f o n p g (some (.int j)),[o1,.lst (eLs (A++P (j+1)))],.inl ?_,_,rfl,rfl⟩;rw[L,<-ES];generalize A++P j=Z at u ⊢;have B:(eLs Z).length<sizeLine:=by simp[eLs];exact szN (by lia)
   have S:(0:Int)<(j:Int)+1:=by lia
   have R:(j:Int)+1<1073741824:=by lia
   have t:=N j;have Q:eLs (Z++[.pair x (r j) c b])=eLs Z++[.tup [.str "pair",.str x,.str (r j),.str c,.str b]]:=by simp[eLs,Qv,ln]
   rw[Q];simp at D t;generalize eLs Z=Y at B ⊢
   simp[dS,qS,ZP,D,t,S,R,B])
  obtain⟨E,X,e,q,rfl,rfl⟩:=s;rw[Js,NZ]at e;refine⟨q,?_⟩;have O:V9 (Qa (Qc JC (Qc wIx (Qb 9) (mC (.int 2))) (mC (.int 6))) Qd) (dS ns a b c d f o n p g none) [o1,.lst (eLs A)]=some (Qw 0 m,none,[o1,.lst (eLs A)]):=KY (by simp[dS,qS,I]) (by lia);unfold q9 Vv;rw[O,Nj];exact e
end
section
variable{ns:List Int}{a b c d f o:Str}{n:Nat->Int}
theorem Qem{v:W}{xs ys:List W}{h:MH}(e:loW h v=some xs)(g:xs.length+ys.length<=sizeLine):Zs v (.lst ys) h=some (.lst (xs++ys),h):=by
 cases v with
 |lst i=>cases e;show(if _ then _ else _)=_;rw[if_pos g]
 |frz i=>first|(cases e;show(if _ then _ else _)=_;rw[if_pos g])|cases e
 |ref k=>
  show((loW h (.ref k)).bind fun xs=>(loW h (.lst ys)).bind fun ys=>if xs.length+ys.length<=sizeLine then some (W.lst (xs++ys),h)else none)=_;rw[e,Nj,Qhk,Nj,if_pos g]
 |_=>cases e
@[simp]theorem Qob{xs:List e}:atI xs 5=xs[5]?:=Qs (n:=5)
@[simp]theorem Qoa{xs:List e}:atI xs 6=xs[6]?:=Qs (n:=6)
theorem Qhq{A:List Li}{o1:MO}(s:A.length<=80):∃Q:List Li,Q.length<=2/\(∀l∈Q,Fl [a,b,c,d] l)/\∃v,loW [o1,.lst (eLs A)] v=some (eLs (A++Q))/\∀i g e,q10 (dS ns a b c d f o n i g e) [o1,.lst (eLs A)]=some (.nx (qS ns a b c d f o (some (nW n)) i (some v) g e none none) [o1,.lst (eLs A)]):=by
 by_cases j:n 4%3=0
 ·refine⟨[.same c b,.pair d o c a],Nn _,by simp[Fl,flat,bx],.lst (eLs (A++[.same c b,.pair d o c a])),rfl,fun i g e=>?_⟩;have p:=Qem (v:=.ref 1) (xs:=eLs A) (ys:=[.tup [.str "same",.str c,.str b],.tup [.str "pair",.str d,.str o,.str c,.str a]]) (h:=[o1,.lst (eLs A)]) rfl (by simp[eLs];exact ND (szN (by lia)));have m:eLs (A++[.same c b,.pair d o c a])=eLs A++[.tup [.str "same",.str c,.str b],.tup [.str "pair",.str d,.str o,.str c,.str a]]:=by simp[eLs,Qv,ln]
  rw[m];generalize eLs A=Z at *;simp[dS,qS,j,p]
 ·refine⟨[],by simp,by simp,.ref 1,by rw[N9];rfl,fun i g e=>?_⟩;simp[dS,qS,j]
theorem QjT{A:List Li}{h:MH}{v:W}(E:A.length<=80)(t:loW h v=some (eLs A)):∃R:List Li,R.length=4/\(∀l∈R,Fl [a,b,c,d] l)/\∀m j g,UA (Qh q11 (Qh q12 (Qh q13 q14)) (qS ns a b c d f o (some (nW n)) m (some v) j g none none) h)=some (.lst (eLs (A++R)),h):=by
 obtain⟨l,u,e⟩:=QiI (bs:=[a,b,c,d]) (xs:=[.tell a,.tell b,.first c a,.second c b,.first c b,.same c b,.pair c f a b,.tell c]) (i:=n 5%8) (NS _ (by decide)) (NM _ (by decide)) (by simp[Fl,flat,bx]);obtain⟨y,s,q⟩:=QfM (xs:=[a,b,c,d]) (i:=n 6%4) (NS _ (by decide)) (NM _ (by decide));refine⟨[l,.tell y,.first d c,.tell d],rfl,?_,fun m j g=>?_⟩
 ·intro z p;simp only[Nx,Ey,or_false]at p
  rcases p with rfl|rfl|rfl|rfl
  ·exact u
  ·exact⟨rfl,by simpa[bx]using s⟩
  ·exact⟨rfl,by simp[bx]⟩
  ·exact⟨rfl,by simp[bx]⟩
 ·have B:=Qem (v:=v) (ys:=[Qv (ln l),.tup [.str "tell",.str y],.tup [.str "first",.str d,.str c],.tup [.str "tell",.str d]]) t (by simp[eLs];exact ND (szN (by lia)));have w:eLs (A++[l,.tell y,.first d c,.tell d])=eLs A++[Qv (ln l),.tup [.str "tell",.str y],.tup [.str "first",.str d,.str c],.tup [.str "tell",.str d]]:=by simp[eLs,Qv,ln]
  rw[w];have C:∀(x y:List W) (h:MH),Zs (.lst x) (.lst y) h=if x.length+y.length<=sizeLine then some (.lst (x++y),h)else none:=fun x y h=>rfl
  generalize Qv (ln l)=L at *;simp only[Qv,ln,Nr,Em]at e q;simp[qS,C,e,q,B]
theorem QdS(I:ns.length<=63):∃ls:List Li,Shp ls/\ls.length<=90/\(∀l∈ls,∀y∈bx l,y∈[a,b,c,d])/\∀h,Je [scr ns,ZP [a,b,c,d],ZP [f,o]] h=some (.lst (eLs ls),h):=by
 have hex:∀k:Nat,∃c:Int,k<8->∀h:MH,Qi [scr ns,.int (4+k:Nat)] h=some (.int c,h):=fun k=>by
  by_cases M:k<8
  ·obtain⟨c,_,e⟩:=Kt ns (4+k) (by lia);exact⟨c,fun _=>e⟩
  ·exact⟨0,fun z=>absurd z M⟩
 let n:Nat->Int:=fun k=>Classical.choose (hex k)
 have J:∀k:Nat,k<8->∀h:MH,Qi [scr ns,.int (4+k:Nat)] h=some (.int (n k),h):=fun k=>Iw (hex k);obtain⟨l,L,e2⟩:=q45 (ns:=ns) (a:=a) (b:=b) (c:=c) (d:=d) (f:=f) (o:=o) (n:=n);obtain⟨B,D,v,H,e3⟩:=QjI (ns:=ns) (a:=a) (b:=b) (c:=c) (d:=d) (f:=f) (o:=o) (n:=n) (l:=l) (A:=[.pair a f d d,l]) (by simp);obtain⟨w,e4⟩:=Qkg (ns:=ns) (a:=a) (b:=b) (c:=c) (d:=d) (f:=f) (o:=o) (n:=n);have U:B.length<=1:=by rcases D with rfl|rfl<;>simp
 obtain⟨X,s,e5⟩:=QkK (ns:=ns) (a:=a) (b:=b) (c:=c) (d:=d) (f:=f) (o:=o) (n:=n) (w:=w) (A:=[.pair a f d d,l]++B) (by simp;lia) H;have N:X.length<=3:=by simp[QgH]at s;rcases s with rfl|rfl|rfl<;>simp
 obtain⟨P,T,x,C⟩:=Qj7 (ns:=ns) (a:=a) (b:=b) (c:=c) (d:=d) (f:=f) (o:=o) (n:=n) (A:=[.pair a f d d,l]++B++X) (o1:=.lst (eLs [.pair a f d d,l])) (by simp;lia) (fun _ _=>trivial);obtain⟨E,C⟩:=C (some (Qv (ln l))) (some (.lst [Qv (ln (.back w))]));obtain⟨Q,S,u,v2,r,Z⟩:=Qhq (ns:=ns) (a:=a) (b:=b) (c:=c) (d:=d) (f:=f) (o:=o) (n:=n) (A:=[.pair a f d d,l]++B++X++P) (o1:=.lst (eLs [.pair a f d d,l])) (by simp;lia);obtain⟨R,O,t,Y⟩:=QjT (ns:=ns) (a:=a) (b:=b) (c:=c) (d:=d) (f:=f) (o:=o) (n:=n) (by simp;lia) r;have j:[Li.pair a f d d,l]++B++X++P++Q++R=([Li.pair a f d d,l]++B)++X++(P++Q++R):=by simp
 have q:∀z∈[Li.pair a f d d,l]++B,Fl [a,b,c,d] z:=fun z i=>by
  simp only[NK,Nx,Ey,or_false]at i
  rcases i with(rfl|rfl)|i
  ·exact⟨rfl,by simp[bx]⟩
  ·exact L
  ·rcases D with rfl|rfl
   ·cases i
   ·rw[NI.mp i];exact⟨rfl,by simp[bx]⟩
 have p:∀z∈P++Q++R,Fl [a,b,c,d] z:=fun z i=>by
  simp only[NK]at i
  rcases i with(i|i)|i
  ·exact x z i
  ·exact u z i
  ·exact t z i
 have m:X=[.back w]\/X=[.back w,.back w]\/X=[.again,.back w,.fin]:=by simpa[QgH]using s
 refine⟨[Li.pair a f d d,l]++B++X++P++Q++R,?_,by simp;lia,?_,fun h=>QF (g:=[.lst (eLs [.pair a f d d,l]),.lst (eLs ([.pair a f d d,l]++B++X++P))]) (by simp[scr]) ?_ (by rw[Qk8];exact KL)⟩
 ·rw[j]
  rcases m with rfl|rfl|rfl
  ·refine GH (fun z i=>?_) (by simp;lia);simp only[NK,NI]at i q p
   rcases i with(i|rfl)|i
   ·exact(q z i).1
   ·rfl
   ·exact(p z i).1
  ·refine GH (fun z i=>?_) (by simp;lia)
   rcases NK.mp i with i|i
   ·rcases NK.mp i with i|i
    ·exact(q z i).1
    ·simp at i;subst i;rfl
   ·exact(p z i).1
  ·exact QdJ (fun z i=>(q z i).1) (fun z i=>(p z i).1) (by simp;lia)
 ·rw[j];intro z i
  rcases NK.mp i with i|i
  ·rcases NK.mp i with i|i
   ·exact(q z i).2
   ·have:bx z=[]:=by rcases m with rfl|rfl|rfl<;>simp at i<;>(first|(rcases i with rfl|rfl|rfl<;>rfl)|(subst i;rfl))
    rw[this];intro y G;cases G
  ·exact(p z i).2
 ·rw[Qbe];show UA (Qh q1 (Qh q2 (Qh q3 _)) [some (scr ns),some (ZP [a,b,c,d]),some (ZP [f,o]),none,none,none,none,none,none,none,none,none,none,none,none,none] [])=_;rw[QmD J,e2,QA (e3 _) (QA (e4 _ _ _) (QA (e5 _) (QA C (QA (Z _ _ _) rfl))))];exact Y _ _ _
end
theorem QdV{a:W}{h:MH}(b:pln a=true)(c:dep a<=40):wNe a a h=some (.bl false,h):=by rw[Qmp b b c c,G7 a b];rfl
theorem Qkt{r:Str×Nat×List Str×List Int}:pln (Qg0 r)=true:=by
 unfold Qg0;simp[pln,Km,WO]
theorem Qkl{r:Str×Nat×List Str×List Int}:dep (Qg0 r)<=40:=by
 have d:=Wh (xs:=r.2.2.1);have c:=W4 (ns:=r.2.2.2);unfold Qg0;simp[dep,Yp];lia
noncomputable abbrev mS(ns:List Int)(b w p c a:Option W):MSt:=[some (scr ns),b,w,p,c,a]
theorem QgD{C:Addr}{ns:List Int}{b w:Option W}{ls:List Li}{B:List Str}{zz:Nat}{cs:List Nat}(f:GP B [("main",ls)])(Sp:Shp ls)(hz:zz<=50)(i:∀c∈cs,c<=1)(n:cs.length<=3) :
  Wc C (mS ns b w (some (Q2 (pp [("main",ls)]))) (some (.int zz)) (some (.lst (Vn cs)))) []=some (.nx (mS ns b w (some (Q2 (pp [("main",ls)]))) (some (.int zz)) (some (.lst (Vn cs)))) []):=by
 have v0:SV ls (sp0 0):=⟨rfl,rfl,NT _,by simp[sp0]⟩
 have hr:=Qhg (ls:=ls) (s:=sp0 0);have e:=Sp.len;obtain⟨d,g,a⟩:=QkL Sp 780 (sp0 0) cs v0 i (by lia);have m:=Qao (C:=C) f Sp g (by lia) hz [];have l:=US (nm:="main") Sp g a hz [];have j:=fun h=>QdV (h:=h) (Qkt (r:=sim zz (Ju [("main",ls)] (sp0 0::d)) 0 S0)) Qkl;simp[mS,m,l,j]
theorem main(C:Addr)(ns:List Int)(D:ns.length<=63):∃h',KP C [.frz (ns.map W.int)] []=some (.bl true,h'):=by
 obtain⟨T,Y,e0⟩:=Kt ns 0 (by decide);obtain⟨S,X,e1⟩:=Kt ns 1 (by decide);obtain⟨w,p2,e2⟩:=Kt ns 2 (by decide);obtain⟨bs,hb,eb⟩:=Qab Y (m:=4) (by decide);obtain⟨N,hw,ew⟩:=Qab X (m:=2) (by decide)
 obtain⟨a,b,c,d,rfl⟩:∃a b c d,bs=[a,b,c,d]:=by
  match bs,hb with
  |[a,b,c,d],_=>exact⟨a,b,c,d,rfl⟩
 obtain⟨f,o,rfl⟩:∃f o,N=[f,o]:=by
  match N,hw with
  |[f,o],_=>exact⟨f,o,rfl⟩
 obtain⟨g,Sp,hl,F,Q⟩:=QdS (ns:=ns) (a:=a) (b:=b) (c:=c) (d:=d) (f:=f) (o:=o) D;have hg:GP [a,b,c,d] [("main",g)]:=⟨by simp,by simp;lia,by simpa[als]using F,by simp⟩
 have m0:0<=w%9:=NS _ (by decide);have m1:w%9<9:=NM _ (by decide);obtain⟨m,hm⟩:∃m:Nat,1+w%9=m:=⟨(1+w%9).toNat,by lia⟩
 have Z:m<=9:=by lia
 let q:List Nat:=[m,9,1,0]
 let r:List (List Nat):=[[1,0],[1,1,0],[0],[]]
 have inner:∀(n:Nat) l,n<=50->∃t,Xo C (mS ns (some (ZP [a,b,c,d])) (some (ZP [f,o])) (some (Q2 (pp [("main",g)]))) (some (.int n)) l) []=some (.nx (mS ns (some (ZP [a,b,c,d])) (some (ZP [f,o])) (some (Q2 (pp [("main",g)]))) (some (.int n)) t) []):=by
  intro n l B
  have p:=Vh (items:=r.map fun x=>W.lst (Vn x)) (b:=ZU 5) (body:=Wc C) (fun j s h=>∃l,s=mS ns (some (ZP [a,b,c,d])) (some (ZP [f,o])) (some (Q2 (pp [("main",g)]))) (some (.int n)) l/\h=[]) (r.map fun x=>W.lst (Vn x)) 0 (mS ns (some (ZP [a,b,c,d])) (some (ZP [f,o])) (some (Q2 (pp [("main",g)]))) (some (.int n)) l) [] ⟨l,rfl,rfl⟩ (by
   rintro j v u s h ⟨x,rfl,rfl⟩
   rw[Nq]at u;obtain⟨R,E,rfl⟩:=Nf.mp u;have i:=NA.mpr ⟨j,E⟩
   have O:(∀c∈R,c<=1)/\R.length<=3:=by
    simp[r]at i
    rcases i with rfl|rfl|rfl|rfl<;>simp
   exact⟨_,rfl,_,_,.inl (QgD hg Sp B O.1 O.2),_,rfl,rfl⟩)
  obtain⟨z,h',e,U,rfl,rfl⟩:=p;refine⟨U,?_⟩
  have H:Jw (mFn Zb (Qa (mFn Zb (Qa (mC (.int 1)) (Qa (mC (.int 0)) Qd))) (Qa (mFn Zb (Qa (mC (.int 1)) (Qa (mC (.int 1)) (Qa (mC (.int 0)) Qd)))) (Qa (mFn Zb (Qa (mC (.int 0)) Qd)) (Qa (mFn Zb Qd) Qd))))) (mS ns (some (ZP [a,b,c,d])) (some (ZP [f,o])) (some (Q2 (pp [("main",g)]))) (some (.int n)) l) []=some (r.map fun x=>W.lst (Vn x),none,[]):=by
   unfold Jw;have:(mFn Zb (Qa (mFn Zb (Qa (mC (.int 1)) (Qa (mC (.int 0)) Qd))) (Qa (mFn Zb (Qa (mC (.int 1)) (Qa (mC (.int 1)) (Qa (mC (.int 0)) Qd)))) (Qa (mFn Zb (Qa (mC (.int 0)) Qd)) (Qa (mFn Zb Qd) Qd))))) (mS ns (some (ZP [a,b,c,d])) (some (ZP [f,o])) (some (Q2 (pp [("main",g)]))) (some (.int n)) l) []=some (.lst (r.map fun x=>W.lst (Vn x)),[]):=by simp[r]
   rw[this];rfl
  unfold Xo Vv;rw[H,Nj];exact e
 have p:=Vh (items:=q.map fun(x:Nat)=>W.int x) (b:=ZU 4) (body:=Xo C) (fun j s h=>∃y l,s=mS ns (some (ZP [a,b,c,d])) (some (ZP [f,o])) (some (Q2 (pp [("main",g)]))) y l/\h=[]) (q.map fun(x:Nat)=>W.int x) 0 (mS ns (some (ZP [a,b,c,d])) (some (ZP [f,o])) (some (Q2 (pp [("main",g)]))) none none) [] ⟨_,_,rfl,rfl⟩ (by
  rintro j v u s h ⟨y,l,rfl,rfl⟩
  rw[Nq]at u;obtain⟨n,A,rfl⟩:=Nf.mp u;have i:=NA.mpr ⟨j,A⟩;have B:n<=50:=by simp[q]at i;rcases i with rfl|rfl|rfl|rfl<;>lia
  obtain⟨t,e⟩:=inner n l B
  exact⟨_,rfl,_,_,.inl e,_,_,rfl,rfl⟩)
 obtain⟨z,h',e,y,l,rfl,rfl⟩:=p
 have H:Jw (mFn Zb (Qa (Qc Zs (mC (.int 1)) (Qc JC (Ql 2 Qi (Qa (Qb 0) (Qa (mC (.int 2)) Qd))) (mC (.int 9)))) (Qa (mC (.int 9)) (Qa (mC (.int 1)) (Qa (mC (.int 0)) Qd))))) (mS ns (some (ZP [a,b,c,d])) (some (ZP [f,o])) (some (Q2 (pp [("main",g)]))) none none) []=some (q.map fun(x:Nat)=>W.int x,none,[]):=by
  unfold Jw
  have:(mFn Zb (Qa (Qc Zs (mC (.int 1)) (Qc JC (Ql 2 Qi (Qa (Qb 0) (Qa (mC (.int 2)) Qd))) (mC (.int 9)))) (Qa (mC (.int 9)) (Qa (mC (.int 1)) (Qa (mC (.int 0)) Qd))))) (mS ns (some (ZP [a,b,c,d])) (some (ZP [f,o])) (some (Q2 (pp [("main",g)]))) none none) []=some (.lst (q.map fun(x:Nat)=>W.int x),[]):=by
   have J:∀h,Qi [scr ns,.int 2] h=some (.int w,h):=e2;simp[mS,J,q,hm]
  rw[this];rfl
 refine⟨[],?_⟩;have M:∀h,Qi [scr ns,.int 0] h=some (.int T,h):=e0;have L:∀h,Qi [scr ns,.int 1] h=some (.int S,h):=e1;have I:∀h,QU [.int T,.int 4] h=some (ZP [a,b,c,d],h):=eb;have G:∀h,QU [.int S,.int 2] h=some (ZP [f,o],h):=ew;have a1:QP 1 (Ql 2 QU (Qa (Ql 2 Qi (Qa (Qb 0) (Qa (mC (.int 0)) Qd))) (Qa (mC (.int 4)) Qd))) (mS ns none none none none none) []=some (.nx (mS ns (some (ZP [a,b,c,d])) none none none none) []):=by simp[mS,M,I]
 have a2:QP 2 (Ql 2 QU (Qa (Ql 2 Qi (Qa (Qb 0) (Qa (mC (.int 1)) Qd))) (Qa (mC (.int 2)) Qd))) (mS ns (some (ZP [a,b,c,d])) none none none none) []=some (.nx (mS ns (some (ZP [a,b,c,d])) (some (ZP [f,o])) none none none) []):=by simp[mS,L,G]
 have a3:QP 3 (mFn Q4 (Qa (mFn Q4 (Qa (mC (.str "main")) (Qa (mFn Uu (Qa (Ql 3 Je (Qa (Qb 0) (Qa (Qb 1) (Qa (Qb 2) Qd)))) Qd)) Qd))) Qd)) (mS ns (some (ZP [a,b,c,d])) (some (ZP [f,o])) none none none) []=some (.nx (mS ns (some (ZP [a,b,c,d])) (some (ZP [f,o])) (some (Q2 (pp [("main",g)]))) none none) []):=by
  have P:∀h,Uu [.lst (eLs g)] h=some (.tup (eLs g),h):=fun h=>rfl;have ep:Q2 (pp [("main",g)])=.tup [.tup [.str "main",.tup (eLs g)]]:=by simp[Q2,pp,Ym,eLs]
  rw[ep];simp only[eLs]at Q P ⊢;simp[mS,Q,P]
 have a4:Vv (Jw (mFn Zb (Qa (Qc Zs (mC (.int 1)) (Qc JC (Ql 2 Qi (Qa (Qb 0) (Qa (mC (.int 2)) Qd))) (mC (.int 9)))) (Qa (mC (.int 9)) (Qa (mC (.int 1)) (Qa (mC (.int 0)) Qd)))))) (ZU 4) (Xo C) (mS ns (some (ZP [a,b,c,d])) (some (ZP [f,o])) (some (Q2 (pp [("main",g)]))) none none) []=some (.nx (mS ns (some (ZP [a,b,c,d])) (some (ZP [f,o])) (some (Q2 (pp [("main",g)]))) y l) []):=by
  unfold Vv;rw[H,Nj];exact e
 show UA (Qh _ (Qh _ (Qh _ (Qh _ _))) (mS ns none none none none none) [])=_;rw[QA a1 (QA a2 (QA a3 (QA a4 rfl)))];rfl
end My
def PySem.W.Fast.tw4379920958019314918:Unit:=()
def PySem.W.Fast.tw1602072596251670199:Unit:=()
def PySem.W.Fast.tw2943402313321086211:Unit:=()
def PySem.W.Fast.tw10760021464328769036:Unit:=()
def PySem.W.Fast.tw18044908821283347770:Unit:=()
def PySem.W.Fast.tw15453058480357400020:Unit:=()
def PySem.W.Fast.tw3266792691331429561:Unit:=()
def PySem.W.Fast.tw6127060011755438502:Unit:=()
def PySem.W.Fast.tw13472305349474254582:Unit:=()
def PySem.W.Fast.tw2629459812934694405:Unit:=()
def PySem.W.Fast.tw13232973215808282215:Unit:=()
def PySem.W.Fast.tw1906135027682760813:Unit:=()
def PySem.W.Fast.tw4926623106585410458:Unit:=()
def PySem.W.Fast.tw11468218423757303500:Unit:=()
def PySem.W.Fast.tw1256161050069560358:Unit:=()
def PySem.W.Fast.tw11448242049668778153:Unit:=()
def PySem.W.Fast.tw7768591521217414231:Unit:=()
def PySem.W.Fast.tw15081659220994993950:Unit:=()
def PySem.W.Fast.tw9023401309349127154:Unit:=()
def PySem.W.Fast.tw8457224736806000457:Unit:=()
def PySem.W.Fast.tw11509816638421433132:Unit:=()
def PySem.W.Fast.tw6288930836029062366:Unit:=()
def PySem.W.Fast.tw9252665561174171887:Unit:=()
def PySem.W.Fast.tw6517498886174765052:Unit:=()
def PySem.W.Fast.tw14210172905804970911:Unit:=()
def PySem.W.Fast.tw13931256041192232699:Unit:=()
def PySem.W.Fast.tw8814425492085326889:Unit:=()
def PySem.W.Fast.tw1812484277662645876:Unit:=()
def PySem.W.Fast.tw14519737161818136249:Unit:=()
def PySem.W.Fast.tw2299495536824318911:Unit:=()
def PySem.W.Fast.tw1979543625932432432:Unit:=()
def PySem.W.Fast.tw13886358433457085437:Unit:=()
def PySem.W.Fast.tw13560020775280949615:Unit:=()
def PySem.W.Fast.tw16059215234452970482:Unit:=()
def PySem.W.Fast.tw14361584751216347120:Unit:=()
def PySem.W.Fast.tw10817340415826355321:Unit:=()
def PySem.W.Fast.tw13051240896887679713:Unit:=()
def PySem.W.Fast.tw17886724244904718530:Unit:=()
def PySem.W.Fast.tw5830985031934642907:Unit:=()
def PySem.W.Fast.tw260809830006755400:Unit:=()
def PySem.W.Fast.tw11007549811209786456:Unit:=()
def PySem.W.Fast.tw2034304201731703630:Unit:=()
def PySem.W.Fast.tw18222815633413116682:Unit:=()
def PySem.W.Fast.tw3920103539416643837:Unit:=()
def PySem.W.Fast.tw16378786245400940947:Unit:=()
def PySem.W.Fast.tw8514257097828891997:Unit:=()
def PySem.W.Fast.tw11211427322882953254:Unit:=()
open PySem PySem.W PyProof.Rows
local macro_rules | `(tactic| walk_at $s:str) => do
  match s.getString with
  | "~0" => `(tactic| (dsimp only [L2.KOf]; refine' Mi.Xi $(Lean.mkIdent `KX) $(Lean.mkIdent `G) ?a ?l ?c ?k ?b; (case a => k_is); (case l => k_is); (case c => k_is); (case k => k_is); (case b => exact fun _ _ _ _ _ _ => Mi.ar0 rfl)))
  | "~1" => `(tactic| (dsimp only [L2.KOf]; refine' Mi.Xi $(Lean.mkIdent `KX) $(Lean.mkIdent `G) ?a ?l ?c ?k ?b; (case a => k_is); (case l => k_is); (case c => k_is); (case k => k_is); (case b => exact fun _ _ _ _ _ _ => Mi.ar1 (fun _ => rfl))))
  | "~2" => `(tactic| (dsimp only [L2.KOf]; refine' Mi.Xi $(Lean.mkIdent `KX) $(Lean.mkIdent `G) ?a ?l ?c ?k ?b; (case a => k_is); (case l => k_is); (case c => k_is); (case k => k_is); (case b => exact fun _ _ _ _ _ _ => Mi.ar2 (fun _ _ => rfl))))
  | "~3" => `(tactic| (dsimp only [L2.KOf]; refine' Mi.Xi $(Lean.mkIdent `KX) $(Lean.mkIdent `G) ?a ?l ?c ?k ?b; (case a => k_is); (case l => k_is); (case c => k_is); (case k => k_is); (case b => exact fun _ _ _ _ _ _ => Mi.ar3 (fun _ _ _ => rfl))))
  | "~5" => `(tactic| (dsimp only [L2.KOf]; refine' Mi.Xi $(Lean.mkIdent `KX) $(Lean.mkIdent `G) ?a ?l ?c ?k ?b; (case a => k_is); (case l => k_is); (case c => k_is); (case k => k_is); (case b => exact fun _ _ _ _ _ _ => Mi.ar5 (fun _ _ _ _ _ => rfl))))
  | "~b" => `(tactic| (refine' PySem.W.mg_none_of $(Lean.mkIdent `KX) $(Lean.mkIdent `G) ?a; (case a => k_is)))
  | _ => Lean.Macro.throwUnsupported
set_option maxRecDepth 100000 in
set_option maxHeartbeats 0 in
theorem PySem.Challenge.cw_doneroom_k62_gone_by_the_room_holds : PySem.Challenge.rw_doneroom_k62_gone_by_the_room.Holds := by
  w_on; o_law; k_head; (case hw => w_witness2)
  k_fill
  refine Mi.Qj4 (l := PySem.Challenge.rw_doneroom_k62_gone_by_the_room) (st := My.Uk) (sem := My.KP) (k := 8) rfl rfl ⟨rfl, by decide, by decide⟩ rfl (fun w h Y => PySem.W.kIn_of Y) (fun _ _ _ _ _ _ _ _ => .of_eq rfl) ?F My.main
  case F =>
    intro w mg h KX G
    obtain ⟨C_Shelf, k_Shelf, n_free_again, n_fresh, n_gone, n_held, n_in_use, n_rooms, n_size, n_taken, n_words, d_Shelf___init__, d_Shelf_bar, d_Shelf_make_room, d_Shelf_give_back, d_Shelf_pass_line⟩ : ∃ C_Shelf, Mi.ClsAt (L2.KOf KX) mg C_Shelf "Shelf" ∧ L2.NoAttr (L2.KOf KX) C_Shelf "free_again" ∧ L2.NoAttr (L2.KOf KX) C_Shelf "fresh" ∧ L2.NoAttr (L2.KOf KX) C_Shelf "gone" ∧ L2.NoAttr (L2.KOf KX) C_Shelf "held" ∧ L2.NoAttr (L2.KOf KX) C_Shelf "in_use" ∧ L2.NoAttr (L2.KOf KX) C_Shelf "rooms" ∧ L2.NoAttr (L2.KOf KX) C_Shelf "size" ∧ L2.NoAttr (L2.KOf KX) C_Shelf "taken" ∧ L2.NoAttr (L2.KOf KX) C_Shelf "words" ∧ Mi.MetAt (L2.KOf KX) C_Shelf "__init__" "Shelf.__init__" My.Zo ["self", "program", "size"] ∧ Mi.MetAt (L2.KOf KX) C_Shelf "bar" "Shelf.bar" My.JP ["self", "line"] ∧ Mi.MetAt (L2.KOf KX) C_Shelf "make_room" "Shelf.make_room" My.Zd ["self", "line"] ∧ Mi.MetAt (L2.KOf KX) C_Shelf "give_back" "Shelf.give_back" My.Ze ["self", "word"] ∧ Mi.MetAt (L2.KOf KX) C_Shelf "pass_line" "Shelf.pass_line" My.Zc ["self", "line"] := by
      unfold L2.NoAttr
      dsimp only [L2.KOf]
      refine' ⟨?C, Mi.QdI KX G ?aC ?pg ?hd ?po ?sa ?mk ?kc, ?n0, ?n1, ?n2, ?n3, ?n4, ?n5, ?n6, ?n7, ?n8, Mi.Xa ?a0 ?i0 ?l0 ?c0 ?k0 ?b0, Mi.Xa ?a1 ?i1 ?l1 ?c1 ?k1 ?b1, Mi.Xa ?a2 ?i2 ?l2 ?c2 ?k2 ?b2, Mi.Xa ?a3 ?i3 ?l3 ?c3 ?k3 ?b3, Mi.Xa ?a4 ?i4 ?l4 ?c4 ?k4 ?b4⟩
      (case aC => k_is); (case pg => k_is); (case hd => k_is); (case po => k_is); (case sa => k_is); (case mk => k_is); (case kc => k_is)
      (case n0 => k_is)
      (case n1 => k_is)
      (case n2 => k_is)
      (case n3 => k_is)
      (case n4 => k_is)
      (case n5 => k_is)
      (case n6 => k_is)
      (case n7 => k_is)
      (case n8 => k_is)
      (case a0 => k_is); (case i0 => k_is); (case l0 => k_is); (case c0 => k_is); (case k0 => k_is)
      (case b0 => exact fun _ _ _ _ _ _ us hl => match us, hl with | [_, _, _], _ => rfl)
      (case a1 => k_is); (case i1 => k_is); (case l1 => k_is); (case c1 => k_is); (case k1 => k_is)
      (case b1 => exact fun _ _ _ _ _ _ us hl => match us, hl with | [_, _], _ => rfl)
      (case a2 => k_is); (case i2 => k_is); (case l2 => k_is); (case c2 => k_is); (case k2 => k_is)
      (case b2 => exact fun _ _ _ _ _ _ us hl => match us, hl with | [_, _], _ => rfl)
      (case a3 => k_is); (case i3 => k_is); (case l3 => k_is); (case c3 => k_is); (case k3 => k_is)
      (case b3 => exact fun _ _ _ _ _ _ us hl => match us, hl with | [_, _], _ => rfl)
      (case a4 => k_is); (case i4 => k_is); (case l4 => k_is); (case c4 => k_is); (case k4 => k_is)
      (case b4 => exact fun _ _ _ _ _ _ us hl => match us, hl with | [_, _], _ => rfl)
    have d__law_names : Mi.DefAt (L2.KOf KX) mg "_law_names" My.Q5 ["number", "many"] := by walk_at "~2"
    have d__law_mixed : Mi.DefAt (L2.KOf KX) mg "_law_mixed" My.Jl ["script", "k"] := by walk_at "~2"
    have d__law_lines : Mi.DefAt (L2.KOf KX) mg "_law_lines" My.ZC ["script", "boxes", "words"] := by walk_at "~3"
    have d_all_lines : Mi.DefAt (L2.KOf KX) mg "all_lines" My.JT ["program"] := by walk_at "~1"
    have d_boxes_in : Mi.DefAt (L2.KOf KX) mg "boxes_in" My.Vb ["line"] := by walk_at "~1"
    have d_boxes_of : Mi.DefAt (L2.KOf KX) mg "boxes_of" My.Vd ["program"] := by walk_at "~1"
    have d_line_of : Mi.DefAt (L2.KOf KX) mg "line_of" My.VH ["program", "spot"] := by walk_at "~2"
    have d_at_gap : Mi.DefAt (L2.KOf KX) mg "at_gap" My.Xk ["spot", "k"] := by walk_at "~2"
    have d_at_head : Mi.DefAt (L2.KOf KX) mg "at_head" My.VQ ["spot", "k"] := by walk_at "~2"
    have d_level_change : Mi.DefAt (L2.KOf KX) mg "level_change" My.ZB ["line"] := by walk_at "~1"
    have d_head_of : Mi.DefAt (L2.KOf KX) mg "head_of" My.VM ["lines", "k"] := by walk_at "~2"
    have d_found_behind : Mi.DefAt (L2.KOf KX) mg "found_behind" My.ZA ["lines", "k", "kind"] := by walk_at "~3"
    have d_or_of : Mi.DefAt (L2.KOf KX) mg "or_of" My.Kx ["lines", "k"] := by walk_at "~2"
    have d_end_of : Mi.DefAt (L2.KOf KX) mg "end_of" My.Xx ["lines", "k"] := by walk_at "~2"
    have d_next_in_part : Mi.DefAt (L2.KOf KX) mg "next_in_part" My.ZI ["lines", "spot"] := by walk_at "~2"
    have d_behind_do : Mi.DefAt (L2.KOf KX) mg "behind_do" My.JI ["spot"] := by walk_at "~1"
    have d_part_number : Mi.DefAt (L2.KOf KX) mg "part_number" My.Z2 ["program", "name"] := by walk_at "~2"
    have d_next_spots : Mi.DefAt (L2.KOf KX) mg "next_spots" My.Jj ["program", "spot"] := by walk_at "~2"
    have d_first_spot : Mi.DefAt (L2.KOf KX) mg "first_spot" My.Ji [] := by walk_at "~0"
    have d_run_by : Mi.DefAt (L2.KOf KX) mg "run_by" My.Xy ["program", "choices"] := by walk_at "~2"
    have d_reads : Mi.DefAt (L2.KOf KX) mg "reads" My.Ks ["line"] := by walk_at "~1"
    have d_room_read : Mi.DefAt (L2.KOf KX) mg "room_read" My.JQ ["line", "held"] := by walk_at "~2"
    have d_gives : Mi.DefAt (L2.KOf KX) mg "gives" My.Kn ["line"] := by walk_at "~1"
    have d_letter_of : Mi.DefAt (L2.KOf KX) mg "letter_of" My.JJ ["line"] := by walk_at "~1"
    have d_room_within : Mi.DefAt (L2.KOf KX) mg "room_within" My.ZV ["rooms", "room", "letter"] := by walk_at "~3"
    have d_given_by : Mi.DefAt (L2.KOf KX) mg "given_by" My.Vk ["line", "rooms", "held"] := by walk_at "~3"
    have d_word_told : Mi.DefAt (L2.KOf KX) mg "word_told" My.JF ["rooms", "room"] := by walk_at "~2"
    have d_on_shelf : Mi.DefAt (L2.KOf KX) mg "on_shelf" My.Va ["program", "choices", "size"] := by walk_at "~3"
    have d__law_line_at : Mi.DefAt (L2.KOf KX) mg "_law_line_at" My.ZD ["program", "spot"] := by walk_at "~2"
    have d__law_free : Mi.DefAt (L2.KOf KX) mg "_law_free" My.JR ["numbers", "gone", "size"] := by walk_at "~3"
    have d__law_stop : Mi.DefAt (L2.KOf KX) mg "_law_stop" My.JS ["line", "rooms", "gone", "boxes", "free"] := by walk_at "~5"
    have d__law_step : Mi.DefAt (L2.KOf KX) mg "_law_step" My.JH ["line", "rooms", "gone", "boxes", "words"] := by walk_at "~5"
    have d__law_shelf : Mi.DefAt (L2.KOf KX) mg "_law_shelf" My.Jn ["program", "choices", "size"] := by walk_at "~3"
    have d_law : Mi.DefAt (L2.KOf KX) mg "law" My.Uk ["script"] := by walk_at "~1"
    have g_GIVING : Mi.Glob (L2.KOf KX) mg "GIVING" My.J3 := by
      dsimp only [L2.KOf]
      refine' Mi.QcD KX G ?a ?l ?z ?s
      (case a => k_is); (case l => k_is)
      (case z => decide)
      (case s => repeat constructor)
    have g_NOTHING_TOLD : Mi.Glob (L2.KOf KX) mg "NOTHING_TOLD" My.Zi := by
      dsimp only [L2.KOf]
      refine' Mi.Qd3 KX G ?a
      (case a => k_is)
    have b_dict : mg "dict" = none := by walk_at "~b"
    have b_int : mg "int" = none := by walk_at "~b"
    have b_len : mg "len" = none := by walk_at "~b"
    have b_list : mg "list" = none := by walk_at "~b"
    have b_range : mg "range" = none := by walk_at "~b"
    have b_set : mg "set" = none := by walk_at "~b"
    have b_sorted : mg "sorted" = none := by walk_at "~b"
    have b_tuple : mg "tuple" = none := by walk_at "~b"
    have b_zip : mg "zip" = none := by walk_at "~b"
    exact ⟨d_law, fun base kb nb => ⟨C_Shelf, My.QfH k_Shelf n_free_again n_fresh n_gone n_held n_in_use n_rooms n_size n_taken n_words d__law_names d__law_mixed d__law_lines d_all_lines d_boxes_in d_boxes_of d_Shelf___init__ d_line_of d_at_gap d_at_head d_level_change d_head_of d_found_behind d_or_of d_end_of d_next_in_part d_behind_do d_part_number d_next_spots d_first_spot d_run_by d_reads d_room_read d_Shelf_bar d_gives d_letter_of d_room_within d_given_by d_word_told d_Shelf_make_room d_Shelf_give_back d_Shelf_pass_line d_on_shelf d__law_line_at d__law_free d__law_stop d__law_step d__law_shelf d_law g_GIVING g_NOTHING_TOLD b_dict b_int b_len b_list b_range b_set b_sorted b_tuple b_zip⟩⟩
