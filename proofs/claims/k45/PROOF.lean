import PyProof.Rows.All
import Wide.All
import OpenK.AllK
import Wide.FinOn
import Lean
import PyProof.EqAt
import PyProof.EqKinds
import PyProof.TupleCall
import KE.KDictList
import KE.KRevIter
import KE.KTurns
import PyProof.Rows.SetFrom
import PyProof.Rows.SortStr
import PyProof.FactsAll.set
import PyProof.Draws
import PyProof.EnumMake
import PyProof.AttrMissSeq
import KE.KDictOf
import PyProof.Walks
import KE.KSortTup
import KE.KItemsList
import KE.KDictSum
import PySem.Challenge.RW_doneroom_k45_put_in_and_taken_out
set_option Elab.async false
set_option bootstrap.genMatcherCode false
set_option linter.all false
set_option maxRecDepth 100000
noncomputable section
/-! THE HAND LAYER, for ints, bools, texts, own classes, LISTS and tuples (index, slices, in, append, pop ..), calls, loops. Paste it whole ahead of your own text; what your proof does not reach may be deleted. -/
open PySem renaming wpAny_bind->Na,wpAny_pure->Nj,wpAny_mono->N4,wpAny_holding->N8,wpAny_call_entry->Ef,wpAny_newObj_type->Eh,wpAny_callSpecial?_slot->Ey,wpAny_setState_of->EM,codeAny_builtin->EU,wpAny_loadPart'->E9,sizeLine_eq->Db,wpAny_setField->Dd,wpAny_Call_Name_kw->Dr,wpAny_typeNameOfWhole_keyiter->DE,wpAny_rule->DI,codeAny_mono->DJ,wpAny_seqItems->D4,wpAny_typeNameOf_keyiter->D8,wpAny_askSetting->D9,mem_of_lookup->Fb,wpAny_getItem_str_slice->Fd,wpAny_newList->Fi,wpAny_fieldsOf->FA,wpAny_forIn_list->FG,call_meets->FJ,wpAny_field->FN,wpAny_passesOwn->FP,wpAny_typeOf->FU,wpAny_pyIter_tuple->FW,wpAny_dictEntries->Ii,wpAny_storeSet_of->Ij,storedH_new->Iq,wpAny_attempt->Iv,plainId_quiet->Iw,wpAny_isInstance->Ix,wpAny_notOrdered_dict->IA,wpAny_isOneOf_keyiter->IB,wpAny_specialOf->IG,post_val_or_str->II,wpAny_ite_split->IK,wpAny_setEntries_of->IT,wpAny_runValue->IX,putSet_of->Lc,eqIsQuiet_byValue->Lq,wpAny_truthy_bool->Lu,wpAny_sequenceKey->Lx,wpAny_pyIter_list->Ly,wpAny_pyIter_slot->Lz,noFill_tuple_add->LK,wpAny_execs_nil->L0,wpAny_updateSeq->L6,wpAny_dictEpoch->L7,size_of_entries->L8,codeAny_of_tree->L9,wpAny_of_eq->Of,weight_type_call_type->Ov,builtinLookup_eq_fast->Ox,isSubtype_type->Oy,wpAny_pyIter_keyiter->OJ,wpAny_updateDictKeys->OL,wpAny_pyIter_revIter->OM,codeAny_call_builtin->OO,wpAny_standAt->OW,seq_tuple_add->OX,wpAny_handled->O0,wpAny_dictFind_heap->O5,not_mem_keys_of_get->O6,concat_meets->Yaf,seqIndex_neg->Yag,list_append->Yas,seqSlot_of->YaK,call->YaM
open Option renaming bind_eq_some_iff->Nc,map_eq_some_iff->Nk,bind_some->Nx,map_some->Fp,isSome_iff_exists->LI,map_eq_none_iff->Om,toList_some->Yaj,isSome_map->Yau,getD_none->YaD,map_none->YaO
open Nat renaming lt_of_le_of_lt->Nd,le_trans->Nf,lt_of_lt_of_le->Ng,le_of_lt->Nl,le_add_right->Np,le_of_eq->Nq,le_refl->Nu,zero_add->NJ,add_le_add_left->NK,zero_le->NM,not_lt->NQ,ne_of_lt->NS,add_lt_add_left->NU,lt_trans->N0,le_antisymm->Ek,lt_or_ge->Et,sub_le->ED,lt_irrefl->EG,lt_succ_self->EI,add_le_add_right->EX,not_lt_zero->Da,add_sub_cancel'->Dk,min_le_right->Dp,not_lt_of_le->Dq,sub_lt_left_of_lt_add->Dt,lt_succ_of_lt->DB,succ_pos->DN,min_eq_left->DQ,ne_of_gt->D6,add_sub_cancel_left->Fe,not_le->Fm,add_right_comm->Fq,le_add_left->Fr,le_succ->FO,add_zero->FY,le_of_lt_succ->Ih,lt_trichotomy->Ik,min_le_left->IN,add_assoc->Li,mod_lt->LG,sub_self->LL,min_eq_right->LU,le_max_left->L4,mul_le_mul->Oq,succ_mul->Yai
open PySem.W renaming Frag->Nh,kia_one->EH,fnOf->DK,keepIn->Fy,codeIn->IU,mg_of->Lk,methodObj->Lr,kitx_list->Lw,nsIn->LM,instObj->LZ,cellsFrom_some->Ob,lookIn->On,pyHash_slot->O1,kitx_tuple->Yae,kitx_dict->Yar,plainGet->YaC,KeysLit->YaN,findIn->YaP,kitOne->YaQ,WalkO->YaS
open List renaming getElem?_eq_some_iff->Nm,getElem?_eq_getElem->No,size_toArray->Nt,length_append->Nv,mem_cons_of_mem->Nw,length_map->Ny,mem_cons_self->Nz,getElem?_map->NB,map_cons->NC,mem_map->NE,mem_cons->NF,mem_singleton->NG,map_append->NL,mem_append->NO,getElem?_append_left->NP,find?_cons->NW,mem_iff_getElem?->NZ,mem_of_getElem?->N5,mem_range->N9,mem_append_right->Ea,length_singleton->Ec,length_take->Ed,take_succ->Ee,take_of_length_le->Ej,length_cons->El,map_map->Em,getElem?_eq_none->En,take_append_drop->Eo,length_eq_zero_iff->Ep,nodup_nil->Er,getElem?_set_self->Es,nodup_cons->Eu,lookup_cons->Ev,not_mem_nil->Ew,getElem?_set_ne->EC,extract_eq_take_drop->EE,take_length->EK,toList_toArray->EL,mem_iff_getElem->EN,drop_eq_getElem_cons->EO,replicate_succ->EQ,nodup_append->ES,dropLast_concat_getLast->ET,all_eq_true->EW,pairwise_map->EY,mem_map_of_mem->EZ,map_congr_left->E1,flatMap_append->E2,pairwise_append->Df,filterMap_cons->Dj,findIdx?_eq_some_iff_getElem->Dl,getElem?_append_right->Dn,mem_append_left->Du,append_nil->Dx,length_erase_of_mem->Dy,ext_getElem?->DA,append_assoc->DC,flatten_cons->DD,getElem?_range->DF,length_reverse->DG,length_set->DO,range_succ->DP,any_cons->DS,getD_eq_getElem?_getD->DT,foldl_append->DX,getElem?_eq_none_iff->DY,mem_erase_of_ne->DZ,pairwise_iff_getElem->D1,getElem_inj->D5,getElem_mem->D7,mem_flatMap->Fa,getElem?_cons_zero->Fg,mem_filter->Fj,foldl_cons->Fo,drop_eq_nil_of_le->Ft,length_range->Fw,drop_sublist->Fx,mapM_cons->Fz,perm_append_comm->FD,length_filter_le->FE,length_drop->FI,countP_cons->FL,sum_append->FQ,mem_filterMap->FS,map_nil->FV,find?_eq_none->F4,getElem?_cons_succ->Ic,length_pos_of_mem->Ir,filter_cons->Iy,mem_reverse->Iz,getElem?_toArray->IC,filterMap_append->IF,reverse_reverse->IJ,perm_cons_erase->IL,nil_append->IQ,getElem?_drop->Le,zip_cons_cons->Lf,mapM_nil->Ll,length_eraseIdx_of_lt->Lm,reverse_perm->LA,getElem?_zip_eq_some->LD,findIdx?_eq_none_iff->LF,mem_of_find?_eq_some->LH,getElem?_take_of_lt->LJ,range'_succ->LN,getElem?_replicate->LV,of_mem_zip->L3,length_nil->L5,pairwise_lt_range->Oh,drop_of_length_le->Oj,filter_eq_nil_iff->Ol,dropLast_eq_take->Oo,contains_iff_mem->Op,getElem?_reverse->Ot,countP_mono_left->OB,drop_drop->OC,pairwise_reverse->OD,concat_eq_append->OE,countP_le_length->OG,getElem?_zipIdx->OR,mem_of_mem_drop->OS,mem_of_mem_take->OT,getElem?_append->OU,all_cons->OZ,length_pos_iff->Qq,length_flatMap->Yaa,map_eq_nil_iff->Yab,length_zipIdx->Yam,getElem?_take->Yan,pairwise_cons->Yao,take_add_one->Yaw,getElem_drop->Yay,getElem_take->Yaz,perm_middle->YaG,nodup_range->YaH,le_antisymm->YaJ,forIn_cons->YaL
open PySem.Heap renaming get?_push_of_some->Nn,get?_push_size->NA,lt_size->ND,get?_update_self->Ei,get?_update_other->EF,size_push->F8
open Array renaming length_toList->Nr,getElem?_toList->NH,getElem?_eq_getElem->NI,toList_append->N6,toList_extract->Dz,perm_iff_toList_perm->DV,toList_push->DW,toList_reverse->D2,getD_eq_getD_getElem?->FF,mem_toList_iff->FH,forIn_toList->FR,size_setIfInBounds->F5,getElem?_eq_none->Ip,getElem?_setIfInBounds->La,getElem?_eq_some_iff->Lo,toArray_toList->OQ,toList_inj->YaI
open PySem.Heap.SameBut renaming update->NR,refl->Yav
open Bool renaming false_eq_true->NT,and_eq_true->NX,false_ne_true->Eb,or_eq_true->Di,not_true->DR,and_false->D3,not_eq_true'->Il,not_eq_false'->Lg,eq_iff_iff->Oa,not_false->OA,and_true->OV,or_false->OY
open Int renaming emod_lt_of_pos->NV,emod_nonneg->NY,toNat_natCast->Ez,le_trans->Dm,ne_of_gt->Dv,le_of_lt->Dw,toNat_of_nonneg->Fc,not_lt->IP,not_le->LC
open PySem.Paired renaming length->N7,snoc->YaB
open Option.some renaming inj->Eg,injEq->Im
open PyProof.Rows renaming slot_tuple_getitem->EA,callWith_type1->EV,callWith_builtin1->Fl,boot_tuple->Ig,boot_list->Iu,boot_int->ID,entry_list_sort->IM,slot_list_sort->IY,args_list_sort->IZ,boot_isinstance->Lb,plain_sorted->LQ,entry_sorted->LR,args_sorted1->LS,boot_sorted->LX,subscriptTail_builtinR->Oc,kind_sorted->Og,entry_proto_collect'->OP,entry_tuple_getitem->O2,getElem?_mirror_all->O9,mem_zip_self->Yap
open Classical renaming byContradiction->EB,choose_spec->Oz
open PySem.F renaming called_set->EJ,slot_dict_keyiterator_next->ER,plainAttrs_list->Dh,slot_list_extend->DM,slot_tuple_iterator_next->DU,plainAttrs_dict->Fh,slot_dict_get->FB,args_tuple_add_2->FT,args_dict_keyiterator_next_1->FZ,type_list_extend->F7,entry_dict_keyiterator_next->F9,entry_tuple_add->Ia,slot_tuple_add->Io,slot_tuple_mul->Is,type_dict_get->IE,slot_list_append->IH,slot_dict_setdefault->IW,args_tuple_iterator_next_1->I0,entry_tuple_iterator_next->Ld,slot_list_index->LW,slot_tuple_rmul->LY,slot_dict_iter->Oe,slot_int_rmul->OF,args_list_append_2->OH,args_list_extend_2->OI,sub_list_frozenset->ON,entry_list_append->O3,entry_list_extend->O4,plain_extend_loop->O7,slot_list_pop->Yah,slot_tuple_hash->Yaq
open PySem.Around renaming under_plainId->De,under_plain->Yak
open PyProof.Rows.F renaming plain_set_update_loop->Dg,entry_set_update_loop->Ff
open List.Pairwise renaming sublist->Ds,imp_of_mem->F6,imp->YaA
open Ne renaming symm->DH
open LawfulBEq renaming eq_of_beq->DL
open PySem.Calls renaming call_function_entry->D0,spliced_cons->Fk,spliced_nil->Fv,Name_function_global->Lj,callWith_builtin->Od
open List.Perm renaming append_left->FC,cons_inv->Yal
open PySem.Obj renaming data_mapDictKeys->FK,data_mapFields->F0,isFreed_of_dict->IS,isFreed_of_fields->Os,cls_mapFields->Yat,data_mapDict->YaF
open PySem.Txt renaming slice_le->FX
open PySem.Code renaming quiet_builtin->F3
open PySem.Value renaming isStrOf_shape->IR
open PySem.Builtin.Dict_items renaming ownsTuple->IV
open PySem.Challenge renaming pw_doneroom_k45_put_in_and_taken_out->Lp
open PySem.AutoSeq1 renaming sub_tuple_tuple->LO
open PySem.Str renaming ofString_eq_toList->Oi
open PyProof.Rows.StrsAre renaming length->Ou
open Std.Legacy.Range renaming forIn_eq_forIn_range'->O8
open PySem.SeqAt.EqAt renaming int_str->Yac,str_int->Yad
open PySem.WalksT renaming enumerateD->Yax
open PySem.IsL renaming update->YaE
open PyProof.Rows.IsTup renaming new->YaR
open PySem PySem.Spec PyProof.Rows
namespace L2

noncomputable abbrev Key:=Sum Int Str
noncomputable def Qhe:Key->Value->Bool
 |.inl k,v=>Value.isInt k v
 |.inr x,v=>Value.isStrOf x v
noncomputable def QlR(w:World):Key->Int
 |.inl k=>hashInt k
 |.inr x=>hashStr w x
theorem QR:∀{k:Key} {v:Value},Qhe k v=true->(∃i t,k=Sum.inl i/\v=Value.int i t)\/(∃x t,k=Sum.inr x/\v=Value.str x t)
 |.inl i,v,h=>by
  obtain⟨t,e⟩:=Value.isInt_shape (k:=i) (v:=v) h;exact .inl ⟨i,t,rfl,e⟩
 |.inr x,v,h=>by
  obtain⟨t,e⟩:=IR (x:=x) (v:=v) h;exact .inr ⟨x,t,rfl,e⟩
theorem Qhn(a b:Int):decide ((Sum.inl a:Key)=Sum.inl b)=(a==b):=by
 by_cases e:a=b
 ·subst e;simp
 ·have h:¬(Sum.inl a:Key)=Sum.inl b:=fun q=>e (Sum.inl.inj q);rw[decide_eq_false h];exact(beq_eq_false_iff_ne.mpr e).symm
theorem QgQ(a b:Str):decide ((Sum.inr a:Key)=Sum.inr b)=decide (a=b):=by
 by_cases e:a=b
 ·subst e;simp
 ·have h:¬(Sum.inr a:Key)=Sum.inr b:=fun q=>e (Sum.inr.inj q);rw[decide_eq_false h,decide_eq_false e]
theorem QgR(a:Int)(b:Str):decide ((Sum.inl a:Key)=Sum.inr b)=false:=decide_eq_false (fun q=>nomatch q)
theorem QhB(a:Str)(b:Int):decide ((Sum.inr a:Key)=Sum.inl b)=false:=decide_eq_false (fun q=>nomatch q)

noncomputable def QaY(prog:Program)(w:World):PySem.KeyKind prog w Key where
 is:=Qhe
 hash:=QlR w
 inj:=fun v a b g f=>by
  rcases QR g with⟨i,t,rfl,rfl⟩|⟨x,t,rfl,rfl⟩
  ·rcases QR f with⟨j,u,rfl,e⟩|⟨y,u,rfl,e⟩
   ·injection e with c _;rw[c]
   ·exact nomatch e
  ·rcases QR f with⟨j,u,rfl,e⟩|⟨y,u,rfl,e⟩
   ·exact nomatch e
   ·injection e with c _;rw[c]
 byValue:=fun k v h=>by
  rcases QR h with⟨i,t,rfl,rfl⟩|⟨x,t,rfl,rfl⟩<;>rfl
 pyHash:=fun d h=>by
  rcases QR d with⟨i,t,rfl,rfl⟩|⟨x,t,rfl,rfl⟩
  ·exact wpAny_pyHash_int h
  ·exact wpAny_pyHash_str h
 eqBool:=fun hu d h=>by
  rcases QR hu with⟨i,t,rfl,rfl⟩|⟨x,t,rfl,rfl⟩
  ·rcases QR d with⟨j,u,rfl,rfl⟩|⟨y,u,rfl,rfl⟩
   ·rw[Qhn]at h;exact wpAny_eqBool_int h
   ·rw[QgR]at h;exact Yac i t y u _ _ _ _ h
  ·rcases QR d with⟨j,u,rfl,rfl⟩|⟨y,u,rfl,rfl⟩
   ·rw[QhB]at h;exact Yad x t j u _ _ _ _ h
   ·rw[QgQ]at h;exact wpAny_eqBool_str h
 «strs»:=fun k x t v h=>by
  rcases QR h with⟨i,u,rfl,e⟩|⟨y,u,rfl,e⟩
  ·exact nomatch e
  ·injection e with c _
   subst c;cases v<;>rfl

end L2

namespace L2

inductive V where
 |non|bl (b:Bool)|int (i:Int)|str (x:Str)|byt (b:Array UInt8)|flt (b:UInt64)|ref (a:Addr)|ty (n:String)
 deriving DecidableEq

noncomputable def RelV:V->Value->Prop
 |.non,u=>u=Value.none
 |.bl b,u=>u=Value.bool b
 |.int i,u=>∃t,u=Value.int i t
 |.str x,u=>∃t,u=Value.str x t
 |.byt b,u=>∃t,u=Value.bytes b t
 |.flt b,u=>∃t,u=Value.float b t
 |.ref a,u=>u=Value.ref a
 |.ty n,u=>u=Value.type n

noncomputable abbrev Vals:List V->List Value->Prop:=Paired RelV
theorem Vals.length{xs:List V}{us:List Value}(r:Vals xs us):xs.length=us.length:=N7 r
theorem Vals.get:∀{xs:List V} {us:List Value} {i:Nat} {x:V},Vals xs us->xs[i]?=some x->∃u,us[i]?=some u/\RelV x u
 |_,_,_,_,.nil,e=>by simp at e
 |_,_,0,_,.cons r _,e=>by simp at e;subst e;exact⟨_,rfl,r⟩
 |_,_,i+1,x,.cons _ t,e=>by
  obtain⟨u,h1,a⟩:=Vals.get (i:=i) (x:=x) t (by simpa using e);exact⟨u,by simpa using h1,a⟩
theorem Vals.set{x:V}{u:Value}(r:RelV x u):∀{xs:List V} {us:List Value} (i:Nat),Vals xs us->Vals (xs.set i x) (us.set i u)
 |_,_,_,.nil=>.nil
 |_,_,0,.cons _ t=>.cons r t
 |_,_,i+1,.cons q t=>.cons q (Vals.set r i t)
theorem Vals.append:∀{xs a:List V} {us ws:List Value},Vals xs us->Vals a ws->Vals (xs++a) (us++ws)
 |_,_,_,_,.nil,s=>s
 |_,_,_,_,.cons r t,s=>.cons r (Vals.append t s)
theorem Vals.take:∀{xs:List V} {us:List Value} (n:Nat),Vals xs us->Vals (xs.take n) (us.take n)
 |_,_,0,_=>.nil
 |_,_,_+1,.nil=>.nil
 |_,_,n+1,.cons r t=>.cons r (Vals.take n t)
theorem Vals.drop:∀{xs:List V} {us:List Value} (n:Nat),Vals xs us->Vals (xs.drop n) (us.drop n)
 |_,_,0,r=>r
 |_,_,_+1,.nil=>.nil
 |_,_,n+1,.cons _ t=>Vals.drop n t
noncomputable def RelO:Option V->Option Value->Prop
 |some v,some u=>RelV v u
 |none,none=>True
 |_,_=>False
noncomputable def KV{κ:Type}:List (κ×V)->List (κ×Value)->Prop:=Paired fun(p:κ×V) (q:κ×Value)=>p.1=q.1/\RelV p.2 q.2

inductive Tr where
 |i (n:Int)
 |s (x:Str)
 |t (ks:List Tr)
noncomputable instance trDec:DecidableEq Tr:=fun _ _=>Classical.propDecidable _
noncomputable def IsT(h:Heap):Nat->Tr->Value->Prop
 |0,_,_=>False
 |_+1,.i k,v=>(∃t,v=.int k t)\/∃b:Bool,v=.bool b/\k=if b then 1 else 0
 |_+1,.s x,v=>∃t,v=.str x t
 |n+1,.t ks,v=>∃a c,v=.ref a/\h.IsTuple a c/\Paired (IsT h n) ks c.toList
theorem WZ{d c:Type}{F:d->c->Prop}(hi:∀x y v,F x v->F y v->x=y):∀{xs e:List d} {vs:List c},Paired F xs vs->Paired F e vs->xs=e
 |_,_,_,.nil,.nil=>rfl
 |_,_,_,.cons a s,.cons b t=>by rw[hi _ _ _ a b,WZ hi s t]
theorem GS{h:Heap}{n:Nat}{x:Tr}{a:Addr}(d:IsT h n x (.ref a)):∃m ks c,n=m+1/\x=.t ks/\h.IsTuple a c/\Paired (IsT h m) ks c.toList:=by
 cases n with
 |zero=>exact d.elim
 |succ n=>
  cases x with
  |i k=>rcases d with⟨t,e⟩|⟨b,e,_⟩<;>cases e
  |s y=>obtain⟨t,e⟩:=d;cases e
  |t ks=>obtain⟨f,c,e,p,q⟩:=d;cases e;exact⟨n,ks,c,rfl,rfl,p,q⟩
theorem Wo{h:Heap}{a:Addr}{x y:Array Value}(e:h.IsTuple a x)(d:h.IsTuple a y):x=y:=by
 obtain⟨o,g,_,n,f⟩:=e;obtain⟨i,c,_,j,b⟩:=d;rw[g]at c;cases c;rw[f]at b;injection b
theorem Ju{h:Heap}:∀{n:Nat} (x y:Tr) (v:Value),IsT h n x v->IsT h n y v->x=y
 |0,_,_,_,g,_=>g.elim
 | n+1,x,y,v,g,f=>by
  cases v with
  |ref a=>
   obtain⟨m,ks,d,e,rfl,p,q⟩:=GS g;obtain⟨u,j,l,c,rfl,r,o⟩:=GS f;cases e;cases c;cases Wo p r;rw[WZ (fun x y v=>Ju (n:=n) x y v) q o]
  | _=>
   cases x with
   | i k=>
    cases y with
    |i w=>
     rcases g with⟨t,e⟩|⟨b,e,rfl⟩<;>cases e<;>rcases f with⟨t,e⟩|⟨b,e,rfl⟩<;>cases e<;>rfl
    |s y=>obtain⟨t,e⟩:=f;rcases g with⟨t,c⟩|⟨b,c,_⟩<;>(rw[e]at c;cases c)
    |t j=>obtain⟨a,d,e,_⟩:=f;cases e
   |s z=>
    obtain⟨t,c⟩:=g;cases y with
    |i k=>rcases f with⟨t,e⟩|⟨b,e,_⟩<;>(rw[e]at c;cases c)
    |s y=>obtain⟨t,e⟩:=f;rw[e]at c;cases c;rfl
    |t j=>obtain⟨a,d,e,_⟩:=f;cases e
   |t ks=>obtain⟨a,d,e,_⟩:=g;cases e
theorem JB{g e:Type}{F G:g->e->Prop}(f:∀a b,F a b->G a b):∀{d:List g} {c:List e},Paired F d c->Paired G d c
 |_,_,.nil=>.nil
 |_,_,.cons r t=>.cons (f _ _ r) (JB f t)
theorem Y6{h h':Heap}{d:Addr}{o:Obj}{es ep}(g:h.get? d=some o)(hd:o.data=.dict es ep)(l:Heap.SameBut d h h'):∀{n:Nat} (k:Tr) (v:Value),IsT h n k v->IsT h' n k v
 |0,_,_,x=>x.elim
 |n+1,.i k,v,x=>x
 |n+1,.s k,v,x=>x
 | n+1,.t ks,v,⟨a,f,e,⟨o',c,p,m,b⟩,q⟩=>by
  have j:a≠d:=by
   rintro rfl
   rw[c]at g;cases g;rw[hd]at b;exact nomatch b
  exact⟨a,f,e,⟨o',(l.2 a j).trans c,p,m,b⟩,JB (fun k v=>Y6 g hd l k v) q⟩
noncomputable def hN(w:World):Nat->Tr->Int
 |0,_=>0
 |_+1,.i k=>hashInt k
 |_+1,.s x=>hashStr w x
 |n+1,.t ks=>reduceHash (Builtin.Tuple.tupleHashOf (ks.map (hN w n)))
noncomputable def dN:Nat->Tr->Nat
 |0,_=>0
 |_+1,.i _=>1
 |_+1,.s _=>1
 |n+1,.t ks=>(ks.map (dN n)).sum+1
section
variable{prog:Program}{w:World}{E:Value->Shared->Prop}
theorem Yz{n:Nat}{A:Around}(e:∀(k:Tr) (v:Value) (s:Shared) (Q:Int->Shared->Prop),IsT s.heap n k v->Q (hN w n k) { s with toks:=s.toks+dN n k }->wpAny (model prog w) A (pyHash v) Q E s) :
  ∀(a:List Tr) (d:List Value) (s:Shared) (b:Array Int) (Q:Array Int->Shared->Prop),Paired (IsT s.heap n) a d ->
  (∀c,c.toList=b.toList++a.map (hN w n)->Q c { s with toks:=s.toks+(a.map (dN n)).sum }) ->
  wpAny (model prog w) A (forIn d b fun x r=>do let h <-pyHash x;pure PUnit.unit;pure (ForInStep.yield (r.push h))) Q E s
 |[],_,s,b,Q,x,h=>by cases x;exact Nj (h b (by simp))
 | k::a,_,s,b,Q,x,h=>by
  cases x with
  |cons g f=>
   rw[YaL];refine Na (Na (e k _ s _ g ?_));refine Na (Nj (Nj ?_));refine Yz e a _ _ _ Q f fun c i=>?_;have:=h c (by simp[i]);simpa[Li]using this
theorem Qbz:∀(n:Nat) (A:Around),A.units+n<cLine->∀(k:Tr) (v:Value) (s:Shared) (Q:Int->Shared->Prop),IsT s.heap n k v->Q (hN w n k) { s with toks:=s.toks+dN n k }->wpAny (model prog w) A (pyHash v) Q E s
 |0,_,_,_,_,_,_,x,_=>x.elim
 | n+1,A,hu,.i k,v,s,Q,x,h=>by
  rcases x with⟨t,rfl⟩|⟨b,rfl,rfl⟩
  ·exact wpAny_pyHash_int h
  ·refine O1 (T:="bool") rfl F.slot_bool_hash entry_int_hash (args_int_hash _) (beq_builtin_none _) (.inr (Nd (Np _ _) hu)) ?_;cases b
   ·exact(show wpAny _ _ (do ret (<-mkInt 0)) _ _ s from Na (wpAny_mkInt (Nj ⟨_,_,rfl,h⟩)))
   ·exact(show wpAny _ _ (do ret (<-mkInt 1)) _ _ s from Na (wpAny_mkInt (Nj ⟨_,_,rfl,h⟩)))
 |n+1,A,hu,.s y,v,s,Q,x,h=>by
  obtain⟨t,rfl⟩:=x;exact wpAny_pyHash_str h
 |n+1,A,hu,.t d,v,s,Q,x,h=>by
  obtain⟨a,e,rfl,⟨o,c,f,m,hd⟩,q⟩:=x;refine O1 (T:="tuple") ⟨_,c,f⟩ Yaq F.entry_tuple_hash (F.args_tuple_hash_1 _) (beq_builtin_none _) (.inr (Nd (Np _ _) hu)) ?_;show wpAny _ _ (Builtin.Tuple.tupleItemsOf (.ref a)>>=_) _ _ s;refine Na (wpAny_tupleItemsOf c hd ?_);refine Na ?_;rw[<-FR];refine Yz (n:=n) (fun k v s Q=>Qbz n A.in1 (by show A.units+1+n<cLine;lia) k v s Q) d _ s #[] _ q fun b g=>?_;show wpAny _ _ (retInt (Builtin.Tuple.tupleHashOf b.toList)) _ _ _;rw[g];refine Na (wpAny_mkInt (Nj ⟨_,_,rfl,?_⟩));simpa[hN,dN,Li]using h
theorem Qew{n:Nat}{h:Heap}{e:Nat->Bool}:∀{ks ls:List Tr} {us vs:List Value},Paired (IsT h n) ks us->Paired (IsT h n) ls vs->(∀(j:Nat) (x y:Tr),ks[j]?=some x->ls[j]?=some y->e j=decide (x=y)) ->
  ((List.range (min us.length vs.length)).all e&&us.length==vs.length)=decide (Tr.t ks=Tr.t ls):=by
 intro ks ls us vs p q f;have i:=N7 p;have g:=N7 q;rw[<-i,<-g]
 by_cases c:ks.length=ls.length
 ·by_cases d:ks=ls
  ·subst d;simp only[Nat.min_self,beq_self_eq_true,OV,decide_true];rw[EW];intro j b;rw[N9]at b;rw[f j ks[j] ks[j] (No b) (No b)];simp
  ·have:decide (Tr.t ks=Tr.t ls)=false:=decide_eq_false fun z=>d (Tr.t.inj z);rw[this,Bool.and_eq_false_iff];left;have:∃j,ks[j]?≠ls[j]?:=EB fun z=>d (DA fun j=>EB fun y=>z ⟨j,y⟩);obtain⟨j,b⟩:=this;have a:j<ks.length:=EB fun z=>b (by rw[En (NQ.mp z),En (Nf (Nq c.symm) (NQ.mp z))]);rw[List.all_eq_false];refine⟨j,N9.mpr (by lia),?_⟩;rw[f j ks[j] ls[j] (No a) (No (Ng a (Nq c)))];intro z;rw[decide_eq_true_eq]at z;exact b (by rw[No a,No (Ng a (Nq c)),z])
 ·have l:(ks.length==ls.length)=false:=beq_eq_false_iff_ne.mpr c;rw[l,D3];exact(decide_eq_false fun z=>c (by rw[Tr.t.inj z])).symm
theorem Jy{c d:Type}{F:c->d->Prop}:∀{b:List c} {a:List d} {j:Nat} {x:c},Paired F b a->b[j]?=some x->∃v,a[j]?=some v/\F x v
 |_,_,0,x,.cons r t,e=>by simp at e;subst e;exact⟨_,rfl,r⟩
 |_,_,j+1,x,.cons r t,e=>by
  obtain⟨v,h1,f⟩:=Jy (j:=j) (x:=x) t (by simpa using e);exact⟨v,by simpa using h1,f⟩
open SeqAt in
theorem Qf9{s:Shared}:∀(n:Nat) (A:Around),A.units+n<cLine->∀(x y:Tr) (u v:Value),IsT s.heap n x u->IsT s.heap n y v->EqAt A s u v (decide (x=y))
 |0,_,_,_,_,_,_,c,_=>c.elim
 | n+1,A,hu,.i a,.i b,u,v,c,d=>by
  have hd:decide (Tr.i a=Tr.i b)=(a==b):=by
   by_cases z:a=b
   ·subst z;simp
   ·rw[decide_eq_false fun q=>z (Tr.i.inj q)];exact(beq_eq_false_iff_ne.mpr z).symm
  rw[hd]
  rcases c with⟨t,rfl⟩|⟨p,rfl,rfl⟩<;>rcases d with⟨g,rfl⟩|⟨q,rfl,rfl⟩
  ·exact EqAt.int_int a t b g
  ·exact EqAt.int_bool a t q
  ·exact EqAt.bool_int p b g
  ·have:=EqAt.bool_bool (A:=A) (s:=s) p q;cases p<;>cases q<;>exact this
 |n+1,A,hu,.i a,.s b,u,v,c,d=>by
  obtain⟨g,rfl⟩:=d;rw[decide_eq_false (fun z=>nomatch z)]
  rcases c with⟨t,rfl⟩|⟨p,rfl,rfl⟩
  ·exact EqAt.int_str a t b g
  ·exact EqAt.bool_str p b g
 |n+1,A,hu,.i a,.t h,u,v,c,d=>by
  obtain⟨ad,f,rfl,p,_⟩:=d;rw[decide_eq_false (fun z=>nomatch z)]
  rcases c with⟨t,rfl⟩|⟨q,rfl,rfl⟩
  ·exact EqAt.int_tuple a t p (Nd (Np _ _) hu)
  ·exact EqAt.bool_tuple q p (Nd (Np _ _) hu)
 |n+1,A,hu,.s b,.i a,u,v,c,d=>by
  obtain⟨g,rfl⟩:=c;rw[decide_eq_false (fun z=>nomatch z)]
  rcases d with⟨t,rfl⟩|⟨p,rfl,rfl⟩
  ·exact EqAt.str_int b g a t
  ·exact EqAt.str_bool b g p
 | n+1,A,hu,.s a,.s b,u,v,c,d=>by
  obtain⟨t,rfl⟩:=c;obtain⟨g,rfl⟩:=d
  have hd:decide (Tr.s a=Tr.s b)=(a==b):=by
   by_cases z:a=b
   ·subst z;simp
   ·rw[decide_eq_false fun q=>z (Tr.s.inj q)];exact(beq_eq_false_iff_ne.mpr z).symm
  rw[hd];exact EqAt.str_str a t b g
 |n+1,A,hu,.s b,.t h,u,v,c,d=>by
  obtain⟨ad,f,rfl,p,_⟩:=d;obtain⟨t,rfl⟩:=c;rw[decide_eq_false (fun z=>nomatch z)];exact EqAt.str_tuple b t p (Nd (Np _ _) hu)
 |n+1,A,hu,.t h,.i a,u,v,c,d=>by
  obtain⟨ad,f,rfl,p,_⟩:=c;rw[decide_eq_false (fun z=>nomatch z)]
  rcases d with⟨t,rfl⟩|⟨q,rfl,rfl⟩
  ·exact EqAt.tuple_int a t p (Nd (Np _ _) hu)
  ·exact EqAt.tuple_bool q p (Nd (Np _ _) hu)
 |n+1,A,hu,.t h,.s b,u,v,c,d=>by
  obtain⟨ad,f,rfl,p,_⟩:=c;obtain⟨t,rfl⟩:=d;rw[decide_eq_false (fun z=>nomatch z)];exact EqAt.tuple_str b t p (Nd (Np _ _) hu)
 | n+1,A,hu,.t h,.t l,u,v,c,d=>by
  obtain⟨ad,f,rfl,p,q⟩:=id c;obtain⟨Y,m,rfl,M,G⟩:=id d
  by_cases B:ad=Y
  ·subst B;have:=Ju _ _ _ c d;rw[this,decide_eq_true rfl];exact EqAt.same _
  ·refine EqAt.of_refs B ?_;have S:=Qf9 (s:=s) n A.in1 (by show A.units+1+n<cLine;omega)
   have L:=RcAt.tuples (A:=A) (s:=s) (e:=fun j=>match h[j]?,l[j]? with|some x,some y=>decide (x=y)|_,_=>false) p M (Nd (Np _ _) hu) (fun j D C=>by
    have O:=N7 q;have N:=N7 G;have Q:j<h.length:=by rw[O];exact D
    have P:j<l.length:=by rw[N];exact C
    obtain⟨x,c⟩:∃x,h[j]?=some x:=⟨h[j],No Q⟩
    obtain⟨y,d⟩:∃y,l[j]?=some y:=⟨l[j],No P⟩
    obtain⟨u,o,H⟩:=Jy q c;obtain⟨t,r,I⟩:=Jy G d;rw[c,d]
    have X:f[j]=u:=by
     rw[NH,NI D]at o;exact Eg o
    have U:m[j]=t:=by
     rw[NH,NI C]at r;exact Eg r
    rw[X,U]
    exact S x y u t H I)
   have:=Qew (e:=fun j=>match h[j]?,l[j]? with|some x,some y=>decide (x=y)|_,_=>false) q G (fun j x y D C=>by simp only[D,C]);rw[Nr,Nr]at this;rw[this]at L;exact L
theorem Ya{A:Around}{s:Shared}:∀(n m:Nat) (k:Tr) (v:Value) (Q:Bool->Shared->Prop),IsT s.heap n k v->n<=m->Q true s->wpAny (model prog w) A (eqIsQuiet m v) Q E s
 |0,_,_,_,_,x,_,_=>x.elim
 |n+1,m,.i k,v,Q,x,_,h=>by
  rcases x with⟨t,rfl⟩|⟨b,rfl,rfl⟩
  ·rw[Lq _ rfl];exact Nj h
  ·rw[Lq _ rfl];exact Nj h
 |n+1,m,.s k,v,Q,x,_,h=>by
  obtain⟨t,rfl⟩:=x;rw[Lq _ rfl];exact Nj h
 |n+1,0,.t f,v,Q,x,z,h=>by lia
 | n+1,m+1,.t f,v,Q,x,z,h=>by
  obtain⟨a,e,rfl,⟨o,g,B,l,hd⟩,q⟩:=x;have j:s.TypeIs (.ref a) "tuple":=⟨o,g,B⟩
  unfold eqIsQuiet;refine Na (IG j F.slot_tuple_eq.lookup ?_);show wpAny _ _ (isInstance (.ref a) (.type "tuple")>>=_) _ _ s;refine Na (Ix j isSubtype_tuple_tuple ?_);simp only[DR,NT,if_false];refine Na (D4 g hd ?_);refine Na ?_;show wpAny _ _ (forIn e _ _) _ _ s;rw[<-FR];refine FG _ (fun rest r d=>r.1=none/\d=s/\∃c,Paired (IsT s.heap n) c rest) _ ?_ ?_ _ _ ⟨rfl,rfl,f,q⟩
  ·rintro v rest r d ⟨hr,rfl,c,y⟩
   cases y with
   |cons u p=>
    refine Na (Ya n m _ _ _ u (by lia) ?_);simp only[DR,NT,if_false];exact Nj ⟨rfl,rfl,_,p⟩
  ·rintro⟨D,C⟩ d ⟨hr,rfl,_⟩
   simp only at hr;subst hr;exact Nj h
end
noncomputable def Qi(prog:Program)(w:World):HeapKind prog w Tr where
 is:=fun h k a=>IsT h 8 k (.ref a)
 hash:=hN w 8
 draws:=dN 8
 room:=fun A=>A.units+8<cLine
 inj:=fun c b=>Ju _ _ _ c b
 keeps:=fun x f hd e=>Y6 f hd e _ _ x
 pyHash:=fun hu d h=>Qbz 8 _ hu _ _ _ _ d h
 eqBool:=fun hu c b h=>Qf9 8 _ hu _ _ _ _ c b _ _ _ _ h
 quiet:=fun d h=>Ya 8 8 _ _ _ d (Nu _) h

noncomputable def kV:Key->V
 |.inl i=>.int i
 |.inr x=>.str x

inductive HO where
 /-- a list -/
 |lst (xs:List V)
 /-- a tuple (never changes) -/
 |tup (xs:List V)
 /-- a dict whose keys are ints and texts;one whose keys are tuples of ints and texts (the empty one is both) -/
 |dK (kvs:List (Key×V))|dT (kvs:List (Tr×Addr×V))
 /-- a set of ints: its members,its size -/
 |set (S:Int->Bool) (n:Nat)
 /-- an instance of the class at C,its dict at dx,its attributes -/
 |ins (C dx:Addr) (fs:List (Str×V))
 /-- the dict of the instance at x -/
 |own (x:Addr)
 /-- the dict of an exception -/
 |xd (fs:List (Str×V))
 /-- a bound method,f of x -/
 |met (f x:Addr)
 /-- a range object lo,lo+1,.. below hi -/
 |rng (lo hi:Int)
 /-- a thing that is known to the object (the script;a dict while a loop walks it): read,never written while it is so -/
 |frz (o:Obj) (u:HO)
 /-- a code object's table -/
 |tbl (ps:Array Value)
 /-- any other thing,by what is true of its one object (a def of one's own: SetO a S n:=HO.ext fun h=>..) -/
 |ext (φ:Heap->Prop)

noncomputable abbrev Hp:=Addr->Option HO
noncomputable def upd(H:Hp)(a:Addr)(o:HO):Hp:=fun b=>if b=a then some o else H b
theorem ZW{H:Hp}{a:Addr}{o:HO}:upd H a o a=some o:=by unfold upd;rw[if_pos rfl]
theorem Qt{H:Hp}{a b:Addr}{o:HO}(h:b≠a):upd H a o b=H b:=by unfold upd;rw[if_neg h]
theorem Z3{H:Hp}{a b:Addr}{o:HO}(h:H a=some o)(h':H b=none):a≠b:=by
 intro e;subst e;rw[h]at h';cases h'

section
variable(P:Program)(w:World)
noncomputable def ObjOk(H:Hp)(h:Heap)(a:Addr):HO->Prop
 |.lst xs=>xs.length<=sizeLine/\∃(c:List Value) (n:Nat),Vals xs c/\h.get? a=some { cls:=.type "list",data:=.seq c.toArray n }
 |.tup xs=>xs.length<=sizeLine/\∃c:List Value,Vals xs c/\IsTup h a c.toArray
 |.dK b=>b.length<=sizeLine/\(a==sysModules)=false/\∃j,KV b j/\h.DictOf (QaY P w) a j
 | .dT b=>b.length<=sizeLine/\(a==sysModules)=false/\∃xs:List (Tr×Addr×Value),
   Paired (fun(p:Tr×Addr×V) (q:Tr×Addr×Value)=>p.1=q.1/\p.2.1=q.2.1/\RelV p.2.2 q.2.2) b xs /\
   ∃o i r,h.get? a=some o/\o.ExactDict/\o.data=.dict i r/\i.toList=xs.map (entryOfKey (Qi P w))/\(xs.map (·.1)).Nodup/\r=i.size
 |.set S n=>h.SetOf (intKind P w) a S n
 | .ins C e fs=>H e=some (.own a)/\fs.length<=1000/\e≠a/\h.get? a=some (LZ C e) /\
   ∃d,h.Ns1 e d/\(∀f,RelO (fs.lookup f) (d f))/\PySem.Within d (fs.map (·.1))
 |.own _=>∃o,h.get? a=some o
 |.xd fs=>∃d,h.Ns1 a d/\∀f,RelO (fs.lookup f) (d f)
 |.rng lo s=>∃t u v,h.get? a=some { cls:=.type "range",data:=.fields #[.int lo t,.int s u,.int 1 v] }
 |.frz o u=>h.get? a=some o/\ObjOk H h a u
 |.tbl ps=>h.get? a=some { cls:=.none,data:=.fields ps }
 |.met f x=>h.get? a=some (Lr (.ref f) (.ref x))
 |.ext g=>g h/\(∃o,h.get? a=some o)/\∀m l:Heap,g m->(∀o,m.get? a=some o->l.get? a=some o)->g l
noncomputable def HOk(H:Hp)(h:Heap):Prop:=∀a o,H a=some o->ObjOk P w H h a o
end

section
variable{P:Program}{w:World}{H H':Hp}{h h':Heap}{a:Addr}{o:HO}
theorem ObjOk.lt(x:ObjOk P w H h a o):a<h.objs.size:=by
 cases o with
 |lst c=>obtain⟨_,_,_,_,e⟩:=x;exact ND e
 |tup c=>obtain⟨_,_,_,p⟩:=x;exact p.lt
 |dK b=>obtain⟨_,_,_,_,o,_,_,e,_⟩:=x;exact ND e
 |dT b=>obtain⟨_,_,_,_,o,_,_,e,_⟩:=x;exact ND e
 |set S n=>obtain⟨o,_,_,_,e,_⟩:=x;exact ND e
 |ins C i fs=>obtain⟨_,_,_,e,_⟩:=x;exact ND e
 |own y=>obtain⟨_,e⟩:=x;exact ND e
 |xd fs=>obtain⟨_,⟨_,_,_,e,_⟩,_⟩:=x;exact ND e
 |rng lo g=>obtain⟨_,_,_,e⟩:=x;exact ND e
 |frz ob u=>obtain⟨e,_⟩:=x;exact ND e
 |tbl ps=>exact ND (show h.get? a=some _ from x)
 |met f y=>exact ND (show h.get? a=some _ from x)
 |ext d=>obtain⟨_,⟨_,e⟩,_⟩:=x;exact ND e
theorem Paired.mapP{g e:Type}{F G:g->e->Prop}:∀{d:List g} {c:List e},Paired F d c->(∀a b,F a b->G a b)->Paired G d c
 |_,_,.nil,_=>.nil
 |_,_,.cons r t,f=>.cons (f _ _ r) (Paired.mapP t f)
theorem ObjOk.stay(x:ObjOk P w H h a o)(k:∀b u,(b=a\/H b=some (.own a))->h.get? b=some u->h'.get? b=some u)
  (D:∀b,H b=some (.own a)->H' b=some (.own a)) (I:∀b xs,H b=some (.tup xs)->H' b=some (.tup xs)):ObjOk P w H' h' a o:=by
 induction o with
 |lst xs=>obtain⟨z,j,n,r,e⟩:=x;exact⟨z,j,n,r,k _ _ (.inl rfl) e⟩
 |tup xs=>obtain⟨z,j,r,ob,e,c⟩:=x;exact⟨z,j,r,ob,k _ _ (.inl rfl) e,c⟩
 |dK s=>obtain⟨z,y,A,r,ob,g,i,e,c⟩:=x;exact⟨z,y,A,r,ob,g,i,k _ _ (.inl rfl) e,c⟩
 |dT s=>
  obtain⟨z,y,xs,r,ob,g,i,e,c⟩:=x;exact⟨z,y,xs,r,ob,g,i,k _ _ (.inl rfl) e,c⟩
 |set S n=>obtain⟨ob,g,i,t,e,c⟩:=x;exact⟨ob,g,i,t,k _ _ (.inl rfl) e,c⟩
 |ins C M fs=>
  obtain⟨d,z,ne,e,m,⟨l,g,i,E,c⟩,r⟩:=x;exact⟨D _ d,z,ne,k _ _ (.inl rfl) e,m,⟨l,g,i,k _ _ (.inr d) E,c⟩,r⟩
 |own y=>obtain⟨ob,e⟩:=x;exact⟨ob,k _ _ (.inl rfl) e⟩
 |xd fs=>obtain⟨m,⟨l,g,i,e,c⟩,r⟩:=x;exact⟨m,⟨l,g,i,k _ _ (.inl rfl) e,c⟩,r⟩
 |rng lo L=>obtain⟨t,u,v,e⟩:=x;exact⟨t,u,v,k _ _ (.inl rfl) e⟩
 |frz ob u B=>obtain⟨e,q⟩:=x;exact⟨k _ _ (.inl rfl) e,B q⟩
 |tbl ps=>
  have e:h.get? a=some { cls:=.none,data:=.fields ps }:=x;show h'.get? a=some { cls:=.none,data:=.fields ps };exact k a _ (.inl rfl) e
 |met f y=>
  have e:h.get? a=some (Lr (.ref f) (.ref y)):=x;show h'.get? a=some (Lr (.ref f) (.ref y));exact k a _ (.inl rfl) e
 |ext G=>obtain⟨p,⟨o,e⟩,st⟩:=x;exact⟨st _ _ p fun o q=>k _ _ (.inl rfl) q,⟨o,k _ _ (.inl rfl) e⟩,st⟩
theorem HOk.lt(x:HOk P w H h)(e:H a=some o):a<h.objs.size:=(x a o e).lt
theorem HOk.fresh(x:HOk P w H h)(e:h.objs.size<=a):H a=none:=by
 cases q:H a with
 |none=>rfl
 |some u=>exact absurd (Ng (x.lt q) e) (EG _)
theorem HOk.kept(x:HOk P w H h)(k:∀b u,h.get? b=some u->h'.get? b=some u):HOk P w H h':=fun a o e=>
 (x a o e).stay (fun b u _ q=>k b u q) (fun _ q=>q) fun _ _ q=>q
theorem HOk.laid(x:HOk P w H h)(k:∀b u,h.get? b=some u->h'.get? b=some u)(g:h.objs.size<=a)(new:ObjOk P w (upd H a o) h' a o):HOk P w (upd H a o) h':=fun b u e=>by
 have d:=x.fresh g
 by_cases f:b=a
 ·subst f;rw[ZW]at e;cases e;exact new
 ·rw[Qt f]at e;exact(x b u e).stay (fun c v _ q=>k c v q) (fun c q=>by rw[Qt (Z3 q d)];exact q) fun c i q=>by rw[Qt (Z3 q d)];exact q
end

noncomputable def Rd(H:Hp)(a:Addr)(u:HO):Prop:=H a=some u\/∃o,H a=some (.frz o u)
theorem Rd.ok{P:Program}{w:World}{H:Hp}{h:Heap}{a:Addr}{u:HO}(r:Rd H a u)(x:HOk P w H h):ObjOk P w H h a u:=by
 rcases r with r|⟨o,r⟩
 ·exact x a u r
 ·obtain⟨_,q⟩:=x a _ r;exact q
noncomputable def Mut:Option HO->Prop
 |some (.lst _)=>True
 |some (.dK _)=>True
 |some (.dT _)=>True
 |some (.set _ _)=>True
 |some (.ins _ _ _)=>True
 |some (.ext _)=>True
 |_=>False
section
variable{P:Program}{w:World}{H:Hp}{h h':Heap}{x e:Addr}{o':HO}
theorem HOk.write(ok:HOk P w H h)(i:Mut (H x))(o:e=x\/H e=some (.own x))(k:∀b u,b≠e->h.get? b=some u->h'.get? b=some u)(m:∃u,h'.get? e=some u)
  (new:ObjOk P w (upd H x o') h' x o'):HOk P w (upd H x o') h':=fun b u q=>by
 have d:∀c y,H c=some (.own y)->c≠x:=fun c y r z=>by subst z;rw[r]at i;exact i
 have f:∀c g,H c=some (.tup g)->c≠x:=fun c g r z=>by subst z;rw[r]at i;exact i
 by_cases l:b=x
 ·subst l;rw[ZW]at q;cases q;exact new
 ·rw[Qt l]at q
  by_cases a:b=e
  ·have n:H b=some (.own x):=by
    rcases o with z|z
    ·exact absurd (a.trans z) l
    ·rw[a];exact z
   rw[q]at n;cases n;obtain⟨v,p⟩:=m;exact⟨v,by rw[a];exact p⟩
  ·refine(ok b u q).stay (fun c v j r=>k c v ?_ r) (fun c r=>by rw[Qt (d c b r)];exact r) fun c g r=>by rw[Qt (f c g r)];exact r
   rcases j with rfl|j
   ·exact a
   ·rintro rfl
    rcases o with z|z
    ·exact d c b j z
    ·rw[j]at z;cases z;exact l rfl
end

structure Un(fs ex:List Addr)(H H':Hp)(h h':Heap):Prop where
 keep:∀b o,h.get? b=some o->H b=none->b∉fs->b∉ex->h'.get? b=some o
 slot:∀b o,h.get? b=some o->H b=none->b∈fs->b∉ex->∃sl,h'.get? b=some { o with slots:=sl }
 free:∀b o,h.get? b=some o->H b=none->b∉ex->H' b=none
 there:∀b o,h.get? b=some o->b∉ex->∃o',h'.get? b=some o'
 tups:∀b xs,H b=some (.tup xs)->H' b=some (.tup xs)
 frzs:∀b o u,H b=some (.frz o u)->H' b=some (.frz o u)
 tbls:∀b ps,H b=some (.tbl ps)->∃more,H' b=some (.tbl (ps++more))
section
variable{fs fs' ex ex':List Addr}{H H1 H2:Hp}{h h1 h2 h':Heap}{a x e:Addr}{o:HO}
theorem Un.any(u:Un fs ex H H1 h h1){b:Addr}{ob:Obj}(q:h.get? b=some ob)(n:H b=none)(c:b∉ex):∃f,h1.get? b=some { ob with slots:=f }:=by
 by_cases d:b∈fs
 ·exact u.slot b ob q n d c
 ·exact⟨ob.slots,u.keep b ob q n d c⟩
theorem Un.kept(k:∀b u,h.get? b=some u->h'.get? b=some u):Un fs ex H H h h':=
 ⟨fun b ob q _ _ _=>k b ob q,fun b ob q _ _ _=>⟨ob.slots,k b ob q⟩,fun _ _ _ n _=>n,fun b ob q _=>⟨ob,k b ob q⟩,fun _ _ q=>q,fun _ _ _ q=>q,fun _ ps q=>⟨#[],by rw[q];simp⟩⟩
theorem Un.refl:Un fs ex H H h h:=Un.kept fun _ _ q=>q
theorem Un.laid(k:∀b u,h.get? b=some u->h'.get? b=some u)(f:h.objs.size<=a)(c:H a=none):Un fs ex H (upd H a o) h h' where
 keep:=fun b u q _ _ _=>k b u q
 slot:=fun b u q _ _ _=>⟨u.slots,k b u q⟩
 free:=fun b u q n _=>by rw[Qt (NS (Ng (ND q) f))];exact n
 there:=fun b u q _=>⟨u,k b u q⟩
 tups:=fun b d q=>by rw[Qt (Z3 q c)];exact q
 frzs:=fun b u d q=>by rw[Qt (Z3 q c)];exact q
 tbls:=fun b ps q=>⟨#[],by rw[Qt (Z3 q c),q];simp⟩
theorem Un.write(d:Mut (H x))(m:e=x\/H e=some (.own x))(k:∀b u,b≠e->h.get? b=some u->h'.get? b=some u)(g:∃u,h'.get? e=some u):Un fs ex H (upd H x o) h h':=by
 have i:∀b,H b=none->b≠x:=fun b n z=>by subst z;rw[n]at d;exact d
 have j:∀b,H b=none->b≠e:=fun b n z=>by
  subst z
  rcases m with r|r
  ·exact i b n r
  ·rw[n]at r;cases r
 have f:∀b u,H b=some u->¬Mut (some u)->b≠x:=fun b u q nm z=>by subst z;rw[q]at d;exact nm d
 refine⟨fun b u q n _ _=>k b u (j b n) q,fun b u q n _ _=>⟨u.slots,k b u (j b n) q⟩,fun b u q n _=>by rw[Qt (i b n)];exact n,fun b u q _=>?_,
  fun b l q=>by rw[Qt (f b _ q fun z=>z)];exact q,fun b u l q=>by rw[Qt (f b _ q fun z=>z)];exact q,fun b ps q=>⟨#[],by rw[Qt (f b _ q fun z=>z),q];simp⟩⟩
 by_cases c:b=e
 ·subst c;exact g
 ·exact⟨u,k b u c q⟩
end

noncomputable def trk(h:Heap)(H:Hp):List Addr:=(List.range h.objs.size).filter fun a=>(H a).isSome
noncomputable def Qcm(h:Heap)(H:Hp):Heap:=PySem.W.hideAll h (trk h H)
theorem QaG(h:Heap)(H:Hp):(Qcm h H).objs.size=h.objs.size:=PySem.W.hideAll_size _ _
theorem Qc4{h:Heap}{H:Hp}{b:Addr}{o:Obj}(e:h.get? b=some o)(n:H b=none):(Qcm h H).get? b=some o:=
 PySem.W.hideAll_get _ e fun a=>by
  have q:(H b).isSome=true:=(Fj.mp a).2;rw[n]at q;simp at q
theorem Qer{h:Heap}{H:Hp}{b:Addr}{o:Obj}(e:(Qcm h H).get? b=some o):h.get? b=some o/\H b=none:=by
 have a:h.get? b=some o:=PySem.W.of_hideAll (trk h H) e;refine⟨a,?_⟩;cases q:H b with
 |none=>rfl
 |some x=>
  have c:b∈trk h H:=Fj.mpr ⟨N9.mpr (ND a),by simp[q]⟩;have z:(Qcm h H).get? b=none:=PySem.W.hideAll_none (trk h H) c;rw[z]at e;cases e

end L2

namespace L2

structure Mod(K:Nh)(mg:Str->Option Value)(base:Heap):Prop where
 kin:K.In base
 glob:base.Ns mainGlobals mg
 blt:∃mb,base.Ns builtinsNs mb/\∀x:Str,x≠"__name__"->mb x=bootBuiltins x
 nolimit:base.NoLimit

structure Cx where
 prog:Program
 w:World
 K:Nh
 mg:Str->Option Value
 base:Heap
 A:Around
 N:List Str
 s₀:Shared
 H₀:Hp
 env:Env
 outer:List Env
 stack:List Env
 ex:List Addr
 fn:Str->Bool
 calm:Bool
 pn:List (Addr×Obj)
 xe:Value->Shared->Prop
noncomputable def frs(l:List Env):List Addr:=l.filterMap (·.frame)
noncomputable abbrev Cx.fs(X:Cx):List Addr:=frs X.outer

noncomputable def Vis(a:Scope)(x:Str):Prop:=a.names.lookup x=some .local\/a.names.lookup x=some .cell\/a.names.lookup x=some .free
noncomputable def Loc(a:Scope)(x:Str):Prop:=a.names.lookup x=some .local\/a.names.lookup x=some .cell
noncomputable def Qll(env:Env)(h:Heap)(m:Str->Option Value)(x:Str)(u:Value):Prop:=
 (env.kindOf x=some .local/\m x=some u)\/((env.kindOf x=some .cell\/env.kindOf x=some .free)/\∃c,env.cells.lookup x=some c/\h.IsCell c (some u))

structure Cx.Ok(X:Cx):Prop where
 mod:Mod X.K X.mg X.base
 kind:X.env.scope.kind=.function
 glob:X.env.globals=mainGlobals
 blt:X.env.builtins=builtinsNs
 above:X.s₀.heap.objs.size<=X.env.locals
 inj:∀x y c,X.env.cells.lookup x=some c->X.env.cells.lookup y=some c->x=y
 has:∀x,(X.env.kindOf x=some .cell\/X.env.kindOf x=some .free)->∃c,X.env.cells.lookup x=some c
 cab:∀x c,X.fn x=true->X.env.cells.lookup x=some c->X.s₀.heap.objs.size<=c
 hd:X.calm=true->X.A.handled=none
 frames:X.A.frames=some X.stack
 stk:X.stack=X.outer\/(X.stack=X.env::X.outer/\X.env.frame=some X.env.locals)
 exf:∀b∈X.ex,b≠X.env.locals/\∀x c,X.env.cells.lookup x=some c->c≠b
 bs:∀b o,X.base.get? b=some o->X.s₀.heap.get? b=some o/\X.H₀ b=none
 bsz:X.base.objs.size<=X.s₀.heap.objs.size
 noex:∀b o,X.base.get? b=some o->b∉X.ex
 exfs:∀b∈X.ex,b∉X.fs
 funs:X.s₀.heap.FunFrames X.base X.outer
 frf:∀b∈X.fs,X.H₀ b=none

structure Inv(X:Cx)(pins:List (Addr×Obj))(σ:List (Option V))(H:Hp)(s:Shared):Prop where
 ok:X.Ok
 os:s.os=X.s₀.os
 bare:AllBare s.gens
 base:Un X.fs X.ex X.H₀ H X.s₀.heap s.heap
 loc:∃m,s.heap.Ns X.env.locals m/\∀(i:Nat) (x:Str) (v:V),X.N[i]?=some x->σ[i]?=some (some v)->Vis X.env.scope x->∃u,RelV v u/\Qll X.env s.heap m x u
 cell:∀x c,X.env.cells.lookup x=some c->∃v,s.heap.IsCell c v
 free:H X.env.locals=none
 freeC:∀x c,X.env.cells.lookup x=some c->H c=none
 pin:∀p∈X.pn++pins,s.heap.get? p.1=some p.2/\H p.1=none/\p.1≠X.env.locals/\p.1∉X.fs/\∀v,p.2.data≠.cell v
 hok:HOk X.prog X.w H s.heap
 len:σ.length=X.N.length

section
variable{X:Cx}{pins:List (Addr×Obj)}{σ:List (Option V)}{H H':Hp}{s:Shared}{h':Heap}

theorem Cx.Ok.nofr(ok:X.Ok){b:Addr}{o:Obj}(e:X.base.get? b=some o):b∉X.fs:=fun a=>by
 have:=(ok.funs.mem a).1;rw[e]at this;cases this
theorem Inv.bs(I:Inv X pins σ H s):∀b o,X.base.get? b=some o->s.heap.get? b=some o/\H b=none:=fun b o e=>
 ⟨I.base.keep b o (I.ok.bs b o e).1 (I.ok.bs b o e).2 (I.ok.nofr e) (I.ok.noex b o e),I.base.free b o (I.ok.bs b o e).1 (I.ok.bs b o e).2 (I.ok.noex b o e)⟩
theorem Inv.bk(I:Inv X pins σ H s):∀b o,X.base.get? b=some o->s.heap.get? b=some o:=fun b o e=>(I.bs b o e).1
theorem Inv.mod(I:Inv X pins σ H s):Mod X.K X.mg X.base:=I.ok.mod
theorem Inv.kIn(I:Inv X pins σ H s):X.K.In s.heap:=I.ok.mod.kin.keeps I.bk
theorem Inv.lt(I:Inv X pins σ H s):X.env.locals<s.heap.objs.size:=let⟨_,a,_⟩:=I.loc;a.lt
theorem Inv.sz(I:Inv X pins σ H s):X.s₀.heap.objs.size<=s.heap.objs.size:=Nf I.ok.above (Nl I.lt)
theorem Inv.nofs(I:Inv X pins σ H s){a:Addr}(h:s.heap.objs.size<=a):a∉X.fs:=fun c=>by
 obtain⟨_,o,b,_⟩:=I.ok.funs.mem c;exact absurd (Ng (ND b) (Nf I.sz h)) (EG _)
theorem Inv.cne(I:Inv X pins σ H s):∀x c,X.env.cells.lookup x=some c->c≠X.env.locals:=fun x c e z=>by
 obtain⟨v,o,d,hd⟩:=I.cell x c e;obtain⟨m,⟨f,g,h,a,b,_⟩,_⟩:=I.loc;rw[z,a]at d;cases d;rw[b]at hd;cases hd
theorem Inv.funs(I:Inv X pins σ H s):s.heap.FunFrames X.base X.outer:=by
 have all:∀(l:List Env),(∀b∈frs l,b∈X.fs)->X.s₀.heap.FunFrames X.base l->s.heap.FunFrames X.base l:=by
  intro l
  induction l with
  |nil=>intro _ _;trivial
  |cons n r g=>
   intro f j;obtain⟨m,⟨L,o,a,i,h,hd⟩,hr⟩:=j;have d:L∈X.fs:=f L (by unfold frs;rw[Dj,a];exact Nz);obtain⟨p,e⟩:=I.base.slot L o h (I.ok.frf L d) d fun z=>I.ok.exfs L z d;exact⟨m,⟨L,_,a,i,e,hd⟩,g (fun b c=>f b (by unfold frs;rw[Dj,a];exact Nw _ c)) hr⟩
 exact all X.outer (fun _ c=>c) I.ok.funs

theorem Inv.stack(I:Inv X pins σ H s):s.heap.FunFrames X.base X.stack:=by
 rcases I.ok.stk with e|⟨e,b⟩
 ·rw[e];exact I.funs
 ·rw[e];obtain⟨m,a,_⟩:=I.loc;refine .cons (by rw[I.ok.kind];decide) b a ?_ I.funs;exact Heap.get?_none_of_le (Nf I.ok.bsz I.ok.above)
theorem Inv.stkSub(I:Inv X pins σ H s):∀b∈frs X.stack,b∈X.env.locals::X.fs:=fun b a=>by
 rcases I.ok.stk with e|⟨e,c⟩
 ·rw[e]at a;exact Nw _ a
 ·rw[e]at a;unfold frs at a;rw[Dj,c]at a;exact a
theorem Inv.stkFree(I:Inv X pins σ H s):∀b∈frs X.stack,H b=none:=fun b a=>by
 rcases NF.mp (I.stkSub b a)with e|a
 ·rw[e];exact I.free
 ·obtain⟨_,o,c,_⟩:=I.ok.funs.mem a;exact I.base.free b o c (I.ok.frf b a) fun z=>I.ok.exfs b z a

theorem Inv.step{g':Array GenState}{t':Nat}{d':Drawn}{ch:List Addr}(I:Inv X pins σ H s)
  (g:∀b∈ch,(b∈X.ex\/X.s₀.heap.objs.size<=b)/\b≠X.env.locals/\(∀x c,X.env.cells.lookup x=some c->c≠b)/\∀p∈X.pn++pins,p.1≠b)
  (keep:∀b o,b≠X.env.locals->b∉X.fs->b∉ch->s.heap.get? b=some o->H b=none->h'.get? b=some o)
  (slot:∀b o,b≠X.env.locals->b∈X.fs->b∉ch->s.heap.get? b=some o->H b=none->∃O,h'.get? b=some { o with slots:=O }) (free:∀b o,b∉ch->s.heap.get? b=some o->H b=none->H' b=none)
  (there:∀b o,b∉ch->s.heap.get? b=some o->∃E,h'.get? b=some E)
  (C:∀b y,H b=some (.tup y)->H' b=some (.tup y)) (L:∀b o u,H b=some (.frz o u)->H' b=some (.frz o u)) (D:∀b ps,H b=some (.tbl ps)->∃more,H' b=some (.tbl (ps++more)))
  (Y:∀m,s.heap.Ns X.env.locals m->h'.Ns X.env.locals m) (P:HOk X.prog X.w H' h') (hg:AllBare g') :
  Inv X pins σ H' { s with heap:=h',gens:=g',drawn:=d',toks:=t' }:=by
 have G:∀b o,X.s₀.heap.get? b=some o->b≠X.env.locals:=fun b o e=>NS (Ng (ND e) I.ok.above)
 have j:∀b o,X.s₀.heap.get? b=some o->b∉X.ex->b∉ch:=fun b o e a A=>by
  rcases(g b A).1 with z|z
  ·exact a z
  ·exact absurd (Ng (ND e) z) (EG _)
 have h:∀x c,X.env.cells.lookup x=some c->∀v,s.heap.IsCell c v->h'.IsCell c v:=fun x c e v ⟨o,B,hd⟩=>by
  have f:c∉ch:=fun z=>(g c z).2.2.1 x c e rfl
  by_cases U:c∈X.fs
  ·obtain⟨O,q⟩:=slot c o (I.cne x c e) U f B (I.freeC x c e);exact⟨_,q,hd⟩
  ·exact⟨o,keep c o (I.cne x c e) U f B (I.freeC x c e),hd⟩
 refine⟨I.ok,I.os,hg,⟨fun b o e n A a=>?_,fun b o e n A a=>?_,fun b o e n a=>?_,fun b o e a=>?_,fun b y e=>C b y (I.base.tups b y e),fun b o y e=>L b o y (I.base.frzs b o y e),fun b ps e=>?_⟩,?_,fun x c e=>?_,?_,fun x c e=>?_,fun p S=>?_,P,I.len⟩
 ·exact keep b o (G b o e) A (j b o e a) (I.base.keep b o e n A a) (I.base.free b o e n a)
 ·obtain⟨O,t⟩:=I.base.slot b o e n A a;obtain⟨N,M⟩:=slot b _ (G b o e) A (j b o e a) t (I.base.free b o e n a);exact⟨N,M⟩
 ·obtain⟨E,t⟩:=I.base.there b o e a;exact free b E (j b o e a) t (I.base.free b o e n a)
 ·obtain⟨E,t⟩:=I.base.there b o e a;exact there b E (j b o e a) t
 ·obtain⟨m1,t⟩:=I.base.tbls b ps e;obtain⟨Z,M⟩:=D b _ t;exact⟨m1++Z,by rw[M,Array.append_assoc]⟩
 ·obtain⟨m,hn,hl⟩:=I.loc;refine⟨m,Y m hn,fun i x v t M e3=>?_⟩;obtain⟨u,r,l⟩:=hl i x v t M e3;refine⟨u,r,?_⟩
  rcases l with l|⟨k,c,e,z⟩
  ·exact .inl l
  ·exact .inr ⟨k,c,e,h x c e _ z⟩
 ·obtain⟨v,z⟩:=I.cell x c e;exact⟨v,h x c e v z⟩
 ·obtain⟨m,⟨o,_,_,B,_⟩,_⟩:=I.loc;exact free _ o (fun z=>(g _ z).2.1 rfl) B I.free
 ·obtain⟨v,o,B,hd⟩:=I.cell x c e;exact free c o (fun z=>(g c z).2.2.1 x c e rfl) B (I.freeC x c e)
 ·obtain⟨e,n,ne,Q,d⟩:=I.pin p S;have f:p.1∉ch:=fun z=>(g p.1 z).2.2.2 p S rfl;exact⟨keep p.1 p.2 ne Q f e n,free p.1 p.2 f e n,ne,Q,d⟩
theorem Inv.un{t':Nat}(I:Inv X pins σ H s)(u:Un X.fs [] H H' s.heap h')(c:HOk X.prog X.w H' h'):Inv X pins σ H' { s with heap:=h',toks:=t' }:=by
 obtain⟨m,⟨o,x,y,h,r⟩,_⟩:=id I.loc;obtain⟨p,l⟩:=u.any h I.free (by simp)
 exact I.step (g':=s.gens) (d':=s.drawn) (ch:=[]) (fun _ z=>nomatch z) (fun b o _ d _ e n=>u.keep b o e n d (by simp)) (fun b o _ d _ e n=>u.slot b o e n d (by simp)) (fun b o _ e n=>u.free b o e n (by simp)) (fun b o _ e=>u.there b o e (by simp)) u.tups u.frzs u.tbls (fun t j=>by
  obtain⟨q,f,g,a,i⟩:=j;rw[h]at a;cases a
  exact⟨_,f,g,l,i⟩) c I.bare
theorem Inv.call{g':Array GenState}{t':Nat}{d':Drawn}{ch:List Addr}(I:Inv X pins σ H s)(u:Un (frs X.stack) ch H H' s.heap h')(g:HOk X.prog X.w H' h')(v:AllBare g')
  (f:∀b∈ch,(b∈X.ex\/X.s₀.heap.objs.size<=b)/\b≠X.env.locals/\(∀x c,X.env.cells.lookup x=some c->c≠b)/\∀p∈X.pn++pins,p.1≠b) :
  Inv X pins σ H' { s with heap:=h',gens:=g',drawn:=d',toks:=t' }:=by
 obtain⟨m,⟨o,D,E,l,r⟩,_⟩:=id I.loc;obtain⟨A,h⟩:=u.any l I.free fun z=>(f _ z).2.1 rfl
 exact I.step (ch:=ch) f (fun b o h y a e n=>u.keep b o e n (fun z=>(NF.mp (I.stkSub b z)).elim h y) a) (fun b o _ _ a e n=>u.any e n a) (fun b o a e n=>u.free b o e n a) (fun b o a e=>u.there b o e a) u.tups u.frzs u.tbls (fun C t=>by
  obtain⟨B,i,j,d,q⟩:=t;rw[l]at d;cases d
  exact⟨_,i,j,h,q⟩) g v
theorem Inv.turned{t':Nat}{it:Addr}(I:Inv X pins σ H s)(k:∀b o,b≠it->s.heap.get? b=some o->h'.get? b=some o)(h:H it=none)(f:it≠X.env.locals)
  (h1:it∈X.ex\/X.s₀.heap.objs.size<=it) (t:∀x c,X.env.cells.lookup x=some c->c≠it) (l:∀p∈X.pn++pins,p.1≠it):Inv X pins σ H { s with heap:=h',toks:=t' }:=by
 have d:∀b u,H b=some u->b≠it:=fun b u e z=>by rw[z,h]at e;cases e
 refine I.step (g':=s.gens) (d':=s.drawn) (ch:=[it]) (fun b j=>?_) (fun b o _ _ a e _=>k b o (fun z=>a (by simp[z])) e) (fun b o _ _ a e _=>⟨o.slots,k b o (fun z=>a (by simp[z])) e⟩) (fun _ _ _ _ n=>n)
  (fun b o a e=>⟨o,k b o (fun z=>a (by simp[z])) e⟩) (fun _ _ e=>e) (fun _ _ _ e=>e) (fun b ps e=>⟨#[],by rw[e];simp⟩) (fun m i=>?_) (fun b u e=>?_) I.bare
 ·have e:b=it:=by simpa using j
  subst e;exact⟨h1,f,t,l⟩
 ·obtain⟨o,w,y,g,r⟩:=i;exact⟨o,w,y,k _ o (DH f) g,r⟩
 ·refine(I.hok b u e).stay (fun c v a q=>k c v ?_ q) (fun _ q=>q) fun _ _ q=>q
  rcases a with z|z
  ·rw[z];exact d b u e
  ·exact d c _ z
theorem Inv.tok(I:Inv X pins σ H s)(t:Nat):Inv X pins σ H { s with toks:=t }:=I.un (h':=s.heap) (t':=t) Un.refl I.hok
theorem Inv.kept{t':Nat}(I:Inv X pins σ H s)(k:∀b u,s.heap.get? b=some u->h'.get? b=some u):Inv X pins σ H { s with heap:=h',toks:=t' }:=I.un (Un.kept k) (I.hok.kept k)
theorem Inv.laid{a:Addr}{o:HO}{t':Nat}(I:Inv X pins σ H s)(k:∀b u,s.heap.get? b=some u->h'.get? b=some u)(c:s.heap.objs.size<=a)(new:ObjOk X.prog X.w (upd H a o) h' a o) :
  Inv X pins σ (upd H a o) { s with heap:=h',toks:=t' }:=I.un (Un.laid k c (I.hok.fresh c)) (I.hok.laid k c new)
theorem Inv.write{x e:Addr}{o:HO}{t':Nat}(I:Inv X pins σ H s)(c:Mut (H x))(d:e=x\/H e=some (.own x))(k:∀b u,b≠e->s.heap.get? b=some u->h'.get? b=some u)(a:∃u,h'.get? e=some u)
  (new:ObjOk X.prog X.w (upd H x o) h' x o):Inv X pins σ (upd H x o) { s with heap:=h',toks:=t' }:=I.un (Un.write c d k a) (I.hok.write c d k a new)
theorem Inv.pins_of{a:List (Addr×Obj)}(I:Inv X pins σ H s)(h:∀p∈a,s.heap.get? p.1=some p.2/\H p.1=none/\p.1≠X.env.locals/\p.1∉X.fs/\∀v,p.2.data≠.cell v):Inv X a σ H s:=
 ⟨I.ok,I.os,I.bare,I.base,I.loc,I.cell,I.free,I.freeC,fun p b=>(NO.mp b).elim (fun z=>I.pin p (Du _ z)) (h p),I.hok,I.len⟩

theorem Uh{N:List Str}(hN:N.Nodup){i j:Nat}{x:Str}(a:N[i]?=some x)(b:N[j]?=some x):i=j:=by
 obtain⟨f,d⟩:=Nm.mp a;obtain⟨e,c⟩:=Nm.mp b;exact(D5 hN).mp (d.trans c.symm)

theorem YK{M:Model}{A:Around}{E:Value->Shared->Prop}{i:Nat}{x:Str}{v:V}{u:Value}{Q:Unit->Shared->Prop}(I:Inv X pins σ H s)(hN:X.N.Nodup)(hi:X.N[i]?=some x)(B:Loc X.env.scope x)(r:RelV v u)
  (h:∀s',Inv X pins (σ.set i (some v)) H s'->(∃a,Heap.SameBut a s.heap s'.heap/\(a=X.env.locals\/X.env.cells.lookup x=some a))->Q () s') (hf:X.fn x=true\/X.env.scope.names.lookup x=some .local:=by first|exact .inl rfl|exact .inr rfl|assumption):wpAny M A (storeName X.env x u) Q E s:=by
 obtain⟨m,hn,hl⟩:=id I.loc;have Z:(X.env.scope.kind==.class ||(X.env.scope.kind==.module&&X.env.locals != X.env.globals))=false:=by rw[I.ok.kind];rfl
 have L:i<σ.length:=by rw[I.len];exact(Nm.mp hi).1
 have cne:=I.cne
 have g:∀{a:Addr} {h':Heap},(∃o,s.heap.get? a=some o/\H a=none)->Heap.SameBut a s.heap h'->HOk X.prog X.w H h':=fun {a h'} ha f b ob e=>by
  obtain⟨_,_,C⟩:=ha;refine(I.hok b ob e).stay (fun c w' t q=>(f.2 c ?_).trans q) (fun _ q=>q) fun _ _ q=>q
  rintro rfl
  rcases t with rfl|t
  ·rw[C]at e;cases e
  ·rw[C]at t;cases t
 rcases B with G|G
 ·refine wpAny_storeName_local G hn (fun h' af f=>?_) Z;obtain⟨oL,_,_,ae,_⟩:=id hn;refine h _ ⟨I.ok,I.os,I.bare,⟨fun b o e n S B=>?_,fun b o e n S B=>?_,I.base.free,fun b o e B=>?_,I.base.tups,I.base.frzs,I.base.tbls⟩,⟨_,af,fun j y v' l D e3=>?_⟩,fun y c e=>?_,I.free,I.freeC,fun p hp=>?_,g ⟨oL,ae,I.free⟩ f,by simpa using I.len⟩ ⟨_,f,.inl rfl⟩
  ·exact(f.2 b (NS (Ng (ND e) I.ok.above))).trans (I.base.keep b o e n S B)
  ·obtain⟨sl,l⟩:=I.base.slot b o e n S B;exact⟨sl,(f.2 b (NS (Ng (ND e) I.ok.above))).trans l⟩
  ·obtain⟨o',l⟩:=I.base.there b o e B;exact⟨o',(f.2 b (NS (Ng (ND e) I.ok.above))).trans l⟩
  ·by_cases O:j=i
   ·subst O;rw[hi]at l;cases l;rw[Es L]at D;cases D;exact⟨u,r,.inl ⟨G,by simp⟩⟩
   ·rw[EC (DH O)]at D;obtain⟨u',r',q⟩:=hl j y v' l D e3;refine⟨u',r',?_⟩
    rcases q with⟨k,e⟩|⟨k,c,e,z⟩
    ·refine .inl ⟨k,?_⟩;have:y≠x:=fun e=>O (Uh hN l (e▸hi));simp[this,e]
    ·exact .inr ⟨k,c,e,z.sameBut f (cne y c e)⟩
  ·obtain⟨w',z⟩:=I.cell y c e;exact⟨w',z.sameBut f (cne y c e)⟩
  ·obtain⟨e,n,ne,nf,d⟩:=I.pin p hp;exact⟨(f.2 p.1 ne).trans e,n,ne,nf,d⟩
 ·have P:X.fn x=true:=by
   rcases hf with z|z
   ·exact z
   ·rw[z]at G;cases G
  obtain⟨c,t⟩:=I.ok.has x (.inl G);obtain⟨w',z⟩:=I.cell x c t;refine wpAny_storeName_cell I.ok.kind G t z (fun h' ab f=>?_);obtain⟨oc,Y,U⟩:=id z;refine h { s with heap:=h' } ⟨I.ok,I.os,I.bare,⟨fun b o e n S B=>?_,fun b o e n S B=>?_,I.base.free,fun b o e B=>?_,I.base.tups,I.base.frzs,I.base.tbls⟩,⟨m,hn.sameBut f (DH (cne x c t)),fun j y v' l D e3=>?_⟩,fun y c' e=>?_,I.free,I.freeC,fun p hp=>?_,g ⟨oc,Y,I.freeC x c t⟩ f,by simpa using I.len⟩ ⟨c,f,.inr t⟩
  ·exact(f.2 b (NS (Ng (ND e) (I.ok.cab x c P t)))).trans (I.base.keep b o e n S B)
  ·obtain⟨sl,l⟩:=I.base.slot b o e n S B;exact⟨sl,(f.2 b (NS (Ng (ND e) (I.ok.cab x c P t)))).trans l⟩
  ·obtain⟨o',l⟩:=I.base.there b o e B;exact⟨o',(f.2 b (NS (Ng (ND e) (I.ok.cab x c P t)))).trans l⟩
  ·by_cases O:j=i
   ·subst O;rw[hi]at l;cases l;rw[Es L]at D;cases D;exact⟨u,r,.inr ⟨.inl G,c,t,ab⟩⟩
   ·rw[EC (DH O)]at D;obtain⟨u',r',q⟩:=hl j y v' l D e3;refine⟨u',r',?_⟩
    rcases q with q|⟨k,c',e,z'⟩
    ·exact .inl q
    ·refine .inr ⟨k,c',e,z'.sameBut f ?_⟩
     rintro rfl
     exact O (Uh hN l (I.ok.inj _ _ _ e t▸hi))
  ·by_cases aa:c'=c
   ·subst aa;exact⟨_,ab⟩
   ·obtain⟨w2,z2⟩:=I.cell y c' e;exact⟨w2,z2.sameBut f aa⟩
  ·obtain⟨e,n,ne,nf,d⟩:=I.pin p hp;refine⟨(f.2 p.1 ?_).trans e,n,ne,nf,d⟩;intro q;rw[q,Y]at e;have q':oc=p.2:=Eg e;exact d w' (by rw[<-q'];exact U)
theorem WX{M:Model}{A:Around}{E:Value->Shared->Prop}{i:Nat}{x:Str}{v:V}{u:Value}{Q:Unit->Shared->Prop}(I:Inv X pins σ H s)(hN:X.N.Nodup)(hi:X.N[i]?=some x)(b:Loc X.env.scope x)(r:RelV v u)
  (h:∀a,Inv X pins (σ.set i (some v)) H a->Q () a) (c:X.fn x=true\/X.env.scope.names.lookup x=some .local:=by first|exact .inl rfl|exact .inr rfl|assumption):wpAny M A (storeName X.env x u) Q E s:=
 YK I hN hi b r (fun a d _=>h a d) c
theorem Inv.call'{a:Shared}{ch:List Addr}(I:Inv X pins σ H s)(l:a.os=s.os)(u:Un (frs X.stack) ch H H' s.heap a.heap)(d:HOk X.prog X.w H' a.heap)(m:AllBare a.gens)
  (f:∀b∈ch,(b∈X.ex\/X.s₀.heap.objs.size<=b)/\b≠X.env.locals/\(∀x c,X.env.cells.lookup x=some c->c≠b)/\∀p∈X.pn++pins,p.1≠b):Inv X pins σ H' a:=by
 obtain⟨h',h,i,g,j⟩:=a;have e:j=s.os:=l;subst e;exact I.call (g':=h) (t':=g) (d':=i) u d m f
end

noncomputable abbrev XK:=Value->Option Addr->Hp->Prop
noncomputable abbrev St:=List (Option V)
noncomputable abbrev VK:=V->Hp->Prop
noncomputable abbrev TE:=St->Hp->VK->Prop
noncomputable abbrev TT:=St->Hp->(Bool->Hp->Prop)->Prop
noncomputable abbrev TA:=St->Hp->(List V->Hp->Prop)->Prop
structure Ends where
 nx:St->Hp->Prop
 rt:VK
 bk:St->Hp->Prop:=fun _ _=>False
 ct:St->Hp->Prop:=fun _ _=>False
noncomputable abbrev TS:=Ends->St->Hp->Prop

noncomputable def EP(X:Cx)(a:List (Addr×Obj))(σ:St)(Q:VK)(u:Value)(c:Shared):Prop:=∃v b,Inv X a σ b c/\RelV v u/\Q v b
noncomputable def TP(X:Cx)(a:List (Addr×Obj))(σ:St)(Q:Bool->Hp->Prop)(b:Bool)(d:Shared):Prop:=∃c,Inv X a σ c d/\Q b c
noncomputable def AP(X:Cx)(a:List (Addr×Obj))(σ:St)(Q:List V->Hp->Prop)(us:List Value)(d:Shared):Prop:=∃b c,Inv X a σ c d/\Vals b us/\Q b c
noncomputable def SP(X:Cx)(b:List (Addr×Obj))(D:Ends)(f:Flow)(d:Shared):Prop:=
 match f with
 |.next=>∃a c,Inv X b a c d/\D.nx a c
 |.brk=>∃a c,Inv X b a c d/\D.bk a c
 |.cont=>∃a c,Inv X b a c d/\D.ct a c
 |.ret u=>∃v a c,Inv X b a c d/\RelV v u/\D.rt v c

noncomputable def PE(X:Cx)(e:Expr)(t:TE):Prop:=
 ∀(a:List (Addr×Obj)) (s:Shared) (b:St) (H:Hp) (Q:VK),Inv X a b H s->t b H Q->wpAny (model X.prog X.w) X.A (eval e X.env) (EP X a b Q) X.xe s
noncomputable def PT(X:Cx)(e:Expr)(t:TT):Prop:=
 ∀(a:List (Addr×Obj)) (s:Shared) (b:St) (H:Hp) (Q:Bool->Hp->Prop),Inv X a b H s->t b H Q->wpAny (model X.prog X.w) X.A (isTrue e X.env (eval e X.env)) (TP X a b Q) X.xe s
noncomputable def PW(X:Cx)(e:Expr)(t:TT):Prop:=
 ∀(whole:Sem Value) (a:List (Addr×Obj)) (s:Shared) (b:St) (H:Hp) (Q:Bool->Hp->Prop),Inv X a b H s->t b H Q->wpAny (model X.prog X.w) X.A (isTrue e X.env whole) (TP X a b Q) X.xe s
theorem PW.pt{X:Cx}{e:Expr}{t:TT}(h:PW X e t):PT X e t:=h _
noncomputable def PA(X:Cx)(es:List Expr)(t:TA):Prop:=
 ∀(pos:Pos) (a:List (Addr×Obj)) (s:Shared) (b:St) (H:Hp) (Q:List V->Hp->Prop),Inv X a b H s->t b H Q->wpAny (model X.prog X.w) X.A (spliced (backTo pos (starEach es X.env))) (AP X a b Q) X.xe s
noncomputable def PS(X:Cx)(st:Stmt)(t:TS):Prop:=
 ∀(a:List (Addr×Obj)) (s:Shared) (b:St) (H:Hp) (D:Ends),Inv X a b H s->t D b H->wpAny (model X.prog X.w) X.A (exec st X.env) (SP X a D) X.xe s
noncomputable def PSs(X:Cx)(st:List Stmt)(t:TS):Prop:=
 ∀(a:List (Addr×Obj)) (s:Shared) (b:St) (H:Hp) (D:Ends),Inv X a b H s->t D b H->wpAny (model X.prog X.w) X.A (execs st X.env) (SP X a D) X.xe s
theorem thn{b:Type}{t:Sem b}{Q Q':b->Shared->Prop}{M:Model}{A:Around}{E:Value->Shared->Prop}{s:Shared}(h:wpAny M A t Q E s)(c:∀a s,Q a s->Q' a s):wpAny M A t Q' E s:=N4 h c fun _ _ x=>x
end L2

namespace L2
section
variable{X:Cx}

theorem bin{a b:Expr}{n m:TE}(C:PE X a n)(B:PE X b m){c:List (Addr×Obj)}{s:Shared}{σ:St}{H:Hp}{R:V->V->Hp->Prop}(I:Inv X c σ H s)(h:n σ H fun x j=>m σ j fun y d=>R x y d)
  {l:Type} {Q:l->Shared->Prop} {f:Value->Value->Sem l}
  (z:∀v u i x y d,Inv X c σ d i->RelV x v->RelV y u->R x y d->wpAny (model X.prog X.w) X.A (f v u) Q X.xe i) :
  wpAny (model X.prog X.w) X.A (eval a X.env) (fun v g=>wpAny (model X.prog X.w) X.A (eval b X.env) (fun u e=>wpAny (model X.prog X.w) X.A (f v u) Q X.xe e) X.xe g) X.xe s:=by
 refine thn (C c s σ H _ I h) fun v o ⟨x,j,I1,q,t⟩=>?_;refine thn (B c o σ j _ I1 t) fun u i ⟨y,d,I2,p,r⟩=>?_;exact z v u i x y d I2 q p r

noncomputable def Ql5(i:Nat):TE:=fun a H Q=>∃v,a[i]?=some (some v)/\Q v H
noncomputable def tC(v:V):TE:=fun _ H Q=>Q v H
theorem QgG{i:Nat}{x:Str}{pos:Pos}(hN:X.N[i]?=some x)(n:Vis X.env.scope x)(hd:(x==("__debug__":Str))=false:=by decide)(f:(x==("__classdict__":Str))=false:=by decide):PE X (.Name x pos) (Ql5 i):=by
 intro d s j H Q I h;obtain⟨v,e,h⟩:=h;obtain⟨m,o,q⟩:=I.loc;obtain⟨u,r,l⟩:=q i x v hN e n;have fin:EP X d j Q u s:=⟨v,H,I,r,h⟩
 rcases l with⟨b,p⟩|⟨b,c,g,a⟩
 ·exact wpAny_Name (wpAny_loadName_local I.ok.kind b o p fin) hd
 ·rcases b with b|b
  ·exact wpAny_Name (wpAny_loadName_cell I.ok.kind b g a fin) hd
  ·exact wpAny_Name (wpAny_loadName_free I.ok.kind b g a fin f) hd
theorem QgK{i j pos}:PE X (.Constant (.int i) j pos) (tC (.int i)):=fun _ _ _ H _ I h=>wpAny_Constant_int ⟨.int i,H,I.tok _,⟨_,rfl⟩,h⟩
theorem QiS{b j pos}:PE X (.Constant (.bool b) j pos) (tC (.bl b)):=fun _ _ _ H _ I h=>Constant_bool ⟨.bl b,H,I,rfl,h⟩
theorem QgU{x j pos}:PE X (.Constant (.str x) j pos) (tC (.str x)):=fun _ _ _ H _ I h=>Calls.Constant_str ⟨.str x,H,I.tok _,⟨_,rfl⟩,h⟩

noncomputable def Gl(X:Cx)(x:Str):Prop:=X.env.kindOf x=some .globalImplicit
theorem Qfw{E:Value->Shared->Prop}{a:List (Addr×Obj)}{s:Shared}{σ:St}{H:Hp}{x:Str}{u:Value}{pos:Pos}{Q:Value->Shared->Prop}(I:Inv X a σ H s)(c:Gl X x)(b:X.mg x=some u)(h:Q u s)
  (hd:(x==("__debug__":Str))=false:=by decide):wpAny (model X.prog X.w) X.A (eval (.Name x pos) X.env) Q E s:=
 Lj I.ok.kind c (Calls.loadGlobal_global (by rw[I.ok.glob];exact I.mod.glob.keeps I.bk) b h) hd
theorem Vq{E:Value->Shared->Prop}{a:List (Addr×Obj)}{s:Shared}{σ:St}{H:Hp}{x:Str}{u:Value}{pos:Pos}{Q:Value->Shared->Prop}(I:Inv X a σ H s)(e:Gl X x)(d:X.mg x=none)(b:bootBuiltins x=some u)(h:Q u s)
  (c:x≠"__name__":=by decide) (hd:(x==("__debug__":Str))=false:=by decide):wpAny (model X.prog X.w) X.A (eval (.Name x pos) X.env) Q E s:=by
 obtain⟨i,g,f⟩:=I.mod.blt;exact Lj I.ok.kind e (Calls.loadGlobal_builtin (by rw[I.ok.glob];exact I.mod.glob.keeps I.bk) d (by rw[I.ok.blt];exact g.keeps I.bk) ((f x c).trans b) h) hd
theorem Qfn{x:Str}{v:V}{u:Value}{pos:Pos}(d:Gl X x)(c:X.mg x=none)(a:bootBuiltins x=some u)(r:RelV v u)(b:x≠"__name__":=by decide)(hd:(x==("__debug__":Str))=false:=by decide):PE X (.Name x pos) (tC v):=
 fun _ _ _ H _ I h=>Vq I d c a ⟨v,H,I,r,h⟩ b hd

variable{a b:Expr}{ta tb:TE}{pos:Pos}
variable{tA tB':TT}{rest:List Expr}
noncomputable def Qka(t u:TT):TT:=fun d H Q=>t d H fun c e=>if c=true then u d e Q else Q false e
noncomputable def tOr(t u:TT):TT:=fun d H Q=>t d H fun c e=>if c=true then Q true e else u d e Q
noncomputable def QlD(t:TT):TT:=fun d H Q=>t d H fun c e=>Q (!c) e
theorem Qf0(g:PT X a tA):PW X (.BoolOp .And [a] pos) tA:=by
 intro i d s f H Q I h;refine isTrue_and (thn (g d s f H Q I h) fun c j e=>?_);cases c with
 |true=>exact isTrue_and_nil e
 |false=>exact e
theorem QhO(g:PT X a tA):PW X (.BoolOp .Or [a] pos) tA:=by
 intro i d s f H Q I h;refine isTrue_or (thn (g d s f H Q I h) fun c j e=>?_);cases c with
 |false=>exact isTrue_or_nil e
 |true=>exact e
theorem Qgo(m:PT X a tA)(l:PW X (.BoolOp .And (b::rest) pos) tB'):PW X (.BoolOp .And (a::b::rest) pos) (Qka tA tB'):=by
 intro i d s e H Q I h;refine isTrue_and (thn (m d s e H _ I h) fun c j ⟨g,I1,f⟩=>?_);cases c with
 |true=>exact l i d j e g Q I1 f
 |false=>exact⟨g,I1,f⟩
theorem Qjs(m:PT X a tA)(l:PW X (.BoolOp .Or (b::rest) pos) tB'):PW X (.BoolOp .Or (a::b::rest) pos) (tOr tA tB'):=by
 intro i d s e H Q I h;refine isTrue_or (thn (m d s e H _ I h) fun c j ⟨g,I1,f⟩=>?_);cases c with
 |true=>exact⟨g,I1,f⟩
 |false=>exact l i d j e g Q I1 f
theorem QgV(f:PT X a tA):PT X (.UnaryOp .Not a pos) (QlD tA):=by
 intro d s e H Q I h;exact isTrue_not (f d s e H (fun c g=>Q (!c) g) I h)
noncomputable def QjW(ta tb:TE):TE:=fun d H Q=>ta d H fun x e=>∃c,x=.bl c/\if c=true then tb d e Q else Q (.bl false) e
theorem Qgv{op}{t:TE}(h:PE X a t):PE X (.BoolOp op [a] pos) t:=fun c s d H Q I hw=>BoolOp_one (h c s d H Q I hw)
theorem QgW(m:PE X a ta)(l:PE X (.BoolOp .And (b::rest) pos) tb):PE X (.BoolOp .And (a::b::rest) pos) (QjW ta tb):=by
 intro d s f H Q I h;refine BoolOp_and (thn (m d s f H _ I h) fun v i ⟨x,g,I1,j,e⟩=>?_);obtain⟨c,rfl,e⟩:=e;cases j;refine Lu ?_;cases c with
 |true=>exact l d i f g Q I1 e
 |false=>exact⟨.bl false,g,I1,rfl,e⟩
end
end L2

namespace L2

noncomputable def SqL(K:Nh)(H:Hp)(a:Addr)(xs:List V):Prop:=
 Rd H a (.lst xs) \/
  ∃(o:Obj) (b:Array Value) (n:Nat),K.lookup a=some o/\o.cls=.type "list"/\o.dict=none/\o.data=.seq b n/\b.size<=sizeLine/\Vals xs b.toList
noncomputable def SqT(K:Nh)(H:Hp)(a:Addr)(xs:List V):Prop:=
 Rd H a (.tup xs) \/
  ∃(o:Obj) (b:Array Value) (n:Nat),K.lookup a=some o/\o.cls=.type "tuple"/\o.data=.seq b n/\b.size<=sizeLine/\Vals xs b.toList
noncomputable def Qlb:Value->Option V
 |.none=>some .non
 |.bool b=>some (.bl b)
 |.int i _=>some (.int i)
 |.str x _=>some (.str x)
 |.bytes b _=>some (.byt b)
 |.float b _=>some (.flt b)
 |.ref a=>some (.ref a)
 |.type n=>some (.ty n)
 |_=>none
theorem RelV.abs{x:V}{u:Value}(r:RelV x u):Qlb u=some x:=by
 cases x with
 |non=>cases r;rfl
 |bl _=>cases r;rfl
 |int _=>obtain⟨t,rfl⟩:=r;rfl
 |str _=>obtain⟨t,rfl⟩:=r;rfl
 |byt _=>obtain⟨t,rfl⟩:=r;rfl
 |flt _=>obtain⟨t,rfl⟩:=r;rfl
 |ref _=>cases r;rfl
 |ty _=>cases r;rfl
theorem RelV.inj{x y:V}{u:Value}(r:RelV x u)(q:RelV y u):x=y:=Eg (r.abs.symm.trans q.abs)
theorem Vals.inj:∀{xs a:List V} {us:List Value},Vals xs us->Vals a us->xs=a
 |_,_,_,.nil,.nil=>rfl
 |_,_,_,.cons r t,.cons b t'=>by rw[r.inj b,Vals.inj t t']
section
variable{X:Cx}{pins:List (Addr×Obj)}{σ:St}{H:Hp}{s:Shared}{a:Addr}{xs ys:List V}
theorem SqL.of{K:Nh}(h:H a=some (.lst xs)):SqL K H a xs:=.inl (.inl h)
theorem SqT.of{K:Nh}(h:H a=some (.tup xs)):SqT K H a xs:=.inl (.inl h)
theorem Inv.list(I:Inv X pins σ H s)(h:SqL X.K H a xs):∃b:List Value,Vals xs b/\PlainL s.heap a b.toArray/\xs.length<=sizeLine:=by
 rcases h with h|⟨o,b,n,f,g,hd,d,c,r⟩
 ·obtain⟨z,b,n,r,e⟩:=h.ok I.hok;exact⟨b,r,⟨_,n,e,rfl,rfl,rfl⟩,z⟩
 ·refine⟨b.toList,r,⟨o,n,I.kIn a o f,g,hd,by simpa using d⟩,?_⟩;have e:=r.length;simp only[Nr]at e;exact Nf (Nq e) c
theorem Inv.tuple(I:Inv X pins σ H s)(h:SqT X.K H a xs):∃b:List Value,Vals xs b/\IsTup s.heap a b.toArray/\xs.length<=sizeLine:=by
 rcases h with h|⟨o,b,n,f,g,d,c,r⟩
 ·obtain⟨z,b,r,p⟩:=h.ok I.hok;exact⟨b,r,p,z⟩
 ·refine⟨b.toList,r,⟨o,I.kIn a o f,g,n,by simpa using d⟩,?_⟩;have e:=r.length;simp only[Nr]at e;exact Nf (Nq e) c
theorem Inv.list_inj(I:Inv X pins σ H s)(h:SqL X.K H a xs)(h':SqL X.K H a ys):xs=ys:=by
 obtain⟨c,r,⟨o,n,e,_,_,d⟩,_⟩:=I.list h;obtain⟨b,i,⟨l,m,f,_,_,g⟩,_⟩:=I.list h';rw[e]at f;cases f;rw[d]at g;injection g with j _
 have:c=b:=by simpa using congrArg Array.toList j
 subst this;exact r.inj i
theorem Inv.tuple_inj(I:Inv X pins σ H s)(h:SqT X.K H a xs)(h':SqT X.K H a ys):xs=ys:=by
 obtain⟨c,r,⟨o,e,_,n,d⟩,_⟩:=I.tuple h;obtain⟨b,i,⟨l,f,_,m,g⟩,_⟩:=I.tuple h';rw[e]at f;cases f;rw[d]at g;injection g with j _
 have:c=b:=by simpa using congrArg Array.toList j
 subst this;exact r.inj i
end

noncomputable abbrev Cx.wish(X:Cx)(E:Value->Shared->Prop):Cx:={ X with xe:=E }
noncomputable abbrev Cx.nox(X:Cx):Cx:=X.wish fun _ _=>False
theorem Cx.Ok.wish{X:Cx}(ok:X.Ok)(E:Value->Shared->Prop):(X.wish E).Ok:=
 ⟨ok.mod,ok.kind,ok.glob,ok.blt,ok.above,ok.inj,ok.has,ok.cab,ok.hd,ok.frames,ok.stk,ok.exf,ok.bs,ok.bsz,ok.noex,ok.exfs,ok.funs,ok.frf⟩
theorem Cx.Ok.unwish{X:Cx}{E:Value->Shared->Prop}(ok:(X.wish E).Ok):X.Ok:=
 ⟨ok.mod,ok.kind,ok.glob,ok.blt,ok.above,ok.inj,ok.has,ok.cab,ok.hd,ok.frames,ok.stk,ok.exf,ok.bs,ok.bsz,ok.noex,ok.exfs,ok.funs,ok.frf⟩
section
variable{X:Cx}{pins:List (Addr×Obj)}{σ:St}{H:Hp}{s:Shared}{E:Value->Shared->Prop}
theorem Inv.wish(I:Inv X pins σ H s)(E:Value->Shared->Prop):Inv (X.wish E) pins σ H s:=⟨I.ok.wish E,I.os,I.bare,I.base,I.loc,I.cell,I.free,I.freeC,I.pin,I.hok,I.len⟩
theorem Inv.unwish(I:Inv (X.wish E) pins σ H s):Inv X pins σ H s:=⟨I.ok.unwish,I.os,I.bare,I.base,I.loc,I.cell,I.free,I.freeC,I.pin,I.hok,I.len⟩
theorem SP.unwish{D:Ends}{f:Flow}{c:Shared}(h:SP (X.wish E) pins D f c):SP X pins D f c:=by
 cases f with
 |next=>obtain⟨a,b,I,q⟩:=h;exact⟨a,b,I.unwish,q⟩
 |brk=>obtain⟨a,b,I,q⟩:=h;exact⟨a,b,I.unwish,q⟩
 |cont=>obtain⟨a,b,I,q⟩:=h;exact⟨a,b,I.unwish,q⟩
 |ret u=>obtain⟨v,a,b,I,r,q⟩:=h;exact⟨v,a,b,I.unwish,r,q⟩
theorem PSs.nox{st:List Stmt}{t:TS}(h:PSs X.nox st t):PSs X st t:=fun pins s σ H D I hw=>
 N4 (h pins s σ H D (I.wish _) hw) (fun _ _ q=>q.unwish) fun _ _ z=>False.elim z
end

section
variable{X:Cx}{st:Stmt}{rest:List Stmt}{t u:TS}{e:Expr}{te:TE}{pos:Pos}
noncomputable def QiV:TS:=fun D a H=>D.nx a H
noncomputable def QkN(t u:TS):TS:=fun D a H=>t { D with nx:=u D } a H
theorem Qfg:PSs X [] QiV:=fun _ _ a H _ I h=>L0 ⟨a,H,I,h⟩
theorem Qc8(h1:PS X st t)(g:PSs X rest u):PSs X (st::rest) (QkN t u):=by
 intro a s c H D I h;refine wpAny_execs_cons (thn (h1 a s c H { D with nx:=u D } I h) fun f d q=>?_);cases f with
 |next=>
  obtain⟨b,j,i,q⟩:=q;exact g a d b j D i q
 |ret v=>exact q
 |brk=>exact q
 |cont=>exact q
theorem QeD(h1:PS X st t):PSs X [st] t:=by
 intro a s b H D I h;refine wpAny_execs_cons (thn (h1 a s b H D I h) fun f c q=>?_);cases f with
 |next=>exact L0 q
 |ret v=>exact q
 |brk=>exact q
 |cont=>exact q
theorem Inv.quiet{a:List (Addr×Obj)}{σ:St}{H:Hp}{s:Shared}(I:Inv X a σ H s):interactive X.env=false:=by simp[interactive,I.ok.kind]
noncomputable def QjL(te:TE):TS:=fun D a H=>te a H fun _ b=>D.nx a b
theorem QfY(f:PE X e te)(d:swapsWith e none pos.line X.env=pure false:=by rfl):PS X (.Expr e pos) (QjL te):=by
 intro a s b H D I h;exact wpAny_Expr_any (thn (f a s b H _ I h) fun v i ⟨x,g,I1,j,c⟩=>⟨b,g,I1,c⟩) I.quiet d
noncomputable def QlE(te:TE):TS:=fun D a H=>te a H D.rt
theorem QgH(f:PE X e te):PS X (.Return (some e) pos) (QlE te):=by
 intro a s b H D I h;exact wpAny_Return_some (thn (f a s b H _ I h) fun v i ⟨x,g,I1,c,d⟩=>⟨x,b,g,I1,c,d⟩)
noncomputable def Qlt(c:TT)(t u:TS):TS:=fun D a H=>c a H fun b d=>if b=true then t D a d else u D a d
theorem QiX{c:Expr}{a b:List Stmt}{i:TT}(n:PT X c i)(p:PSs X a t)(o:PSs X b u):PS X (.If c a b pos) (Qlt i t u):=by
 intro f s g H D I h;refine wpAny_If (thn (n f s g H _ I h) fun d j ⟨m,I1,l⟩=>?_);cases d with
 |true=>exact p f j g m D I1 l
 |false=>exact o f j g m D I1 l
end

noncomputable abbrev TG:=V->St->Hp->(St->Hp->Prop)->Prop
noncomputable abbrev TGs:=List V->St->Hp->(St->Hp->Prop)->Prop
noncomputable def PG(X:Cx)(target:Expr)(t:TG):Prop:=
 ∀(a:List (Addr×Obj)) (s:Shared) (c:St) (H:Hp) (v:V) (u:Value) (Q:St->Hp->Prop),Inv X a c H s->RelV v u->t v c H Q ->
  wpAny (model X.prog X.w) X.A (assign target X.env u) (fun _ e=>∃b d,Inv X a b d e/\Q b d) X.xe s
noncomputable def PGs(X:Cx)(g:List Expr)(t:TGs):Prop:=
 ∀(a:List (Addr×Obj)) (s:Shared) (c:St) (H:Hp) (d:List V) (e:List Value) (Q:St->Hp->Prop),Inv X a c H s->Vals d e->t d c H Q ->
  wpAny (model X.prog X.w) X.A (assignInOrder ((assignEach g X.env).map (·.2)) e) (fun _ h=>∃b f,Inv X a b f h/\Q b f) X.xe s
noncomputable abbrev Qj3:=V->V->V->Hp->(Hp->Prop)->Prop
noncomputable def QkS(X:Cx)(t:Qj3):Prop:=
 ∀(a:List (Addr×Obj)) (s:Shared) (b:St) (H:Hp) (o i v:V) (c d u:Value) (Q:Hp->Prop),Inv X a b H s->RelV o c->RelV i d->RelV v u->t o i v H Q ->
  wpAny (model X.prog X.w) X.A (setItem c d u) (fun _ f=>∃e,Inv X a b e f/\Q e) X.xe s
section
variable{X:Cx}{pos:Pos}
noncomputable def QbL(i:Nat):TG:=fun v a H Q=>Q (a.set i (some v)) H
theorem QaQ{i:Nat}{x:Str}(hN:X.N.Nodup)(hi:X.N[i]?=some x)(b:Loc X.env.scope x)(c:X.fn x=true\/X.env.scope.names.lookup x=some .local:=by first|exact .inl rfl|exact .inr rfl|assumption):PG X (.Name x pos) (QbL i):=by
 intro a s e H v u Q I r h;exact wpAny_assign_Name (WX I hN hi b r (fun f d=>⟨_,H,d,h⟩) c)
noncomputable def Qki:TGs:=fun b a H Q=>b=[]/\Q a H
noncomputable def QhD(t:TG)(u:TGs):TGs:=fun c b H Q=>∃v r,c=v::r/\t v b H fun a d=>u r a d Q
theorem QeG:PGs X [] Qki:=by
 intro a s b H c d Q I r h;obtain⟨e,h⟩:=h;subst e;cases r;exact assignInOrder_nil ⟨b,H,I,h⟩
theorem QcT{e:Expr}{es:List Expr}{t:TG}{u:TGs}(h1:PG X e t)(j:PGs X es u)
  (i:(assignEach (e::es) X.env).map (·.2)=assign e X.env::(assignEach es X.env).map (·.2):=by rfl):PGs X (e::es) (QhD t u):=by
 intro a s c H n p Q I r h;obtain⟨v,o,l,h⟩:=h;subst l;cases r with
 |cons r f=>
  rw[i];refine assignInOrder_cons (thn (h1 a s c H _ _ _ I r h) fun _ d ⟨b,m,I1,g⟩=>?_);exact j a d b m _ _ Q I1 f g
noncomputable def Qlg(K:Nh)(n:Nat)(t:TGs):TG:=fun v c H Q=>∃a b,v=.ref a/\SqT K H a b/\b.length=n/\t b c H Q
theorem Qia{es:List Expr}{k:Nat}{t:TGs}{n:Nat}(x:X.calm=true)(h:PGs X es t)
  (q:(assignEach es X.env).length=n:=by rfl) (d:(assignEach es X.env).findIdx? (·.1)=none:=by rfl):PG X (.Tuple es k pos) (Qlg X.K n t):=by
 intro c s f H v u Q I r hw;obtain⟨a,i,z,p,w,hw⟩:=hw;subst z;cases r;obtain⟨j,g,m,B⟩:=I.tuple p;refine assign_Tuple_tuple (I.ok.hd x) m (by simp[q,<-w,g.length]) d fun y l=>?_;have I1:Inv X c f H { s with heap:=y }:=I.kept (t':=s.toks) fun b o e=>l b o (NS (ND e)) e;exact h c _ f H i _ Q I1 (by simpa using g) hw
noncomputable def Qk5(b c:TE)(t:Qj3):TG:=fun v a H Q=>b a H fun o f=>c a f fun i e=>t o i v e fun d=>Q a d
theorem QhL{o i:Expr}{e f:TE}{t:Qj3}(z:PE X o e)(hi:PE X i f)(w:QkS X t)
  (A:∀v,assign (.Subscript o i pos) X.env v=(do
   let b <-holding [v] (eval o X.env)
   let c <-holding [v,b] (eval i X.env)
   standAt pos
   holding [v,b,c] (setItem b c v)
   release [v,b,c] []):=by intro _;rfl):PG X (.Subscript o i pos) (Qk5 e f t):=by
 intro a s d H v u Q I r h;rw[A];refine Na (N8 (thn (z a s d H _ I h) fun b j ⟨x,D,I1,m,q⟩=>?_));refine Na (N8 (thn (hi a j d D _ I1 q) fun c g ⟨y,C,I2,l,p⟩=>?_));refine Na (OW (Na (N8 (thn (w a g d C x y v b c u _ I2 m l r p) fun _ E ⟨B,I3,n⟩=>?_))));exact wpAny_release ⟨d,B,I3,n⟩
noncomputable def QiI(te:TE)(g:TG):TS:=fun D a H=>te a H fun x b=>g x a b D.nx
theorem QdU{b e:Expr}{te:TE}{g:TG}(m:PE X e te)(l:PG X b g)(j:swapsWithSole [b] e pos.line X.env=pure false:=by rfl)(hw:swappedStores [b] e X.env=pure none:=by rfl)
  (n:(assignEach [b] X.env).map (·.2)=[assign b X.env]:=by rfl):PS X (.Assign [b] e pos) (QiI te g):=by
 intro a s c H D I h;refine wpAny_Assign_stores (thn (m a s c H _ I h) fun v d ⟨x,o,I1,f,i⟩=>?_) j hw;rw[n];exact thn (l a d c o x v _ I1 f i) fun _ p q=>q
theorem Qgs{i:Nat}{x:Str}{e:Expr}{te:TE}{a:Pos}(hN:X.N.Nodup)(hi:X.N[i]?=some x)(g:Loc X.env.scope x)(m:PE X e te)(j:swapsWith e (some (.Name x a)) pos.line X.env=pure false:=by rfl)(l:X.fn x=true\/X.env.scope.names.lookup x=some .local:=by first|exact .inl rfl|exact .inr rfl|assumption) :
  PS X (.Assign [.Name x a] e pos) (QiI te (QbL i)):=by
 intro b s c H D I h;refine wpAny_Assign_Name (thn (m b s c H _ I h) fun v p ⟨y,n,I1,d,f⟩=>?_) j;exact WX I1 hN hi g d (fun o I2=>⟨_,n,I2,f⟩) l
end

section
variable{X:Cx}{pos:Pos}
end

structure It where
 go:Nat->Hp->Prop
 yld:Nat->Hp->V->Hp->Prop
 stop:Nat->Hp->Prop
noncomputable def Gy(X:Cx)(a:List (Addr×Obj))(H:Hp)(b:Addr):Prop:=
 H b=none/\b≠X.env.locals/\b∉X.fs/\(b∈X.ex\/X.s₀.heap.objs.size<=b)/\(∀x c,X.env.cells.lookup x=some c->c≠b)/\∀p∈X.pn++a,p.1≠b
theorem Inv.fpOk{X:Cx}{a:List (Addr×Obj)}{σ:St}{H f:Hp}{s:Shared}{b:Addr}(I:Inv X a σ H s)(d:s.heap.objs.size<=b)(h:f b=none):Gy X a f b:=by
 refine⟨h,D6 (Ng I.lt d),I.nofs d,.inr (Nf I.sz d),fun x c e z=>?_,fun p g z=>?_⟩
 ·obtain⟨v,q⟩:=I.cell x c e;exact absurd (Ng q.lt (by rw[z];exact d)) (EG _)
 ·exact absurd (Ng (ND (I.pin p g).1) (by rw[z];exact d)) (EG _)
structure Turn(P:Program)(w:World)(K:Nh)(tg:Expr)(J:It)(fp:List Addr)(it:Addr)(tn:Nat->Heap->Prop):Prop where
 mem:it∈fp
 obj:∀i h,tn i h->∀b∈fp,∃o,h.get? b=some o/\∀v,o.data≠.cell v
 keep:∀i h h',tn i h->(∀b∈fp,∀o,h.get? b=some o->h'.get? b=some o)->tn i h'
 item:∀(X:Cx),X.prog=P->X.w=w->X.K=K->X.calm=true->∀(i:Nat) (pins:List (Addr×Obj)) (s:Shared) (σ:St) (H:Hp) (E:Value->Shared->Prop),Inv X pins σ H s->(∀b∈fp,Gy X pins H b)->tn i s.heap->J.go i H ->
  wpAny (model P w) X.A (pyNext (.ref it)) (fun r s1=>∃u,r=some u /\
   wpAny (model P w) X.A (letOwnedTupleGo tg (.ref it) u) (fun _ s2=>∃x H',Inv X pins σ H' s2/\RelV x u/\J.yld i H x H'/\tn (i+1) s2.heap/\∀b∈fp,H' b=none) E s1) E s
 done:∀(X:Cx),X.prog=P->X.w=w->X.K=K->X.calm=true->∀(i:Nat) (pins:List (Addr×Obj)) (s:Shared) (σ:St) (H:Hp) (E:Value->Shared->Prop),Inv X pins σ H s->(∀b∈fp,Gy X pins H b)->tn i s.heap->J.stop i H ->
  wpAny (model P w) X.A (pyNext (.ref it)) (fun r s1=>r=none/\Inv X pins σ H s1) E s
 self:∀(A:Around) (i:Nat) (s:Shared) (Q:Value->Shared->Prop) (E:Value->Shared->Prop),tn i s.heap->Q (.ref it) s->wpAny (model P w) A (pyIter (.ref it)) Q E s
noncomputable abbrev TI:=St->Hp->(It->Hp->Prop)->Prop
noncomputable def PIE(X:Cx)(a:List (Addr×Obj))(σ:St)(i:Expr)(R:It->Hp->Prop)(c:Value)(f:Shared):Prop:=
 ∃(g:Addr) (h:List Addr) (e:Nat->Heap->Prop) (J:It) (d:Hp),c=.ref g/\Inv X a σ d f/\Turn X.prog X.w X.K i J h g e/\e 0 f.heap/\(∀b∈h,Gy X a d b)/\R J d
noncomputable def PI(X:Cx)(d iter:Expr)(c:TI):Prop:=
 ∀(a:List (Addr×Obj)) (s:Shared) (b:St) (H:Hp) (R:It->Hp->Prop),Inv X a b H s->c b H R ->
  wpAny (model X.prog X.w) X.A (eval iter X.env) (fun v e=>wpAny (model X.prog X.w) X.A (pyIter v) (PIE X a b d R) X.xe e) X.xe s

theorem UO {M:Model} {A:Around} {E:Value->Shared->Prop} {s:Shared} {b:Expr} {it:Addr} {u:Value} {o:Obj} {n:String} {vs:Array Value} {Q:Unit->Shared->Prop} (c:s.heap.get? it=some o) (e:o.cls=.type n) (hd:o.data=.fields vs)
    (d:["enumerate","zip","dict_itemiterator","dict_reverseitemiterator","odict_iterator","itertools.zip_longest","itertools.pairwise"].contains n=false) (a:Q () s):wpAny M A (letOwnedTupleGo b (.ref it) u) Q E s:=by
  unfold letOwnedTupleGo
  cases b<;>first
    |exact Nj a
    |(cases u<;>first
        |exact Nj a
        | (refine Na (wpAny_load c ?_)
           rw[e,hd];show wpAny M A (if(["enumerate","zip","dict_itemiterator","dict_reverseitemiterator","odict_iterator","itertools.zip_longest","itertools.pairwise"].contains n&&vs[0]?==some (rawInt _))=true then _ else _) Q E s;rw[if_neg (by intro h;rw[d,Bool.false_and]at h;cases h)]
           exact Nj a))

noncomputable def Itl(K:Nh)(a:Addr):It:=
 ⟨fun i H=>∃b x,SqL K H a b/\b[i]?=some x,fun i H x c=>c=H/\∀b,SqL K H a b->b[i]?=some x,fun i H=>∃b,SqL K H a b/\b.length<=i⟩
noncomputable def Itt(K:Nh)(a:Addr):It:=
 ⟨fun i H=>∃b x,SqT K H a b/\b[i]?=some x,fun i H x c=>c=H/\∀b,SqT K H a b->b[i]?=some x,fun i H=>∃b,SqT K H a b/\b.length<=i⟩
noncomputable def Itr(lo:Int)(n:Nat):It:=⟨fun i _=>i<n,fun i H x a=>a=H/\x=.int (lo+i),fun i _=>n<=i⟩
theorem Qa5{P:Program}{w:World}{K:Nh}{Q:Expr}(a it:Addr):Turn P w K Q (Itl K a) [it] it (fun i h=>h.IsListIter it a i) where
 mem:=by simp
 obj:=fun i h st b g=>by
  have e:b=it:=by simpa using g
  subst e;obtain⟨o,e,c,d⟩:=st;exact⟨o,e,fun v z=>by rw[d]at z;cases z⟩
 keep:=fun i h q st k=>st.at fun o e=>k it (by simp) o e
 item:=by
  intro X A hw B N i f s M H E I n st y;subst A hw B;obtain⟨O,x,m,l⟩:=y;obtain⟨t,r,p,Z⟩:=I.list m;obtain⟨u,hu,Y⟩:=r.get l;obtain⟨L,f1,f2,G,D,C⟩:=n it (by simp);refine wpAny_pyNext_list_item st p.isList (x:=u) (by simpa using hu) fun q j U=>?_;have I1:Inv X f M H { s with heap:=q }:=I.turned (t':=s.toks) (fun b o g e=>(U.2 b g).trans e) L f1 G D C;obtain⟨o,e,c,d⟩:=id j;exact⟨u,rfl,UO (s:={ s with heap:=q }) e c d (by decide) ⟨x,H,I1,Y,⟨rfl,fun ys hy=>by rw[I.list_inj hy m];exact l⟩,j,fun b g=>(n b g).1⟩⟩
 done:=by
  intro X A hw B N i f s M H E I n st y;subst A hw B;obtain⟨O,m,l⟩:=y;obtain⟨t,r,p,Z⟩:=I.list m;obtain⟨L,f1,f2,G,D,C⟩:=n it (by simp);have hl:=r.length;exact wpAny_pyNext_list_end (I.ok.hd N) st p.isList (by simp;exact Nf (Nq hl.symm) l) fun q eb=>⟨rfl,I.turned (t':=s.toks) (fun b o g e=>eb b o g e) L f1 G D C⟩
 self:=fun _ _ _ _ _ st h=>wpAny_pyIter_listiter st h
theorem Gr{P:Program}{w:World}{K:Nh}{Q:Expr}(a it:Addr):Turn P w K Q (Itt K a) [it] it (fun i h=>h.IsTupleIter it a i) where
 mem:=by simp
 obj:=fun i h st b j=>by
  have e:b=it:=by simpa using j
  subst e;obtain⟨o,e,c,d⟩:=st;exact⟨o,e,fun v z=>by rw[d]at z;cases z⟩
 keep:=fun i h r st k=>st.at fun o e=>k it (by simp) o e
 item:=by
  intro X A hw B N i f s M H E I q st y;subst A hw B;obtain⟨O,x,n,m⟩:=y;obtain⟨g,t,p,Z⟩:=I.tuple n;obtain⟨u,hu,Y⟩:=t.get m;obtain⟨L,f1,f2,G,D,C⟩:=q it (by simp);refine wpAny_pyNext_tuple_item st (show s.heap.IsTuple a g.toArray from p) (x:=u) (by simpa using hu) fun r l U=>?_;have I1:Inv X f M H { s with heap:=r }:=I.turned (t':=s.toks) (fun b o j e=>(U.2 b j).trans e) L f1 G D C;obtain⟨o,e,c,d⟩:=id l;exact⟨u,rfl,UO (s:={ s with heap:=r }) e c d (by decide) ⟨x,H,I1,Y,⟨rfl,fun ys hy=>by rw[I.tuple_inj hy n];exact m⟩,l,fun b j=>(q b j).1⟩⟩
 done:=by
  intro X A hw B N i f s M H E I q st y;subst A hw B;obtain⟨O,n,m⟩:=y;obtain⟨g,t,p,Z⟩:=I.tuple n;obtain⟨L,f1,f2,G,D,C⟩:=q it (by simp);have hl:=t.length;exact wpAny_pyNext_tuple_end (I.ok.hd N) st (show s.heap.IsTuple a g.toArray from p) (by simp;exact Nf (Nq hl.symm) m) fun r eb=>⟨rfl,I.turned (t':=s.toks) (fun b o j e=>eb b o j e) L f1 G D C⟩
 self:=fun _ _ _ _ _ st h=>wpAny_pyIter_tupleiter st h
theorem UW{P:Program}{w:World}{K:Nh}{D:Expr}(it:Addr)(lo:Int)(n:Nat):Turn P w K D (Itr lo n) [it] it (fun i h=>IsRangeIter h it (lo+(i:Nat)*1) ((n:Int)-(i:Nat)) 1) where
 mem:=by simp
 obj:=fun i h st b c=>by
  have e:b=it:=by simpa using c
  subst e
  exact⟨_,st,fun v z=>by
   have C:Data.fields _=Data.cell v:=z
   cases C⟩
 keep:=fun i h g st k=>k it (by simp) _ st
 item:=by
  intro X m hw p l i a s y H E I f st j;subst m hw p;obtain⟨x,f1,f2,u,r,q⟩:=f it (by simp);have W:=Walks.range (prog:=X.prog) (w:=X.w) (I.ok.hd l) it lo 1 n;refine W.item i s _ _ j st fun v g A L d G=>?_;obtain⟨t,rfl⟩:=L;have I1:Inv X a y H { s with heap:=g,toks:=A }:=I.turned (fun b o c e=>G b o (by simpa using c) e) x f1 u r q;refine⟨_,rfl,UO (s:={ s with heap:=g,toks:=A }) (n:="range_iterator") d rfl rfl (by decide) ⟨.int (lo+i),H,I1,⟨t,?_⟩,⟨rfl,rfl⟩,d,fun b c=>(f b c).1⟩⟩;rw[Int.mul_one]
 done:=by
  intro X m hw p l i a s y H E I f st j;subst m hw p;obtain⟨x,f1,f2,u,r,q⟩:=f it (by simp);exact wpAny_pyNext_range_end (I.ok.hd l) st (by have:n<=i:=j;lia) fun g M=>⟨rfl,I.turned (t':=s.toks) (fun b o c e=>M b o c e) x f1 u r q⟩
 self:=fun _ _ _ _ _ st h=>wpAny_pyIter_rangeiter st h
end L2

namespace L2
section
variable{X:Cx}{tg:Expr}
theorem Qdd{a:List (Addr×Obj)}{σ:St}{H:Hp}{s:Shared}{R:It->Hp->Prop}{E:Value->Shared->Prop}{lo hi:Int}{t u v:Tok}{tk:Nat}(I:Inv X a σ H s)(h1:-(2^62)<=lo)(g:lo<2^62)(f:-(2^62)<=hi)(d:hi<2^62)
  (q:R (Itr lo (hi-lo).toNat) H):wpAny (model X.prog X.w) X.A (pyIter (.ref s.heap.objs.size)) (PIE X a σ tg R) E { s with heap:=s.heap.push { cls:=.type "range",data:=.fields #[.int lo t,.int hi u,.int 1 v] },toks:=tk }:=by
 refine wpAny_pyIter_range (IsRange.new ..) (small_one h1 g f d) ?_;have I1:Inv X a σ H { s with heap:=s.heap.push { cls:=.type "range",data:=.fields #[.int lo t,.int hi u,.int 1 v] },toks:=tk }:=I.kept fun b o e=>Nn _ e
 refine⟨(s.heap.push { cls:=.type "range",data:=.fields #[.int lo t,.int hi u,.int 1 v] }).objs.size,[(s.heap.push { cls:=.type "range",data:=.fields #[.int lo t,.int hi u,.int 1 v] }).objs.size],_,_,H,rfl,
  I1.kept (t':=tk) fun b o e=>Nn _ e,UW _ lo (hi-lo).toNat,?_,fun b c=>?_,q⟩
 ·have i:lo+((0:Nat):Int)*1=lo:=by simp
  have h:(((hi-lo).toNat:Nat):Int)-((0:Nat):Int)=Builtin.Range.rangeSize lo hi 1:=by rw[rangeSize_one];split<;>lia
  show IsRangeIter _ _ (lo+((0:Nat):Int)*1) ((((hi-lo).toNat:Nat):Int)-((0:Nat):Int)) 1;rw[i,h];exact NA _ rfl
 ·have e:b=(s.heap.push { cls:=.type "range",data:=.fields #[.int lo t,.int hi u,.int 1 v] }).objs.size:=by simpa using c
  subst e;exact I1.fpOk (Nu _) (I1.hok.fresh (Nu _))
noncomputable def QjI(c:TA):TI:=fun a H R=>c a H fun b d=>∃j:Int,b=[.int j]/\-(2^62)<=j/\j<2^62/\R (Itr 0 j.toNat) d
theorem Qbb{a:Expr}{d:TA}{p pos:Pos}(o:Gl X "range")(n:X.mg "range"=none)(u:PA X [a] d)(m:starEach [a] X.env=[(false,eval a X.env)]:=by rfl):PI X tg (.Call (.Name "range" p) [a] [] pos) (QjI d):=by
 intro b s f H R I h;refine Call_ (Vq I o n boot_range (EV (thn (u pos b s f H _ I h) fun w x ⟨v,y,I1,i,c⟩=>?_) m rfl));obtain⟨j,e,c,l,q⟩:=c;subst e;cases i with
 |cons r g=>
  cases g;obtain⟨t,rfl⟩:=r;exact call_range_1 (Qdd I1 (by decide) (by decide) c l (by simpa using q))
noncomputable def Qkr(f:TI)(g:TG)(h:TS):TS:=fun D a H=>f a H fun J l=>∃W:Nat->Nat->St->Hp->Prop,(∃m,W 0 m a l)/\∀i m a H,W i m a H ->
 (J.stop i H/\D.nx a H)\/(J.go i H/\∃N:St->Hp->Prop,(∀b c,N b c->∃e,e<m/\W (i+1) e b c)/\∀x c,J.yld i H x c->g x a c fun d j=>h { D with nx:=N,ct:=N,bk:=D.nx } d j)
noncomputable def Yv(a:List Addr)(h:Heap):List (Addr×Obj):=a.filterMap fun b=>(h.get? b).map fun o=>(b,o)
theorem Vj{a:List Addr}{h:Heap}{b:Addr}{o:Obj}(c:b∈a)(e:h.get? b=some o):(b,o)∈Yv a h:=FS.mpr ⟨b,c,by rw[e];rfl⟩
theorem Qaq{a:List Addr}{h:Heap}{p:Addr×Obj}(c:p∈Yv a h):p.1∈a/\h.get? p.1=some p.2:=by
 obtain⟨b,d,e⟩:=FS.mp c;cases q:h.get? b with
 |none=>rw[q]at e;cases e
 |some o=>
  rw[q]at e;have f:(b,o)=p:=Eg e;subst f;exact⟨d,q⟩
theorem Inv.pinned{a:List (Addr×Obj)}{σ:St}{H:Hp}{s:Shared}{c:List Addr}(I:Inv X a σ H s)(j:∀b∈c,Gy X a H b)(i:∀b∈c,∃o,s.heap.get? b=some o/\∀v,o.data≠.cell v):Inv X (a++Yv c s.heap) σ H s:=
 I.pins_of fun p h=>(NO.mp h).elim (fun z=>I.pin p (Ea _ z)) fun z=>by
  obtain⟨f,e⟩:=Qaq z;obtain⟨l,f1,f2,_⟩:=j p.1 f;obtain⟨o,g,d⟩:=i p.1 f;rw[e]at g;cases g;exact⟨e,l,f1,f2,d⟩
theorem Inv.unpinned{a b:List (Addr×Obj)}{σ:St}{H:Hp}{s:Shared}(I:Inv X (a++b) σ H s):Inv X a σ H s:=I.pins_of fun p c=>I.pin p (Ea _ (Du _ c))
theorem Qhp{iter:Expr}{body:List Stmt}{wi:TI}{g:TG}{tb:TS}{pos:Pos}(O:PassesOwn (model X.prog X.w) X.A X.env X.xe)(hc:X.calm=true)(hi:PI X tg iter wi)(hg:PG X tg g)(q:PSs X body tb)
  (hs:∀x,foldedSetIterable iter X.env x=pure x:=by intro _;rfl):PS X (.For tg iter body [] pos) (Qkr wi g tb):=by
 intro c s σ H D I h;refine wpAny_For (thn (hi c s σ H _ I h) fun v s1 h1=>thn h1 fun ah s2 h2=>?_) hs;obtain⟨it,Q,tn,J,H2,e,I2,T,aa,f2,W,⟨m0,w0⟩,E⟩:=h2;subst e
 -- af Z true of Y B L through Y ag
 have p:∀{y:Hp},(∀b∈Q,y b=none)->∀b∈Q,Gy X c y b:=fun hn b q=>⟨hn b q,(f2 b q).2⟩
 refine codeAny_forLoop_any (fun n s'=>∃i l y,Inv X c l y s'/\tn i s'.heap/\(∀b∈Q,y b=none)/\W i n l y) ?_ m0 ⟨0,σ,H2,I2,aa,fun b q=>(f2 b q).1,w0⟩
 rintro n s3 ⟨i,j,S,I3,G,P,w3⟩
 rcases E i n j S w3 with⟨stop,qn⟩|⟨go,N,hN,step⟩
 ·refine FP O (thn (T.done X rfl rfl rfl hc i c s3 j S X.xe I3 (p P) G stop) fun r s4 ⟨hr,I4⟩=>?_);subst hr;exact L0 ⟨j,S,I4,qn⟩
 ·refine FP O (thn (T.item X rfl rfl rfl hc i c s3 j S X.xe I3 (p P) G go) fun r s4 ⟨u,hr,h4⟩=>?_);subst hr;refine FP O (thn h4 fun _ s5 ⟨x,H5,I5,r5,y5,C,ab⟩=>?_);have ae:=I5.pinned (p ab) (T.obj _ _ C);refine FP O (thn (hg _ s5 j H5 x u _ ae r5 (step x H5 y5)) fun _ s6 ⟨U,H6,I6,q6⟩=>?_);refine FP O (thn (q _ s6 U H6 _ I6 q6) fun f s7 z=>?_)
  have again:∀{a:St} {t:Hp},Inv X (c++Yv Q s5.heap) a t s7->N a t->∃m,m<n/\∃i l y,Inv X c l y s7/\tn i s7.heap/\(∀b∈Q,y b=none)/\W i m l y:=fun {a t} I7 M=>by
   obtain⟨m',hm,w7⟩:=hN a t M;refine⟨m',hm,i+1,a,t,I7.unpinned,T.keep _ _ _ C fun b q o e=>(I7.pin (b,o) (Ea _ (Ea _ (Vj q e)))).1,fun b q=>?_,w7⟩;obtain⟨o,e,d⟩:=T.obj _ _ C b q;exact(I7.pin (b,o) (Ea _ (Ea _ (Vj q e)))).2.1
  cases f with
  |next=>obtain⟨a,t,I7,M⟩:=z;exact again I7 M
  |cont=>obtain⟨a,t,I7,M⟩:=z;exact again I7 M
  |brk=>obtain⟨a,t,I7,z⟩:=z;exact⟨a,t,I7.unpinned,z⟩
  |ret v=>obtain⟨x7,a,t,I7,r7,z⟩:=z;exact⟨x7,a,t,I7.unpinned,r7,z⟩
end

end L2

namespace L2

noncomputable abbrev R2:=V->V->Hp->VK->Prop
noncomputable def OpR(X:Cx)(f:Value->Value->Sem Value)(r:R2):Prop:=
 ∀(a:List (Addr×Obj)) (s:Shared) (b:St) (H:Hp) (x y:V) (v u:Value) (Q:VK),Inv X a b H s->RelV x v->RelV y u->r x y H Q ->
  wpAny (model X.prog X.w) X.A (f v u) (EP X a b Q) X.xe s
noncomputable def UnR(X:Cx)(f:Value->Sem Value)(r:V->Hp->VK->Prop):Prop:=
 ∀(a:List (Addr×Obj)) (s:Shared) (b:St) (H:Hp) (x:V) (v:Value) (Q:VK),Inv X a b H s->RelV x v->r x H Q ->
  wpAny (model X.prog X.w) X.A (f v) (EP X a b Q) X.xe s
noncomputable def CallR(X:Cx)(f:Value)(r:List V->Hp->VK->Prop):Prop:=
 ∀(a:List (Addr×Obj)) (s:Shared) (b:St) (H:Hp) (c:List V) (d:List Value) (Q:VK),Inv X a b H s->Vals c d->r c H Q ->
  wpAny (model X.prog X.w) X.A (call f d) (EP X a b Q) X.xe s
noncomputable def Qls(X:Cx)(r:V->Hp->(Bool->Hp->Prop)->Prop):Prop:=
 ∀(a:List (Addr×Obj)) (s:Shared) (b:St) (H:Hp) (x:V) (v:Value) (Q:Bool->Hp->Prop),Inv X a b H s->RelV x v->r x H Q ->
  wpAny (model X.prog X.w) X.A (truthy v) (TP X a b Q) X.xe s

noncomputable def tOp(r:R2)(c b:TE):TE:=fun a H Q=>c a H fun x e=>b a e fun y d=>r x y d Q
noncomputable def tUn(r:V->Hp->VK->Prop)(b:TE):TE:=fun a H Q=>b a H fun x c=>r x c Q
noncomputable def rI(C:Int->Int->Prop)(g:Int->Int->V):R2:=fun x y H Q=>∃i j,x=.int i/\y=.int j/\C i j/\Q (g i j) H
noncomputable def rI0(g:Int->Int->V):R2:=fun x y H Q=>∃i j,x=.int i/\y=.int j/\Q (g i j) H
noncomputable def rU(g:Int->V):V->Hp->VK->Prop:=fun x H Q=>∃i,x=.int i/\Q (g i) H

section
variable{X:Cx}{a b c:Expr}{ta tb tc:TE}{pos:Pos}

theorem QjF(z:PE X a ta)(t:PE X b tb){d:List (Addr×Obj)}{s:Shared}{σ:St}{H:Hp}{R:V->V->Hp->Prop}(I:Inv X d σ H s)
  (h:ta σ H fun x l=>tb σ l fun y e=>R x y e) {Q:Value->Shared->Prop} {f:Value->Value->Sem Value}
  (r:∀v u j x y e,Inv X d σ e j->RelV x v->RelV y u->R x y e->wpAny (model X.prog X.w) X.A (f v u) Q X.xe j) :
  wpAny (model X.prog X.w) X.A (eval a X.env) (fun v i=>wpAny (model X.prog X.w) X.A (eval b X.env) (fun u g=>wpAny (model X.prog X.w) X.A (f v u) Q X.xe g) X.xe i) X.xe s:=by
 refine thn (z d s σ H _ I h) fun v m ⟨x,l,I1,o,q⟩=>?_;refine thn (t d m σ l _ I1 q) fun u j ⟨y,e,I2,n,p⟩=>?_;exact r v u j x y e I2 o n p

theorem QjZ{op:Operator}{r:R2}(j:OpR X (binaryOp op) r)(m:PE X a ta)(l:PE X b tb):PE X (.BinOp a op b pos) (tOp r ta tb):=by
 intro d s e H Q I h;exact wpAny_BinOp (QjF m l I h fun v u f x y n I2 i g q=>j d f e n x y v u Q I2 i g q)
theorem Qi9{op:UnaryOp}{r:V->Hp->VK->Prop}(j:UnR X (unaryOp op) r)(l:PE X a ta):PE X (.UnaryOp op a pos) (tUn r ta):=by
 intro d s e H Q I h;exact UnaryOp_ (thn (l d s e H _ I h) fun v f ⟨x,m,I1,g,i⟩=>j d f e m x v Q I1 g i)
theorem opI{f:Value->Value->Sem Value}{C:Int->Int->Prop}{g:Int->Int->Int}
  (rule:∀(i j:Int) (t u:Tok) (s:Shared) (Q:Value->Shared->Prop) (E:Value->Shared->Prop),C i j->Q (.int (g i j) s.toks) { s with toks:=s.toks+1 }->wpAny (model X.prog X.w) X.A (f (.int i t) (.int j u)) Q E s) :
  OpR X f (rI C fun i j=>.int (g i j)):=by
 intro d s o H x y v u Q I m l h;obtain⟨i,j,rfl,rfl,n,q⟩:=h;obtain⟨t,rfl⟩:=m;obtain⟨e,rfl⟩:=l;exact rule i j t e s _ _ n ⟨.int (g i j),H,I.tok _,⟨_,rfl⟩,q⟩
theorem QkC{f:Value->Value->Sem Value}{g:Int->Int->Int}
  (rule:∀(i j:Int) (t u:Tok) (s:Shared) (Q:Value->Shared->Prop) (E:Value->Shared->Prop),Q (.int (g i j) s.toks) { s with toks:=s.toks+1 }->wpAny (model X.prog X.w) X.A (f (.int i t) (.int j u)) Q E s) :
  OpR X f (rI0 fun i j=>.int (g i j)):=by
 intro d s n H x y v u Q I m l h;obtain⟨i,j,rfl,rfl,q⟩:=h;obtain⟨t,rfl⟩:=m;obtain⟨e,rfl⟩:=l;exact rule i j t e s _ _ ⟨.int (g i j),H,I.tok _,⟨_,rfl⟩,q⟩
theorem Qk6{f:Value->Value->Sem Value}{g:Int->Int->Bool}
  (rule:∀(i j:Int) (t u:Tok) (s:Shared) (Q:Value->Shared->Prop) (E:Value->Shared->Prop),Q (.bool (g i j)) s->wpAny (model X.prog X.w) X.A (f (.int i t) (.int j u)) Q E s) :
  OpR X f (rI0 fun i j=>.bl (g i j)):=by
 intro d s n H x y v u Q I m l h;obtain⟨i,j,rfl,rfl,q⟩:=h;obtain⟨t,rfl⟩:=m;obtain⟨e,rfl⟩:=l;exact rule i j t e s _ _ ⟨.bl (g i j),H,I,rfl,q⟩

noncomputable def Qlc(i j:Int):Prop:=0<j/\j<1073741824
noncomputable def CMul(i j:Int):Prop:=(-(2^64)<i/\i<2^64)\/(-(2^64)<j/\j<2^64)
theorem CMul.ok{i j:Int}(h:CMul i j):IntMulOk i j:=by
 rcases h with⟨e,d⟩|⟨e,d⟩
 ·exact .of_left (intBits_le_64 e d)
 ·exact .of_right (intBits_le_64 e d)
theorem op_add:OpR X (binaryOp .Add) (rI0 fun i j=>.int (i+j)):=QkC fun _ _ _ _ _ _ _ q=>add_int q
theorem Qiy:OpR X (binaryOp .Sub) (rI0 fun i j=>.int (i-j)):=QkC fun _ _ _ _ _ _ _ q=>sub_int q
theorem QgN:OpR X (binaryOp .Mult) (rI CMul fun i j=>.int (i*j)):=opI fun _ _ _ _ _ _ _ d q=>mul_int q d.ok
theorem QeS:OpR X (binaryOp .FloorDiv) (rI Qlc fun i j=>.int (i/j)):=opI fun i j _ _ _ _ _ d q=>by
 have e:(0:Int)<j:=d.1;have f:j<1073741824:=d.2;exact floordiv_int (Dv e) (by rw[Int.fdiv_eq_ediv_of_nonneg i (Dw e)];exact q) (.inl (PyProof.noPylong_small (by omega)))
theorem Qhi:OpR X (binaryOp .Mod) (rI (fun _ j=>0<j) fun i j=>.int (i%j)):=opI fun i j _ _ _ _ _ d q=>by
 have e:(0:Int)<j:=d;exact mod_int' (Dv d) (by rw[Int.fmod_eq_emod_of_nonneg i (Dw d)];exact q)
theorem unI{f:Value->Sem Value}{g:Int->Int}
  (rule:∀(i:Int) (t:Tok) (s:Shared) (Q:Value->Shared->Prop) (E:Value->Shared->Prop),Q (.int (g i) s.toks) { s with toks:=s.toks+1 }->wpAny (model X.prog X.w) X.A (f (.int i t)) Q E s) :
  UnR X f (rU fun i=>.int (g i)):=by
 intro d s j H x v Q I e h;obtain⟨i,rfl,q⟩:=h;obtain⟨t,rfl⟩:=e;exact rule i t s _ _ ⟨.int (g i),H,I.tok _,⟨_,rfl⟩,q⟩
theorem QgZ:UnR X (unaryOp .USub) (rU fun i=>.int (-i)):=unI fun _ _ _ _ _ q=>neg_int q
end

section
variable{X:Cx}{a b c:Expr}{ta tb tc:TE}{pos:Pos}
theorem QhP{d:List (Addr×Obj)}{σ:St}{H:Hp}{s:Shared}{Q:VK}{k f:Bool}(I:Inv X d σ H s)(q:Q (.bl k) H)(e:k=f):EP X d σ Q (.bool f) s:=by
 subst e;exact⟨.bl k,H,I,rfl,q⟩
theorem op_lt:OpR X (compareOp .Lt) (rI0 fun i j=>.bl (decide (i<j))):=Qk6 fun _ _ _ _ _ _ _ q=>lt_int q
theorem QjX:OpR X (compareOp .Gt) (rI0 fun i j=>.bl (decide (j<i))):=Qk6 fun _ _ _ _ _ _ _ q=>gt_int q
theorem Qa3:OpR X (compareOp .Lt) (fun x y H Q=>∃i j,x=.str i/\y=.str j/\Q (.bl (decide (i.cps.toList<j.cps.toList))) H):=by
 intro d s g H x y v u Q I f e h;obtain⟨i,j,rfl,rfl,q⟩:=h;obtain⟨t,rfl⟩:=f;obtain⟨l,rfl⟩:=e;exact lt_str (QhP I q rfl)
theorem OpR.or{f:Value->Value->Sem Value}{r j:R2}(h:OpR X f r)(h':OpR X f j):OpR X f (fun x y H Q=>r x y H Q\/j x y H Q):=by
 intro d s e H x y v u Q I i g q
 rcases q with q|q
 ·exact h d s e H x y v u Q I i g q
 ·exact h' d s e H x y v u Q I i g q

theorem QeK{op:CmpOp}{r:R2}(j:OpR X (compareOp op) r)(n:PE X a ta)(m:PE X b tb)(l:behindInMarks op b=false):PE X (.Compare a [op] [b] pos) (tOp r ta tb):=by
 intro d s e H Q I h;exact wpAny_Compare1 (QjF n m I h fun v u f x y o I2 i g q=>j d f e o x y v u Q I2 i g q) l
noncomputable def Qi6(t:TE):TT:=fun d H Q=>t d H fun x e=>∃k,x=.bl k/\Q k e
theorem QeC{op:CmpOp}{r:R2}(q:OpR X (compareOp op) r)(A:PE X a ta)(w:PE X b tb)(t:behindInMarks op b=false):PT X (.Compare a [op] [b] pos) (Qi6 (tOp r ta tb)):=by
 intro d s f H Q I h
 refine wpAny_isTrue_Compare1 (thn (A d s f H _ I h) fun v i ⟨x,D,I1,m,p⟩=>thn (w d i f D _ I1 p) fun u g ⟨y,C,I2,l,o⟩=>
  thn (q d g f C x y v u _ I2 m l o) fun c E ⟨z,B,I3,j,k,e,n⟩=>?_) t
 subst e;cases j;exact Lu ⟨B,I3,n⟩
noncomputable def Qj9(K:Nh)(x:V)(H:Hp)(k:Bool):Prop:=
 match x with
 |.non=>k=false
 |.bl b=>k=b
 |.int i=>k=(i != 0)
 |.str y=>y.length<=sizeLine/\k=((y.length:Int) != 0)
 |.byt y=>y.size<=sizeLine/\k=((y.size:Int) != 0)
 |.ref p=>(∃d,SqL K H p d/\k=!d.isEmpty)\/(∃d,SqT K H p d/\k=!d.isEmpty)\/∃e,H p=some (.dK e)/\k=!e.isEmpty
 |_=>False
theorem Ga{κ:Type}{kvs:List (κ×V)}{vs:List (κ×Value)}(r:KV kvs vs):(!vs.isEmpty)=!kvs.isEmpty:=by
 cases r<;>rfl
theorem KD{xs:List V}{d:List Value}(r:Vals xs d):(!d.toArray.isEmpty)=!xs.isEmpty:=by
 cases r<;>simp
theorem Kb:(sizeLine:Nat)<2^63:=by rw[Db];decide
theorem QhF:Qls X (fun x H Q=>∃k,Qj9 X.K x H k/\Q k H):=by
 intro A s E H x v Q I l h;obtain⟨k,e,q⟩:=h;have G:=Kb;have D:sizeLine=16777216:=Db;cases x with
 |non=>
  cases l;have d:k=false:=e;subst d;exact truthy_none ⟨H,I,q⟩
 |bl b=>
  cases l;have d:k=b:=e;subst d;exact Lu ⟨H,I,q⟩
 |int i=>
  obtain⟨t,rfl⟩:=l;have d:k=(i != 0):=e;subst d;exact PySem.P.truthy_int ⟨H,I,q⟩
 |str y=>
  obtain⟨t,rfl⟩:=l;obtain⟨C,d⟩:y.length<=sizeLine/\k=((y.length:Int) != 0):=e;subst d;exact PySem.P.truthy_str (by lia) ⟨H,I.tok _,q⟩
 |byt y=>
  obtain⟨t,rfl⟩:=l;obtain⟨C,d⟩:y.size<=sizeLine/\k=((y.size:Int) != 0):=e;subst d;exact PySem.W.truthy_bytes (Nl (Nd (Nf C (Nq D)) (by decide))) ⟨H,I.tok _,q⟩
 |ref p=>
  cases l;have d:(∃j,SqL X.K H p j/\k=!j.isEmpty)\/(∃j,SqT X.K H p j/\k=!j.isEmpty)\/∃f,H p=some (.dK f)/\k=!f.isEmpty:=e
  rcases d with⟨j,n,d⟩|⟨j,n,d⟩|⟨f,n,d⟩
  ·subst d;obtain⟨z,r,u,B⟩:=I.list n;have g:=r.length;exact wpAny_truthy_list u.isList (by simp only[Nt];lia) ⟨H,I.tok _,by rw[KD r];exact q⟩
  ·subst d;obtain⟨z,r,u,B⟩:=I.tuple n;have g:=r.length;exact truthy_tuple u (by simp only[Nt];omega) ⟨H,I.tok _,by rw[KD r];exact q⟩
  ·subst d;obtain⟨B,hS,o,r,m⟩:f.length<=sizeLine/\(p==sysModules)=false/\∃o,KV f o/\s.heap.DictOf (QaY X.prog X.w) p o:=I.hok p _ n;have g:f.length=o.length:=N7 r;exact wpAny_truthy_dict hS m (by lia) ⟨H,I.tok _,by rw[Ga r];exact q⟩
 |_=>exact(show False from e).elim
theorem Qc1(l:PE X a ta)(j:∀whole,isTrue a X.env whole=(do let v <-whole;standAt a.pos;holding [v] (truthy v))) :
  PT X a (fun σ H Q=>ta σ H fun x e=>∃k,Qj9 X.K x e k/\Q k e):=by
 intro d s σ H Q I h;exact isTrue_plain (thn (l d s σ H _ I h) fun v f ⟨x,m,I1,g,i⟩=>QhF d f σ m x v Q I1 g i) (j _)

theorem op_add_str:OpR X (binaryOp .Add) (fun x y H Q=>∃i j,x=.str i/\y=.str j/\i.length+j.length<=sizeLine/\Q (.str (i++j)) H):=by
 intro d s m H x y v u Q I g f h;obtain⟨i,j,rfl,rfl,l,q⟩:=h;obtain⟨t,rfl⟩:=g;obtain⟨e,rfl⟩:=f;exact add_str (fun e n=>⟨.str (i++j),H,I.tok _,⟨_,rfl⟩,q⟩) l
theorem Xb{x:V}{us:List Value}(r:Vals [x] us):∃u,us=[u]/\RelV x u:=by
 cases r with
 |cons e d=>cases d;exact⟨_,rfl,e⟩
theorem G0{x y:V}{us:List Value}(r:Vals [x,y] us):∃u w',us=[u,w']/\RelV x u/\RelV y w':=by
 cases r with
 |cons g f=>
  cases f with
  |cons e d=>cases d;exact⟨_,_,rfl,g,e⟩
theorem GV(f:X.calm=true):CallR X (.builtin "max") (fun xs H Q=>∃i j,xs=[.int i,.int j]/\Q (.int (if j>i then j else i)) H):=by
 intro e s g H xs m Q I r h;obtain⟨i,j,rfl,q⟩:=h;obtain⟨u,l,rfl,⟨t,rfl⟩,⟨o,rfl⟩⟩:=G0 r;refine max_two_ints (I.ok.hd f) fun p n k=>⟨_,H,I.kept k,?_,q⟩
 by_cases d:j>i
 ·rw[if_pos d,if_pos d];exact⟨_,rfl⟩
 ·rw[if_neg d,if_neg d];exact⟨_,rfl⟩
theorem QaR(f:X.calm=true):CallR X (.builtin "min") (fun xs H Q=>∃i j,xs=[.int i,.int j]/\Q (.int (if j<i then j else i)) H):=by
 intro e s g H xs m Q I r h;obtain⟨i,j,rfl,q⟩:=h;obtain⟨u,l,rfl,⟨t,rfl⟩,⟨o,rfl⟩⟩:=G0 r;refine min_two_ints (I.ok.hd f) fun p n k=>⟨_,H,I.kept k,?_,q⟩
 by_cases d:j<i
 ·rw[if_pos d,if_pos d];exact⟨_,rfl⟩
 ·rw[if_neg d,if_neg d];exact⟨_,rfl⟩
theorem Qbt:CallR X (.type "int") (fun xs H Q=>(∃i,xs=[.int i]/\Q (.int i) H)\/∃k,xs=[.bl k]/\Q (.int (if k then 1 else 0)) H):=by
 intro d s f H xs g Q I r h
 rcases h with⟨i,rfl,q⟩|⟨k,rfl,q⟩
 ·obtain⟨u,rfl,t,rfl⟩:=Xb r;exact call_int_int ⟨.int i,H,I,⟨_,rfl⟩,q⟩
 ·obtain⟨u,rfl,e⟩:=Xb r;cases e;exact call_int_bool ⟨.int (if k then 1 else 0),H,I.tok _,⟨_,rfl⟩,q⟩
end
end L2

namespace L2

structure ObjM(h:Heap)(x dx C:Addr)(mA:Str->Option Value):Prop where
 obj:h.get? x=some (LZ C dx)
 ns:h.Ns1 dx mA
 ne:dx≠x

theorem Qai{h:Heap}{g:Addr}{d:Str->Option Value}(n:h.Ns1 g d):∃c,h.get? g=some c/\∀name,On name c=some (d name):=by
 obtain⟨o,f,r,j,hd,m,_,l⟩:=n;refine⟨o,j,fun name=>?_⟩;have e:=l name;unfold nsFind findBy at e;rw[<-Array.find?_toList]at e;unfold On;rw[hd];dsimp only;split
 ·rename_i y q;rw[q]at e;exact congrArg some e
 ·rename_i q;rw[q]at e
  have a:f.toList.any (·.refKey)=false:=by
   rw[List.any_eq_false];intro y i;obtain⟨z,t,b⟩:=m y (FH.mp i);simp[DictEntry.refKey,b]
  have p:¬f.toList.any (·.refKey)=true:=by rw[a];exact Eb
  rw[if_neg p];exact congrArg some e

theorem ObjM.look{h:Heap}{x c C:Addr}{b:Str->Option Value}(I:ObjM h x c C b):∃a,PySem.W.InstAt h x (LZ C c) C (some a)/\∀name,On name a=some (b name):=
 let⟨a,d,e⟩:=Qai I.ns
 ⟨a,⟨I.obj,rfl,rfl,d⟩,e⟩

section
variable{prog:Program}{w:World}{A:Around}{E:Value->Shared->Prop}{s:Shared}{K:Nh}{x dx C f:Addr}{mA:Str->Option Value}{name:Str}{v:Value}

end

theorem RelO.some_of{v:V}{o:Option Value}(r:RelO (some v) o):∃u,o=some u/\RelV v u:=by
 cases o with
 |none=>exact(show False from r).elim
 |some u=>exact⟨u,rfl,r⟩
theorem RelO.none_of{o:Option Value}(r:RelO none o):o=none:=by
 cases o with
 |none=>rfl
 |some u=>exact(show False from r).elim
section
variable{P:Program}{w:World}{H H':Hp}{h h':Heap}{a C dx:Addr}{fs fs':List (Str×V)}
theorem QeY(c:HOk P w H h)(e:H a=some (.ins C dx fs)):∃b,ObjM h a dx C b/\(∀f,RelO (fs.lookup f) (b f))/\PySem.Within b (fs.map (·.1))/\fs.length<=1000/\H dx=some (.own a):=by
 obtain⟨d,z,ne,ob,b,n,r,q⟩:=(show ObjOk P w H h a (.ins C dx fs)from c a _ e)
 exact⟨b,⟨ob,n,ne⟩,r,q,z,d⟩
end

structure Cls(K:Nh)(C:Addr):Prop where
 pg:YaC K C Str.empty=true
 hd:PySem.W.hasDictIn K C=true
 po:PySem.W.plainOver K C=true
 sa:YaP K (.ref C) "__setattr__"=some (some (.builtin "object.__setattr__"))
theorem Cls.get{K:Nh}{C:Addr}(c:Cls K C)(f:Str):YaC K C f=true:=c.pg
section
variable{X:Cx}{pins:List (Addr×Obj)}{σ:St}{H:Hp}{s:Shared}{a C dx:Addr}{fs:List (Str×V)}{f:Str}{v:V}{A:Around}{E:Value->Shared->Prop}

end

section
variable{X:Cx}{o e value:Expr}{f:Str}{pos pos' tpos:Pos}{ta tv:TE}
end

section
variable{X:Cx}{pins:List (Addr×Obj)}{σ:St}{H:Hp}{s:Shared}{A:Around}{E:Value->Shared->Prop}{Q:Value->Shared->Prop}{c:Value}{b:Bool}
inductive TyOf(K:Nh)(H:Hp):V->Value->Prop where
 |non:TyOf K H .non (.type "NoneType")
 |bl (x:Bool):TyOf K H (.bl x) (.type "bool")
 |int (i:Int):TyOf K H (.int i) (.type "int")
 |str (x:Str):TyOf K H (.str x) (.type "str")
 |flt (x:UInt64):TyOf K H (.flt x) (.type "float")
 |lst {a:Addr} {xs:List V} (e:H a=some (.lst xs)):TyOf K H (.ref a) (.type "list")
 |frz {a:Addr} {o:Obj} {xs:List V} (e:H a=some (.frz o (.lst xs))):TyOf K H (.ref a) (.type "list")
 |tup {a:Addr} {xs:List V} (e:H a=some (.tup xs)):TyOf K H (.ref a) (.type "tuple")
 |dK {a:Addr} {kvs:List (Key×V)} (e:H a=some (.dK kvs)):TyOf K H (.ref a) (.type "dict")
 |dT {a:Addr} {kvs:List (Tr×Addr×V)} (e:H a=some (.dT kvs)):TyOf K H (.ref a) (.type "dict")
 | ins {a C dx:Addr} {fs:List (Str×V)} (e:H a=some (.ins C dx fs)) (cl:Cls K C) (ha:YaP K (.ref C) "__class__"=some (some (.builtin "object.__class__")))
   (hn:PySem.W.specialIn K (.builtin "object.__class__") "__get__"=some (some (.builtin "getset_descriptor.__get__"))) (htk:PySem.W.takesIn K (.builtin "object.__class__")=some true)
   (hm:PySem.W.mroIn K C (.type "object")=some true):TyOf K H (.ref a) (.ref C)
theorem QbU{x:V}{u t:Value}(I:Inv X pins σ H s)(d:RelV x u)(ty:TyOf X.K H x t)(e:YaQ X.K t c=some b)(h:∀tk,Q (.bool b) { s with toks:=tk }) :
  wpAny (model X.prog X.w) A (call (.builtin "isinstance") [u,c]) Q E s:=by
 cases ty with
 |non=>cases(show u=Value.none from d);exact EH PySem.W.kitx_none I.kIn True.intro e (fun z=>nomatch z) h
 |bl y=>cases(show u=Value.bool y from d);exact EH PySem.W.kitx_bool I.kIn True.intro e (fun z=>nomatch z) h
 |int i=>obtain⟨t,q⟩:=(show∃t,u=Value.int i t from d);cases q;exact EH PySem.W.kitx_int I.kIn True.intro e (fun z=>nomatch z) h
 |str y=>obtain⟨t,q⟩:=(show∃t,u=Value.str y t from d);cases q;exact EH PySem.W.kitx_str I.kIn True.intro e (fun z=>nomatch z) h
 |flt y=>obtain⟨t,q⟩:=(show∃t,u=Value.float y t from d);cases q;exact EH PySem.W.kitx_float I.kIn True.intro e (fun z=>nomatch z) h
 |@lst a l f=>
  cases(show u=Value.ref a from d);obtain⟨_,_,n,_,g⟩:=(show ObjOk X.prog X.w H s.heap a (.lst l)from I.hok a _ f)
  exact EH Lw I.kIn ⟨_,g,rfl⟩ e (fun z=>nomatch z) h
 |@frz a ob l f=>
  cases(show u=Value.ref a from d);obtain⟨_,_,_,n,_,g⟩:=(show ObjOk X.prog X.w H s.heap a (.frz ob (.lst l))from I.hok a _ f)
  exact EH Lw I.kIn ⟨_,g,rfl⟩ e (fun z=>nomatch z) h
 |@tup a l f=>
  cases(show u=Value.ref a from d);obtain⟨_,_,_,p⟩:=(show ObjOk X.prog X.w H s.heap a (.tup l)from I.hok a _ f)
  obtain⟨o,g,m,_⟩:=p;exact EH Yae I.kIn ⟨o,g,m⟩ e (fun z=>nomatch z) h
 |@dK a j f=>
  cases(show u=Value.ref a from d);obtain⟨_,_,N,_,p⟩:=(show ObjOk X.prog X.w H s.heap a (.dK j)from I.hok a _ f)
  obtain⟨o,L,M,g,m,_⟩:=p;exact EH Yar I.kIn ⟨o,g,m.1⟩ e (fun z=>nomatch z) h
 |@dT a j f=>
  cases(show u=Value.ref a from d);obtain⟨_,_,l,_,o,L,M,g,m,_⟩:=(show ObjOk X.prog X.w H s.heap a (.dT j)from I.hok a _ f)
  exact EH Yar I.kIn ⟨o,g,m.1⟩ e (fun z=>nomatch z) h
 |@ins a C U fs f v G B r D=>
  cases(show u=Value.ref a from d);obtain⟨S,O,_⟩:=QeY I.hok f;obtain⟨P,J,_⟩:=O.look;exact EH (PySem.W.kitx_own (v.get _) v.hd G B r D) I.kIn J e (fun z=>nomatch z) h
end
end L2

namespace L2

structure Room(k:Nat)(A:Around):Prop where
 hd:A.handled=none
 dp:A.depth+3*k+5<recursionLimit
 un:A.units+16*k+200<cLine
theorem Room.mono{j k:Nat}{A:Around}(r:Room k A)(h:j<=k):Room j A:=⟨r.hd,by have:=r.dp;lia,by have:=r.un;lia⟩
theorem Room.deeper{k:Nat}{A:Around}(r:Room (k+1) A)(env:Env):Room k (A.deeper env):=
 ⟨r.hd,by have:=r.dp;show A.depth+1+3*k+5<_;lia,by have:=r.un;show A.units+3+16*k+200<_;lia⟩
theorem Room.depth{k:Nat}{A:Around}(r:Room k A):A.depth<recursionLimit:=by have:=r.dp;exact Nd (Nf (Np _ _) (Np _ _)) this
theorem Room.units{k:Nat}{A:Around}(r:Room k A):A.units+64<cLine:=by have:=r.un;lia
noncomputable def Ql7:TA:=fun _ H Q=>Q [] H
noncomputable def Qj6(d:TE)(c:TA):TA:=fun a H Q=>d a H fun x f=>c a f fun b e=>Q (x::b) e
section
variable{X:Cx}{e:Expr}{es:List Expr}{te:TE}{t:TA}{pos:Pos}
theorem Qg0:PA X [] Ql7:=fun _ _ _ _ H Q I h=>Fv ⟨[],H,I,.nil,h⟩
theorem Qfd(m:PE X e te)(hr:PA X es t)(l:starEach (e::es) X.env=(false,eval e X.env)::starEach es X.env:=by rfl):PA X (e::es) (Qj6 te t):=by
 intro pos a s b H Q I h;rw[l];show wpAny _ _ (spliced ((false,eval e X.env)::backTo pos (starEach es X.env))) _ _ s;refine Fk (thn (m a s b H _ I h) fun u d ⟨x,o,I1,g,j⟩=>?_);exact thn (hr pos a d b o _ I1 j) fun p q ⟨c,n,I2,f,i⟩=>⟨x::c,n,I2,.cons g f,i⟩

noncomputable def Qme(t:TA):TE:=fun c H Q=>t c H fun a b=>a.length<=sizeLine/\∀p,b p=none->Q (.ref p) (upd b p (.tup a))
noncomputable def Qly(t:TA):TE:=fun c H Q=>t c H fun a b=>a.length<=sizeLine/\∀p,b p=none->Q (.ref p) (upd b p (.lst a))
theorem Qhz{i}(h:PA X es t):PE X (.Tuple es i pos) (Qme t):=by
 intro a s f H Q I l;refine wpAny_Tuple_spliced (thn (h pos a s f H _ I l) fun j c ⟨g,d,I1,r,z,q⟩=>⟨by rw[<-r.length];exact z,?_⟩);have m:d c.heap.objs.size=none:=I1.hok.fresh (Nu _);refine⟨.ref c.heap.objs.size,upd d c.heap.objs.size (.tup g),I1.laid (t':=c.toks) (fun b u e=>Nn _ e) (Nu _) ?_,rfl,q _ m⟩;exact⟨z,j,r,⟨_,NA _ rfl,rfl,_,rfl⟩⟩
theorem QdI(h:PA X es t):PE X (.List es pos) (Qly t):=by
 intro a s f H Q I j;refine wpAny_List_spliced (thn (h pos a s f H _ I j) fun i c ⟨g,d,I1,r,z,q⟩=>⟨by rw[<-r.length];exact z,?_⟩);have l:d c.heap.objs.size=none:=I1.hok.fresh (Nu _);refine⟨.ref c.heap.objs.size,upd d c.heap.objs.size (.lst g),I1.laid (t':=c.toks) (fun b u e=>Nn _ e) (Nu _) ?_,rfl,q _ l⟩;exact⟨z,i,0,r,NA _ rfl⟩
end

noncomputable abbrev Sp:=List V->Hp->VK->XK->Prop
noncomputable abbrev CXT:=List Env->Hp->Shared->XK->Value->Shared->Prop

structure Env0(P:Program)(w:World)(K:Nh)(mg:Str->Option Value)(base:Heap)(A:Around)(outer:List Env)(s:Shared)(H:Hp):Prop where
 frames:A.frames=some outer
 mod:Mod K mg base
 bs:∀b o,base.get? b=some o->s.heap.get? b=some o/\H b=none
 bsz:base.objs.size<=s.heap.objs.size
 funs:s.heap.FunFrames base outer
 frf:∀b∈frs outer,H b=none
 hok:HOk P w H s.heap
 bare:AllBare s.gens
noncomputable def CE(a:List Env)(P:Program)(w:World)(H:Hp)(s:Shared)(Q:VK)(u:Value)(b:Shared):Prop:=
 ∃v c,b.os=s.os/\AllBare b.gens/\Un (frs a) [] H c s.heap b.heap/\HOk P w c b.heap/\RelV v u/\Q v c
noncomputable def CR(CX:CXT)(a:List Env)(P:Program)(w:World)(H:Hp)(s:Shared)(Q:VK)(E:XK)(r:Result)(b:Shared):Prop:=
 match r with
 |.ok (.ret u)=>CE a P w H s Q u b
 |.ok _=>False
 |.error e=>CX a H s E e b
structure FnOk(P:Program)(w:World)(K:Nh)(mg:Str->Option Value)(base:Heap)(CX:CXT)(k:Nat)(f:Addr)(fd:FuncData)(ps:List Str)(sp:Sp):Prop where
 len:∀vs H Q E,sp vs H Q E->vs.length=ps.length
 run:∀(A:Around) (outer:List Env) (s:Shared) (H:Hp) (args:Args) (us:List Value) (vs:List V) (Q:VK) (E:XK),Room k A->Env0 P w K mg base A outer s H->BindsTo s fd args (ps.zip us)->Vals vs us->sp vs H Q E ->
  codeAny (model P w) A (.call (.ref f) args) (CR CX outer P w H s Q E) s
theorem FnOk.imp{P:Program}{w:World}{K:Nh}{c:Str->Option Value}{base:Heap}{CX:CXT}{k:Nat}{f:Addr}{fd:FuncData}{ps:List Str}{sp b:Sp}(F:FnOk P w K c base CX k f fd ps sp)
  (h:∀vs H Q E,b vs H Q E->sp vs H Q E):FnOk P w K c base CX k f fd ps b:=
 ⟨fun vs H Q E q=>F.len vs H Q E (h _ _ _ _ q),fun A a s H args d vs Q E hr i j e g=>F.run A a s H args d vs Q E hr i j e (h _ _ _ _ g)⟩

section
variable{X:Cx}{pins:List (Addr×Obj)}{σ:St}{H:Hp}{s s':Shared}
theorem Inv.env0(I:Inv X pins σ H s):Env0 X.prog X.w X.K X.mg X.base X.A X.stack s H:=
 ⟨I.ok.frames,I.ok.mod,I.bs,Nf I.ok.bsz I.sz,I.stack,I.stkFree,I.hok,I.bare⟩
theorem Inv.after{Q:VK}{u:Value}(I:Inv X pins σ H s)(h:CE X.stack X.prog X.w H s Q u s'):EP X pins σ Q u s':=by
 obtain⟨v,f,os,bare,un,c,r,q⟩:=h;obtain⟨e,g,d,t,a⟩:=s';obtain rfl:a=s.os:=os;exact⟨v,f,I.call (h':=e) (g':=g) (d':=d) (t':=t) (ch:=[]) un c bare (fun b z=>absurd z (by simp)),r,q⟩
end

noncomputable def Qgm(sp:Sp)(a:List V)(E:XK)(t:TA):TE:=fun b H Q=>t b H fun c d=>sp (c++a) d Q E
noncomputable def Binds(K:Nh)(fd:FuncData)(ps:List Str)(b:List Value):Prop:=
 ∀(s:Shared) (a:List Value),K.In s.heap->(a++b).length=ps.length->BindsTo s fd ⟨a,[]⟩ (ps.zip (a++b))
theorem Binds.all{K:Nh}{fd:FuncData}{ps:List Str}(h:∀us:List Value,us.length=ps.length->bindArgs fd ⟨us,[]⟩=pure (ps.zip us)):Binds K fd ps []:=fun s us _ a=>by
 rw[Dx]at a ⊢;exact .of_eq (h us a)

noncomputable def WP(CX:CXT)(X:Cx)(E:XK):Prop:=∀(a:List (Addr×Obj)) (c:St) (H:Hp) (s:Shared) (e:Value) (b:Shared),Inv X a c H s->CX X.stack H s E e b->X.xe e b

section
variable{X:Cx}{CX:CXT}{k:Nat}{f C:Addr}{fd:FuncData}{ps:List Str}{sp:Sp}{dvs:List V}{ds:List Value}{E:XK}{x m:Str}{p pos apos:Pos}{e o:Expr}{es:List Expr}{ta:TE}{t:TA}

theorem Qir{a:List (Addr×Obj)}{σ:St}{H:Hp}{s:Shared}{Q:VK}{us:List Value}{vs:List V}(F:FnOk X.prog X.w X.K X.mg X.base CX k f fd ps sp)(hr:Room k X.A)(j:Binds X.K fd ps ds)(hd:Vals dvs ds)(g:WP CX X E)
  (I:Inv X a σ H s) (r:Vals vs us) (h:sp (vs++dvs) H Q E):wpAny (model X.prog X.w) X.A (call (.ref f) us) (EP X a σ Q) X.xe s:=by
 have c:Vals (vs++dvs) (us++ds):=r.append hd;have i:(us++ds).length=ps.length:=by rw[<-c.length];exact F.len _ _ _ _ h
 refine wpAny_call (DJ (F.run X.A X.stack s H ⟨us,[]⟩ (us++ds) (vs++dvs) Q E hr I.env0 (j s us I.kIn i) c h) fun r d b=>?_);cases r with
 |error e=>exact g a σ H s e d I b
 |ok fl=>
  cases fl with
  |ret u=>exact I.after b
  |next=>exact False.elim b
  |brk=>exact False.elim b
  |cont=>exact False.elim b

theorem QeJ(F:FnOk X.prog X.w X.K X.mg X.base CX k f fd ps sp)(hr:Room k X.A)(n:Gl X x)(j:X.mg x=some (.ref f))(l:Fy X.K (.ref f)=true)(v:Binds X.K fd ps ds)(hd:Vals dvs ds)(i:WP CX X E)
  (y:PA X (e::es) t) (c:(x==("__debug__":Str))=false:=by decide) (u:starEach (e::es) X.env=(false,eval e X.env)::starEach es X.env:=by rfl) (b:(backTo pos (starEach es X.env)).any (·.1)=false:=by rfl) :
  PE X (.Call (.Name x p) (e::es) [] pos) (Qgm sp dvs E t):=by
 intro a s g H Q I h;refine Dr (Qfw I n j ?_ c);refine PySem.W.callWith_K (h₀:=X.base) I.ok.mod.kin l (thn (y pos a s g H _ I h) fun B D ⟨z,G,I1,r,q⟩=>⟨I1.kIn,?_⟩) u b;exact Qir F hr v hd i I1 r q
end

section
variable{X:Cx}{CX:CXT}{k:Nat}{f C:Addr}{fd:FuncData}{ps ks:List Str}{sp:Sp}{E:XK}{x m:Str}{p pos apos kpos:Pos}{e o:Expr}{es:List Expr}{kws:List Keyword}{te ta:TE}{t tk:TA}{nm:Option Str}
variable{g:List Value->List Value->List Value}{gV:List V->List V->List V}
end

structure FnScope(N P:List Str)(sc:Scope):Prop where
 kind:sc.kind=.function
 co:sc.isCoroutine=false
 gen:sc.isGenerator=false
 nd:N.Nodup
 pre:N.take P.length=P
 par:∀x∈P,sc.names.lookup x=some .local\/sc.names.lookup x=some .cell
 nofree:∀y∈sc.names,y.2≠.free

theorem YH{kindOf:Str->Option NameKind}{x:Str}:∀{binds:List (Str×Value)} {m:Str->Option Value},(∀v,(x,v)∉binds)->bindL kindOf binds m x=m x
 |[],_,_=>rfl
 | (n,v)::r,m,h=>by
  unfold bindL;rw[YH fun w hw=>h w (Nw _ hw)];split
  ·have:x≠n:=by rintro rfl;exact h v Nz
   simp[this]
  ·rfl
theorem YE{kindOf:Str->Option NameKind}{x:Str}:∀{binds:List (Str×Value)} {m:Str->Option Value},(∀v,(x,v)∉binds)->bindC kindOf binds m x=m x
 |[],_,_=>rfl
 | (n,v)::r,m,h=>by
  unfold bindC;rw[YE fun w hw=>h w (Nw _ hw)];split
  ·rfl
  ·have:x≠n:=by rintro rfl;exact h v Nz
   simp[this]
theorem YB{kindOf:Str->Option NameKind}{x:Str}{v:Value}:∀{P:List Str} {vs:List Value} {i:Nat} {m:Str->Option Value},P.Nodup->P[i]?=some x->vs[i]?=some v->kindOf x=some .local ->
  bindL kindOf (P.zip vs) m x=some v
 |[],_,_,_,_,h,_,_=>by simp at h
 |_::_,[],_,_,_,_,h,_=>by simp at h
 |p::P,w::vs,0,m,b,h1,a,c=>by
  simp at h1 a;subst h1;subst a;show bindL kindOf ((p,w)::P.zip vs) m p=_;unfold bindL;rw[YH fun v d=>(Eu.mp b).1 (L3 d).1,if_pos c];simp
 |p::P,w::vs,i+1,m,b,h1,a,c=>by
  show bindL kindOf ((p,w)::P.zip vs) m x=_;unfold bindL;exact YB (i:=i) (Eu.mp b).2 (by simpa using h1) (by simpa using a) c
theorem YX{kindOf:Str->Option NameKind}{x:Str}{v:Value}:∀{P:List Str} {vs:List Value} {i:Nat} {m:Str->Option Value},P.Nodup->P[i]?=some x->vs[i]?=some v->kindOf x≠some .local ->
  bindC kindOf (P.zip vs) m x=some v
 |[],_,_,_,_,h,_,_=>by simp at h
 |_::_,[],_,_,_,_,h,_=>by simp at h
 |p::P,w::vs,0,m,b,h1,a,c=>by
  simp at h1 a;subst h1;subst a;show bindC kindOf ((p,w)::P.zip vs) m p=_;unfold bindC;rw[YE fun v d=>(Eu.mp b).1 (L3 d).1,if_neg c];simp
 |p::P,w::vs,i+1,m,b,h1,a,c=>by
  show bindC kindOf ((p,w)::P.zip vs) m x=_;unfold bindC;exact YX (i:=i) (Eu.mp b).2 (by simpa using h1) (by simpa using a) c

noncomputable def start(N:List Str)(vs:List V):St:=vs.map some++List.replicate (N.length-vs.length) none

noncomputable def QdB(CX:CXT)(P:Program)(w:World)(K:Nh)(mg:Str->Option Value)(base:Heap)(N:List Str)(b:Str)(a:Scope)(f:Addr)(d:Value)(A:Around)(outer:List Env)(s:Shared)(H:Hp)(E:XK):Cx where
 prog:=P
 w:=w
 K:=K
 mg:=mg
 base:=base
 A:=A.deeper (envOfC b a s.heap.objs.size f d)
 N:=N
 s₀:=s
 H₀:=H
 env:=envOfC b a s.heap.objs.size f d
 outer:=outer
 stack:=envOfC b a s.heap.objs.size f d::outer
 ex:=[]
 calm:=true
 fn:=fun _=>true
 pn:=[]
 xe:=fun e g=>wpAny (model P w) (A.deeper (envOfC b a s.heap.objs.size f d)) (leaving (envOfC b a s.heap.objs.size f d) e) (fun _ c=>CX outer H s E e c) (fun h c=>CX outer H s E h c) g

theorem UD{a:Scope}{n:Nat}{x:Str}(h:a.names.lookup x=some .cell):∃c,(cellsFrom n a.names []).lookup x=some c:=by
 have q:=Ob a.names n [] (.inl h);exact LI.mp q

theorem QaN{CX:CXT}{P:Program}{w:World}{K:Nh}{L:Str->Option Value}{base:Heap}{N ps:List Str}{j:Str}{d:Scope}{f:Addr}{I:Value}{A:Around}{g:List Env}{s M:Shared}{H:Hp}{E:XK}{us:List Value}{vs:List V}
  (S:FnScope N ps d) (hd:A.handled=none) (m:Env0 P w K L base A g s H) (X:vs.length=ps.length) (r:Vals vs us)
  (x:InCallC s s.heap.objs.size (bindL (envOfC j d s.heap.objs.size f I).kindOf (ps.zip us) fun _=>none) (cellsFrom (s.heap.objs.size+1) d.names []) (bindC (envOfC j d s.heap.objs.size f I).kindOf (ps.zip us) fun _=>none) M) :
  Inv (QdB CX P w K L base N j d f I A g s H E) [] (start N vs) H M:=by
 have U:ps.length<=N.length:=by have:=congrArg List.length S.pre;rw[Ed]at this;exact Nf (Nq this.symm) (Dp _ _)
 obtain⟨G,Z,rfl,O⟩:=x.done;have o:∀b:Addr,b∉(QdB CX P w K L base N j d f I A g s H E).ex:=fun b z=>absurd (show b∈([]:List Addr)from z) (by simp)
 refine⟨⟨m.mod,S.kind,rfl,rfl,Nu _,fun y z c G l=>?_,fun y t=>?_,fun y c _ h=>?_,fun _=>hd,Around.frames_deeper m.frames,.inr ⟨rfl,rfl⟩,fun b z=>absurd z (o b),m.bs,m.bsz,fun b _ _=>o b,fun b z=>absurd z (o b),m.funs,m.frf⟩,
  rfl,m.bare,Un.kept O,⟨_,x.toInCall.ns,fun i y v G l h3=>?_⟩,fun y c h=>⟨_,x.cell y c h⟩,m.hok.fresh (Nu _),fun y c h=>?_,fun p C=>absurd (show p∈([]:List (Addr×Obj))from C) (by simp),m.hok.kept O,?_⟩
 ·exact name_of_addr x.apart (Fb G) (Fb l)
 ·have t:d.names.lookup y=some .cell\/d.names.lookup y=some .free:=t
  rcases t with t|t
  ·exact UD t
  ·exact absurd rfl (S.nofree _ (Fb t))
 ·exact Nl (x.above y c (Fb h))
 ·have D:i<vs.length:=by
   unfold start at l
   by_cases D:i<vs.length
   ·exact D
   ·rw[Dn (by simpa using D)]at l;rw[LV]at l;split at l<;>cases l
  have Y:vs[i]?=some v:=by
   unfold start at l;rw[NP (by simpa using D),NB]at l;cases e:vs[i]? with
   |none=>rw[e]at l;cases l
   |some a=>rw[e]at l;cases l;rfl
  obtain⟨u,hu,Q⟩:=r.get Y
  have C:ps[i]?=some y:=by
   rw[<-S.pre,LJ (Ng D (Nq X))];exact G
  have B:ps.Nodup:=by rw[<-S.pre];exact S.nd.sublist (List.take_sublist _ _)
  refine⟨u,Q,?_⟩
  rcases S.par y (N5 C)with k|k
  ·exact .inl ⟨k,YB B C hu k⟩
  ·obtain⟨c,e⟩:=UD (n:=s.heap.objs.size+1) k;refine .inr ⟨.inl k,c,e,?_⟩;have q:=x.cell y c e;rw[YX B C hu (by show d.names.lookup y≠_;rw[k];decide)]at q;exact q
 ·exact m.hok.fresh (Nl (x.above y c (Fb h)))
 ·unfold start;show _=N.length;rw[Nv,Ny,List.length_replicate];lia

theorem Qjw{CX:CXT}{P:Program}{w:World}{K:Nh}{D:Str->Option Value}{base:Heap}{k:Nat}{f:Addr}{name d:Str}{h:Arguments}{body:List Stmt}{a:Scope}{Y kV C pm g ct oc:Value}{Z od:Option Addr}
  {M:Array (Option Value)} {N ps:List Str} {sp:Sp} (lk:K.lookup f=some ⟨oc,od,.func (DK name d h body a Y kV C pm Z g ct),M⟩) (U:IU K g d=true) (S:FnScope N ps a)
  (len:∀vs H Q E,sp vs H Q E->vs.length=ps.length)
  (m:∀(A:Around) (c:List Env) (s:Shared) (H:Hp) (vs:List V) (Q:VK) (E:XK),Room k (A.deeper (envOfC d a s.heap.objs.size f g))->sp vs H Q E ->
   ∃t,PSs (QdB CX P w K D base N d a f g A c s H E) body t/\t { nx:=fun _ j=>Q .non j,rt:=Q } (start N vs) H) :
  FnOk P w K D base CX (k+1) f (DK name d h body a Y kV C pm Z g ct) ps sp:=by
 refine⟨len,fun A c s H args us vs Q E hr B hb r z=>?_⟩;have hl:=len _ _ _ _ z;have KX:K.In s.heap:=B.mod.kin.keeps fun b o e=>(B.bs b o e).1;have O:s.heap.NoLimit:=B.mod.nolimit.keeps fun b o e=>(B.bs b o e).1
 have l:∀y∈ps.zip us,a.names.lookup y.1=some .local\/(a.names.lookup y.1=some .cell/\((cellsFrom (s.heap.objs.size+1) a.names []).lookup y.1).isSome=true):=fun⟨n,v⟩ hy=>by
  rcases S.par n (L3 hy).1 with q|q
  ·exact .inl q
  ·exact .inr ⟨q,Ob _ _ _ (.inl q)⟩
 refine codeAny_call_function hr.depth (KX _ _ lk) rfl S.co S.gen rfl (PySem.W.codeRec_of KX U) (hb _ _ _ _ ?_);refine wpAny_newFunctionEnv_cells S.kind l fun aa he X x=>?_;subst he;refine⟨O.keeps x.toInCall.keep,codeAny_func ?_⟩;obtain⟨t,ht,hq⟩:=m A c s H vs Q E (hr.deeper _) z;have I:Inv (QdB CX P w K D base N d a f g A c s H E) [] (start N vs) H X:=QaN S hr.hd B hl r x;refine N4 (ht [] X (start N vs) H _ I hq) (fun fl G p=>?_) fun e G p=>p
 have fin:∀{i:St} {j:Hp} {v:V} {u:Value},Inv (QdB CX P w K D base N d a f g A c s H E) [] i j G->RelV v u->Q v j->CE c P w H s Q u G:=
  fun {i j v u} J L q=>⟨v,j,J.os,J.bare,J.base,J.hok,L,q⟩
 cases fl with
 |ret u=>
  obtain⟨v,i,j,J,L,q⟩:=p;exact fin J L q
 |next=>
  obtain⟨i,j,J,q⟩:=p;exact fin (v:=V.non) (u:=Value.none) J rfl q
 |brk=>
  obtain⟨_,_,_,q⟩:=p;exact False.elim q
 |cont=>
  obtain⟨_,_,_,q⟩:=p;exact False.elim q
end L2

namespace L2
section
variable{X:Cx}{x:Str}{p pos:Pos}{e:Expr}{es:List Expr}{t:TA}{id T:String}{r:List V->Hp->VK->Prop}

noncomputable def tCB(r:List V->Hp->VK->Prop)(t:TA):TE:=fun a H Q=>t a H fun b c=>r b c Q
theorem Qdg(v:CallR X (.builtin id) r)(q:Gl X x)(o:X.mg x=none)(m:bootBuiltins x=some (.builtin id))(w:PA X (e::es) t)(n:x≠"__name__":=by decide)(c:(x==("__debug__":Str))=false:=by decide)
  (u:starEach (e::es) X.env=(false,eval e X.env)::starEach es X.env:=by rfl) (b:(backTo pos (starEach es X.env)).any (·.1)=false:=by rfl):PE X (.Call (.Name x p) (e::es) [] pos) (tCB r t):=by
 intro a s d H Q I h;refine Dr (Vq I q o m ?_ n c);exact Fl (thn (w pos a s d H _ I h) fun g i ⟨f,y,I1,j,l⟩=>v a i d y f g Q I1 j l) u b
theorem G5(v:CallR X (.type T) r)(q:Gl X x)(o:X.mg x=none)(m:bootBuiltins x=some (.type T))(w:PA X (e::es) t)(n:x≠"__name__":=by decide)(c:(x==("__debug__":Str))=false:=by decide)
  (u:starEach (e::es) X.env=(false,eval e X.env)::starEach es X.env:=by rfl) (b:(backTo pos (starEach es X.env)).any (·.1)=false:=by rfl):PE X (.Call (.Name x p) (e::es) [] pos) (tCB r t):=by
 intro a s d H Q I h;refine Dr (Vq I q o m ?_ n c);exact EV (thn (w pos a s d H _ I h) fun g i ⟨f,y,I1,j,l⟩=>v a i d y f g Q I1 j l) u b
end
end L2

namespace HT
open PySem PyProof.Rows

section
open PySem.SeqAt
open PySem.AutoSeq1 (wpAny_loadPart')
open PySem.MeetsSeq PySem.MeetsSeq2 PySem.MeetsSeq3

end

section
variable{prog:Program}{w:World}{A:Around}{E:Value->Shared->Prop}{s:Shared}

theorem cat_tup{t b:Addr}{vs ws:List Value}{Q:Value->Shared->Prop}(r:IsTup s.heap t vs.toArray)(u:IsTup s.heap b ws.toArray)(m:vs≠[])
  (h1:ws=[]->Q (.ref t) s) (v:ws≠[]->Q (.ref s.heap.objs.size) { s with heap:=s.heap.push { cls:=.type "tuple",data:=.seq (vs++ws).toArray } })
  (i:vs.length+ws.length<=sizeLine):wpAny (model prog w) A (binaryOp .Add (.ref t) (.ref b)) Q E s:=by
 obtain⟨⟨cls,p,data,j⟩,h,o,n,hd⟩:=id r;obtain⟨⟨q,g,data2,c⟩,a,f,l,d⟩:=id u;simp only at o hd f d;subst o hd f d;have e:vs.toArray++ws.toArray=(vs++ws).toArray:=by simp
 by_cases hw:ws=[]
 ·exact Yaf ⟨_,h,rfl⟩ ⟨_,a,rfl⟩ LK OX Io Ia (FT _ _)
   (tuple_addW1 t b vs.toArray ws.toArray n l p g j c (by simpa using m) (by simp[hw])) ⟨h,a,h1 hw⟩
 ·refine Yaf ⟨_,h,rfl⟩ ⟨_,a,rfl⟩ LK OX Io Ia (FT _ _)
   (tuple_addW2 t b vs.toArray ws.toArray n l p g j c (by simpa using m) (by simpa using hw) (by rw[Nt,Nt];exact i)) ⟨h,a,?_⟩
  rw[e];exact v hw

noncomputable def sIx(n d:Nat):Option Int->Nat
 |none=>d
 |some v=>if v<0 then(v+(n:Int)).toNat else min v.toNat n
theorem sIx_none(n d:Nat):sIx n d none=d:=rfl
theorem sIx_nat(n d k:Nat):sIx n d (some (k:Int))=min k n:=by
 show(if(k:Int)<0 then((k:Int)+(n:Int)).toNat else min (k:Int).toNat n)=min k n;rw[if_neg (by lia),Ez]
theorem Qig(n d:Nat)(hd:d<=n)(o:Option Int):sIx n d o<=n:=by
 cases o with
 |none=>exact hd
 |some v=>
  show(if v<0 then(v+(n:Int)).toNat else min v.toNat n)<=n
  by_cases a:v<0
  ·rw[if_pos a];lia
  ·rw[if_neg a];exact Dp _ _
theorem QbR(v:Int)(n d:Nat):(if v<0 then max (v+(n:Int)) 0 else min v (n:Int))=((sIx n d (some v):Nat):Int):=by
 show(if v<0 then max (v+(n:Int)) 0 else min v (n:Int))=(((if v<0 then(v+(n:Int)).toNat else min v.toNat n):Nat):Int)
 by_cases a:v<0
 ·simp only[if_pos a];lia
 ·simp only[if_neg a];lia
theorem UM(lo hi:Option Int)(n:Nat):Builtin.Slice.sliceAdjust lo hi 1 (n:Int)=(((sIx n 0 lo:Nat):Int),((sIx n n hi:Nat):Int)):=by
 have a:¬((1:Int)<0):=by exact by decide
 unfold Builtin.Slice.sliceAdjust;simp only[a,if_false];refine Prod.ext ?_ ?_
 ·cases lo with
  |none=>rfl
  |some v=>exact QbR v n 0
 ·cases hi with
  |none=>rfl
  |some v=>exact QbR v n n
theorem Gx(i j:Nat):Builtin.Slice.slicePlaces (i:Int) (j:Int) 1=j-i:=by
 unfold Builtin.Slice.slicePlaces;have a:(1:Int)>0:=by exact by decide
 simp only[a,if_true,Int.ediv_one];split<;>lia
theorem KC{v:Value}{o:Option Int}{Q:Option Int->Shared->Prop}(p:IsPart v o)(h:Q o s):wpAny (model prog w) A (Builtin.Slice.slicePartIndex v) Q E s:=by
 cases p with
 |none=>exact slicePart_none h
 |int i t=>exact slicePart_int h
theorem sliceApplied_gen{e:Addr}{d c:Value}{lo hi:Option Int}{n:Nat}{Q:Int×Int×Nat->Shared->Prop}(i:s.heap.IsSliceOf e d c .none)(g:IsPart d lo)(f:IsPart c hi)
  (h:Q (((sIx n 0 lo:Nat):Int),1,sIx n n hi-sIx n 0 lo) s):wpAny (model prog w) A (Builtin.Slice.sliceApplied (.ref e) (pure (n:Int))) Q E s:=by
 obtain⟨os,a,j,b⟩:=id i;unfold Builtin.Slice.sliceApplied Builtin.Slice.sliceFields;refine Na (Na (FN a b (x:=d) rfl (Na (FN a b (x:=c) rfl (Na (FN a b (x:=.none) rfl (Nj ?_)))))));refine Na (slicePart_none ?_);show wpAny _ _ (if((1:Int)==0)=true then _ else _) _ _ s;rw[if_neg (by decide)];refine Na (KC g (Na (KC f (Na (Nj ?_)))));show wpAny _ _ (match Builtin.Slice.sliceAdjust lo hi 1 (n:Int)with|(lo,hi)=>pure (lo,(1:Int),Builtin.Slice.slicePlaces lo hi 1)) _ _ s;rw[UM lo hi n];show wpAny _ _ (pure (((sIx n 0 lo:Nat):Int),(1:Int),Builtin.Slice.slicePlaces ((sIx n 0 lo:Nat):Int) ((sIx n n hi:Nat):Int) 1)) _ _ s;rw[Gx];exact Nj h
theorem Qcf(xs:Array Value)(i k:Nat):((List.range k).filterMap fun(m:Nat)=>xs[((i:Int)+(m:Int)*1).toNat]?).toArray=((xs.toList.drop i).take k).toArray:=by
 have e:(fun(m:Nat)=>xs[((i:Int)+(m:Int)*1).toNat]?)=fun m=>xs[i+m]?:=by
  funext m;have:((i:Int)+(m:Int)*1).toNat=i+m:=by lia
  rw[this]
 rw[e];have:=pick_run xs i k;rw[List.filterMap_map]at this;have a:((fun x=>xs[x]?)∘fun x=>i+x)=fun m=>xs[i+m]?:=rfl;rw[a]at this;rw[this]

theorem getItem_tuple_cut{t c:Addr}{items:Array Value}{l j:Value}{lo hi:Option Int}{Q:Value->Shared->Prop}(b:IsTup s.heap t items)(n:s.heap.IsSliceOf c l j .none)(r:IsPart l lo)(p:IsPart j hi)
  (hw:¬(sIx items.size 0 lo=0/\sIx items.size items.size hi=items.size))
  (h:Q (.ref s.heap.objs.size) { s with heap:=s.heap.push { cls:=.type "tuple",data:=.seq ((items.toList.drop (sIx items.size 0 lo)).take (sIx items.size items.size hi-sIx items.size 0 lo)).toArray } })
  (d:items.size<=sizeLine):wpAny (model prog w) A (getItem (.ref t) (.ref c)) Q E s:=by
 have a:sizeOk (.seq ((items.toList.drop (sIx items.size 0 lo)).take (sIx items.size items.size hi-sIx items.size 0 lo)).toArray):=by
  show((items.toList.drop (sIx items.size 0 lo)).take (sIx items.size items.size hi-sIx items.size 0 lo)).toArray.size<=sizeLine;rw[Nt,Ed,FI,Nr];exact Nf (Nf (Dp _ _) (ED _ _)) d
 have u:sIx items.size items.size hi<=items.size:=Qig _ _ (Nu _) hi;obtain⟨os,e,g,v⟩:=id n;have i:s.TypeIs (.ref c) "slice":=⟨os,e,g⟩
 unfold getItem
 try with_reducible refine N8 ?_
 first|refine Na (Nj ?_)|skip
 refine Na (Lx b.typeIs (by decide) ?_)
 refine Na (Ey (name:=Str.ofString "__getitem__") b.typeIs EA
  (Ef EA b.typeIs O2 ?_ (args_tuple_getitem _ _)))
 show wpAny _ _ (Builtin.Tuple.tupleItemsOf (.ref t)>>=_) _ _ s;refine Na (tupleItemsOf_ b ?_);refine Na (FU i ?_);rw[if_pos (by decide)];refine Na (sliceApplied_gen n r p ?_)
 have f:¬((((sIx items.size 0 lo:Nat):Int)==0&&(1:Int)==1&&(sIx items.size items.size hi-sIx items.size 0 lo)==items.size)=true):=by
  intro q;rw[NX,NX]at q;have x:((sIx items.size 0 lo:Nat):Int)=0:=DL q.1.1;have o:sIx items.size items.size hi-sIx items.size 0 lo=items.size:=DL q.2;exact hw ⟨by lia,by exact Ek u (Nf (Nq o.symm) (ED _ _))⟩
 show wpAny _ _ (if(((sIx items.size 0 lo:Nat):Int)==0&&(1:Int)==1&&(sIx items.size items.size hi-sIx items.size 0 lo)==items.size)=true then _ else _) _ _ s;rw[if_neg f,Qcf]
 first
  |exact Na (m:=Builtin.Tuple.tupleExact _) (Eh (Nj ⟨_,rfl,Nj h⟩) a)
  |exact Na (m:=Builtin.Tuple.tupleExact _) (Eh (Na (Nj (Nj ⟨_,rfl,Nj h⟩))) a)
  |exact Na (Na (m:=Builtin.Tuple.tupleExact _) (Eh (Nj (Nj ⟨_,rfl,Nj h⟩)) a))
  |exact Na (Na (m:=Builtin.Tuple.tupleExact _) (Eh (Nj ⟨_,rfl,Nj h⟩) a))
end
end HT

namespace L2

noncomputable abbrev TO:=St->Hp->(Option Int->Hp->Prop)->Prop
noncomputable def PO(X:Cx)(e:Option Expr)(t:TO):Prop:=
 ∀(a:List (Addr×Obj)) (s:Shared) (b:St) (H:Hp) (Q:Option Int->Hp->Prop),Inv X a b H s->t b H Q ->
  wpAny (model X.prog X.w) X.A (evalPart e X.env) (fun u d=>∃o c,Inv X a b c d/\IsPart u o/\Q o c) X.xe s
noncomputable def Qf7:TO:=fun _ H Q=>Q none H
noncomputable def QiY(t:TE):TO:=fun a H Q=>t a H fun x b=>∃i,x=.int i/\Q (some i) b

section
variable{X:Cx}{e:Expr}{te:TE}{lo hi:Option Expr}{tl th:TO}{pos p2:Pos}

theorem QfA:PO X none Qf7:=by
 intro a s b H Q I h;rw[evalPart_none];exact Nj ⟨none,H,I,.none,h⟩
theorem Qe8(h:PE X e te):PO X (some e) (QiY te):=by
 intro a s b H Q I hw;rw[evalPart_some];refine thn (h a s b H _ I hw) fun u g ⟨x,f,I1,c,d⟩=>?_;obtain⟨i,rfl,q⟩:=d;obtain⟨t,rfl⟩:=c;exact⟨some i,f,I1,.int i t,q⟩

noncomputable def SlR(X:Cx)(r:V->Option Int->Option Int->Hp->VK->Prop):Prop:=
 ∀(a:List (Addr×Obj)) (s:Shared) (b:St) (H:Hp) (x:V) (v d c:Value) (lo hi:Option Int) (f:Addr) (Q:VK),Inv X a b H s->RelV x v->s.heap.IsSliceOf f d c .none->IsPart d lo->IsPart c hi->r x lo hi H Q ->
  ∃T id,typeLookup (.type T) "__getitem__"=pure (some (.builtin id))/\s.TypeIs v T/\wpAny (model X.prog X.w) X.A (getItem v (.ref f)) (EP X a b Q) X.xe s
theorem SlR.or{r i:V->Option Int->Option Int->Hp->VK->Prop}(h:SlR X r)(h':SlR X i):SlR X (fun x lo hi H Q=>r x lo hi H Q\/i x lo hi H Q):=by
 intro a s b H x v d c lo hi f Q I g m l j q
 rcases q with q|q
 ·exact h a s b H x v d c lo hi f Q I g m l j q
 ·exact h' a s b H x v d c lo hi f Q I g m l j q
noncomputable def tSl(r:V->Option Int->Option Int->Hp->VK->Prop)(te:TE)(tl th:TO):TE:=fun a H Q=>te a H fun x d=>tl a d fun l c=>th a c fun u b=>r x l u b Q
theorem QcU{r:V->Option Int->Option Int->Hp->VK->Prop}(hr:SlR X r)(E:PE X e te)(C:PO X lo tl)(hu:PO X hi th):PE X (.Subscript e (.Slice lo hi none p2) pos) (tSl r te tl th):=by
 intro a s d H Q I h;refine Subscript_ (thn (E a s d H _ I h) fun v j ⟨x,M,I1,m,p⟩=>?_);refine wpAny_Slice (thn (C a j d M _ I1 p) fun f i ⟨l,L,I2,y,o⟩=>thn (hu a i d L _ I2 o) fun vu c ⟨u,g,I3,t,n⟩=>?_);rw[evalPart_none];refine Nj ?_;have I4:Inv X a d g { c with heap:=c.heap.push { cls:=.type "slice",data:=.fields #[f,vu,.none] } }:=I3.kept (t':=c.toks) fun b ob q=>Nn _ q;obtain⟨T,id,G,B,D⟩:=hr a { c with heap:=c.heap.push { cls:=.type "slice",data:=.fields #[f,vu,.none] } } d g x v f vu l u c.heap.objs.size Q I4 m (Heap.IsSliceOf.new ..) y t n;show wpAny (model X.prog X.w) X.A (subscriptTail e (.Slice lo hi none p2) v (.ref c.heap.objs.size)) (EP X a d Q) X.xe { c with heap:=c.heap.push { cls:=.type "slice",data:=.fields #[f,vu,.none] } };exact tail_any (ops:=[.ref c.heap.objs.size,v]) B G D (by with_unfolding_all rfl)

noncomputable def Qdk(xs:List V)(lo hi:Option Int):List V:=(xs.drop (HT.sIx xs.length 0 lo)).take (HT.sIx xs.length xs.length hi-HT.sIx xs.length 0 lo)
theorem XY(xs:List V)(lo hi:Option Int):(Qdk xs lo hi).length<=xs.length:=by
 unfold Qdk;rw[Ed,FI];exact Nf (Dp _ _) (ED _ _)
noncomputable def QlH(K:Nh):V->Option Int->Option Int->Hp->VK->Prop:=fun x lo hi H Q=>∃a b,x=.ref a/\SqT K H a b /\
 ¬(HT.sIx b.length 0 lo=0/\HT.sIx b.length b.length hi=b.length)/\∀p,H p=none->Q (.ref p) (upd H p (.tup (Qdk b lo hi)))
theorem Qid:SlR X (QlH X.K):=by
 intro g s u H x v y w lo hi A Q I l t n m h;obtain⟨a,d,rfl,p,hw,q⟩:=h;cases l;obtain⟨f,r,j,i⟩:=I.tuple p;have c:f.toArray.size=d.length:=by rw[Nt];exact r.length.symm
 refine⟨"tuple",_,EA.lookup,j.typeIs,?_⟩;refine HT.getItem_tuple_cut j t n m (by rw[c];exact hw) ?_ (by rw[c];exact i);rw[c];refine⟨.ref s.heap.objs.size,_,I.laid (t':=s.toks) (o:=.tup (Qdk d lo hi)) (fun b ob q=>Nn _ q) (Nu _) ?_,rfl,q _ (I.hok.fresh (Nu _))⟩;exact⟨Nf (XY d lo hi) i,_,(r.drop (HT.sIx d.length 0 lo)).take (HT.sIx d.length d.length hi-HT.sIx d.length 0 lo),YaR _ _⟩

noncomputable def Qjc(K:Nh):R2:=fun x y H Q=>∃a b d c,x=.ref a/\y=.ref b/\SqT K H a d/\SqT K H b c/\d≠[]/\d.length+c.length<=sizeLine /\
 (c=[]->Q (.ref a) H)/\(c≠[]->∀p,H p=none->Q (.ref p) (upd H p (.tup (d++c))))
theorem Vals.nil_iff{xs:List V}{us:List Value}(r:Vals xs us):us=[]↔xs=[]:=by
 cases r with
 |nil=>simp
 |cons _ _=>simp
theorem QfB:OpR X (binaryOp .Add) (Qjc X.K):=by
 intro f s E H x y v u Q I n m h;obtain⟨a,b,l,j,rfl,rfl,D,C,B,i,r,p⟩:=h;cases n;cases m;obtain⟨A,d,t,_⟩:=I.tuple D;obtain⟨g,c,p2,_⟩:=I.tuple C;refine HT.cat_tup t p2 (fun z=>B (d.nil_iff.mp z)) (fun z=>⟨.ref a,H,I,rfl,r (c.nil_iff.mp z)⟩) (fun z=>?_) (by rw[<-d.length,<-c.length];exact i);refine⟨.ref s.heap.objs.size,_,I.laid (t':=s.toks) (o:=.tup (l++j)) (fun b ob q=>Nn _ q) (Nu _) ?_,rfl,p (fun w=>z (c.nil_iff.mpr w)) _ (I.hok.fresh (Nu _))⟩;exact⟨by rw[Nv];exact i,_,d.append c,YaR _ _⟩
end
end L2

namespace L2

noncomputable def ixN(n:Nat)(i:Int):Option Nat:=if 0<=i then(if i<n then some i.toNat else none)else if -(n:Int)<=i then some (i+n).toNat else none
noncomputable def atI{a:Type}(xs:List a)(i:Int):Option a:=(ixN xs.length i).bind fun j=>xs[j]?
theorem QaA{n:Nat}{i:Int}{j:Nat}(h:ixN n i=some j):seqIndex? i n=some j/\j<n/\-(n:Int)<=i/\i<n:=by
 unfold ixN at h
 by_cases b:0<=i
 ·rw[if_pos b]at h
  by_cases a:i<n
  ·rw[if_pos a]at h;have e:i.toNat=j:=Eg h;exact⟨by rw[seqIndex_of b a,e],by lia,by lia,a⟩
  ·rw[if_neg a]at h;cases h
 ·rw[if_neg b]at h
  by_cases a:-(n:Int)<=i
  ·rw[if_pos a]at h;have e:(i+n).toNat=j:=Eg h;exact⟨by rw[Yag (LC.mp b) a,e],by lia,a,by lia⟩
  ·rw[if_neg a]at h;cases h
theorem Wi{a:Type}{xs:List a}{i:Int}{v:a}(h:atI xs i=some v):∃j,seqIndex? i xs.length=some j/\xs[j]?=some v/\j<xs.length/\-(xs.length:Int)<=i/\i<xs.length:=by
 unfold atI at h;cases e:ixN xs.length i with
 |none=>rw[e]at h;cases h
 |some j=>
  rw[e]at h;obtain⟨f,d,c,b⟩:=QaA e;exact⟨j,f,h,d,c,b⟩
theorem QaI{a:Type}{xs:List a}{j:Nat}{v:a}(h:xs[j]?=some v):atI xs (j:Int)=some v:=by
 have b:j<xs.length:=(Nm.mp h).1
 have e:ixN xs.length (j:Int)=some j:=by
  unfold ixN;rw[if_pos (by lia),if_pos (by lia)];simp
 unfold atI;rw[e];exact h
noncomputable def Qae(b:Expr):Prop:=∀o i,subscripted b false o i=operate [o,i] (getItem o i)
noncomputable def IxR(X:Cx)(r:R2):Prop:=
 ∀(value slice:Expr) (a:List (Addr×Obj)) (s:Shared) (b:St) (H:Hp) (x y:V) (v u:Value) (Q:VK),Inv X a b H s->RelV x v->RelV y u->r x y H Q ->
  subscripted slice false v u=operate [v,u] (getItem v u)->wpAny (model X.prog X.w) X.A (subscriptTail value slice v u) (EP X a b Q) X.xe s
noncomputable def MtR(X:Cx)(id:String)(r:V->List V->Hp->VK->Prop):Prop:=
 ∀(a:List (Addr×Obj)) (s:Shared) (b:St) (H:Hp) (x:V) (c:List V) (v:Value) (d:List Value) (Q:VK),Inv X a b H s->RelV x v->Vals c d->r x c H Q ->
  wpAny (model X.prog X.w) X.A (call (.builtin id) (v::d)) (EP X a b Q) X.xe s
section
variable{X:Cx}{a b:Expr}{ta tb:TE}{pos:Pos}
theorem IxR.or{r g:R2}(h:IxR X r)(h':IxR X g):IxR X (fun x y H Q=>r x y H Q\/g x y H Q):=by
 intro value slice c s d H x y v u Q I f e q i
 rcases q with q|q
 ·exact h value slice c s d H x y v u Q I f e q i
 ·exact h' value slice c s d H x y v u Q I f e q i
theorem Qjh{r:R2}(hr:IxR X r)(l:PE X a ta)(j:PE X b tb)(i:Qae b):PE X (.Subscript a b pos) (tOp r ta tb):=by
 intro c s d H Q I h;exact Subscript_ (QjF l j I h fun v u e x y m I2 g f q=>hr a b c e d m x y v u Q I2 g f q (i _ _))

noncomputable def Qkd(K:Nh):R2:=fun x y H Q=>∃p c i v,x=.ref p/\y=.int i/\SqL K H p c/\atI c i=some v/\Q v H
noncomputable def Qkc(K:Nh):R2:=fun x y H Q=>∃p c i v,x=.ref p/\y=.int i/\SqT K H p c/\atI c i=some v/\Q v H
noncomputable def QkL:R2:=fun x y H Q=>∃z i c,x=.str z/\y=.int i/\z.length<=sizeLine/\atI z.cps.toList i=some c/\Q (.str ⟨#[c]⟩) H
theorem ix_list:IxR X (Qkd X.K):=by
 intro value slice c s n H x y v u Q I D C h o;obtain⟨p,P,i,z,rfl,rfl,E,L,q⟩:=h;cases D;obtain⟨t,rfl⟩:=C;obtain⟨l,r,g,S⟩:=I.list E;obtain⟨j,d,O,Y,N,M⟩:=Wi L;obtain⟨w,A,f⟩:=r.get O;have G:=r.length;have U:=Kb;have fin:EP X c n Q w s:=⟨z,H,I,f,q⟩
 by_cases e:0<=i
 ·have m:i.toNat=j:=by
   rw[seqIndex_of e M]at d;exact Eg d
  exact item_listR g.isList e (by lia) (by rw[m];simpa using A) fin o
 ·have m:(i+(l.toArray.size:Int)).toNat=j:=by
   rw[Yag (LC.mp e) N]at d;rw[Nt,<-G];exact Eg d
  exact Oc (x:=w) g.isList.typeIs slot_list_getitem.lookup
   (wpAny_getItem_list_neg (Q:=fun r B=>r=w/\EP X c n Q r B) g.isList (LC.mp e) (by rw[Nt]<;>lia) (by lia) (by rw[m];simpa using A) ⟨rfl,fin⟩) o
theorem ix_tup:IxR X (Qkc X.K):=by
 intro value slice c s e H x y v u Q I m l h o;obtain⟨p,L,i,z,rfl,rfl,A,C,q⟩:=h;cases m;obtain⟨t,rfl⟩:=l;obtain⟨n,r,f,M⟩:=I.tuple A;obtain⟨j,E,D,S,P,O⟩:=Wi C;obtain⟨w,G,d⟩:=r.get D;have B:=r.length;have N:=Kb;have fin:EP X c e Q w s:=⟨z,H,I,d,q⟩
 exact Oc (x:=w) f.typeIs EA.lookup
  (getItem_tuple (j:=j) (Q:=fun r g=>r=w/\EP X c e Q r g) f (by lia) (by lia) (by rw[Nt,<-B];exact E) (by simpa using G) ⟨rfl,fin⟩) o
theorem QgO:IxR X QkL:=by
 intro value slice d s B H x y v u Q I g f h l;obtain⟨z,i,c,rfl,rfl,D,n,q⟩:=h;obtain⟨t,rfl⟩:=g;obtain⟨C,rfl⟩:=f;obtain⟨j,e,r,G,p,o⟩:=Wi n;have m:z.cps.toList.length=z.length:=by simp[Str.length]
 rw[m]at e p o;have E:=Kb
 exact tail_any (typeIs_str s z t) slot_str_getitem.lookup (getItem_str (c:=c) (by
  have A:decide (i < -(2^63:Int))=false:=decide_eq_false (by lia);have w:decide (i >= 2^63)=false:=decide_eq_false (by lia)
  rw[A,w,OY]) (by rw[e];simpa using r) ⟨.str ⟨#[c]⟩,H,I.tok _,⟨_,rfl⟩,q⟩) l
noncomputable def rIx(K:Nh):R2:=fun x y H Q=>Qkd K x y H Q\/Qkc K x y H Q\/QkL x y H Q
theorem QhA:IxR X (rIx X.K):=ix_list.or (ix_tup.or QgO)

theorem Gi(c:List Value)(n j:Nat)(u:Value):Obj.mapSeq (·.setIfInBounds j u) { cls:=.type "list",data:=.seq c.toArray n }={ cls:=.type "list",data:=.seq (c.set j u).toArray n }:=by
 simp[Obj.mapSeq]
theorem Inv.lst{d:List (Addr×Obj)}{σ:St}{H:Hp}{s:Shared}{p:Addr}{xs:List V}(I:Inv X d σ H s)(h:H p=some (.lst xs)) :
  ∃(c:List Value) (n:Nat),Vals xs c/\s.heap.get? p=some { cls:=.type "list",data:=.seq c.toArray n }/\xs.length<=sizeLine:=by
 obtain⟨z,c,n,r,e⟩:=I.hok p _ h;exact⟨c,n,r,e,z⟩
theorem Inv.lstUpd{c:List (Addr×Obj)}{σ:St}{H:Hp}{s:Shared}{p:Addr}{xs g:List V}{d its':List Value}{n i:Nat}{f:Obj->Obj}(I:Inv X c σ H s)(h:H p=some (.lst xs))
  (m:s.heap.get? p=some { cls:=.type "list",data:=.seq d.toArray n }) (j:f { cls:=.type "list",data:=.seq d.toArray n }={ cls:=.type "list",data:=.seq its'.toArray i }) (r:Vals g its') (l:g.length<=sizeLine) (t:Nat) :
  Inv X c σ (upd H p (.lst g)) { s with heap:=s.heap.update p f,toks:=t }:=by
 have e:(s.heap.update p f).get? p=some { cls:=.type "list",data:=.seq its'.toArray i }:=by
  rw[Ei f m (by rw[j]<;>rfl),j]
 refine I.write (x:=p) (e:=p) (by rw[h];trivial) (.inl rfl) (fun b u o q=>(EF _ _ (DH o)).trans q) ⟨_,e⟩ ?_;exact⟨l,its',i,r,e⟩
noncomputable def Qg8:V->V->V->Hp->(Hp->Prop)->Prop:=fun o i v H Q=>∃p c k j,o=.ref p/\i=.int k/\H p=some (.lst c)/\ixN c.length k=some j/\Q (upd H p (.lst (c.set j v)))
theorem set_list:QkS X Qg8:=by
 intro c s A H o i v M N u Q I D E C h;obtain⟨p,B,k,j,rfl,rfl,w,L,q⟩:=h;cases D;obtain⟨t,rfl⟩:=E;obtain⟨d,n,r,g,G⟩:=I.lst w;obtain⟨e,P,y,x⟩:=QaA L;have l:=r.length;have O:=Kb
 have z:Inv X c A (upd H p (.lst (B.set j v))) { s with heap:=s.heap.update p (Obj.mapSeq (·.setIfInBounds j u)) }:=
  I.lstUpd w g (Gi d n j u) (r.set C j) (by rw[DO];exact G) s.toks
 by_cases f:0<=k
 ·have m:k.toNat=j:=by
   rw[seqIndex_of f x]at e;exact Eg e
  exact PySem.W.ki_setAt g f (by lia) (by rw[Nt,<-l];exact x) (by rw[m];exact⟨_,z,q⟩)
 ·have m:(k+(d.toArray.size:Int)).toNat=j:=by
   rw[Yag (LC.mp f) y]at e;rw[Nt,<-l];exact Eg e
  exact PySem.W.ki_setBack g (LC.mp f) (by rw[Nt,<-l];exact y) (by lia) (by rw[m];exact⟨_,z,q⟩)

theorem YL(lo hi:Option Int)(n:Nat):(sliceBounds lo hi none n).1=((HT.sIx n 0 lo:Nat):Int)/\(sliceBounds lo hi none n).2.1=((HT.sIx n n hi:Nat):Int)/\(sliceBounds lo hi none n).2.2=1:=by
 refine⟨?_,?_,rfl⟩
 ·cases lo with
  |none=>simp[sliceBounds,HT.sIx]
  |some i=>
   simp only[sliceBounds,HT.sIx,YaD,show(1:Int)>0 by decide,if_true]
   by_cases h:i<0
   ·simp only[h,if_true]<;>lia
   ·simp only[h,if_false]<;>lia
 ·cases hi with
  |none=>simp[sliceBounds,HT.sIx]
  |some i=>
   simp only[sliceBounds,HT.sIx,YaD,show(1:Int)>0 by decide,if_true]
   by_cases h:i<0
   ·simp only[h,if_true]<;>omega
   ·simp only[h,if_false]<;>omega
theorem K9(c:List Value)(lo hi:Option Int):slicePick c.toArray lo hi none=((c.drop (HT.sIx c.length 0 lo)).take (HT.sIx c.length c.length hi-HT.sIx c.length 0 lo)).toArray:=by
 obtain⟨f,e,d⟩:=YL lo hi c.toArray.size;unfold slicePick;rw[f,e,d];simp only[sliceRange_one,pick_run,Nt]<;>rfl
noncomputable def QlK(K:Nh):V->Option Int->Option Int->Hp->VK->Prop:=fun x lo d H Q=>∃a c,x=.ref a/\SqL K H a c/\∀p,H p=none->Q (.ref p) (upd H p (.lst (Qdk c lo d)))
theorem sl_list:SlR X (QlK X.K):=by
 intro f s u H x v y w lo e A Q I j t m l h;obtain⟨a,d,rfl,p,q⟩:=h;cases j;obtain⟨n,r,i,g⟩:=I.list p;have c:=r.length;refine⟨"list",_,slot_list_getitem.lookup,i.isList.typeIs,?_⟩;refine wpAny_getItem_list_slice i.isList t m l .none (by simp) ?_ (by rw[Nt]<;>exact Nf (Nq c.symm) g);rw[K9,<-c];refine⟨.ref s.heap.objs.size,_,I.laid (t':=s.toks) (o:=.lst (Qdk d lo e)) (fun b ob q=>Nn _ q) (Nu _) ?_,rfl,q _ (I.hok.fresh (Nu _))⟩;exact⟨Nf (XY d lo e) g,_,0,(r.drop (HT.sIx d.length 0 lo)).take (HT.sIx d.length d.length e-HT.sIx d.length 0 lo),NA _ rfl⟩

noncomputable def QfL:V->Bool
 |.non=>true
 |.bl _=>true
 |.int _=>true
 |.str _=>true
 |_=>false
noncomputable def eqV:V->V->Bool
 |.non,.non=>true
 |.bl a,.bl b=>a==b
 |.bl a,.int b=>(if a then 1 else 0)==b
 |.int a,.bl b=>a==(if b then 1 else 0)
 |.int a,.int b=>a==b
 |.str a,.str b=>a==b
 |_,_=>false
theorem Qhk{A:Around}{s:Shared}{y x:V}{u v:Value}(e:RelV y u)(c:RelV x v)(g:QfL y=true)(f:QfL x=true):SeqAt.EqAt A s u v (eqV y x):=by
 cases y with
 |non=>
  cases e;cases x with
  |non=>cases c;exact SeqAt.EqAt.same _
  |bl b=>cases c;exact SeqAt.EqAt.none_bool b
  |int b=>obtain⟨t,rfl⟩:=c;exact SeqAt.EqAt.none_int b t
  |str b=>obtain⟨t,rfl⟩:=c;exact SeqAt.EqAt.none_str b t
  |_=>exact absurd (show false=true from f) Eb
 |bl a=>
  cases e;cases x with
  |non=>cases c;exact SeqAt.EqAt.bool_none a
  |bl b=>cases c;exact SeqAt.EqAt.bool_bool a b
  |int b=>obtain⟨t,rfl⟩:=c;exact SeqAt.EqAt.bool_int a b t
  |str b=>obtain⟨t,rfl⟩:=c;exact SeqAt.EqAt.bool_str a b t
  |_=>exact absurd (show false=true from f) Eb
 |int a=>
  obtain⟨d,rfl⟩:=e;cases x with
  |non=>cases c;exact SeqAt.EqAt.int_none a d
  |bl b=>cases c;exact SeqAt.EqAt.int_bool a d b
  |int b=>obtain⟨t,rfl⟩:=c;exact SeqAt.EqAt.int_int a d b t
  |str b=>obtain⟨t,rfl⟩:=c;exact Yac a d b t
  |_=>exact absurd (show false=true from f) Eb
 |str a=>
  obtain⟨d,rfl⟩:=e;cases x with
  |non=>cases c;exact SeqAt.EqAt.str_none a d
  |bl b=>cases c;exact SeqAt.EqAt.str_bool a d b
  |int b=>obtain⟨t,rfl⟩:=c;exact Yad a d b t
  |str b=>obtain⟨t,rfl⟩:=c;exact SeqAt.EqAt.str_str a d b t
  |_=>exact absurd (show false=true from f) Eb
 |_=>exact absurd (show false=true from g) Eb
theorem call_len_seq:CallR X (.builtin "len") (fun xs H Q=>∃p d,xs=[.ref p]/\(SqL X.K H p d\/SqT X.K H p d)/\Q (.int d.length) H):=by
 intro j s n H xs o Q I r h;obtain⟨p,d,rfl,e,q⟩:=h;obtain⟨u,rfl,l⟩:=Xb r;cases l;have t:=Kb
 rcases e with e|e
 ·obtain⟨i,f,g,m⟩:=I.list e;have c:=f.length;exact Calls.call_len_list g.isList (by simp only[Nt]<;>lia) ⟨.int d.length,H,I.tok _,⟨s.toks+1,by rw[Nt,c]⟩,q⟩
 ·obtain⟨i,f,g,m⟩:=I.tuple e;have c:=f.length;exact len_tuple g (by simp only[Nt]<;>omega) ⟨.int d.length,H,I.tok _,⟨s.toks+1,by rw[Nt,c]⟩,q⟩
theorem Y2:CallR X (.builtin "len") (fun xs H Q=>∃z,xs=[.str z]/\z.length<=sizeLine/\Q (.int z.length) H):=by
 intro c s d H xs e Q I r h;obtain⟨z,rfl,f,q⟩:=h;obtain⟨u,rfl,t,rfl⟩:=Xb r;have g:=Kb;exact len_str (by lia) ⟨.int z.length,H,I.tok _,⟨_,rfl⟩,q⟩
theorem CallR.or{f:Value}{r i:List V->Hp->VK->Prop}(h:CallR X f r)(h':CallR X f i):CallR X f (fun xs H Q=>r xs H Q\/i xs H Q):=by
 intro c s d H xs e Q I g q
 rcases q with q|q
 ·exact h c s d H xs e Q I g q
 ·exact h' c s d H xs e Q I g q
theorem Xk:CallR X (.type "list") (fun xs H Q=>∃p g,xs=[.ref p]/\(SqL X.K H p g\/SqT X.K H p g)/\∀l,H l=none->Q (.ref l) (upd H l (.lst g))):=by
 intro t s C H xs E Q I r h;obtain⟨p,g,rfl,x,q⟩:=h;obtain⟨u,rfl,D⟩:=Xb r;cases D
 have fin:∀(c:List Value),Vals g c->g.length<=sizeLine->∀(f:Heap) (m:Nat),(∀b B,s.heap.get? b=some B->f.get? b=some B) ->
   f.get? s.heap.objs.size=some { cls:=.type "list",dict:=none,data:=.seq c.toArray m,slots:=#[] }->EP X t C Q (.ref s.heap.objs.size) { s with heap:=f }:=fun c i j f m v e=>
  ⟨.ref s.heap.objs.size,_,I.laid (t':=s.toks) v (Nu _) (show ObjOk X.prog X.w _ f _ (.lst g)from⟨j,c,m,i,e⟩),rfl,q _ (I.hok.fresh (Nu _))⟩
 rcases x with x|x
 ·obtain⟨c,i,y,j⟩:=I.list x;have d:=i.length;obtain⟨o,z,A,n,hd⟩:=y.isList;exact call_list_seq p (.inl rfl) z A hd (fun f m v e=>fin c i j f m v e) (by simp only[Nt]<;>exact Nf (Nq d.symm) j)
 ·obtain⟨c,i,y,j⟩:=I.tuple x;have d:=i.length;obtain⟨o,z,A,n,hd⟩:=y;exact call_list_seq p (.inr rfl) z A hd (fun f m v e=>fin c i j f m v e) (by simp only[Nt]<;>exact Nf (Nq d.symm) j)
theorem Yh:CallR X (.type "tuple") (fun xs H Q=>∃p f,xs=[.ref p]/\((SqL X.K H p f/\∀l,H l=none->Q (.ref l) (upd H l (.tup f)))\/(SqT X.K H p f/\Q (.ref p) H))):=by
 intro c s v H xs A Q I r h;obtain⟨p,f,rfl,h⟩:=h;obtain⟨u,rfl,y⟩:=Xb r;cases y
 rcases h with⟨t,q⟩|⟨t,q⟩
 ·obtain⟨d,j,m,n⟩:=I.list t;have g:=j.length;refine call_tuple_list m.isList (fun i z=>?_) (by simp only[Nt]<;>exact Nf (Nq g.symm) n);have I1:Inv X c v H { s with heap:=i }:=I.kept (t':=s.toks) z
  have I2:Inv X c v (upd H i.objs.size (.tup f)) { s with heap:=i.push { cls:=.type "tuple",data:=.seq d.toArray } }:=
   I1.laid (t':=s.toks) (fun b o e=>Nn _ e) (Nu _) (show ObjOk X.prog X.w _ _ _ (.tup f)from⟨n,d,j,YaR _ _⟩)
  exact⟨.ref i.objs.size,_,I2,rfl,q _ (I1.hok.fresh (Nu _))⟩
 ·obtain⟨d,j,m,n⟩:=I.tuple t;exact call_tuple_same m ⟨.ref p,H,I,rfl,q⟩

noncomputable def tyV(K:Nh)(T:String)(x:V)(H:Hp):Prop:=match x with
 |.str _=>T="str"
 |.int _=>T="int"
 | .ref p=>(T="list"/\∃d,SqL K H p d)\/(T="tuple"/\∃o,K.lookup p=some o/\o.cls=.type "tuple"/\o.dict=none) \/
   (T="dict"/\((∃c,H p=some (.dK c))\/∃c,H p=some (.dT c)))\/(T="set"/\∃S n,H p=some (.set S n))
 |_=>False
theorem QdV{g:List (Addr×Obj)}{σ:St}{H:Hp}{s:Shared}{T:String}{x:V}{v:Value}(I:Inv X g σ H s)(r:RelV x v)(ty:tyV X.K T x H) :
  s.TypeIs v T/\∀a,v=.ref a->∃ob,s.heap.get? a=some ob/\ob.dict=none:=by
 cases x with
 |str z=>
  obtain⟨t,rfl⟩:=r;cases(show T="str"from ty);exact⟨typeIs_str s z t,fun _ e=>nomatch e⟩
 |int i=>
  obtain⟨t,rfl⟩:=r;cases(show T="int"from ty);exact⟨typeIs_int s i t,fun _ e=>nomatch e⟩
 | ref p=>
  cases r
  rcases ty with⟨rfl,w,q⟩|⟨rfl,o,d,u,hd⟩|⟨rfl,d⟩|⟨rfl,S,n,d⟩
  ·obtain⟨m,_,l,_⟩:=I.list q;refine⟨l.isList.typeIs,fun a e=>?_⟩;cases e;obtain⟨o,n,e,c,hd,_⟩:=l;exact⟨o,e,hd⟩
  ·refine⟨⟨o,I.kIn p o d,u⟩,fun a e=>?_⟩;cases e;exact⟨o,I.kIn _ o d,hd⟩
  ·have z:∃o,s.heap.get? p=some o/\o.ExactDict:=by
    rcases d with⟨h,d⟩|⟨h,d⟩
    ·obtain⟨_,_,_,_,o,_,_,e,f,_⟩:=I.hok p _ d;exact⟨o,e,f⟩
    ·obtain⟨_,_,_,_,o,_,_,e,f,_⟩:=I.hok p _ d;exact⟨o,e,f⟩
   obtain⟨o,e,f⟩:=z;refine⟨⟨o,e,f.1⟩,fun a j=>?_⟩;cases j;exact⟨o,e,f.2.1⟩
  ·obtain⟨o,_,_,_,e,f,_⟩:=I.hok p _ d;refine⟨⟨o,e,f.1⟩,fun a j=>?_⟩;cases j;exact⟨o,e,f.2.1⟩
 |_=>exact False.elim ty
noncomputable def Qk9(K:Nh)(T:String)(r:V->List V->Hp->VK->Prop)(e:TE):TE:=fun d H Q=>e d H fun x c=>tyV K T x c/\r x [] c Q
noncomputable def tBM(K:Nh)(T:String)(r:V->List V->Hp->VK->Prop)(f:TE)(t:TA):TE:=fun c H Q=>f c H fun x d=>tyV K T x d/\t c d fun e g=>r x e g Q
variable{o e:Expr}{es:List Expr}{to:TE}{t:TA}{name:Str}{apos cpos:Pos}{T id:String}{r:V->List V->Hp->VK->Prop}
theorem Qhj(n:PlainAttrs T)(slot:Slot T name id)(g:typeOf (.builtin id)=pure (.type "method_descriptor"))(q:MtR X id r)(p:PE X o to)
  (f:attributeBase o name X.env (eval o X.env)=eval o X.env:=by rfl) (d:(apos.endLine==cpos.line)=true:=by rfl):PE X (.Call (.Attribute o name apos) [] [] cpos) (Qk9 X.K T r to):=by
 intro c s i H Q I h;refine wpAny_Call_method0_late f d (thn (p c s i H _ I h) fun v l ⟨x,y,I1,j,ty,m⟩=>?_);obtain⟨w,u⟩:=QdV I1 j ty;exact⟨T,id,n,slot,g,w,u,Od rfl (PySem.evalArgs_none (q c l i y x [] v [] Q I1 j .nil m))⟩
theorem QjV(B:PlainAttrs T)(slot:Slot T name id)(l:typeOf (.builtin id)=pure (.type "method_descriptor"))(E:MtR X id r)(D:PE X o to)(G:PA X (e::es) t)
  (g:attributeBase o name X.env (eval o X.env)=eval o X.env:=by rfl)
  (i:((backTo cpos (starEach (e::es) X.env)).all (fun x=>!x.1)&&(backToKw cpos (keywordEach [] X.env)).all (fun x=>x.1.isSome)
   && decide ((e::es).length+([]:List Keyword).length+(if([]:List Keyword).isEmpty then 0 else 1)<30))=true:=by rfl)
  (f:(apos.endLine==cpos.line)=true:=by rfl) (C:starEach (e::es) X.env=(false,eval e X.env)::starEach es X.env:=by rfl) (d:(backTo cpos (starEach es X.env)).any (·.1)=false:=by rfl) :
  PE X (.Call (.Attribute o name apos) (e::es) [] cpos) (tBM X.K T r to t):=by
 intro c s j H Q I h;refine wpAny_Call_method_late g i f rfl (thn (D c s j H _ I h) fun v w ⟨x,O,I1,m,ty,A⟩=>?_);obtain⟨M,L⟩:=QdV I1 m ty;refine⟨T,id,B,slot,l,M,L,?_⟩;have n:=G cpos c w j O _ I1 A;rw[C]at n ⊢;refine Od (by show(false ||(backTo cpos (starEach es X.env)).any (·.1))=false;rw[d]<;>rfl) (Calls.evalArgs_plain ?_);exact thn n fun q u ⟨p,N,I2,y,z⟩=>E c u j N x p v q Q I2 m y z
end
end L2

namespace L2

noncomputable def MtM(X:Cx)(id:String)(r:V->List V->Hp->VK->Prop):Prop:=
 ∀(a:List (Addr×Obj)) (s:Shared) (b:St) (H:Hp) (x:V) (c:List V) (v:Value) (d:List Value) (Q:VK),Inv X a b H s->RelV x v->Vals c d->r x c H Q ->
  wpAny (model X.prog X.w) X.A (call (.builtin id) (v::d)) (EP X a b Q) X.xe s

theorem Vals.one:∀{x:V} {us:List Value},Vals [x] us->∃u,us=[u]/\RelV x u
 |_,_,.cons r .nil=>⟨_,rfl,r⟩
theorem Vals.zero:∀{us:List Value},Vals [] us->us=[]
 |_,.nil=>rfl
theorem Vals.dropLast{xs:List V}{us:List Value}(h:Vals xs us):Vals xs.dropLast us.dropLast:=by
 induction h with
 |nil=>exact .nil
 |cons r t a=>
  cases t with
  |nil=>exact .nil
  |cons q b=>exact .cons r a
theorem Vals.eraseIdx:∀{xs:List V} {us:List Value} (i:Nat),Vals xs us->Vals (xs.eraseIdx i) (us.eraseIdx i)
 |_,_,_,.nil=>.nil
 |_,_,0,.cons _ t=>t
 |_,_,i+1,.cons r t=>.cons r (Vals.eraseIdx i t)
theorem Gf{c:Type}(l:List c):l.eraseIdx (l.length-1)=l.dropLast:=by
 induction l with
 |nil=>rfl
 | cons a r d=>
  cases r with
  |nil=>rfl
  | cons b r=>
   have e:(a::b::r).length-1=((b::r).length-1)+1:=by
    have g:(a::b::r).length=r.length+2:=rfl;have f:(b::r).length=r.length+1:=rfl;exact rfl
   rw[e,List.eraseIdx_cons_succ,d]
   all_goals rfl
section
variable{X:Cx}{pins:List (Addr×Obj)}{σ:St}{H:Hp}{s:Shared}{l b:Addr}{xs ys zs:List V}

theorem Inv.lset{a its':List Value}{n:Nat}{f:Array Value->Array Value}{t':Nat}(I:Inv X pins σ H s)(i:H l=some (.lst xs))
  (e:s.heap.get? l=some { cls:=.type "list",data:=.seq a.toArray n }) (g:f a.toArray=its'.toArray) (d:Vals ys its') (c:ys.length<=sizeLine) :
  Inv X pins σ (upd H l (.lst ys)) { s with heap:=s.heap.update l (Obj.mapSeq f),toks:=t' }:=by
 have q:=YaE e f;rw[g]at q;refine I.write (x:=l) (e:=l) (by rw[i];exact trivial) (.inl rfl) (fun j u h hu=>(EF s.heap (Obj.mapSeq f) (DH h)).trans hu) ⟨_,q⟩ ?_;exact⟨c,its',_,d,q⟩
theorem Inv.lnew{a:List Value}{t':Nat}(I:Inv X pins σ H s)(c:Vals ys a)(hz:ys.length<=sizeLine) :
  Inv X pins σ (upd H s.heap.objs.size (.lst ys)) { s with heap:=s.heap.push { cls:=.type "list",data:=.seq a.toArray },toks:=t' }:=
 I.laid (fun _ _ q=>Nn _ q) (Nu _) ⟨hz,a,0,c,NA _ rfl⟩
theorem Inv.fresh(I:Inv X pins σ H s):H s.heap.objs.size=none:=I.hok.fresh (Nu _)
theorem Inv.lstM(I:Inv X pins σ H s)(c:H l=some (.lst xs)):xs.length<=sizeLine/\∃(a:List Value) (n:Nat),Vals xs a/\xs.length=a.length/\s.heap.get? l=some { cls:=.type "list",data:=.seq a.toArray n }:=by
 obtain⟨z,a,n,r,e⟩:=I.hok l _ c;exact⟨z,a,n,r,r.length,e⟩

theorem UC{n:Nat}(h:n<=sizeLine):Builtin.List.listTooLong n=false:=by
 unfold Builtin.List.listTooLong;exact decide_eq_false (NQ.mpr h)
end

section
variable{X:Cx}

noncomputable def QfH:V->List V->Hp->VK->Prop:=fun x b H Q=>∃l a y,x=.ref l/\b=[y]/\H l=some (.lst a)/\a.length<sizeLine/\Q .non (upd H l (.lst (a++[y])))
theorem Qaj:MtM X "list.append" QfH:=by
 intro b s o H x t v w Q I g i h;obtain⟨l,p,y,rfl,rfl,f,d,q⟩:=h;cases g;obtain⟨u,rfl,j⟩:=i.one;obtain⟨z,a,n,r,m,e⟩:=I.lstM f;refine FJ IH ⟨_,e,rfl⟩ O3 (OH _ _) (Yas l a.toArray n u (by rw[Nt];exact Nl (Nd (Nq m.symm) d))) ⟨e,?_⟩;refine⟨.non,_,I.lset (its':=a++[u]) f e (by simp) (r.append (.cons j .nil)) ?_,rfl,q⟩;rw[Nv,Ec];exact d

noncomputable def QfJ:V->List V->Hp->VK->Prop:=fun x d H Q=>∃l b c a,x=.ref l/\d=[.ref b]/\H l=some (.lst c)/\H b=some (.lst a)/\c.length+a.length<=sizeLine/\Q .non (upd H l (.lst (c++a)))
theorem Qad:MtM X "list.extend" QfJ:=by
 intro g s E H x N v O Q I m o h;obtain⟨l,b,M,G,rfl,rfl,j,C,y,q⟩:=h;cases m;obtain⟨u,rfl,p⟩:=o.one;cases p;obtain⟨z,c,n,r,B,e⟩:=I.lstM j;obtain⟨L,a,w,t,A,D⟩:=I.lstM C;have f:c.toArray.size+a.toArray.size<=sizeLine:=by rw[Nt,Nt];lia
 have d:¬(!c.toArray.isEmpty&&Builtin.List.listTooLong (c.toArray.size+a.toArray.size))=true:=by
  rw[UC f,D3];exact Eb
 refine FJ DM ⟨_,e,rfl⟩ O4 (OI _ _)
  (AutoSeq1.list_extend_list_list_0 l c.toArray n b a.toArray w d (by rw[Nt];exact Nf (Nq B.symm) z) (Nf f (Np _ _))) ⟨e,D,?_⟩
 refine⟨.non,_,I.lset (its':=c++a) j e (by simp) (r.append t) ?_,rfl,q⟩;rw[Nv];exact y

noncomputable def Ql3:V->List V->Hp->VK->Prop:=fun x b H Q=>∃l a y,x=.ref l/\b=[]/\H l=some (.lst a)/\a[a.length-1]?=some y/\Q y (upd H l (.lst a.dropLast))
theorem Qie:MtM X "list.pop" Ql3:=by
 intro d s t H x A v B Q I j m h;obtain⟨l,w,y,rfl,rfl,i,p,q⟩:=h;cases j;have c:=m.zero;subst c;obtain⟨z,a,n,r,g,e⟩:=I.lstM i;obtain⟨u,hu,o⟩:=r.get p
 have b:a.toArray[a.toArray.size-1]?=some u:=by
  show a.toArray[a.length-1]?=some u;rw[<-NH,<-g];exact hu
 refine FJ Yah ⟨_,e,rfl⟩ F.entry_list_pop (F.args_list_pop_1 _) (MeetsSeq.list_pop_last l a.toArray n u b (by rw[Nt];exact Nf (Nq g.symm) z)) ⟨e,?_⟩;refine⟨y,_,I.lset (its':=a.dropLast) i e ?_ r.dropLast ?_,o,q⟩
 ·show a.toArray.eraseIdxIfInBounds (a.toArray.size-1)=a.dropLast.toArray;rw[Nt,List.eraseIdxIfInBounds_toArray,Gf]
 ·rw[List.length_dropLast];exact Nf (ED _ _) z

noncomputable def QlG:R2:=fun x y H Q=>∃l b c a,x=.ref l/\y=.ref b/\H l=some (.lst c)/\H b=some (.lst a)/\c.length+a.length<=sizeLine/\∀p,H p=none->Q (.ref p) (upd H p (.lst (c++a)))
theorem Qix:OpR X (binaryOp .Add) QlG:=by
 intro d s A H x y v u Q I g f h;obtain⟨l,b,D,B,rfl,rfl,o,p,j,q⟩:=h;cases g;cases f;obtain⟨z,c,n,r,L,e⟩:=I.lstM o;obtain⟨C,a,G,i,m,w⟩:=I.lstM p;refine PySem.P.add_list e w ?_ (by rw[Nt,Nt];omega);have t:c.toArray++a.toArray=(c++a).toArray:=by simp
 rw[t];exact⟨.ref _,_,I.lnew (t':=s.toks) (r.append i) (by rw[Nv];exact j),rfl,q _ I.fresh⟩
end

section
variable{prog:Program}{w:World}{A:Around}{E:Value->Shared->Prop}{s:Shared}
end

section
variable{X:Cx}
end
end L2

namespace Att
open PySem PySem.W PySem.Calls PyProof.Rows

theorem Ka{P:Params}{h:Heap}:∀(ns:List Int) (vs:List Value),WellAll P h vs (ns.map WData.int)->IntsAre vs ns:=by
 intro ns
 induction ns with
 |nil=>
  intro vs w;rw[FV]at w;cases w;exact .nil
 | cons n ns c=>
  intro vs w;rw[NC]at w;cases w with
  |cons a b=>
   cases a;exact .cons _ _ (c _ b)

theorem Qak{l:OpenLaw}{n:Nat}(u:l.most=some n){P:Params}{h:Heap}{args:List WData}{vals:List Value}
  (b:l.row.toRowW.claim.pre args=true) (i:WellAll P h vals args) :
  ∃a vs ns,vals=[Value.ref a]/\args=[WData.list (ns.map WData.int)]/\h.get? a=some { cls:=.type "list",data:=.seq vs.toArray }/\IntsAre vs ns/\ns.length<=n:=by
 have j:WShape.hasAll [] args [.list .int]=true:=(pre_splitW b).1;have m:l.pre.holds [] { args:=args }=true:=(pre_splitW b).2;obtain⟨d,r,rfl,x,w⟩:=hasAllW_cons j;obtain rfl:=hasAllW_nil w;obtain⟨y,rfl,v⟩:=hasW_list x;obtain⟨ns,rfl⟩:=items_int v
 have c:ns.length<=n:=by
  unfold OpenLaw.pre at m
  have g:(WTm.not (.lt (.lit (.int (n:Int))) (.len (.arg 0)))).holds [] { args:=[.list (ns.map .int)] }=true:=by
   have g:=(holds_andW m).1;rw[u]at g;exact g
  have f:=condW_of g (w_not (w_lt w_lit (w_len_list (w_arg rfl))));rw[Ny]at f;refine Nat.le_of_not_lt fun q=>?_;have s:(n:Int)<((ns.length:Nat):Int):=by omega
  first
   |(rw[decide_eq_true s]at f;exact absurd f (by decide))
   |(simp at f;omega)
 cases i with
 |cons p o=>
  cases o;cases p with
  |list t e=>exact⟨_,_,ns,rfl,rfl,t,Ka ns _ e,c⟩

theorem GJ(l:OpenLaw)(args:List WData):l.row.toRowW.claim.post args (.bool true) args=true:=
 postW_of (r:=l.row.toRowW) (X:=(true==true))
  (show WShape.has [] (.bool true) .bool=true by first|rfl|decide|simp[WShape.has,WShape.arms,WShape.armsAll])
  (show(WTm.eq .res (.lit (.bool true))).value [] { args:=args,res:=some (.bool true),after:=args }=some (.bool (true==true))from w_eq_bool (w_res rfl) w_lit) rfl

theorem attach_call{l:OpenLaw}{n:Nat}{q:Program}{e:List Str}{D:(Str->Option Value)->Heap->Prop}{C:World->Heap->Prop}{d:DefRec}
  (L:l.most=some n) (z:d.params.defaults=[])
  (call:∀(w:World) (c b:Shared) (t v:Str->Option Value) (p:Addr) (o:Obj) (pm u h:Value) (a:Addr) (vs:List Value) (ns:List Int),
   Ground q e [] D w c t v b.heap->C w b.heap ->
   b.heap.get? p=some o->o.data=.func (docDef d.name d.params d.body d.scope pm u h)->b.heap.CodeRec u d.name->t d.name=some (.ref p) ->
   b.heap.get? a=some { cls:=.type "list",data:=.seq vs.toArray }->IntsAre vs ns->ns.length<=n->b.gens=#[] ->
   codeAny (model l.prog w) callerA (.call (.ref p) ⟨[.ref a],[]⟩) (fun r s=>r=.ok (.ret (.bool true))/\OldK b.heap s.heap/\s.os=b.os/\AllBare s.gens) b) :
  WalkO q e D C l.row.toRowW d [] (fun f vs=>YaM f vs):=by
 intro w c b t v G Y p o pm u h U kV I hd A hD y O args vals as i B E x N;obtain rfl:U=.none:=Dflts.none hD z;obtain rfl:kV=.none:=Dflts.noKw hD;obtain⟨a,vs,ns,rfl,rfl,j,g,m⟩:=Qak L i x;refine enter_call (DJ (call w c b t v p o pm u h a vs ns G Y I (fd_plain hd) A y j g m O) fun r s H=>?_);obtain⟨rfl,S,Q,P⟩:=H;exact⟨.inl ⟨.bool true,.bool true,[],rfl,fun _=>rfl,.bool true,GJ l _,fun _=>⟨List.Pairwise.nil,fun _ M=>(nomatch M)⟩⟩,S,Q,P⟩

section
variable{prog:Program}{w:World}{A:Around}{E:Value->Shared->Prop}{s:Shared}{K:Frag}

end
end Att

namespace L2

theorem YU:∀{vs:List Value} {ns:List Int},IntsAre vs ns->Vals (ns.map V.int) vs
 |_,_,.nil=>.nil
 |_,_,.cons n t h=>.cons ⟨t,rfl⟩ (YU h)

noncomputable def Qj2(H:Hp):Prop:=∀b,H b=none\/∃o a,H b=some (.frz o (.lst a))

theorem Qde{P:Program}{w:World}{K:Nh}{D Y:Str->Option Value}{CX:CXT}{k:Nat}{fa a:Addr}{fd:FuncData}{x:Str}{sp:Sp}{c:Shared}{vs:List Value}{ns:List Int}
  (KX:K.In c.heap) (L:c.heap.Ns mainGlobals D) (g:c.heap.Ns builtinsNs Y) (aa:∀x:Str,x≠"__name__"->Y x=bootBuiltins x) (M:c.heap.NoLimit) (hg:c.gens=#[])
  (S:c.heap.get? a=some { cls:=.type "list",data:=.seq vs.toArray }) (hi:IntsAre vs ns) (hl:ns.length<=sizeLine) (hr:Room k callerA)
  (F:∀base:Heap,K.In base->base.Ns mainGlobals D->FnOk P w K D base CX k fa fd [x] sp) (p:∀(s:Shared) (u:Value),BindsTo s fd ⟨[u],[]⟩ [(x,u)])
  (Z:∀H:Hp,Qj2 H->SqL K H a (ns.map V.int)->sp [.ref a] H (fun v _=>v=.bl true) fun _ _ _=>False)
  (ab:∀H e i,CX [] H c (fun _ _ _=>False) e i->False) :
  codeAny (model P w) callerA (.call (.ref fa) ⟨[.ref a],[]⟩) (fun r i=>r=.ok (.ret (.bool true))/\OldK c.heap i.heap/\i.os=c.os/\AllBare i.gens) c:=by
 have rv:=YU hi;have E:=hi.length
 -- from an abstract ae in U nothing ag B j af be A
 have core:∀H:Hp,Qj2 H->SqL K H a (ns.map V.int)->HOk P w H c.heap->(∀b,H b≠none->b=a)->(H a≠none->K.lookup a=none) ->
   codeAny (model P w) callerA (.call (.ref fa) ⟨[.ref a],[]⟩) (fun r i=>r=.ok (.ret (.bool true))/\OldK c.heap i.heap/\i.os=c.os/\AllBare i.gens) c:=by
  intro H hO hS I hA hK;have f:∀{b:Addr} {o:Obj},c.heap.get? b=some o->H b=none->(Qcm c.heap H).get? b=some o:=fun e n=>Qc4 e n
  have X:∀{b:Addr} {o:Obj} {O:Array DictEntry} {Q:Nat},c.heap.get? b=some o->o.data=.dict O Q->H b=none:=fun {b o O Q} e d=>by
   cases q:H b with
   |none=>rfl
   |some u=>
    have e':b=a:=hA b (by rw[q];simp);subst e';rw[S]at e;cases e;have d':Data.seq vs.toArray _=Data.dict O Q:=d;cases d'
  have l:∀{b:Addr} {m:Str->Option Value},c.heap.Ns b m->(Qcm c.heap H).Ns b m:=fun {b m} ⟨o,O,Q,e,d,r⟩=>⟨o,O,Q,f e (X e d),d,r⟩
  have N:K.In (Qcm c.heap H):=fun b o e=>f (KX b o e) (by
   cases q:H b with
   |none=>rfl
   |some u=>
    have e':b=a:=hA b (by rw[q];simp);subst e'
    rw[hK (by rw[q];simp)]at e;cases e)
  have hM:Mod K D (Qcm c.heap H):=⟨N,l L,⟨Y,l g,aa⟩,let⟨mc,h1,h2⟩:=M;⟨mc,l h1,h2⟩⟩
  have e0:Env0 P w K D (Qcm c.heap H) callerA [] c H:=⟨rfl,hM,fun b o e=>Qer e,Nq (QaG _ _),trivial,fun b g=>absurd (show b∈([]:List Addr)from g) (by simp),I,.of_eq hg⟩
  refine DJ ((F _ N (l L)).run callerA [] c H ⟨[.ref a],[]⟩ [.ref a] [.ref a] _ _ hr e0 (p c (.ref a)) (.cons rfl .nil) (Z H hO hS)) fun r i h=>?_;cases r with
  |error e=>exact(ab H e i h).elim
  | ok fl=>
   cases fl with
   |next=>exact False.elim h
   |brk=>exact False.elim h
   |cont=>exact False.elim h
   | ret u=>
    obtain⟨v,H',os,bare,un,G,r',q⟩:=h;have q':v=.bl true:=q;subst q';obtain rfl:u=Value.bool true:=r';refine⟨rfl,OldK.of_keep fun b o e=>?_,os,bare⟩;cases q:H b with
    |none=>exact un.keep b o e q (by intro z;exact absurd (show b∈([]:List Addr)from z) (by simp)) (by simp)
    |some u=>
     rcases hO b with z|⟨ob,xs,z⟩
     ·rw[q]at z;cases z
     ·have z2:=un.frzs b ob _ z;obtain⟨e1,_⟩:=I b _ z;obtain⟨e2,_⟩:=G b _ z2;rw[e]at e1;cases e1;exact e2
 cases hk:K.lookup a with
 |some o=>
  -- B j is one of B t own C
  have e:=KX a o hk;rw[S]at e;cases e;refine core (fun _=>none) (fun _=>.inl rfl) (.inr ⟨_,vs.toArray,_,hk,rfl,rfl,rfl,by rw[Nt,E];exact hl,by simpa using rv⟩) (fun b u z=>by have y:(none:Option HO)=some u:=z;cases y) (fun b z=>absurd rfl z) fun z=>absurd rfl z
 | none=>
  refine core (fun b=>if b=a then some (.frz { cls:=.type "list",data:=.seq vs.toArray } (.lst (ns.map V.int)))else none) (fun b=>?_) (.inl (.inr ⟨{ cls:=.type "list",data:=.seq vs.toArray },if_pos rfl⟩)) (fun b u z=>?_) (fun b z=>?_) fun _=>hk
  ·by_cases g:b=a
   ·exact .inr ⟨_,_,if_pos g⟩
   ·exact .inl (if_neg g)
  ·by_cases g:b=a
   ·have y:=(if_pos g).symm.trans z;cases y;subst g;exact⟨S,by rw[Ny];exact hl,vs,_,rv,S⟩
   ·have y:=(if_neg g).symm.trans z;cases y
  ·by_cases g:b=a
   ·exact g
   ·exact absurd (if_neg g) z
end L2

namespace L2

noncomputable abbrev KOf{K:Nh}{h:Heap}(_:K.In h):Nh:=K

theorem Qem{l:PySem.W.OpenLaw}{n k:Nat}{q:Program}{i:List Str}{X:(Str->Option Value)->Heap->Prop}{I:World->Heap->Prop}{d:DefRec}{K:Params->Nh}{CX:World->CXT}{sp:World->Sp}{x:Str}
  (M:l.most=some n) (A:n<=sizeLine) (C:d.params.defaults=[]) (hr:Room k callerA)
  (Q:∀(w:World) (h:Heap),I w h->(K w.params).In h)
  (F:∀(w:World) (m:Str->Option Value) (t:Addr) (h:Heap),(K w.params).In h->h.Ns mainGlobals m->m d.name=some (.ref t) ->
   ∃fd:FuncData,(∀(s:Shared) (u:Value),BindsTo s fd ⟨[u],[]⟩ [(x,u)]) /\
    ∀base:Heap,(K w.params).In base->base.Ns mainGlobals m->FnOk l.prog w (K w.params) m base (CX w) k t fd [x] (sp w))
  (z:∀(w:World) (H:Hp) (a:Addr) (ns:List Int),ns.length<=n->Qj2 H->SqL (K w.params) H a (ns.map V.int)->sp w [.ref a] H (fun v _=>v=.bl true) fun _ _ _=>False)
  (D:∀(w:World) (H:Hp) (s:Shared) (e:Value) (y:Shared),CX w [] H s (fun _ _ _=>False) e y->False) :
  YaS q i X I l.row.toRowW d [] (fun f vs=>YaM f vs):=by
 refine Att.attach_call M C fun w E p m Z t o pm cd U a vs ns G Y ho hd O B r j c N=>?_;have L:=Q w _ Y;obtain⟨fd,P,hF⟩:=F w m t _ L G.T.g B;exact Qde L G.T.g G.T.b G.T.builtins G.T.nolimit N r j (Nf c A) hr hF P (fun H S hS=>z w H a ns c S hS) fun H e y=>D w H p e y
end L2


namespace L2

noncomputable def VB(s:Stmt):Arguments:=match s with
 |.FunctionDef _ a _ _ _ _ _ _ _ _=>a
 |_=>{ posonlyargs:=[],args:=[],vararg:=none,kwonlyargs:=[],kw_defaults:=[],kwarg:=none,defaults:=[] }
noncomputable def Js(s:Stmt):List Stmt:=match s with
 |.FunctionDef _ _ b _ _ _ _ _ _ _=>b
 |_=>[]
noncomputable def Qg(s:Stmt):Scope:=match s with
 |.FunctionDef _ _ _ _ _ _ a _ _ _=>a
 |_=>{ kind:=.function,names:=[],isGenerator:=false,isCoroutine:=false }

noncomputable abbrev CX0:CXT:=fun _ _ _ _ _ _=>False
noncomputable abbrev E0:XK:=fun _ _ _=>False
theorem Qi0{X:Cx}:WP CX0 X E0:=fun _ _ _ _ _ _ _ h=>h.elim

structure Fun(K:Nh)(x qual:Str)(st:Stmt)(f:Addr)(fd:FuncData):Prop where
 ex:∃(oc:Value) (od:Option Addr) (kV doc pm:Value) (an:Option Addr) (cdv ct:Value) (osl:Array (Option Value)),
  fd=DK x qual (VB st) (Js st) (Qg st) .none kV doc pm an cdv ct/\K.lookup f=some ⟨oc,od,.func fd,osl⟩/\IU K cdv qual=true
 kp:Fy K (.ref f)=true
section
variable{P:Program}{w:World}{K:Nh}{mg:Str->Option Value}{base:Heap}
theorem Fun.ok{x b:Str}{st:Stmt}{f:Addr}{fd:FuncData}{N ps:List Str}{k:Nat}{sp:Sp}(F:Fun K x b st f fd)(S:FnScope N ps (Qg st))(len:∀vs H Q E,sp vs H Q E->vs.length=ps.length)
  (d:∀(c:Value) (A:Around) (a:List Env) (s:Shared) (H:Hp) (vs:List V) (Q:VK) (E:XK),Room k (A.deeper (envOfC b (Qg st) s.heap.objs.size f c))->sp vs H Q E ->
   ∃t,PSs (QdB CX0 P w K mg base N b (Qg st) f c A a s H E).nox (Js st) t/\t { nx:=fun _ l=>Q .non l,rt:=Q } (start N vs) H):FnOk P w K mg base CX0 (k+1) f fd ps sp:=by
 obtain⟨n,m,kV,j,pm,o,c,ct,i,rfl,lk,g⟩:=F.ex;refine Qjw lk g S len fun A a s H vs Q E hr e=>?_;obtain⟨t,h,q⟩:=d c A a s H vs Q E hr e;exact⟨t,h.nox,q⟩
theorem Fun.binds{x a:Str}{st:Stmt}{f:Addr}{fd:FuncData}{ps:List Str}(F:Fun K x a st f fd)
  (h:∀(kV b pm:Value) (d:Option Addr) (c ct:Value) (us:List Value),us.length=ps.length->bindArgs (DK x a (VB st) (Js st) (Qg st) .none kV b pm d c ct) ⟨us,[]⟩=pure (ps.zip us)):Binds K fd ps []:=by
 obtain⟨j,i,kV,b,pm,d,c,ct,e,rfl,lk,g⟩:=F.ex;exact .all (h kV b pm d c ct)
theorem Qdy{x a:Str}{st:Stmt}{f:Addr}{i:Value}{h g:Option Addr}{e:Array (Option Value)}{kV d pm b ct:Value}(l:K.lookup f=some ⟨i,h,.func (DK x a (VB st) (Js st) (Qg st) .none kV d pm g b ct),e⟩)
  (c:IU K b a=true) (k:Fy K (.ref f)=true):Fun K x a st f (DK x a (VB st) (Js st) (Qg st) .none kV d pm g b ct):=⟨⟨i,h,kV,d,pm,g,b,ct,e,rfl,l,c⟩,k⟩
end
section
variable{X:Cx}
end

theorem Qh4{A B:Prop}(h:B):if false=true then A else B:=by
 rw[if_neg Eb];exact h
theorem Qii{A B:Prop}(h:A):if true=true then A else B:=by
 rw[if_pos rfl];exact h
end L2

namespace L2

section
variable{κ:Type}[DecidableEq κ]
noncomputable def Qd1(kvs:List (κ×V))(k:κ):Option V:=(kvs.find? fun a=>decide (a.1=k)).map (·.2)
noncomputable def Qk3(kvs:List (κ×V))(k:κ)(v:V):List (κ×V):=
 if(kvs.any fun a=>decide (a.1=k))=true then kvs.map (fun a=>if a.1=k then(a.1,v)else a)else kvs++[(k,v)]
theorem Qb7{p:κ×V}{r:List (κ×V)}{k:κ}(e:p.1=k):Qd1 (p::r) k=some p.2:=by simp[Qd1,NW,e]
theorem QcR{p:κ×V}{r:List (κ×V)}{k:κ}(e:¬p.1=k):Qd1 (p::r) k=Qd1 r k:=by simp[Qd1,NW,e]
theorem RelO.isSome_eq{o:Option V}{u:Option Value}(r:RelO o u):o.isSome=u.isSome:=by
 cases o with
 |none=>cases u with
  |none=>rfl
  |some _=>exact(show False from r).elim
 |some _=>cases u with
  |none=>exact(show False from r).elim
  |some _=>rfl
theorem RelO.getD{o:Option V}{u:Option Value}{d:V}{d':Value}(r:RelO o u)(a:RelV d d'):RelV (o.getD d) (u.getD d'):=by
 cases o with
 |none=>cases u with
  |none=>exact a
  |some _=>exact(show False from r).elim
 |some _=>cases u with
  |none=>exact(show False from r).elim
  |some _=>exact r

theorem KV.val{kvs:List (κ×V)}{vs:List (κ×Value)}(r:KV kvs vs)(k:κ):RelO (Qd1 kvs k) (valueAt vs k):=by
 unfold KV at r
 induction r with
 |nil=>exact True.intro
 | @cons p q ps a h t f=>
  obtain⟨d,g⟩:=h
  by_cases e:p.1=k
  ·have c:q.1=k:=d.symm.trans e;have b:valueAt (q::a) k=some q.2:=by simp[valueAt,NW,c]
   rw[Qb7 e,b];exact g
  ·have c:¬q.1=k:=fun z=>e (d.trans z);have b:valueAt (q::a) k=valueAt a k:=by simp[valueAt,NW,c]
   rw[QcR e,b];exact f
theorem KV.any{kvs:List (κ×V)}{vs:List (κ×Value)}(r:KV kvs vs)(k:κ):(kvs.any fun a=>decide (a.1=k))=vs.any fun a=>decide (a.1=k):=by
 unfold KV at r
 induction r with
 |nil=>rfl
 |cons h t b=>rw[DS,DS,b,h.1]
theorem KV.repl{kvs:List (κ×V)}{vs:List (κ×Value)}(r:KV kvs vs)(k:κ){y:V}{u:Value}(c:RelV y u) :
  KV (kvs.map fun a=>if a.1=k then(a.1,y)else a) (vs.map fun a=>if a.1=k then(a.1,u)else a):=by
 unfold KV at r ⊢
 induction r with
 |nil=>exact .nil
 |@cons p q ps g h t d=>
  rw[NC,NC];refine .cons ?_ d;obtain⟨b,f⟩:=h
  by_cases e:p.1=k
  ·rw[if_pos e,if_pos (b.symm.trans e)];exact⟨b,c⟩
  ·rw[if_neg e,if_neg (fun z=>e (b.trans z))];exact⟨b,f⟩
theorem KV.put{kvs:List (κ×V)}{vs:List (κ×Value)}(r:KV kvs vs)(k:κ){y:V}{u:Value}(a:RelV y u):KV (Qk3 kvs k y) (stored vs k u):=by
 unfold Qk3 stored;rw[r.any k]
 by_cases e:(vs.any fun b=>decide (b.1=k))=true
 ·rw[if_pos e,if_pos e];exact r.repl k a
 ·rw[if_neg e,if_neg e];exact YaB r ⟨rfl,a⟩
theorem KV.keys{kvs:List (κ×V)}{vs:List (κ×Value)}(r:KV kvs vs):kvs.map (·.1)=vs.map (·.1):=by
 unfold KV at r
 induction r with
 |nil=>rfl
 |cons h t a=>rw[NC,NC,a,h.1]
theorem KV.length{kvs:List (κ×V)}{vs:List (κ×Value)}(r:KV kvs vs):kvs.length=vs.length:=N7 r
end


section
variable{P:Program}{w:World}{H:Hp}{h:Heap}{a:Addr}
end

noncomputable def DGet(H:Hp)(a:Addr)(y:V)(r:Option V):Prop:=∃b k,Rd H a (.dK b)/\y=kV k/\r=Qd1 b k
theorem DGet.k{H:Hp}{a:Addr}{kvs:List (Key×V)}{k:Key}(e:H a=some (.dK kvs)):DGet H a (kV k) (Qd1 kvs k):=⟨kvs,k,.inl e,rfl,rfl⟩
section
variable{X:Cx}{pins:List (Addr×Obj)}{σ:St}{H:Hp}{s:Shared}{a:Addr}{y v:V}{u r:Value}{o:Option V}{A:Around}{E:Value->Shared->Prop}

theorem Inv.big(I:Inv X pins σ H s):sysModules<s.heap.objs.size:=by
 have h:mainGlobals<s.heap.objs.size:=(I.mod.glob.keeps I.bk).lt;exact N0 (by decide) h

theorem Qfj{h':Heap}{t':Nat}{ob:HO}(I:Inv X pins σ H s)(c:Mut (H a))(d:Heap.SameBut a s.heap h')(f:∃q,h'.get? a=some q)(new:ObjOk X.prog X.w (upd H a ob) h' a ob) :
  Inv X pins σ (upd H a ob) { s with heap:=h',toks:=t' }:=
 I.write (x:=a) (e:=a) c (.inl rfl) (fun b q g z=>(d.2 b g).trans z) f new
end

section
variable{X:Cx}{pins:List (Addr×Obj)}{σ:St}{H:Hp}{s:Shared}{a:Addr}{kvs:List (Key×V)}{k:Key}{u:Value}{A:Around}{E:Value->Shared->Prop}
end


noncomputable def Qks(i:Expr):Prop:=∀a b,subscripted i false a b=operate [a,b] (getItem a b)
theorem QfO{prog:Program}{w:World}{A:Around}{E:Value->Shared->Prop}{s:Shared}{env:Env}{value slice:Expr}{pos:Pos}{T id:String}{Q:Value->Shared->Prop}
  (l:typeLookup (.type T) "__getitem__"=pure (some (.builtin id))) (j:Qks slice)
  (h:wpAny (model prog w) A (eval value env) (fun o d=>wpAny (model prog w) A (eval slice env) (fun i a=>a.TypeIs o T/\wpAny (model prog w) A (getItem o i) Q E a) E d) E s) :
  wpAny (model prog w) A (eval (.Subscript value slice pos) env) Q E s:=by
 refine Subscript_ (N4 h (fun o d f=>N4 f (fun i a b=>?_) fun _ _ x=>x) fun _ _ x=>x);obtain⟨g,b⟩:=b;unfold subscriptTail;refine Na ?_;rw[getitemInPython_of_ne g.not_modules];refine Na (IG g l ?_)
 have fin:wpAny (model prog w) A (subscripted slice false o i) (fun r c=>wpAny (model prog w) A (letTemporaryGo value o r>>=fun _=>pure r) Q E c) E a:=by
  rw[j o i];exact wpAny_operating (N4 b (fun r c e=>Na (wpAny_letTemporaryGo (Nj e))) fun _ _ x=>x)
 first
  |exact Nj (Na fin)
  |exact Na (Nj (Na fin))
  |exact Na fin

section
variable{X:Cx}{o i e value:Expr}{pos pos' tpos:Pos}{td ty tv:TE}
end


theorem QbZ{P:Program}{w:World}{H:Hp}(h:Heap)(a:sysModules<h.objs.size):ObjOk P w H (h.push { cls:=.type "dict",data:=.dict #[] }) h.objs.size (.dT []):=
 ⟨NM _,beq_eq_false_iff_ne.mpr (DH (NS a)),[],.nil,_,#[],0,NA _ rfl,⟨rfl,rfl,rfl⟩,rfl,rfl,Er,rfl⟩
noncomputable def Qhs:TE:=fun _ H Q=>∀p,H p=none->Q (.ref p) (upd H p (.dT []))
section
variable{X:Cx}{pos:Pos}
theorem Qco:PE X (.Dict [] [] pos) Qhs:=fun b s c H Q I h=>
 wpAny_Dict_empty ⟨.ref s.heap.objs.size,_,I.laid (a:=s.heap.objs.size) (o:=.dT []) (t':=s.toks) (fun _ _ q=>Nn _ q) (Nu _) (QbZ s.heap I.big),rfl,h _ (I.hok.fresh (Nu _))⟩
end

structure M1(X:Cx)(o:Expr)(m:Str)(apos:Pos)(e:Expr)(cpos:Pos):Prop where
 base:attributeBase o m X.env (eval o X.env)=eval o X.env
 few:((backTo cpos (starEach [e] X.env)).all (fun x=>!x.1)&&(backToKw cpos (keywordEach [] X.env)).all (fun x=>x.1.isSome)
  && decide (([e]:List Expr).length+([]:List Keyword).length+(if([]:List Keyword).isEmpty then 0 else 1)<30))=true
 line:(apos.endLine==cpos.line)=true
 trees:backTo cpos (starEach [e] X.env)=[(false,eval e X.env)]
structure M2(X:Cx)(o:Expr)(m:Str)(apos:Pos)(e f:Expr)(cpos:Pos):Prop where
 base:attributeBase o m X.env (eval o X.env)=eval o X.env
 few:((backTo cpos (starEach [e,f] X.env)).all (fun x=>!x.1)&&(backToKw cpos (keywordEach [] X.env)).all (fun x=>x.1.isSome)
  && decide (([e,f]:List Expr).length+([]:List Keyword).length+(if([]:List Keyword).isEmpty then 0 else 1)<30))=true
 line:(apos.endLine==cpos.line)=true
 trees:backTo cpos (starEach [e,f] X.env)=[(false,eval e X.env),(false,eval f X.env)]

section
variable{X:Cx}{pins:List (Addr×Obj)}{σ:St}{H:Hp}{s:Shared}{a:Addr}{y d:V}{u r:Value}{o:Option V}{A:Around}{E:Value->Shared->Prop}
end

section
variable{X:Cx}{o e f:Expr}{apos cpos:Pos}{td ty tx:TE}
end

section
variable{X:Cx}{pins:List (Addr×Obj)}{σ:St}{H:Hp}{s:Shared}{a:Addr}{kvs:List (Key×V)}{A:Around}{E:Value->Shared->Prop}
end


section
variable{X:Cx}{pins:List (Addr×Obj)}{σ:St}{H:Hp}{s:Shared}{a:Addr}{y:V}{u:Value}{A:Around}{E:Value->Shared->Prop}
end
end L2

namespace L2
section
variable{X:Cx}
end
section
variable{κ:Type}[DecidableEq κ]
end
end L2

namespace Mi
open L2

inductive W where
 |non|bl (b:Bool)|int (i:Int)|str (x:Str)|tup (ws:List W)|lst (ws:List W)|frz (ws:List W)|ref (n:Nat)|ty (n:String)
inductive MO where
 |lst (ws:List W)
 |dic (kvs:List (Key×W))
 |dct (kvs:List (W×W))
noncomputable abbrev MH:=List MO
noncomputable abbrev MSt:=List (Option W)

structure Rn where
 ρ:Nat->Addr
 N:Nat
 F:Hp
 G:Hp
structure Ext(R R':Rn):Prop where
 n:R.N<=R'.N
 ρ:∀n,n<R.N->R'.ρ n=R.ρ n
 f:∀a o,R.F a=some o->R'.F a=some o
 g:R'.G=R.G
theorem Ext.refl(R:Rn):Ext R R:=⟨Nu _,fun _ _=>rfl,fun _ _ h=>h,rfl⟩
theorem Ext.trans{R R1 R2:Rn}(a:Ext R R1)(b:Ext R1 R2):Ext R R2:=
 ⟨Nf a.n b.n,fun n h=>(b.ρ n (Ng h a.n)).trans (a.ρ n h),fun x o h=>b.f x o (a.f x o h),b.g.trans a.g⟩

theorem Zm{K:Nh}{F b:Hp}(e:∀a o,F a=some o->b a=some o){a:Addr}{xs:List V}(h:SqT K F a xs):SqT K b a xs:=by
 rcases h with(h|⟨o,h⟩)|h
 ·exact .inl (.inl (e _ _ h))
 ·exact .inl (.inr ⟨o,e _ _ h⟩)
 ·exact .inr h
theorem ZB{K:Nh}{F b:Hp}(e:∀a o,F a=some o->b a=some o){a:Addr}{xs:List V}(h:SqL K F a xs):SqL K b a xs:=by
 rcases h with(h|⟨o,h⟩)|h
 ·exact .inl (.inl (e _ _ h))
 ·exact .inl (.inr ⟨o,e _ _ h⟩)
 ·exact .inr h

section
variable(K:Nh)
mutual
noncomputable def Rw(R:Rn):W->V->Prop
 |.non,v=>v=.non
 |.bl b,v=>v=.bl b
 |.int i,v=>v=.int i
 |.str x,v=>v=.str x
 |.tup ws,v=>∃a xs,v=.ref a/\SqT K R.F a xs/\Rws R ws xs
 |.lst ws,v=>∃a xs,v=.ref a/\R.F a=some (.lst xs)/\Rws R ws xs
 |.frz ws,v=>∃a xs,v=.ref a/\SqL K R.F a xs/\Rws R ws xs
 |.ref n,v=>n<R.N/\v=.ref (R.ρ n)
 |.ty n,v=>v=.ty n
noncomputable def Rws(R:Rn):List W->List V->Prop
 |[],vs=>vs=[]
 |w::ws,vs=>∃v a,vs=v::a/\Rw R w v/\Rws R ws a
end
end
section
variable{K:Nh}{R R':Rn}
mutual
theorem Rw.mono(e:Ext R R'):∀(w:W) (v:V),Rw K R w v->Rw K R' w v
 |.non,_,h=>by unfold Rw at h ⊢;exact h
 |.bl _,_,h=>by unfold Rw at h ⊢;exact h
 |.int _,_,h=>by unfold Rw at h ⊢;exact h
 |.str _,_,h=>by unfold Rw at h ⊢;exact h
 |.ty _,_,h=>by unfold Rw at h ⊢;exact h
 |.tup ws,_,h=>by
  unfold Rw at h ⊢;obtain⟨a,xs,b,c,d⟩:=h;exact⟨a,xs,b,Zm e.f c,Rws.mono e ws xs d⟩
 |.lst ws,_,h=>by
  unfold Rw at h ⊢;obtain⟨a,xs,b,c,d⟩:=h;exact⟨a,xs,b,e.f a _ c,Rws.mono e ws xs d⟩
 |.frz ws,_,h=>by
  unfold Rw at h ⊢;obtain⟨a,xs,b,c,d⟩:=h;exact⟨a,xs,b,ZB e.f c,Rws.mono e ws xs d⟩
 |.ref n,_,h=>by
  unfold Rw at h ⊢;obtain⟨b,c⟩:=h;exact⟨Ng b e.n,by rw[e.ρ n b];exact c⟩
theorem Rws.mono(e:Ext R R'):∀(ws:List W) (vs:List V),Rws K R ws vs->Rws K R' ws vs
 |[],_,h=>by unfold Rws at h ⊢;exact h
 |w::ws,_,h=>by
  unfold Rws at h ⊢;obtain⟨v,a,d,c,b⟩:=h;exact⟨v,a,d,Rw.mono e w v c,Rws.mono e ws a b⟩
end
theorem Rws.nil_iff{vs:List V}:Rws K R [] vs↔vs=[]:=by unfold Rws;exact Iff.rfl
theorem Rws.cons_iff{w:W}{ws:List W}{vs:List V}:Rws K R (w::ws) vs↔∃v a,vs=v::a/\Rw K R w v/\Rws K R ws a:=by
 constructor
 ·intro h;unfold Rws at h;exact h
 ·intro h;unfold Rws;exact h
theorem Rws.nil:Rws K R [] []:=Rws.nil_iff.mpr rfl
theorem Rws.cons{w:W}{ws:List W}{v:V}{vs:List V}(a:Rw K R w v)(b:Rws K R ws vs):Rws K R (w::ws) (v::vs):=Rws.cons_iff.mpr ⟨v,vs,rfl,a,b⟩
theorem Rws.paired:∀{ws:List W} {vs:List V},Rws K R ws vs->Paired (Rw K R) ws vs
 |[],vs,h=>by rw[Rws.nil_iff]at h;subst h;exact .nil
 |w::ws,vs,h=>by
  rw[Rws.cons_iff]at h;obtain⟨v,c,rfl,a,b⟩:=h;exact .cons a (Rws.paired b)
theorem Rws.of:∀{ws:List W} {vs:List V},Paired (Rw K R) ws vs->Rws K R ws vs
 |_,_,.nil=>Rws.nil
 |_,_,.cons a b=>Rws.cons a (Rws.of b)
theorem Rws.length{ws:List W}{vs:List V}(h:Rws K R ws vs):ws.length=vs.length:=N7 h.paired
theorem Rws.get:∀{ws:List W} {vs:List V} {i:Nat} {w:W},Rws K R ws vs->ws[i]?=some w->∃v,vs[i]?=some v/\Rw K R w v
 |[],_,_,_,_,e=>by simp at e
 |w::ws,vs,0,x,h,e=>by
  rw[Rws.cons_iff]at h;obtain⟨v,c,rfl,a,b⟩:=h;simp at e;subst e;exact⟨v,by simp,a⟩
 |w::ws,vs,i+1,x,h,e=>by
  rw[Rws.cons_iff]at h;obtain⟨v,c,rfl,a,b⟩:=h;obtain⟨y,f,d⟩:=Rws.get (i:=i) b (by simpa using e);exact⟨y,by simpa using f,d⟩
theorem Rws.append:∀{ws us:List W} {vs xs:List V},Rws K R ws vs->Rws K R us xs->Rws K R (ws++us) (vs++xs)
 |[],us,vs,xs,h,q=>by rw[Rws.nil_iff]at h;subst h;exact q
 |w::ws,us,vs,xs,h,q=>by
  rw[Rws.cons_iff]at h;obtain⟨v,c,rfl,a,b⟩:=h;exact Rws.cons a (Rws.append b q)
theorem Rws.take:∀{ws:List W} {vs:List V} (n:Nat),Rws K R ws vs->Rws K R (ws.take n) (vs.take n)
 |_,_,0,_=>by simp;exact Rws.nil
 |[],vs,n+1,h=>by rw[Rws.nil_iff]at h;subst h;simp;exact Rws.nil
 |w::ws,vs,n+1,h=>by
  rw[Rws.cons_iff]at h;obtain⟨v,c,rfl,a,b⟩:=h;exact Rws.cons a (Rws.take n b)
theorem Rws.drop:∀{ws:List W} {vs:List V} (n:Nat),Rws K R ws vs->Rws K R (ws.drop n) (vs.drop n)
 |_,_,0,h=>by simpa using h
 |[],vs,n+1,h=>by rw[Rws.nil_iff]at h;subst h;simp;exact Rws.nil
 |w::ws,vs,n+1,h=>by
  rw[Rws.cons_iff]at h;obtain⟨v,c,rfl,a,b⟩:=h;exact Rws.drop n b
theorem Rws.set:∀{ws:List W} {vs:List V} {w:W} {v:V} (n:Nat),Rws K R ws vs->Rw K R w v->Rws K R (ws.set n w) (vs.set n v)
 |[],vs,_,_,n,h,_=>by rw[Rws.nil_iff]at h;subst h;simp;exact Rws.nil
 |x::ws,vs,w,v,0,h,q=>by
  rw[Rws.cons_iff]at h;obtain⟨y,c,rfl,a,b⟩:=h;exact Rws.cons q b
 |x::ws,vs,w,v,n+1,h,q=>by
  rw[Rws.cons_iff]at h;obtain⟨y,c,rfl,a,b⟩:=h;exact Rws.cons a (Rws.set n b q)
end

noncomputable def KN:Nat->W->Option Tr
 |0,_=>none
 |_+1,.int i=>some (.i i)
 |_+1,.bl b=>some (.i (if b then 1 else 0))
 |_+1,.str x=>some (.s x)
 |n+1,.tup ws=>(ws.mapM (KN n)).map .t
 |_+1,_=>none
noncomputable def nrm:W->Option Tr
 |.tup ws=>KN 8 (.tup ws)
 |_=>none
section
variable(K:Nh)
noncomputable def Ro(R:Rn):MO->Option HO->Prop
 |.lst ws,o=>∃xs,o=some (.lst xs)/\Rws K R ws xs
 |.dic kvs,o=>∃kx:List (Key×V),o=some (.dK kx)/\Paired (fun p q=>p.1=q.1/\Rw K R p.2 q.2) kvs kx
 |.dct kvs,o=>∃kx:List (Tr×Addr×V),o=some (.dT kx)/\Paired (fun p q=>Rw K R p.1 (.ref q.2.1)/\nrm p.1=some q.1/\Rw K R p.2 q.2.2) kvs kx
structure Rh(R:Rn)(h:MH)(H:Hp):Prop where
 len:R.N=h.length
 sub:∀a o,R.F a=some o->H a=some o
 sep:∀n,n<R.N->R.F (R.ρ n)=none
 inj:∀m n,m<R.N->n<R.N->R.ρ m=R.ρ n->m=n
 obj:∀n o,h[n]?=some o->Ro K R o (H (R.ρ n))
 gsub:∀a o,R.G a=some o->H a=some o
 gsep:∀n,n<R.N->R.G (R.ρ n)=none
 gf:∀a o,R.G a=some o->R.F a=none
noncomputable def Rst(R:Rn)(a:MSt)(σ:L2.St):Prop:=a.length=σ.length/\∀(i:Nat) (w:W),a[i]?=some (some w)->∃v,σ[i]?=some (some v)/\Rw K R w v
end
section
variable{K:Nh}{R R':Rn}{h:MH}{H:Hp}{σi:MSt}{σ:L2.St}
theorem Ro.mono(e:Ext R R'){o:MO}{u:Option HO}(q:Ro K R o u):Ro K R' o u:=by
 cases o with
 |lst j=>obtain⟨i,d,c⟩:=q;exact⟨i,d,Rws.mono e j i c⟩
 |dic g=>obtain⟨f,d,c⟩:=q;exact⟨f,d,Paired.mapP c fun a b z=>⟨z.1,Rw.mono e _ _ z.2⟩⟩
 |dct g=>obtain⟨f,d,c⟩:=q;exact⟨f,d,Paired.mapP c fun a b z=>⟨Rw.mono e _ _ z.1,z.2.1,Rw.mono e _ _ z.2.2⟩⟩
theorem Ro.some{o:MO}{u:Option HO}(q:Ro K R o u):∃x,u=some x:=by
 cases o with
 |lst f=>obtain⟨e,a,c⟩:=q;exact⟨_,a⟩
 |dic b=>obtain⟨d,a,c⟩:=q;exact⟨_,a⟩
 |dct b=>obtain⟨d,a,c⟩:=q;exact⟨_,a⟩
theorem Rst.mono(e:Ext R R')(q:Rst K R σi σ):Rst K R' σi σ:=⟨q.1,fun i w h=>by
 obtain⟨v,b,a⟩:=q.2 i w h
 exact⟨v,b,Rw.mono e _ _ a⟩⟩
theorem Rst.set{i:Nat}{w:W}{v:V}(q:Rst K R σi σ)(r:Rw K R w v):Rst K R (σi.set i (some w)) (σ.set i (some v)):=by
 refine⟨by rw[DO,DO];exact q.1,fun j u e=>?_⟩;rw[List.getElem?_set]at e ⊢
 by_cases a:i=j
 ·subst a;rw[if_pos rfl]at e ⊢
  by_cases b:i<σi.length
  ·rw[if_pos b]at e;rw[if_pos (q.1▸b)];cases e;exact⟨v,rfl,r⟩
  ·rw[if_neg b]at e;cases e
 ·rw[if_neg a]at e ⊢;exact q.2 j u e
theorem Rh.there(q:Rh K R h H){n:Nat}(b:n<R.N):∃o u,h[n]?=some o/\H (R.ρ n)=some u:=by
 have a:n<h.length:=q.len▸b;obtain⟨u,hu⟩:=(q.obj n h[n] (No a)).some;exact⟨h[n],u,No a,hu⟩
theorem Rh.ne(q:Rh K R h H){p:Addr}(a:H p=none){n:Nat}(b:n<R.N):R.ρ n≠p:=fun e=>by
 obtain⟨o,u,_,hu⟩:=q.there b;rw[e,a]at hu;cases hu
theorem Rh.fix(q:Rh K R h H){p:Addr}{o:HO}(c:H p=none) :
  Ext R { R with F:=upd R.F p o }/\Rh K { R with F:=upd R.F p o } h (upd H p o):=by
 have hF:R.F p=none:=by
  cases e:R.F p with
  |none=>rfl
  |some u=>have:=q.sub p u e;rw[c]at this;cases this
 have x:Ext R { R with F:=upd R.F p o }:=⟨Nu _,fun _ _=>rfl,fun a u e=>by
  show upd R.F p o a=some u
  rw[Qt (fun z=>by rw[z,hF]at e;cases e)];exact e,rfl⟩
 have hG:∀a u,R.G a=some u->a≠p:=fun a u e z=>by have:=q.gsub a u e;rw[z,c]at this;cases this
 refine⟨x,q.len,fun a u e=>?_,fun n d=>?_,q.inj,fun n u e=>?_,fun a u e=>?_,q.gsep,fun a u e=>?_⟩
 rotate_right 2
 ·rw[Qt (hG a u e)];exact q.gsub a u e
 ·show upd R.F p o a=none;rw[Qt (hG a u e)];exact q.gf a u e
 ·by_cases z:a=p
  ·subst z;have b:upd R.F a o a=some u:=e;rw[ZW]at b ⊢;exact b
  ·have b:upd R.F p o a=some u:=e;rw[Qt z]at b ⊢;exact q.sub a u b
 ·show upd R.F p o (R.ρ n)=none;rw[Qt (q.ne c d)];exact q.sep n d
 ·have d:n<R.N:=by rw[q.len];exact(Nm.mp e).1
  show Ro K _ u (upd H p o (R.ρ n));rw[Qt (q.ne c d)];exact(q.obj n u e).mono x
theorem Rh.tup(q:Rh K R h H){p:Addr}{ws:List W}{xs:List V}(a:H p=none)(r:Rws K R ws xs) :
  ∃R',Ext R R'/\Rh K R' h (upd H p (.tup xs))/\Rw K R' (.tup ws) (.ref p):=by
 obtain⟨x,y⟩:=q.fix (o:=.tup xs) a;refine⟨_,x,y,?_⟩;unfold Rw;exact⟨p,xs,rfl,SqT.of ZW,Rws.mono x _ _ r⟩
theorem Rh.lstI(q:Rh K R h H){p:Addr}{ws:List W}{xs:List V}(a:H p=none)(r:Rws K R ws xs) :
  ∃R',Ext R R'/\Rh K R' h (upd H p (.lst xs))/\Rw K R' (.lst ws) (.ref p):=by
 obtain⟨x,y⟩:=q.fix (o:=.lst xs) a;refine⟨_,x,y,?_⟩;unfold Rw;exact⟨p,xs,rfl,ZW,Rws.mono x _ _ r⟩
theorem Rh.new(q:Rh K R h H){p:Addr}{o:HO}{mo:MO}(f:H p=none)(r:∀R',Ext R R'->Ro K R' mo (some o)) :
  ∃R',Ext R R'/\Rh K R' (h++[mo]) (upd H p o)/\Rw K R' (.ref h.length) (.ref p):=by
 let R':Rn:={ ρ:=fun n=>if n=R.N then p else R.ρ n,N:=R.N+1,F:=R.F,G:=R.G }
 have hr:∀n,n<R.N->R'.ρ n=R.ρ n:=fun n b=>if_neg (NS b);have d:R'.ρ R.N=p:=if_pos rfl;have x:Ext R R':=⟨FO _,hr,fun _ _ e=>e,rfl⟩
 have hG:∀a u,R.G a=some u->a≠p:=fun a u e z=>by have:=q.gsub a u e;rw[z,f]at this;cases this
 have hF:R.F p=none:=by
  cases e:R.F p with
  |none=>rfl
  |some u=>have:=q.sub p u e;rw[f]at this;cases this
 have below:∀n,n<R.N+1->n<R.N\/n=R.N:=fun n b=>Nat.lt_or_eq_of_le (Ih b)
 have g:∀n,n<R.N+1->R.G (R'.ρ n)=none:=fun n b=>by
  rcases below n b with b|b
  ·rw[hr n b];exact q.gsep n b
  ·subst b;rw[d];cases e:R.G p with
   |none=>rfl
   |some u=>exact absurd rfl (hG p u e)
 refine⟨R',x,⟨?_,fun a u e=>?_,fun n b=>?_,fun m n c b e=>?_,fun n u e=>?_,fun a u e=>by rw[Qt (hG a u e)];exact q.gsub a u e,g,q.gf⟩,?_⟩
 ·show R.N+1=_;rw[Nv,q.len];rfl
 ·have z:a≠p:=fun z=>by have i:R.F a=some u:=e;rw[z,hF]at i;cases i
  rw[Qt z];exact q.sub a u e
 ·rcases below n b with b|b
  ·rw[hr n b];exact q.sep n b
  ·subst b;rw[d];exact hF
 ·rcases below m c with c|c<;>rcases below n b with b|b
  ·rw[hr m c,hr n b]at e;exact q.inj m n c b e
  ·subst b;rw[hr m c,d]at e;exact absurd e (q.ne f c)
  ·subst c;rw[hr n b,d]at e;exact absurd e.symm (q.ne f b)
  ·rw[c,b]
 ·have b:n<R.N+1:=by
   have:=(Nm.mp e).1;rw[Nv,<-q.len]at this;exact this
  rcases below n b with b|b
  ·rw[hr n b,Qt (q.ne f b)];rw[NP (by rw[<-q.len];exact b)]at e;exact(q.obj n u e).mono x
  ·subst b;rw[d,ZW];rw[Dn (by rw[q.len];exact Nu _),q.len,LL]at e;cases e;exact r R' x
 ·unfold Rw;refine⟨by rw[<-q.len];exact EI _,?_⟩;rw[<-q.len,d]
theorem Rh.put(q:Rh K R h H){n:Nat}{o:HO}{mo:MO}(b:n<R.N)(r:Ro K R mo (some o)):Rh K R (h.set n mo) (upd H (R.ρ n) o):=by
 refine⟨by rw[DO];exact q.len,fun a u e=>?_,q.sep,q.inj,fun m u e=>?_,fun a u e=>?_,q.gsep,q.gf⟩
 rotate_right
 ·have z:a≠R.ρ n:=fun z=>by rw[z,q.gsep n b]at e;cases e
  rw[Qt z];exact q.gsub a u e
 ·have z:a≠R.ρ n:=fun z=>by rw[z,q.sep n b]at e;cases e
  rw[Qt z];exact q.sub a u e
 ·by_cases z:n=m
  ·subst z;rw[ZW];rw[Es (by rw[<-q.len];exact b)]at e;cases e;exact r
  ·have c:m<R.N:=by
    have:=(Nm.mp e).1;rw[DO,<-q.len]at this;exact this
   rw[EC z]at e;rw[Qt (fun w=>z (q.inj m n c b w).symm)];exact q.obj m u e
theorem Rh.tupAt(q:Rh K R h H){ws:List W}{v:V}(r:Rw K R (.tup ws) v):∃a xs,v=.ref a/\SqT K H a xs/\Rws K R ws xs:=by
 unfold Rw at r;obtain⟨a,xs,d,c,b⟩:=r;exact⟨a,xs,d,Zm q.sub c,b⟩
theorem Rh.lstAt(q:Rh K R h H){ws:List W}{v:V}(r:Rw K R (.lst ws) v):∃a xs,v=.ref a/\H a=some (.lst xs)/\Rws K R ws xs:=by
 unfold Rw at r;obtain⟨a,xs,d,c,b⟩:=r;exact⟨a,xs,d,q.sub a _ c,b⟩
theorem Rh.frzAt(q:Rh K R h H){ws:List W}{v:V}(r:Rw K R (.frz ws) v):∃a xs,v=.ref a/\SqL K H a xs/\Rws K R ws xs:=by
 unfold Rw at r;obtain⟨a,xs,d,c,b⟩:=r;exact⟨a,xs,d,ZB q.sub c,b⟩
noncomputable def lsW(h:MH):W->Option (List W)
 |.lst ws=>some ws
 |.frz ws=>some ws
 |.ref n=>match h[n]? with|some (.lst ws)=>some ws|_=>none
 |_=>none
noncomputable def loW(h:MH):W->Option (List W)
 |.lst ws=>some ws
 |.ref n=>match h[n]? with|some (.lst ws)=>some ws|_=>none
 |_=>none
theorem Rh.loAt(q:Rh K R h H){w:W}{v:V}{ws:List W}(r:Rw K R w v)(e:loW h w=some ws):∃a xs,v=.ref a/\H a=some (.lst xs)/\Rws K R ws xs:=by
 cases w with
 |lst b=>cases e;exact q.lstAt r
 |ref n=>
  simp only[loW]at e;split at e
  ·rename_i b c;cases e;unfold Rw at r;obtain⟨xs,f,d⟩:=q.obj n _ c;exact⟨_,xs,r.2,f,d⟩
  ·cases e
 |_=>cases e
theorem Rh.lsAt(q:Rh K R h H){w:W}{v:V}{ws:List W}(r:Rw K R w v)(e:lsW h w=some ws):∃a xs,v=.ref a/\SqL K H a xs/\Rws K R ws xs:=by
 cases w with
 |lst b=>cases e;obtain⟨a,xs,j,i,g⟩:=q.lstAt r;exact⟨a,xs,j,SqL.of i,g⟩
 |frz b=>cases e;exact q.frzAt r
 |ref n=>
  simp only[lsW]at e;split at e
  ·rename_i b c;cases e;unfold Rw at r;obtain⟨xs,f,d⟩:=q.obj n _ c;exact⟨_,xs,r.2,SqL.of f,d⟩
  ·cases e
 |_=>cases e
theorem Rh.refAt(q:Rh K R h H){n:Nat}{v:V}{ws:List W}(r:Rw K R (.ref n) v)(e:h[n]?=some (.lst ws)) :
  n<R.N/\v=.ref (R.ρ n)/\∃xs,H (R.ρ n)=some (.lst xs)/\Rws K R ws xs:=by
 unfold Rw at r;exact⟨r.1,r.2,q.obj n _ e⟩
end
theorem Rw.non_eq{K:Nh}{R:Rn}{v:V}(r:Rw K R .non v):v=.non:=by unfold Rw at r;exact r
theorem Rw.bl_eq{K:Nh}{R:Rn}{v:V}{b:Bool}(r:Rw K R (.bl b) v):v=.bl b:=by unfold Rw at r;exact r
theorem Rw.int_eq{K:Nh}{R:Rn}{v:V}{i:Int}(r:Rw K R (.int i) v):v=.int i:=by unfold Rw at r;exact r
theorem Rw.str_eq{K:Nh}{R:Rn}{v:V}{x:Str}(r:Rw K R (.str x) v):v=.str x:=by unfold Rw at r;exact r
theorem Rw.ty_eq{K:Nh}{R:Rn}{v:V}{n:String}(r:Rw K R (.ty n) v):v=.ty n:=by unfold Rw at r;exact r
theorem Rw.ty{K:Nh}{R:Rn}(n:String):Rw K R (.ty n) (.ty n):=by unfold Rw;rfl
theorem Rw.non{K:Nh}{R:Rn}:Rw K R .non .non:=by unfold Rw;rfl
theorem Rw.bl{K:Nh}{R:Rn}(b:Bool):Rw K R (.bl b) (.bl b):=by unfold Rw;rfl
theorem Rw.int{K:Nh}{R:Rn}(i:Int):Rw K R (.int i) (.int i):=by unfold Rw;rfl
theorem Rw.str{K:Nh}{R:Rn}(x:Str):Rw K R (.str x) (.str x):=by unfold Rw;rfl
end Mi

namespace Mi
open L2

noncomputable abbrev ME:=MSt->MH->Option (W×MH)
noncomputable abbrev MT:=MSt->MH->Option (Bool×MH)
noncomputable abbrev MA:=MSt->MH->Option (List W×MH)
inductive MF where
 |nx (σ:MSt) (h:MH)|rt (w:W) (h:MH)|bk (σ:MSt) (h:MH)|ct (σ:MSt) (h:MH)
noncomputable abbrev SM:=MSt->MH->Option MF
noncomputable abbrev FM:=List W->MH->Option (W×MH)

section
variable(K:Nh)
noncomputable def After(R:Rn)(w:W)(h':MH)(Q:VK):Prop:=∀a b v,Ext R a->Rh K a h' b->Rw K a w v->Q v b
noncomputable def tI(m:ME):TE:=fun c H Q=>∃R a h w b,Rh K R h H/\Rst K R a c/\m a h=some (w,b)/\After K R w b Q
noncomputable def tIT(m:MT):TT:=fun f H Q=>∃R a h b c,Rh K R h H/\Rst K R a f/\m a h=some (b,c)/\∀d e,Ext R d->Rh K d c e->Q b e
noncomputable def tIA(m:MA):TA:=fun g H Q=>∃R a h c e,Rh K R h H/\Rst K R a g/\m a h=some (c,e)/\∀b f d,Ext R b->Rh K b e f->Rws K b c d->Q d f
noncomputable def Ends(R:Rn)(D:L2.Ends):MF->Prop
 |.nx a h=>∀R' b σ,Ext R R'->Rh K R' h b->Rst K R' a σ->D.nx σ b
 |.bk a h=>∀R' b σ,Ext R R'->Rh K R' h b->Rst K R' a σ->D.bk σ b
 |.ct a h=>∀R' b σ,Ext R R'->Rh K R' h b->Rst K R' a σ->D.ct σ b
 |.rt w h=>After K R w h D.rt
noncomputable def tS(m:SM):TS:=fun D b H=>∃R a h r,Rh K R h H/\Rst K R a b/\m a h=some r/\Ends K R D r
noncomputable def spM(n:Nat)(m:FM):Sp:=fun c H Q _=>∃R a h w b,a.length=n/\Rh K R h H/\Rws K R a c/\m a h=some (w,b)/\After K R w b Q
end
noncomputable def PM(X:Cx)(e:Expr)(m:ME):Prop:=PE X e (tI X.K m)
noncomputable def PMT(X:Cx)(e:Expr)(m:MT):Prop:=PT X e (tIT X.K m)
noncomputable def PMA(X:Cx)(es:List Expr)(m:MA):Prop:=PA X es (tIA X.K m)
noncomputable def PMS(X:Cx)(st:Stmt)(m:SM):Prop:=PS X st (tS X.K m)
noncomputable def QbV(X:Cx)(st:List Stmt)(m:SM):Prop:=PSs X st (tS X.K m)

section
variable{K:Nh}{R R1 R2:Rn}
theorem After.ext{w:W}{h':MH}{Q:VK}(a:After K R w h' Q)(x:Ext R R1):After K R1 w h' Q:=fun b c v e=>a b c v (x.trans e)
theorem Ends.ext{D:L2.Ends}{r:MF}(a:Ends K R D r)(x:Ext R R1):Ends K R1 D r:=by
 cases r with
 |nx d h=>exact fun b c v e=>a b c v (x.trans e)
 |bk d h=>exact fun b c v e=>a b c v (x.trans e)
 |ct d h=>exact fun b c v e=>a b c v (x.trans e)
 |rt w h=>exact After.ext a x
end
theorem Q7{X:Cx}{e:Expr}{t t':TE}(h:PE X e t)(i:∀σ H Q,t' σ H Q->t σ H Q):PE X e t':=fun a s σ H Q I q=>h a s σ H Q I (i _ _ _ q)
theorem QaT{X:Cx}{e:Expr}{t t':TT}(h:PT X e t)(i:∀σ H Q,t' σ H Q->t σ H Q):PT X e t':=fun a s σ H Q I q=>h a s σ H Q I (i _ _ _ q)
theorem QdX{X:Cx}{e:Expr}{t t':TT}(h:PW X e t)(i:∀σ H Q,t' σ H Q->t σ H Q):PW X e t':=fun b a s σ H Q I q=>h b a s σ H Q I (i _ _ _ q)
theorem QdT{X:Cx}{es:List Expr}{t t':TA}(h:PA X es t)(i:∀σ H Q,t' σ H Q->t σ H Q):PA X es t':=fun pos a s σ H Q I q=>h pos a s σ H Q I (i _ _ _ q)
theorem Vo{X:Cx}{st:Stmt}{t t':TS}(h:PS X st t)(i:∀D σ H,t' D σ H->t D σ H):PS X st t':=fun a s σ H D I q=>h a s σ H D I (i _ _ _ q)
theorem Qa2{X:Cx}{st:List Stmt}{t t':TS}(h:PSs X st t)(i:∀D σ H,t' D σ H->t D σ H):PSs X st t':=fun a s σ H D I q=>h a s σ H D I (i _ _ _ q)

noncomputable def Qb(i:Nat):ME:=fun a h=>match a[i]? with|some (some w)=>some (w,h)|_=>none
noncomputable def mC(w:W):ME:=fun _ h=>some (w,h)
section
variable{X:Cx}
theorem Qp(i:Nat){x:Str}{pos:Pos}(hN:X.N[i]?=some x:=by rfl)(d:Vis X.env.scope x:=by first|exact Or.inl rfl|exact Or.inr (Or.inl rfl)|exact Or.inr (Or.inr rfl))(hd:(x==("__debug__":Str))=false:=by decide)
  (a:(x==("__classdict__":Str))=false:=by decide):PM X (.Name x pos) (Qb i):=Q7 (QgG hN d hd a) <|by
 rintro l H Q ⟨R,b,h,w,n,c,st,e,k⟩
 unfold Qb at e;split at e
 ·rename_i m j;cases e;obtain⟨v,g,f⟩:=st.2 i _ j;exact⟨v,g,k R H v (Ext.refl _) c f⟩
 ·cases e
theorem QcC{w:W}{v:V}(r:∀R,Rw X.K R w v){σ:L2.St}{H:Hp}{Q:VK}(q:tI X.K (mC w) σ H Q):tC v σ H Q:=by
 obtain⟨R,a,h,c,d,b,st,e,k⟩:=q;cases e;exact k R H v (Ext.refl _) b (r R)
theorem QgD{i j pos}:PM X (.Constant (.int i) j pos) (mC (.int i)):=Q7 QgK fun _ _ _=>QcC fun _=>Rw.int _
theorem Qfr{b j pos}:PM X (.Constant (.bool b) j pos) (mC (.bl b)):=Q7 QiS fun _ _ _=>QcC fun _=>Rw.bl _
theorem QeA{x:Str}{w:W}{v:V}{u:Value}{pos:Pos}(d:Gl X x)(c:X.mg x=none)(a:bootBuiltins x=some u)(r:RelV v u)(rw:∀R,Rw X.K R w v)(b:x≠"__name__":=by decide)(hd:(x==("__debug__":Str))=false:=by decide):PM X (.Name x pos) (mC w):=
 Q7 (Qfn d c a r b hd) fun _ _ _=>QcC rw
theorem Qgn{x j pos}:PM X (.Constant (.str x) j pos) (mC (.str x)):=Q7 QgU fun _ _ _=>QcC fun _=>Rw.str _
end

noncomputable def Qc(f:W->W->MH->Option (W×MH))(c b:ME):ME:=fun a h=>(c a h).bind fun p=>(b a p.2).bind fun q=>f p.1 q.1 q.2
noncomputable def F1(K:Nh)(f:W->MH->Option (W×MH))(x:V)(H:Hp)(Q:VK):Prop:=∃R h a w b,Rh K R h H/\Rw K R a x/\f a h=some (w,b)/\After K R w b Q
noncomputable def F2(K:Nh)(f:W->W->MH->Option (W×MH))(x y:V)(H:Hp)(Q:VK):Prop:=∃R h a b w c,Rh K R h H/\Rw K R a x/\Rw K R b y/\f a b h=some (w,c)/\After K R w c Q
noncomputable def Fs(K:Nh)(f:List W->MH->Option (W×MH))(xs:List V)(H:Hp)(Q:VK):Prop:=∃R h a w b,Rh K R h H/\Rws K R a xs/\f a h=some (w,b)/\After K R w b Q
noncomputable def mUn(f:W->MH->Option (W×MH))(b:ME):ME:=fun a h=>(b a h).bind fun p=>f p.1 p.2
noncomputable def mFn(f:List W->MH->Option (W×MH))(b:MA):ME:=fun a h=>(b a h).bind fun p=>f p.1 p.2
section
variable{K:Nh}{σ:L2.St}{H:Hp}{Q:VK}
theorem un1{f:W->MH->Option (W×MH)}{d:ME}(q:tI K (mUn f d) σ H Q):tI K d σ H fun x i=>F1 K f x i Q:=by
 obtain⟨R,b,h,w,n,m,st,e,k⟩:=q;obtain⟨⟨a,g⟩,o,p⟩:=Nc.mp e;exact⟨R,b,h,a,g,m,st,o,fun R1 i x j c l=>⟨R1,g,a,w,n,c,l,p,k.ext j⟩⟩
theorem QgC{f:W->W->MH->Option (W×MH)}{m l:ME}(q:tI K (Qc f m l) σ H Q):tI K m σ H fun x r=>tI K l σ r fun y p=>F2 K f x y p Q:=by
 obtain⟨R,c,h,w,v,u,st,e,k⟩:=q;obtain⟨⟨a,o⟩,A,C⟩:=Nc.mp e;obtain⟨⟨b,n⟩,z,B⟩:=Nc.mp C
 exact⟨R,c,h,a,o,u,st,A,fun R1 r x j g t=>⟨R1,c,o,b,n,g,st.mono j,z,fun R2 p y i d s=>
  ⟨R2,n,a,b,w,v,d,Rw.mono i _ _ t,s,B,k.ext (j.trans i)⟩⟩⟩
theorem U1{f:List W->MH->Option (W×MH)}{d:MA}(q:tI K (mFn f d) σ H Q):tIA K d σ H fun xs i=>Fs K f xs i Q:=by
 obtain⟨R,b,h,w,n,m,st,e,k⟩:=q;obtain⟨⟨a,g⟩,o,p⟩:=Nc.mp e;exact⟨R,b,h,a,g,m,st,o,fun R1 i x j c l=>⟨R1,g,a,w,n,c,l,p,k.ext j⟩⟩
end
noncomputable def JS:Expr->Bool
 |.Starred ..=>true
 |_=>false
noncomputable def Vv(es:List Expr):Bool:=es.all fun e=>!JS e
theorem QG{e:Expr}{es:List Expr}{env:Env}(h:JS e=false):starEach (e::es) env=(false,eval e env)::starEach es env:=by
 cases e<;>first|rfl|cases h
theorem Z1{es:List Expr}{env:Env}{pos:Pos}(h:Vv es=true):(backTo pos (starEach es env)).any (·.1)=false:=by
 induction es with
 |nil=>rfl
 |cons e es a=>
  unfold Vv at h a;rw[OZ,NX]at h;have b:JS e=false:=by simpa using h.1
  rw[QG b];have:=a h.2;unfold backTo at this ⊢;rw[NC,DS,this];rfl
theorem QcI{es:List Expr}{env:Env}{pos:Pos}(h:Vv es=true):(backTo pos (starEach es env)).all (fun x=>!x.1)=true:=by
 have:=Z1 (env:=env) (pos:=pos) h;rw[List.all_eq_not_any_not];simp only[Bool.not_not];rw[this];rfl
noncomputable def Qd:MA:=fun _ h=>some ([],h)
noncomputable def Qa(c:ME)(b:MA):MA:=fun a h=>(c a h).bind fun p=>(b a p.2).bind fun q=>some (p.1::q.1,q.2)
section
variable{X:Cx}{e:Expr}{es:List Expr}{m:ME}{ms:MA}{pos:Pos}
theorem QfR:PMA X [] Qd:=QdT Qg0 <|by
 rintro c H Q ⟨R,a,h,d,f,b,st,e,k⟩
 cases e;exact k R H [] (Ext.refl _) b Rws.nil
theorem Qdi(r:PM X e m)(hr:PMA X es ms)(q:JS e=false:=by rfl):PMA X (e::es) (Qa m ms):=
 QdT (Qfd r hr (QG q)) fun z H Q ⟨R,c,h,A,B,p,st,e,k⟩=>by
  obtain⟨⟨a,j⟩,u,w⟩:=Nc.mp e;obtain⟨⟨b,s⟩,t,v⟩:=Nc.mp w;cases v
  exact⟨R,c,h,a,j,p,st,u,fun R1 C x i f o=>⟨R1,c,j,b,s,f,st.mono i,t,fun R2 y l g d n=>
   k R2 y (x::l) (i.trans g) d (Rws.cons (Rw.mono g _ _ o) n)⟩⟩
noncomputable def Zg(ws:List W)(h:MH):Option (W×MH):=if ws.length<=sizeLine then some (.tup ws,h)else none
noncomputable def JE(ws:List W)(h:MH):Option (W×MH):=if ws.length<=sizeLine then some (.lst ws,h)else none
noncomputable def Yp(ws:List W)(h:MH):Option (W×MH):=if ws.length<=sizeLine then some (.ref h.length,h++[.lst ws])else none
theorem Qgy{d}(h:PMA X es ms):PM X (.Tuple es d pos) (mFn Zg ms):=Q7 (Qhz h) fun C H Q q=>by
 obtain⟨R,c,z,o,y,t,st,e,k⟩:=U1 q;refine⟨R,c,z,o,y,t,st,e,fun R1 B r d j s=>?_⟩;obtain⟨R2,E,n,w,D,i,a,b,u⟩:=k R1 B r d j s;unfold Zg at b;split at b
 ·rename_i x;cases b;refine⟨by rw[<-a.length];exact x,fun p v=>?_⟩;obtain⟨A,l,g,f⟩:=i.tup v a;exact u A _ _ l g f
 ·cases b
theorem Qh3(h:PMA X es ms):PM X (.List es pos) (mFn JE ms):=Q7 (QdI h) fun C H Q q=>by
 obtain⟨R,c,z,o,y,t,st,e,k⟩:=U1 q;refine⟨R,c,z,o,y,t,st,e,fun R1 B r l i s=>?_⟩;obtain⟨R2,E,n,w,D,g,a,b,u⟩:=k R1 B r l i s;unfold JE at b;split at b
 ·rename_i x;cases b;refine⟨by rw[<-a.length];exact x,fun p v=>?_⟩;obtain⟨A,j,f,d⟩:=g.lstI v a;exact u A _ _ j f d
 ·cases b
theorem Qg5(h:PMA X es ms):PM X (.List es pos) (mFn Yp ms):=Q7 (QdI h) fun E H Q q=>by
 obtain⟨R,c,B,t,A,v,st,e,k⟩:=U1 q;refine⟨R,c,B,t,A,v,st,e,fun R1 D f r l u=>?_⟩;obtain⟨R2,L,d,w,I,j,a,b,x⟩:=k R1 D f r l u;unfold Yp at b;split at b
 ·rename_i z;cases b;refine⟨by rw[<-a.length];exact z,fun p y=>?_⟩;obtain⟨C,n,i,g⟩:=j.new (mo:=.lst d) (o:=.lst f) y fun M s=>⟨f,rfl,Rws.mono s _ _ a⟩
  exact x C _ _ n i g
 ·cases b
end
noncomputable def OpM(K:Nh)(r:R2)(f:W->W->MH->Option (W×MH)):Prop:=∀x y H Q,F2 K f x y H Q->r x y H Q
noncomputable def Qeq(K:Nh)(r:List V->Hp->VK->Prop)(f:List W->MH->Option (W×MH)):Prop:=∀a H Q,Fs K f a H Q->r a H Q
section
variable{X:Cx}{a b c:Expr}{ma mb mc:ME}{pos:Pos}
theorem JO{K:Nh}{m:ME}{σ:L2.St}{H:Hp}{Q Q':VK}(h:tI K m σ H Q)(i:∀v H,Q v H->Q' v H):tI K m σ H Q':=by
 obtain⟨R,d,h,w,g,f,st,e,k⟩:=h;exact⟨R,d,h,w,g,f,st,e,fun j l v a b c=>i _ _ (k j l v a b c)⟩
theorem K2{K:Nh}{m:MA}{σ:L2.St}{H:Hp}{Q Q':List V->Hp->Prop}(h:tIA K m σ H Q)(i:∀v H,Q v H->Q' v H):tIA K m σ H Q':=by
 obtain⟨R,d,h,w,g,f,st,e,k⟩:=h;exact⟨R,d,h,w,g,f,st,e,fun j l v a b c=>i _ _ (k j l v a b c)⟩
theorem WG{op:Operator}{r:R2}{f:W->W->MH->Option (W×MH)}(g:OpR X (binaryOp op) r)(h:OpM X.K r f)(j:PM X a ma)(i:PM X b mb):PM X (.BinOp a op b pos) (Qc f ma mb):=
 Q7 (QjZ g j i) fun _ _ _ q=>JO (QgC q) fun _ _ e=>JO e fun _ _ d=>h _ _ _ _ d
theorem Uj{op:CmpOp}{r:R2}{f:W->W->MH->Option (W×MH)}(g:OpR X (compareOp op) r)(i:OpM X.K r f)(l:PM X a ma)(j:PM X b mb)(h:behindInMarks op b=false:=by rfl):PM X (.Compare a [op] [b] pos) (Qc f ma mb):=
 Q7 (QeK g l j h) fun _ _ _ q=>JO (QgC q) fun _ _ e=>JO e fun _ _ d=>i _ _ _ _ d
noncomputable def Qy(m:ME):MT:=fun d h=>(m d h).bind fun p=>match p.1 with|.bl b=>some (b,p.2)|_=>none
theorem Qb8{K:Nh}{m:ME}{σ:L2.St}{H:Hp}{Q:Bool->Hp->Prop}(q:tIT K (Qy m) σ H Q):tI K m σ H fun x i=>∃k,x=.bl k/\Q k i:=by
 obtain⟨R,d,h,b,r,l,st,e,k⟩:=q;obtain⟨⟨w,p⟩,n,g⟩:=Nc.mp e;cases w<;>simp only at g<;>first|(cases g;exact⟨R,d,h,_,_,l,st,n,fun o i v x f j=>⟨_,j.bl_eq,k o i x f⟩⟩)|(cases g)
theorem QU{op:CmpOp}{r:R2}{f:W->W->MH->Option (W×MH)}(g:OpR X (compareOp op) r)(i:OpM X.K r f)(l:PM X a ma)(j:PM X b mb)(h:behindInMarks op b=false:=by rfl):PMT X (.Compare a [op] [b] pos) (Qy (Qc f ma mb)):=
 QaT (QeC g l j h) fun _ _ _ q=>JO (QgC (Qb8 q)) fun _ _ e=>JO e fun _ _ d=>i _ _ _ _ d
noncomputable def Qkt(f e:W->W->MH->Option (W×MH))(ma mb mc:ME):ME:=fun d h=>(ma d h).bind fun p=>(mb d p.2).bind fun q=>(f p.1 q.1 q.2).bind fun z=>match z.1 with
 |.bl true=>(mc d z.2).bind fun y=>e q.1 y.1 y.2
 |.bl false=>some (.bl false,z.2)
 |_=>none
noncomputable def Qj5(ma mb:ME):ME:=fun d h=>(ma d h).bind fun p=>match p.1 with|.bl true=>mb d p.2|.bl false=>some (.bl false,p.2)|_=>none
noncomputable def Xo(ma mb:MT):MT:=fun d h=>(ma d h).bind fun p=>match p.1 with|true=>mb d p.2|false=>some (false,p.2)
noncomputable def QfE(ma mb:MT):MT:=fun d h=>(ma d h).bind fun p=>match p.1 with|true=>some (true,p.2)|false=>mb d p.2
noncomputable def QbY(ma:MT):MT:=fun d h=>(ma d h).bind fun p=>some (!p.1,p.2)
variable{rest:List Expr}{ta tb:MT}
theorem Qg3{op}(h:PM X a ma):PM X (.BoolOp op [a] pos) ma:=Qgv h
theorem Qh7(o:PM X a ma)(n:PM X (.BoolOp .And (b::rest) pos) mb):PM X (.BoolOp .And (a::b::rest) pos) (Qj5 ma mb):=Q7 (QgW o n) <|by
 rintro s H Q ⟨R,f,h,w,p,m,st,e,k⟩
 obtain⟨⟨a,j⟩,q,d⟩:=Nc.mp e;refine⟨R,f,h,a,j,m,st,q,fun R1 r x i g l=>?_⟩;cases a with
 |bl t=>
  refine⟨t,l.bl_eq,?_⟩;cases t with
  |true=>exact Qii ⟨R1,f,j,w,p,g,st.mono i,d,k.ext i⟩
  |false=>cases d;exact Qh4 (k R1 r _ i g (Rw.bl _))
 |non=>cases d
 |int _=>cases d
 |str _=>cases d
 |tup _=>cases d
 |lst _=>cases d
 |frz _=>cases d
 |ref _=>cases d
 |ty _=>cases d
noncomputable def PMW(X:Cx)(e:Expr)(m:MT):Prop:=PW X e (tIT X.K m)
theorem PMW.pt{e:Expr}{m:MT}(h:PMW X e m):PMT X e m:=PW.pt h
theorem Qf4{K:Nh}{σ:L2.St}{H:Hp}{Q:Bool->Hp->Prop}(q:tIT K (Xo ta tb) σ H Q):Qka (tIT K ta) (tIT K tb) σ H Q:=by
 obtain⟨R,d,h,w,n,m,st,e,k⟩:=q;obtain⟨⟨a,i⟩,o,j⟩:=Nc.mp e;refine⟨R,d,h,a,i,m,st,o,fun R1 r g f=>?_⟩;cases a with
 |true=>exact Qii ⟨R1,d,i,w,n,f,st.mono g,j,fun R2 p l=>k R2 p (g.trans l)⟩
 |false=>cases j;exact Qh4 (k R1 r g f)
theorem Qh1{K:Nh}{σ:L2.St}{H:Hp}{Q:Bool->Hp->Prop}(q:tIT K (QfE ta tb) σ H Q):tOr (tIT K ta) (tIT K tb) σ H Q:=by
 obtain⟨R,d,h,w,n,m,st,e,k⟩:=q;obtain⟨⟨a,i⟩,o,j⟩:=Nc.mp e;refine⟨R,d,h,a,i,m,st,o,fun R1 r g f=>?_⟩;cases a with
 |true=>cases j;exact Qii (k R1 r g f)
 |false=>exact Qh4 ⟨R1,d,i,w,n,f,st.mono g,j,fun R2 p l=>k R2 p (g.trans l)⟩
theorem VV(d:PMT X a ta):PMW X (.BoolOp .And [a] pos) ta:=Qf0 d
theorem Qaa(d:PMT X a ta):PMW X (.BoolOp .Or [a] pos) ta:=QhO d
theorem J4(e:PMT X a ta)(d:PMW X (.BoolOp .And (b::rest) pos) tb):PMW X (.BoolOp .And (a::b::rest) pos) (Xo ta tb):=QdX (Qgo e d) fun _ _ _=>Qf4
theorem Qa6(e:PMT X a ta)(d:PMW X (.BoolOp .Or (b::rest) pos) tb):PMW X (.BoolOp .Or (a::b::rest) pos) (QfE ta tb):=QdX (Qjs e d) fun _ _ _=>Qh1
theorem Qeh(j:PMT X a ta):PMT X (.UnaryOp .Not a pos) (QbY ta):=QaT (QgV j) <|by
 rintro p H Q ⟨R,d,h,w,q,i,st,e,k⟩
 obtain⟨⟨a,l⟩,m,n⟩:=Nc.mp e;cases n;exact⟨R,d,h,a,l,i,st,m,fun R1 o g f=>k R1 o g f⟩
noncomputable def Qgb(h:MH):W->Option Bool
 |.non=>some false
 |.bl b=>some b
 |.int i=>some (i != 0)
 |.str x=>if x.length<=sizeLine then some ((x.length:Int) != 0)else none
 |.tup ws=>some (!ws.isEmpty)
 |.lst ws=>some (!ws.isEmpty)
 |.frz ws=>some (!ws.isEmpty)
 |.ref n=>match h[n]? with|some (.lst ws)=>some (!ws.isEmpty)|some (.dic kvs)=>some (!kvs.isEmpty)|_=>none
 |.ty _=>none
noncomputable def QiG(m:ME):MT:=fun d h=>(m d h).bind fun p=>(Qgb p.2 p.1).map fun b=>(b,p.2)
theorem Rws.isEmpty{K:Nh}{R:Rn}{ws:List W}{vs:List V}(r:Rws K R ws vs):ws.isEmpty=vs.isEmpty:=by
 have:=r.length;cases ws<;>cases vs<;>simp at this ⊢
theorem Qhq{K:Nh}{R:Rn}{h:MH}{H:Hp}{w:W}{v:V}{b:Bool}(j:Rh K R h H)(r:Rw K R w v)(e:Qgb h w=some b):Qj9 K v H b:=by
 cases w with
 |non=>rw[r.non_eq];cases e;rfl
 |bl b=>rw[r.bl_eq];cases e;rfl
 |int i=>rw[r.int_eq];cases e;rfl
 |str x=>
  rw[r.str_eq];simp only[Qgb]at e;split at e
  ·rename_i q;cases e;exact⟨q,rfl⟩
  ·cases e
 |tup l=>
  obtain⟨a,g,rfl,f,d⟩:=j.tupAt r;cases e;exact .inr (.inl ⟨g,f,by rw[d.isEmpty]⟩)
 |lst l=>
  obtain⟨a,g,rfl,f,d⟩:=j.lstAt r;cases e;exact .inl ⟨g,SqL.of f,by rw[d.isEmpty]⟩
 |frz l=>
  obtain⟨a,g,rfl,f,d⟩:=j.frzAt r;cases e;exact .inl ⟨g,f,by rw[d.isEmpty]⟩
 |ref n=>
  simp only[Qgb]at e;split at e
  ·rename_i l o;cases e;obtain⟨_,rfl,g,f,d⟩:=j.refAt r o;exact .inl ⟨g,SqL.of f,by rw[d.isEmpty]⟩
  ·rename_i m o;cases e;unfold Rw at r;obtain⟨p,f,d⟩:=j.obj n _ o;rw[r.2];refine .inr (.inr ⟨p,f,?_⟩);have:=N7 d;cases m<;>cases p<;>simp at this ⊢
  ·cases e
 |ty _=>cases e
theorem Qfl(m:PM X a ma)(l:∀whole,isTrue a X.env whole=(do let v <-whole;standAt a.pos;holding [v] (truthy v)):=by intro _;rfl):PMT X a (QiG ma):=
 QaT (Qc1 m l) fun s H Q ⟨R,f,h,w,u,j,st,e,k⟩=>by
  obtain⟨⟨a,t⟩,o,q⟩:=Nc.mp e;obtain⟨b,n,p⟩:=Nk.mp q;cases p;exact⟨R,f,h,a,_,j,st,o,fun R1 r x g d i=>⟨_,Qhq d i n,k R1 r g d⟩⟩
end
end Mi

namespace Mi
open L2

noncomputable def Wa:Expr->Bool
 |.ListComp ..=>true
 |.SetComp ..=>true
 |.DictComp ..=>true
 |_=>false
theorem Xz{e:Expr}{t:Option Expr}{l:Nat}{env:Env}(h:Wa e=false):swapsWith e t l env=pure false:=by
 cases e<;>first|rfl|cases h
noncomputable def Jf:SM:=fun a h=>some (.nx a h)
noncomputable def Qs(a b:SM):SM:=fun d h=>(a d h).bind fun r=>match r with|.nx c e=>b c e|r=>some r
noncomputable def JX(m:ME):SM:=fun a h=>(m a h).map fun p=>.rt p.1 p.2
noncomputable def VM(t:MT)(a b:SM):SM:=fun c h=>(t c h).bind fun p=>match p.1 with|true=>a c p.2|false=>b c p.2
noncomputable def ZS(m:ME):SM:=fun a h=>(m a h).map fun p=>.nx a p.2
noncomputable def QQ(i:Nat)(m:ME):SM:=fun a h=>(m a h).map fun p=>.nx (a.set i (some p.1)) p.2
noncomputable def Qmq(i:Nat)(f:W->W->MH->Option (W×MH))(m:ME):SM:=fun a h=>match a[i]? with
 |some (some x)=>(m a h).bind fun p=>(f x p.1 p.2).map fun q=>.nx (a.set i (some q.1)) q.2
 |_=>none
section
variable{X:Cx}{st:Stmt}{rest:List Stmt}{a b:SM}{e:Expr}{m:ME}{pos:Pos}
theorem Qel:QbV X [] Jf:=Qa2 Qfg <|by
 rintro D d H ⟨R,c,h,r,f,s,e,k⟩
 cases e;exact k R H d (Ext.refl _) f s
theorem QhU{K:Nh}{D:L2.Ends}{σ:L2.St}{H:Hp}(q:tS K (Qs a b) D σ H):QkN (tS K a) (tS K b) D σ H:=by
 obtain⟨R,g,h,r,p,s,e,k⟩:=q;obtain⟨j,t,f⟩:=Nc.mp e;refine⟨R,g,h,j,p,s,t,?_⟩;cases j with
 |nx c d=>exact fun R1 u l n i o=>⟨R1,c,d,r,i,o,f,Ends.ext k n⟩
 |rt w d=>cases f;exact k
 |bk c d=>cases f;exact k
 |ct c d=>cases f;exact k
theorem Qc6(h1:PMS X st a)(c:QbV X rest b):QbV X (st::rest) (Qs a b):=Qa2 (Qc8 h1 c) fun _ _ _=>QhU
theorem QeO(h1:PMS X st a):QbV X [st] a:=QeD h1
theorem Qc7(l:PM X e m)(j:Wa e=false:=by rfl):PMS X (.Expr e pos) (ZS m):=Vo (QfY l (Xz j)) <|by
 rintro D g H ⟨R,c,h,r,i,s,e,k⟩
 obtain⟨⟨w,n⟩,p,o⟩:=Nk.mp e;cases o;exact⟨R,c,h,w,n,i,s,p,fun R1 q v f d _=>k R1 q g f d (s.mono f)⟩
theorem Qfz(f:PM X e m):PMS X (.Return (some e) pos) (JX m):=Vo (QgH f) <|by
 rintro D l H ⟨R,c,h,r,d,s,e,k⟩
 obtain⟨⟨w,g⟩,j,i⟩:=Nk.mp e;cases i;exact⟨R,c,h,w,g,d,s,j,k⟩
theorem QgX{c:Expr}{sa sb:List Stmt}{t:MT}(n:PMT X c t)(p:QbV X sa a)(o:QbV X sb b):PMS X (.If c sa sb pos) (VM t a b):=Vo (QiX n p o) <|by
 rintro D u H ⟨R,d,h,r,l,s,e,k⟩
 obtain⟨⟨z,i⟩,q,j⟩:=Nc.mp e;refine⟨R,d,h,z,i,l,s,q,fun R1 v g f=>?_⟩;cases z with
 |true=>exact Qii ⟨R1,d,i,r,f,s.mono g,j,Ends.ext k g⟩
 |false=>exact Qh4 ⟨R1,d,i,r,f,s.mono g,j,Ends.ext k g⟩
theorem QfN{i:Nat}{x:Str}{c:Pos}(hN:X.N.Nodup)(hi:X.N[i]?=some x)(n:Loc X.env.scope x)(q:PM X e m)(o:Wa e=false:=by rfl)(p:X.fn x=true\/X.env.scope.names.lookup x=some .local:=by first|exact .inl rfl|exact .inr rfl|assumption) :
  PMS X (.Assign [.Name x c] e pos) (QQ i m):=Vo (Qgs hN hi n q (Xz o) p) <|by
 rintro D A H ⟨R,d,h,r,l,s,e,k⟩
 obtain⟨⟨w,t⟩,y,u⟩:=Nk.mp e;cases u;exact⟨R,d,h,w,t,l,s,y,fun R1 z v g f j=>k R1 z _ g f ((s.mono g).set j)⟩
end

noncomputable def Qgf(r:Option MF):Option (W×MH):=match r with|some (.rt w h)=>some (w,h)|some (.nx _ h)=>some (.non,h)|_=>none
noncomputable def Zs(more:Nat)(m:SM):FM:=fun a h=>Qgf (m (a.map some++List.replicate more none) h)
theorem Rst.start{K:Nh}{R:Rn}{ws:List W}{vs:List V}{N:List Str}(r:Rws K R ws vs)(k:Nat)(d:N.length=ws.length+k):Rst K R (ws.map some++List.replicate k none) (start N vs):=by
 have c:=r.length;unfold L2.start;refine⟨by simp[d,c],fun i w e=>?_⟩
 by_cases b:i<ws.length
 ·rw[NP (by simpa using b)]at e;rw[NP (by simpa[<-c]using b)];rw[NB]at e ⊢;obtain⟨j,a,h⟩:=Nk.mp e;cases h;obtain⟨v,g,f⟩:=r.get a;exact⟨v,by rw[g];rfl,f⟩
 ·rw[Dn (by simpa using b)]at e;rw[LV]at e;split at e<;>cases e
section
variable{P:Program}{w:World}{K:Nh}{mg:Str->Option Value}{base:Heap}
theorem Qjm{x b:Str}{st:Stmt}{f:Addr}{fd:FuncData}{N ps:List Str}{k more:Nat}{m:SM}(F:Fun K x b st f fd)(S:FnScope N ps (Qg st))(hN:N.length=ps.length+more)
  (g:∀(c:Value) (A:Around) (a:List Env) (s:Shared) (H:Hp) (E:XK),Room k (A.deeper (envOfC b (Qg st) s.heap.objs.size f c))->QbV (QdB CX0 P w K mg base N b (Qg st) f c A a s H E).nox (Js st) m) :
  FnOk P w K mg base CX0 (k+1) f fd ps (spM K ps.length (Zs more m)):=by
 refine F.ok S (fun v H Q E q=>?_) (fun c A a s H v Q E hr q=>?_)
 ·obtain⟨R,u,h,w,z,l,j,d,_⟩:=q;rw[<-d.length];exact l
 ·refine⟨_,g c A a s H E hr,?_⟩;obtain⟨R,u,h,w,z,l,j,d,e,o⟩:=q;have st:=Rst.start (N:=N) d more (by rw[hN,l]);unfold Zs Qgf at e;split at e
  ·rename_i C y n;cases e;exact⟨R,_,h,_,j,st,n,o⟩
  ·rename_i p y n;cases e;exact⟨R,_,h,_,j,st,n,fun R1 B r t i _=>o R1 B .non t i Rw.non⟩
  ·cases e
end
section
variable{X:Cx}{CX:CXT}{k:Nat}{f:Addr}{fd:FuncData}{ps:List Str}{g:FM}{E:XK}{x:Str}{p pos:Pos}{e:Expr}{es:List Expr}{ms:MA}
noncomputable def QB(n:Nat)(g:FM)(ms:MA):ME:=mFn (fun a h=>if a.length=n then g a h else none) ms
theorem Qe6{K:Nh}{n:Nat}{σ:L2.St}{H:Hp}{Q:VK}(q:tI K (QB n g ms) σ H Q):Qgm (spM K n g) [] E (tIA K ms) σ H Q:=by
 refine K2 (U1 q) fun j l ⟨R,h,b,w,i,c,a,e,k⟩=>?_;dsimp only at e;split at e
 ·rename_i d;exact⟨R,b,h,w,i,d,c,by rw[Dx];exact a,e,k⟩
 ·cases e
theorem Qfo(F:FnOk X.prog X.w X.K X.mg X.base CX k f fd ps (spM X.K ps.length g))(hr:Room k X.A)(i:Gl X x)(d:X.mg x=some (.ref f))(h:Fy X.K (.ref f)=true)(l:Binds X.K fd ps [])(c:WP CX X E)
  (m:PMA X (e::es) ms) (b:(x==("__debug__":Str))=false:=by decide) (j:JS e=false:=by rfl) (a:Vv es=true:=by rfl) :
  PM X (.Call (.Name x p) (e::es) [] pos) (QB ps.length g ms):=Q7 (QeJ F hr i d h l .nil c m b (QG j) (Z1 a)) fun _ _ _=>Qe6
end
section
variable{X:Cx}{x:Str}{p pos:Pos}{e:Expr}{es:List Expr}{ms:MA}{id T:String}{r:List V->Hp->VK->Prop}{f:List W->MH->Option (W×MH)}
theorem J9(m:CallR X (.builtin id) r)(j:Qeq X.K r f)(i:Gl X x)(h:X.mg x=none)(d:bootBuiltins x=some (.builtin id))(n:PMA X (e::es) ms)(g:x≠"__name__":=by decide)(b:(x==("__debug__":Str))=false:=by decide)
  (l:JS e=false:=by rfl) (a:Vv es=true:=by rfl):PM X (.Call (.Name x p) (e::es) [] pos) (mFn f ms):=
 Q7 (Qdg m i h d n g b (QG l) (Z1 a)) fun _ _ _ q=>K2 (U1 q) fun _ _ c=>j _ _ _ c
theorem Jb(m:CallR X (.type T) r)(j:Qeq X.K r f)(i:Gl X x)(h:X.mg x=none)(d:bootBuiltins x=some (.type T))(n:PMA X (e::es) ms)(g:x≠"__name__":=by decide)(b:(x==("__debug__":Str))=false:=by decide)
  (l:JS e=false:=by rfl) (a:Vv es=true:=by rfl):PM X (.Call (.Name x p) (e::es) [] pos) (mFn f ms):=
 Q7 (G5 m i h d n g b (QG l) (Z1 a)) fun _ _ _ q=>K2 (U1 q) fun _ _ c=>j _ _ _ c
end
inductive Src where
 |l (n:Nat)
 |d (n:Nat)
 |r (n:Nat)
noncomputable def Src.ok(items:List W)(h:MH):Src->Prop
 |.l n=>h[n]?=some (.lst items)
 |.d n=>∃kvs,h[n]?=some (.dct kvs)/\kvs.map (·.1)=items
 |.r n=>h[n]?=some (.lst items.reverse)
noncomputable def live(src:Option Src)(items:List W)(h:MH):Prop:=∀n,src=some n->n.ok items h
noncomputable abbrev MI:=MSt->MH->Option (List W×Option Src×MH)
structure ItOk(K:Nh)(R:Rn)(J:It)(items:List W)(src:Option Src):Prop where
 go:∀i w R' h H,Ext R R'->Rh K R' h H->live src items h->items[i]?=some w->J.go i H
 yld:∀i w R' h H x H',Ext R R'->Rh K R' h H->live src items h->items[i]?=some w->J.yld i H x H'->∃R'',Ext R' R''/\Rh K R'' h H'/\Rw K R'' w x
 stop:∀i R' h H,Ext R R'->Rh K R' h H->live src items h->items.length<=i->J.stop i H
noncomputable def tII(K:Nh)(m:MI):TI:=fun f H C=>∃R a h items b d,Rh K R h H/\Rst K R a f/\m a h=some (items,b,d)/\∀c e J,Ext R c->Rh K c d e->ItOk K c J items b->C J e
noncomputable def PMI(X:Cx)(a iter:Expr)(m:MI):Prop:=PI X a iter (tII X.K m)
theorem GW{X:Cx}{b iter:Expr}{t t':TI}(h:PI X b iter t)(i:∀σ H C,t' σ H C->t σ H C):PI X b iter t':=fun a s σ H C I q=>h a s σ H C I (i _ _ _ q)
noncomputable abbrev MG:=W->MSt->MH->Option MSt
noncomputable def tIG(K:Nh)(b:MG):TG:=fun v g H C=>∃R a h w c,Rh K R h H/\Rst K R a g/\Rw K R w v/\b w a h=some c/\∀e f d,Ext R e->Rh K e h f->Rst K e c d->C d f
noncomputable def PMG(X:Cx)(a:Expr)(b:MG):Prop:=PG X a (tIG X.K b)
theorem Qd3{X:Cx}{b:Expr}{t t':TG}(h:PG X b t)(i:∀v σ H C,t' v σ H C->t v σ H C):PG X b t':=fun a s σ H v u C I r q=>h a s σ H v u C I r (i _ _ _ _ q)
noncomputable def QF(i:Nat):MG:=fun w a _=>some (a.set i (some w))
theorem Qo{X:Cx}{i:Nat}{x:Str}{pos:Pos}(hN:X.N.Nodup)(hi:X.N[i]?=some x)(d:Loc X.env.scope x)(f:X.fn x=true\/X.env.scope.names.lookup x=some .local:=by first|exact .inl rfl|exact .inr rfl|assumption) :
  PMG X (.Name x pos) (QF i):=Qd3 (QaQ hN hi d f) <|by
 rintro v g H C ⟨R,a,h,w,b,c,st,rw,e,k⟩
 cases e;exact k R H _ (Ext.refl _) c (st.set rw)
open Classical in
noncomputable def VS(items:List W)(src:Option Src)(b:MG)(body:SM):List W->SM
 |[],σ,h=>if live src items h then some (.nx σ h)else none
 | w::r,σ,h=>if live src items h then(b w σ h).bind fun d=>(body d h).bind fun z=>match z with
   |.nx a c=>VS items src b body r a c
   |.ct a c=>VS items src b body r a c
   |.bk a c=>some (.nx a c)
   |.rt v c=>some (.rt v c)
  else none
noncomputable def Zi(mi:MI)(b:MG)(body:SM):SM:=fun a h=>(mi a h).bind fun p=>VS p.1 p.2.1 b body p.1 a p.2.2
section
variable{X:Cx}{tg iter:Expr}{body:List Stmt}{mi:MI}{b:MG}{m:SM}{pos:Pos}
theorem Qim{K:Nh}{D:L2.Ends}{σ:L2.St}{H:Hp}(q:tS K (Zi mi b m) D σ H):Qkr (tII K mi) (tIG K b) (tS K m) D σ H:=by
 obtain⟨R,A,h,r,rh,s,e,k⟩:=q;obtain⟨⟨items,t,h1⟩,e1,e2⟩:=Nc.mp e;refine⟨R,A,h,items,t,h1,rh,s,e1,fun R1 H1 J x1 ab it=>?_⟩;refine⟨fun i n σ H=>i+n=items.length/\∃R2 g l,Ext R1 R2/\Rh K R2 l H/\Rst K R2 g σ/\∃r,VS items t b m (items.drop i) g l=some r/\Ends K R2 D r,⟨items.length,by simp,R1,A,h1,Ext.refl _,ab,s.mono x1,r,by simpa using e2,Ends.ext k x1⟩,?_⟩
 rintro i n E U ⟨af,R2,g,l,I,j,s2,r2,d,M⟩
 by_cases N:i<items.length
 ·obtain⟨w,hw⟩:∃w,items[i]?=some w:=⟨items[i],No N⟩
  have hd:items.drop i=w::items.drop (i+1):=by
   rw[EO N];rw[No N]at hw;cases hw;rfl
  rw[hd]at d;unfold VS at d;split at d
  ·rename_i Q;obtain⟨C,e4,e5⟩:=Nc.mp d;obtain⟨z,e6,S⟩:=Nc.mp e5;refine .inr ⟨it.go i w R2 l U I j Q hw,fun G Y=>∃y B h4,Ext R1 y/\Rh K y h4 Y/\Rst K y B G/\∃r,VS items t b m (items.drop (i+1)) B h4=some r/\Ends K y D r,fun G Y hn=>⟨n-1,by omega,by omega,hn⟩,fun x Y hy=>?_⟩;obtain⟨y,p,aa,Z⟩:=it.yld i w R2 l U x Y I j Q hw hy;refine⟨y,g,l,w,C,aa,s2.mono p,Z,e4,fun R4 H4 ae u X s4=>?_⟩;refine⟨R4,C,l,z,X,s4,e6,?_⟩;cases z with
   |nx f O=>exact fun P H5 a o c L=>⟨P,f,O,I.trans (p.trans (u.trans o)),c,L,r2,S,Ends.ext M (p.trans (u.trans o))⟩
   |ct f O=>exact fun P H5 a o c L=>⟨P,f,O,I.trans (p.trans (u.trans o)),c,L,r2,S,Ends.ext M (p.trans (u.trans o))⟩
   |bk f O=>cases S;exact fun P H5 a o c L=>M P H5 a (p.trans (u.trans o)) c L
   |rt v O=>cases S;exact After.ext M (p.trans u)
  ·cases d
 ·have hd:items.drop i=[]:=Ft (NQ.mp N);rw[hd]at d;unfold VS at d;split at d
  ·rename_i Q;cases d;exact .inl ⟨it.stop i R2 l U I j Q (NQ.mp N),M R2 U E (Ext.refl _) j s2⟩
  ·cases d
theorem Qfx(c:PassesOwn (model X.prog X.w) X.A X.env X.xe)(e:X.calm=true)(hi:PMI X tg iter mi)(d:PMG X tg b)(f:QbV X body m)
  (a:∀x,foldedSetIterable iter X.env x=pure x:=by intro _;rfl):PMS X (.For tg iter body [] pos) (Zi mi b m):=Vo (Qhp c e hi d f a) fun _ _ _=>Qim
end
section
variable{X:Cx}{c:Expr}{body:List Stmt}{t:MT}{m:SM}{pos:Pos}
end
end Mi

namespace Mi
open L2

section
variable{prog:Program}{w:World}{A:Around}{E:Value->Shared->Prop}{R:Result->Shared->Prop}{s:Shared}
theorem WH{t target iter:Expr}{p:List Expr}{e:Scope}{pos:Pos}{it u:Value}{env:Env}(I:Nat->Shared->Prop)
  (y:∀n s,I n s->wpAny (model prog w) A (pyNext it) (fun r d=>match r with
   |none=>R (.ok .next) d
   | some v=>wpAny (model prog w) A (letOwnedTupleGo target it v) (fun _ b=>wpAny (model prog w) A (assign target env v) (fun _ j=>
     wpAny (model prog w) A (forIn p true fun c r=>if r=true then do let ok <-isTrue c env (eval c env);pure (ForInStep.yield ok)else pure (ForInStep.yield r)) (fun ok a=>
      if ok=true then wpAny (model prog w) A (eval t env) (fun x i=>
       wpAny (model prog w) A (call (.builtin "list.append") [u,x]) (fun _ g=>∃m,m<n/\I m g) (fun _ _=>False) i) (fun _ _=>False) a
      else∃m,m<n/\I m a) (fun _ _=>False) j) (fun _ _=>False) b) (fun _ _=>False) d) (fun _ _=>False) s)
  (n:Nat) (h:I n s) :
  codeAny (model prog w) A (.compLoop (.ListComp t [⟨target,iter,p,0⟩] e pos) 0 it u env) R s:=by
 refine codeAny_loop rfl I (fun n s D=>?_) n h;show wpAny _ A ((compTurn (.ListComp t [⟨target,iter,p,0⟩] e pos) 0 it u env).onRaise (fun x=>do noteFrame x env;theTreesLotGoes x)) _ _ s;refine wpAny_noted ?_;rw[compTurn_list];refine Na (OW (Na (N4 (y n s D) (fun r d o=>?_) fun _ _ f=>f.elim)));cases r with
 |none=>exact Nj o
 | some v=>
  refine Na (N4 o (fun _ b q=>?_) fun _ _ f=>f.elim);refine Na (N4 q (fun _ j C=>Na (N4 C (fun ok a l=>?_) fun _ _ f=>f.elim)) fun _ _ f=>f.elim);cases ok with
  |false=>exact Nj ⟨rfl,l⟩
  |true=>
   exact Na (Na (N4 l (fun x i B=>Na (N4 B (fun _ g z=>Nj (Nj ⟨rfl,z⟩)) fun _ _ f=>f.elim)) fun _ _ f=>f.elim))
end

theorem sz{h:Heap}{b:Addr}{o:Obj}{n:Nat}(e:h.get? b=some o)(a:h.objs.size<=n):¬b=n:=fun z=>by
 have c:@LT.lt Nat instLTNat b h.objs.size:=ND e;subst z;exact EG _ (Ng c a)
noncomputable abbrev blk(X:Cx)(a:Scope)(b:List (Str×Addr))(Nb:List Str)(s₀:Shared)(H₀:Hp)(C:Addr)(ex:List Addr)(pn:List (Addr×Obj)):Cx:=
 { X with N:=Nb,s₀:=s₀,H₀:=H₀,env:=compEnvC a b C X.env,outer:=X.stack,stack:=X.stack,ex:=ex,fn:=fun _=>false,pn:=pn,xe:=fun _ _=>False }

structure BlkOk(X:Cx)(scope:Scope)(cl:List (Str×Addr))(Nb:List Str)(cp:List (Option Nat)):Prop where
 clos:closureFor scope X.env=pure cl
 cell:∀y∈scope.names,y.2≠.cell
 kind:scope.kind=.function
 names:∀y∈scope.names,y.2=.local->scope.names.lookup y.1=some .local
 sub:∀x c,cl.lookup x=some c->X.env.cells.lookup x=some c
 has:∀x,((relabel scope X.env).names.lookup x=some .cell\/(relabel scope X.env).names.lookup x=some .free)->∃c,cl.lookup x=some c
 len:cp.length=Nb.length
 cap:∀(i j:Nat) (x:Str),cp[i]?=some (some j)->Nb[i]?=some x->X.N[j]?=some x/\Vis X.env.scope x/\(X.env.kindOf x=some .cell\/X.env.kindOf x=some .free)/\((relabel scope X.env).names.lookup x=some .cell\/(relabel scope X.env).names.lookup x=some .free)

noncomputable def YQ(cp:List (Option Nat))(σ:L2.St):L2.St:=cp.map fun o=>match o with|none=>none|some j=>match σ[j]? with|some v=>v|none=>none

noncomputable def Qcv(l:TI)(cp:List (Option Nat))(g:TG)(tt:TT)(te:TE):TE:=fun f H Q=>l f H fun J p=>∃W:Nat->Nat->List V->L2.St->Hp->Prop,(∃m,W 0 m [] (YQ cp f) p)/\∀i m a e H,W i m a e H ->
 (J.stop i H/\∀D,H D=none->Q (.ref D) (upd H D (.lst a))) \/
 (J.go i H/\∀x j,J.yld i H x j->g x e j fun c o=>tt c o fun b h=>if b=true then te c h fun v n=>a.length<sizeLine/\∃d,d<m/\W (i+1) d (a++[v]) c n else∃d,d<m/\W (i+1) d a c h)

theorem Inv.track{X:Cx}{d:List (Addr×Obj)}{σ:L2.St}{H:Hp}{s:Shared}{D:Addr}{o:HO}(I:Inv X d σ H s)(g:H D=none)(h0:X.s₀.heap.objs.size<=D)(l:X.env.locals≠D)(j:∀x c,X.env.cells.lookup x=some c->c≠D)
  (i:∀p∈X.pn++d,p.1≠D) (ob:ObjOk X.prog X.w (upd H D o) s.heap D o):Inv X d σ (upd H D o) s where
 ok:=I.ok
 os:=I.os
 bare:=I.bare
 base:={
  keep:=I.base.keep
  slot:=I.base.slot
  free:=fun b q e n nx=>by
   have:b≠D:=sz e h0;rw[Qt this];exact I.base.free b q e n nx
  there:=I.base.there
  tups:=fun b h e=>by
   have q:=I.base.tups b h e;rw[Qt (fun z=>by rw[z,g]at q;cases q)];exact q
  frzs:=fun b q u e=>by
   have z:=I.base.frzs b q u e;rw[Qt (fun y=>by rw[y,g]at z;cases z)];exact z
  tbls:=fun b ps e=>by
   obtain⟨more,q⟩:=I.base.tbls b ps e
   exact⟨more,by rw[Qt (fun z=>by rw[z,g]at q;cases q)];exact q⟩ }
 loc:=I.loc
 cell:=I.cell
 free:=by rw[Qt l];exact I.free
 freeC:=fun x c e=>by rw[Qt (j x c e)];exact I.freeC x c e
 pin:=fun p f=>by
  obtain⟨a,b,c⟩:=I.pin p f;exact⟨a,by rw[Qt (i p f)];exact b,c⟩
 hok:=fun a u e=>by
  by_cases z:a=D
  ·subst z;rw[ZW]at e;cases e;exact ob
  ·rw[Qt z]at e;refine(I.hok a u e).stay (fun _ _ _ q=>q) (fun b q=>?_) (fun b h q=>?_)
   ·rw[Qt (fun y=>by rw[y,g]at q;cases q)];exact q
   ·rw[Qt (fun y=>by rw[y,g]at q;cases q)];exact q
 len:=I.len

section
variable{X:Cx}{elt tg iter:Expr}{ifs:List Expr}{scope:Scope}{pos:Pos}{cl:List (Str×Addr)}{Nb:List Str}{cp:List (Option Nat)}{wi:TI}{g:TG}{tt:TT}{te:TE}

theorem Cx.Ok.blk{d:List (Addr×Obj)}{σ:L2.St}{H:Hp}{s:Shared}{C:Addr}{j:List Addr}{m:List (Addr×Obj)}(B:BlkOk X scope cl Nb cp)(I:Inv X d σ H s)(f:∀b∈j,Gy X d H b)(i:∀b∈j,b<s.heap.objs.size)(l:s.heap.objs.size<=C) :
  (blk X scope cl Nb s H C j m).Ok where
 mod:=I.ok.mod
 kind:=B.kind
 glob:=I.ok.glob
 blt:=I.ok.blt
 above:=l
 inj:=fun x y c p n=>I.ok.inj x y c (B.sub x c p) (B.sub y c n)
 has:=fun x h=>B.has x h
 cab:=fun x c h=>absurd h (by simp)
 hd:=I.ok.hd
 frames:=I.ok.frames
 stk:=.inl rfl
 exf:=fun b a=>⟨fun z=>by have:=i b a;rw[z]at this;exact absurd l (Fm.mpr this),fun x c e=>(f b a).2.2.2.2.1 x c (B.sub x c e)⟩
 bs:=I.bs
 bsz:=Nf I.ok.bsz I.sz
 noex:=fun b o e a=>by
  rcases(f b a).2.2.2.1 with z|z
  ·exact I.ok.noex b o e z
  ·exact sz e (Nf I.ok.bsz z) rfl
 exfs:=fun b a z=>by
  have:=I.stkSub b z
  rcases NF.mp this with q|q
  ·exact(f b a).2.1 q
  ·exact(f b a).2.2.1 q
 funs:=I.stack
 frf:=fun b a=>I.stkFree b a

theorem QbE{cp:List (Option Nat)}{σ:L2.St}{i:Nat}{v:V}(e:(YQ cp σ)[i]?=some (some v)):∃j,cp[i]?=some (some j)/\σ[j]?=some (some v):=by
 unfold YQ at e;rw[NB]at e;obtain⟨o,b,a⟩:=Nk.mp e;cases o with
 |none=>cases a
 |some j=>
  refine⟨j,b,?_⟩;simp only at a;split at a
  ·rename_i u hu;rw[hu,a]
  ·cases a

theorem Inv.blk{f:List (Addr×Obj)}{σ:L2.St}{H:Hp}{s:Shared}{C:Addr}{O:List Addr}{h':Heap}{m:Str->Option Value}{tk:Nat}(B:BlkOk X scope cl Nb cp)(I:Inv X f σ H s)(Q:∀b∈O,Gy X f H b)(G:∀b∈O,b<s.heap.objs.size)
  (L:s.heap.objs.size<=C) (D:h'.Ns C m) (y:∀b o,s.heap.get? b=some o->h'.get? b=some o):Inv (Mi.blk X scope cl Nb s H C O (X.pn++f)) [] (YQ cp σ) H { s with heap:=h',toks:=tk } where
 ok:=Cx.Ok.blk B I Q G L
 os:=rfl
 bare:=I.bare
 base:=Un.kept y
 loc:=by
  refine⟨m,D,fun i x v hN e hv=>?_⟩;obtain⟨j,Z,Y⟩:=QbE e;obtain⟨U,t,E,w⟩:=B.cap i j x Z hN;obtain⟨m0,n0,lk⟩:=I.loc;obtain⟨u,r,l⟩:=lk j x v U Y t;refine⟨u,r,?_⟩
  rcases l with⟨h,_⟩|⟨_,c,S,n⟩
  ·rcases E with z|z<;>rw[z]at h<;>cases h
  ·refine .inr ⟨w,?_⟩;obtain⟨g,A⟩:=B.has x w;have:=B.sub x g A;rw[S]at this;cases this
   exact⟨c,A,by
    obtain⟨o,N,M⟩:=n
    exact⟨o,y _ _ N,M⟩⟩
 cell:=fun x c e=>by
  obtain⟨v,o,N,M⟩:=I.cell x c (B.sub x c e);exact⟨v,o,y _ _ N,M⟩
 free:=I.hok.fresh L
 freeC:=fun x c e=>I.freeC x c (B.sub x c e)
 pin:=fun p P=>by
  rw[Dx]at P;obtain⟨a,b,c,d,e⟩:=I.pin p P;refine⟨y _ _ a,b,fun z=>?_,fun z=>?_,e⟩
  ·have:=ND a;rw[z]at this;exact absurd L (Fm.mpr this)
  ·rcases NF.mp (I.stkSub _ z)with q|q
   ·exact c q
   ·exact d q
 hok:=I.hok.kept y
 len:=by unfold YQ;rw[Ny];exact B.len

noncomputable def Qi5(X:Cx)(a:List (Addr×Obj))(σ:L2.St)(use:Option (Value->Sem Unit))(Q:VK)(Q':Value->Shared->Prop):Prop:=
 ∀(D C:Addr) (d:Hp) (b:Shared) (m:Str->Option Value),Inv X a σ d b->b.heap.Ns C m->d C=none->¬C=X.env.locals->X.s₀.heap.objs.size<=C->(∀x c,X.env.cells.lookup x=some c->c≠C)->(∀p∈X.pn++a,p.1≠C)->Q (.ref D) d ->
  compPost (model X.prog X.w) X.A X.xe use Q' (.ref D) C (.ok .next) b
theorem Uo{use:Option (Value->Sem Unit)}{Q':Value->Shared->Prop}{j:List (Addr×Obj)}{s:Shared}{σ:L2.St}{H:Hp}{Q:VK}{a1:Pos}(hc:X.calm=true)(B:BlkOk X scope cl Nb cp)(hi:PI X tg iter wi)(hg:∀P U C ex pn,PG (Mi.blk X scope cl Nb P U C ex pn) tg g)
  (ht:∀P U C ex pn,∀(j:List (Addr×Obj)) (s:Shared) (τ:L2.St) (H:Hp) (Q:Bool->Hp->Prop),Inv (Mi.blk X scope cl Nb P U C ex pn) j τ H s->tt τ H Q ->
   wpAny (model X.prog X.w) X.A (forIn ifs true fun c r=>if r=true then do let ok <-isTrue c (compEnvC scope cl C X.env) (eval c (compEnvC scope cl C X.env));pure (ForInStep.yield ok)else pure (ForInStep.yield r)) (TP (Mi.blk X scope cl Nb P U C ex pn) j τ Q) (fun _ _=>False) s)
  (he:∀P U C ex pn,PE (Mi.blk X scope cl Nb P U C ex pn) elt te) (hs:∀x,foldedSetIterable iter X.env x=pure x)
  (I:Inv X j σ H s) (h:Qcv wi cp g tt te σ H Q) (a5:Qi5 X j σ use Q Q') :
  wpAny (model X.prog X.w) X.A (comprehension (.ListComp elt [⟨tg,iter,ifs,0⟩] scope pos) scope X.env a1 (newList []) false (eval iter X.env) use) Q' X.xe s:=by
 refine wpAny_comprehension_free (use:=use) rfl hs B.clos B.kind B.names (N4 (hi j s σ H _ I h) (fun xv bq Z=>N4 Z (fun br f a2=>?_) fun _ _ e=>e) fun _ _ e=>e);obtain⟨it,fp,tn,J,H2,rfl,I2,T,aq,f2,W,⟨m0,w0⟩,ax⟩:=a2
 have as:∀b∈fp,b<f.heap.objs.size:=fun b E=>by
  obtain⟨o,e,_⟩:=T.obj _ _ aq b E;exact ND e
 refine Eh (wpAny_newFunctionEnv B.cell (by intro y hy;simp at hy) (fun Z N G=>?_) B.kind);dsimp only at N G ⊢;generalize au:f.heap.push { cls:=.type "list",dict:=none,data:=.seq ([]:List Value).toArray }=G2 at N G ⊢;have ak:G2.objs.size=f.heap.objs.size+1:=by rw[<-au,F8]
 generalize bi:G2.objs.size=C at N G ⊢;rw[bi]at ak;have ab:f.heap.objs.size<=C:=by exact Nf (Np _ _) (Nq ak.symm)
 have ah:f.heap.objs.size≠C:=by exact NS (Ng (EI _) (Nq ak.symm))
 have old:∀b o,f.heap.get? b=some o->Z.get? b=some o:=fun b o e=>G.extBut b o (sz e ab) (Nn _ (au▸Nn _ e));have am:Z.get? f.heap.objs.size=some { cls:=.type "list",data:=.seq ([]:List Value).toArray }:=G.extBut _ _ ah (Nn _ (au▸NA _ rfl));generalize hD:f.heap.objs.size=D at am ah ab ak ⊢;have m:f.heap.objs.size<=D:=Nq hD;have O:f.heap.objs.size<=C:=Nf m ab
 -- ay ba context
 have I3:=Inv.blk (tk:=f.toks+([]:List (Str×Value)).length) B I2 f2 as (C:=C) (Nf (Nq hD) ab) N old;have an:D∉fp:=fun z=>EG _ (Ng (as D z) m);have a6:C∉fp:=fun z=>EG _ (Ng (as C z) O)
 -- D in ay block: not a a7,not a bc,not pinned
 have aw:∀x c,cl.lookup x=some c->c≠D:=fun x c e z=>by
  obtain⟨v,o,h3,_⟩:=I2.cell x c (B.sub x c e);exact sz h3 m z
 have ao:∀p∈X.pn++j,p.1≠D:=fun p S z=>sz (I2.pin p S).1 m z;have a9:∀p∈X.pn++j,p.1≠C:=fun p S z=>sz (I2.pin p S).1 O z
 have bm:D∉frs X.stack:=fun z=>by
  rcases NF.mp (I2.stkSub _ z)with q|q
  ·exact EG _ (Ng (q▸I2.lt:D<f.heap.objs.size) m)
  ·exact I2.nofs m q
 have ai:∀{t:Hp} {pl:List (Addr×Obj)},(∀b∈fp,t b=none)->(∀p∈pl,p.1=D)->∀b∈fp,Gy (Mi.blk X scope cl Nb f H2 C fp (X.pn++j)) pl t b:=fun {t pl} hn bf b E=>
  ⟨hn b E,fun(z:b=C)=>a6 (z▸E),fun z=>by
   rcases NF.mp (I2.stkSub _ z)with q|q
   ·exact(f2 b E).2.1 q
   ·exact(f2 b E).2.2.1 q,.inl E,fun x c e=>(f2 b E).2.2.2.2.1 x c (B.sub x c e),fun p S z=>by
   rcases NO.mp S with q|q
   ·exact(f2 b E).2.2.2.2.2 p q z
   ·rw[bf p q]at z;exact an (z▸E)⟩
 have bt:∀{t:Hp},(∀b∈fp,t b=none)->∀b∈fp,Gy X j t b:=fun hn b E=>⟨hn b E,(f2 b E).2⟩
 -- ay end
 have fin:∀{τ:L2.St} {t:Hp} {M:Shared} {L:List V} {l:List Value} {n:Nat} {mC:Str->Option Value},Inv (Mi.blk X scope cl Nb f H2 C fp (X.pn++j)) [] τ t M->t D=none->M.heap.get? D=some { cls:=.type "list",data:=.seq l.toArray n }->Vals L l->L.length<=sizeLine->M.heap.Ns C mC ->
   (∀D,t D=none->Q (.ref D) (upd t D (.lst L)))->compPost (model X.prog X.w) X.A X.xe use Q' (.ref D) C (.ok .next) M:=by
  intro τ t M L l n mC Ib aj av r hz bg q;have Ie:Inv X j σ t M:=I2.call' (ch:=fp) (Ib.os) Ib.base Ib.hok Ib.bare fun b E=>⟨(f2 b E).2.2.2.1,(f2 b E).2.1,(f2 b E).2.2.2.2.1,(f2 b E).2.2.2.2.2⟩
  have a3:X.s₀.heap.objs.size<=f.heap.objs.size:=I2.sz
  have It:Inv X j σ (upd t D (.lst L)) M:=Inv.track Ie aj (Nf a3 m) (fun z=>EG _ (Ng (z▸I2.lt:D<f.heap.objs.size) m)) (fun x c e z=>by
   obtain⟨v,o,h3,_⟩:=I2.cell x c e
   exact sz h3 m z) ao ⟨hz,l,n,r,av⟩
  exact a5 D C _ M mC It bg (by rw[Qt (DH ah)];exact Ib.free) (fun z=>EG _ (Ng (z▸I2.lt:C<f.heap.objs.size) O)) (Nf a3 O) (fun x c e z=>by
   obtain⟨v,o,h3,_⟩:=I2.cell x c e
   exact sz h3 O z) a9 (q D aj)
 have al:∀af:Shared,af={ f with heap:=Z,toks:=f.toks+([]:List (Str×Value)).length } ->
   codeAny (model X.prog X.w) X.A (.compLoop (.ListComp elt [⟨tg,iter,ifs,0⟩] scope pos) 0 (.ref it) (.ref D) (compEnvC scope cl C X.env))
    (compPost (model X.prog X.w) X.A X.xe use Q' (.ref D) C) af:=by
  rintro af rfl
  refine WH (fun n M=>∃i τ t L l k,Inv (Mi.blk X scope cl Nb f H2 C fp (X.pn++j)) [] τ t M/\tn i M.heap/\(∀b∈fp,t b=none)/\t D=none/\M.heap.get? D=some { cls:=.type "list",data:=.seq (l:List Value).toArray k }/\Vals L l/\L.length<=sizeLine/\W i n L τ t) ?_ m0
   ⟨0,YQ cp σ,H2,[],[],_,I3,T.keep _ _ _ aq (fun b E o e=>old b o e),fun b E=>(f2 b E).1,I2.hok.fresh m,am,.nil,NM _,w0⟩
  rintro n s3 ⟨i,τ,H3,L,l,k,Ib,az,a8,aj,av,r3,ar,w3⟩
  have a0:∀{Y:L2.St} {t:Hp} {M:Shared},Inv (Mi.blk X scope cl Nb f H2 C fp (X.pn++j)) [] Y t M->t D=none->M.heap.get? D=some { cls:=.type "list",data:=.seq l.toArray k } ->
    Inv (Mi.blk X scope cl Nb f H2 C fp (X.pn++j)) [(D,{ cls:=.type "list",data:=.seq l.toArray k })] Y t M:=fun {Y t M} I' hn ho=>I'.pins_of fun p S=>by
   rw[NG]at S;subst S;exact⟨ho,hn,ah,bm,by intro v;simp⟩
  have bb:=a0 Ib aj av;have aa:∀p∈[(D,({ cls:=.type "list",data:=.seq l.toArray k }:Obj))],p.1=D:=fun p S=>by rw[NG]at S;subst S;rfl
  have bd:∀{Y:L2.St} {t:Hp} {M:Shared},Inv (Mi.blk X scope cl Nb f H2 C fp (X.pn++j)) [(D,{ cls:=.type "list",data:=.seq l.toArray k })] Y t M->M.heap.get? D=some { cls:=.type "list",data:=.seq l.toArray k }/\t D=none:=fun I'=>by
   obtain⟨a,b,_⟩:=I'.pin (D,_) (Ea _ (NG.mpr rfl));exact⟨a,b⟩
  rcases ax i n L τ H3 w3 with⟨stop,qn⟩|⟨go,step⟩
  ·refine N4 (T.done (Mi.blk X scope cl Nb f H2 C fp (X.pn++j)) rfl rfl rfl hc i _ s3 τ H3 (fun _ _=>False) bb (ai a8 aa) az stop) (fun r s4 ⟨hr,I4⟩=>?_) fun _ _ z=>z.elim;subst hr;obtain⟨o4,n4⟩:=bd I4;obtain⟨m4,be,_⟩:=I4.loc;have bp:Inv (Mi.blk X scope cl Nb f H2 C fp (X.pn++j)) [] τ H3 s4:=I4.pins_of fun p S=>by cases S
   exact fin bp n4 o4 r3 ar be qn
  ·refine N4 (T.item (Mi.blk X scope cl Nb f H2 C fp (X.pn++j)) rfl rfl rfl hc i _ s3 τ H3 (fun _ _=>False) bb (ai a8 aa) az go) (fun r s4 ⟨u,hr,h4⟩=>?_) fun _ _ z=>z.elim;subst hr;refine N4 h4 (fun _ s5 ⟨x,H5,I5,r5,y5,ap,bj⟩=>?_) fun _ _ z=>z.elim;have bo:=I5.pinned (ai bj aa) (T.obj _ _ ap);refine N4 (hg f H2 C fp (X.pn++j) _ s5 τ H5 x u _ bo r5 (step x H5 y5)) (fun _ s6 ⟨ae,H6,I6,q6⟩=>?_) fun _ _ z=>z.elim;refine N4 (ht f H2 C fp (X.pn++j) _ s6 ae H6 _ I6 q6) (fun ok s7 ⟨H7,I7,q7⟩=>?_) fun _ _ z=>z.elim
   have ag:∀{Y:L2.St} {t:Hp} {M:Shared},Inv (Mi.blk X scope cl Nb f H2 C fp (X.pn++j)) ([(D,{ cls:=.type "list",data:=.seq l.toArray k })]++Yv fp s5.heap) Y t M->tn (i+1) M.heap/\(∀b∈fp,t b=none)/\M.heap.get? D=some { cls:=.type "list",data:=.seq l.toArray k }/\t D=none:=fun {Y t M} I'=>by
    refine⟨T.keep _ _ _ ap fun b E o e=>(I'.pin (b,o) (Ea _ (Ea _ (Vj E e)))).1,fun b E=>?_,?_⟩
    ·obtain⟨o,e,d⟩:=T.obj _ _ ap b E;exact(I'.pin (b,o) (Ea _ (Ea _ (Vj E e)))).2.1
    ·obtain⟨a,b,_⟩:=I'.pin (D,{ cls:=.type "list",data:=.seq l.toArray k }) (Ea _ (Du _ (NG.mpr rfl)));exact⟨a,b⟩
   cases ok with
   |false=>
    rw[if_neg Eb]at q7 ⊢;obtain⟨m',hm,w7⟩:=q7;obtain⟨t7,f7,o7,n7⟩:=ag I7;exact⟨m',hm,i+1,ae,H7,L,l,k,I7.pins_of (fun p S=>by cases S),t7,f7,n7,o7,r3,ar,w7⟩
   | true=>
    rw[if_pos rfl]at q7 ⊢;refine N4 (he f H2 C fp (X.pn++j) _ s7 ae H7 _ I7 q7) (fun y s8 ⟨v8,H8,I8,r8,bh,m',hm,w8⟩=>?_) fun _ _ z=>z.elim;obtain⟨t8,f8,o8,n8⟩:=ag I8;have a4:=r3.length;refine FJ IH ⟨_,o8,rfl⟩ O3 (OH _ _) (Yas D l.toArray k y (by rw[Nt];exact Nf (Nq a4.symm) ar)) ⟨o8,?_⟩;have q:=YaE o8 (·.push y);have hf:l.toArray.push y=(l++[y]).toArray:=by simp
    rw[hf]at q;have bn:Inv (Mi.blk X scope cl Nb f H2 C fp (X.pn++j)) [] ae H8 s8:=I8.pins_of fun p S=>by cases S
    have I9:Inv (Mi.blk X scope cl Nb f H2 C fp (X.pn++j)) [] ae H8 { s8 with heap:=s8.heap.update D (Obj.mapSeq (·.push y)),toks:=s8.toks }:=
     bn.turned (it:=D) (fun b o E e=>(EF s8.heap (Obj.mapSeq (·.push y)) (DH E)).trans e) n8 ah (.inr m) (fun x c e=>aw x c e) fun p S=>by
      rw[Dx]at S;exact ao p S
    refine⟨m',hm,i+1,ae,H8,L++[v8],l++[y],_,I9,T.keep _ _ _ t8 (fun b E o e=>(EF s8.heap (Obj.mapSeq (·.push y)) (fun(z:D=b)=>an (z▸E))).trans e),f8,n8,q,r3.append (.cons r8 .nil),by rw[Nv,Ec];exact bh,w8⟩
 exact codeAny_compStart_list (al _ rfl) (T.self _ 0 _ _ _ (T.keep _ _ _ aq (fun b E o e=>old b o e)) (al _ rfl))
theorem G4(M:X.calm=true)(B:BlkOk X scope cl Nb cp)(hi:PI X tg iter wi)(G:∀a d C l j,PG (Mi.blk X scope cl Nb a d C l j) tg g)
  (v:∀a d C l j,∀(f:List (Addr×Obj)) (s:Shared) (n:L2.St) (H:Hp) (Q:Bool->Hp->Prop),Inv (Mi.blk X scope cl Nb a d C l j) f n H s->tt n H Q ->
   wpAny (model X.prog X.w) X.A (forIn ifs true fun c r=>if r=true then do let ok <-isTrue c (compEnvC scope cl C X.env) (eval c (compEnvC scope cl C X.env));pure (ForInStep.yield ok)else pure (ForInStep.yield r)) (TP (Mi.blk X scope cl Nb a d C l j) f n Q) (fun _ _=>False) s)
  (L:∀a d C l j,PE (Mi.blk X scope cl Nb a d C l j) elt te) (y:∀x,foldedSetIterable iter X.env x=pure x:=by intro _;rfl) :
  PE X (.ListComp elt [⟨tg,iter,ifs,0⟩] scope pos) (Qcv wi cp g tt te):=by
 intro f s Z H Q I h;rw[eval_ListComp];refine Uo M B hi G v L y I h fun D C Y u m U p E O P i z q=>⟨m,p,fun S t=>?_⟩
 exact⟨.ref D,Y,U.turned (t':=u.toks) (it:=C) (fun b o N e=>t.extBut b o N e) E O (.inr P) i z,rfl,q⟩
theorem Qa1{i:Nat}{x:Str}{j p:Pos}(hN:X.N.Nodup)(S:X.N[i]?=some x)(hx:Loc X.env.scope x)(hf:X.fn x=true\/X.env.scope.names.lookup x=some .local)(M:swapsWith (.ListComp elt [⟨tg,iter,ifs,0⟩] scope pos) (some (.Name x j)) p.line X.env=pure true)
  (hc:X.calm=true) (B:BlkOk X scope cl Nb cp) (hi:PI X tg iter wi) (hg:∀d f C u t,PG (Mi.blk X scope cl Nb d f C u t) tg g)
  (ht:∀d f C u t,∀(l:List (Addr×Obj)) (s:Shared) (G:L2.St) (H:Hp) (Q:Bool->Hp->Prop),Inv (Mi.blk X scope cl Nb d f C u t) l G H s->tt G H Q ->
   wpAny (model X.prog X.w) X.A (forIn ifs true fun c r=>if r=true then do let ok <-isTrue c (compEnvC scope cl C X.env) (eval c (compEnvC scope cl C X.env));pure (ForInStep.yield ok)else pure (ForInStep.yield r)) (TP (Mi.blk X scope cl Nb d f C u t) l G Q) (fun _ _=>False) s)
  (he:∀d f C u t,PE (Mi.blk X scope cl Nb d f C u t) elt te) (hs:∀x,foldedSetIterable iter X.env x=pure x:=by intro _;rfl) :
  PS X (.Assign [.Name x j] (.ListComp elt [⟨tg,iter,ifs,0⟩] scope pos) p) (QiI (Qcv wi cp g tt te) (QbL i)):=by
 intro l s σ H D I h;rw[exec_Assign_Name_used _ _ _ _ M];refine Na (OW (Na ?_));show wpAny _ X.A (do let _ <-comprehension (.ListComp elt [⟨tg,iter,ifs,0⟩] scope pos) scope X.env _ (newList []) false (eval iter X.env) (some (assign (.Name x j) X.env))) _ _ s;refine Na (N4 (Uo (use:=some (assign (.Name x j) X.env)) (Q':=fun _ E=>SP X l D .next E) hc B hi hg ht he hs I h fun Y C H' E m I' O hn U h0 n hp q=>?_) (fun _ E hq=>Nj (Nj hq)) fun _ _ e=>e);show wpAny _ X.A (assign (.Name x j) X.env (.ref Y)) _ _ E;refine wpAny_assign_Name (YK (v:=.ref Y) I' hN S hx rfl (fun s5 I5 ⟨a,Z,y⟩=>?_) hf)
 have P:C≠a:=fun z=>by
  rcases y with y|y
  ·exact U (z.trans y)
  ·exact n x a y z.symm
 exact⟨m,O.sameBut Z P,fun aa L=>⟨_,H',I5.turned (t':=s5.toks) (it:=C) (fun b o hb e=>L.extBut b o hb e) hn U (.inr h0) n hp,q⟩⟩
end
end Mi

namespace Mi
open L2

noncomputable def IterR(X:Cx)(c:Expr)(r:V->Hp->(It->Hp->Prop)->Prop):Prop:=
 ∀(a:List (Addr×Obj)) (s:Shared) (b:L2.St) (H:Hp) (x:V) (v:Value) (C:It->Hp->Prop),Inv X a b H s->RelV x v->r x H C->wpAny (model X.prog X.w) X.A (pyIter v) (PIE X a b c C) X.xe s
section
variable{X:Cx}{tg:Expr}
theorem IterR.or{r d:V->Hp->(It->Hp->Prop)->Prop}(h:IterR X tg r)(h':IterR X tg d):IterR X tg (fun x H C=>r x H C\/d x H C):=fun a s b H x v C I c q=>by
 rcases q with q|q
 ·exact h a s b H x v C I c q
 ·exact h' a s b H x v C I c q
theorem it_list:IterR X tg (fun x H C=>∃a,x=.ref a/\(∃xs,SqL X.K H a xs)/\C (Itl X.K a) H):=by
 intro d c m l x v C I1 f g;obtain⟨a,e,⟨xs,i⟩,q⟩:=g;subst e;cases f;obtain⟨h,r,p,s⟩:=I1.list i;refine Ly p.isList ?_;refine⟨c.heap.objs.size,[c.heap.objs.size],_,_,l,rfl,I1.kept (t':=c.toks) fun b o e=>Nn _ e,Qa5 a _,⟨_,NA _ rfl,rfl,rfl⟩,fun b j=>?_,q⟩;have e:b=c.heap.objs.size:=by simpa using j
 subst e;exact I1.fpOk (Nu _) (I1.hok.fresh (Nu _))
theorem Qil:IterR X tg (fun x H C=>∃a,x=.ref a/\(∃xs,SqT X.K H a xs)/\C (Itt X.K a) H):=by
 intro f c m l x v C I1 g h;obtain⟨a,e,⟨xs,i⟩,q⟩:=h;subst e;cases g;obtain⟨d,r,p,s⟩:=I1.tuple i;refine FW (show c.heap.IsTuple a d.toArray from p) ?_;refine⟨c.heap.objs.size,[c.heap.objs.size],_,_,l,rfl,I1.kept (t':=c.toks) fun b o e=>Nn _ e,Gr a _,⟨_,NA _ rfl,rfl,rfl⟩,fun b j=>?_,q⟩;have e:b=c.heap.objs.size:=by simpa using j
 subst e;exact I1.fpOk (Nu _) (I1.hok.fresh (Nu _))
noncomputable def Its(x:Str):It:=⟨fun i _=>i<x.cps.size,fun i H v a=>a=H/\∃c,x.cps[i]?=some c/\v=.str ⟨#[c]⟩,fun i _=>x.cps.size<=i⟩
noncomputable def YI(x:Str):List W:=x.cps.toList.map fun c=>.str ⟨#[c]⟩
theorem QcL{P:Program}{w:World}{K:Nh}{tg:Expr}(it:Addr)(x:Str)(ty:String)(t:Tok)(f:ty="str_ascii_iterator"\/ty="str_iterator") :
  Turn P w K tg (Its x) [it] it (fun i h=>i<=x.cps.size/\h.IsStrIter it ty x t i) where
 mem:=by simp
 obj:=fun i h st b j=>by
  have e:b=it:=by simpa using j
  subst e;obtain⟨_,o,e,c,d⟩:=st;exact⟨o,e,fun v z=>by rw[d]at z;cases z⟩
 keep:=fun i h l st k=>⟨st.1,let⟨o,ho,r⟩:=st.2;⟨o,k it (by simp) o ho,r⟩⟩
 item:=by
  intro X N hw O M i a s L H E I q st p;subst N hw O;obtain⟨hi,st⟩:=st;obtain⟨G,f1,f2,D,C,B⟩:=q it (by simp);have g:i<x.cps.size:=p;have m:x.cps[i]?=some (x.cps[i]'g):=NI g
  have fin:∀l:Heap,l.IsStrIter it ty x t (i+1)->Heap.SameBut it s.heap l->∃u,some (Value.str ⟨#[x.cps[i]'g]⟩ s.toks)=some u/\wpAny (model X.prog X.w) X.A (letOwnedTupleGo tg (.ref it) u) (fun _ U=>∃y S,Inv X a L S U/\RelV y u/\(Its x).yld i H y S/\(i+1<=x.cps.size/\U.heap.IsStrIter it ty x t (i+1))/\∀b∈[it],S b=none) E { s with heap:=l,toks:=s.toks+1 }:=fun l n Z=>by
   have I1:Inv X a L H { s with heap:=l,toks:=s.toks+1 }:=I.turned (fun b o j e=>(Z.2 b j).trans e) G f1 D C B;obtain⟨o,e,c,d⟩:=id n;refine⟨_,rfl,UO (s:={ s with heap:=l,toks:=s.toks+1 }) e c d (by rcases f with z|z<;>rw[z]<;>decide) ⟨.str ⟨#[x.cps[i]'g]⟩,H,I1,⟨_,rfl⟩,⟨rfl,_,m,rfl⟩,⟨p,n⟩,fun b j=>(q b j).1⟩⟩
  rcases f with z|z
  ·subst z;exact wpAny_pyNext_ascii_item st m fin
  ·subst z;exact wpAny_pyNext_wide_item st m fin
 done:=by
  intro X N hw O M i a s L H E I q st p;subst N hw O;obtain⟨hi,st⟩:=st;obtain⟨G,f1,f2,D,C,B⟩:=q it (by simp);have m:x.cps[i]?=none:=by have:x.cps.size<=i:=p;simp;exact this
  rcases f with z|z
  ·subst z;exact wpAny_pyNext_ascii_end (I.ok.hd M) st m fun l Q=>⟨rfl,I.turned (t':=s.toks) (fun b o j e=>Q b o j e) G f1 D C B⟩
  ·subst z;exact wpAny_pyNext_wide_end (I.ok.hd M) st m fun l Q=>⟨rfl,I.turned (t':=s.toks) (fun b o j e=>Q b o j e) G f1 D C B⟩
 self:=fun _ _ _ _ _ st h=>by
  rcases f with z|z
  ·subst z;exact wpAny_pyIter_striter_ascii st.2 h
  ·subst z;exact wpAny_pyIter_striter_wide st.2 h
theorem Qh0:IterR X tg (fun x H C=>∃y,x=.str y/\C (Its y) H):=by
 intro c a g l x v C I1 h i;obtain⟨y,rfl,q⟩:=i;obtain⟨t,rfl⟩:=h
 have fin:∀ty,(ty="str_ascii_iterator"\/ty="str_iterator")->PIE X c g tg C (.ref a.heap.objs.size) { a with heap:=a.heap.push { cls:=.type ty,data:=.fields #[.str y t,.int 0 0] } }:=fun ty d=>by
  refine⟨a.heap.objs.size,[a.heap.objs.size],_,_,l,rfl,I1.kept (t':=a.toks) fun b o e=>Nn _ e,QcL _ y ty t d,⟨NM _,_,NA _ rfl,rfl,rfl⟩,fun b j=>?_,q⟩;have e:b=a.heap.objs.size:=by simpa using j
  subst e;exact I1.fpOk (Nu _) (I1.hok.fresh (Nu _))
 cases f:y.cps.all (·<128)
 ·exact wpAny_pyIter_wide f (fin _ (.inr rfl))
 ·exact wpAny_pyIter_ascii f (fin _ (.inl rfl))
end
noncomputable def QdG(h:MH):W->Option (List W×Option Src)
 |.tup ws=>some (ws,none)
 |.lst ws=>some (ws,none)
 |.frz ws=>some (ws,none)
 |.str x=>some (YI x,none)
 |.ref n=>match h[n]? with|some (.lst ws)=>some (ws,some (.l n))|_=>none
 |_=>none
noncomputable def QC(m:ME):MI:=fun a h=>(m a h).bind fun p=>(QdG p.2 p.1).map fun q=>(q.1,q.2,p.2)
section
variable{K:Nh}{R:Rn}
theorem Y4{a:Addr}{xs:List V}{ws:List W}(d:SqL K R.F a xs)(r:Rws K R ws xs):ItOk K R (Itl K a) ws none where
 go:=fun i w j h H x c _ e=>by
  obtain⟨v,g,_⟩:=r.get e;exact⟨xs,v,ZB (fun b o z=>c.sub b o (x.f b o z)) d,g⟩
 yld:=fun i w j h H x s e c _ q l=>by
  obtain⟨rfl,m⟩:=l;obtain⟨v,g,p⟩:=r.get q;have:=m xs (ZB (fun b o z=>c.sub b o (e.f b o z)) d);rw[g]at this;cases this;exact⟨j,Ext.refl _,c,Rw.mono e _ _ p⟩
 stop:=fun i j h H x c _ n=>⟨xs,ZB (fun b o z=>c.sub b o (x.f b o z)) d,by rw[<-r.length];exact n⟩
theorem Qcq{a:Addr}{xs:List V}{ws:List W}(d:SqT K R.F a xs)(r:Rws K R ws xs):ItOk K R (Itt K a) ws none where
 go:=fun i w j h H x c _ e=>by
  obtain⟨v,g,_⟩:=r.get e;exact⟨xs,v,Zm (fun b o z=>c.sub b o (x.f b o z)) d,g⟩
 yld:=fun i w j h H x s e c _ q l=>by
  obtain⟨rfl,m⟩:=l;obtain⟨v,g,p⟩:=r.get q;have:=m xs (Zm (fun b o z=>c.sub b o (e.f b o z)) d);rw[g]at this;cases this;exact⟨j,Ext.refl _,c,Rw.mono e _ _ p⟩
 stop:=fun i j h H x c _ n=>⟨xs,Zm (fun b o z=>c.sub b o (x.f b o z)) d,by rw[<-r.length];exact n⟩
theorem Qcn{n:Nat}{ws:List W}(g:n<R.N):ItOk K R (Itl K (R.ρ n)) ws (some (.l n)) where
 go:=fun i w o h H x b d e=>by
  obtain⟨c,a,f⟩:=b.obj n _ (d (.l n) rfl);obtain⟨v,m,_⟩:=f.get e;rw[x.ρ n g]at a;exact⟨c,v,SqL.of a,m⟩
 yld:=fun i w o h H x t e b d s p=>by
  obtain⟨rfl,q⟩:=p;obtain⟨c,a,f⟩:=b.obj n _ (d (.l n) rfl);obtain⟨v,m,r⟩:=f.get s;rw[e.ρ n g]at a;have:=q c (SqL.of a);rw[m]at this;cases this;exact⟨o,Ext.refl _,b,r⟩
 stop:=fun i o h H x b d j=>by
  obtain⟨c,a,f⟩:=b.obj n _ (d (.l n) rfl);rw[x.ρ n g]at a;exact⟨c,SqL.of a,by rw[<-f.length];exact j⟩
theorem QcA{x:Str}:ItOk K R (Its x) (YI x) none where
 go:=fun i w b h H _ _ _ e=>by
  have:=(Nm.mp e).1;show i<x.cps.size;simpa[YI]using this
 yld:=fun i w b h H v l e d _ a f=>by
  obtain⟨rfl,c,j,rfl⟩:=f;unfold YI at a;rw[NB,NH,j]at a;cases a;exact⟨b,Ext.refl _,d,Rw.str _⟩
 stop:=fun i b h H _ _ _ g=>by
  show x.cps.size<=i;simpa[YI]using g
theorem Gq{lo:Int}{n:Nat}:ItOk K R (Itr lo n) ((List.range n).map fun(i:Nat)=>W.int (lo+(i:Int))) none where
 go:=fun i w b h H _ _ _ e=>by
  have:=(Nm.mp e).1;show i<n;simpa using this
 yld:=fun i w b h H v m e d _ c f=>by
  obtain⟨rfl,rfl⟩:=f;rw[NB]at c;obtain⟨j,a,l⟩:=Nk.mp c;rw[DF (by have:=(Nm.mp a).1;simpa using this)]at a;cases a;cases l;exact⟨b,Ext.refl _,d,Rw.int _⟩
 stop:=fun i b h H _ _ _ g=>by
  show n<=i;simpa using g
end
section
variable{X:Cx}{tg a b c:Expr}{ma:ME}{ms:MA}{pos p:Pos}
theorem QeI(S:PM X a ma):PMI X tg a (QC ma):=by
 intro j s E H C I q;obtain⟨R,u,h,items,G,h',M,st,e,k⟩:=q;obtain⟨⟨w,Y⟩,p,c⟩:=Nc.mp e;obtain⟨⟨P,sr⟩,i,b⟩:=Nk.mp c;cases b;refine thn (S j s E H _ I ⟨R,u,h,w,Y,M,st,p,fun R1 m v o d g=>?_⟩) fun v L ⟨x,m,I1,N,O⟩=>((it_list.or Qil).or Qh0) j L E m x v C I1 N O;cases w with
 |tup A=>
  cases i;obtain⟨ad,z,rfl,D,U⟩:=d.tupAt g;unfold Rw at g;obtain⟨t,f,Z,l,r⟩:=g;cases Z;exact .inl (.inr ⟨_,rfl,⟨z,D⟩,k R1 m _ o d (Qcq l r)⟩)
 |lst A=>
  cases i;unfold Rw at g;obtain⟨t,f,rfl,l,r⟩:=g;exact .inl (.inl ⟨_,rfl,⟨f,SqL.of (d.sub _ _ l)⟩,k R1 m _ o d (Y4 (SqL.of l) r)⟩)
 |frz A=>
  cases i;unfold Rw at g;obtain⟨t,f,rfl,l,r⟩:=g;exact .inl (.inl ⟨_,rfl,⟨f,ZB d.sub l⟩,k R1 m _ o d (Y4 l r)⟩)
 |str y=>
  cases i;rw[g.str_eq];exact .inr ⟨y,rfl,k R1 m _ o d QcA⟩
 |ref n=>
  simp only[QdG]at i;split at i
  ·rename_i A Q;cases i;obtain⟨B,rfl,z,D,U⟩:=d.refAt g Q;exact .inl (.inl ⟨_,rfl,⟨z,SqL.of D⟩,k R1 m _ o d (Qcn B)⟩)
  ·cases i
 |_=>cases i
noncomputable def Ql(lo:Int)(n:Nat):List W:=(List.range n).map fun(i:Nat)=>W.int (lo+(i:Int))
noncomputable def ZO(ms:MA):MI:=fun d h=>(ms d h).bind fun p=>match p.1 with
 |[.int j]=>if -(2^62)<=j/\j<2^62 then some (Ql 0 j.toNat,none,p.2)else none
 |_=>none
theorem Qgp(y:Gl X "range")(x:X.mg "range"=none)(z:PMA X [a] ms)(w:starEach [a] X.env=[(false,eval a X.env)]:=by rfl):PMI X tg (.Call (.Name "range" p) [a] [] pos) (ZO ms):=
 GW (Qbb y x z w) fun E H C ⟨R,f,h,items,s,I,t,st,e,k⟩=>by
  obtain⟨⟨q,A⟩,B,d⟩:=Nc.mp e;refine⟨R,f,h,q,A,t,st,B,fun R1 D G o g i=>?_⟩;split at d
  ·rename_i j m;simp only at m;subst m;split at d
   ·rename_i n;cases d;rw[Rws.cons_iff]at i;obtain⟨v,r,rfl,u,l⟩:=i;rw[Rws.nil_iff]at l;subst l;rw[u.int_eq];exact⟨j,rfl,n.1,n.2,k R1 D _ o g Gq⟩
   ·cases d
  ·cases d
end
noncomputable def Qbh(cp:List (Option Nat))(σ:MSt):MSt:=cp.map fun o=>match o with|none=>none|some j=>match σ[j]? with|some v=>v|none=>none
theorem Rst.cap{K:Nh}{R:Rn}{a:MSt}{σ:L2.St}(s:Rst K R a σ)(cp:List (Option Nat)):Rst K R (Qbh cp a) (YQ cp σ):=by
 unfold Qbh YQ;refine⟨by simp,fun i w e=>?_⟩;rw[NB]at e ⊢;obtain⟨o,f,b⟩:=Nk.mp e;rw[f];cases o with
 |none=>cases b
 |some j=>
  simp only at b;split at b
  ·rename_i u hu;subst b;obtain⟨v,d,c⟩:=s.2 j w hu;exact⟨v,by simp[d],c⟩
  ·cases b
open Classical in
noncomputable def JT(fin:List W->MH->Option (W×MH))(items:List W)(src:Option Src)(b:MG)(mt:MT)(me:ME):List W->List W->MSt->MH->Option (W×MH)
 |[],a,_,h=>if live src items h then fin a h else none
 | w::r,a,d,h=>if live src items h then(b w d h).bind fun c=>(mt c h).bind fun q=>match q.1 with
   |true=>(me c q.2).bind fun v=>if a.length<sizeLine then JT fin items src b mt me r (a++[v.1]) c v.2 else none
   |false=>JT fin items src b mt me r a c q.2
  else none
noncomputable def Qz(fin:List W->MH->Option (W×MH))(mi:MI)(cp:List (Option Nat))(b:MG)(mt:MT)(me:ME):ME:=fun a h=>(mi a h).bind fun p=>JT fin p.1 p.2.1 b mt me p.1 [] (Qbh cp a) p.2.2
noncomputable def Vn:MT:=fun _ h=>some (true,h)
noncomputable def Jg(a:List W)(h:MH):Option (W×MH):=some (.lst a,h)
noncomputable def UY(K:Nh)(fin:List W->MH->Option (W×MH)):Prop:=∀R h H b a w d D,Rh K R h H->Rws K R b a->fin b h=some (w,d)->H D=none->∃c,Ext R c/\Rh K c d (upd H D (.lst a))/\Rw K c w (.ref D)
theorem Zz{K:Nh}:UY K Jg:=fun R h H c a w d D b r e hD=>by
 cases e;exact b.lstI hD r
section
variable{X:Cx}{elt tg iter c:Expr}{scope:Scope}{pos:Pos}{cl:List (Str×Addr)}{Nb:List Str}{cp:List (Option Nat)}{mi:MI}{b:MG}{mt:MT}{me:ME}{fin:List W->MH->Option (W×MH)}
theorem Yl{K:Nh}(hf:UY K fin){σ:L2.St}{H:Hp}{Q:VK}(q:tI K (Qz fin mi cp b mt me) σ H Q):Qcv (tII K mi) cp (tIG K b) (tIT K mt) (tI K me) σ H Q:=by
 obtain⟨R,B,h,w,h',rh,s,e,k⟩:=q;obtain⟨⟨items,E,h1⟩,e1,e2⟩:=Nc.mp e;refine⟨R,B,h,items,E,h1,rh,s,e1,fun R1 H1 J x1 c it=>?_⟩;refine⟨fun i n z τ H=>i+n=items.length/\∃R2 g o a,Ext R1 R2/\Rh K R2 o H/\Rst K R2 g τ/\Rws K R2 a z/\JT fin items E b mt me (items.drop i) a g o=some (w,h')/\After K R2 w h' Q,⟨items.length,by simp,R1,Qbh cp B,h1,[],Ext.refl _,c,(s.mono x1).cap cp,Rws.nil,by simpa using e2,k.ext x1⟩,?_⟩
 rintro i n z τ U ⟨ae,R2,g,o,a,C,m,s2,N,f,X⟩
 by_cases I:i<items.length
 ·obtain⟨y,O⟩:∃y,items[i]?=some y:=⟨items[i],No I⟩
  have hd:items.drop i=y::items.drop (i+1):=by
   rw[EO I];rw[No I]at O;cases O;rfl
  rw[hd]at f;unfold JT at f;split at f
  ·rename_i P;obtain⟨d,e4,e5⟩:=Nc.mp f;obtain⟨⟨t,h3⟩,e6,e7⟩:=Nc.mp e5;refine .inr ⟨it.go i y R2 o U C m P O,fun x H' aa=>?_⟩;obtain⟨R3,l,r,p⟩:=it.yld i y R2 o U x H' C m P O aa;refine⟨R3,g,o,y,d,r,s2.mono l,p,e4,fun R4 H4 ab A Z M=>?_⟩;refine⟨R4,d,o,t,h3,Z,M,e6,fun R5 H5 j G=>?_⟩;cases t with
   |true=>
    obtain⟨⟨v,h4⟩,e8,S⟩:=Nc.mp e7;dsimp only at S;split at S
    ·rename_i hz;refine Qii ⟨R5,d,h3,v,h4,G,M.mono j,e8,fun R6 H6 u L Y rv=>⟨by rw[<-N.length];exact hz,n-1,by lia,by lia,R6,d,h4,a++[v],C.trans (l.trans (A.trans (j.trans L))),Y,M.mono (j.trans L),?_,S,X.ext (l.trans (A.trans (j.trans L)))⟩⟩;exact Rws.append (Rws.mono (l.trans (A.trans (j.trans L))) _ _ N) (Rws.cons rv Rws.nil)
    ·cases S
   |false=>
    exact Qh4 ⟨n-1,by lia,by lia,R5,d,h3,a,C.trans (l.trans (A.trans j)),G,M.mono j,Rws.mono (l.trans (A.trans j)) _ _ N,e7,X.ext (l.trans (A.trans j))⟩
  ·cases f
 ·have hd:items.drop i=[]:=Ft (NQ.mp I);rw[hd]at f;unfold JT at f;split at f
  ·rename_i P;refine .inl ⟨it.stop i R2 o U C m P (NQ.mp I),fun D hD=>?_⟩;obtain⟨R3,l,r,p⟩:=hf R2 o U a z w h' D m N f hD;exact X R3 _ _ l r p
  ·cases f
theorem JH(p:UY X.K fin)(u:X.calm=true)(B:BlkOk X scope cl Nb cp)(hi:PMI X tg iter mi)(o:∀a d C i f,PMG (Mi.blk X scope cl Nb a d C i f) tg b)
  (r:∀a d C i f,PM (Mi.blk X scope cl Nb a d C i f) elt me) (n:∀x,foldedSetIterable iter X.env x=pure x:=by intro _;rfl) :
  PM X (.ListComp elt [⟨tg,iter,[],0⟩] scope pos) (Qz fin mi cp b Vn me):=
 Q7 (G4 (g:=tIG X.K b) (te:=tI X.K me) (tt:=tIT X.K Vn) u B hi o (fun a d C i f j s v H Q I q=>wpAny_tests_nil (by
  obtain⟨R,l,h,t,z,m,st,e,k⟩:=q;cases e
  exact⟨H,I,k R H (Ext.refl _) m⟩)) r n) fun _ _ _ q=>Yl p q
theorem KS(n:UY X.K fin)(p:X.calm=true)(B:BlkOk X scope cl Nb cp)(hi:PMI X tg iter mi)(m:∀a d C f e,PMG (Mi.blk X scope cl Nb a d C f e) tg b)
  (j:∀a d C f e,PMT (Mi.blk X scope cl Nb a d C f e) c mt)
  (o:∀a d C f e,PM (Mi.blk X scope cl Nb a d C f e) elt me) (l:∀x,foldedSetIterable iter X.env x=pure x:=by intro _;rfl) :
  PM X (.ListComp elt [⟨tg,iter,[c],0⟩] scope pos) (Qz fin mi cp b mt me):=
 Q7 (G4 (g:=tIG X.K b) (te:=tI X.K me) (tt:=tIT X.K mt) p B hi m (fun a d C f e h s i H Q I q=>wpAny_tests_one (j a d C f e h s i H Q I q)) o l) fun _ _ _ q=>Yl n q
end
end Mi

namespace Mi
open L2 PySem.SeqAt

mutual
noncomputable def eqW:W->W->Bool
 |.non,.non=>true
 |.bl a,.bl b=>a==b
 |.bl a,.int b=>(if a then 1 else 0)==b
 |.int a,.bl b=>a==(if b then 1 else 0)
 |.int a,.int b=>a==b
 |.str a,.str b=>a==b
 |.tup a,.tup b=>X5 a b
 |.lst a,.lst b=>X5 a b
 |_,_=>false
noncomputable def X5:List W->List W->Bool
 |[],[]=>true
 |x::xs,y::a=>eqW x y&&X5 xs a
 |_,_=>false
end
noncomputable def Zt{b a:Type}(f:b->Option a):List b->Option (List a)
 |[]=>some []
 |x::xs=>(f x).bind fun y=>(Zt f xs).map (y::·)
noncomputable def drf(h:MH):Nat->W->Option W
 |0,_=>none
 |n+1,w=>match w with
  |.tup ws=>(Zt (drf h n) ws).map .tup
  |.lst ws=>(Zt (drf h n) ws).map .lst
  |.frz ws=>(Zt (drf h n) ws).map .lst
  |.ref k=>match h[k]? with|some (.lst ws)=>(Zt (drf h n) ws).map .lst|_=>none
  |.ty _=>none
  |.non=>some .non
  |.bl b=>some (.bl b)
  |.int i=>some (.int i)
  |.str x=>some (.str x)
theorem Qw{d c:Type}{f:d->Option c}:∀{xs:List d} {a:List c},Zt f xs=some a->xs.length=a.length/\∀(i:Nat) x,xs[i]?=some x->∃y,a[i]?=some y/\f x=some y
 |[],a,e=>by cases e;exact⟨rfl,fun i x h=>by simp at h⟩
 |x::xs,a,e=>by
  obtain⟨y,h1,o⟩:=Nc.mp e;obtain⟨p,n,m⟩:=Nk.mp o;subst m;obtain⟨l,q⟩:=Qw n;refine⟨by simp[l],fun i z b=>?_⟩;cases i with
  |zero=>simp at b;subst b;exact⟨y,by simp,h1⟩
  |succ i=>simp at b;obtain⟨u,j,g⟩:=q i z b;exact⟨u,by simp[j],g⟩
theorem VW:∀{a b:List W},a.length≠b.length->X5 a b=false
 |[],[],h=>absurd rfl h
 |[],_::_,_=>by unfold X5;rfl
 |_::_,[],_=>by unfold X5;rfl
 |x::xs,y::c,h=>by
  unfold X5;rw[VW (a:=xs) (b:=c) (fun z=>h (by simp[z])),D3]
theorem V3:∀{a b:List W},a.length=b.length->X5 a b=(List.range a.length).all fun j=>match a[j]?,b[j]? with|some x,some y=>eqW x y|_,_=>false
 |[],[],_=>by unfold X5;rfl
 |x::xs,y::c,h=>by
  have d:=V3 (a:=xs) (b:=c) (by simpa using h);unfold X5;rw[d,El,List.range_succ_eq_map,OZ,List.all_map];simp[Function.comp_def]
inductive Kd(K:Nh)(R:Rn)(h:MH)(H:Hp)(n:Nat)(v:V):W->Prop where
 |flat {a:W} (f:QfL v=true) (e:(v=.non/\a=.non)\/(∃b,v=.bl b/\a=.bl b)\/(∃i,v=.int i/\a=.int i)\/∃x,v=.str x/\a=.str x):Kd K R h H n v a
 |lst {ad:Addr} {xs:List V} {ws as:List W} (e:v=.ref ad) (q:SqL K H ad xs) (r:Rws K R ws xs) (m:Zt (drf h n) ws=some as):Kd K R h H n v (.lst as)
 |tup {ad:Addr} {xs:List V} {ws as:List W} (e:v=.ref ad) (q:SqT K H ad xs) (r:Rws K R ws xs) (m:Zt (drf h n) ws=some as):Kd K R h H n v (.tup as)
theorem Vl{K:Nh}{R:Rn}{h:MH}{H:Hp}{n:Nat}{w a:W}{v:V}(g:Rh K R h H)(r:Rw K R w v)(e:drf h (n+1) w=some a):Kd K R h H n v a:=by
 cases w with
 |non=>rw[r.non_eq];cases e;exact .flat rfl (.inl ⟨rfl,rfl⟩)
 |bl b=>rw[r.bl_eq];cases e;exact .flat rfl (.inr (.inl ⟨b,rfl,rfl⟩))
 |int i=>rw[r.int_eq];cases e;exact .flat rfl (.inr (.inr (.inl ⟨i,rfl,rfl⟩)))
 |str x=>rw[r.str_eq];cases e;exact .flat rfl (.inr (.inr (.inr ⟨x,rfl,rfl⟩)))
 |tup l=>
  obtain⟨ad,j,f,q,c⟩:=g.tupAt r;obtain⟨as,m,d⟩:=Nk.mp e;subst d;exact .tup f q c m
 |lst l=>
  obtain⟨ad,j,f,q,c⟩:=g.lstAt r;obtain⟨as,m,d⟩:=Nk.mp e;subst d;exact .lst f (SqL.of q) c m
 |frz l=>
  obtain⟨ad,j,f,q,c⟩:=g.frzAt r;obtain⟨as,m,d⟩:=Nk.mp e;subst d;exact .lst f q c m
 |ref k=>
  simp only[drf]at e;split at e
  ·rename_i l o;obtain⟨as,m,d⟩:=Nk.mp e;subst d;obtain⟨_,f,j,q,c⟩:=g.refAt r o;exact .lst f (SqL.of q) c m
  ·cases e
 |ty _=>cases e
section
variable{X:Cx}{pins:List (Addr×Obj)}{σ:L2.St}{H:Hp}{s:Shared}{R:Rn}{h:MH}
theorem XJ{K:Nh}{n:Nat}(r:∀q p v a b,Rw K R q v->Rw K R p v->drf h n q=some a->drf h n p=some b->a=b) :
  ∀{d c:List W} {xs:List V} {a b:List W},Rws K R d xs->Rws K R c xs->Zt (drf h n) d=some a->Zt (drf h n) c=some b->a=b
 |[],c,xs,a,b,f,e,i,g=>by
  rw[Rws.nil_iff]at f;subst f;cases c with
  |nil=>cases i;cases g;rfl
  |cons w ws=>rw[Rws.cons_iff]at e;obtain⟨_,_,z,_⟩:=e;cases z
 | w::d,c,xs,a,b,f,e,i,g=>by
  rw[Rws.cons_iff]at f;obtain⟨v,x,rfl,E,D⟩:=f;cases c with
  |nil=>rw[Rws.nil_iff]at e;cases e
  |cons A c=>
   rw[Rws.cons_iff]at e;obtain⟨_,_,z,C,B⟩:=e;cases z;obtain⟨y,M,L⟩:=Nc.mp i;obtain⟨N,I,G⟩:=Nk.mp L;obtain⟨u,o,m⟩:=Nc.mp g;obtain⟨t,l,j⟩:=Nk.mp m;subst G j;rw[r w A v y u E C M o,XJ r D B I l]
theorem Xg(I:Inv X pins σ H s){a:Addr}{xs e:List V}(q:SqL X.K H a xs)(f:SqT X.K H a e):False:=by
 obtain⟨i,_,p,_⟩:=I.list q;obtain⟨d,_,g,_⟩:=I.tuple f;obtain⟨o,n,l,j,_⟩:=p;obtain⟨m,c,b,_⟩:=g;rw[l]at c;cases c;rw[j]at b;exact absurd b (by simp)
theorem Xs(I:Inv X pins σ H s)(g:Rh X.K R h H):∀(n:Nat) (l j:W) (v:V) (a b:W),Rw X.K R l v->Rw X.K R j v->drf h n l=some a->drf h n j=some b->a=b
 |0,_,_,_,_,_,_,_,e,_=>by cases e
 | n+1,l,j,v,a,b,y,o,A,u=>by
  have w:=Xs I g n;cases Vl g y A with
  | flat f z=>
   cases Vl g o u with
   |flat B x=>
    rcases z with⟨rfl,rfl⟩|⟨_,rfl,rfl⟩|⟨_,rfl,rfl⟩|⟨_,rfl,rfl⟩<;>rcases x with⟨i,rfl⟩|⟨_,i,rfl⟩|⟨_,i,rfl⟩|⟨_,i,rfl⟩<;>cases i<;>rfl
   |lst e=>subst e;cases f
   |tup e=>subst e;cases f
  |lst e q r m=>
   subst e;cases Vl g o u with
   |flat f=>cases f
   |lst d c p t=>cases d;have:=I.list_inj q c;subst this;rw[XJ w r p m t]
   |tup d c=>cases d;exact(Xg I q c).elim
  |tup e q r m=>
   subst e;cases Vl g o u with
   |flat f=>cases f
   |lst d c=>cases d;exact(Xg I c q).elim
   |tup d c p t=>cases d;have:=I.tuple_inj q c;subst this;rw[XJ w r p m t]
mutual
theorem KR:∀(n:Nat) (w a:W),drf h n w=some a->eqW a a=true
 |0,_,_,e=>by cases e
 | n+1,w,a,e=>by
  cases w with
  |non=>cases e;unfold eqW;rfl
  |bl b=>cases e;unfold eqW;simp
  |int i=>cases e;unfold eqW;simp
  |str x=>cases e;unfold eqW;simp
  |tup ws=>obtain⟨as,m,c⟩:=Nk.mp e;subst c;unfold eqW;exact J3 n ws as m
  |lst ws=>obtain⟨as,m,c⟩:=Nk.mp e;subst c;unfold eqW;exact J3 n ws as m
  |frz ws=>obtain⟨as,m,c⟩:=Nk.mp e;subst c;unfold eqW;exact J3 n ws as m
  |ref k=>
   simp only[drf]at e;split at e
   ·rename_i ws d;obtain⟨as,m,c⟩:=Nk.mp e;subst c;unfold eqW;exact J3 n ws as m
   ·cases e
  |ty _=>cases e
theorem J3:∀(n:Nat) (ws as:List W),Zt (drf h n) ws=some as->X5 as as=true
 |n,[],_,m=>by cases m;unfold X5;rfl
 |n,w::ws,_,m=>by
  obtain⟨y,h1,d⟩:=Nc.mp m;obtain⟨a,c,b⟩:=Nk.mp d;subst b;unfold X5;rw[KR n w y h1,J3 n ws a c];rfl
end
theorem Vb{n:Nat}{A:Around}(O:∀i g v1 l v r a b,Rw X.K R i v1->Rw X.K R g l->RelV v1 v->RelV l r->drf h n i=some a->drf h n g=some b->EqAt A s v r (eqW a b))
  {e d as bs:List W} {xs q:List V} {f c:List Value} (B:Rws X.K R e xs) (z:Rws X.K R d q) (v1:Vals xs f) (l:Vals q c) (H:Zt (drf h n) e=some as) (G:Zt (drf h n) d=some bs)
  (j:Nat) (h1:j<f.toArray.size) (p:j<c.toArray.size):EqAt A s f.toArray[j] c.toArray[j] (match as[j]?,bs[j]? with|some x,some y=>eqW x y|_,_=>false):=by
 have N:=B.length;have M:=v1.length;have L:=z.length;have I:=l.length;rw[Nt]at h1 p;obtain⟨i,o⟩:∃w,e[j]?=some w:=⟨e[j]'(Ng (Ng h1 (Nq M.symm)) (Nq N.symm)),No _⟩
 obtain⟨g,m⟩:∃w,d[j]?=some w:=⟨d[j]'(Ng (Ng p (Nq I.symm)) (Nq L.symm)),No _⟩
 obtain⟨x,Q,D⟩:=B.get o;obtain⟨y,P,C⟩:=z.get m;obtain⟨u,hu,E⟩:=v1.get Q;obtain⟨t,S,rt⟩:=l.get P;obtain⟨a,Y,ea⟩:=(Qw H).2 j i o;obtain⟨b,U,Z⟩:=(Qw G).2 j g m;rw[Y,U]
 have e1:f.toArray[j]=u:=by
  have:=hu;rw[No h1]at this;simpa using this
 have e2:c.toArray[j]=t:=by
  have:=S;rw[No p]at this;simpa using this
 rw[e1,e2];exact O i g x y u t a b D C E rt ea Z
theorem UB(I:Inv X r σ H s){n:Nat}{A:Around}(hu:A.units<cLine)(D:∀l i v1 e o m a b,Rw X.K R l v1->Rw X.K R i e->RelV v1 o->RelV e m->drf h n l=some a->drf h n i=some b->EqAt A.in1 s o m (eqW a b))
  {ad z:Addr} {d c as bs:List W} {xs g:List V} (C:SqL X.K H ad xs) (B:SqL X.K H z g) (q:Rws X.K R d xs) (p:Rws X.K R c g) (w:Zt (drf h n) d=some as) (v:Zt (drf h n) c=some bs):RcAt A s (.ref ad) (.ref z) (X5 as bs):=by
 obtain⟨f,v1,u,_⟩:=I.list C;obtain⟨x,e,t,_⟩:=I.list B;have Q:=q.length;have P:=v1.length;have O:=p.length;have N:=e.length;have M:=(Qw w).1;have L:=(Qw v).1
 by_cases y:as.length=bs.length
 ·rw[V3 y];have:=RcAt.lists (A:=A) u.isList t.isList (by rw[Nt,Nt];lia) hu (fun j G E=>Vb D q p v1 e w v j G E);rw[Nt]at this;rw[show as.length=f.length by lia];exact this
 ·rw[VW y];exact RcAt.lists_lengths u.isList t.isList (by rw[Nt,Nt];simp;lia) hu
theorem QaV(I:Inv X u σ H s){n:Nat}{A:Around}(hu:A.units<cLine)(D:∀o m v1 g q p a b,Rw X.K R o v1->Rw X.K R m g->RelV v1 q->RelV g p->drf h n o=some a->drf h n m=some b->EqAt A.in1 s q p (eqW a b))
  {ad i:Addr} {f e as bs:List W} {xs l:List V} (z:SqT X.K H ad xs) (y:SqT X.K H i l) (t:Rws X.K R f xs) (r:Rws X.K R e l) (w:Zt (drf h n) f=some as) (v:Zt (drf h n) e=some bs):RcAt A s (.ref ad) (.ref i) (X5 as bs):=by
 obtain⟨d,v1,C,_⟩:=I.tuple z;obtain⟨c,g,B,_⟩:=I.tuple y;have Q:=t.length;have P:=v1.length;have O:=r.length;have N:=g.length;have M:=(Qw w).1;have L:=(Qw v).1;have:=RcAt.tuples (A:=A) (show s.heap.IsTuple ad d.toArray from C) (show s.heap.IsTuple i c.toArray from B) hu (fun j G E=>Vb D t r v1 g w v j G E);rw[Nt,Nt]at this
 by_cases x:as.length=bs.length
 ·rw[V3 x];rw[show min d.length c.length=as.length by lia,show(d.length==c.length)=true by simp;omega,OV]at this;exact this
 ·rw[VW x];rw[show(d.length==c.length)=false by simp;omega,D3]at this;exact this
theorem W9(I:Inv X aa σ H s)(o:Rh X.K R h H):∀(n:Nat) (A:Around),A.units+n<cLine->∀(E l:W) (v1 N:V) (P O:Value) (a b:W),Rw X.K R E v1->Rw X.K R l N->RelV v1 P->RelV N O->drf h n E=some a->drf h n l=some b->EqAt A s P O (eqW a b)
 |0,_,_,_,_,_,_,_,_,_,_,_,_,_,_,e,_=>by cases e
 | n+1,A,hu,E,l,v1,N,P,O,a,b,Q,G,i,g,e1,x=>by
  have c:A.units<cLine:=by exact Nd (Np _ _) hu
  have ih:=W9 I o n A.in1 (by show A.units+1+n<cLine;lia)
  have w:∀{ad:Addr} {M:List V},SqL X.K H ad M->∃d:Array Value,s.heap.IsList ad d:=fun q=>by
   obtain⟨d,_,p,_⟩:=I.list q;exact⟨_,p.isList⟩
  have v:∀{ad:Addr} {M:List V},SqT X.K H ad M->∃d:Array Value,s.heap.IsTuple ad d:=fun q=>by
   obtain⟨d,_,p,_⟩:=I.tuple q;exact⟨_,p⟩
  cases Vl o Q e1 with
  | flat f z=>
   cases Vl o G x with
   |flat f' D=>
    have:=Qhk (A:=A) (s:=s) i g f f'
    rcases z with⟨rfl,rfl⟩|⟨_,rfl,rfl⟩|⟨_,rfl,rfl⟩|⟨_,rfl,rfl⟩<;>rcases D with⟨rfl,rfl⟩|⟨_,rfl,rfl⟩|⟨_,rfl,rfl⟩|⟨_,rfl,rfl⟩<;>(unfold eqW;exact this)
   |lst e q=>
    subst e;cases g;obtain⟨d,p⟩:=w q
    rcases z with⟨rfl,rfl⟩|⟨_,rfl,rfl⟩|⟨_,rfl,rfl⟩|⟨_,rfl,rfl⟩
    ·cases i;unfold eqW;exact EqAt.none_list p c
    ·cases i;unfold eqW;exact EqAt.bool_list _ p c
    ·obtain⟨t,rfl⟩:=i;unfold eqW;exact EqAt.int_list _ t p c
    ·obtain⟨t,rfl⟩:=i;unfold eqW;exact EqAt.str_list _ t p c
   |tup e q=>
    subst e;cases g;obtain⟨d,p⟩:=v q
    rcases z with⟨rfl,rfl⟩|⟨_,rfl,rfl⟩|⟨_,rfl,rfl⟩|⟨_,rfl,rfl⟩
    ·cases i;unfold eqW;exact EqAt.none_tuple p c
    ·cases i;unfold eqW;exact EqAt.bool_tuple _ p c
    ·obtain⟨t,rfl⟩:=i;unfold eqW;exact EqAt.int_tuple _ t p c
    ·obtain⟨t,rfl⟩:=i;unfold eqW;exact EqAt.str_tuple _ t p c
  | @lst C _ _ _ e q r m=>
   subst e;cases i;obtain⟨d,p⟩:=w q;have Z:=Vl o G x;cases Z with
   |flat f' D=>
    rcases D with⟨rfl,rfl⟩|⟨_,rfl,rfl⟩|⟨_,rfl,rfl⟩|⟨_,rfl,rfl⟩
    ·cases g;unfold eqW;exact EqAt.list_none p c
    ·cases g;unfold eqW;exact EqAt.list_bool _ p c
    ·obtain⟨t,rfl⟩:=g;unfold eqW;exact EqAt.list_int _ t p c
    ·obtain⟨t,rfl⟩:=g;unfold eqW;exact EqAt.list_str _ t p c
   |@lst B _ _ _ y u S Y=>
    subst y;cases g
    by_cases j:C=B
    ·subst j;have:=Xs I o (n+1) E l _ _ _ Q G e1 x;rw[this,KR (n+1) l _ x];exact EqAt.same _
    ·unfold eqW;exact EqAt.of_refs j (UB I c ih q u r S m Y)
   |tup y u=>
    subst y;cases g;obtain⟨L,U⟩:=v u;unfold eqW;exact EqAt.list_tuple p U c
  | @tup C _ _ _ e q r m=>
   subst e;cases i;obtain⟨d,p⟩:=v q;have Z:=Vl o G x;cases Z with
   |flat f' D=>
    rcases D with⟨rfl,rfl⟩|⟨_,rfl,rfl⟩|⟨_,rfl,rfl⟩|⟨_,rfl,rfl⟩
    ·cases g;unfold eqW;exact EqAt.tuple_none p c
    ·cases g;unfold eqW;exact EqAt.tuple_bool _ p c
    ·obtain⟨t,rfl⟩:=g;unfold eqW;exact EqAt.tuple_int _ t p c
    ·obtain⟨t,rfl⟩:=g;unfold eqW;exact EqAt.tuple_str _ t p c
   |lst y u=>
    subst y;cases g;obtain⟨L,U⟩:=w u;unfold eqW;exact EqAt.tuple_list p U c
   |@tup B _ _ _ y u S Y=>
    subst y;cases g
    by_cases j:C=B
    ·subst j;have:=Xs I o (n+1) E l _ _ _ Q G e1 x;rw[this,KR (n+1) l _ x];exact EqAt.same _
    ·unfold eqW;exact EqAt.of_refs j (QaV I c ih q u r S m Y)
end
end Mi

namespace Mi
open L2 PySem.SeqAt
section
variable{X:Cx}{pins:List (Addr×Obj)}{σ:L2.St}{H:Hp}{s:Shared}{R:Rn}{h:MH}
theorem UQ(I:Inv X pins σ H s){n:Nat}{A:Around}(hu:A.units<cLine)(C:∀l i v1 e o m a b,Rw X.K R l v1->Rw X.K R i e->RelV v1 o->RelV e m->drf h n l=some a->drf h n i=some b->EqAt A.in1 s o m (eqW a b))
  {ad y:Addr} {d c as bs:List W} {xs g:List V} (B:SqL X.K H ad xs) (z:SqL X.K H y g) (q:Rws X.K R d xs) (p:Rws X.K R c g) (v:Zt (drf h n) d=some as) (u:Zt (drf h n) c=some bs):RcNeAt A s (.ref ad) (.ref y) (!X5 as bs):=by
 obtain⟨f,v1,t,_⟩:=I.list B;obtain⟨w,e,r,_⟩:=I.list z;have P:=q.length;have O:=v1.length;have N:=p.length;have M:=e.length;have L:=(Qw v).1;have G:=(Qw u).1
 by_cases x:as.length=bs.length
 ·rw[V3 x];have:=RcNeAt.lists (A:=A) t.isList r.isList (by rw[Nt,Nt];lia) hu (fun j E D=>Vb C q p v1 e v u j E D);rw[Nt]at this;rw[show as.length=f.length by lia];exact this
 ·rw[VW x];exact RcNeAt.lists_lengths t.isList r.isList (by rw[Nt,Nt];simp;lia) hu
theorem QaC(I:Inv X pins σ H s){n:Nat}{A:Around}(hu:A.units<cLine)(C:∀o m v1 g q p a b,Rw X.K R o v1->Rw X.K R m g->RelV v1 q->RelV g p->drf h n o=some a->drf h n m=some b->EqAt A.in1 s q p (eqW a b))
  {ad i:Addr} {f e as bs:List W} {xs l:List V} (y:SqT X.K H ad xs) (x:SqT X.K H i l) (t:Rws X.K R f xs) (r:Rws X.K R e l) (v:Zt (drf h n) f=some as) (u:Zt (drf h n) e=some bs):RcNeAt A s (.ref ad) (.ref i) (!X5 as bs):=by
 obtain⟨d,v1,B,_⟩:=I.tuple y;obtain⟨c,g,z,_⟩:=I.tuple x;have P:=t.length;have O:=v1.length;have N:=r.length;have M:=g.length;have L:=(Qw v).1;have G:=(Qw u).1;have:=RcNeAt.tuples (A:=A) (show s.heap.IsTuple ad d.toArray from B) (show s.heap.IsTuple i c.toArray from z) hu (fun j E D=>Vb C t r v1 g v u j E D);rw[Nt,Nt]at this
 by_cases w:as.length=bs.length
 ·rw[V3 w];rw[show min d.length c.length=as.length by lia,show(d.length==c.length)=true by simp;omega,OV]at this;exact this
 ·rw[VW w];rw[show(d.length==c.length)=false by simp;omega,D3]at this;exact this
theorem Qgr(I:Inv X pins σ H s)(x:Rh X.K R h H)(n:Nat)(A:Around)(hu:A.units+n<cLine)(P O:W)(v1 Q:V)(U S:Value)(a b:W)(r1:Rw X.K R P v1)(C:Rw X.K R O Q)(j:RelV v1 U)(c:RelV Q S)(e1:drf h n P=some a)(M:drf h n O=some b):RcAt A s U S (eqW a b):=by
 cases n with
 |zero=>cases e1
 | succ n=>
  have d:A.units<cLine:=by exact Nd (Np _ _) hu
  have Y:=W9 I x n A.in1 (by show A.units+1+n<cLine;lia)
  have u:∀{ad:Addr} {B:List V},SqL X.K H ad B->∃i:Array Value,s.heap.IsList ad i:=fun q=>by
   obtain⟨i,_,p,_⟩:=I.list q;exact⟨_,p.isList⟩
  have o:∀{ad:Addr} {B:List V},SqT X.K H ad B->∃i:Array Value,s.heap.IsTuple ad i:=fun q=>by
   obtain⟨i,_,p,_⟩:=I.tuple q;exact⟨_,p⟩
  cases Vl x r1 e1 with
  | flat f z=>
   cases Vl x C M with
   | flat Z w=>
    rcases z with⟨rfl,rfl⟩|⟨_,rfl,rfl⟩|⟨_,rfl,rfl⟩|⟨_,rfl,rfl⟩<;>rcases w with⟨rfl,rfl⟩|⟨_,rfl,rfl⟩|⟨_,rfl,rfl⟩|⟨_,rfl,rfl⟩<;>first|(obtain⟨aa,rfl⟩:=j)|cases j
    ·first|(obtain⟨g,rfl⟩:=c)|cases c
     unfold eqW;exact RcAt.none_none
    ·first|(obtain⟨g,rfl⟩:=c)|cases c
     unfold eqW;exact RcAt.none_bool _
    ·first|(obtain⟨g,rfl⟩:=c)|cases c
     unfold eqW;exact RcAt.none_int _ _
    ·first|(obtain⟨g,rfl⟩:=c)|cases c
     unfold eqW;exact RcAt.none_str _ _
    ·first|(obtain⟨g,rfl⟩:=c)|cases c
     unfold eqW;exact RcAt.bool_none _
    ·first|(obtain⟨g,rfl⟩:=c)|cases c
     unfold eqW;exact RcAt.bool_bool _ _
    ·first|(obtain⟨g,rfl⟩:=c)|cases c
     unfold eqW;exact RcAt.bool_int _ _ _
    ·first|(obtain⟨g,rfl⟩:=c)|cases c
     unfold eqW;exact RcAt.bool_str _ _ _
    ·first|(obtain⟨g,rfl⟩:=c)|cases c
     unfold eqW;exact RcAt.int_none _ _
    ·first|(obtain⟨g,rfl⟩:=c)|cases c
     unfold eqW;exact RcAt.int_bool _ _ _
    ·first|(obtain⟨g,rfl⟩:=c)|cases c
     unfold eqW;exact RcAt.int_int _ _ _ _
    ·first|(obtain⟨g,rfl⟩:=c)|cases c
     unfold eqW;exact RcAt.int_str _ _ _ _
    ·first|(obtain⟨g,rfl⟩:=c)|cases c
     unfold eqW;exact RcAt.str_none _ _
    ·first|(obtain⟨g,rfl⟩:=c)|cases c
     unfold eqW;exact RcAt.str_bool _ _ _
    ·first|(obtain⟨g,rfl⟩:=c)|cases c
     unfold eqW;exact RcAt.str_int _ _ _ _
    ·first|(obtain⟨g,rfl⟩:=c)|cases c
     unfold eqW;exact RcAt.str_str _ _ _ _
   |lst e q=>
    subst e;cases c;obtain⟨i,p⟩:=u q
    rcases z with⟨rfl,rfl⟩|⟨_,rfl,rfl⟩|⟨_,rfl,rfl⟩|⟨_,rfl,rfl⟩
    ·cases j;unfold eqW;exact RcAt.none_list p d
    ·cases j;unfold eqW;exact RcAt.bool_list _ p d
    ·obtain⟨t,rfl⟩:=j;unfold eqW;exact RcAt.int_list _ t p d
    ·obtain⟨t,rfl⟩:=j;unfold eqW;exact RcAt.str_list _ t p d
   |tup e q=>
    subst e;cases c;obtain⟨i,p⟩:=o q
    rcases z with⟨rfl,rfl⟩|⟨_,rfl,rfl⟩|⟨_,rfl,rfl⟩|⟨_,rfl,rfl⟩
    ·cases j;unfold eqW;exact RcAt.none_tuple p d
    ·cases j;unfold eqW;exact RcAt.bool_tuple _ p d
    ·obtain⟨t,rfl⟩:=j;unfold eqW;exact RcAt.int_tuple _ t p d
    ·obtain⟨t,rfl⟩:=j;unfold eqW;exact RcAt.str_tuple _ t p d
  | @lst N _ _ _ e q r m=>
   subst e;cases j;obtain⟨i,p⟩:=u q;have L:=Vl x C M;cases L with
   |flat Z w=>
    rcases w with⟨rfl,rfl⟩|⟨_,rfl,rfl⟩|⟨_,rfl,rfl⟩|⟨_,rfl,rfl⟩
    ·cases c;unfold eqW;exact RcAt.list_none p d
    ·cases c;unfold eqW;exact RcAt.list_bool _ p d
    ·obtain⟨t,rfl⟩:=c;unfold eqW;exact RcAt.list_int _ t p d
    ·obtain⟨t,rfl⟩:=c;unfold eqW;exact RcAt.list_str _ t p d
   |tup v l=>
    subst v;cases c;obtain⟨y,E⟩:=o l;unfold eqW;exact RcAt.list_tuple p E d
   |lst v l D G=>
    subst v;cases c;unfold eqW;exact UB I d Y q l r D m G
  | @tup N _ _ _ e q r m=>
   subst e;cases j;obtain⟨i,p⟩:=o q;have L:=Vl x C M;cases L with
   |flat Z w=>
    rcases w with⟨rfl,rfl⟩|⟨_,rfl,rfl⟩|⟨_,rfl,rfl⟩|⟨_,rfl,rfl⟩
    ·cases c;unfold eqW;exact RcAt.tuple_none p d
    ·cases c;unfold eqW;exact RcAt.tuple_bool _ p d
    ·obtain⟨t,rfl⟩:=c;unfold eqW;exact RcAt.tuple_int _ t p d
    ·obtain⟨t,rfl⟩:=c;unfold eqW;exact RcAt.tuple_str _ t p d
   |lst v l=>
    subst v;cases c;obtain⟨y,E⟩:=u l;unfold eqW;exact RcAt.tuple_list p E d
   |tup v l D G=>
    subst v;cases c;unfold eqW;exact QaV I d Y q l r D m G
theorem Qb1(I:Inv X pins σ H s)(x:Rh X.K R h H)(n:Nat)(A:Around)(hu:A.units+n<cLine)(P O:W)(v1 Q:V)(U S:Value)(a b:W)(r1:Rw X.K R P v1)(C:Rw X.K R O Q)(j:RelV v1 U)(c:RelV Q S)(e1:drf h n P=some a)(M:drf h n O=some b):RcNeAt A s U S (!eqW a b):=by
 cases n with
 |zero=>cases e1
 | succ n=>
  have d:A.units<cLine:=by exact Nd (Np _ _) hu
  have Y:=W9 I x n A.in1 (by show A.units+1+n<cLine;omega)
  have u:∀{ad:Addr} {B:List V},SqL X.K H ad B->∃i:Array Value,s.heap.IsList ad i:=fun q=>by
   obtain⟨i,_,p,_⟩:=I.list q;exact⟨_,p.isList⟩
  have o:∀{ad:Addr} {B:List V},SqT X.K H ad B->∃i:Array Value,s.heap.IsTuple ad i:=fun q=>by
   obtain⟨i,_,p,_⟩:=I.tuple q;exact⟨_,p⟩
  cases Vl x r1 e1 with
  | flat f z=>
   cases Vl x C M with
   | flat Z w=>
    rcases z with⟨rfl,rfl⟩|⟨_,rfl,rfl⟩|⟨_,rfl,rfl⟩|⟨_,rfl,rfl⟩<;>rcases w with⟨rfl,rfl⟩|⟨_,rfl,rfl⟩|⟨_,rfl,rfl⟩|⟨_,rfl,rfl⟩<;>first|(obtain⟨aa,rfl⟩:=j)|cases j
    ·first|(obtain⟨g,rfl⟩:=c)|cases c
     unfold eqW;exact RcNeAt.none_none
    ·first|(obtain⟨g,rfl⟩:=c)|cases c
     unfold eqW;exact RcNeAt.none_bool _
    ·first|(obtain⟨g,rfl⟩:=c)|cases c
     unfold eqW;exact RcNeAt.none_int _ _
    ·first|(obtain⟨g,rfl⟩:=c)|cases c
     unfold eqW;exact RcNeAt.none_str _ _
    ·first|(obtain⟨g,rfl⟩:=c)|cases c
     unfold eqW;exact RcNeAt.bool_none _
    ·first|(obtain⟨g,rfl⟩:=c)|cases c
     unfold eqW;exact RcNeAt.bool_bool _ _
    ·first|(obtain⟨g,rfl⟩:=c)|cases c
     unfold eqW;exact RcNeAt.bool_int _ _ _
    ·first|(obtain⟨g,rfl⟩:=c)|cases c
     unfold eqW;exact RcNeAt.bool_str _ _ _
    ·first|(obtain⟨g,rfl⟩:=c)|cases c
     unfold eqW;exact RcNeAt.int_none _ _
    ·first|(obtain⟨g,rfl⟩:=c)|cases c
     unfold eqW;exact RcNeAt.int_bool _ _ _
    ·first|(obtain⟨g,rfl⟩:=c)|cases c
     unfold eqW;exact RcNeAt.int_int _ _ _ _
    ·first|(obtain⟨g,rfl⟩:=c)|cases c
     unfold eqW;exact RcNeAt.int_str _ _ _ _
    ·first|(obtain⟨g,rfl⟩:=c)|cases c
     unfold eqW;exact RcNeAt.str_none _ _
    ·first|(obtain⟨g,rfl⟩:=c)|cases c
     unfold eqW;exact RcNeAt.str_bool _ _ _
    ·first|(obtain⟨g,rfl⟩:=c)|cases c
     unfold eqW;exact RcNeAt.str_int _ _ _ _
    ·first|(obtain⟨g,rfl⟩:=c)|cases c
     unfold eqW;exact RcNeAt.str_str _ _ _ _
   |lst e q=>
    subst e;cases c;obtain⟨i,p⟩:=u q
    rcases z with⟨rfl,rfl⟩|⟨_,rfl,rfl⟩|⟨_,rfl,rfl⟩|⟨_,rfl,rfl⟩
    ·cases j;unfold eqW;exact RcNeAt.none_list p d
    ·cases j;unfold eqW;exact RcNeAt.bool_list _ p d
    ·obtain⟨t,rfl⟩:=j;unfold eqW;exact RcNeAt.int_list _ t p d
    ·obtain⟨t,rfl⟩:=j;unfold eqW;exact RcNeAt.str_list _ t p d
   |tup e q=>
    subst e;cases c;obtain⟨i,p⟩:=o q
    rcases z with⟨rfl,rfl⟩|⟨_,rfl,rfl⟩|⟨_,rfl,rfl⟩|⟨_,rfl,rfl⟩
    ·cases j;unfold eqW;exact RcNeAt.none_tuple p d
    ·cases j;unfold eqW;exact RcNeAt.bool_tuple _ p d
    ·obtain⟨t,rfl⟩:=j;unfold eqW;exact RcNeAt.int_tuple _ t p d
    ·obtain⟨t,rfl⟩:=j;unfold eqW;exact RcNeAt.str_tuple _ t p d
  | @lst N _ _ _ e q r m=>
   subst e;cases j;obtain⟨i,p⟩:=u q;have L:=Vl x C M;cases L with
   |flat Z w=>
    rcases w with⟨rfl,rfl⟩|⟨_,rfl,rfl⟩|⟨_,rfl,rfl⟩|⟨_,rfl,rfl⟩
    ·cases c;unfold eqW;exact RcNeAt.list_none p d
    ·cases c;unfold eqW;exact RcNeAt.list_bool _ p d
    ·obtain⟨t,rfl⟩:=c;unfold eqW;exact RcNeAt.list_int _ t p d
    ·obtain⟨t,rfl⟩:=c;unfold eqW;exact RcNeAt.list_str _ t p d
   |tup v l=>
    subst v;cases c;obtain⟨y,E⟩:=o l;unfold eqW;exact RcNeAt.list_tuple p E d
   |lst v l D G=>
    subst v;cases c;unfold eqW;exact UQ I d Y q l r D m G
  | @tup N _ _ _ e q r m=>
   subst e;cases j;obtain⟨i,p⟩:=o q;have L:=Vl x C M;cases L with
   |flat Z w=>
    rcases w with⟨rfl,rfl⟩|⟨_,rfl,rfl⟩|⟨_,rfl,rfl⟩|⟨_,rfl,rfl⟩
    ·cases c;unfold eqW;exact RcNeAt.tuple_none p d
    ·cases c;unfold eqW;exact RcNeAt.tuple_bool _ p d
    ·obtain⟨t,rfl⟩:=c;unfold eqW;exact RcNeAt.tuple_int _ t p d
    ·obtain⟨t,rfl⟩:=c;unfold eqW;exact RcNeAt.tuple_str _ t p d
   |lst v l=>
    subst v;cases c;obtain⟨y,E⟩:=u l;unfold eqW;exact RcNeAt.tuple_list p E d
   |tup v l D G=>
    subst v;cases c;unfold eqW;exact QaC I d Y q l r D m G
end
noncomputable def wEq(a b:W)(h:MH):Option (W×MH):=(drf h 40 a).bind fun x=>(drf h 40 b).map fun y=>(.bl (eqW x y),h)
noncomputable def wNe(a b:W)(h:MH):Option (W×MH):=(drf h 40 a).bind fun x=>(drf h 40 b).map fun y=>(.bl (!eqW x y),h)
theorem QI{K:Nh}{f:W->W->MH->Option (W×MH)}:OpM K (F2 K f) f:=fun _ _ _ _ q=>q
section
variable{X:Cx}
theorem GL(hu:X.A.units+64<cLine):OpR X (compareOp .Eq) (F2 X.K wEq):=by
 intro d s t H x y v u Q I g f q;obtain⟨R,h,a,b,w,z,c,j,i,e,k⟩:=q;obtain⟨r,o,n⟩:=Nc.mp e;obtain⟨p,m,l⟩:=Nk.mp n;cases l;exact Qgr I c 40 X.A (N0 (NU (by decide) _) hu) a b x y v u r p j i g f o m _ _ _ _ ⟨.bl _,H,I,rfl,k R H _ (Ext.refl _) c (Rw.bl _)⟩
theorem QhH(hu:X.A.units+64<cLine):OpR X (compareOp .NotEq) (F2 X.K wNe):=by
 intro d s t H x y v u Q I g f q;obtain⟨R,h,a,b,w,z,c,j,i,e,k⟩:=q;obtain⟨r,o,n⟩:=Nc.mp e;obtain⟨p,m,l⟩:=Nk.mp n;cases l;exact Qb1 I c 40 X.A (N0 (NU (by decide) _) hu) a b x y v u r p j i g f o m _ _ _ _ ⟨.bl _,H,I,rfl,k R H _ (Ext.refl _) c (Rw.bl _)⟩
noncomputable def inW(x:W)(xs:List W):Bool:=xs.any fun y=>eqW y x
noncomputable def wIn(neg:Bool)(a b:W)(h:MH):Option (W×MH):=match b with
 |.tup d=>(drf h 40 a).bind fun x=>(Zt (drf h 40) d).map fun c=>(.bl (if neg then !inW x c else inW x c),h)
 |b=>(lsW h b).bind fun d=>(drf h 40 a).bind fun x=>(Zt (drf h 40) d).map fun c=>(.bl (if neg then !inW x c else inW x c),h)
open Classical in
noncomputable def QcE(K:Nh)(R:Rn)(h:MH)(x:W)(u:Value):Bool:=decide (∃w v a,Rw K R w v/\RelV v u/\drf h 40 w=some a/\eqW a x=true)
open Classical in
theorem WA{b:List (Addr×Obj)}{σ:L2.St}{H:Hp}{s:Shared}{R:Rn}{h:MH}(I:Inv X b σ H s)(g:Rh X.K R h H){x w a:W}{v:V}{u:Value}(r:Rw X.K R w v)(t:RelV v u)(e:drf h 40 w=some a):QcE X.K R h x u=eqW a x:=by
 unfold QcE
 by_cases q:eqW a x=true
 ·rw[q];exact decide_eq_true ⟨w,v,a,r,t,e,q⟩
 ·have c:eqW a x=false:=by simpa using q
  rw[c];refine decide_eq_false fun⟨d,m,l,i,f,j,z⟩=>?_;have:=t.inj f;subst this;rw[Xs I g 40 w d v a l r i e j,z]at c;cases c
theorem GH{a:List (Addr×Obj)}{σ:L2.St}{H:Hp}{s:Shared}{R:Rn}{h:MH}(I:Inv X a σ H s)(b:Rh X.K R h H){x:W}:∀{ws as:List W} {xs:List V} {us:List Value},Rws X.K R ws xs->Vals xs us->Zt (drf h 40) ws=some as->us.any (QcE X.K R h x)=inW x as
 |[],_,_,_,r,t,m=>by
  rw[Rws.nil_iff]at r;subst r;cases t;cases m;rfl
 | w::ws,_,_,_,r,t,m=>by
  rw[Rws.cons_iff]at r;obtain⟨v,d,rfl,i,g⟩:=r;cases t with
  |cons f e=>
   obtain⟨y,o,n⟩:=Nc.mp m;obtain⟨p,l,j⟩:=Nk.mp n;subst j;have c:=GH I b (x:=x) g e l;unfold inW at c ⊢;rw[DS,DS,WA I b i f o,c]
theorem Yc{c:List (Addr×Obj)}{σ:L2.St}{H:Hp}{s:Shared}{R:Rn}{h:MH}(I:Inv X c σ H s)(j:Rh X.K R h H){A:Around}(hu:A.units+40<cLine){a x:W}{v:V}{u:Value}(q:Rw X.K R a v)(p:RelV v u)(E:drf h 40 a=some x){ws as:List W}{xs:List V}{us:List Value}
  (r:Rws X.K R ws xs) (t:Vals xs us) (m:Zt (drf h 40) ws=some as):∀y∈us,EqAt A s y u (QcE X.K R h x y):=by
 intro y C;obtain⟨i,l,e⟩:=EN.mp C;have B:=r.length;have z:=t.length;obtain⟨w,hw⟩:∃w,ws[i]?=some w:=⟨ws[i]'(Ng (Ng l (Nq z.symm)) (Nq B.symm)),No _⟩
 obtain⟨o,D,f⟩:=r.get hw;obtain⟨G,d,g⟩:=t.get D;rw[No l,e]at d;cases d;obtain⟨b,L,n⟩:=(Qw m).2 i w hw;rw[WA I j f g n];exact W9 I j 40 A hu w a o v y u b x f q g p n E
theorem Ks(hu:X.A.units+64<cLine):OpR X (compareOp .In) (F2 X.K (wIn false)):=by
 intro p s Y H x y v u Q I P O q;obtain⟨R,h,a,b,w,N,l,U,S,e,k⟩:=q;have B:X.A.in1.units+40<cLine:=by show X.A.units+1+40<cLine;lia
 have main:∀g,((drf h 40 a).bind fun x=>(Zt (drf h 40) g).map fun c=>((W.bl (if false then !inW x c else inW x c),h):W×MH))=some (w,N)->∃d c,drf h 40 a=some d/\Zt (drf h 40) g=some c/\w=.bl (inW d c)/\N=h:=fun g e=>by
  obtain⟨d,j,e2⟩:=Nc.mp e;obtain⟨c,i,Z⟩:=Nk.mp e2;cases Z;exact⟨d,c,j,i,rfl,rfl⟩
 have fin:∀{d:W} {c E:List W} {m:List V} {f:List Value},Rws X.K R E m->Vals m f->drf h 40 a=some d->Zt (drf h 40) E=some c->w=.bl (inW d c)->N=h->EP X p Y Q (.bool (f.toArray.any (QcE X.K R h d))) s:=fun {d c E m f} r t ea em C D=>by
  subst C D;rw[List.any_toArray,GH I l r t em];exact⟨.bl _,H,I,rfl,k R H _ (Ext.refl _) l (Rw.bl _)⟩
 unfold wIn at e;split at e
 ·rename_i g;obtain⟨d,c,j,i,C,D⟩:=main g e;obtain⟨ad,m,rfl,G,o⟩:=l.tupAt S;cases O;obtain⟨f,n,L,_⟩:=I.tuple G;exact in_tupleAt (QcE X.K R h d) (show s.heap.IsTuple ad f.toArray from L) (fun z M=>Yc I l B U P j o n i z (by simpa using M)) (fin o n j i C D)
 ·obtain⟨g,e0,e⟩:=Nc.mp e;obtain⟨d,c,j,i,C,D⟩:=main g e;obtain⟨ad,m,rfl,G,o⟩:=l.lsAt S e0;cases O;obtain⟨f,n,L,_⟩:=I.list G;exact in_listAt (QcE X.K R h d) L.isList (fun z M=>Yc I l B U P j o n i z (by simpa using M)) (fin o n j i C D)
end
end Mi

namespace Mi
open L2

noncomputable def QL(a b:W)(h:MH):Option (W×MH):=match a,b with
 |.int i,.int j=>some (.int (i+j),h)
 |.str x,.str y=>if x.length+y.length<=sizeLine then some (.str (x++y),h)else none
 |.tup d,.tup c=>if d.length+c.length<=sizeLine then some (.tup (d++c),h)else none
 |a,b=>(loW h a).bind fun d=>(loW h b).bind fun c=>if d.length+c.length<=sizeLine then some (.lst (d++c),h)else none
noncomputable def QfC(a b:W)(h:MH):Option (W×MH):=match a,b with|.int i,.int j=>some (.int (i-j),h)|_,_=>none
noncomputable def Qgh(a b:W)(h:MH):Option (W×MH):=match a,b with|.int i,.int j=>if(-(2^64)<i/\i<2^64)\/(-(2^64)<j/\j<2^64)then some (.int (i*j),h)else none|_,_=>none
noncomputable def Jc(a b:W)(h:MH):Option (W×MH):=match a,b with|.int i,.int j=>if 0<j/\j<1073741824 then some (.int (i/j),h)else none|_,_=>none
noncomputable def Zu(a b:W)(h:MH):Option (W×MH):=match a,b with|.int i,.int j=>if 0<j then some (.int (i%j),h)else none|_,_=>none
noncomputable def wLt(a b:W)(h:MH):Option (W×MH):=match a,b with|.int i,.int j=>some (.bl (decide (i<j)),h)|.str x,.str y=>some (.bl (decide (x.cps.toList<y.cps.toList)),h)|_,_=>none
noncomputable def wGt(a b:W)(h:MH):Option (W×MH):=match a,b with|.int i,.int j=>some (.bl (decide (j<i)),h)|_,_=>none
section
variable{X:Cx}
noncomputable def Qjo(K:Nh):R2:=fun x y H Q=>∃a b c d,x=.ref a/\y=.ref b/\SqT K H a c/\SqT K H b d/\c.length+d.length<=sizeLine /\
 (c=[]->Q (.ref b) H)/\(c≠[]->d=[]->Q (.ref a) H)/\(c≠[]->d≠[]->∀p,H p=none->Q (.ref p) (upd H p (.tup (c++d))))
theorem op_catA:OpR X (binaryOp .Add) (Qjo X.K):=by
 intro c s A H x y v u Q I p o h;obtain⟨a,b,m,B,rfl,rfl,w,t,S,L,G,E⟩:=h
 by_cases i:m=[]
 ·subst i;cases p;cases o;obtain⟨P,D,N,_⟩:=I.tuple w;obtain⟨d,Y,M,_⟩:=I.tuple t;cases D;obtain⟨⟨cls,U,data,C⟩,q,r,n,hd⟩:=id N;obtain⟨⟨z,l,data2,j⟩,e,g,O,f⟩:=id M;simp only at r hd g f;subst r hd g f
  exact Yaf ⟨_,q,rfl⟩ ⟨_,e,rfl⟩ LK OX Io Ia (FT _ _)
   (tuple_addW0 a b #[] d.toArray n O U l C j (by simp)) ⟨q,e,⟨.ref b,H,I,rfl,L rfl⟩⟩
 ·exact QfB c s A H _ _ v u Q I p o ⟨a,b,m,B,rfl,rfl,w,t,i,S,G i,E i⟩
theorem Qd8:OpR X (binaryOp .Add) (F2 X.K QL):=by
 intro m s S H x y v u Q I Y U q;refine(op_add.or (op_add_str.or (op_catA.or Qix))) m s S H x y v u Q I Y U ?_;obtain⟨R,h,a,b,w,Z,c,i,g,e,k⟩:=q;unfold QL at e;split at e
 ·cases e;exact .inl ⟨_,_,i.int_eq,g.int_eq,k R H _ (Ext.refl _) c (Rw.int _)⟩
 ·split at e
  ·rename_i E;cases e;exact .inr (.inl ⟨_,_,i.str_eq,g.str_eq,E,k R H _ (Ext.refl _) c (Rw.str _)⟩)
  ·cases e
 ·split at e
  ·rename_i N M E;cases e;obtain⟨ad,t,o,C,l⟩:=c.tupAt i;obtain⟨G,r,n,B,j⟩:=c.tupAt g;have P:=l.length;have O:=j.length;refine .inr (.inr (.inl ⟨ad,G,t,r,o,n,C,B,by lia,fun z=>?_,fun _ z=>?_,fun _ _ p D=>?_⟩))
   ·subst z;have:N=[]:=Ep.mp P;subst this;exact k R H _ (Ext.refl _) c (n▸g)
   ·subst z;have:M=[]:=Ep.mp O;subst this;rw[Dx]at k;exact k R H _ (Ext.refl _) c (o▸i)
   ·obtain⟨L,A,f,d⟩:=c.tup D (Rws.append l j);exact k L _ _ A f d
  ·cases e
 ·obtain⟨N,o,e⟩:=Nc.mp e;obtain⟨M,n,e⟩:=Nc.mp e;split at e
  ·rename_i E;cases e;obtain⟨ad,t,f1,C,l⟩:=c.loAt i o;obtain⟨G,r,f2,B,j⟩:=c.loAt g n;have P:=l.length;have O:=j.length;refine .inr (.inr (.inr ⟨ad,G,t,r,f1,f2,C,B,by omega,fun p D=>?_⟩));obtain⟨L,A,f,d⟩:=c.lstI D (Rws.append l j);exact k L _ _ A f d
  ·cases e
theorem Qav:OpR X (binaryOp .Sub) (F2 X.K QfC):=by
 intro c s d H x y v u Q I g f q;refine Qiy c s d H x y v u Q I g f ?_;obtain⟨R,h,a,b,w,m,i,l,j,e,k⟩:=q;unfold QfC at e;split at e
 ·cases e;exact⟨_,_,l.int_eq,j.int_eq,k R H _ (Ext.refl _) i (Rw.int _)⟩
 ·cases e
theorem QeF:OpR X (binaryOp .Mult) (F2 X.K Qgh):=by
 intro c s d H x y v u Q I g f q;refine QgN c s d H x y v u Q I g f ?_;obtain⟨R,h,a,b,w,n,i,l,j,e,k⟩:=q;unfold Qgh at e;split at e
 ·split at e
  ·rename_i m;cases e;exact⟨_,_,l.int_eq,j.int_eq,m,k R H _ (Ext.refl _) i (Rw.int _)⟩
  ·cases e
 ·cases e
theorem QfK:OpR X (binaryOp .FloorDiv) (F2 X.K Jc):=by
 intro c s d H x y v u Q I g f q;refine QeS c s d H x y v u Q I g f ?_;obtain⟨R,h,a,b,w,n,i,l,j,e,k⟩:=q;unfold Jc at e;split at e
 ·split at e
  ·rename_i m;cases e;exact⟨_,_,l.int_eq,j.int_eq,m,k R H _ (Ext.refl _) i (Rw.int _)⟩
  ·cases e
 ·cases e
theorem Qek:OpR X (binaryOp .Mod) (F2 X.K Zu):=by
 intro c s d H x y v u Q I g f q;refine Qhi c s d H x y v u Q I g f ?_;obtain⟨R,h,a,b,w,n,i,l,j,e,k⟩:=q;unfold Zu at e;split at e
 ·split at e
  ·rename_i m;cases e;exact⟨_,_,l.int_eq,j.int_eq,m,k R H _ (Ext.refl _) i (Rw.int _)⟩
  ·cases e
 ·cases e
theorem Kt:OpR X (compareOp .Lt) (F2 X.K wLt):=by
 intro c s i H x y v u Q I l j q;refine(op_lt.or Qa3) c s i H x y v u Q I l j ?_;obtain⟨R,h,a,b,w,m,d,g,f,e,k⟩:=q;unfold wLt at e;split at e
 ·cases e;exact .inl ⟨_,_,g.int_eq,f.int_eq,k R H _ (Ext.refl _) d (Rw.bl _)⟩
 ·cases e;exact .inr ⟨_,_,g.str_eq,f.str_eq,k R H _ (Ext.refl _) d (Rw.bl _)⟩
 ·cases e
theorem Ku:OpR X (compareOp .Gt) (F2 X.K wGt):=by
 intro c s d H x y v u Q I g f q;refine QjX c s d H x y v u Q I g f ?_;obtain⟨R,h,a,b,w,m,i,l,j,e,k⟩:=q;unfold wGt at e;split at e
 ·cases e;exact⟨_,_,l.int_eq,j.int_eq,k R H _ (Ext.refl _) i (Rw.bl _)⟩
 ·cases e
noncomputable def QcQ(a:W)(h:MH):Option (W×MH):=match a with|.int i=>some (.int (-i),h)|_=>none
theorem Uc{a:Expr}{b:ME}{pos:Pos}(f:PM X a b):PM X (.UnaryOp .USub a pos) (mUn QcQ b):=Q7 (Qi9 QgZ f) fun i H Q q=>JO (un1 q) <|by
 rintro x g ⟨R,h,a,w,j,c,d,e,k⟩
 unfold QcQ at e;split at e
 ·cases e;exact⟨_,d.int_eq,k R g _ (Ext.refl _) c (Rw.int _)⟩
 ·cases e
noncomputable def wIx(a b:W)(h:MH):Option (W×MH):=match b with
 |.int i=>match a with
  |.tup d=>(atI d i).map fun w=>(w,h)
  |.str x=>if x.length<=sizeLine then(atI x.cps.toList i).map fun c=>(.str ⟨#[c]⟩,h)else none
  |a=>(lsW h a).bind fun d=>(atI d i).map fun w=>(w,h)
 |_=>none
theorem GC{K:Nh}{R:Rn}{ws:List W}{xs:List V}(r:Rws K R ws xs){i:Int}{w:W}(e:atI ws i=some w):∃v,atI xs i=some v/\Rw K R w v:=by
 unfold atI at e ⊢;rw[<-r.length];obtain⟨j,d,c⟩:=Nc.mp e;obtain⟨v,b,a⟩:=r.get c;exact⟨v,by rw[d];exact b,a⟩
theorem Qf1:IxR X (F2 X.K wIx):=by
 intro value slice f s z H x y v u Q I D C q E;refine QhA value slice f s z H x y v u Q I D C ?_ E;obtain⟨R,h,a,b,w,M,d,n,m,e,k⟩:=q;unfold wIx at e;split at e
 ·rename_i i;split at e
  ·rename_i A;obtain⟨B,j,g⟩:=Nk.mp e;cases g;obtain⟨ad,l,rfl,r,p⟩:=d.tupAt n;obtain⟨v1,t,o⟩:=GC p j;exact .inr (.inl ⟨ad,l,i,v1,rfl,m.int_eq,r,t,k R H _ (Ext.refl _) d o⟩)
  ·split at e
   ·rename_i G;obtain⟨c,j,g⟩:=Nk.mp e;cases g;exact .inr (.inr ⟨_,i,c,n.str_eq,m.int_eq,G,j,k R H _ (Ext.refl _) d (Rw.str _)⟩)
   ·cases e
  ·obtain⟨A,L,e⟩:=Nc.mp e;obtain⟨B,j,g⟩:=Nk.mp e;cases g;obtain⟨ad,l,rfl,r,p⟩:=d.lsAt n L;obtain⟨v1,t,o⟩:=GC p j;exact .inl ⟨ad,l,i,v1,rfl,m.int_eq,r,t,k R H _ (Ext.refl _) d o⟩
 ·cases e
theorem QjQ{a b:Expr}{d c:ME}{pos:Pos}(i:PM X a d)(h:PM X b c)(g:Qae b:=by intro _ _;rfl):PM X (.Subscript a b pos) (Qc wIx d c):=
 Q7 (Qjh Qf1 i h g) fun _ _ _ q=>JO (QgC q) fun _ _ f=>JO f fun _ _ e=>e
noncomputable def ZZ(ws:List W)(h:MH):Option (W×MH):=match ws with
 |[.str x]=>if x.length<=sizeLine then some (.int x.length,h)else none
 |[.tup ws]=>some (.int ws.length,h)
 |[a]=>(lsW h a).map fun ws=>(.int ws.length,h)
 |_=>none
theorem Q6{K:Nh}{f:List W->MH->Option (W×MH)}:Qeq K (Fs K f) f:=fun _ _ _ q=>q
theorem XO{K:Nh}{R:Rn}{a:W}{xs:List V}(r:Rws K R [a] xs):∃v,xs=[v]/\Rw K R a v:=by
 rw[Rws.cons_iff]at r;obtain⟨v,d,rfl,c,b⟩:=r;rw[Rws.nil_iff]at b;subst b;exact⟨v,rfl,c⟩
theorem Qhg{K:Nh}{R:Rn}{a b:W}{xs:List V}(r:Rws K R [a,b] xs):∃v u,xs=[v,u]/\Rw K R a v/\Rw K R b u:=by
 rw[Rws.cons_iff]at r;obtain⟨v,f,rfl,e,d⟩:=r;obtain⟨u,rfl,c⟩:=XO d;exact⟨v,u,rfl,e,c⟩
theorem Qbw:CallR X (.builtin "len") (Fs X.K ZZ):=by
 intro d s i H a j Q I r q;refine(call_len_seq.or Y2) d s i H a j Q I r ?_;obtain⟨R,h,p,w,t,b,rw,e,k⟩:=q;unfold ZZ at e;split at e
 ·split at e
  ·rename_i l;cases e;obtain⟨v,rfl,c⟩:=XO rw;exact .inr ⟨_,by rw[c.str_eq],l,k R H _ (Ext.refl _) b (Rw.int _)⟩
  ·cases e
 ·cases e;obtain⟨v,rfl,c⟩:=XO rw;obtain⟨ad,a,rfl,g,f⟩:=b.tupAt c;exact .inl ⟨ad,a,rfl,.inr g,by rw[<-f.length];exact k R H _ (Ext.refl _) b (Rw.int _)⟩
 ·obtain⟨o,n,m⟩:=Nk.mp e;cases m;obtain⟨v,rfl,c⟩:=XO rw;obtain⟨ad,a,rfl,g,f⟩:=b.lsAt c n;exact .inl ⟨ad,a,rfl,.inl g,by rw[<-f.length];exact k R H _ (Ext.refl _) b (Rw.int _)⟩
 ·cases e
noncomputable def Z6(ws:List W)(h:MH):Option (W×MH):=match ws with
 |[.tup ws]=>some (.tup ws,h)
 |[a]=>(lsW h a).map fun ws=>(.tup ws,h)
 |_=>none
noncomputable def Gb(ws:List W)(h:MH):Option (W×MH):=match ws with
 |[.tup ws]=>some (.lst ws,h)
 |[a]=>(lsW h a).map fun ws=>(.lst ws,h)
 |_=>none
theorem Wb:CallR X (.type "tuple") (Fs X.K Z6):=by
 intro b s l H a n Q I r q;refine Yh b s l H a n Q I r ?_;obtain⟨R,h,z,w,A,c,rw,e,k⟩:=q;unfold Z6 at e;split at e
 ·cases e;obtain⟨v,rfl,d⟩:=XO rw;obtain⟨ad,a,rfl,i,j⟩:=c.tupAt d;exact⟨ad,a,rfl,.inr ⟨i,k R H _ (Ext.refl _) c d⟩⟩
 ·obtain⟨y,u,t⟩:=Nk.mp e;cases t;obtain⟨v,rfl,d⟩:=XO rw;obtain⟨ad,a,rfl,i,j⟩:=c.lsAt d u;refine⟨ad,a,rfl,.inl ⟨i,fun p o=>?_⟩⟩;obtain⟨x,m,g,f⟩:=c.tup o j;exact k x _ _ m g f
 ·cases e
theorem Kq:CallR X (.type "list") (Fs X.K Gb):=by
 intro d s o H c t Q I r q;refine Xk d s o H c t Q I r ?_;obtain⟨R,h,z,w,A,f,rw,e,k⟩:=q;unfold Gb at e;split at e
 ·cases e;obtain⟨v,rfl,j⟩:=XO rw;obtain⟨ad,c,rfl,l,i⟩:=f.tupAt j;refine⟨ad,c,rfl,.inr l,fun p m=>?_⟩;obtain⟨n,g,b,a⟩:=f.lstI m i;exact k n _ _ g b a
 ·obtain⟨y,x,u⟩:=Nk.mp e;cases u;obtain⟨v,rfl,j⟩:=XO rw;obtain⟨ad,c,rfl,l,i⟩:=f.lsAt j x;refine⟨ad,c,rfl,.inl l,fun p m=>?_⟩;obtain⟨n,g,b,a⟩:=f.lstI m i;exact k n _ _ g b a
 ·cases e
end
end Mi

namespace Mi
open L2

section
variable{prog:Program}{w:World}{A:Around}{E:Value->Shared->Prop}{s:Shared}
theorem VD{t b:Addr}{items:Array Value}{i g:Value}{lo hi:Option Int}{Q:Value->Shared->Prop}(a:IsTup s.heap t items)(j:s.heap.IsSliceOf b i g .none)(n:IsPart i lo)(l:IsPart g hi)
  (hw:HT.sIx items.size 0 lo=0/\HT.sIx items.size items.size hi=items.size) (h:Q (.ref t) s):wpAny (model prog w) A (getItem (.ref t) (.ref b)) Q E s:=by
 obtain⟨os,c,e,o⟩:=id j;have f:s.TypeIs (.ref b) "slice":=⟨os,c,e⟩
 unfold getItem
 try with_reducible refine N8 ?_
 first|refine Na (Nj ?_)|skip
 refine Na (Lx a.typeIs (by decide) ?_)
 refine Na (Ey (name:=Str.ofString "__getitem__") a.typeIs EA
  (Ef EA a.typeIs O2 ?_ (args_tuple_getitem _ _)))
 show wpAny _ _ (Builtin.Tuple.tupleItemsOf (.ref t)>>=_) _ _ s;refine Na (tupleItemsOf_ a ?_);refine Na (FU f ?_);rw[if_pos (by decide)];refine Na (HT.sliceApplied_gen j n l ?_)
 have d:((((HT.sIx items.size 0 lo:Nat):Int)==0&&(1:Int)==1&&(HT.sIx items.size items.size hi-HT.sIx items.size 0 lo)==items.size)=true):=by
  rw[hw.1,hw.2];simp
 show wpAny _ _ (if(((HT.sIx items.size 0 lo:Nat):Int)==0&&(1:Int)==1&&(HT.sIx items.size items.size hi-HT.sIx items.size 0 lo)==items.size)=true then _ else _) _ _ s;rw[if_pos d];refine Na (m:=Builtin.Tuple.tupleIsExact _) ?_;unfold Builtin.Tuple.tupleIsExact;refine Na (FU a.typeIs (Nj ?_));rw[if_pos (by decide)];exact Na (DI (Nj ⟨_,rfl,Nj h⟩))
end
noncomputable def KI{a:Type}(xs:List a)(lo hi:Option Int):List a:=(xs.drop (HT.sIx xs.length 0 lo)).take (HT.sIx xs.length xs.length hi-HT.sIx xs.length 0 lo)
noncomputable def wSl(a:W)(lo hi:Option Int)(h:MH):Option (W×MH):=match a with
 |.tup b=>some (.tup (KI b lo hi),h)
 |.str x=>if x.length<=sizeLine then some (.str (Txt.slice x lo hi),h)else none
 |a=>(lsW h a).map fun b=>(.lst (KI b lo hi),h)
theorem Qbl{K:Nh}{R:Rn}{ws:List W}{xs:List V}(r:Rws K R ws xs)(lo hi:Option Int):Rws K R (KI ws lo hi) (Qdk xs lo hi):=by
 unfold KI Qdk;rw[r.length];exact(r.drop _).take _
theorem US{a:Type}{xs:List a}{lo hi:Option Int}(h:HT.sIx xs.length 0 lo=0/\HT.sIx xs.length xs.length hi=xs.length):KI xs lo hi=xs:=by
 unfold KI;rw[h.1,h.2];simp
noncomputable abbrev MOp:=MSt->MH->Option (Option Int×MH)
noncomputable def tIO(K:Nh)(m:MOp):TO:=fun e H Q=>∃R a h o b,Rh K R h H/\Rst K R a e/\m a h=some (o,b)/\∀c d,Ext R c->Rh K c b d->Q o d
noncomputable def PMO(X:Cx)(e:Option Expr)(m:MOp):Prop:=PO X e (tIO X.K m)
noncomputable def YZ:MOp:=fun _ h=>some (none,h)
noncomputable def Xq(m:ME):MOp:=fun a h=>(m a h).bind fun p=>match p.1 with|.int i=>some (some i,p.2)|_=>none
noncomputable def mSl(d:ME)(b c:MOp):ME:=fun a h=>(d a h).bind fun p=>(b a p.2).bind fun q=>(c a q.2).bind fun r=>wSl p.1 q.1 r.1 r.2
section
variable{X:Cx}
theorem sl_tupA:SlR X (fun x lo hi H Q=>∃a xs,x=.ref a/\SqT X.K H a xs/\((HT.sIx xs.length 0 lo=0/\HT.sIx xs.length xs.length hi=xs.length)->Q (.ref a) H) /\
  (¬(HT.sIx xs.length 0 lo=0/\HT.sIx xs.length xs.length hi=xs.length)->∀p,H p=none->Q (.ref p) (upd H p (.tup (Qdk xs lo hi))))):=by
 intro b s m H x v o n lo hi q Q I e l g f h;obtain⟨a,xs,rfl,i,u,t⟩:=h
 by_cases hw:HT.sIx xs.length 0 lo=0/\HT.sIx xs.length xs.length hi=xs.length
 ·cases e;obtain⟨d,r,j,w⟩:=I.tuple i;have c:d.toArray.size=xs.length:=by rw[Nt];exact r.length.symm
  refine⟨"tuple",_,EA.lookup,j.typeIs,?_⟩;exact VD j l g f (by rw[c];exact hw) ⟨.ref a,H,I,rfl,u hw⟩
 ·exact Qid b s m H (.ref a) v o n lo hi q Q I e l g f ⟨a,xs,rfl,i,hw,t hw⟩
theorem Qh8:SlR X (fun x lo hi H Q=>∃z,x=.str z/\z.length<=sizeLine/\Q (.str (Txt.slice z lo hi)) H):=by
 intro a s m H x v r p lo hi w Q I n c o g h;obtain⟨z,rfl,b,q⟩:=h;obtain⟨t,rfl⟩:=n;refine⟨"str",_,PySem.F.slot_str_getitem.lookup,typeIs_str _ _ _,?_⟩;have fin:∀(e:Tok) (k:Nat),EP X a m Q (.str (Txt.slice z lo hi) e) { s with toks:=k }:=fun e k=>⟨.str _,H,I.tok _,⟨e,rfl⟩,q⟩
 cases o with
 |none=>
  cases g with
  |none=>exact Fd (l:=none) (u:=none) (st:=none) c rfl (II ⟨Nf (FX z _ _) b,fin⟩)
  |int j d=>exact Fd (l:=none) (u:=some (j,d)) (st:=none) c rfl (II ⟨Nf (FX z _ _) b,fin⟩)
 |int i f=>
  cases g with
  |none=>exact Fd (l:=some (i,f)) (u:=none) (st:=none) c rfl (II ⟨Nf (FX z _ _) b,fin⟩)
  |int j d=>exact Fd (l:=some (i,f)) (u:=some (j,d)) (st:=none) c rfl (II ⟨Nf (FX z _ _) b,fin⟩)
theorem Xx:PMO X none YZ:=fun a s c H Q I ⟨R,b,h,o,f,d,st,e,k⟩=>by
 cases e;exact QfA a s c H Q I (k R H (Ext.refl _) d)
theorem Jl{e:Expr}{m:ME}(l:PM X e m):PMO X (some e) (Xq m):=fun a s f H Q I ⟨R,b,h,o,t,j,st,q,k⟩=>by
 refine Qe8 l a s f H Q I ?_;obtain⟨⟨w,n⟩,p,d⟩:=Nc.mp q;refine⟨R,b,h,w,n,j,st,p,fun R1 r v g c i=>?_⟩;cases w<;>simp only at d<;>first|(cases d;exact⟨_,i.int_eq,k R1 r g c⟩)|cases d
theorem Vi{a:Expr}{lo hi:Option Expr}{D:ME}{B C:MOp}{pos O:Pos}(Y:PM X a D)(S:PMO X lo B)(U:PMO X hi C):PM X (.Subscript a (.Slice lo hi none O) pos) (mSl D B C):=
 Q7 (QcU (sl_list.or (sl_tupA.or Qh8)) Y S U) fun σ H Q ⟨R,f,h,w,h',N,st,e,k⟩=>by
  obtain⟨⟨a,G⟩,ea,e2⟩:=Nc.mp e;obtain⟨⟨l,E⟩,el,e3⟩:=Nc.mp e2;obtain⟨⟨u,Z⟩,eu,d⟩:=Nc.mp e3;refine⟨R,f,h,a,G,N,st,ea,fun R1 H1 x r t M=>⟨R1,f,G,l,E,t,st.mono r,el,fun R2 H2 q s=>⟨R2,f,E,u,Z,s,st.mono (r.trans q),eu,fun I L A b=>?_⟩⟩⟩;have c:=Rw.mono (q.trans A) _ _ M;have j:=k.ext (r.trans (q.trans A));dsimp only at d;unfold wSl at d;split at d
  ·cases d;obtain⟨ad,n,rfl,v,m⟩:=b.tupAt c;refine .inr (.inl ⟨ad,n,rfl,v,fun hw=>?_,fun _ p y=>?_⟩)
   ·rw[US (by rw[m.length];exact hw)]at j;exact j I L _ (Ext.refl _) b c
   ·obtain⟨z,o,i,g⟩:=b.tup y (Qbl m l u);exact j z _ _ o i g
  ·split at d
   ·rename_i P;cases d;exact .inr (.inr ⟨_,c.str_eq,P,j I L _ (Ext.refl _) b (Rw.str _)⟩)
   ·cases d
  ·obtain⟨ys,e5,e6⟩:=Nk.mp d;cases e6;obtain⟨ad,n,rfl,v,m⟩:=b.lsAt c e5;refine .inl ⟨ad,n,rfl,v,fun p y=>?_⟩;obtain⟨z,o,i,g⟩:=b.lstI y (Qbl m l u);exact j z _ _ o i g
end
noncomputable def QbW(X:Cx)(id:String)(f:W->List W->MH->Option (W×MH)):Prop:=
 MtR X id (fun x d H Q=>∃R h a b w c,Rh X.K R h H/\Rw X.K R a x/\Rws X.K R b d/\f a b h=some (w,c)/\After X.K R w c Q)
noncomputable def tyW(h:MH)(T:String):W->Bool
 |.str _=>T=="str"
 |.int _=>T=="int"
 |.lst _=>T=="list"
 |.frz _=>T=="list"
 |.ref n=>match h[n]? with|some (.lst _)=>T=="list"|some (.dic _)=>T=="dict"|some (.dct _)=>T=="dict"|none=>false
 |_=>false
noncomputable def mMt(T:String)(f:W->List W->MH->Option (W×MH))(mo:ME)(ms:MA):ME:=fun a h=>(mo a h).bind fun p=>if tyW p.2 T p.1=true then(ms a p.2).bind fun q=>f p.1 q.1 q.2 else none
theorem QdL{K:Nh}{R:Rn}{h:MH}{H:Hp}{T:String}{a:W}{x:V}(c:Rh K R h H)(r:Rw K R a x)(e:tyW h T a=true):tyV K T x H:=by
 cases a with
 |str _=>rw[r.str_eq];exact DL e
 |int _=>rw[r.int_eq];exact DL e
 |lst _=>
  obtain⟨ad,b,rfl,q,_⟩:=c.lstAt r;exact .inl ⟨DL e,b,SqL.of q⟩
 |frz _=>
  obtain⟨ad,b,rfl,q,_⟩:=c.frzAt r;exact .inl ⟨DL e,b,q⟩
 |ref n=>
  simp only[tyW]at e;split at e
  ·rename_i j d;obtain⟨_,rfl,b,f,_⟩:=c.refAt r d;exact .inl ⟨DL e,b,SqL.of f⟩
  ·rename_i i d;unfold Rw at r;obtain⟨g,f,_⟩:=c.obj n _ d;rw[r.2];exact .inr (.inr (.inl ⟨DL e,.inl ⟨g,f⟩⟩))
  ·rename_i i d;unfold Rw at r;obtain⟨g,f,_⟩:=c.obj n _ d;rw[r.2];exact .inr (.inr (.inl ⟨DL e,.inr ⟨g,f⟩⟩))
  ·cases e
 |_=>cases e
section
variable{X:Cx}{o e:Expr}{es:List Expr}{mo:ME}{ms:MA}{name:Str}{apos cpos:Pos}{T id:String}{f:W->List W->MH->Option (W×MH)}
theorem Qiw{X:Cx}{e:Expr}{es:List Expr}{cpos:Pos}(a:decide ((e::es).length<30)=true)(c:JS e=false)(b:Vv es=true) :
  ((backTo cpos (starEach (e::es) X.env)).all (fun x=>!x.1)&&(backToKw cpos (keywordEach [] X.env)).all (fun x=>x.1.isSome)
   && decide ((e::es).length+([]:List Keyword).length+(if([]:List Keyword).isEmpty then 0 else 1)<30))=true:=by
 rw[QcI (by unfold Vv at b ⊢;rw[OZ,c,b];rfl)];exact a
theorem Km(A:PlainAttrs T)(slot:Slot T name id)(p:typeOf (.builtin id)=pure (.type "method_descriptor"))(D:QbW X id f)(C:PM X o mo)(E:PMA X (e::es) ms)
  (d:attributeBase o name X.env (eval o X.env)=eval o X.env:=by rfl) (j:decide ((e::es).length<30)=true:=by rfl)
  (c:(apos.endLine==cpos.line)=true:=by rfl) (u:JS e=false:=by rfl) (b:Vv es=true:=by rfl) :
  PM X (.Call (.Attribute o name apos) (e::es) [] cpos) (mMt T f mo ms):=
 Q7 (QjV A slot p D C E d (Qiw j u b) c (QG u) (Z1 b)) fun M H Q ⟨R,g,h,w,G,z,st,e,k⟩=>by
  obtain⟨⟨a,y⟩,I,l⟩:=Nc.mp e;dsimp only at l;split at l
  ·rename_i B;obtain⟨⟨s,v⟩,es,L⟩:=Nc.mp l;exact⟨R,g,h,a,y,z,st,I,fun R1 P x r i t=>⟨QdL i t B,R1,g,y,s,v,i,st.mono r,es,fun R2 O N q n m=>⟨R2,v,a,s,w,G,n,Rw.mono q _ _ t,m,L,k.ext (r.trans q)⟩⟩⟩
  ·cases l
theorem Qg2(q:PlainAttrs T)(slot:Slot T name id)(j:typeOf (.builtin id)=pure (.type "method_descriptor"))(t:QbW X id f)(s:PM X o mo)
  (c:attributeBase o name X.env (eval o X.env)=eval o X.env:=by rfl) (b:(apos.endLine==cpos.line)=true:=by rfl):PM X (.Call (.Attribute o name apos) [] [] cpos) (mMt T f mo Qd):=
 Q7 (Qhj q slot j t s c b) fun z H Q ⟨R,i,h,w,u,p,st,e,k⟩=>by
  obtain⟨⟨a,m⟩,v,g⟩:=Nc.mp e;dsimp only at g;split at g
  ·rename_i r;obtain⟨⟨A,B⟩,es,y⟩:=Nc.mp g;cases es;exact⟨R,i,h,a,m,p,st,v,fun R1 C x n d l=>⟨QdL d l r,R1,m,a,[],w,u,d,l,Rws.nil,y,k.ext n⟩⟩
  ·cases g
end
noncomputable def Qx(a:W)(ws:List W)(h:MH):Option (W×MH):=match a,ws with
 |.ref n,[w]=>match h[n]? with|some (.lst b)=>if b.length<sizeLine then some (.non,h.set n (.lst (b++[w])))else none|_=>none
 |_,_=>none
noncomputable def X0(a:W)(ws:List W)(h:MH):Option (W×MH):=match a,ws with
 |.ref n,[w]=>match h[n]? with|some (.lst c)=>(loW h w).bind fun b=>if c.length+b.length<=sizeLine then some (.non,h.set n (.lst (c++b)))else none|_=>none
 |_,_=>none
noncomputable def QiB(a:W)(ws:List W)(h:MH):Option (W×MH):=match a,ws with
 |.ref n,[]=>match h[n]? with|some (.lst b)=>(b[b.length-1]?).map fun w=>(w,h.set n (.lst b.dropLast))|_=>none
 |_,_=>none
section
variable{X:Cx}
theorem Rws.dropLast{K:Nh}{R:Rn}{ws:List W}{vs:List V}(r:Rws K R ws vs):Rws K R ws.dropLast vs.dropLast:=by
 rw[Oo,Oo,r.length];exact r.take _
theorem UU:QbW X "list.append" Qx:=by
 intro b s i H x l v m Q I p r q;refine Qaj b s i H x l v m Q I p r ?_;obtain⟨R,h,a,C,w,E,f,t,c,e,k⟩:=q;unfold Qx at e;split at e
 ·rename_i n D;split at e
  ·rename_i B u;split at e
   ·rename_i z;cases e;obtain⟨d,rfl,j,A,g⟩:=f.refAt t u;obtain⟨y,rfl,o⟩:=XO c;refine⟨_,j,y,rfl,rfl,A,by rw[<-g.length];exact z,?_⟩;exact k R _ _ (Ext.refl _) (f.put d ⟨_,rfl,Rws.append g (Rws.cons o Rws.nil)⟩) Rw.non
   ·cases e
  ·cases e
 ·cases e
theorem Gm:QbW X "list.extend" X0:=by
 intro b s j H x o v p Q I t u q;refine Qad b s j H x o v p Q I t u ?_;obtain⟨R,h,a,N,w,P,d,z,c,e,k⟩:=q;unfold X0 at e;split at e
 ·rename_i n O;split at e
  ·rename_i M A;obtain⟨L,E,e⟩:=Nc.mp e;split at e
   ·rename_i B;cases e;obtain⟨f,rfl,m,D,i⟩:=d.refAt z A;obtain⟨y,rfl,r⟩:=XO c;obtain⟨G,l,rfl,C,g⟩:=d.loAt r E;refine⟨_,G,m,l,rfl,rfl,D,C,by rw[<-i.length,<-g.length];exact B,?_⟩;exact k R _ _ (Ext.refl _) (d.put f ⟨_,rfl,Rws.append i g⟩) Rw.non
   ·cases e
  ·cases e
 ·cases e
theorem Qef:QbW X "list.pop" QiB:=by
 intro c s i H x l v m Q I p r q;refine Qie c s i H x l v m Q I p r ?_;obtain⟨R,h,a,E,w,L,g,t,b,e,k⟩:=q;unfold QiB at e;split at e
 ·rename_i n;split at e
  ·rename_i D u;obtain⟨G,C,B⟩:=Nk.mp e;cases B;obtain⟨f,rfl,j,z,d⟩:=g.refAt t u;rw[Rws.nil_iff]at b;subst b;obtain⟨y,A,o⟩:=d.get C;refine⟨_,j,y,rfl,rfl,z,by rw[<-d.length];exact A,?_⟩;exact k R _ _ (Ext.refl _) (g.put f ⟨_,rfl,d.dropLast⟩) o
  ·cases e
 ·cases e
noncomputable def YS:List W->Option (List Str)
 |[]=>some []
 |.str x::r=>(YS r).map (x::·)
 |_=>none
theorem KU{K:Nh}{R:Rn}:∀{ws:List W} {xs:List V} {a:List Str},Rws K R ws xs->YS ws=some a->xs=a.map V.str
 |[],xs,a,r,e=>by rw[Rws.nil_iff]at r;subst r;cases e;rfl
 |w::ws,xs,a,r,e=>by
  rw[Rws.cons_iff]at r;obtain⟨v,vs,rfl,c,b⟩:=r;cases w<;>simp only[YS]at e<;>first|cases e|skip
  obtain⟨g,f,d⟩:=Nk.mp e;subst d;rw[c.str_eq,KU b f];rfl
theorem Xc:∀{a:List Str} {us:List Value},Vals (a.map V.str) us->StrsAre us a
 |[],us,r=>by cases r;exact .nil
 |y::a,us,r=>by
  cases r with
  |cons c b=>obtain⟨t,rfl⟩:=c;exact .cons y t (Xc b)
noncomputable def Gp(a:W)(ws:List W)(h:MH):Option (W×MH):=match a,ws with
 |.str x,[.tup d]=>(YS d).bind fun c=>if(c.map (·.length)).sum+c.length*x.length<=16777216 then some (.str (Txt.join x c),h)else none
 |.str x,[b]=>(lsW h b).bind fun d=>(YS d).bind fun c=>if(c.map (·.length)).sum+c.length*x.length<=16777216 then some (.str (Txt.join x c),h)else none
 |_,_=>none
theorem QcP:QbW X "str.join" Gp:=by
 intro C s O H x P v U Q I d A q;obtain⟨R,h,a,S,w,Y,f,B,c,e,k⟩:=q;unfold Gp at e;split at e
 ·rename_i L G;obtain⟨D,z,e⟩:=Nc.mp e;split at e
  ·rename_i r;cases e;obtain⟨y,rfl,j⟩:=XO c;obtain⟨ad,E,rfl,n,m⟩:=f.tupAt j;obtain⟨u,rfl,l⟩:=Xb A;cases l;rw[B.str_eq]at d;obtain⟨t,rfl⟩:=d;obtain⟨p,g,o,_⟩:=I.tuple n;have:=KU m z;subst this;exact join_tuple o (by simpa using Xc g) r fun i M=>⟨.str _,H,I.tok _,⟨i,rfl⟩,k R H _ (Ext.refl _) f (Rw.str _)⟩
  ·cases e
 ·rename_i L b _;obtain⟨G,N,e⟩:=Nc.mp e;obtain⟨D,z,e⟩:=Nc.mp e;split at e
  ·rename_i r;cases e;obtain⟨y,rfl,j⟩:=XO c;obtain⟨ad,E,rfl,n,m⟩:=f.lsAt j N;obtain⟨u,rfl,l⟩:=Xb A;cases l;rw[B.str_eq]at d;obtain⟨t,rfl⟩:=d;obtain⟨p,g,o,_⟩:=I.list n;have:=KU m z;subst this;exact join_list o.isList (by simpa using Xc g) r fun i M=>⟨.str _,H,I.tok _,⟨i,rfl⟩,k R H _ (Ext.refl _) f (Rw.str _)⟩
  ·cases e
 ·cases e
end
noncomputable def Qip(h:MH):W->Option String
 |.non=>some "NoneType"
 |.bl _=>some "bool"
 |.int _=>some "int"
 |.str _=>some "str"
 |.tup _=>some "tuple"
 |.lst _=>some "list"
 |.frz _=>some "list"
 |.ref n=>match h[n]? with|some (.lst _)=>some "list"|some (.dic _)=>some "dict"|some (.dct _)=>some "dict"|none=>none
 |.ty _=>none
noncomputable def Wz(k T:String):Bool:=k==T ||(k=="bool"&&T=="int")
noncomputable def Qal(T:String):Bool:=T=="str" ||T=="int" ||T=="bool" ||T=="list" ||T=="tuple" ||T=="dict"
noncomputable def Qgd(ws:List W)(h:MH):Option (W×MH):=match ws with
 |[a,.ty T]=>if Qal T=true then(Qip h a).map fun k=>(.bl (Wz k T),h)else none
 |_=>none
theorem XU{K:Nh}{k T:String}(c:k="NoneType"\/k="bool"\/k="int"\/k="str"\/k="tuple"\/k="list"\/k="dict")(b:Qal T=true):YaQ K (.type k) (.type T)=some (Wz k T):=by
 have a:T="str"\/T="int"\/T="bool"\/T="list"\/T="tuple"\/T="dict":=by
  unfold Qal at b;simp only[Di,beq_iff_eq]at b
  rcases b with((((h|h)|h)|h)|h)|h<;>simp[h]
 rcases c with rfl|rfl|rfl|rfl|rfl|rfl|rfl<;>rcases a with rfl|rfl|rfl|rfl|rfl|rfl<;>first|rfl|decide +kernel
section
variable{X:Cx}
theorem YJ:CallR X (.builtin "isinstance") (Fs X.K Qgd):=by
 intro g s O H xs us Q I r q;obtain⟨R,h,ws,w,h',j,D,e,k⟩:=q;unfold Qgd at e;split at e
 ·rename_i a T;split at e
  ·rename_i M;obtain⟨S,c,e2⟩:=Nk.mp e;cases e2;obtain⟨x,y,rfl,d,U⟩:=Qhg D;obtain⟨u,u2,rfl,E,l⟩:=G0 r;rw[U.ty_eq]at l;cases l;have fin:∀P,EP X g O Q (.bool (Wz S T)) { s with toks:=P }:=fun P=>⟨.bl _,H,I.tok _,rfl,k R H _ (Ext.refl _) j (Rw.bl _)⟩
   have one:∀{t:String},TyOf X.K H x (.type t)->S=t->(t="NoneType"\/t="bool"\/t="int"\/t="str"\/t="tuple"\/t="list"\/t="dict")->wpAny (model X.prog X.w) X.A (call (.builtin "isinstance") [u,.type T]) (EP X g O Q) X.xe s:=fun {t} ty et Z=>by
    subst et;exact QbU I E ty (XU Z M) fin
   cases a with
   |non=>cases c;rw[d.non_eq]at one;exact one .non rfl (by simp)
   |bl b=>cases c;rw[d.bl_eq]at one;exact one (.bl b) rfl (by simp)
   |int i=>cases c;rw[d.int_eq]at one;exact one (.int i) rfl (by simp)
   |str z=>cases c;rw[d.str_eq]at one;exact one (.str z) rfl (by simp)
   |tup C=>
    cases c;obtain⟨ad,B,rfl,m,_⟩:=j.tupAt d;cases E;obtain⟨L,_,p,_⟩:=I.tuple m;obtain⟨o,f,N,_⟩:=p;exact EH Yae I.kIn ⟨o,f,N⟩ (XU (by simp) M) (fun z=>nomatch z) fin
   |lst C=>
    cases c;obtain⟨ad,B,rfl,m,_⟩:=j.lstAt d;exact one (.lst m) rfl (by simp)
   |frz C=>
    cases c;obtain⟨ad,B,rfl,m,_⟩:=j.frzAt d;cases E;obtain⟨L,_,p,_⟩:=I.list m;obtain⟨o,n,f,N,_⟩:=p;exact EH Lw I.kIn ⟨o,f,N⟩ (XU (by simp) M) (fun z=>nomatch z) fin
   |ref n=>
    simp only[Qip]at c;split at c
    ·rename_i C v;cases c;obtain⟨_,rfl,B,f,_⟩:=j.refAt d v;exact one (.lst f) rfl (by simp)
    ·rename_i G v;cases c;unfold Rw at d;obtain⟨Y,f,_⟩:=j.obj n _ v;rw[d.2]at one;exact one (.dK f) rfl (by simp)
    ·rename_i G v;cases c;unfold Rw at d;obtain⟨Y,f,_⟩:=j.obj n _ v;rw[d.2]at one;exact one (.dT f) rfl (by simp)
    ·cases c
   |ty _=>cases c
  ·cases e
 ·cases e
end
end Mi

namespace Mi
open L2

structure Cal(P:Program)(w:World)(K:Nh)(mg:Str->Option Value)(base:Heap)(k:Nat)(x:Str)(ps:List Str)(g:FM):Prop where
 ex:∃(f:Addr) (fd:FuncData),FnOk P w K mg base CX0 k f fd ps (spM K ps.length g)/\mg x=some (.ref f)/\Fy K (.ref f)=true/\Binds K fd ps []/\∃(oc:Value) (od:Option Addr) (osl:Array (Option Value)),K.lookup f=some ⟨oc,od,.func fd,osl⟩
structure DefAt(K:Nh)(mg:Str->Option Value)(x:Str)(st:Stmt)(ps:List Str):Prop where
 ex:∃(f:Addr) (fd:FuncData),Fun K x x st f fd/\mg x=some (.ref f)/\Binds K fd ps []
theorem V1{K:Nh}{h:Heap}{i:Str->Option Value}{x:Str}{st:Stmt}{ps:List Str}{f:Addr}{o:Value}{n g:Option Addr}{m:Array (Option Value)}{kV d pm j ct:Value}(X:K.In h)(G:h.Ns mainGlobals i)
  (a:LM K mainGlobals x=some (some (.ref f))) (l:K.lookup f=some ⟨o,n,.func (DK x x (VB st) (Js st) (Qg st) .none kV d pm g j ct),m⟩) (c:IU K j x=true) (k:Fy K (.ref f)=true)
  (b:∀(kV d pm:Value) (g:Option Addr) (e ct:Value) (us:List Value),us.length=ps.length->bindArgs (DK x x (VB st) (Js st) (Qg st) .none kV d pm g e ct) ⟨us,[]⟩=pure (ps.zip us)):DefAt K i x st ps:=
 ⟨f,_,Qdy l c k,Lk X G a,(Qdy l c k).binds b⟩
structure Glob(K:Nh)(mg:Str->Option Value)(x:Str)(w:W):Prop where
 ex:∃(v:V) (u:Value),mg x=some u/\RelV v u/\∀R,Rw K R w v
theorem QiL{K:Nh}{h:Heap}{b:Str->Option Value}{x:Str}{i:Int}{t:Tok}(X:K.In h)(G:h.Ns mainGlobals b)(a:LM K mainGlobals x=some (some (.int i t))):Glob K b x (.int i):=
 ⟨.int i,_,Lk X G a,⟨t,rfl⟩,fun _=>Rw.int i⟩
noncomputable def QgM:List Str->List W:=List.map W.str
theorem Ua{K:Nh}{R:Rn}:∀(a:List Str),Rws K R (QgM a) (a.map V.str)
 |[]=>Rws.nil
 |y::a=>Rws.cons (Rw.str y) (Ua a)
theorem Y7:∀{a:List Value} {b:List Str},StrsAre a b->Vals (b.map V.str) a
 |_,_,.nil=>.nil
 |_,_,.cons y t r=>.cons ⟨t,rfl⟩ (Y7 r)
theorem QgT{K:Nh}{h:Heap}{e:Str->Option Value}{x:Str}{c:Addr}{i:Option Addr}{b:Array Value}{n:Nat}{f:Array (Option Value)}{d:List Str}(X:K.In h)(G:h.Ns mainGlobals e)(a:LM K mainGlobals x=some (some (.ref c)))
  (l:K.lookup c=some ⟨.type "tuple",i,.seq b n,f⟩) (hz:b.size<=sizeLine) (g:StrsAre b.toList d):Glob K e x (.tup (QgM d)):=
 ⟨.ref c,_,Lk X G a,rfl,fun R=>by
  unfold Rw
  exact⟨c,_,rfl,.inr ⟨_,b,n,l,rfl,rfl,hz,Y7 g⟩,Ua d⟩⟩
section
variable{X:Cx}{k n:Nat}{g:FM}{x:Str}{ps:List Str}{p pos:Pos}{e:Expr}{es:List Expr}{ms:MA}
theorem Qu(C:Cal X.prog X.w X.K X.mg X.base k x ps g)(hr:Room k X.A)(i:Gl X x)(m:PMA X (e::es) ms)(c:ps.length=n:=by rfl)
  (b:(x==("__debug__":Str))=false:=by decide) (j:JS e=false:=by rfl) (a:Vv es=true:=by rfl) :
  PM X (.Call (.Name x p) (e::es) [] pos) (QB n g ms):=by
 obtain⟨f,fd,F,d,h,l,_⟩:=C.ex;subst c;exact Qfo F hr i d h l Qi0 m b j a
theorem QhX{T:String}(d:Gl X x)(c:X.mg x=none)(a:bootBuiltins x=some (.type T))(b:x≠"__name__":=by decide)(hd:(x==("__debug__":Str))=false:=by decide):PM X (.Name x pos) (mC (.ty T)):=
 QeA d c a (v:=.ty T) rfl (fun _=>Rw.ty _) b hd
end
section
variable{P:Program}{w:World}{K:Nh}{mg:Str->Option Value}{base:Heap}
theorem Zp{x:Str}{st:Stmt}{N ps:List Str}{k more:Nat}{m:SM}(d:DefAt K mg x st ps)(S:FnScope N ps (Qg st))(hN:N.length=ps.length+more)
  (c:∀(f:Addr) (b:Value) (A:Around) (a:List Env) (s:Shared) (H:Hp) (E:XK),Room k (A.deeper (envOfC x (Qg st) s.heap.objs.size f b))->QbV (QdB CX0 P w K mg base N x (Qg st) f b A a s H E).nox (Js st) m) :
  Cal P w K mg base (k+1) x ps (Zs more m):=by
 obtain⟨f,fd,F,j,n⟩:=d.ex;obtain⟨i,h,kV,o,pm,p,b,ct,g,e,lk,l⟩:=F.ex;exact⟨f,fd,Qjm F S hN (fun b A a s H E hr=>c f b A a s H E hr),j,F.kp,n,i,h,g,lk⟩
theorem Cal.imp{x:Str}{ps:List Str}{k:Nat}{g g':FM}(C:Cal P w K mg base k x ps g)(h:∀vs H Q E,spM K ps.length g' vs H Q E->spM K ps.length g vs H Q E):Cal P w K mg base k x ps g':=by
 obtain⟨f,fd,F,r⟩:=C.ex;exact⟨f,fd,F.imp h,r⟩
theorem Cal.eq{x:Str}{ps:List Str}{k:Nat}{g g':FM}(C:Cal P w K mg base k x ps g)(h:∀ws a r,ws.length=ps.length->g' ws a=some r->g ws a=some r):Cal P w K mg base k x ps g':=
 C.imp fun _ _ _ _ ⟨R,ws,a,w,f,c,d,b,e,k⟩=>⟨R,ws,a,w,f,c,d,b,h ws a _ c e,k⟩
end
theorem WN{K:Nh}{R:Rn}:∀(ns:List Int),Rws K R (ns.map W.int) (ns.map V.int)
 |[]=>Rws.nil
 |n::ns=>Rws.cons (Rw.int n) (WN ns)
theorem Qj1{l:PySem.W.OpenLaw}{q:Program}{b:List Str}{Z:(Str->Option Value)->Heap->Prop}{I:World->Heap->Prop}{d:DefRec}{K:Params->Nh}{st:Stmt}{sem:FM}{k:Nat}(y:l.most=some 63)(B:d.params.defaults=[])(hr:Room k callerA)(A:d.name="law")
  (X:∀(w:World) (h:Heap),I w h->(K w.params).In h)
  (U:∀(kV g pm:Value) (C:Option Addr) (i ct:Value) (s:Shared) (u:Value),BindsTo s (DK "law" "law" (VB st) (Js st) (Qg st) .none kV g pm C i ct) ⟨[u],[]⟩ [("script",u)])
  (F:∀(w:World) (j:Str->Option Value) (h:Heap),(K w.params).In h->h.Ns mainGlobals j ->
   DefAt (K w.params) j "law" st ["script"]/\∀base:Heap,(K w.params).In base->base.Ns mainGlobals j->Cal l.prog w (K w.params) j base k "law" ["script"] sem)
  (main:∀ns:List Int,ns.length<=63->∃h',sem [.frz (ns.map W.int)] []=some (.bl true,h')) :
  YaS q b Z I l.row.toRowW d [] (fun f vs=>YaM f vs):=by
 refine L2.Qem (n:=63) (k:=k) (x:="script") (CX:=fun _=>CX0) (sp:=fun w=>spM (K w.params) 1 sem) y (by decide) B hr X ?_ ?_ fun _ _ _ _ _ z=>z
 ·intro w j fa h KX G c;obtain⟨D,Fn⟩:=F w j h KX G;obtain⟨f,fd,Fu,t,_⟩:=D.ex;rw[A]at c;rw[t]at c;cases c;obtain⟨oc,od,kV,g,pm,C,i,ct,M,e,lk,S⟩:=Fu.ex;refine⟨fd,fun s u=>?_,fun base P nb=>?_⟩
  rotate_left
  ·obtain⟨f',Y,F',r,_,_,O,N,E,p⟩:=(Fn base P nb).ex;rw[t]at r;cases r;rw[lk]at p;cases p;exact F'
  rw[e];exact U kV g pm C i ct s u
 ·intro w H a ns Q hO hS;obtain⟨h',e⟩:=main ns Q;refine⟨⟨fun _=>0,0,H,fun _=>none⟩,[.frz (ns.map W.int)],[],.bl true,h',rfl,⟨rfl,fun _ _ z=>z,fun n y=>absurd y (Da _),fun m n t=>absurd t (Da _),(fun n o z=>by simp at z),(fun _ _ z=>by cases z),(fun _ _=>rfl),(fun _ _ z=>by cases z)⟩,?_,e,fun R' H' v _ _ L=>L.bl_eq⟩;refine Rws.cons ?_ Rws.nil;unfold Rw;exact⟨a,_,rfl,hS,WN ns⟩
end Mi

namespace Mi
open L2

noncomputable def GY(a:Scope):Bool:=a.names.all fun y=>y.2 != .cell&&(y.2 != .local ||a.names.lookup y.1==some .local)
noncomputable def QjJ(N:List Str)(xs a:Scope)(cp:List (Option Nat))(Nb:List Str):Bool:=(cp.zip Nb).all fun p=>match p.1 with
 |none=>true
 |some j=>N[j]?==some p.2&&(xs.names.lookup p.2==some .cell ||xs.names.lookup p.2==some .free)&&a.names.lookup p.2==some .free
noncomputable def QdO(a:Scope)(ks:List Str):Bool:=a.names.all fun y=>y.2 != .free ||ks.contains y.1
theorem Z7{env:Env}:∀{a:List (Str×NameKind)} {x:Str},a.lookup x=some .free ->
  (a.map fun(n,k)=>if(k==NameKind.free&&env.scope.kind==.function&&env.kindOf n==some .cell)then(n,NameKind.cell)else(n,k)).lookup x=some .cell \/
  (a.map fun(n,k)=>if(k==NameKind.free&&env.scope.kind==.function&&env.kindOf n==some .cell)then(n,NameKind.cell)else(n,k)).lookup x=some .free
 |[],_,h=>by simp at h
 | (n,k)::r,x,h=>by
  have d:=@Z7 env r x;rw[NC];dsimp only;cases b:x==n with
  |true=>
   simp only[Ev,b]at h;cases h
   by_cases c:(NameKind.free==NameKind.free&&env.scope.kind==.function&&env.kindOf n==some .cell)=true
   ·rw[if_pos c];exact .inl (by simp[Ev,b])
   ·rw[if_neg c];exact .inr (by simp[Ev,b])
  |false=>
   simp only[Ev,b]at h
   by_cases c:(k==NameKind.free&&env.scope.kind==.function&&env.kindOf n==some .cell)=true
   ·rw[if_pos c];simp only[Ev,b];exact d h
   ·rw[if_neg c];simp only[Ev,b];exact d h
theorem Zb{env:Env}:∀{a:List (Str×NameKind)} {x:Str} {c:NameKind},(∀y∈a,y.2≠.cell)->(c=.cell\/c=.free) ->
  (a.map fun(n,k)=>if(k==NameKind.free&&env.scope.kind==.function&&env.kindOf n==some .cell)then(n,NameKind.cell)else(n,k)).lookup x=some c->(x,NameKind.free)∈a
 |[],_,_,_,_,h=>by simp at h
 | (n,k)::r,x,c,e,f,h=>by
  rw[NC]at h;dsimp only at h;have g:=@Zb env r x c (fun y i=>e y (Nw _ i)) f;cases d:x==n with
  | true=>
   have:x=n:=DL d;subst this
   by_cases b:(k==NameKind.free&&env.scope.kind==.function&&env.kindOf x==some .cell)=true
   ·have:k=.free:=by
     simp only[NX,beq_iff_eq]at b;exact b.1.1
    subst this;exact Nz
   ·rw[if_neg b]at h;simp[Ev]at h;subst h
    rcases f with z|z
    ·exact absurd z (e (x,k) Nz)
    ·subst z;exact Nz
  |false=>
   refine Nw _ (g ?_)
   by_cases b:(k==NameKind.free&&env.scope.kind==.function&&env.kindOf n==some .cell)=true
   ·rw[if_pos b]at h;simpa only[Ev,d]using h
   ·rw[if_neg b]at h;simpa only[Ev,d]using h
theorem Gd{d:List (Str×Addr)}{x:Str}{c:Addr}(h:d.lookup x=some c):(x,c)∈d:=by
 induction d with
 |nil=>simp at h
 | cons p r e=>
  obtain⟨n,a⟩:=p;cases b:x==n with
  |true=>
   simp only[Ev,b]at h;cases h;rw[DL b];exact Nz
  |false=>
   simp only[Ev,b]at h;exact Nw _ (e h)
theorem KW{d:List (Str×Addr)}{x:Str}(h:x∈d.map (·.1)):∃c,d.lookup x=some c:=by
 induction d with
 |nil=>simp at h
 | cons p r e=>
  obtain⟨n,a⟩:=p;cases b:x==n with
  |true=>exact⟨a,by simp only[Ev,b]⟩
  |false=>
   rcases NF.mp h with z|z
   ·dsimp only at z;rw[z,beq_self_eq_true]at b;cases b
   ·obtain⟨c,f⟩:=e z;exact⟨c,by simp only[Ev,b];exact f⟩
theorem Xd{X:Cx}{d xs:Scope}{l:List (Str×Addr)}{N Nb ks:List Str}{cp:List (Option Nat)}(g:closureFor d X.env=pure l)(kind:d.kind=.function)(r:GY d=true)(u:l.map (·.1)=ks)(o:QdO d ks=true)
  (f:∀p∈l,X.env.cells.lookup p.1=some p.2) (hN:X.N=N) (q:X.env.scope=xs) (n:cp.length=Nb.length) (v:QjJ N xs d cp Nb=true):BlkOk X d l Nb cp:=by
 have e:∀y∈d.names,y.2≠.cell:=fun y m=>by
  have:=EW.mp r y m;simp only[NX,bne_iff_ne]at this;exact this.1
 refine⟨g,e,kind,fun y m n=>?_,fun x c h=>f _ (Gd h),fun x h=>?_,n,fun i j x A w=>?_⟩
 ·have:=EW.mp r y m;simp only[NX,Di,bne_iff_ne,beq_iff_eq]at this
  rcases this.2 with z|z
  ·exact absurd n z
  ·exact z
 ·have t:(x,NameKind.free)∈d.names:=by
   rcases h with h|h
   ·exact Zb e (.inl rfl) h
   ·exact Zb e (.inr rfl) h
  have:=EW.mp o _ t;simp only[Di,bne_iff_ne,ne_eq,not_true_eq_false,false_or,Op]at this;exact KW (by rw[u];exact this)
 ·have s:(cp.zip Nb)[i]?=some (some j,x):=by rw[LD];exact⟨A,w⟩
  have:=EW.mp v _ (N5 s);simp only[NX,Di,beq_iff_eq]at this;obtain⟨⟨a,b⟩,c⟩:=this;refine⟨by rw[hN];exact a,?_,?_,Z7 c⟩
  ·rw[q]
   rcases b with b|b
   ·exact .inr (.inl b)
   ·exact .inr (.inr b)
  ·unfold Env.kindOf;rw[q];exact b
theorem J5{X:Cx}{a:Scope}{Nb:List Str}{cp:List (Option Nat)}(kind:a.kind=.function)(l:GY a=true)(g:QdO a []=true)(f:cp.length=Nb.length)(n:cp.all (·.isNone)=true):BlkOk X a [] Nb cp:=by
 have d:∀y∈a.names,y.2≠.free:=fun y e z=>by
  have:=EW.mp g y e;simp[z]at this
 have b:∀y∈a.names,y.2≠.cell:=fun y e=>by
  have:=EW.mp l y e;simp only[NX,bne_iff_ne]at this;exact this.1
 refine⟨closureFor_none d,b,kind,fun y e f=>?_,fun x c h=>by simp at h,fun x h=>?_,f,fun i j x o p=>?_⟩
 ·have:=EW.mp l y e;simp only[NX,Di,bne_iff_ne,beq_iff_eq]at this
  rcases this.2 with z|z
  ·exact absurd f z
  ·exact z
 ·have m:(x,NameKind.free)∈a.names:=by
   rcases h with h|h
   ·exact Zb b (.inl rfl) h
   ·exact Zb b (.inr rfl) h
  exact absurd rfl (d _ m)
 ·have:=EW.mp n _ (N5 o);simp at this
end Mi

namespace Mi
open L2
theorem JA(items:List W)(h:MH):live none items h:=fun _ z=>by cases z
theorem Z2{fin:List W->MH->Option (W×MH)}{items:List W}{mt:MT}{me:ME}{caps:MSt}{h:MH}{f:W->W}{p:W->Bool}:∀(rest a:List W) (o:Option W),
  (∀w∈rest,mt (some w::caps) h=some (p w,h))->(∀w∈rest,p w=true->me (some w::caps) h=some (f w,h))->a.length+rest.length<=sizeLine ->
  JT fin items none (QF 0) mt me rest a (o::caps) h=fin (a++(rest.filter p).map f) h
 |[],a,o,_,_,_=>by
  unfold JT;rw[if_pos (JA _ _)];simp
 | w::rest,a,o,d,e,i=>by
  unfold JT;rw[if_pos (JA _ _)];have h1:QF 0 w (o::caps) h=some (some w::caps):=rfl;rw[h1,Nx,d w Nz,Nx];have g:a.length+(rest.length+1)<=sizeLine:=by simpa using i
  cases c:p w with
  |true=>
   simp only[c];rw[e w Nz c,Nx,if_pos (by lia)];rw[Z2 rest (a++[f w]) (some w) (fun x b=>d x (Nw _ b)) (fun x b=>e x (Nw _ b)) (by simp;lia)];simp[Iy,c]
  |false=>
   simp only[c];rw[Z2 rest a (some w) (fun x b=>d x (Nw _ b)) (fun x b=>e x (Nw _ b)) (by lia)];simp[Iy,c]
theorem Qda{items:List W}{b:MG}{body:SM}{σ:MSt}{h:MH}:VS items none b body [] σ h=some (.nx σ h):=by
 rw[VS,if_pos (JA _ _)]
end Mi

namespace Mi
open L2
section
variable{σ σ1:MSt}{h h1 h2 h3:MH}{a b c w:W}{ws:List W}{ma mb mc:ME}{ms:MA}{mt mu:MT}{s1 s2:SM}{f f':W->W->MH->Option (W×MH)}{g:List W->MH->Option (W×MH)}{z:MF}
theorem Qi1:Qd σ h=some ([],h):=rfl
theorem Qis(e:ma σ h=some (a,h1))(d:ms σ h1=some (ws,h2)):Qa ma ms σ h=some (a::ws,h2):=by unfold Qa;rw[e,Nx,d];rfl
end
theorem G7{i j:Int}{h:MH}(c:(-(2^64)<i/\i<2^64)\/(-(2^64)<j/\j<2^64)):Qgh (.int i) (.int j) h=some (.int (i*j),h):=by unfold Qgh;exact if_pos c
theorem QfF{i j:Int}{h:MH}(c:0<j/\j<1073741824):Jc (.int i) (.int j) h=some (.int (i/j),h):=by unfold Jc;exact if_pos c
theorem QfM{i j:Int}{h:MH}(c:0<j):Zu (.int i) (.int j) h=some (.int (i%j),h):=by unfold Zu;exact if_pos c
theorem Qfh{x:Str}{i:Int}{h:MH}{d:Nat}(a:x.length<=sizeLine)(e:atI x.cps.toList i=some d):wIx (.str x) (.int i) h=some (.str ⟨#[d]⟩,h):=by
 unfold wIx;simp only;rw[if_pos a,e];rfl
theorem QaF{x:Str}{lo hi:Option Int}{h:MH}(a:x.length<=sizeLine):wSl (.str x) lo hi h=some (.str (Txt.slice x lo hi),h):=by unfold wSl;exact if_pos a
theorem Qg9{b:Type}{xs:List b}{i:Int}(h0:0<=i)(h1:i<xs.length):∃x∈xs,atI xs i=some x:=by
 have a:i.toNat<xs.length:=by lia
 refine⟨xs[i.toNat],D7 a,?_⟩;obtain⟨n,rfl⟩:∃n:Nat,i=n:=⟨i.toNat,by exact(Fc ‹_›).symm⟩
 exact QaI (No a)
end Mi

namespace Mi
open L2
noncomputable def Qhf(mo mi mv:ME):SM:=fun a h=>(mv a h).bind fun v=>(mo a v.2).bind fun o=>(mi a o.2).bind fun i=>match o.1,i.1 with
 |.ref n,.int k=>match i.2[n]? with
  |some (.lst b)=>(ixN b.length k).map fun j=>.nx a (i.2.set n (.lst (b.set j v.1)))
  |_=>none
 |_,_=>none
section
variable{X:Cx}{o i e:Expr}{mo mi mv:ME}{pos pos':Pos}
theorem Qic{K:Nh}{D:L2.Ends}{σ:L2.St}{H:Hp}(q:tS K (Qhf mo mi mv) D σ H):QiI (tI K mv) (Qk5 (tI K mo) (tI K mi) Qg8) D σ H:=by
 obtain⟨R,a,h,r,G,s,e,k⟩:=q;obtain⟨⟨v,w⟩,o,i⟩:=Nc.mp e;obtain⟨⟨ob,u⟩,Z,Y⟩:=Nc.mp i;obtain⟨⟨L,O⟩,U,b⟩:=Nc.mp Y;refine⟨R,a,h,v,w,G,s,o,fun R1 H1 x g m E=>⟨R1,a,w,ob,u,m,s.mono g,Z,fun R2 H2 y f l C=>⟨R2,a,u,L,O,l,s.mono (g.trans f),U,fun X H3 z d c B=>?_⟩⟩⟩;dsimp only at b;split at b
 ·rename_i n I;split at b
  ·rename_i xs M;obtain⟨j,S,Q⟩:=Nk.mp b;cases Q;obtain⟨p,P,A,N,t⟩:=c.refAt (Rw.mono d _ _ C) M;refine⟨_,A,I,j,P,B.int_eq,N,by rw[<-t.length];exact S,?_⟩;exact k X _ σ (g.trans (f.trans d)) (c.put p ⟨_,rfl,t.set j (Rw.mono (f.trans d) _ _ E)⟩) (s.mono (g.trans (f.trans d)))
  ·cases b
 ·cases b
theorem Qbq(d:PM X o mo)(hi:PM X i mi)(f:PM X e mv)
  (g:∀v,assign (.Subscript o i pos') X.env v=(do
   let a <-holding [v] (eval o X.env)
   let b <-holding [v,a] (eval i X.env)
   standAt pos'
   holding [v,a,b] (setItem a b v)
   release [v,a,b] []):=by intro _;rfl)
  (c:Wa e=false:=by rfl) (hw:swappedStores [.Subscript o i pos'] e X.env=pure none:=by rfl):PMS X (.Assign [.Subscript o i pos'] e pos) (Qhf mo mi mv):=
 Vo (QdU f (QhL d hi set_list g) (show swapsWith e (some (.Subscript o i pos')) pos.line X.env=pure false from Xz c) hw rfl) fun _ _ _=>Qic
end
section
variable{X:Cx}{o i e:Expr}{mo mi mv:ME}{pos pos':Pos}
end
end Mi

namespace Mi
open L2
end Mi

namespace Mi
open L2 PySem.SeqAt
noncomputable def YN(a:W)(ws:List W)(h:MH):Option (W×MH):=match ws with
 |[w]=>(lsW h a).bind fun c=>(drf h 40 w).bind fun x=>(Zt (drf h 40) c).bind fun b=>(b.findIdx? fun y=>eqW y x).map fun j=>(.int (j:Nat),h)
 |_=>none
theorem GU{X:Cx}(hu:X.A.units+64<cLine):QbW X "list.index" YN:=by
 intro Z s σ H x xs v us Q I rx rv q;obtain⟨R,h,a,ws,w,h',p,ra,C,e,k⟩:=q;unfold YN at e;split at e
 ·rename_i w1;obtain⟨Y,e1,e⟩:=Nc.mp e;obtain⟨r,e2,e⟩:=Nc.mp e;obtain⟨U,S,e⟩:=Nc.mp e;obtain⟨j,e4,e5⟩:=Nk.mp e;cases e5;obtain⟨y,rfl,ry⟩:=XO C;obtain⟨u,rfl,ru⟩:=Xb rv;obtain⟨ad,xv,rfl,q1,G⟩:=p.lsAt ra e1;cases rx;obtain⟨c,B,p1,hz⟩:=I.list q1;have O:X.A.in1.units+40<cLine:=by show X.A.units+1+40<cLine;lia
  have l1:=G.length;have l2:=B.length;have l3:=(Qw S).1;obtain⟨hj,l,d⟩:=Dl.mp e4
  have o:∀m (f:m<c.toArray.size),QcE X.K R h r c.toArray[m]=eqW (U[m]'(by rw[Nt]at f;lia)) r:=by
   intro m f;rw[Nt]at f;obtain⟨t,g⟩:∃t,Y[m]?=some t:=⟨Y[m]'(Ng (Ng f (Nq l2.symm)) (Nq l1.symm)),No _⟩
   obtain⟨v2,M,D⟩:=G.get g;obtain⟨u2,N,E⟩:=B.get M;obtain⟨b,hb,eb⟩:=(Qw S).2 m t g;have eu:c.toArray[m]=u2:=by have:=N;rw[No f]at this;simpa using this
   have ez:U[m]'(by omega)=b:=by have:=hb;rw[No (by omega)]at this;simpa using this
   rw[eu,ez];exact WA I p D E eb
  obtain⟨ob,n,ho,hc,ab,hd⟩:=p1;obtain⟨cls,dd,data,sl⟩:=ob;simp only at hc hd;subst hc hd;have i:j<c.toArray.size:=by rw[Nt];lia
  refine FJ LW ⟨_,ho,rfl⟩ PySem.F.entry_list_index (PySem.F.args_list_index_2 _ _)
   (list_indexAt ad c.toArray n dd sl u (QcE X.K R h r) j i ?_ ?_ ?_) ⟨ho,fun z L=>Yc I p O ry ru e2 G B S z (by simpa using L),?_⟩
  ·have:(sizeLine:Nat)<2^62:=by decide
   have aa:j<2^62:=by lia
   lia
  ·rw[o j i];exact l
  ·intro m f P;rw[o m f];simpa using d m P
  ·exact⟨.int j,H,I.tok _,⟨_,rfl⟩,k R H _ (Ext.refl _) p (Rw.int _)⟩
 ·cases e
end Mi

namespace Mi
open L2
inductive TabIs:List DictEntry->List (Str×Int)->Prop where
 |nil:TabIs [] []
 |cons {e:DictEntry} {x:Str} {i:Int} {t t':Tok} {es:List DictEntry} {tab:List (Str×Int)} (hk:e.key=.str x t) (hv:e.val=.int i t') (r:TabIs es tab):TabIs (e::es) ((x,i)::tab)
structure GTab(w:World)(K:Nh)(mg:Str->Option Value)(x:Str)(tab:List (Str×Int)):Prop where
 ex:∃(a:Addr) (es:List DictEntry) (n:Nat),mg x=some (.ref a)/\K.lookup a=some ⟨.type "dict",none,.dict es.toArray n,#[]⟩/\YaN w.params es/\(a==sysModules)=false/\TabIs es tab
theorem QiQ{w:World}{K:Nh}{h:Heap}{b:Str->Option Value}{x:Str}{c:Addr}{es:List DictEntry}{n:Nat}{tab:List (Str×Int)}(X:K.In h)(G:h.Ns mainGlobals b)(a:LM K mainGlobals x=some (some (.ref c)))
  (l:K.lookup c=some ⟨.type "dict",none,.dict es.toArray n,#[]⟩) (k:YaN w.params es) (s:(c==sysModules)=false) (t:TabIs es tab):GTab w K b x tab:=
 ⟨c,es,n,Lk X G a,l,k,s,t⟩
section
variable{X:Cx}{c:Addr}{es:List DictEntry}{n:Nat}{tab:List (Str×Int)}
variable{a:Expr}{ma:ME}{x:Str}{pos pos':Pos}
end
end Mi

namespace Mi
open L2
theorem QlB{T:String}{f:W->List W->MH->Option (W×MH)}{mo:ME}{ms:MA}{σ:MSt}{h h1 b:MH}{a:W}{ws:List W}(e:mo σ h=some (a,h1))(c:tyW h1 T a=true)(d:ms σ h1=some (ws,b)):mMt T f mo ms σ h=f a ws b:=by
 unfold mMt;rw[e,Nx];simp only;rw[if_pos c,d,Nx]
theorem Qe2(a b:Int)(h:MH):wEq (.int a) (.int b) h=some (.bl (a==b),h):=by unfold wEq;simp[drf,eqW]
theorem Qfq(a b:Str)(h:MH):wEq (.str a) (.str b) h=some (.bl (a==b),h):=by unfold wEq;simp[drf,eqW]
end Mi

namespace Mi
open L2
theorem W8{fin:List W->MH->Option (W×MH)}{items:List W}{me:ME}{caps:MSt}{h:MH}(Q:W->Prop):∀(rest a:List W) (o:Option W),(∀w∈rest,∃v,Q v/\me (some w::caps) h=some (v,h))->a.length+rest.length<=sizeLine ->
  ∃vs:List W,vs.length=rest.length/\(∀v∈vs,Q v)/\JT fin items none (QF 0) Vn me rest a (o::caps) h=fin (a++vs) h
 |[],a,o,_,_=>⟨[],rfl,(fun v c=>by cases c),by unfold JT;rw[if_pos (JA _ _)];simp⟩
 | w::rest,a,o,d,i=>by
  have g:a.length+(rest.length+1)<=sizeLine:=by simpa using i
  obtain⟨v,c,m⟩:=d w Nz;obtain⟨vs,f,e,n⟩:=W8 (fin:=fin) (items:=items) Q rest (a++[v]) (some w) (fun x b=>d x (Nw _ b)) (by simp;lia);refine⟨v::vs,by simp[f],fun x b=>?_,?_⟩
  ·rcases NF.mp b with rfl|b
   ·exact c
   ·exact e x b
  ·unfold JT;rw[if_pos (JA _ _)];have l:QF 0 w (o::caps) h=some (some w::caps):=rfl;have j:Vn (some w::caps) h=some (true,h):=rfl;rw[l,Nx,j,Nx];dsimp only;rw[m,Nx,if_pos (by lia)];rw[n];simp
theorem Qan{m:Nat}:∀vs:List W,(∀v∈vs,∃t:Str,v=.str t/\t.length<=m)->∃b:List Str,vs=b.map W.str/\∀z∈b,z.length<=m
 |[],_=>⟨[],rfl,(fun z hz=>by cases hz)⟩
 |v::vs,h=>by
  obtain⟨t,rfl,d⟩:=h v Nz;obtain⟨b,rfl,hz⟩:=Qan vs fun x c=>h x (Nw _ c);refine⟨t::b,rfl,fun z a=>?_⟩
  rcases NF.mp a with rfl|a
  ·exact d
  ·exact hz z a
theorem QdH{m:Nat}:∀a:List Str,(∀z∈a,z.length<=m)->(a.map (·.length)).sum<=a.length*m
 |[],_=>NM _
 |z::a,h=>by
  rw[NC,List.sum_cons,El,Yai];have:=QdH a fun x b=>h x (Nw _ b);have c:=h z Nz;lia
theorem YD:(("":Str)).length=0:=by decide +kernel
theorem Qdc(zs:List Str):(Txt.join "" zs).length<=(zs.map (·.length)).sum:=by
 have a:=StrLaws.join_length_le ("":Str) zs;have:Txt.join ("":Str) zs=Str.join "" zs:=DL (join_plain_closes _ _);rw[this];rw[YD]at a;omega
theorem YO:∀a:List Str,YS (a.map W.str)=some a
 |[]=>rfl
 |z::a=>by rw[NC];unfold YS;rw[YO a];rfl
theorem Qcp{a:List Str}{h:MH}(c:(a.map (·.length)).sum<=16777216):Gp (.str "") [.lst (a.map W.str)] h=some (.str (Txt.join "" a),h):=by
 show((lsW h (.lst (a.map W.str))).bind fun b=>(YS b).bind fun a=>if(a.map (·.length)).sum+a.length*(("":Str)).length<=16777216 then some (W.str (Txt.join "" a),h)else none)=_;rw[show lsW h (.lst (a.map W.str))=some (a.map W.str)from rfl,Nx,YO,Nx,if_pos (by rw[YD];omega)]
theorem QaH{mi:MI}{cp:List (Option Nat)}{me:ME}{caps σ:MSt}{h h1:MH}{items:List W}{m:Nat}(r:mi σ h=some (items,none,h1))(n:Qbh cp σ=none::caps)(one:∀w∈items,∃t:Str,t.length<=m/\me (some w::caps) h1=some (.str t,h1))(l:items.length*m<=16777216)(j:items.length<=sizeLine) :
  ∃t:Str,t.length<=items.length*m/\mMt "str" Gp (mC (.str "")) (Qa (Qz Jg mi cp (QF 0) Vn me) Qd) σ h=some (.str t,h1):=by
 obtain⟨e,d,f,q⟩:=W8 (fin:=Jg) (items:=items) (me:=me) (caps:=caps) (h:=h1) (fun v=>∃t:Str,v=.str t/\t.length<=m) items [] none (fun w hw=>by
  obtain⟨t,i,o⟩:=one w hw
  exact⟨_,⟨t,rfl,i⟩,o⟩) (by simpa using j)
 obtain⟨b,rfl,g⟩:=Qan e f;have c:=QdH b g;rw[Ny]at d;rw[d]at c;refine⟨Txt.join "" b,Nf (Qdc b) c,?_⟩
 have p:Qz Jg mi cp (QF 0) Vn me σ h=some (.lst (b.map W.str),h1):=by
  unfold Qz;rw[r,Nx,n];exact q
 rw[QlB (a:=.str "") rfl rfl (Qis p Qi1)];exact Qcp (Nf c l)
end Mi

namespace Mi
open L2
section
variable{X:Cx}{tg:Expr}
end
section
variable{K:Nh}{R:Rn}
end
section
variable{X:Cx}{tg a b d:Expr}{ms:MA}{p pos:Pos}
end
end Mi

namespace Mi
open L2
section
variable{K:Nh}{R:Rn}
noncomputable abbrev DicR(K:Nh)(R:Rn):List (Key×W)->List (Key×V)->Prop:=Paired fun p q=>p.1=q.1/\Rw K R p.2 q.2
end
section
variable{X:Cx}{o i e a b:Expr}{mo mi mv ma mb:ME}{pos pos':Pos}
end
end Mi

namespace Mi
open L2
end Mi

namespace Mi
open L2
mutual
noncomputable def pur:W->Bool
 |.tup ws=>ZD ws
 |.lst ws=>ZD ws
 |.frz ws=>ZD ws
 |.ref _=>false
 |_=>true
noncomputable def ZD:List W->Bool
 |[]=>true
 |w::ws=>pur w&&ZD ws
end
noncomputable def Qgc:MO->Bool
 |.lst ws=>ZD ws
 |.dic kvs=>ZD (kvs.map (·.2))
 |.dct kvs=>ZD (kvs.map (·.2))
mutual
noncomputable def th(f:Nat->Option W):W->Option W
 |.tup ws=>(ths f ws).map .tup
 |.lst ws=>(ths f ws).map .lst
 |.frz ws=>(ths f ws).map .frz
 |.ref j=>f j
 |w=>some w
noncomputable def ths(f:Nat->Option W):List W->Option (List W)
 |[]=>some []
 |w::ws=>(th f w).bind fun x=>(ths f ws).map (x::·)
end
noncomputable def thO(f:Nat->Option W):MO->Option MO
 |.lst ws=>(ths f ws).map .lst
 |.dic kvs=>(ths f (kvs.map (·.2))).map fun vs=>.dic ((kvs.map (·.1)).zip vs)
 |.dct kvs=>(ths f (kvs.map (·.2))).map fun vs=>.dct ((kvs.map (·.1)).zip vs)
noncomputable def res(a:Nat->Option Nat)(g:MH):Nat->Nat->Option W
 |0,j=>(a j).map .ref
 | d+1,j=>match a j with
  |some n=>some (.ref n)
  |none=>match g[j]? with
   |some (.lst ws)=>(ths (res a g d) ws).map .lst
   |_=>none
noncomputable def Vy(ns a:List Nat)(N j:Nat):Option Nat:=match ns[j]? with
 |some n=>some n
 |none=>(a.findIdx? (·==j)).map (N+·)
noncomputable def XB:Nat->List W->Option (List W×List Nat)
 |_,[]=>some ([],[])
 |k,.ref n::ws=>(XB (k+1) ws).map fun p=>(.ref k::p.1,n::p.2)
 |k,w::ws=>if pur w then(XB k ws).map fun p=>(w::p.1,p.2)else none
noncomputable def QD:List Nat->List MO->MH->MH
 |n::ns,o::os,h=>QD ns os (h.set n o)
 |_,_,h=>h
noncomputable def QeB(h:MH)(n:Nat):Option MO:=match h[n]? with|some o=>if Qgc o then some o else none|none=>none
noncomputable def QfQ(a:W->List Nat)(m:FM)(as:List W)(ns:List Nat)(h:MH):Option (W×MH):=
 if ns.Nodup then(Zt (QeB h) ns).bind fun c=>(m as c).bind fun p=>
  if(a p.1).Nodup/\(∀j∈a p.1,ns.length<=j)then
   (th (res (Vy ns (a p.1) h.length) p.2 3) p.1).bind fun w=>
   (Zt (fun j=>(p.2[j]?).bind (thO (res (Vy ns (a p.1) h.length) p.2 3))) (List.range ns.length)).bind fun os=>
   (Zt (fun j=>(p.2[j]?).bind (thO (res (Vy ns (a p.1) h.length) p.2 3))) (a p.1)).map fun b=>
   (w,QD ns os h++b)
  else none
 else none
noncomputable def box(c:W->List Nat)(m:FM):FM:=fun b h=>(XB 0 b).bind fun a=>QfQ c m a.1 a.2 h
section
variable{K:Nh}{R R':Rn}
mutual
theorem Rw.pur_mono(b:∀a o,R.F a=some o->R'.F a=some o):∀(w:W) (v:V),pur w=true->Rw K R w v->Rw K R' w v
 |.non,_,_,h=>by unfold Rw at h ⊢;exact h
 |.bl _,_,_,h=>by unfold Rw at h ⊢;exact h
 |.int _,_,_,h=>by unfold Rw at h ⊢;exact h
 |.str _,_,_,h=>by unfold Rw at h ⊢;exact h
 |.ty _,_,_,h=>by unfold Rw at h ⊢;exact h
 |.tup ws,_,p,h=>by
  unfold Rw at h ⊢;obtain⟨a,xs,e,d,c⟩:=h;exact⟨a,xs,e,Zm b d,Rws.pur_mono b ws xs (by unfold pur at p;exact p) c⟩
 |.lst ws,_,p,h=>by
  unfold Rw at h ⊢;obtain⟨a,xs,e,d,c⟩:=h;exact⟨a,xs,e,b a _ d,Rws.pur_mono b ws xs (by unfold pur at p;exact p) c⟩
 |.frz ws,_,p,h=>by
  unfold Rw at h ⊢;obtain⟨a,xs,e,d,c⟩:=h;exact⟨a,xs,e,ZB b d,Rws.pur_mono b ws xs (by unfold pur at p;exact p) c⟩
 |.ref n,_,p,h=>by unfold pur at p;cases p
theorem Rws.pur_mono(c:∀a o,R.F a=some o->R'.F a=some o):∀(ws:List W) (vs:List V),ZD ws=true->Rws K R ws vs->Rws K R' ws vs
 |[],_,_,h=>by unfold Rws at h ⊢;exact h
 |w::ws,_,p,h=>by
  unfold Rws at h ⊢;obtain⟨v,b,f,e,d⟩:=h;unfold ZD at p;rw[NX]at p;exact⟨v,b,f,Rw.pur_mono c w v p.1 e,Rws.pur_mono c ws b p.2 d⟩
end
mutual
theorem Rw.th_ok{f:Nat->Option W}(c:∀a o,R.F a=some o->R'.F a=some o)(hr:∀j v w,Rw K R (.ref j) v->f j=some w->Rw K R' w v):∀(w:W) (v:V) (w':W),th f w=some w'->Rw K R w v->Rw K R' w' v
 |.non,_,_,e,h=>by unfold th at e;cases e;unfold Rw at h ⊢;exact h
 |.bl _,_,_,e,h=>by unfold th at e;cases e;unfold Rw at h ⊢;exact h
 |.int _,_,_,e,h=>by unfold th at e;cases e;unfold Rw at h ⊢;exact h
 |.str _,_,_,e,h=>by unfold th at e;cases e;unfold Rw at h ⊢;exact h
 |.ty _,_,_,e,h=>by unfold th at e;cases e;unfold Rw at h ⊢;exact h
 |.tup ws,_,_,e,h=>by
  unfold th at e;obtain⟨us,h1,d⟩:=Nk.mp e;subst d;unfold Rw at h ⊢;obtain⟨a,b,l,i,g⟩:=h;exact⟨a,b,l,Zm c i,Rws.th_ok c hr ws b us h1 g⟩
 |.lst ws,_,_,e,h=>by
  unfold th at e;obtain⟨us,h1,d⟩:=Nk.mp e;subst d;unfold Rw at h ⊢;obtain⟨a,b,l,i,g⟩:=h;exact⟨a,b,l,c a _ i,Rws.th_ok c hr ws b us h1 g⟩
 |.frz ws,_,_,e,h=>by
  unfold th at e;obtain⟨us,h1,d⟩:=Nk.mp e;subst d;unfold Rw at h ⊢;obtain⟨a,b,l,i,g⟩:=h;exact⟨a,b,l,ZB c i,Rws.th_ok c hr ws b us h1 g⟩
 |.ref n,v,w',e,h=>by unfold th at e;exact hr n v w' h e
theorem Rws.th_ok{f:Nat->Option W}(d:∀a o,R.F a=some o->R'.F a=some o)(hr:∀j v w,Rw K R (.ref j) v->f j=some w->Rw K R' w v):∀(ws:List W) (vs:List V) (b:List W),ths f ws=some b->Rws K R ws vs->Rws K R' b vs
 |[],_,_,e,h=>by unfold ths at e;cases e;unfold Rws at h ⊢;exact h
 |w::ws,_,_,e,h=>by
  unfold ths at e;obtain⟨x,h1,m⟩:=Nc.mp e;obtain⟨g,l,i⟩:=Nk.mp m;subst i;unfold Rws at h;obtain⟨v,c,q,p,n⟩:=h;subst q;exact Rws.cons (Rw.th_ok d hr w v x h1 p) (Rws.th_ok d hr ws c g l n)
end
theorem DicR.vals:∀{kvs:List (Key×W)} {kx:List (Key×V)},Paired (fun p q=>p.1=q.1/\Rw K R p.2 q.2) kvs kx->Rws K R (kvs.map (·.2)) (kx.map (·.2))/\kvs.map (·.1)=kx.map (·.1)
 |_,_,.nil=>⟨Rws.nil,rfl⟩
 |_,_,.cons h t=>by
  obtain⟨a,b⟩:=DicR.vals t;exact⟨Rws.cons h.2 a,by rw[NC,NC,b,h.1]⟩
theorem DicR.zip:∀{ks:List Key} {kx:List (Key×V)} {us:List W},ks=kx.map (·.1)->Rws K R us (kx.map (·.2))->Paired (fun p q=>p.1=q.1/\Rw K R p.2 q.2) (ks.zip us) kx
 |_,[],us,e,h=>by
  subst e;exact .nil
 | _,q::kx,us,e,h=>by
  subst e;rw[NC]at h;cases us with
  |nil=>rw[Rws.nil_iff]at h;cases h
  |cons u us=>
   rw[Rws.cons_iff]at h;obtain⟨v,vs,c,b,a⟩:=h;cases c;exact .cons ⟨rfl,b⟩ (DicR.zip rfl a)
theorem W0:∀(n:Nat) (w:W) (k:Tr),KN n w=some k->pur w=true
 |0,_,_,e=>by simp[KN]at e
 | n+1,w,k,e=>by
  cases w with
  | tup ws=>
   simp only[KN]at e;obtain⟨ks,b,f⟩:=Nk.mp e;unfold pur;clear e f
   induction ws generalizing ks with
   |nil=>rfl
   |cons x ws d=>
    rw[Fz]at b;obtain⟨c,h,i⟩:=Nc.mp b;obtain⟨a,g,_⟩:=Nc.mp i;unfold ZD;rw[W0 n x c h,d a g];rfl
  |lst ws=>simp[KN]at e
  |frz ws=>simp[KN]at e
  |ref j=>simp[KN]at e
  |_=>rfl
theorem Qbk{w:W}{k:Tr}(e:nrm w=some k):pur w=true:=by
 cases w with
 |tup a=>exact W0 8 _ k e
 |_=>cases e
theorem DctR.vals:∀{kvs:List (W×W)} {kx:List (Tr×Addr×V)},Paired (fun p q=>Rw K R p.1 (.ref q.2.1)/\nrm p.1=some q.1/\Rw K R p.2 q.2.2) kvs kx->Rws K R (kvs.map (·.2)) (kx.map (·.2.2))/\Paired (fun p q=>Rw K R p (.ref q.2.1)/\nrm p=some q.1) (kvs.map (·.1)) kx
 |_,_,.nil=>⟨Rws.nil,.nil⟩
 |_,_,.cons h t=>by
  obtain⟨a,b⟩:=DctR.vals t;exact⟨Rws.cons h.2.2 a,.cons ⟨h.1,h.2.1⟩ b⟩
theorem DctR.zip:∀{ks:List W} {kx:List (Tr×Addr×V)} {us:List W},Paired (fun p q=>Rw K R p (.ref q.2.1)/\nrm p=some q.1) ks kx->Rws K R us (kx.map (·.2.2))->Paired (fun p q=>Rw K R p.1 (.ref q.2.1)/\nrm p.1=some q.1/\Rw K R p.2 q.2.2) (ks.zip us) kx
 |_,[],us,.nil,h=>.nil
 | _,q::kx,us,.cons e t,h=>by
  rw[NC]at h;cases us with
  |nil=>rw[Rws.nil_iff]at h;cases h
  |cons u us=>
   rw[Rws.cons_iff]at h;obtain⟨v,vs,c,b,a⟩:=h;cases c;exact .cons ⟨e.1,e.2,b⟩ (DctR.zip t a)
theorem Ux{f:Nat->Option W}(m:∀a o,R.F a=some o->R'.F a=some o)(hr:∀j v w,Rw K R (.ref j) v->f j=some w->Rw K R' w v){o o':MO}{u:Option HO}(e:thO f o=some o')(h:Ro K R o u):Ro K R' o' u:=by
 cases o with
 |lst t=>
  unfold thO at e;obtain⟨c,g,d⟩:=Nk.mp e;subst d;obtain⟨s,l,i⟩:=h;exact⟨s,l,Rws.th_ok m hr t s c g i⟩
 |dic r=>
  unfold thO at e;obtain⟨c,g,d⟩:=Nk.mp e;subst d;obtain⟨n,l,i⟩:=h;obtain⟨a,b⟩:=DicR.vals i;exact⟨n,l,DicR.zip b (Rws.th_ok m hr _ _ c g a)⟩
 |dct r=>
  unfold thO at e;obtain⟨c,g,d⟩:=Nk.mp e;subst d;obtain⟨n,l,i⟩:=h;obtain⟨a,b⟩:=DctR.vals i;exact⟨n,l,DctR.zip (Paired.mapP b fun p q z=>⟨Rw.pur_mono m _ _ (Qbk z.2) z.1,z.2⟩) (Rws.th_ok m hr _ _ c g a)⟩
theorem Wv(f:∀a o,R.F a=some o->R'.F a=some o){o:MO}{u:Option HO}(p:Qgc o=true)(h:Ro K R o u):Ro K R' o u:=by
 cases o with
 |lst l=>
  obtain⟨j,d,e⟩:=h;exact⟨j,d,Rws.pur_mono f l j p e⟩
 | dic c=>
  obtain⟨g,d,e⟩:=h;refine⟨g,d,?_⟩;have b:ZD (c.map (·.2))=true:=p;clear p d;revert b
  induction e with
  |nil=>exact fun _=>.nil
  |cons h t i=>
   intro b;rw[NC]at b;unfold ZD at b;rw[NX]at b;exact .cons ⟨h.1,Rw.pur_mono f _ _ b.1 h.2⟩ (i b.2)
 | dct c=>
  obtain⟨g,d,e⟩:=h;refine⟨g,d,?_⟩;have b:ZD (c.map (·.2))=true:=p;clear p d;revert b
  induction e with
  |nil=>exact fun _=>.nil
  |cons h t i=>
   intro b;rw[NC]at b;unfold ZD at b;rw[NX]at b;exact .cons ⟨Rw.pur_mono f _ _ (Qbk h.2.1) h.1,h.2.1,Rw.pur_mono f _ _ b.1 h.2.2⟩ (i b.2)
theorem Wn{R0:Rn}(f:∀a o,R.F a=some o->R0.F a=some o){all:List Nat}(b:∀(i n:Nat),all[i]?=some n->i<R0.N/\R0.ρ i=R.ρ n):∀{ws:List W} {vs:List V} {pre:List Nat} {as:List W} {ns:List Nat},XB pre.length ws=some (as,ns)->all=pre++ns->Rws K R ws vs->Rws K R0 as vs
 |[],vs,pre,as,ns,e,d,h=>by
  unfold XB at e;cases e;rw[Rws.nil_iff]at h;subst h;exact Rws.nil
 | w::ws,vs,pre,as,ns,e,d,h=>by
  rw[Rws.cons_iff]at h;obtain⟨v,t,rfl,h1,q⟩:=h
  by_cases hw:∃n,w=.ref n
  ·obtain⟨n,rfl⟩:=hw;unfold XB at e;obtain⟨⟨m,c⟩,j,g⟩:=Nk.mp e;cases g;refine Rws.cons ?_ (Wn f b (pre:=pre++[n]) (ns:=c) (by rw[Nv];exact j) (by rw[d];simp) q);obtain⟨s,r⟩:=b pre.length n (by rw[d];simp);unfold Rw at h1 ⊢;exact⟨s,by rw[r];exact h1.2⟩
  ·have l:(if pur w then(XB pre.length ws).map fun p=>(w::p.1,p.2)else none)=some (as,ns):=by
    rw[<-e];cases w<;>first|(exact absurd ⟨_,rfl⟩ hw)|(conv=>rhs;unfold XB)
   split at l
   ·rename_i u;obtain⟨⟨m,c⟩,j,g⟩:=Nk.mp l;cases g;exact Rws.cons (Rw.pur_mono f w v u h1) (Wn f b j d q)
   ·cases l
theorem Zw:∀(ns:List Nat) (os:List MO) (h:MH),(QD ns os h).length=h.length
 |[],_,h=>by unfold QD;rfl
 |_::_,[],h=>by unfold QD;rfl
 |n::ns,o::os,h=>by unfold QD;rw[Zw ns os,DO]
theorem Vz:∀(ns:List Nat) (os:List MO) (h:MH) (n:Nat),n∉ns->(QD ns os h)[n]?=h[n]?
 |[],_,h,n,_=>by unfold QD;rfl
 |_::_,[],h,n,_=>by unfold QD;rfl
 |m::ns,o::os,h,n,a=>by
  unfold QD;rw[Vz ns os _ n (fun z=>a (Nw _ z)),EC (fun z=>a (by rw[z];exact Nz))]
theorem Kv:∀(ns:List Nat) (os:List MO) (h:MH) (i n:Nat),ns.Nodup->ns.length=os.length->ns[i]?=some n->n<h.length->(QD ns os h)[n]?=os[i]?
 |[],_,h,i,n,_,_,e,_=>by simp at e
 |m::ns,[],h,i,n,_,a,_,_=>by simp at a
 |m::ns,o::os,h,0,n,hd,a,e,b=>by
  simp at e;subst e;unfold QD;rw[Vz ns os _ m (Eu.mp hd).1,Es b];rfl
 |m::ns,o::os,h,i+1,n,hd,a,e,b=>by
  unfold QD;rw[Kv ns os (h.set m o) i n (Eu.mp hd).2 (by simpa using a) (by simpa using e) (by rw[DO];exact b)];simp
end
end Mi

namespace Mi
open L2
theorem Yi:∀{ws:List W} {k:Nat} {as:List W} {ns:List Nat},XB k ws=some (as,ns)->as.length=ws.length
  |[],k,as,ns,e=>by unfold XB at e;cases e;rfl
  | w::ws,k,as,ns,e=>by
    cases w<;>unfold XB at e<;>first
      | (obtain⟨⟨d,a⟩,c,b⟩:=Nk.mp e
         cases b
         simp[Yi c])
      | (split at e
         · obtain⟨⟨d,a⟩,c,b⟩:=Nk.mp e;cases b;simp[Yi c]
         · cases e)
theorem Y3{a:List Nat}{j i:Nat}(e:a.findIdx? (·==j)=some i):a[i]?=some j:=by
 rw[Dl]at e;obtain⟨h,b,_⟩:=e;rw[No h];simp at b;rw[b]
theorem YW{js:List Nat}{j:Nat}(e:js.findIdx? (·==j)=none):j∉js:=by
 rw[LF]at e;intro z;have:=e j z;simp at this
theorem QbG{h:MH}{n:Nat}{o:MO}(e:QeB h n=some o):h[n]?=some o/\Qgc o=true:=by
 unfold QeB at e;split at e
 ·rename_i c b;split at e
  ·rename_i a;cases e;exact⟨b,a⟩
  ·cases e
 ·cases e
theorem Y1{a:List Nat}(h:a.Nodup){i b j:Nat}(e:a[i]?=some j)(c:a[b]?=some j):i=b:=
 (List.getElem?_inj (Nm.mp e).1 h).mp (e.trans c.symm)
section
variable{K:Nh}
open Classical in
theorem QhC{n:Nat}{fr:W->List Nat}{m:FM}{vs:List V}{H:Hp}{Q:VK}{E:XK}(q:spM K n (box fr m) vs H Q E):spM K n m vs H Q E:=by
 obtain⟨R,ws,h,wx,h2,hl,M,ay,e,k⟩:=q;unfold box at e;obtain⟨⟨as,A⟩,e1,e2⟩:=Nc.mp e;unfold QfQ at e2;split at e2
 case isFalse=>cases e2
 rename_i hd;obtain⟨h0,e3,e4⟩:=Nc.mp e2;obtain⟨⟨w,g⟩,e5,e6⟩:=Nc.mp e4;dsimp only at e6;split at e6
 case isFalse=>cases e6
 rename_i hj;obtain⟨a5,a4⟩:=hj;obtain⟨wy,e7,e8⟩:=Nc.mp e6;obtain⟨os,e9,a9⟩:=Nc.mp e8;obtain⟨us,an,a8⟩:=Nk.mp a9;cases a8;generalize ba:fr w=js at *
 have Z:∀(i x:Nat),A[i]?=some x->x<R.N/\∃o,h[x]?=some o/\h0[i]?=some o/\Qgc o=true:=fun i x l=>by
  obtain⟨o,D,t⟩:=(Qw e3).2 i x l;obtain⟨z3,z4⟩:=QbG t;exact⟨by rw[M.len];exact(Nm.mp z3).1,o,z3,D,z4⟩
 have ah:∀x,x∈A->∃i:Nat,A[i]?=some x:=fun x l=>NZ.mp l
 let R0:Rn:={ ρ:=fun i=>R.ρ (A.getD i 0),N:=A.length,F:=R.F,G:=fun a=>if∃x,x<R.N/\x∉A/\R.ρ x=a then H a else R.G a }
 have X:∀(i x:Nat),A[i]?=some x->i<R0.N/\R0.ρ i=R.ρ x:=fun i x l=>by
  refine⟨(Nm.mp l).1,?_⟩;show R.ρ (A.getD i 0)=_;rw[DT,l];rfl
 have ai:∀i:Nat,i<A.length->∃x,A[i]?=some x:=fun i P=>⟨A[i],No P⟩
 have am:∀x,x<R.N->x∉A->R0.G (R.ρ x)=H (R.ρ x):=fun x l hn=>if_pos ⟨x,l,hn,rfl⟩
 have al:∀a o,R.G a=some o->R0.G a=some o:=fun a o z=>by
  show(if∃x,x<R.N/\x∉A/\R.ρ x=a then H a else R.G a)=some o;split
  ·exact M.gsub a o z
  ·exact z
 have az:Rh K R0 h0 H:=by
  refine⟨(Qw e3).1,M.sub,fun i P=>?_,fun i j P hj ee=>?_,fun i o P=>?_,fun a o ha=>?_,fun i P=>?_,fun a o ha=>?_⟩
  ·obtain⟨x,l⟩:=ai i P;rw[(X i x l).2];exact M.sep x (Z i x l).1
  ·obtain⟨x,l⟩:=ai i P;obtain⟨y,Y⟩:=ai j hj;rw[(X i x l).2,(X j y Y).2]at ee;have:=M.inj x y (Z i x l).1 (Z j y Y).1 ee;subst this;exact Y1 hd l Y
  ·have a7:i<A.length:=by rw[(Qw e3).1];exact(Nm.mp P).1
   obtain⟨x,l⟩:=ai i a7;obtain⟨_,o',D,t,z3⟩:=Z i x l;rw[P]at t;cases t;rw[(X i x l).2];exact Wv (R:=R) (R':=R0) (fun _ _ z=>z) z3 (M.obj x o D)
  ·have L:(if∃x,x<R.N/\x∉A/\R.ρ x=a then H a else R.G a)=some o:=ha;split at L
   ·exact L
   ·exact M.gsub a o L
  ·obtain⟨x,l⟩:=ai i P;rw[(X i x l).2];show(if∃y,y<R.N/\y∉A/\R.ρ y=R.ρ x then H (R.ρ x)else R.G (R.ρ x))=none;rw[if_neg]
   ·exact M.gsep x (Z i x l).1
   ·rintro⟨y,Y,a0,ey⟩
    have:=M.inj y x Y (Z i x l).1 ey;subst this;exact a0 (NZ.mpr ⟨i,l⟩)
  ·have L:(if∃x,x<R.N/\x∉A/\R.ρ x=a then H a else R.G a)=some o:=ha;split at L
   ·rename_i l;obtain⟨x,l,_,rfl⟩:=l;exact M.sep x l
   ·exact M.gf a o L
 refine⟨R0,as,h0,w,g,(Yi e1).trans hl,az,Wn (R:=R) (R0:=R0) (pre:=[]) (fun _ _ z=>z) X e1 rfl ay,e5,fun R1 H1 v x1 s rv=>?_⟩;have af:R1.G=R0.G:=x1.g
 have ae:∀(i x:Nat),A[i]?=some x->i<R1.N/\R1.ρ i=R.ρ x:=fun i x l=>by
  obtain⟨D,t⟩:=X i x l;exact⟨Ng D x1.n,(x1.ρ i D).trans t⟩
 have aa:∀(i j:Nat),js[i]?=some j->A.length<=j/\j<R1.N/\∃o u,us[i]?=some u/\g[j]?=some o/\thO (res (Vy A js h.length) g 3) o=some u:=fun i j p=>by
  obtain⟨u,D,t⟩:=(Qw an).2 i j p;obtain⟨o,z3,z4⟩:=Nc.mp t;exact⟨a4 j (NZ.mpr ⟨i,p⟩),by rw[s.len];exact(Nm.mp z3).1,o,u,D,z3,z4⟩
 have S:∀x,x<R.N->∀j,A.length<=j->j<R1.N->R1.ρ j≠R.ρ x:=fun x l j hj ar ee=>by
  by_cases hm:x∈A
  ·obtain⟨i,P⟩:=ah x hm;obtain⟨D,t⟩:=ae i x P;have:=s.inj j i ar D (ee.trans t.symm);have:=(Nm.mp P).1;lia
  ·have z:=s.gsep j ar;rw[af,ee,am x l hm]at z;obtain⟨_,u,_,hu⟩:=M.there l;rw[hu]at z;cases z
 let R2:Rn:={ ρ:=fun n=>if n<R.N then R.ρ n else R1.ρ (js.getD (n-R.N) 0),N:=R.N+js.length,F:=fun a=>match R1.F a with|some o=>some o|none=>if∃j,A.length<=j/\j<R1.N/\j∉js/\R1.ρ j=a then H1 a else none,G:=R.G }
 have C:∀x,x<R.N->R2.ρ x=R.ρ x:=fun x l=>if_pos l
 have I:∀(i j:Nat),js[i]?=some j->R2.ρ (R.N+i)=R1.ρ j:=fun i j p=>by
  show(if R.N+i<R.N then R.ρ (R.N+i)else R1.ρ (js.getD (R.N+i-R.N) 0))=_;rw[if_neg (NQ.mpr (Np _ _)),Fe,DT,p];rfl
 have f1:∀a o,R1.F a=some o->R2.F a=some o:=fun a o z=>by
  show(match R1.F a with|some o=>some o|none=>if∃j,A.length<=j/\j<R1.N/\j∉js/\R1.ρ j=a then H1 a else none)=some o;rw[z]
 have ab:∀a,R1.F a=none->(¬∃j,A.length<=j/\j<R1.N/\j∉js/\R1.ρ j=a)->R2.F a=none:=fun a D t=>by
  show(match R1.F a with|some o=>some o|none=>if∃j,A.length<=j/\j<R1.N/\j∉js/\R1.ρ j=a then H1 a else none)=none;rw[D];exact if_neg t
 have au:∀j,A.length<=j->j<R1.N->j∉js->R2.F (R1.ρ j)=H1 (R1.ρ j):=fun j a b c=>by
  show(match R1.F (R1.ρ j)with|some o=>some o|none=>if∃j',A.length<=j'/\j'<R1.N/\j'∉js/\R1.ρ j'=R1.ρ j then H1 (R1.ρ j)else none)=_;rw[s.sep j b];exact if_pos ⟨j,a,b,c,rfl⟩
 have ak:Ext R R2:=⟨Np _ _,fun x l=>C x l,fun a o z=>f1 a o (x1.f a o z),rfl⟩
 have B:∀x,x<R2.N->x<R.N\/∃i j:Nat,x=R.N+i/\js[i]?=some j:=fun x l=>by
  have aj:x<R.N+js.length:=l
  by_cases z:x<R.N
  ·exact .inl z
  ·exact .inr ⟨x-R.N,js[x-R.N]'(Dt (NQ.mp z) aj),by lia,No (Dt (NQ.mp z) aj)⟩
 have hr:∀d j v w,Rw K R1 (.ref j) v->res (Vy A js h.length) g d j=some w->Rw K R2 w v:=by
  have ag:∀j v x,Rw K R1 (.ref j) v->Vy A js h.length j=some x->Rw K R2 (.ref x) v:=fun j v x r z=>by
   unfold Rw at r ⊢;unfold Vy at z;split at z
   ·rename_i y Y;cases z;obtain⟨D,t⟩:=ae j x Y;have ao:=(Z j x Y).1;exact⟨Ng ao ak.n,by rw[C x ao,<-t];exact r.2⟩
   ·obtain⟨i,D,t⟩:=Nk.mp z;have p:=Y3 D;subst t;rw[<-M.len,I i j p];exact⟨NU (Nm.mp p).1 _,r.2⟩
  intro d
  induction d with
  |zero=>
   intro j v w r z;unfold res at z;obtain⟨x,D,t⟩:=Nk.mp z;subst t;exact ag j v x r D
  | succ d ih=>
   intro j v w r z;unfold res at z;split at z
   ·rename_i x l;cases z;exact ag j v x r l
   ·rename_i O;split at z
    ·rename_i aw hg;obtain⟨ax,D,t⟩:=Nk.mp z;subst t;obtain⟨xs,o1,o2⟩:=s.obj j _ hg;have ap:j<R1.N/\v=.ref (R1.ρ j):=by unfold Rw at r;exact r
     unfold Vy at O;split at O
     ·cases O
     ·rename_i a3;have aq:j∉js:=YW (by simpa using O);unfold Rw;refine⟨R1.ρ j,xs,ap.2,?_,Rws.th_ok f1 ih aw xs ax D o2⟩;rw[au j (DY.mp a3) ap.1 aq];exact o1
    ·cases z
 refine k R2 H1 v ak ⟨?_,fun a o ha=>?_,fun x l=>?_,fun x y l Y ee=>?_,fun x o l=>?_,fun a o ha=>?_,fun x l=>?_,fun a o ha=>?_⟩ (Rw.th_ok f1 (hr 3) w v _ e7 rv)
 ·show R.N+js.length=_;rw[Nv,Zw,<-(Qw an).1,M.len]
 ·have L:(match R1.F a with|some o=>some o|none=>if∃j,A.length<=j/\j<R1.N/\j∉js/\R1.ρ j=a then H1 a else none)=some o:=ha;split at L
  ·rename_i o' a2;cases L;exact s.sub a _ a2
  ·split at L
   ·exact L
   ·cases L
 ·rcases B x l with l|⟨i,j,rfl,p⟩
  ·rw[C x l];refine ab _ ?_ (fun⟨j,a,b,_,c⟩=>S x l j a b c)
   by_cases hm:x∈A
   ·obtain⟨i,P⟩:=ah x hm;obtain⟨D,t⟩:=ae i x P;rw[<-t];exact s.sep i D
   ·obtain⟨_,u,_,hu⟩:=M.there l;exact s.gf _ u (by rw[af,am x l hm];exact hu)
  ·obtain⟨D,t,_⟩:=aa i j p;rw[I i j p];refine ab _ (s.sep j t) (fun⟨j',a,b,c,d⟩=>?_);have:=s.inj j' j b t d;subst this;exact c (NZ.mpr ⟨i,p⟩)
 ·rcases B x l with l|⟨i,j,rfl,p⟩<;>rcases B y Y with Y|⟨i',j',rfl,U⟩
  ·rw[C x l,C y Y]at ee;exact M.inj x y l Y ee
  ·rw[C x l,I i' j' U]at ee;obtain⟨D,t,_⟩:=aa i' j' U;exact absurd ee.symm (S x l j' D t)
  ·rw[C y Y,I i j p]at ee;obtain⟨D,t,_⟩:=aa i j p;exact absurd ee (S y Y j D t)
  ·rw[I i j p,I i' j' U]at ee;obtain⟨_,t,_⟩:=aa i j p;obtain⟨_,av,_⟩:=aa i' j' U;have:=s.inj j j' t av ee;subst this;rw[Y1 a5 p U]
 ·have aj:x<R2.N:=by
   have:=(Nm.mp l).1;rw[Nv,Zw,<-(Qw an).1,<-M.len]at this;exact this
  rcases B x aj with hn|⟨i,j,rfl,p⟩
  ·rw[NP (by rw[Zw,<-M.len];exact hn)]at l;rw[C x hn]
   by_cases hm:x∈A
   ·obtain⟨i,P⟩:=ah x hm;obtain⟨D,t⟩:=ae i x P;have a6:=(Nm.mp P).1;rw[Kv A os h i x hd (by rw[<-(Qw e9).1,Fw]) P (by rw[<-M.len];exact hn)]at l;obtain⟨u,y1,y2⟩:=(Qw e9).2 i i (by rw[DF a6]);rw[l]at y1;cases y1;obtain⟨o',y3,y4⟩:=Nc.mp y2;rw[<-t];exact Ux f1 (hr 3) y4 (s.obj i o' y3)
   ·rw[Vz A os h x hm]at l;obtain⟨_,u,_,hu⟩:=M.there hn;have a1:H1 (R.ρ x)=some u:=s.gsub _ u (by rw[af,am x hn hm];exact hu);have:=M.obj x o l;rw[hu]at this;rw[a1];exact this.mono ak
  ·obtain⟨D,t,o',u,y1,y2,y3⟩:=aa i j p;rw[Dn (by rw[Zw,<-M.len];exact Np _ _),Zw,<-M.len,Fe,y1]at l;cases l;rw[I i j p];exact Ux f1 (hr 3) y3 (s.obj j o' y2)
 ·exact s.gsub a o (by rw[af];exact al a o ha)
 ·rcases B x l with l|⟨i,j,rfl,p⟩
  ·rw[C x l];exact M.gsep x l
  ·rw[I i j p];obtain⟨_,t,_⟩:=aa i j p;cases z:R2.G (R1.ρ j)with
   |none=>rfl
   |some u=>
    have z3:=s.gsep j t;rw[af,al _ u z]at z3;cases z3
 ·have hg:R1.G a=some o:=by rw[af];exact al a o ha
  refine ab a (s.gf a o hg) (fun⟨j,_,b,_,d⟩=>?_);have z3:=s.gsep j b;rw[d,hg]at z3;cases z3
theorem Cal.box{P:Program}{w:World}{a:Str->Option Value}{base:Heap}{x:Str}{ps:List Str}{k:Nat}{g:FM}(b:W->List Nat)(C:Cal P w K a base k x ps g):Cal P w K a base k x ps (Mi.box b g):=
 C.imp fun _ _ _ _ q=>QhC q
end
noncomputable def frN:W->List Nat:=fun _=>[]
noncomputable def frR:W->List Nat
 |.ref j=>[j]
 |_=>[]
end Mi

namespace Mi
open L2
noncomputable def Qc2:List Nat->List W->MSt->Option MSt
 |[],[],σ=>some σ
 |i::is,w::ws,σ=>Qc2 is ws (σ.set i (some w))
 |_,_,_=>none
noncomputable def Vk(is:List Nat):MG:=fun w a _=>match w with|.tup b=>Qc2 is b a|_=>none
noncomputable def UP:List Nat->TGs
 |[]=>Qki
 |i::is=>QhD (QbL i) (UP is)
theorem Vc{X:Cx}:PGs X [] (UP []):=QeG
theorem QT{X:Cx}{i:Nat}{x:Str}{pos:Pos}{es:List Expr}{is:List Nat}(hN:X.N.Nodup)(hi:X.N[i]?=some x)(a:Loc X.env.scope x)(h:PGs X es (UP is))(b:X.fn x=true\/X.env.scope.names.lookup x=some .local)
  : PGs X (.Name x pos::es) (UP (i::is)):=QcT (QaQ hN hi a b) h
theorem Um{K:Nh}{R:Rn}{H:Hp}{C:L2.St->Hp->Prop}:∀{is:List Nat} {ws:List W} {xs:List V} {a b:MSt} {σ:L2.St},Qc2 is ws a=some b->Rws K R ws xs->Rst K R a σ->(∀c,Rst K R b c->C c H)->UP is xs σ H C
 |[],[],xs,a,b,σ,e,r,s,k=>by
  cases e;rw[Rws.nil_iff]at r;exact⟨r,k σ s⟩
 |i::is,w::ws,xs,a,b,σ,e,r,s,k=>by
  rw[Rws.cons_iff]at r;obtain⟨v,vs,rfl,f,d⟩:=r;exact⟨v,vs,rfl,Um (is:=is) e d (s.set f) k⟩
 |[],_::_,_,_,_,_,e,_,_,_=>by cases e
 |_::_,[],_,_,_,_,e,_,_,_=>by cases e
theorem YT:∀{is:List Nat} {ws:List W} {σ a:MSt},Qc2 is ws σ=some a->ws.length=is.length
 |[],[],_,_,_=>rfl
 |i::is,w::ws,σ,a,e=>by
  have:=YT (is:=is) (ws:=ws) e;simp[this]
 |[],_::_,_,_,e=>by cases e
 |_::_,[],_,_,e=>by cases e
theorem Vg{X:Cx}{es:List Expr}{is:List Nat}{k:Nat}{pos:Pos}(n:X.calm=true)(h:PGs X es (UP is))(m:(assignEach es X.env).length=is.length)(l:(assignEach es X.env).findIdx? (·.1)=none):PMG X (.Tuple es k pos) (Vk is):=
 Qd3 (Qia n h m l) fun v o H C ⟨R,d,h,w,f,b,st,rw,e,q⟩=>by
  unfold Vk at e;split at e
  ·rename_i p;obtain⟨ad,g,rfl,j,c⟩:=b.tupAt rw;exact⟨ad,g,rfl,j,by rw[<-c.length];exact YT e,Um e c st fun a i=>q R H a (Ext.refl _) b i⟩
  ·cases e
noncomputable def QjA(g:MG)(m:ME):SM:=fun b h=>(m b h).bind fun p=>(g p.1 b p.2).map fun a=>.nx a p.2
theorem Qfa{X:Cx}{a e:Expr}{g:MG}{m:ME}{pos:Pos}(u:PM X e m)(t:PMG X a g)(q:swapsWithSole [a] e pos.line X.env=pure false)(hw:swappedStores [a] e X.env=pure none)(h1:(assignEach [a] X.env).map (·.2)=[assign a X.env]) :
  PMS X (.Assign [a] e pos) (QjA g m):=Vo (QdU u t q hw h1) <|by
 rintro D E H ⟨R,b,h,r,p,s,e,k⟩
 obtain⟨⟨w,h1⟩,A,z⟩:=Nc.mp e;obtain⟨c,y,x⟩:=Nk.mp z;cases x;exact⟨R,b,h,w,h1,p,s,A,fun R1 G v j f o=>⟨R1,b,h1,w,c,f,s.mono j,o,y,fun B C d l i n=>k B C d (j.trans l) i n⟩⟩
noncomputable def Qga(ws:List W)(h:MH):Option (W×MH):=match ws with
 |[.int i,.int j]=>some (.int (if j>i then j else i),h)
 |_=>none
noncomputable def Qge(ws:List W)(h:MH):Option (W×MH):=match ws with
 |[.int i,.int j]=>some (.int (if j<i then j else i),h)
 |_=>none
noncomputable def QbX(ws:List W)(h:MH):Option (W×MH):=match ws with
 |[.int i]=>some (.int i,h)
 |[.bl b]=>some (.int (if b then 1 else 0),h)
 |_=>none
section
variable{X:Cx}
theorem Qbx(j:X.calm=true):CallR X (.builtin "max") (Fs X.K Qga):=by
 intro a s b H c d Q I r q;refine GV j a s b H c d Q I r ?_;obtain⟨R,h,l,w,m,f,rw,e,k⟩:=q;unfold Qga at e;split at e
 ·cases e;obtain⟨v,u,rfl,i,g⟩:=Qhg rw;exact⟨_,_,by rw[i.int_eq,g.int_eq],k R H _ (Ext.refl _) f (Rw.int _)⟩
 ·cases e
theorem QaS(j:X.calm=true):CallR X (.builtin "min") (Fs X.K Qge):=by
 intro a s b H c d Q I r q;refine QaR j a s b H c d Q I r ?_;obtain⟨R,h,l,w,m,f,rw,e,k⟩:=q;unfold Qge at e;split at e
 ·cases e;obtain⟨v,u,rfl,i,g⟩:=Qhg rw;exact⟨_,_,by rw[i.int_eq,g.int_eq],k R H _ (Ext.refl _) f (Rw.int _)⟩
 ·cases e
theorem XH:CallR X (.type "int") (Fs X.K QbX):=by
 intro a s d H f g Q I r q;refine Qbt a s d H f g Q I r ?_;obtain⟨R,h,i,w,j,c,rw,e,k⟩:=q;unfold QbX at e;split at e
 ·cases e;obtain⟨v,rfl,b⟩:=XO rw;exact .inl ⟨_,by rw[b.int_eq],k R H _ (Ext.refl _) c (Rw.int _)⟩
 ·cases e;obtain⟨v,rfl,b⟩:=XO rw;exact .inr ⟨_,by rw[b.bl_eq],k R H _ (Ext.refl _) c (Rw.int _)⟩
 ·cases e
noncomputable def rep(x:Str)(n:Int):Str:=⟨((List.replicate n.toNat x.cps.toList).flatten).toArray⟩
theorem Yy:∀(l:List (Array Nat)) (a:Array Nat),l.foldl (·++·) a=(a.toList++(l.map Array.toList).flatten).toArray
 |[],a=>by simp
 |b::l,a=>by rw[Fo,Yy l];simp
theorem Qdp(x:Str)(n:Int):(⟨(List.replicate n.toNat x.cps).foldl (·++·) #[]⟩:Str)=rep x n:=by
 unfold rep;rw[Yy];simp
theorem Qck(x:Str){n:Int}(h:n<1):Str.empty=rep x n:=by
 unfold rep;rw[show n.toNat=0 by lia];rfl
theorem Qft(x:Str):x=rep x 1:=by
 unfold rep;simp
theorem QfZ{x:Str}(n:Int)(h:(x.length==0)=true):x=rep x n:=by
 unfold rep
 have:x.cps=#[]:=by
  have:x.cps.size=0:=by simpa[Str.length]using h
  exact Array.eq_empty_of_size_eq_zero this
 obtain⟨c⟩:=x;simp at this;subst this;simp
noncomputable def Zj(a b:W)(h:MH):Option (W×MH):=match a,b with
 |.str x,.int n=>if n<1000/\-1000<n/\x.length<1000 then some (.str (rep x n),h)else none
 |a,b=>Qgh a b h
theorem Qfb:OpR X (binaryOp .Mult) (fun x y H Q=>∃z n,x=.str z/\y=.int n/\(n<1000/\-1000<n/\z.length<1000)/\Q (.str (rep z n)) H):=by
  intro b s e H x y v u Q I i h ⟨z,n,p,o,⟨C,B,A⟩,q⟩;subst p o;obtain⟨t,rfl⟩:=i;obtain⟨w,rfl⟩:=h
  have j:z.length*n.toNat<1000000:=by
    calc z.length*n.toNat<=999*999:=Oq (by lia) (by lia)
      _<1000000:=by decide
  refine PySem.P.mul_str (by rw[decide_eq_false (by lia),decide_eq_false (by lia)];rfl) (fun a _=>?_) (fun a _=>?_) ?_
  · have:(2^63-1)/n >= 1000:=by
      rw[ge_iff_le,Int.le_ediv_iff_mul_le (by lia)];lia
    lia
  · unfold Builtin.Str.tooLong
    exact decide_eq_false (by show¬_;have:sizeLine=16777216:=by decide
                              lia)
  · have done:∀(y:Str) (f:Tok) (d:Shared),y=rep z n->Inv X b e H d->EP X b e Q (.str y f) d:=fun y f d m r=>⟨.str y,H,r,⟨_,rfl⟩,by rw[m];exact q⟩
    split
    · rename_i g;exact⟨by decide,done _ _ _ (Qck z g) (I.tok _)⟩
    · split
      · rename_i g c;rw[Di]at c;refine done _ _ _ ?_ I
        rcases c with c|c
        · have:n=1:=by simpa using c
          subst this;exact Qft z
        · exact QfZ n c
      · refine⟨?_,done _ _ _ (Qdp z n) (I.tok _)⟩;rw[Qdp]
        have l:(rep z n).length=n.toNat*z.length:=by
          unfold rep Str.length;simp
        rw[l,Nat.mul_comm];have:sizeLine=16777216:=by decide
        exact Nl (Ng (N0 j (by decide)) (Nq this.symm))
theorem QcS:OpR X (binaryOp .Mult) (F2 X.K Zj):=by
 intro c s d H x y v u Q I g f q;obtain⟨R,h,a,b,w,n,i,l,j,e,k⟩:=q;unfold Zj at e;split at e
 ·split at e
  ·rename_i m;cases e;exact Qfb c s d H x y v u Q I g f ⟨_,_,l.str_eq,j.int_eq,m,k R H _ (Ext.refl _) i (Rw.str _)⟩
  ·cases e
 ·exact QeF c s d H x y v u Q I g f ⟨R,h,a,b,w,n,i,l,j,e,k⟩
end
section
variable{X:Cx}{elt tg iter c:Expr}{scope:Scope}{pos pos' spos:Pos}{cl:List (Str×Addr)}{Nb:List Str}{cp:List (Option Nat)}{mi:MI}{b:MG}{mt:MT}{me m:ME}{fin:List W->MH->Option (W×MH)}{i:Nat}{x:Str}{e:Expr}
theorem QaW{K:Nh}{D:L2.Ends}{σ:L2.St}{H:Hp}(q:tS K (QQ i m) D σ H):tI K m σ H fun v f=>QbL i v σ f D.nx:=by
 obtain⟨R,a,h,r,l,s,e,k⟩:=q;obtain⟨⟨w,n⟩,p,o⟩:=Nk.mp e;cases o;exact⟨R,a,h,w,n,l,s,p,fun R1 f v g d j=>k R1 f _ g d ((s.mono g).set j)⟩
theorem Y0(hN:X.N.Nodup)(n:X.N[i]?=some x)(v:Loc X.env.scope x)(o:X.fn x=true\/X.env.scope.names.lookup x=some .local)(z:UY X.K fin)(D:X.calm=true)(B:BlkOk X scope cl Nb cp)(hi:PMI X tg iter mi)(y:∀a d C j f,PMG (Mi.blk X scope cl Nb a d C j f) tg b)
  (A:∀a d C j f,PM (Mi.blk X scope cl Nb a d C j f) elt me) (w:∀x,foldedSetIterable iter X.env x=pure x) (l:swapsWith (.ListComp elt [⟨tg,iter,[],0⟩] scope pos) (some (.Name x pos')) spos.line X.env=pure true) :
  PMS X (.Assign [.Name x pos'] (.ListComp elt [⟨tg,iter,[],0⟩] scope pos) spos) (QQ i (Qz fin mi cp b Vn me)):=
 Vo (Qa1 (g:=tIG X.K b) (te:=tI X.K me) (tt:=tIT X.K Vn) hN n v o l D B hi y (fun a d C j f p s E H Q I q=>wpAny_tests_nil (by
  obtain⟨R,r,h,t,M,u,st,e,k⟩:=q;cases e
  exact⟨H,I,k R H (Ext.refl _) u⟩)) A w) fun _ _ _ q=>Yl z (QaW q)
theorem G1(hN:X.N.Nodup)(n:X.N[i]?=some x)(r:Loc X.env.scope x)(o:X.fn x=true\/X.env.scope.names.lookup x=some .local)(w:UY X.K fin)(z:X.calm=true)(B:BlkOk X scope cl Nb cp)(hi:PMI X tg iter mi)(v:∀a d C h f,PMG (Mi.blk X scope cl Nb a d C h f) tg b)
  (t:∀a d C h f,PMT (Mi.blk X scope cl Nb a d C h f) c mt)
  (y:∀a d C h f,PM (Mi.blk X scope cl Nb a d C h f) elt me) (u:∀x,foldedSetIterable iter X.env x=pure x) (l:swapsWith (.ListComp elt [⟨tg,iter,[c],0⟩] scope pos) (some (.Name x pos')) spos.line X.env=pure true) :
  PMS X (.Assign [.Name x pos'] (.ListComp elt [⟨tg,iter,[c],0⟩] scope pos) spos) (QQ i (Qz fin mi cp b mt me)):=
 Vo (Qa1 (g:=tIG X.K b) (te:=tI X.K me) (tt:=tIT X.K mt) hN n r o l z B hi v (fun a d C h f j s p H Q I q=>wpAny_tests_one (t a d C h f j s p H Q I q)) y u) fun _ _ _ q=>Yl w (QaW q)
end
end Mi

namespace Mi
open L2
set_option checkBinderAnnotations false in
noncomputable def ob{b a:Type}[f:b->Option a](x:Option b):Option a:=x.bind f
set_option checkBinderAnnotations false in
noncomputable def om{b a:Type}[f:b->a](x:Option b):Option a:=x.map f
@[simp]theorem Qe5{b c:Type}{a:b}{f:b->Option c}:@ob _ _ f (some a)=f a:=id rfl
@[simp]theorem Qjk{b c:Type}{a:b}{f:b->c}:@om _ _ f (some a)=some (f a):=id rfl
noncomputable def Qjd(b:SM):MF->Option MF
 |.nx σ h=>b σ h
 |r=>some r
section
variable{σ σ':MSt}{h h':MH}{a b:SM}{m ma mb mc:ME}{t u:MT}{ms:MA}{w x y:W}{ws:List W}
@[simp]theorem QjH:Qjd b (.nx σ h)=b σ h:=id rfl
@[simp]theorem Qj4:Qjd b (.rt w h)=some (.rt w h):=id rfl
@[simp]theorem Qln:Qs a b σ h=@ob _ _ (Qjd b) (a σ h):=by
 unfold Qs;refine congrArg (fun c=>@ob _ _ c (a σ h)) (funext fun r=>?_);cases r<;>rfl
@[simp]theorem Qkh:Jf σ h=some (.nx σ h):=id rfl
@[simp]theorem QlS:JX m σ h=@om _ _ (fun p=>.rt p.1 p.2) (m σ h):=id rfl
noncomputable def onB(a b:SM)(σ:MSt)(p:Bool×MH):Option MF:=if p.1=true then a σ p.2 else b σ p.2
@[simp]theorem Qjl(c:Bool):onB a b σ (c,h)=if c=true then a σ h else b σ h:=id rfl
@[simp]theorem Qmg:VM t a b σ h=@ob _ _ (onB a b σ) (t σ h):=by
 unfold VM;refine congrArg (fun d=>@ob _ _ d (t σ h)) (funext fun p=>?_);obtain⟨c,h⟩:=p;cases c<;>rfl
@[simp]theorem QkJ:ZS m σ h=@om _ _ (fun p=>.nx σ p.2) (m σ h):=id rfl
@[simp 500]theorem Qlk{i:Nat}:QQ i m σ h=@om _ _ (fun p=>.nx (σ.set i (some p.1)) p.2) (m σ h):=id rfl
@[simp 1100]theorem Qk8{v0 v1 x:Option W}{r:MSt}:List.set (v0::v1::r) 1 x=v0::x::r:=id rfl
@[simp 1100]theorem Qlp{v0 v1 c x:Option W}{r:MSt}:List.set (v0::v1::c::r) 2 x=v0::v1::x::r:=id rfl
@[simp 1100]theorem Qmc{v0 v1 c d x:Option W}{r:MSt}:List.set (v0::v1::c::d::r) 3 x=v0::v1::c::x::r:=id rfl
@[simp 1100]theorem Qmd{v0 v1 d c v4 x:Option W}{r:MSt}:List.set (v0::v1::d::c::v4::r) 4 x=v0::v1::d::c::x::r:=id rfl
@[simp 1100]theorem Qlu{v0 v1 d c v4 e x:Option W}{r:MSt}:List.set (v0::v1::d::c::v4::e::r) 5 x=v0::v1::d::c::v4::x::r:=id rfl
@[simp 1100]theorem Qmb{v0 v1 e d v4 c v6 x:Option W}{r:MSt}:List.set (v0::v1::e::d::v4::c::v6::r) 6 x=v0::v1::e::d::v4::c::x::r:=id rfl
@[simp 1100]theorem Ql1{v0 v1 e d v4 c v6 f x:Option W}{r:MSt}:List.set (v0::v1::e::d::v4::c::v6::f::r) 7 x=v0::v1::e::d::v4::c::v6::x::r:=id rfl
@[simp 1100]theorem Ql6{v0 v1 f e v4 d v6 c g x:Option W}{r:MSt}:List.set (v0::v1::f::e::v4::d::v6::c::g::r) 8 x=v0::v1::f::e::v4::d::v6::c::x::r:=id rfl
@[simp 1100]theorem Qli{v0 v1 g f v4 e v6 d c i x:Option W}{r:MSt}:List.set (v0::v1::g::f::v4::e::v6::d::c::i::r) 9 x=v0::v1::g::f::v4::e::v6::d::c::x::r:=id rfl
@[simp]theorem Qlh{g:MG}:QjA g m σ h=@ob _ _ (fun p=>@om _ _ (fun c=>.nx c p.2) (g p.1 σ p.2)) (m σ h):=id rfl
@[simp]theorem QhG{o:W}{r:MSt}:Qb 0 (some o::r) h=some (o,h):=id rfl
@[simp]theorem QkM{v0:Option W}{o:W}{r:MSt}:Qb 1 (v0::some o::r) h=some (o,h):=id rfl
@[simp]theorem QkE{v0 v1:Option W}{o:W}{r:MSt}:Qb 2 (v0::v1::some o::r) h=some (o,h):=id rfl
@[simp]theorem Qku{v0 v1 c:Option W}{o:W}{r:MSt}:Qb 3 (v0::v1::c::some o::r) h=some (o,h):=id rfl
@[simp]theorem Qk2{v0 v1 d c:Option W}{o:W}{r:MSt}:Qb 4 (v0::v1::d::c::some o::r) h=some (o,h):=id rfl
@[simp]theorem Qko{v0 v1 d c v4:Option W}{o:W}{r:MSt}:Qb 5 (v0::v1::d::c::v4::some o::r) h=some (o,h):=id rfl
@[simp]theorem Qkz{v0 v1 e d v4 c:Option W}{o:W}{r:MSt}:Qb 6 (v0::v1::e::d::v4::c::some o::r) h=some (o,h):=id rfl
@[simp]theorem QkA{v0 v1 e d v4 c v6:Option W}{o:W}{r:MSt}:Qb 7 (v0::v1::e::d::v4::c::v6::some o::r) h=some (o,h):=id rfl
@[simp]theorem Qkg{v0 v1 f e v4 d v6 c:Option W}{o:W}{r:MSt}:Qb 8 (v0::v1::f::e::v4::d::v6::c::some o::r) h=some (o,h):=id rfl
@[simp]theorem Qkj{v0 v1 g f v4 e v6 d c:Option W}{o:W}{r:MSt}:Qb 9 (v0::v1::g::f::v4::e::v6::d::c::some o::r) h=some (o,h):=id rfl
@[simp 400]theorem Qkw{i:Nat}{o:Option W}{r:MSt}:Qb (i+1) (o::r) h=Qb i r h:=by
 unfold Qb;rw[Ic]
@[simp]theorem s_c:mC w σ h=some (w,h):=id rfl
@[simp 500]theorem Qi7{f:W->W->MH->Option (W×MH)}:Qc f ma mb σ h=@ob _ _ (fun p=>@ob _ _ (fun q=>f p.1 q.1 q.2) (mb σ p.2)) (ma σ h):=id rfl
@[simp]theorem Qmt{f:W->MH->Option (W×MH)}:mUn f ma σ h=@ob _ _ (fun p=>f p.1 p.2) (ma σ h):=id rfl
@[simp]theorem QlT{f:List W->MH->Option (W×MH)}:mFn f ms σ h=@ob _ _ (fun p=>f p.1 p.2) (ms σ h):=id rfl
@[simp]theorem QkF{n:Nat}{g:FM}:QB n g ms σ h=@ob _ _ (fun p=>if p.1.length=n then g p.1 p.2 else none) (ms σ h):=id rfl
@[simp]theorem QiW:Qd σ h=some ([],h):=id rfl
@[simp 600]theorem QkI{f:W->W->MH->Option (W×MH)}:Qc f ma (mC w) σ h=@ob _ _ (fun p=>f p.1 w p.2) (ma σ h):=id rfl
@[simp 600]theorem Qjg:Qa (mC w) ms σ h=@ob _ _ (fun q=>some (w::q.1,q.2)) (ms σ h):=id rfl
@[simp 610]theorem QjP:Qa m Qd σ h=@ob _ _ (fun p=>some ([p.1],p.2)) (m σ h):=id rfl
@[simp 620]theorem QiO:Qa (mC w) Qd σ h=some ([w],h):=id rfl
@[simp 600]theorem QkK{i:Nat}:QQ i (mC w) σ h=some (.nx (σ.set i (some w)) h):=id rfl
@[simp 500]theorem Qgj:Qa m ms σ h=@ob _ _ (fun p=>@ob _ _ (fun q=>some (p.1::q.1,q.2)) (ms σ p.2)) (m σ h):=id rfl
noncomputable def asB(p:W×MH):Option (Bool×MH):=match p.1 with|.bl b=>some (b,p.2)|_=>none
@[simp]theorem Qkq(c:Bool):asB (.bl c,h)=some (c,h):=id rfl
@[simp 500]theorem QkV:Qy m σ h=@ob _ _ asB (m σ h):=id rfl
@[simp]theorem QkX:QbY t σ h=@om _ _ (fun p=>(!p.1,p.2)) (t σ h):=by
 unfold QbY
 first|rfl|(cases t σ h<;>rfl)
noncomputable def QhI(u:MT)(σ:MSt)(p:Bool×MH):Option (Bool×MH):=if p.1=true then u σ p.2 else some (false,p.2)
noncomputable def Qkx(u:MT)(σ:MSt)(p:Bool×MH):Option (Bool×MH):=if p.1=true then some (true,p.2)else u σ p.2
@[simp]theorem Qib(c:Bool):QhI u σ (c,h)=if c=true then u σ h else some (false,h):=id rfl
@[simp]theorem QiJ(c:Bool):Qkx u σ (c,h)=if c=true then some (true,h)else u σ h:=id rfl
@[simp 500]theorem QkQ:Xo t u σ h=@ob _ _ (QhI u σ) (t σ h):=by
 unfold Xo;refine congrArg (fun d=>@ob _ _ d (t σ h)) (funext fun p=>?_);obtain⟨c,h⟩:=p;cases c<;>rfl
@[simp 500]theorem Qlr:QfE t u σ h=@ob _ _ (Qkx u σ) (t σ h):=by
 unfold QfE;refine congrArg (fun d=>@ob _ _ d (t σ h)) (funext fun p=>?_);obtain⟨c,h⟩:=p;cases c<;>rfl
@[simp]theorem Qk7:QiG m σ h=@ob _ _ (fun p=>@om _ _ (fun b=>(b,p.2)) (Qgb p.2 p.1)) (m σ h):=by
 unfold QiG;rfl
@[simp]theorem Qmk{T:String}{f:W->List W->MH->Option (W×MH)}:mMt T f m ms σ h=@ob _ _ (fun p=>if tyW p.2 T p.1=true then@ob _ _ (fun q=>f p.1 q.1 q.2) (ms σ p.2)else none) (m σ h):=id rfl
end
section
variable{h:MH}{i j:Int}{x y:Str}{ws us:List W}{w:W}
@[simp]theorem Qma:QL (.int i) (.int j) h=some (.int (i+j),h):=id rfl
@[simp]theorem QlV:QfC (.int i) (.int j) h=some (.int (i-j),h):=id rfl
@[simp]theorem Qmm:wLt (.int i) (.int j) h=some (.bl (decide (i<j)),h):=id rfl
@[simp]theorem Qml:wGt (.int i) (.int j) h=some (.bl (decide (j<i)),h):=id rfl
@[simp]theorem QlP:QcQ (.int i) h=some (.int (-i),h):=id rfl
@[simp]theorem Qlj(c:0<j):Zu (.int i) (.int j) h=some (.int (i%j),h):=QfM c
@[simp]theorem Qlw(c:0<j)(a:j<1073741824):Jc (.int i) (.int j) h=some (.int (i/j),h):=QfF ⟨c,a⟩
@[simp]theorem Qkv(c:-18446744073709551616<j)(a:j<18446744073709551616):Zj (.int i) (.int j) h=some (.int (i*j),h):=G7 (.inr ⟨c,a⟩)
@[simp]theorem Qkk(c:-18446744073709551616<i)(a:i<18446744073709551616):Zj (.int i) (.int j) h=some (.int (i*j),h):=G7 (.inl ⟨c,a⟩)
theorem Qhh(c:j<1000/\-1000<j/\x.length<1000):Zj (.str x) (.int j) h=some (.str (rep x j),h):=if_pos c
@[simp]theorem QlU:Qga [.int i,.int j] h=some (.int (if j>i then j else i),h):=id rfl
@[simp]theorem QlJ:Qge [.int i,.int j] h=some (.int (if j<i then j else i),h):=id rfl
@[simp]theorem QlQ:Zg ws h=if ws.length<=sizeLine then some (.tup ws,h)else none:=id rfl
@[simp]theorem Qle:JE ws h=if ws.length<=sizeLine then some (.lst ws,h)else none:=id rfl
@[simp]theorem QlA:Yp ws h=if ws.length<=sizeLine then some (.ref h.length,h++[.lst ws])else none:=id rfl
@[simp]theorem Qlo:wIx (.tup ws) (.int i) h=@om _ _ (fun w=>(w,h)) (atI ws i):=id rfl
@[simp]theorem Ql4:wIx (.lst ws) (.int i) h=@om _ _ (fun w=>(w,h)) (atI ws i):=id rfl
@[simp]theorem Qlz:wIx (.frz ws) (.int i) h=@om _ _ (fun w=>(w,h)) (atI ws i):=id rfl
@[simp]theorem Ql2{n:Nat}:wIx (.ref n) (.int i) h=@ob _ _ (fun(ws:List W)=>@om _ _ (fun w=>(w,h)) (atI ws i)) (match h[n]? with|some (.lst ws)=>some ws|_=>none):=id rfl
@[simp]theorem Qkb:ZZ [.tup ws] h=some (.int ws.length,h):=id rfl
@[simp]theorem Qkm:ZZ [.lst ws] h=some (.int ws.length,h):=id rfl
@[simp]theorem QkW:ZZ [.frz ws] h=some (.int ws.length,h):=id rfl
@[simp]theorem Qke{n:Nat}:ZZ [.ref n] h=@om _ _ (fun(ws:List W)=>(.int ws.length,h)) (match h[n]? with|some (.lst ws)=>some ws|_=>none):=id rfl
theorem Zc{a:Type}{xs:List a}{n:Nat}:atI xs (n:Int)=xs[n]?:=by
 cases e:xs[n]? with
 |some x=>exact QaI e
 |none=>
  unfold atI ixN;have:xs.length<=n:=DY.mp e;rw[if_pos (by lia)];rw[if_neg (by lia)];rfl
@[simp]theorem Qmr{a:Type}{xs:List a}:atI xs 0=xs[0]?:=Zc (n:=0)
@[simp]theorem Qmp{a:Type}{xs:List a}:atI xs 1=xs[1]?:=Zc (n:=1)
noncomputable def putAt(o i v:W)(σ:MSt)(h:MH):Option MF:=match o,i with
 |.ref n,.int k=>match h[n]? with
  |some (.lst a)=>@om _ _ (fun j=>.nx σ (h.set n (.lst (a.set j v)))) (ixN a.length k)
  |_=>none
 |_,_=>none
@[simp]theorem Ql0{mo mi mv:ME}{σ:MSt}:Qhf mo mi mv σ h=@ob _ _ (fun v=>@ob _ _ (fun o=>@ob _ _ (fun i=>putAt o.1 i.1 v.1 σ i.2) (mi σ o.2)) (mo σ v.2)) (mv σ h):=id rfl
@[simp]theorem QiZ{n:Nat}{v:W}{σ:MSt}:putAt (.ref n) (.int i) v σ h=match h[n]? with
  |some (.lst xs)=>@om _ _ (fun j=>.nx σ (h.set n (.lst (xs.set j v)))) (ixN xs.length i)
  |_=>none:=id rfl
@[simp]theorem QkZ{w:W}:Qgf (some (.rt w h))=some (w,h):=id rfl
@[simp]theorem QiA{n:Nat}{w:W}:Qx (.ref n) [w] h=match h[n]? with|some (.lst xs)=>if xs.length<sizeLine then some (.non,h.set n (.lst (xs++[w])))else none|_=>none:=id rfl
@[simp]theorem QlN{n:Nat}:QiB (.ref n) [] h=match h[n]? with|some (.lst xs)=>@om _ _ (fun w=>(w,h.set n (.lst xs.dropLast))) (xs[xs.length-1]?)|_=>none:=id rfl
@[simp]theorem Qmh{n:Nat}{T:String}:tyW h T (.ref n)=match h[n]? with|some (.lst _)=>T=="list"|some (.dic _)=>T=="dict"|some (.dct _)=>T=="dict"|none=>false:=id rfl
@[simp]theorem QkP{b:Bool}:Qgb h (.bl b)=some b:=id rfl
@[simp]theorem QiH:Z6 [.lst ws] h=some (.tup ws,h):=id rfl
@[simp]theorem QiC{n:Nat}:Z6 [.ref n] h=@om _ _ (fun(ws:List W)=>(.tup ws,h)) (match h[n]? with|some (.lst ws)=>some ws|_=>none):=id rfl
@[simp]theorem Qmo{c:ME}{a b:MOp}{σ:MSt}:mSl c a b σ h=@ob _ _ (fun p=>@ob _ _ (fun q=>@ob _ _ (fun r=>wSl p.1 q.1 r.1 r.2) (b σ q.2)) (a σ p.2)) (c σ h):=id rfl
@[simp]theorem Qmj{σ:MSt}:YZ σ h=some (none,h):=id rfl
noncomputable def asI(p:W×MH):Option (Option Int×MH):=match p.1 with|.int i=>some (some i,p.2)|_=>none
@[simp]theorem Qjy:asI (.int i,h)=some (some i,h):=id rfl
@[simp]theorem Qmi{m:ME}{σ:MSt}:Xq m σ h=@ob _ _ asI (m σ h):=id rfl
@[simp]theorem Qlv{n:Nat}{lo hi:Option Int}:wSl (.ref n) lo hi h=@om _ _ (fun(ws:List W)=>(.lst (KI ws lo hi),h)) (match h[n]? with|some (.lst ws)=>some ws|_=>none):=id rfl
@[simp]theorem Qd0:QL (.tup ws) (.tup us) h=if ws.length+us.length<=sizeLine then some (.tup (ws++us),h)else none:=id rfl
@[simp]theorem Qaz:QL (.str x) (.str y) h=if x.length+y.length<=sizeLine then some (.str (x++y),h)else none:=id rfl
end
mutual
noncomputable def pln:W->Bool
 |.tup ws=>XD ws
 |.lst ws=>XD ws
 |.frz _=>false
 |.ref _=>false
 |.ty _=>false
 |_=>true
noncomputable def XD:List W->Bool
 |[]=>true
 |w::ws=>pln w&&XD ws
end
mutual
noncomputable def dep:W->Nat
 |.tup ws=>KB ws+1
 |.lst ws=>KB ws+1
 |_=>1
noncomputable def KB:List W->Nat
 |[]=>0
 |w::ws=>max (dep w) (KB ws)
end
mutual
theorem Jw(h:MH):∀(w:W) (n:Nat),pln w=true->dep w<=n->drf h n w=some w
 |.non,n+1,_,_=>rfl
 |.bl _,n+1,_,_=>rfl
 |.int _,n+1,_,_=>rfl
 |.str _,n+1,_,_=>rfl
 |.tup ws,n+1,p,d=>by
  unfold pln at p;unfold dep at d;show(Zt (drf h n) ws).map W.tup=_;rw[Jj h ws n p (by lia)];rfl
 |.lst ws,n+1,p,d=>by
  unfold pln at p;unfold dep at d;show(Zt (drf h n) ws).map W.lst=_;rw[Jj h ws n p (by omega)];rfl
 |.frz _,_,p,_=>by unfold pln at p;cases p
 |.ref _,_,p,_=>by unfold pln at p;cases p
 |.ty _,_,p,_=>by unfold pln at p;cases p
 |.non,0,_,d=>by unfold dep at d;lia
 |.bl _,0,_,d=>by unfold dep at d;omega
 |.int _,0,_,d=>by unfold dep at d;omega
 |.str _,0,_,d=>by unfold dep at d;omega
 |.tup _,0,_,d=>by unfold dep at d;lia
 |.lst _,0,_,d=>by unfold dep at d;omega
theorem Jj(h:MH):∀(ws:List W) (n:Nat),XD ws=true->KB ws<=n->Zt (drf h n) ws=some ws
 |[],_,_,_=>rfl
 |w::ws,n,p,d=>by
  unfold XD at p;unfold KB at d;rw[NX]at p;rw[Zt,Jw h w n p.1 (Nf (L4 _ _) d),Nx,Jj h ws n p.2 (Nf (Nat.le_max_right _ _) d)];rfl
end
mutual
theorem VO:∀(w:W),pln w=true->eqW w w=true
 |.non,_=>by unfold eqW;rfl
 |.bl _,_=>by unfold eqW;simp
 |.int _,_=>by unfold eqW;simp
 |.str _,_=>by unfold eqW;simp
 |.tup ws,p=>by unfold pln at p;unfold eqW;exact XI ws p
 |.lst ws,p=>by unfold pln at p;unfold eqW;exact XI ws p
 |.frz _,p=>by unfold pln at p;cases p
 |.ref _,p=>by unfold pln at p;cases p
 |.ty _,p=>by unfold pln at p;cases p
theorem XI:∀(ws:List W),XD ws=true->X5 ws ws=true
 |[],_=>by unfold X5;rfl
 |w::ws,p=>by
  unfold XD at p;rw[NX]at p;unfold X5;rw[VO w p.1,XI ws p.2];rfl
end
theorem QlY{a b:W}{h:MH}(d:pln a=true)(c:pln b=true)(f:dep a<=40)(e:dep b<=40):wEq a b h=some (.bl (eqW a b),h):=by
 unfold wEq;rw[Jw h a 40 d f,Jw h b 40 c e];rfl
theorem QiN{a b:W}{h:MH}(d:pln a=true)(c:pln b=true)(f:dep a<=40)(e:dep b<=40):wNe a b h=some (.bl (!eqW a b),h):=by
 unfold wNe;rw[Jw h a 40 d f,Jw h b 40 c e];rfl
@[simp]theorem Qjj{i j:Int}{h:MH}:wEq (.int i) (.int j) h=some (.bl (i==j),h):=Qe2 i j h
@[simp]theorem Qi2{x y:Str}{h:MH}:wEq (.str x) (.str y) h=some (.bl (x==y),h):=Qfq x y h
@[simp]theorem Qlq{x y:Str}{h:MH}:wNe (.str x) (.str y) h=some (.bl (!(x==y)),h):=by unfold wNe;simp[drf,eqW]
mutual
theorem KP:∀(w:W),pln w=true->pur w=true
 |.non,_=>rfl
 |.bl _,_=>rfl
 |.int _,_=>rfl
 |.str _,_=>rfl
 |.tup ws,p=>by unfold pln at p;unfold pur;exact ZM ws p
 |.lst ws,p=>by unfold pln at p;unfold pur;exact ZM ws p
 |.frz _,p=>by unfold pln at p;cases p
 |.ref _,p=>by unfold pln at p;cases p
 |.ty _,p=>by unfold pln at p;cases p
theorem ZM:∀(ws:List W),XD ws=true->ZD ws=true
 |[],_=>rfl
 |w::ws,p=>by
  unfold XD at p;rw[NX]at p;unfold ZD;rw[KP w p.1,ZM ws p.2];rfl
end
mutual
theorem Qab(f:Nat->Option W):∀(w:W),pur w=true->th f w=some w
 |.non,_=>rfl
 |.bl _,_=>rfl
 |.int _,_=>rfl
 |.str _,_=>rfl
 |.ty _,_=>rfl
 |.tup ws,p=>by unfold pur at p;unfold th;rw[ZR f ws p];rfl
 |.lst ws,p=>by unfold pur at p;unfold th;rw[ZR f ws p];rfl
 |.frz ws,p=>by unfold pur at p;unfold th;rw[ZR f ws p];rfl
 |.ref _,p=>by unfold pur at p;cases p
theorem ZR(f:Nat->Option W):∀(ws:List W),ZD ws=true->ths f ws=some ws
 |[],_=>rfl
 |w::ws,p=>by
  unfold ZD at p;rw[NX]at p;unfold ths;rw[Qab f w p.1,ZR f ws p.2];rfl
end
theorem ZE{m:FM}{ws:List W}{w:W}{g h:MH}(b:ZD ws=true)(e:m ws []=some (w,g))(hw:pur w=true):box frN m ws h=some (w,h):=by
 have hr:XB 0 ws=some (ws,[]):=by
  generalize 0=k;clear e
  induction ws with
  |nil=>rfl
  |cons a r c=>
   unfold ZD at b;rw[NX]at b;have:=c b.2;cases a<;>first|(unfold pur at b;cases b.1;done)|(unfold XB;rw[if_pos b.1,this];rfl)
 unfold box;rw[hr,Nx];unfold QfQ;rw[if_pos Er];simp only[Zt,Nx,e,frN,L5,List.range_zero];rw[if_pos ⟨Er,by simp⟩,Qab _ w hw];simp[QD]
theorem Qci{m:FM}{ws vs:List W}{o o':MO}{n j:Nat}{g h:MH}(b:ZD ws=true)(s:h[n]?=some o)(q:Qgc o=true)(e:m (.ref 0::ws) [o]=some (.ref (j+1),o'::g))(t:g[j]?=some (.lst vs))(p:ZD vs=true)(i:∃us,o'=.lst us/\ZD us=true):box frN m (.ref n::ws) h=some (.lst vs,h.set n o'):=by
 obtain⟨us,rfl,c⟩:=i
 have hr:∀k,XB k ws=some (ws,[]):=by
  clear e
  induction ws with
  |nil=>intro k;rfl
  |cons a r l=>
   intro k;unfold ZD at b;rw[NX]at b;have:=l b.2 k;cases a<;>first|(unfold pur at b;cases b.1;done)|(unfold XB;rw[if_pos b.1,this];rfl)
 unfold box
 have d:XB 0 (.ref n::ws)=some (.ref 0::ws,[n]):=by
  unfold XB;rw[hr];rfl
 rw[d,Nx];unfold QfQ;rw[if_pos (by simp)];have f:QeB h n=some o:=by unfold QeB;rw[s];simp[q]
 simp only[Zt,f,Nx,Fp,e,frN,Ec];rw[if_pos ⟨Er,by simp⟩]
 have:th (res (Vy [n] [] h.length) (.lst us::g) 3) (.ref (j+1))=some (.lst vs):=by
  unfold th res;simp only[Vy,Ic,List.getElem?_nil,List.findIdx?_nil,YaO,t];rw[ZR _ vs p];rfl
 rw[this];simp[QD,DP,Zt,thO,ZR _ us c]
theorem Wu{m:FM}{args as:List W}{ns:List Nat}{os os':List MO}{g h:MH}{w w':W}(hr:XB 0 args=some (as,ns))(hd:ns.Nodup)(r:Zt (QeB h) ns=some os)(e:m as os=some (w,os'++g))(s:os'.length=ns.length)
  (c:∀o∈os',∃us,o=.lst us/\ZD us=true) (hw:th (res (Vy ns [] h.length) (os'++g) 3) w=some w'):box frN m args h=some (w',QD ns os' h):=by
 unfold box;rw[hr,Nx];unfold QfQ;rw[if_pos hd,r];simp only[Nx,e];rw[if_pos (show(frN w).Nodup/\∀j∈frN w,ns.length<=j from⟨Er,fun j t=>by simp[frN]at t⟩)];show(th (res (Vy ns [] h.length) (os'++g) 3) w).bind _=_;rw[hw,Nx];show(Zt (fun j=>((os'++g)[j]?).bind (thO (res (Vy ns [] h.length) (os'++g) 3))) (List.range ns.length)).bind (fun os=>(Zt (fun j=>((os'++g)[j]?).bind (thO (res (Vy ns [] h.length) (os'++g) 3))) []).map fun us=>(w',QD ns os h++us))=_
 have:Zt (fun j=>((os'++g)[j]?).bind (thO (res (Vy ns [] h.length) (os'++g) 3))) (List.range ns.length)=some os':=by
  rw[<-s]
  have key:∀(k:Nat) (a:List MO),(∀i o,a[i]?=some o->(os'++g)[k+i]?=some o)->(∀o∈a,∃us,o=.lst us/\ZD us=true)->Zt (fun j=>((os'++g)[j]?).bind (thO (res (Vy ns [] h.length) (os'++g) 3))) (List.range' k a.length)=some a:=by
   intro k a
   induction a generalizing k with
   |nil=>intro _ _;rfl
   |cons x a n=>
    intro f d;obtain⟨us,hu,q⟩:=d x Nz;rw[El,LN];unfold Zt;have l:=f 0 x rfl;rw[FY]at l;rw[l,Nx,n (k+1) (fun i o b=>by have:=f (i+1) o (by simpa using b);rw[show k+1+i=k+(i+1) by exact Fq _ _ _];exact this) fun o p=>d o (Nw _ p),hu];show((ths _ us).map MO.lst).bind _=_;rw[ZR _ us q];rfl
  rw[List.range_eq_range'];exact key 0 os' (fun i o b=>by rw[NJ,NP (Nm.mp b).1];exact b) c
 rw[this];simp[Zt]
theorem XC{fin:List W->MH->Option (W×MH)}{mi:MI}{cp:List (Option Nat)}{me:ME}{σ caps:MSt}{h:MH}{items:List W}(f:W->W)(hi:mi σ h=some (items,none,h))(a:∃o,Qbh cp σ=o::caps)(c:∀w∈items,me (some w::caps) h=some (f w,h))(b:items.length<=sizeLine) :
  Qz fin mi cp (QF 0) Vn me σ h=fin (items.map f) h:=by
 obtain⟨o,a⟩:=a;unfold Qz;rw[hi,Nx];simp only[a];rw[Z2 (p:=fun _=>true) (f:=f) items [] o (fun _ _=>rfl) (fun w hw _=>c w hw) (by simpa using b),List.filter_eq_self.mpr (fun _ _=>rfl)];rfl
theorem Qby{fin:List W->MH->Option (W×MH)}{mi:MI}{cp:List (Option Nat)}{mt:MT}{me:ME}{σ caps:MSt}{h:MH}{items:List W}(f:W->W)(p:W->Bool)(hi:mi σ h=some (items,none,h))(a:∃o,Qbh cp σ=o::caps)(b:∀w∈items,mt (some w::caps) h=some (p w,h))(d:∀w∈items,p w=true->me (some w::caps) h=some (f w,h))(c:items.length<=sizeLine) :
  Qz fin mi cp (QF 0) mt me σ h=fin ((items.filter p).map f) h:=by
 obtain⟨o,a⟩:=a;unfold Qz;rw[hi,Nx];simp only[a];rw[Z2 (p:=p) (f:=f) items [] o b d (by simpa using c)];simp
theorem QV{items:List W}{b:MG}{body:SM}(P:Nat->MSt->MH->Prop):∀(r:List W) (n:Nat) (σ:MSt) (h:MH),P n σ h ->
  (∀(j:Nat) (w:W),r[j]?=some w->∀σ h,P (n+j) σ h->∃c,b w σ h=some c/\∃a f,(body c h=some (.nx a f)\/body c h=some (.ct a f))/\P (n+j+1) a f) ->
  ∃d h',VS items none b body r σ h=some (.nx d h')/\P (n+r.length) d h'
 |[],n,σ,h,e,_=>⟨σ,h,Qda,e⟩
 | w::r,n,σ,h,e,i=>by
  obtain⟨c,q,a,f,g,m⟩:=i 0 w rfl σ h e
  obtain⟨d,h',p,l⟩:=QV (items:=items) (b:=b) (body:=body) P r (n+1) a f m fun j x o σ h e=>by
   have:=i (j+1) x (by simpa using o) σ h (by rw[show n+(j+1)=n+1+j by lia];exact e);rw[show n+(j+1)+1=n+1+j+1 by exact Fq _ _ _]at this;exact this
  refine⟨d,h',?_,by rw[El,show n+(r.length+1)=n+1+r.length by lia];exact l⟩;rw[VS,if_pos (JA _ _),q,Nx]
  rcases g with g|g<;>rw[g]<;>exact p
noncomputable def eqS(y:Str)(p:W×MH):Option (Bool×MH):=@ob _ _ asB (wEq p.1 (.str y) p.2)
noncomputable def eqN(j:Int)(p:W×MH):Option (Bool×MH):=@ob _ _ asB (wEq p.1 (.int j) p.2)
@[simp 650]theorem QkU{a:ME}{σ:MSt}{h:MH}{y:Str}:Qy (Qc wEq a (mC (.str y))) σ h=@ob _ _ (eqS y) (a σ h):=by
 unfold Qy Qc mC eqS ob;cases a σ h<;>rfl
@[simp 650]theorem QkT{a:ME}{σ:MSt}{h:MH}{j:Int}:Qy (Qc wEq a (mC (.int j))) σ h=@ob _ _ (eqN j) (a σ h):=by
 unfold Qy Qc mC eqN ob;cases a σ h<;>rfl
@[simp]theorem Qjb{x y:Str}{h:MH}:eqS y (.str x,h)=some (x==y,h):=by unfold eqS;rw[Qi2];rfl
@[simp]theorem Qj7{i j:Int}{h:MH}:eqN j (.int i,h)=some (i==j,h):=by unfold eqN;rw[Qjj];rfl
end Mi

namespace Mi
open L2
noncomputable def UJ(ws:List W)(h:MH):Option (W×MH):=match ws with
 |[.tup ws]=>some (.ref h.length,h++[.lst ws])
 |[a]=>(lsW h a).map fun ws=>(.ref h.length,h++[.lst ws])
 |_=>none
noncomputable def QlI(a:W)(ws:List W)(h:MH):Option (W×MH):=match a,ws with
 |.ref n,[.int 0]=>match h[n]? with|some (.lst (x::b))=>some (x,h.set n (.lst b))|_=>none
 |_,_=>none
section
variable{X:Cx}
theorem Wh:CallR X (.type "list") (Fs X.K UJ):=by
 intro d s u H a x Q I r q;refine Xk d s u H a x Q I r ?_;obtain⟨R,h,D,w,E,f,rw,e,k⟩:=q;unfold UJ at e;split at e
 ·cases e;obtain⟨v,rfl,l⟩:=XO rw;obtain⟨ad,a,rfl,m,j⟩:=f.tupAt l;refine⟨ad,a,rfl,.inr m,fun p n=>?_⟩;obtain⟨t,g,c,b⟩:=f.new (mo:=.lst _) (o:=.lst a) n fun B i=>⟨a,rfl,Rws.mono i _ _ j⟩
  exact k t _ _ g c b
 ·obtain⟨C,A,z⟩:=Nk.mp e;cases z;obtain⟨v,rfl,l⟩:=XO rw;obtain⟨ad,a,rfl,m,j⟩:=f.lsAt l A;refine⟨ad,a,rfl,.inl m,fun p n=>?_⟩;obtain⟨t,g,c,b⟩:=f.new (mo:=.lst _) (o:=.lst a) n fun B i=>⟨a,rfl,Rws.mono i _ _ j⟩
  exact k t _ _ g c b
 ·cases e
end
end Mi
namespace Mi
open L2
theorem Qaf{X:Cx}{st:List Stmt}:QbV X st fun _ _=>none:=fun a s c H D I q=>by
 obtain⟨R,b,h,r,d,st,e,k⟩:=q;cases e
end Mi
namespace Mi
open L2
section
open PySem.AutoSeq1
theorem Gc(l:Addr)(c:Array Value)(n:Nat)(b:Addr)(a:Array Value)(r:Nat)(e:Obj)(u:e.cls=.type "tuple")(hd:e.data=.seq a r)(t:¬(!c.isEmpty&&Builtin.List.listTooLong (c.size+a.size))=true)(j:c.size<=sizeLine)(i:c.size+a.size<=sizeLine+1) :
  Meets (Builtin.«list.extend» ⟨[.ref l,.ref b],[]⟩) (fun _ R s=>s.heap.get? l=some { cls:=.type "list",dict:=none,data:=.seq c n,slots:=#[] }/\s.heap.get? b=some e /\
   R (.ok (.ret Value.none)) { s with heap:=s.heap.update l (Obj.mapSeq fun x=>x++a),toks:=s.toks }):=
 .of_wp fun m w A R s h=>by
  obtain⟨I,H,y,q⟩:=e;subst u hd;obtain⟨C,g,d,z,os⟩:=s;obtain⟨o,v,h⟩:=h;have f1:=idx_int;have f2:=LO;have G:=AutoSeq1.sub_list_list;have E:=AutoSeq1.sub_tuple_list;have D:=AutoSeq1.sub_list_tuple;have f:(c++a).size<=sizeLine+1:=by rw[Array.size_append];exact i
  wp_walk using(L6 o rfl (hz:=j) (_hz':=f)),E9 o,E9 v
  exact⟨_,rfl,h⟩
end
section
variable{X:Cx}
theorem U4:MtM X "list.extend" (fun x vs H Q=>∃l b xs g,x=.ref l/\vs=[.ref b]/\H l=some (.lst xs)/\SqT X.K H b g/\xs.length+g.length<=sizeLine/\Q .non (upd H l (.lst (xs++g)))):=by
 intro j s N H x vs v O Q I t w h;obtain⟨l,b,xs,g,rfl,rfl,p,L,C,q⟩:=h;cases t;obtain⟨u,rfl,y⟩:=w.one;cases y;obtain⟨z,c,n,r,E,e⟩:=I.lstM p;obtain⟨a,i,⟨A,M,G,B,hd⟩,D⟩:=I.tuple L;have o:=i.length;have f:c.toArray.size+a.toArray.size<=sizeLine:=by rw[Nt,Nt];lia
 have d:¬(!c.toArray.isEmpty&&Builtin.List.listTooLong (c.toArray.size+a.toArray.size))=true:=by
  rw[UC f,D3];exact Eb
 refine FJ DM ⟨_,e,rfl⟩ O4 (OI _ _)
  (Gc l c.toArray n b a.toArray B A G hd d (by rw[Nt];exact Nf (Nq E.symm) z) (Nf f (Np _ _))) ⟨e,M,?_⟩
 refine⟨.non,_,I.lset (its':=c++a) p e (by simp) (r.append i) ?_,rfl,q⟩;rw[Nv];exact C
noncomputable def Jn(a:W)(ws:List W)(h:MH):Option (W×MH):=match a,ws with
 |.ref n,[.tup b]=>match h[n]? with|some (.lst c)=>if c.length+b.length<=sizeLine then some (.non,h.set n (.lst (c++b)))else none|_=>none
 |_,_=>none
theorem XR:QbW X "list.extend" Jn:=by
 intro b s j H x o v p Q I t u q;refine U4 b s j H x o v p Q I t u ?_;obtain⟨R,h,a,M,w,N,d,z,c,e,k⟩:=q;unfold Jn at e;split at e
 ·rename_i n G;split at e
  ·rename_i L A;split at e
   ·rename_i B;cases e;obtain⟨f,rfl,m,D,i⟩:=d.refAt z A;obtain⟨y,rfl,r⟩:=XO c;obtain⟨E,l,rfl,C,g⟩:=d.tupAt r;refine⟨_,E,m,l,rfl,rfl,D,C,by rw[<-i.length,<-g.length];exact B,?_⟩;exact k R _ _ (Ext.refl _) (d.put f ⟨_,rfl,Rws.append i g⟩) Rw.non
   ·cases e
  ·cases e
 ·cases e
end
end Mi

namespace L2
noncomputable def RawD(h:Heap)(d:Addr)(es:Array DictEntry)(ep:Nat):Prop:=∃o,h.get? d=some o/\o.ExactDict/\o.data=.dict es ep
theorem RawD.typeIs{s:Shared}{d:Addr}{es:Array DictEntry}{ep:Nat}(m:RawD s.heap d es ep):s.TypeIs (.ref d) "dict":=let⟨o,a,b,_⟩:=m;⟨o,a,b.1⟩
theorem RawD.lt{h:Heap}{d:Addr}{es:Array DictEntry}{ep:Nat}(m:RawD h d es ep):d<h.objs.size:=let⟨_,a,_⟩:=m;ND a
theorem RawD.at{h h':Heap}{d:Addr}{es:Array DictEntry}{ep:Nat}(m:RawD h d es ep)(k:∀o,h.get? d=some o->h'.get? d=some o):RawD h' d es ep:=let⟨o,a,r⟩:=m;⟨o,k o a,r⟩
section
variable{prog:Program}{w:World}{A:Around}{E:Value->Shared->Prop}{s:Shared}{it d:Addr}{es:Array DictEntry}{i ep:Nat}
theorem WU{Q:Value->Shared->Prop}(hd:(d==sysModules)=false)(m:RawD s.heap d es ep)
  (q:Q (.ref s.heap.objs.size) { s with heap:=s.heap.push { cls:=.type "dict_keyiterator",data:=.fields #[.ref d,.int 0 0,.int es.size 0,.int ep 0] } }):wpAny (model prog w) A (pyIter (.ref d)) Q E s:=by
 have a:=m.typeIs;obtain⟨o,c,e,b⟩:=m;refine Lz a Oe (Ef Oe a PySem.F.entry_dict_iter ?_ (PySem.F.args_dict_iter_1 _));unfold Builtin.«dict.__iter__» Builtin.Dict.dictSlotNone;refine Na (Na (IA a ?_));refine(show wpAny _ _ (pure (Value.ref d)) _ _ s from Nj ?_);refine(show wpAny _ _ (Builtin.Dict.showsAll d>>=_) _ _ s from ?_);unfold Builtin.Dict.showsAll;rw[if_neg (by rw[hd];exact Eb)];refine Na (Nj (Na (Ii c b (Na (L7 c b ?_)))));refine Na (Eh (Nj ⟨_,rfl,"dict_keyiterator",_,⟨_,NA _ rfl,rfl⟩,ER.lookup,?_⟩));simpa[rawInt]using q
theorem WS{Q:Option Value->Shared->Prop}(hit:s.heap.IsKeyIter it d i es.size ep)(m:RawD s.heap d es ep)(f:i<es.size)
  (j:∀h',h'.IsKeyIter it d (i+1) es.size ep->Heap.SameBut it s.heap h'->Q (some es[i].key) { s with heap:=h' }):wpAny (model prog w) A (pyNext (.ref it)) Q E s:=by
 obtain⟨o,e,h,hd⟩:=id hit;obtain⟨l,b,g,c⟩:=id m;unfold pyNext;refine Na (Iv (Ey (name:=Str.ofString "__next__") hit.typeIs ER (Ef ER hit.typeIs F9 ?_ (FZ _))));refine Na (Nj (Na (Na ?_)))
 first|refine Na (DE hit.typeIs (Nj (Na (FA e hd ?_))))|refine Na (D8 hit.typeIs (Nj (Na (FA e hd ?_))))
 simp only[show IV "dict_keyiterator"=false by decide,NT,if_false];refine(show wpAny _ _ (if(Value.ref d==Value.none)=true then _ else _) _ _ s from ?_);rw[if_neg (show¬((Value.ref d==Value.none)=true)from Eb)];refine Na (Nj (Na (Ii b c ?_)));rw[if_neg (by simp)];refine Na (Nj (Na (L7 b c ?_)));rw[if_neg (by simp)];refine Nj ?_;simp only[show¬((i:Int)<0)from by lia,if_false,Ez,NI f];refine Na ?_
 first|refine Na (DE hit.typeIs (Nj (Na (IB hit.typeIs ?_))))|refine Na (D8 hit.typeIs (Nj (Na (IB hit.typeIs ?_))))
 refine(show wpAny _ _ (setField (.ref it) 1 (rawInt ((i:Int)+1))>>=_) _ _ s from Na (Dd e hd (by simp) ?_))
 have a:(s.heap.update it (Obj.mapFields (·.setIfInBounds 1 (rawInt ((i:Int)+1))))).IsKeyIter it d (i+1) es.size ep:=
  ⟨_,Ei _ e (Os (F0 hd _)),(Yat ..).trans h,by rw[F0 hd];simp[rawInt]⟩
 refine Na (N8 (Na (IB (s:={ s with heap:=s.heap.update it (Obj.mapFields (·.setIfInBounds 1 (rawInt ((i:Int)+1)))) }) a.typeIs ?_)));refine(show wpAny _ _ (pure es[i].key) _ _ _ from ?_);exact Nj (Nj ⟨_,rfl,Nj (j _ a (NR ..))⟩)
theorem QbC{Q:Option Value->Shared->Prop}(g:A.handled=none)(hit:s.heap.IsKeyIter it d es.size es.size ep)(m:RawD s.heap d es ep)
  (j:∀h',Heap.ExtBut it s.heap h'->Q none { s with heap:=h' }):wpAny (model prog w) A (pyNext (.ref it)) Q E s:=by
 obtain⟨o,f,n,hd⟩:=id hit;obtain⟨l,c,h,e⟩:=id m;unfold pyNext;refine Na (Iv (Ey (name:=Str.ofString "__next__") hit.typeIs ER (Ef ER hit.typeIs F9 ?_ (FZ _))));refine Na (Nj (Na (Na ?_)))
 first|refine Na (DE hit.typeIs (Nj (Na (FA f hd ?_))))|refine Na (D8 hit.typeIs (Nj (Na (FA f hd ?_))))
 simp only[show IV "dict_keyiterator"=false by decide,NT,if_false];refine(show wpAny _ _ (if(Value.ref d==Value.none)=true then _ else _) _ _ s from ?_);rw[if_neg (show¬((Value.ref d==Value.none)=true)from Eb)];refine Na (Nj (Na (Ii c e ?_)));rw[if_neg (by simp)];refine Na (Nj (Na (L7 c e ?_)));rw[if_neg (by simp)];refine Nj ?_;simp only[show¬((es.size:Int)<0)from by lia,if_false,Ez,Ip (Nu es.size)];refine Na ?_
 first|refine Na (DE hit.typeIs (Nj ?_))|refine Na (D8 hit.typeIs (Nj ?_))
 refine(show wpAny _ _ (setField (.ref it) 0 .none>>=_) _ _ s from Na (Dd f hd (by simp) ?_));refine(show wpAny _ _ (newExc (.type "StopIteration") []>>=_) _ _ _ from Na ?_);simp only[newExc,newTuple];refine Na (Eh ?_ (by size_fits));refine Na (m:=firstArgMember _ _) (Of (a:=Value.none) (by first|rfl|(simp only[firstArgMember];rfl)) ?_);refine Eh ?_ (by size_fits);simp only[raiseNew];refine Na (O0 ?_);rw[show A.in1.handled=none from g];refine Na (Nj (wpAny_throw ?_));refine Na (Ix (b:=true) (T:="StopIteration") ⟨_,NA _ rfl,rfl⟩ isSubtype_stop ?_);exact Nj (j _ (((NR ..).extBut.push _).push _))
theorem GK(q:A.handled=none)(I d:Addr)(j:d≠I)(es:Array DictEntry)(ep:Nat) :
  Walks prog w A I [I,d] [I] es.size (fun i v=>∃e,es[i]?=some e/\v=e.key) (fun i h=>h.IsKeyIter I d i es.size ep/\RawD h d es ep) where
 sub:=fun b a=>by simp at a;simp[a]
 frame:=fun _ _ _ st n=>⟨st.1.at fun o e=>n I (by simp) o e,st.2.at fun o e=>n d (by simp) o e⟩
 item:=fun i s Q E p st g=>WS st.1 st.2 p fun m f c=>
  g _ m s.toks ⟨es[i],NI p,rfl⟩ ⟨f,st.2.at fun o e=>(c.2 d j).trans e⟩ fun b o a e=>c.extBut b o (fun h=>a (by simp[h])) e
 done:=fun s Q E st g=>QbC q st.1 st.2 fun m l=>g m s.toks fun b o a e=>l b o (fun h=>a (by simp[h])) e
 self:=fun _ _ _ _ st g=>OJ st.1 g
theorem Qfk(lo:(d==sysModules)=false):PySem.W.KdlSrc prog w "dict" d d es.size (fun i v=>∃e,es[i]?=some e/\v=e.key) (fun h=>RawD h d es ep) where
 type:=fun _ m=>m.typeIs
 there:=fun _ m=>⟨m.lt,m.lt⟩
 keep:=fun _ _ m k=>m.at fun o e=>k d (.inl rfl) o e
 notList:=by decide
 notTuple:=by decide
 hint:=fun _ _ _ _ m q=>PySem.W.kdl_hint_dict m.typeIs q
 iter:=fun _ _ a m=>⟨_,_,(fun _ _ q=>WU lo m q),GK a _ d (NS m.lt) es ep,⟨⟨_,NA _ rfl,rfl,rfl⟩,m.at fun o e=>Nn _ e⟩⟩
end
end L2

namespace Mi
open L2
noncomputable def TrH(K:Nh)(H:Hp):Nat->Tr->V->Prop
 |0,_,_=>False
 |_+1,.i k,v=>v=.int k\/∃b:Bool,v=.bl b/\k=if b then 1 else 0
 |_+1,.s x,v=>v=.str x
 |n+1,.t ks,v=>∃a xs,v=.ref a/\SqT K H a xs/\Paired (TrH K H n) ks xs
theorem Qas{j i h:Type}{F:j->i->Prop}{G:i->h->Prop}{M:j->h->Prop}(f:∀a b c,F a b->G b c->M a c):∀{g:List j} {e:List i} {d:List h},Paired F g e->Paired G e d->Paired M g d
 |_,_,_,.nil,.nil=>.nil
 |_,_,_,.cons a s,.cons b t=>.cons (f _ _ _ a b) (Qas f s t)
section
variable{X:Cx}{pins:List (Addr×Obj)}{σ:L2.St}{H:Hp}{s:Shared}
theorem Qeu(I:Inv X pins σ H s):∀{n:Nat} (k:Tr) (v:V) (u:Value),TrH X.K H n k v->RelV v u->IsT s.heap n k u
 |0,_,_,_,x,_=>x.elim
 |n+1,.i k,v,u,x,r=>by
  rcases x with rfl|⟨b,rfl,f⟩
  ·exact .inl r
  ·exact .inr ⟨b,r,f⟩
 |n+1,.s y,v,u,x,r=>by
  cases(show v=.str y from x);exact r
 |n+1,.t ks,v,u,x,r=>by
  obtain⟨a,xs,rfl,q,p⟩:=x;obtain⟨c,d,e,_⟩:=I.tuple q;cases(show u=Value.ref a from r);exact⟨a,c.toArray,rfl,e,by simpa using Qas (fun k v u h g=>Qeu I k v u h g) p d⟩
end
section
variable{K:Nh}{R:Rn}{h:MH}{H:Hp}
theorem QgY(l:Rh K R h H):∀(n:Nat) (w:W) (v:V) (k:Tr),Rw K R w v->KN n w=some k->TrH K H n k v
 |0,_,_,_,_,e=>by simp[KN]at e
 | n+1,w,v,k,r,e=>by
  cases w with
  |int i=>simp only[KN]at e;cases e;exact .inl r.int_eq
  |bl b=>simp only[KN]at e;cases e;exact .inr ⟨b,r.bl_eq,rfl⟩
  |str x=>simp only[KN]at e;cases e;exact r.str_eq
  | tup ws=>
   simp only[KN]at e;obtain⟨ks,f,g⟩:=Nk.mp e;subst g;obtain⟨a,j,rfl,q,d⟩:=l.tupAt r;refine⟨a,j,rfl,q,?_⟩;clear e r q
   induction ws generalizing ks j with
   |nil=>
    rw[Rws.nil_iff]at d;subst d;rw[Ll]at f;cases(show some []=some ks from f);exact .nil
   |cons x ws t=>
    rw[Fz]at f;obtain⟨m,z,g⟩:=Nc.mp f;obtain⟨c,u,A⟩:=Nc.mp g;cases(show some (m::c)=some ks from A);rw[Rws.cons_iff]at d;obtain⟨y,o,rfl,s,p⟩:=d;exact .cons (QgY l n x y m s z) (t c u o p)
  |_=>simp[KN]at e
theorem GF(a:Rh K R h H){w:W}{v:V}{k:Tr}(r:Rw K R w v)(e:nrm w=some k):TrH K H 8 k v:=by
 cases w with
 |tup b=>exact QgY a 8 _ v k r e
 |_=>cases e
theorem Qfm(b:Rh K R h H){w:W}{v:V}{k:Tr}(r:Rw K R w v)(e:nrm w=some k):∃a,v=.ref a:=by
 cases w with
 |tup d=>obtain⟨a,c,rfl,_⟩:=b.tupAt r;exact⟨a,rfl⟩
 |_=>cases e
end
noncomputable def VG(kvs:List (W×W))(k:Tr):Option W:=(kvs.find? fun p=>decide (nrm p.1=some k)).map (·.2)
noncomputable def Yq(kvs:List (W×W))(k:Tr)(kw v:W):List (W×W):=if(VG kvs k).isSome=true then kvs.map (fun p=>if nrm p.1=some k then(p.1,v)else p)else kvs++[(kw,v)]
noncomputable def Wj(kx:List (Tr×Addr×V))(k:Tr):Option V:=(kx.find? fun p=>decide (p.1=k)).map (·.2.2)
noncomputable def Qdq(kx:List (Tr×Addr×V))(k:Tr)(b:Addr)(v:V):List (Tr×Addr×V):=if(Wj kx k).isSome=true then kx.map (fun p=>if p.1=k then(p.1,p.2.1,v)else p)else kx++[(k,b,v)]
noncomputable abbrev DctR(K:Nh)(R:Rn):List (W×W)->List (Tr×Addr×V)->Prop:=Paired fun p q=>Rw K R p.1 (.ref q.2.1)/\nrm p.1=some q.1/\Rw K R p.2 q.2.2
noncomputable abbrev Qdx:List (Tr×Addr×V)->List (Tr×Addr×Value)->Prop:=Paired fun p q=>p.1=q.1/\p.2.1=q.2.1/\RelV p.2.2 q.2.2
section
variable{K:Nh}{R:Rn}
theorem V9{k:Tr}:∀{kvs:List (W×W)} {kx:List (Tr×Addr×V)},DctR K R kvs kx->(VG kvs k=none/\Wj kx k=none)\/∃w v,VG kvs k=some w/\Wj kx k=some v/\Rw K R w v
 |_,_,.nil=>.inl ⟨rfl,rfl⟩
 | p::ps,q::b,.cons h t=>by
  by_cases e:q.1=k
  ·have a:nrm p.1=some k:=by rw[h.2.1,e]
   exact .inr ⟨p.2,q.2.2,by simp[VG,NW,a],by simp[Wj,NW,e],h.2.2⟩
  ·have a:¬nrm p.1=some k:=by rw[h.2.1];exact fun z=>e (Eg z)
   have d:VG (p::ps) k=VG ps k:=by simp only[VG,NW,a,decide_false]
   have c:Wj (q::b) k=Wj b k:=by simp only[Wj,NW,e,decide_false]
   rcases V9 (k:=k) t with z|⟨w,v,i,g,f⟩
   ·exact .inl ⟨d.trans z.1,c.trans z.2⟩
   ·exact .inr ⟨w,v,d.trans i,c.trans g,f⟩
theorem QcF{k:Tr}{kvs:List (W×W)}{kx:List (Tr×Addr×V)}(d:DctR K R kvs kx):(VG kvs k).isSome=(Wj kx k).isSome:=by
 rcases V9 (k:=k) d with z|⟨w,v,b,a,_⟩
 ·rw[z.1,z.2];rfl
 ·rw[b,a];rfl
theorem QbF{k:Tr}{kw w:W}{b:Addr}{v:V}{kvs:List (W×W)}{kx:List (Tr×Addr×V)}(d:DctR K R kvs kx)(rk:Rw K R kw (.ref b))(a:nrm kw=some k)(r:Rw K R w v):DctR K R (Yq kvs k kw w) (Qdq kx k b v):=by
 unfold Yq Qdq;rw[QcF d];split
 ·rename_i f;clear f rk a
  induction d with
  |nil=>exact .nil
  |@cons p q ps g h t c=>
   rw[NC,NC];refine .cons ?_ c
   by_cases e:q.1=k
   ·rw[if_pos e,if_pos (by rw[h.2.1,e])];exact⟨h.1,h.2.1,r⟩
   ·rw[if_neg e,if_neg (by rw[h.2.1];exact fun z=>e (Eg z))];exact h
 ·exact YaB d ⟨rk,a,r⟩
theorem Ke{k:Tr}:∀{kx:List (Tr×Addr×V)} {xs:List (Tr×Addr×Value)},Qdx kx xs->RelO (Wj kx k) ((atKey xs k).map (·.2))
 |_,_,.nil=>True.intro
 | p::ps,q::a,.cons h t=>by
  have f:=Ke (k:=k) t
  by_cases e:p.1=k
  ·have b:q.1=k:=h.1.symm.trans e;have d:Wj (p::ps) k=some p.2.2:=by simp[Wj,NW,e]
   have c:atKey (q::a) k=some q.2:=by simp[atKey,NW,b]
   rw[d,c];exact h.2.2
  ·have b:¬q.1=k:=fun z=>e (h.1.trans z);have d:Wj (p::ps) k=Wj ps k:=by simp only[Wj,NW,e,decide_false]
   have c:atKey (q::a) k=atKey a k:=by simp[atKey,NW,b]
   rw[d,c];exact f
theorem Qcd{k:Tr}{kx:List (Tr×Addr×V)}{xs:List (Tr×Addr×Value)}(d:Qdx kx xs):(Wj kx k).isSome=(atKey xs k).isSome:=by
 have:=(Ke (k:=k) d).isSome_eq;rwa[Yau]at this
theorem Qbv{k:Tr}{b:Addr}{v:V}{u:Value}{kx:List (Tr×Addr×V)}{xs:List (Tr×Addr×Value)}(d:Qdx kx xs)(r:RelV v u):Qdx (Qdq kx k b v) (storedH xs k b u):=by
 unfold Qdq storedH;rw[Qcd d];split
 ·rename_i c;clear c
  induction d with
  |nil=>exact .nil
  |@cons p q ps f h t a=>
   rw[NC,NC];refine .cons ?_ a;unfold PySem.putAt
   by_cases e:p.1=k
   ·rw[if_pos e,if_pos (h.1.symm.trans e)];exact⟨h.1,h.2.1,r⟩
   ·rw[if_neg e,if_neg (fun z=>e (h.1.trans z))];exact h
 ·exact YaB d ⟨rfl,rfl,r⟩
theorem UH{kx:List (Tr×Addr×V)}{k:Tr}{b:Addr}{v:V}:(Qdq kx k b v).length<=kx.length+1:=by
 unfold Qdq;split
 ·rw[Ny];exact Np _ _
 ·rw[Nv];simp
end
section
variable{X:Cx}{pins:List (Addr×Obj)}{σ:L2.St}{H:Hp}{s:Shared}{R:Rn}{h:MH}
theorem W4(I:Inv X pins σ H s)(c:Rh X.K R h H){n:Nat}{kvs:List (W×W)}(f:h[n]?=some (.dct kvs)) :
  ∃kx xs,H (R.ρ n)=some (.dT kx)/\DctR X.K R kvs kx/\kx.length<=sizeLine/\(R.ρ n==sysModules)=false/\Qdx kx xs/\s.heap.DictOfH (Qi X.prog X.w) (R.ρ n) xs:=by
 obtain⟨kx,b,j⟩:=c.obj n _ f;obtain⟨z,y,xs,r,o,B,C,A,v,u,i,g,_⟩:=I.hok _ _ b;refine⟨kx,xs,b,j,z,y,r,o,B,C,A,v,u,i,?_,g⟩;clear i g z b f
 induction r generalizing kvs with
 |nil=>intro x a;exact nomatch a
 | @cons p q ps E d t m=>
  cases j with
  |cons l D=>
   intro x a
   rcases NF.mp a with e|a
   ·subst e;have:=Qeu I _ _ _ (GF c l.1 l.2.1) (show RelV (.ref p.2.1) (Value.ref p.2.1)from rfl);rw[d.1,d.2.1]at this;exact this
   ·exact m D x a
noncomputable def DctE(prog:Program)(w:World)(h:Heap)(d:Addr)(xs:List (Tr×Addr×Value)):Prop:=
 ∃o a b,h.get? d=some o/\o.ExactDict/\o.data=.dict a b/\a.toList=xs.map (entryOfKey (Qi prog w))/\(∀x∈xs,(Qi prog w).is h x.1 x.2.1)/\(xs.map (·.1)).Nodup/\b=a.size
theorem DctE.of{prog:Program}{w:World}{h:Heap}{d:Addr}{xs:List (Tr×Addr×Value)}:DctE prog w h d xs->h.DictOfH (Qi prog w) d xs:=fun⟨o,i,j,g,f,e,c,b,a,_⟩=>⟨o,i,j,g,f,e,c,b,a⟩
theorem Gz(I:Inv X pins σ H s)(g:Rh X.K R h H){n:Nat}{kvs:List (W×W)}(i:h[n]?=some (.dct kvs)) :
  ∃kx xs,H (R.ρ n)=some (.dT kx)/\DctR X.K R kvs kx/\kx.length<=sizeLine/\(R.ρ n==sysModules)=false/\Qdx kx xs/\DctE X.prog X.w s.heap (R.ρ n) xs:=by
 obtain⟨kx,xs,e,B,A,z,y,o,l,p,d,x,c,v,u,t⟩:=W4 I g i;obtain⟨_,_,f,r,C,j,m,b,G,a,E,D,q⟩:=I.hok _ _ e;rw[d]at b;cases b;rw[c]at a;cases a;exact⟨kx,xs,e,B,A,z,y,o,l,p,d,x,c,v,u,t,q⟩
theorem WJ(I:Inv X pins σ H s)(a:Rh X.K R h H){w:W}{v:V}{u:Value}{k:Tr}(r:Rw X.K R w v)(c:RelV v u)(e:nrm w=some k):∃b,v=.ref b/\u=.ref b/\(Qi X.prog X.w).is s.heap k b:=by
 obtain⟨b,rfl⟩:=Qfm a r e;cases(show u=Value.ref b from c);exact⟨b,rfl,rfl,Qeu I _ _ _ (GF a r e) (show RelV (.ref b) (Value.ref b)from rfl)⟩
theorem Y5{h':Heap}{t':Nat}{a:Addr}{kx c:List (Tr×Addr×V)}{b:List (Tr×Addr×Value)}(I:Inv X pins σ H s)(e:H a=some (.dT kx))(z:c.length<=sizeLine)(lo:(a==sysModules)=false)(r:Qdx c b)
  (f:Heap.SameBut a s.heap h') (q:DctE X.prog X.w h' a b):Inv X pins σ (upd H a (.dT c)) { s with heap:=h',toks:=t' }:=by
 obtain⟨o,n,p,d,m,l,j,_,i,g⟩:=q;exact Qfj I (by rw[e];exact True.intro) f ⟨o,d⟩ ⟨z,lo,b,r,o,n,p,d,m,l,j,i,g⟩
end
noncomputable def UN(h:MH):W->Option (List (W×W))
 |.ref n=>match h[n]? with|some (.dct kvs)=>some kvs|_=>none
 |_=>none
theorem XA{h:MH}{a:W}{kvs:List (W×W)}(e:UN h a=some kvs):∃n,a=.ref n/\h[n]?=some (.dct kvs):=by
 cases a with
 |ref n=>
  simp only[UN]at e;split at e
  ·rename_i c b;cases e;exact⟨n,rfl,b⟩
  ·cases e
 |_=>cases e
noncomputable def KT:ME:=fun _ h=>some (.ref h.length,h++[.dct []])
noncomputable def VP(a b v:W)(h:MH):Option MH:=match a with
 |.ref n=>match h[n]? with
  |some (.dct c)=>(nrm b).bind fun k=>if c.length<sizeLine then some (h.set n (.dct (Yq c k b v)))else none
  |_=>none
 |_=>none
noncomputable def K1(mo mi mv:ME):SM:=fun a h=>(mv a h).bind fun v=>(mo a v.2).bind fun o=>(mi a o.2).bind fun i=>(VP o.1 i.1 v.1 i.2).map fun b=>.nx a b
noncomputable def Qd9(a:W)(ws:List W)(h:MH):Option (W×MH):=match ws with
 |[b,v]=>(UN h a).bind fun c=>(nrm b).bind fun k=>match VG c k with
  |some x=>some (x,h)
  |none=>(VP a b v h).map fun d=>(v,d)
 |_=>none
noncomputable def VQ(a:W)(ws:List W)(h:MH):Option (W×MH):=match ws with
 |[b,v]=>(UN h a).bind fun c=>(nrm b).map fun k=>((VG c k).getD v,h)
 |_=>none
section
variable{prog:Program}{w:World}{A:Around}{E:Value->Shared->Prop}{s:Shared}{d a:Addr}{k:Tr}{xs:List (Tr×Addr×Value)}
theorem QeP{dflt:Value}{Q:Value->Shared->Prop}(hu:(Qi prog w).room A)(b:(Qi prog w).is s.heap k a)(z:DctE prog w s.heap d xs)(n:xs.length<=sizeLine)
  (h1:∀p,atKey xs k=some p->Q p.2 { s with toks:=s.toks+(Qi prog w).draws k })
  (C:atKey xs k=none->∀r,DctE prog w r d (storedH xs k a dflt)->Heap.SameBut d s.heap r->Q dflt { s with heap:=r,toks:=s.toks+(Qi prog w).draws k }):wpAny (model prog w) A (dictSetDefault d (.ref a) dflt) Q E s:=by
 obtain⟨o,H,D,f,B,hd,l,i,q,v⟩:=z;unfold dictSetDefault;refine N8 (Na ((Qi prog w).pyHash hu b (Na (O5 (s:={ s with toks:=s.toks+(Qi prog w).draws k }) hu b f hd l i q ?_ ?_))))
 ·intro h;have g:k∉xs.map (·.1):=O6 h;have m:=atKey_none_of_get h;refine Na (DI (Na (OL (hz:=by have e:=L8 l;exact Nf (Nq e) n) (s:={ s with toks:=s.toks+(Qi prog w).draws k }) f hd (Nj (C m _ ⟨_,_,D+1,Ei _ f (IS (FK hd _)),B.mapDictKeys _,FK hd _,?_,?_,?_,by rw[v];simp⟩ (NR ..))))))
  ·rw[Iq m];simp[l,entryOfKey]
  ·rw[Iq m];intro x c
   rcases NO.mp c with c|c
   ·exact(Qi prog w).keeps (i x c) f hd (NR ..)
   ·cases NG.mp c;exact(Qi prog w).keeps b f hd (NR ..)
  ·rw[Iq m,NL,ES];exact⟨q,by simp,fun x c y t e=>g (by rw[NC,FV,NG]at t;rw[e,t]at c;exact c)⟩
 ·intro j p u;refine Na (Ii (s:={ s with toks:=s.toks+(Qi prog w).draws k }) f hd ?_);rw[entry_at l j,u];exact Na (DI (Nj (h1 p (atKey_of_get q u))))
theorem Qbm{v:Value}{Q:Unit->Shared->Prop}(hu:(Qi prog w).room A)(b:(Qi prog w).is s.heap k a)(H:DctE prog w s.heap d xs)(t:xs.length<=sizeLine)
  (h:∀h',DctE prog w h' d (storedH xs k a v)->Heap.SameBut d s.heap h'->Q () { s with heap:=h',toks:=s.toks+(Qi prog w).draws k }):wpAny (model prog w) A (dictSet d (.ref a) v) Q E s:=by
 obtain⟨o,I,G,f,D,hd,r,g,n,B⟩:=H;unfold dictSet;refine N8 (Na ((Qi prog w).pyHash hu b ?_));unfold dictSetHashed;refine N8 (Na (O5 (s:={ s with toks:=s.toks+(Qi prog w).draws k }) hu b f hd r g n ?_ ?_))
 ·intro m;have i:k∉xs.map (·.1):=O6 m;have z:=atKey_none_of_get m;refine Na (DI (OL (hz:=by have e:=L8 r;exact Nf (Nq e) t) (s:={ s with toks:=s.toks+(Qi prog w).draws k }) f hd (h _ ⟨_,_,G+1,Ei _ f (IS (FK hd _)),D.mapDictKeys _,FK hd _,?_,?_,?_,by rw[B];simp⟩ (NR ..))))
  ·rw[Iq z];simp[r,entryOfKey]
  ·rw[Iq z];intro x c
   rcases NO.mp c with c|c
   ·exact(Qi prog w).keeps (g x c) f hd (NR ..)
   ·cases NG.mp c;exact(Qi prog w).keeps b f hd (NR ..)
  ·rw[Iq z,NL,ES];exact⟨n,by simp,fun x c y q e=>i (by rw[NC,FV,NG]at q;rw[e,q]at c;exact c)⟩
 ·intro j p C;have u:=atKey_of_get n C;refine Na (DI (Na (wpAny_updateDict (s:={ s with toks:=s.toks+(Qi prog w).draws k }) f hd (wpAny_point (h _ ⟨_,_,G,Ei _ f (IS (YaF hd _)),D.mapDict _,YaF hd _,?_,?_,?_,by rw[B];simp⟩ (NR ..))))))
  ·rw[storedH_old u];have:=modify_map_putAt (entryOfKey (Qi prog w)) (fun e:DictEntry=>{ e with val:=v }) k v (fun _ _=>rfl) n C;rw[<-r]at this;obtain⟨l⟩:=I;simpa using this
  ·rw[storedH_old u];intro x c;obtain⟨y,q,rfl⟩:=NE.mp c;simp only[PySem.putAt];split<;>exact(Qi prog w).keeps (g y q) f hd (NR ..)
  ·rw[storedH_old u,keys_map_putAt];exact n
theorem QbB{v:Value}{Q:Unit->Shared->Prop}(hu:(Qi prog w).room A.in1)(b:(Qi prog w).is s.heap k a)(e:DctE prog w s.heap d xs)(c:xs.length<=sizeLine)
  (h:∀h',DctE prog w h' d (storedH xs k a v)->Heap.SameBut d s.heap h'->Q () { s with heap:=h',toks:=s.toks+(Qi prog w).draws k }):wpAny (model prog w) A (setItem (.ref d) (.ref a) v) Q E s:=by
 have ty:=e.of.typeIs;unfold setItem;refine N8 (Na (Lx ty (by decide) (Na (Ey (name:=Str.ofString "__setitem__") ty slot_dict_setitem (Ef slot_dict_setitem ty entry_dict_setitem ?_ (args_dict_setitem _ _ _))))));refine(show wpAny _ _ (Builtin.Dict.notOrdered "__setitem__" ⟨[.ref d,.ref a,v],[]⟩>>=_) _ _ s from Na (IA ty ?_));exact(show wpAny _ _ (dictSet d (.ref a) v>>=_) _ _ s from Na (Qbm hu b e c fun h' m f=>Nj ⟨.none,rfl,Nj (h h' m f)⟩))
end
section
variable{X:Cx}{o i e a b:Expr}{mo mi mv ma mb:ME}{pos pos':Pos}
theorem Yo:PM X (.Dict [] [] pos) KT:=Q7 Qco fun n H Q q=>by
 obtain⟨R,f,h,w,s,j,st,e,k⟩:=q;cases e;intro p l;obtain⟨m,g,d,c⟩:=j.new (mo:=.dct []) (o:=.dT []) l fun t r=>⟨[],rfl,.nil⟩
 exact k m _ _ g d c
theorem Qcc(hu:X.A.units+64<cLine):(Qi X.prog X.w).room X.A.in1:=by show X.A.units+1+8<cLine;lia
theorem UA{h h':MH}{a b v:W}(e:VP a b v h=some h'):∃n kvs k,a=.ref n/\h[n]?=some (.dct kvs)/\nrm b=some k/\kvs.length<sizeLine/\h'=h.set n (.dct (Yq kvs k b v)):=by
 unfold VP at e;split at e
 ·rename_i n;split at e
  ·rename_i kvs d;obtain⟨k,g,c⟩:=Nc.mp e;split at c
   ·rename_i f;cases c;exact⟨n,kvs,k,rfl,d,g,f,rfl⟩
   ·cases c
  ·cases e
 ·cases e
noncomputable def QjK(K:Nh)(mo mi mv:ME):TS:=fun D c H=>tI K mv c H fun v m=>tI K mo c m fun x l=>tI K mi c l fun y j=>
 ∃R h a b w d,Rh K R h j/\Rw K R a x/\Rw K R b y/\Rw K R w v/\VP a b w h=some d/\∀f g,Ext R f->Rh K f d g->D.nx c g
theorem Qlm{d:List (Addr×Obj)}{σ:L2.St}{H:Hp}{s:Shared}{R:Rn}{h h':MH}{a b w:W}{x y v:V}{j t u:Value}{Q:Unit->Shared->Prop}(hu:X.A.units+64<cLine)(I:Inv X d σ H s)(l:Rh X.K R h H)(E:Rw X.K R a x)(D:Rw X.K R b y)(rw:Rw X.K R w v)
  (P:RelV x j) (O:RelV y t) (S:RelV v u) (e:VP a b w h=some h') (q:∀B N,Inv X d σ N B->Rh X.K R h' N->Q () B):wpAny (model X.prog X.w) X.A (setItem j t u) Q X.xe s:=by
 obtain⟨n,U,k,rfl,o,L,hl,rfl⟩:=UA e;obtain⟨m,xs,Z,M,z,lo,C,dd⟩:=Gz I l o;obtain⟨c,rfl,rfl,g⟩:=WJ I l D O L;unfold Rw at E;obtain⟨p,rfl⟩:=E;obtain rfl:j=Value.ref (R.ρ n):=P;have G:=N7 M;have f:=N7 C;refine QbB (Qcc hu) g dd (Nf (Nq f.symm) z) fun h' r i=>?_;have Y:(Qdq m k c v).length<=sizeLine:=by have:=UH (kx:=m) (k:=k) (b:=c) (v:=v);lia
 exact q _ _ (Y5 I Z Y lo (Qbv C S) i r) (l.put p ⟨_,rfl,QbF M D L rw⟩)
theorem QhK(hu:X.A.units+64<cLine)(ho:PM X o mo)(hi:PM X i mi)(he:PM X e mv)(hs:swapsWith e (some (.Subscript o i pos')) pos.line X.env=pure false):PMS X (.Assign [.Subscript o i pos'] e pos) (K1 mo mi mv):=by
 refine Vo (t:=QjK X.K mo mi mv) (fun c s g H D I h=>?_) fun D g H q=>?_
 ·refine wpAny_Assign_Subscript (thn (he c s g H _ I h) fun r s1 ⟨v,Y,I1,rv,q1⟩=>thn (ho c s1 g Y _ I1 q1) fun u Z ⟨x,U,I2,B,q2⟩=>thn (hi c Z g U _ I2 q2) fun iv s3 z=>?_) hs;obtain⟨y,H3,I3,p,R,h,a,b,w,S,L,ra,rb,rw,e,k⟩:=z;exact Qlm hu I3 L ra rb rw B p rv e fun s4 n I4 f=>⟨g,n,I4,k R n (Ext.refl _) f⟩
 ·obtain⟨R,d,h,r,L,s,e,k⟩:=q;obtain⟨⟨v,Q⟩,e1,e2⟩:=Nc.mp e;obtain⟨⟨ob,P⟩,e3,e4⟩:=Nc.mp e2;obtain⟨⟨N,O⟩,e5,e6⟩:=Nc.mp e4;obtain⟨S,e7,e8⟩:=Nk.mp e6;subst e8;refine⟨R,d,h,v,Q,L,s,e1,fun R1 Y x m G B=>⟨R1,d,Q,ob,P,G,s.mono m,e3,fun R2 U y l E p=>⟨R2,d,P,N,O,E,s.mono (m.trans l),e5,fun R3 H3 z j C rz=>?_⟩⟩⟩;exact⟨R3,O,ob,N,v,S,C,Rw.mono j _ _ p,rz,Rw.mono (l.trans j) _ _ B,e7,fun R4 n M f=>k R4 n g (m.trans (l.trans (j.trans M))) f (s.mono (m.trans (l.trans (j.trans M))))⟩
theorem UF(hu:X.A.units+64<cLine)(d:PM X o mo)(hi:PM X i mi)(f:PM X e mv)(c:Wa e=false:=by rfl):PMS X (.Assign [.Subscript o i pos'] e pos) (K1 mo mi mv):=QhK hu d hi f (Xz c)
end
theorem G3{prog:Program}{w:World}(d a:Addr)(lo:(d==sysModules)=false)(dflt:Value) :
  MeetsIn prog w (Builtin.«dict.setdefault» ⟨[.ref d,.ref a,dflt],[]⟩) (fun A R s=>(Qi prog w).room A.in1/\∃k xs,(Qi prog w).is s.heap k a/\DctE prog w s.heap d xs/\xs.length<=sizeLine /\
   (∀p,atKey xs k=some p->R (.ok (.ret p.2)) { s with toks:=s.toks+(Qi prog w).draws k }) /\
   (atKey xs k=none->∀c,DctE prog w c d (storedH xs k a dflt)->Heap.SameBut d s.heap c->R (.ok (.ret dflt)) { s with heap:=c,toks:=s.toks+(Qi prog w).draws k })):=
 .of_wp fun A R s ⟨hu,k,xs,b,g,h,m,l⟩=>by
  unfold Builtin.«dict.setdefault» Builtin.Dict.keyAndDefault;refine Na (Na (IA g.of.typeIs ?_));refine(show wpAny _ _ (pure (d,Value.ref a,some dflt)) _ _ s from Nj ?_);refine(show wpAny _ _ (if(d==sysModules)=true then _ else(dictSetDefault d (.ref a) dflt>>=_)) _ _ s from ?_);rw[if_neg (by rw[lo];exact Eb)];exact Na (QeP hu b g h (fun p i=>Nj ⟨p.2,rfl,m p i⟩) fun j c f e=>Nj ⟨dflt,rfl,l j c f e⟩)
section
variable{X:Cx}
theorem Qeb(hu:X.A.units+64<cLine):QbW X "dict.setdefault" Qd9:=by
 intro aa s σ H x S v us Q I rx rv q;obtain⟨R,h,a,ws,w,h',o,ra,B,e,k⟩:=q;unfold Qd9 at e;split at e
 ·rename_i b dv;obtain⟨af,e1,e2⟩:=Nc.mp e;obtain⟨g,L,r⟩:=Nc.mp e2;obtain⟨n,rfl,hn⟩:=XA e1;obtain⟨y,M,rfl,rb,Z⟩:=Qhg B;obtain⟨uy,uz,rfl,ry,Y⟩:=G0 rv;obtain⟨D,S,hx,t,zl,lo,C,dd⟩:=Gz I o hn;obtain⟨c,rfl,rfl,l⟩:=WJ I o rb ry L;have i:=ra;unfold Rw at i;obtain⟨G,rfl⟩:=i;obtain rfl:v=Value.ref (R.ρ n):=rx;have ae:=N7 t;have f:=N7 C;have d:=Ke (k:=g) C;refine call_meetsIn IW dd.of.typeIs PySem.F.entry_dict_setdefault (PySem.F.args_dict_setdefault_3 _ _ _) (G3 _ c lo uz) ⟨Qcc hu,g,S,l,dd,by exact Nf (Nq f.symm) zl,fun p hp=>?_,fun E ag N hs=>?_⟩
  ·rw[hp]at d
   rcases V9 (k:=g) t with z|⟨w',U,P,u,O⟩
   ·rw[z.2]at d;exact d.elim
   ·rw[P]at r;cases r;rw[u]at d;exact⟨U,H,I.tok _,d,k R H _ (Ext.refl _) o O⟩
  ·rw[E]at d
   rcases V9 (k:=g) t with z|⟨w',U,P,u,O⟩
   ·rw[z.1]at r;obtain⟨h3,e5,e6⟩:=Nk.mp r;cases e6;obtain⟨n',ab,k',en,j,m,hl,rfl⟩:=UA e5;cases en;rw[hn]at j;cases j;rw[L]at m;cases m;have hz:(Qdq D g c M).length<=sizeLine:=by have:=UH (kx:=D) (k:=g) (b:=c) (v:=M);lia
    exact⟨M,_,Y5 I hx hz lo (Qbv C Y) hs N,Y,k R _ _ (Ext.refl _) (o.put G ⟨_,rfl,QbF t rb L Z⟩) Z⟩
   ·rw[u]at d;exact d.elim
 ·cases e
theorem Yg(hu:X.A.units+64<cLine):QbW X "dict.get" VQ:=by
 intro r s σ H x o v us Q I N O q;obtain⟨R,h,a,ws,w,h',f,p,i,e,k⟩:=q;unfold VQ at e;split at e
 ·rename_i b dv;obtain⟨Y,e1,e2⟩:=Nc.mp e;obtain⟨j,e3,e4⟩:=Nk.mp e2;cases e4;obtain⟨n,rfl,Z⟩:=XA e1;obtain⟨y,z,rfl,U,S⟩:=Qhg i;obtain⟨uy,G,rfl,M,L⟩:=G0 O;obtain⟨kx,o,hx,dr,zl,lo,P,t⟩:=W4 I f Z;obtain⟨c,rfl,rfl,d⟩:=WJ I f U M e3;unfold Rw at p;obtain⟨aa,rfl⟩:=p;obtain rfl:v=Value.ref (R.ρ n):=N;have g:=Ke (k:=j) P;refine call_meetsIn FB t.typeIs PySem.F.entry_dict_get (PySem.F.args_dict_get_3 _ _ _) (meetsH_dict_get_default (Qi X.prog X.w) (R.ρ n) c lo G) ⟨Qcc hu,j,o,d,t,?_⟩
  rcases V9 (k:=j) dr with z|⟨w',E,D,C,B⟩
  ·rw[z.2]at g;rw[RelO.none_of g];rw[z.1]at k;exact⟨_,H,I.tok _,L,k R H _ (Ext.refl _) f S⟩
  ·rw[C]at g;obtain⟨u,m,l⟩:=RelO.some_of g;rw[m];rw[D]at k;exact⟨E,H,I.tok _,l,k R H _ (Ext.refl _) f B⟩
 ·cases e
theorem WV{K:Nh}{R:Rn}:∀{kvs:List (W×W)} {kx:List (Tr×Addr×V)},DctR K R kvs kx->Rws K R (kvs.map (·.1)) (kx.map fun p=>.ref p.2.1)
 |_,_,.nil=>Rws.nil
 |_,_,.cons h t=>Rws.cons h.1 (WV t)
theorem W7:∀{kx:List (Tr×Addr×V)} {xs:List (Tr×Addr×Value)},Qdx kx xs->Vals (kx.map fun p=>.ref p.2.1) (xs.map fun p=>.ref p.2.1)
 |_,_,.nil=>.nil
 |_,_,.cons h t=>.cons (show _=Value.ref _ from by rw[h.2.1]) (W7 t)
end
end Mi

namespace L2
section
variable{X:Cx}{pins:List (Addr×Obj)}{σ:St}{H:Hp}{s:Shared}{h':Heap}{t':Nat}{ch:List Addr}
theorem Inv.turnedL{h:Hp}(I:Inv X pins σ H s)(k:∀b o,b∉ch->s.heap.get? b=some o->h'.get? b=some o)(f:∀b∈ch,Gy X pins H b)(d:∀b u,H b=some u->h b=some u)(x:∀b o,s.heap.get? b=some o->H b=none->h b=none)
  (new:∀b u,H b=none->h b=some u->ObjOk X.prog X.w h h' b u):Inv X pins σ h { s with heap:=h',toks:=t' }:=by
 have g:∀b u,H b=some u->b∉ch:=fun b u e z=>by rw[(f b z).1]at e;cases e
 refine I.step (g':=s.gens) (d':=s.drawn) (ch:=ch) (fun b i=>⟨(f b i).2.2.2.1,(f b i).2.1,(f b i).2.2.2.2.1,(f b i).2.2.2.2.2⟩) (fun b o _ _ a e _=>k b o a e) (fun b o _ _ a e _=>⟨o.slots,k b o a e⟩) (fun b o _ e n=>x b o e n)
  (fun b o a e=>⟨o,k b o a e⟩) (fun b j e=>d b _ e) (fun b o u e=>d b _ e) (fun b ps e=>⟨#[],by rw[d b _ e];simp⟩) (fun m y=>?_) (fun b u e=>?_) I.bare
 ·obtain⟨o,A,B,t,r⟩:=y;exact⟨o,A,B,k _ o (fun z=>(f _ z).2.1 rfl) t,r⟩
 ·cases q:H b with
  |none=>exact new b u q e
  |some l=>
   rw[d b l q]at e;cases e;refine(I.hok b _ q).stay (fun c v a p=>k c v ?_ p) (fun c z=>d c _ z) fun c j z=>d c _ z
   rcases a with z|z
   ·rw[z];exact g b _ q
   ·exact g c _ z
theorem Inv.turnedN{T:Addr}{xs:List V}(I:Inv X pins σ H s)(k:∀b o,b∉ch->s.heap.get? b=some o->h'.get? b=some o)(d:∀b∈ch,Gy X pins H b)(a:s.heap.objs.size<=T)(new:ObjOk X.prog X.w (upd H T (.tup xs)) h' T (.tup xs)) :
  Inv X pins σ (upd H T (.tup xs)) { s with heap:=h',toks:=t' }:=by
 have c:=I.hok.fresh a;refine I.turnedL k d (fun b u e=>by rw[Qt (Z3 e c)];exact e) (fun b o e n=>by rw[Qt (fun z=>by rw[z]at e;exact absurd (ND e) (NQ.mpr a))];exact n) fun b u n e=>?_
 by_cases z:b=T
 ·subst z;rw[ZW]at e;cases e;exact new
 ·rw[Qt z,n]at e;cases e
end
noncomputable def Itv(K:Nh)(a:Addr)(n:Nat):It:=⟨fun i H=>i<n/\∃b,SqL K H a b/\b.length=n,fun i H x c=>c=H/\∀b,SqL K H a b->b[n-1-i]?=some x,fun i _=>n<=i⟩
theorem Qb4{P:Program}{w:World}{K:Nh}{O:Expr}(a it:Addr)(n:Nat):Turn P w K O (Itv K a n) [it] it (fun i h=>i<=n/\h.IsRevIter it a ((n:Int)-1-(i:Int))) where
 mem:=by simp
 obj:=fun i h st b j=>by
  have e:b=it:=by simpa using j
  subst e;obtain⟨_,o,e,c,d⟩:=st;exact⟨o,e,fun v z=>by rw[d]at z;cases z⟩
 keep:=fun i h m st k=>⟨st.1,st.2.at fun o e=>k it (by simp) o e⟩
 item:=by
  intro X r hw t N i f s D H E I l st q;subst r hw t;obtain⟨hi,G,M,hl⟩:=q;obtain⟨Z,U,p,hz⟩:=I.list M;obtain⟨x,L⟩:∃x,G[n-1-i]?=some x:=⟨G[n-1-i]'(by omega),No _⟩
  obtain⟨u,hu,Y⟩:=U.get L;obtain⟨C,f1,f2,B,A,y⟩:=l it (by simp);have e:(n:Int)-1-(i:Int)=((n-1-i:Nat):Int):=by omega
  have hit:=st.2;rw[e]at hit;refine wpAny_pyNext_rev_item hit p.isList (x:=u) (by simpa using hu) fun m g S=>?_;have e2:((n-1-i:Nat):Int)-1=(n:Int)-1-((i+1:Nat):Int):=by lia
  rw[e2]at g;have I1:Inv X f D H { s with heap:=m }:=I.turned (t':=s.toks) (fun b o j e=>(S.2 b j).trans e) C f1 B A y;obtain⟨o,e,c,d⟩:=id g;exact⟨u,rfl,UO (s:={ s with heap:=m }) e c d (by decide) ⟨x,H,I1,Y,⟨rfl,fun ys hy=>by rw[I.list_inj hy M];exact L⟩,⟨hi,g⟩,fun b j=>(l b j).1⟩⟩
 done:=by
  intro X r hw t N i f s D H E I l st q;subst r hw t;obtain⟨C,f1,f2,B,A,y⟩:=l it (by simp);have aa:n<=i:=q;have e:(n:Int)-1-(i:Int)=-1:=by have:=st.1;lia
  have hit:=st.2;rw[e]at hit;exact wpAny_pyNext_rev_end (I.ok.hd N) hit fun m eb=>⟨rfl,I.turned (t':=s.toks) (fun b o j e=>eb b o j e) C f1 B A y⟩
 self:=fun _ _ _ _ _ st h=>OM st.2 h
noncomputable def Ql9(K:Nh)(f:TA):TI:=fun d H R=>f d H fun e c=>∃a b,e=[.ref a]/\SqL K c a b/\R (Itv K a b.length) c
theorem Qih{X:Cx}{n a:Expr}{j:TA}{p pos:Pos}(C:Gl X "reversed")(A:X.mg "reversed"=none)(E:PA X [a] j)(y:starEach [a] X.env=[(false,eval a X.env)]:=by rfl):PI X n (.Call (.Name "reversed" p) [a] [] pos) (Ql9 X.K j):=by
 intro c s m H R I h;refine Call_ (Vq I C A boot_reversed (EV (thn (E pos c s m H _ I h) fun M f ⟨L,G,I1,v,w⟩=>?_) y rfl));obtain⟨ad,g,e,z,q⟩:=w;subst e;obtain⟨u,rfl,t⟩:=Xb v;cases t;obtain⟨d,r,x,O⟩:=I1.list z;have B:=r.length;refine call_reversed_list x.isList ?_;refine OM (l:=ad) (i:=(d.toArray.size:Int)-1) ⟨_,NA _ rfl,rfl,rfl⟩ ?_;refine⟨f.heap.objs.size,[f.heap.objs.size],_,_,G,rfl,I1.kept (t':=f.toks) fun b o e=>Nn _ e,Qb4 ad _ g.length,⟨NM _,?_⟩,fun b D=>?_,q⟩
 ·refine⟨_,NA _ rfl,rfl,?_⟩;have:((d.toArray.size:Nat):Int)-1=(g.length:Int)-1-((0:Nat):Int):=by rw[Nt,B];simp
  rw[<-this];rfl
 ·have e:b=f.heap.objs.size:=by simpa using D
  subst e;exact I1.fpOk (Nu _) (I1.hok.fresh (Nu _))
end L2
namespace Mi
open L2
noncomputable def Qfu(ms:MA):MI:=fun b h=>(ms b h).bind fun p=>match p.1 with
 |[.lst a]=>some (a.reverse,none,p.2)
 |[.ref n]=>match p.2[n]? with|some (.lst a)=>some (a.reverse,some (.r n),p.2)|_=>none
 |_=>none
section
variable{K:Nh}{R:Rn}
theorem Qc3{a:Addr}{xs:List V}{ws:List W}(l:SqL K R.F a xs)(r:Rws K R ws xs):ItOk K R (Itv K a xs.length) ws.reverse none where
 go:=fun i w j h H x d _ e=>by
  have c:=(Nm.mp e).1;rw[DG,r.length]at c;exact⟨c,xs,ZB (fun b o z=>d.sub b o (x.f b o z)) l,rfl⟩
 yld:=fun i w j h H x s e d _ g m=>by
  obtain⟨rfl,n⟩:=m;have c:=(Nm.mp g).1;rw[DG]at c;rw[Ot c]at g;obtain⟨v,q,p⟩:=r.get g;have:=n xs (ZB (fun b o z=>d.sub b o (e.f b o z)) l);rw[<-r.length,q]at this;cases this;exact⟨j,Ext.refl _,d,Rw.mono e _ _ p⟩
 stop:=fun i j h H x d _ c=>by rw[DG,r.length]at c;exact c
theorem Qba{n:Nat}{ws:List W}(o:n<R.N):ItOk K R (Itv K (R.ρ n) ws.length) ws.reverse (some (.r n)) where
 go:=fun i w m h H x b a e=>by
  have f:=(Nm.mp e).1;have j:=a (.r n) rfl;obtain⟨g,d,c⟩:=b.obj n _ j;rw[IJ]at c;rw[x.ρ n o]at d;exact⟨by simpa using f,g,SqL.of d,c.length.symm⟩
 yld:=fun i w m h H x s e b a l p=>by
  obtain⟨rfl,q⟩:=p;have j:=a (.r n) rfl;obtain⟨g,d,c⟩:=b.obj n _ j;rw[IJ]at c;rw[e.ρ n o]at d;have f:=(Nm.mp l).1;rw[DG]at f;rw[Ot f]at l;obtain⟨v,g1,g2⟩:=c.get l;have:=q g (SqL.of d);rw[g1]at this;cases this;exact⟨m,Ext.refl _,b,g2⟩
 stop:=fun i m h H x b _ a=>by rw[DG]at a;exact a
end
section
variable{X:Cx}{tg a b:Expr}{ms:MA}{p pos tpos:Pos}{elts:List Expr}{kk:Nat}
theorem QeV(B:Gl X "reversed")(A:X.mg "reversed"=none)(D:PMA X [a] ms)(y:starEach [a] X.env=[(false,eval a X.env)]:=by rfl):PMI X tg (.Call (.Name "reversed" p) [a] [] pos) (Qfu ms):=
 GW (Qih B A D y) fun M H C ⟨R,i,h,items,u,O,x,st,e,k⟩=>by
  obtain⟨⟨s,I⟩,L,d⟩:=Nc.mp e;refine⟨R,i,h,s,I,x,st,L,fun R1 r N o c q=>?_⟩;split at d
  ·rename_i t g;simp only at g;subst g;cases d;obtain⟨v,rfl,l⟩:=XO q;have f:=l;unfold Rw at f;obtain⟨ad,j,rfl,hF,w⟩:=f;exact⟨ad,j,rfl,SqL.of (c.sub _ _ hF),k R1 r _ o c (Qc3 (SqL.of hF) w)⟩
  ·rename_i n g;simp only at g;subst g;split at d
   ·rename_i t z;cases d;obtain⟨v,rfl,l⟩:=XO q;obtain⟨m,rfl,j,G,E⟩:=c.refAt l z;refine⟨_,j,rfl,SqL.of G,?_⟩;rw[<-E.length];exact k R1 r _ o c (Qba m)
   ·cases d
  ·cases d
end
end Mi

namespace Mi
open L2
section
variable{prog:Program}{w:World}{A:Around}{E:Value->Shared->Prop}{s:Shared}
end
section
variable{X:Cx}{k v:Expr}{mk mv:ME}{pos:Pos}
end
end Mi

namespace St
theorem Kn(t:SetTable)(n:Nat):(t.orStandIn n).led=t.led/\(t.plain=false->(t.orStandIn n).plain=false):=by
 unfold SetTable.orStandIn;split
 ·exact⟨rfl,id⟩
 ·exact⟨rfl,fun _=>rfl⟩
theorem Ww(t:SetTable)(es:Array (Int×Value))(g:Int)(x:Value):(layNew t es g x).2.1.led=t.led/\(t.plain=false->(layNew t es g x).2.1.plain=false):=by
 unfold layNew;split
 ·exact Kn _ _
 ·exact⟨rfl,fun _=>rfl⟩
theorem Qao{m f v:Nat}{l p:Bool}{a:Array Int}{r:SetTable×Array Nat}(e:SetTable.laid m f v l p a=some r):r.1.led=l/\r.1.plain=p:=by
 unfold SetTable.laid at e;obtain⟨o,_,b⟩:=Nc.mp e;cases b;exact⟨rfl,rfl⟩
theorem K6(t:SetTable)(es:Array (Int×Value))(n:Nat):(relayAll t es n).2.1.led=t.led/\(t.plain=false->(relayAll t es n).2.1.plain=false):=by
 unfold relayAll;split
 ·rename_i c d e;have a:=Qao e;dsimp only;split
  ·exact⟨a.1,fun b=>a.2.trans b⟩
  ·exact⟨rfl,fun _=>rfl⟩
 ·exact⟨rfl,fun _=>rfl⟩
section
variable{prog:Program}{w:World}{A:Around}{E:Value->Shared->Prop}{s:Shared}
noncomputable def SetL(prog:Program)(w:World)(h:Heap)(a:Addr)(ks:List Str)(led:Bool):Prop:=
 ∃o b c t,h.get? a=some o/\o.ExactSet/\o.data=.set b c t/\ElemsOf (strKind prog w) b.toList/\b.size<scanBound/\t.fits b.size=true/\t.led=led/\(b.size=0\/t.plain=false)/\ks.Nodup/\b.size=ks.length/\∀k,k∈ks↔∃e∈b.toList,(strKind prog w).is k e.2=true
theorem SetL.at{h h':Heap}{a:Addr}{ks:List Str}{led:Bool}(x:SetL prog w h a ks led)(e:∀o,h.get? a=some o->h'.get? a=some o):SetL prog w h' a ks led:=let⟨o,c,d,t,b,r⟩:=x;⟨o,c,d,t,e _ b,r⟩
theorem SetL.lt{h:Heap}{a:Addr}{ks:List Str}{led:Bool}(x:SetL prog w h a ks led):a<h.objs.size:=let⟨_,_,_,_,b,_⟩:=x;ND b
theorem SetL.typeIs{a:Addr}{ks:List Str}{led:Bool}(x:SetL prog w s.heap a ks led):s.TypeIs (.ref a) "set":=let⟨o,_,_,_,c,b,_⟩:=x;⟨o,c,b.1⟩
theorem stored{h:Heap}{a:Addr}{o:Obj}{es es':Array (Int×Value)}{ep:Nat}{t t':SetTable}{ks:List Str}(f:h.get? a=some o)(d:o.ExactSet)(hd:o.data=.set es ep t)(h1:ElemsOf (strKind prog w) es'.toList)(n:es'.size<scanBound)(m:t'.fits es'.size=true)(l:es'.size=0\/t'.plain=false)(j:ks.Nodup)(i:es'.size=ks.length)(g:∀k,k∈ks↔∃e∈es'.toList,(strKind prog w).is k e.2=true) :
  (h.update a (Obj.putSet es' t')).get? a=some (Obj.putSet es' t' o)/\(Obj.putSet es' t' o).ExactSet/\(∃b,(Obj.putSet es' t' o).data=.set es' b t')/\SetL prog w (h.update a (Obj.putSet es' t')) a ks t'.led:=by
 have g1:(h.update a (Obj.putSet es' t')).get? a=some (Obj.putSet es' t' o):=Ei _ f (by rw[Lc es' t' hd];rfl);have g2:(Obj.putSet es' t' o).ExactSet:=by rw[Lc es' t' hd];exact d
 have g3:∃b,(Obj.putSet es' t' o).data=.set es' b t':=by rw[Lc es' t' hd];exact⟨_,rfl⟩
 obtain⟨b,c⟩:=g3;exact⟨g1,g2,⟨b,c⟩,_,es',b,t',g1,g2,c,h1,n,m,rfl,l,j,i,g⟩
theorem QdY(x:Str)(c:Tok):(strKind prog w).is x (.str x c)=true:=by
 show Value.isStrOf x (.str x c)=true;simp[Value.isStrOf]
theorem QlF{a:Addr}{ks:List Str}{led:Bool}{x:Str}{c:Tok}{Q:Bool->Shared->Prop}(hS:SetL prog w s.heap a ks led)(room:ks.length+1<scanBound)
  (h:∀b h',Heap.SameBut a s.heap h'->SetL prog w h' a (if x∈ks then ks else ks++[x]) led->Q b { s with heap:=h' }) :
  wpAny (model prog w) A (setAddHashed a (.str x c) ((strKind prog w).hash x)) Q E s:=by
 obtain⟨o,M,ep,t,X,hx,hd,y,hb,hf,m,ab,Y,hn,i⟩:=hS;have hk:(strKind prog w).is x (.str x c)=true:=QdY x c;have H:(Value.str x c).scannable=true:=rfl;have quiet:∀(b:Bool) {B:Shared} {D:Unit->Shared->Prop},D () B->wpAny (model prog w) A (match b with|true=>rule "set.scan.the-table-gave-way"|false=>pure ()) D E B:=fun b _ _ q=>by cases b<;>first|exact Nj q|exact DI q
 unfold setAddHashed setAddHashedIn;refine N8 (Na (EM X hd hf ?_));dsimp only;rw[byScan_of H hb y,if_pos rfl];unfold setAddByScan;refine Na (Na (DI (Na (wpAny_setScan_of hk X hd hf y ?_))));cases hr:List.findIdx? (fun e=>(strKind prog w).is x e.2) M.toList with
 |some j=>
  obtain⟨hj,pj,_⟩:=Dl.mp hr;have f:x∈ks:=(i x).mpr ⟨M.toList[j],D7 hj,pj⟩;refine Nj (Nj ?_);have q:=h false s.heap (Yav a s.heap) ⟨o,M,ep,t,X,hx,hd,y,hb,hf,m,ab,by rw[if_pos f];exact Y,by rw[if_pos f];exact hn,by rw[if_pos f];exact i⟩;exact q
 | none=>
  have f:x∉ks:=fun f=>by
   obtain⟨e,z,p⟩:=(i x).mp f;have:=LF.mp hr e z;rw[p]at this;cases this
  rw[if_neg f]at h;have pm:=layNew_perm t M ((strKind prog w).hash x) (.str x c);have ft:=layNew_fits t M ((strKind prog w).hash x) (.str x c);have kp:=Ww t M ((strKind prog w).hash x) (.str x c);dsimp only;generalize layNew t M ((strKind prog w).hash x) (.str x c)=L at pm ft kp ⊢;obtain⟨d,t1,ae,gv⟩:=L;dsimp only at pm ft kp ⊢;rw[DW]at pm;have aa:ElemsOf (strKind prog w) d.toList:=(y.push hk H).perm pm;have G:d.size=(ks++[x]).length:=by rw[<-Nr,pm.length_eq,Nv,Nr,Nv,hn];rfl
  have b1:d.size<scanBound:=by rw[G,Nv,Ec];exact room
  have U:(ks++[x]).Nodup:=by
   rw[ES];exact⟨Y,by simp,fun u hu v hv e=>f (by rw[NG.mp hv]at e;rw[<-e];exact hu)⟩
  have C:∀k,k∈ks++[x]↔∃e∈d.toList,(strKind prog w).is k e.2=true:=fun k=>by
   rw[NO,NG,i k];constructor
   ·rintro(⟨e,z,p⟩|rfl)
    ·exact⟨e,pm.mem_iff.mpr (Du _ z),p⟩
    ·exact⟨_,pm.mem_iff.mpr (Ea _ (NG.mpr rfl)),hk⟩
   ·rintro⟨e,z,p⟩
    rcases NO.mp (pm.mem_iff.mp z)with q|q
    ·exact .inl ⟨e,q,p⟩
    ·rw[NG.mp q]at p;exact .inr ((strKind prog w).inj _ _ _ p hk)
  -- ag table is stored,and laid anew where it is af full
  have fin:∀(g:SetTable),g.fits d.size=true->g.led=led->g.plain=false->wpAny (model prog w) A (do
    storeSet a d g
    if(!ae&&g.tooFull)=true then do
      (match (relayAll g d (SetTable.grown d.size)).2.2 with|true=>rule "set.scan.the-table-gave-way"|false=>pure ())
      storeSet a (relayAll g d (SetTable.grown d.size)).1 (relayAll g d (SetTable.grown d.size)).2.1
      pure (some true)
     else pure (some true)) (fun r P=>∃v,r=some v/\∃h',Heap.SameBut a s.heap h'/\SetL prog w h' a (ks++[x]) led/\P={ s with heap:=h' }) E s:=by
   intro g f2 l2 p2;refine Na (Ij X hd ?_ (fits_of_scanBound b1));obtain⟨g1,g2,⟨ai,g3⟩,g4⟩:=stored (prog:=prog) (w:=w) X hx hd aa b1 f2 (.inr p2) U G C;rw[l2]at g4;have sb:=NR s.heap a (Obj.putSet d g);split
   ·have l:=relayAll_perm g d (SetTable.grown d.size);have I:=relayAll_fits g d (SetTable.grown d.size);have n:=K6 g d (SetTable.grown d.size);generalize relayAll g d (SetTable.grown d.size)=R at l I n ⊢;obtain⟨Z,t3,ah⟩:=R;dsimp only at l I n ⊢;have O:Z.size=d.size:=by rw[<-Nr,l.length_eq,Nr]
    have b2:Z.size<scanBound:=by rw[O];exact b1
    refine Na (quiet _ (Na (Ij g1 g3 (Nj ⟨true,rfl,_,sb.trans (NR _ a _),?_,rfl⟩) (fits_of_scanBound b2))));obtain⟨_,_,_,g5⟩:=stored (prog:=prog) (w:=w) (ks:=ks++[x]) g1 g2 g3 (aa.perm l) b2 I (.inr (n.2 p2)) U (O.trans G) (fun k=>(C k).trans ⟨fun⟨e,z,q⟩=>⟨e,l.mem_iff.mpr z,q⟩,fun⟨e,z,q⟩=>⟨e,l.mem_iff.mp z,q⟩⟩);rw[n.1,l2]at g5;exact g5
   ·exact Nj ⟨true,rfl,_,sb,g4,rfl⟩
  have S:∀r P,(∃v,r=some v/\∃h',Heap.SameBut a s.heap h'/\SetL prog w h' a (ks++[x]) led/\P={ s with heap:=h' })->wpAny (model prog w) A (match r with|some N=>pure N|none=>setAddHashedIn a (.str x c) ((strKind prog w).hash x) 99999) Q E P:=by
   rintro r P ⟨v,rfl,h',q1,q2,rfl⟩
   exact Nj (h v h' q1 q2)
  refine Na (quiet _ ?_);cases hp:t1.plain with
  |true=>
   rw[if_pos rfl,hashByValue_scannable 8 H];refine Na (Nj ?_);exact N4 (fin { t1 with plain:=false } (SetTable.fits_plain_off ft) (kp.1.trans m) rfl) S fun _ _ q=>q
  |false=>
   rw[if_neg (by simp)];refine Na (Nj ?_);exact N4 (fin t1 ft (kp.1.trans m) hp) S fun _ _ q=>q
end
end St

namespace St
noncomputable def uniq(l:List Str):List Str:=l.foldl (fun u x=>if x∈u then u else u++[x]) []
theorem uniq_snoc(l:List Str)(x:Str):uniq (l++[x])=if x∈uniq l then uniq l else uniq l++[x]:=by unfold uniq;rw[DX];rfl
theorem Qcl:∀(n:Nat) (l:List Str),l.length=n->(uniq l).length<=n:=by
 intro n
 induction n with
 |zero=>intro l h;rw[Ep.mp h];exact Nu _
 |succ n a=>
  intro l h;obtain⟨u,x,rfl⟩:∃u x,l=u++[x]:=⟨l.dropLast,l.getLast (fun z=>by rw[z]at h;cases h),(ET _).symm⟩
  rw[uniq_snoc];have:=a u (by simp at h;exact h);split
  ·exact Nf this (Np _ _)
  ·rw[Nv,Ec];exact EX this _
theorem uniq_mem:∀(n:Nat) (l:List Str),l.length=n->∀y,y∈uniq l↔y∈l:=by
 intro n
 induction n with
 |zero=>intro l h y;rw[Ep.mp h];exact Iff.rfl
 |succ n a=>
  intro l h y;obtain⟨u,x,rfl⟩:∃u x,l=u++[x]:=⟨l.dropLast,l.getLast (fun z=>by rw[z]at h;cases h),(ET _).symm⟩
  have q:=a u (by simp at h;exact h);rw[uniq_snoc,NO,NG];split
  ·rename_i b;rw[q y];exact⟨.inl,fun z=>z.elim id fun e=>by rw[e];exact(q x).mp b⟩
  ·rw[NO,NG,q y]
section
variable{prog:Program}{w:World}{A:Around}{R:Result->Shared->Prop}{I:Addr}{fp wr:List Addr}{G:Array GenState->Array GenState->Prop}{n:Nat}{P:Nat->Value->Prop}{St':Nat->Shared->Prop}
theorem QjN(W:WalksS prog w A.in1 I fp wr G n P St')(S:Addr)(f:S∉fp)(led:Bool)(l:List Str)(H:l.length=n)(E:∀i v,P i v->∃x c,l[i]?=some x/\v=.str x c)(Q:n+1<scanBound) :
  ∀(k i:Nat) (s:Shared),n-i=k->i<=n->St' i s->SetL prog w s.heap S (uniq (l.take i)) led ->
   (∀a,Moved (S::wr) G s a->SetL prog w a.heap S (uniq l) led->R (.ok (.ret .none)) a) ->
   codeAny (model prog w) A (.builtin "set.update.loop" ⟨[.ref S,.ref I],[]⟩) R s:=by
 have B:S∉wr:=fun z=>f (W.sub _ z);have sub:∀b∈wr,b∈S::wr:=fun b z=>Nw _ z;intro k
 induction k with
 |zero=>
  intro i s L M st hS t;obtain rfl:i=n:=by lia
  refine EU Ff ?_;rw[De Dg _];show wpAny _ A.in1 (pyNext (.ref I)>>=_) _ _ s;refine Na (W.done s _ _ st fun a d=>Nj (t a (d.mono sub) ?_));rw[Ej (Nq H)]at hS;exact hS.at fun o e=>d.heap S _ B e
 | succ k C=>
  intro i s L M st hS t;have lt:i<n:=by lia
  refine EU Ff ?_;rw[De Dg _];show wpAny _ A.in1 (pyNext (.ref I)>>=_) _ _ s;refine Na (W.item i s _ _ lt st fun v a N g d=>?_);obtain⟨x,c,D,rfl⟩:=E i v N;have r:SetL prog w a.heap S (uniq (l.take i)) led:=hS.at fun o e=>d.heap S _ B e;show wpAny _ A.in1 (holding [Value.str x c] (setAdd S (.str x c))>>=_) _ _ a;refine Na (N8 ?_);unfold setAdd;refine N8 (Na ((strKind prog w).pyHash (k:=x) (QdY x c) ?_))
  have room:(uniq (l.take i)).length+1<scanBound:=by
   have:=Qcl _ (l.take i) rfl;rw[Ed]at this;lia
  refine QlF (s:={ a with toks:=a.toks+1 }) r room fun b O y p=>?_
  have m:SetL prog w O S (uniq (l.take (i+1))) led:=by
   rw[Yaw,D,Yaj,uniq_snoc];exact p
  refine Nj ⟨Iw Dg _,C (i+1) _ (by lia) lt (W.frame _ a _ _ g (FO _) fun b z o e=>?_) m fun h j q=>?_⟩
  ·exact(y.2 b (fun u:b=S=>f (by rw[<-u];exact z))).trans e
  ·refine t h (Moved.trans W.gtrans ((d.mono sub).then_heap (FO _) fun b o z e=>?_) j) q;exact(y.2 b (fun u:b=S=>z (by rw[u];exact Nz))).trans e
end
end St

namespace St
section
variable{prog:Program}{w:World}{A:Around}{E:Value->Shared->Prop}{s:Shared}
noncomputable abbrev ledW(w:World):Bool:=!(w.params.followText "set-order")
noncomputable abbrev emptySet(b:Bool):Obj:={ cls:=.type "set",dict:=none,data:=.set #[] 0 (.fresh 0 0 b) }
theorem newL(a:Value){Q₁:Value->Shared->Prop}(h:Q₁ (.ref s.heap.objs.size) { s with heap:=s.heap.push (emptySet (ledW w)) }) :
  codeAny (model prog w) A (.call (.builtin "set.__new__") ⟨[.type "set",a],[]⟩) (wants Q₁ E) s:=by
 refine L9 (show wpAny _ A.in1 (do checkBuiltinCall "set.__new__" ⟨[.type "set",a],[]⟩;again (.builtin "set.__new__" ⟨[.type "set",a],[]⟩)) _ _ s from ?_);refine Na (Of (F.newCall_set_1 a) (Nj ⟨Iw F.plain_set_new _,EU (F.entry_set_new) ?_⟩));rw[De F.plain_set_new _];unfold Builtin.«set.__new__» Builtin.Frozenset.newClass;have b:=sub_set_self;obtain⟨e,g,d,c,os⟩:=s;dsimp only
 wp_walk
 refine D9 (Nj ?_);dsimp only;simp only[newObj];exact Na (wpAny_alloc (Nj (Nj h)))
theorem UZ{h:Heap}{a:Addr}{b:Bool}(e:h.get? a=some (emptySet b)):SetL prog w h a [] b:=
 ⟨_,#[],0,_,e,⟨rfl,rfl,rfl⟩,rfl,fun x c=>by simp at c,by decide,rfl,rfl,.inl rfl,Er,rfl,fun k=>by simp⟩
theorem QjR{l:Addr}{items:Array Value}{g:List Str}{Q:Value->Shared->Prop}(P:A.handled=none)(O:s.heap.IsList l items)(hi:StrsAre items.toList g)(S:items.size+1<scanBound)
  (h:∀(h':Heap) (tk:Nat),SetL prog w h' s.heap.objs.size (uniq g) (ledW w)->(∀b o,b<s.heap.objs.size->s.heap.get? b=some o->h'.get? b=some o)->Q (.ref s.heap.objs.size) { s with heap:=h',toks:=tk }) :
  wpAny (model prog w) A (Builtin.«set.__init__» ⟨[.ref s.heap.objs.size,.ref l],[]⟩) (fun fin y=>fin=.done (.ret .none)/\Q (.ref s.heap.objs.size) y) E { s with heap:=s.heap.push (emptySet (ledW w)) }:=by
 have hS:(s.heap.push (emptySet (ledW w))).get? s.heap.objs.size=some (emptySet (ledW w)):=NA _ rfl;have hT:Shared.TypeIs { s with heap:=s.heap.push (emptySet (ledW w)) } (.ref s.heap.objs.size) "set":=⟨_,hS,rfl⟩
 obtain⟨ol,m,r,nl,q⟩:=O;obtain⟨I,f,B,a⟩:=ol;simp only at r q;subst r q;have j:(s.heap.push (emptySet (ledW w))).get? l=some { cls:=.type "list",dict:=f,data:=.seq items nl,slots:=a }:=Nn _ m;have p:(s.heap.push (emptySet (ledW w))).IsList l items:=⟨_,j,rfl,nl,rfl⟩
 have n1:=F.sub_list_set;have n2:=ON;have n3:(Value.type "list"==Value.type "dict")=false:=by decide
 unfold Builtin.«set.__init__» noKeywords Builtin.Frozenset.updateFrom;generalize H:pyIter=PI
 wp_walk
 subst H;refine Ly p (Na (IX ?_));have n:l<s.heap.objs.size:=ND m;have d:(s.heap.push (emptySet (ledW w))).objs.size=s.heap.objs.size+1:=F8 _ _;have C:l≠(s.heap.push (emptySet (ledW w))).objs.size:=by rw[d];exact NS (DB n)
 have M:s.heap.objs.size∉[(s.heap.push (emptySet (ledW w))).objs.size,l]:=by
  rw[d];simp only[NF,Ew,or_false,not_or];exact⟨NS (EI _),D6 n⟩
 have D:g.length=items.size:=by have:=Ou hi;rw[Nr]at this;exact this.symm
 have N:∀(i:Nat) (v:Value),items[i]?=some v->∃x c,g[i]?=some x/\v=.str x c:=fun i v e=>by
  have L:items.toList[i]?=some v:=by rw[NH];exact e
  obtain⟨x,c,rfl⟩:=hi.all v (NZ.mpr ⟨i,L⟩);refine⟨x,c,?_,rfl⟩;rw[<-hi.strs,NB,L];rfl
 refine QjN ((Walks.list (show A.in1.handled=none by simp[P]) _ l C items).toS) s.heap.objs.size M (ledW w) g D N S (items.size-0) 0 _ rfl (NM _) ⟨⟨_,NA _ rfl,rfl,rfl⟩,p.push _⟩ (UZ (Nn _ hS)) fun y t G=>?_;obtain⟨h',U,d',u,z⟩:=y;have Y:U=s.gens:=t.gens;have Z:d'=s.drawn:=t.drawn;have X:z=s.os:=t.os;subst Y Z X;refine Nj (Nj ⟨rfl,h h' u G fun b o lt e=>?_⟩);refine t.heap b o ?_ (Nn _ (Nn _ e));simp only[NF,Ew,or_false,not_or];exact⟨NS lt,by rw[d];exact NS (DB lt)⟩
theorem set_list{l:Addr}{items:Array Value}{m:List Str}{Q:Value->Shared->Prop}(v:A.handled=none)(u:s.heap.IsList l items)(hi:StrsAre items.toList m)(x:items.size+1<scanBound)
  (h:∀(h':Heap) (tk:Nat),SetL prog w h' s.heap.objs.size (uniq m) (ledW w)->(∀b o,b<s.heap.objs.size->s.heap.get? b=some o->h'.get? b=some o)->Q (.ref s.heap.objs.size) { s with heap:=h',toks:=tk }) :
  wpAny (model prog w) A (call (.type "set") [.ref l]) Q E s:=by
 have body:∀(j:Around),j.handled=none->wpAny (model prog w) j (Builtin.«set.__init__» ⟨[.ref s.heap.objs.size,.ref l],[]⟩) (fun fin n=>fin=.done (.ret .none)/\Q (.ref s.heap.objs.size) n) E { s with heap:=s.heap.push (emptySet (ledW w)) }:=by
  intro j z;exact QjR z u hi x h
 obtain⟨c,B,p⟩:=EJ.mro;have M:=EJ.made;have L:=EJ.sub;refine wpAny_call (L9 (show wpAny _ _ (callAny (.type "set") _) _ _ _ from ?_));refine Nj ⟨F3 _ (by decide +kernel),EU (F.entry_type_call) ?_⟩;rw[Yak (Ov "set" [Value.ref l] []) rfl];have I:=EJ.notType;have H:=EJ.canCreate;have G:=F.typeCall_set_1 (Value.ref l)
 repeat (any_goals (first|assumption|wp_step))
 refine DJ (newL (Value.ref l) (E:=E) (Q₁:=fun obj f=>obj=.ref s.heap.objs.size/\f={ s with heap:=s.heap.push (emptySet (ledW w)) }) ⟨rfl,rfl⟩) fun r f hr=>?_;cases r with
 |error e=>exact hr
 | ok fl=>
  cases fl with
  | ret obj=>
   obtain⟨rfl,rfl⟩:=hr;have hS:(s.heap.push (emptySet (ledW w))).get? s.heap.objs.size=some (emptySet (ledW w)):=NA _ rfl;have y:Shared.TypeIs { s with heap:=s.heap.push (emptySet (ledW w)) } (.ref s.heap.objs.size) "set":=⟨_,hS,rfl⟩
   have D:=EJ.init.lookup;have C:=EJ.init.bind (.ref s.heap.objs.size)
   repeat (any_goals (first|assumption|wp_step))
   refine DJ (OO (R:=wants (fun r d=>r=.none/\Q (.ref s.heap.objs.size) d) E) EJ.init.plain F.entry_set_init (check_set_init_1 y (N4 (body _ (by simp[v])) (fun fin n q=>?_) fun _ _ q=>q))) fun i d a=>?_
   ·obtain⟨rfl,q⟩:=q;exact⟨rfl,q⟩
   ·cases i with
    |error e=>exact a
    | ok g=>
     cases g with
     |ret r=>
      obtain⟨rfl,q⟩:=a
      repeat (any_goals (first|assumption|wp_step))
     |_=>exact a.elim
  |_=>exact hr.elim
end
end St

namespace St
theorem slotN:Slot "set_iterator" "__next__" "set_iterator.__next__":=.of (owner:="set_iterator") (n:="__next__") (by rw[typeLookup_type,Ox];kernel_rfl) (by decide +kernel) (by decide +kernel) (by decide +kernel) (by first|exact .inl (by decide +kernel)|exact .inr (by decide +kernel)) (by rw[Oy];kernel_rfl)
theorem Qd4:entryFor table "set_iterator.__next__"=some Builtin.«set_iterator.__next__»:=entryFor_of_tree (by kernel_rfl)
theorem Qgu(a:Value):argsOk "set_iterator.__next__" ⟨[a],[]⟩:=by unfold argsOk;kernel_rfl
theorem Qhr:entryFor table "set.__iter__"=some Builtin.«frozenset.__iter__»:=entryFor_alias (id':="frozenset.__iter__") (by kernel_rfl) rfl (by decide +kernel) (by kernel_rfl)
theorem Kx{a:Type}{l:List a}{j:Nat}(lt:j<l.length):List.Perm (l[j]::l.eraseIdx j) l:=by
 rw[List.eraseIdx_eq_take_drop_succ];have e:l=l.take j++l[j]::l.drop (j+1):=by rw[<-EO lt,Eo]
 conv=>rhs;rw[e]
 exact YaG.symm
theorem Qau{a:Type}(nx:Nat->Nat):∀(f k:Nat) (l:List a) (o:Array a),f=l.length->List.Perm (pickOrder.go nx f k l o).toList (o.toList++l)
 |0,k,l,o,h=>by
  rw[Ep.mp h.symm,Dx];exact .rfl
 |f+1,k,l,o,h=>by
  unfold pickOrder.go;have lt:nx k%l.length<l.length:=LG _ (Ng (DN _) (Nq h));generalize nx k%l.length=j at lt;rw[No lt];refine(Qau nx f (k+1) (l.eraseIdx j) (o.push l[j]) (by rw[Lm lt];lia)).trans ?_;rw[DW,DC,List.singleton_append];exact FC _ (Kx lt)
theorem QaD{a:Type}(nx:Nat->Nat)(xs:Array a):List.Perm (pickOrder nx xs).toList xs.toList:=by
 have:=Qau nx xs.size 0 xs.toList #[] (by simp);simpa[pickOrder]using this
section
variable{prog:Program}{w:World}{A:Around}{E:Value->Shared->Prop}{s:Shared}
theorem Qg1{M:Model}{src:Source}{n:Nat}{Q:Nat->Shared->Prop}(a:n≠0)(h:∀j d,j<n->Q j { s with drawn:=d }):wpAny M A (choose src n) Q E s:=fun b p _=>by
 show Sem.wp M b (.choose src n fun i=>pure i) _ _ p s;rw[Sem.wp_choose];exact⟨a,h _ _ (LG _ (Nat.pos_of_ne_zero a))⟩
theorem Ys{c:Type}:∀(n:Nat) (xs:List c) (s:Shared) (Q:List c->Shared->Prop),n=xs.length->(∀b d,List.Perm b xs->Q b { s with drawn:=d })->wpAny (model prog w) A (drawOrder n xs) Q E s
 |0,xs,s,Q,a,h=>by
  have e:=Ep.mp a.symm;subst e;exact Nj (h [] s.drawn .rfl)
 |n+1,[],s,Q,a,h=>by cases a
 |n+1,x::xs,s,Q,a,h=>by
  unfold drawOrder;refine Na (Qg1 (by simp) fun j f lt=>?_);rw[No lt];refine Na (Ys n _ _ _ (by rw[Lm lt];simp at a ⊢;exact a) fun b d p=>Nj (h _ d ?_));exact(p.cons _).trans (Kx lt)
end
end St

namespace Sb
open PySem SetTable
noncomputable abbrev At(xs:Array Nat)(i:Nat):Nat:=xs.getD i 0
noncomputable def Up(xs:Array Nat):Prop:=∀i j,i<j->j<xs.size->At xs i<At xs j
theorem KL{xs:Array Nat}{j:Nat}(up:Up xs):∀(f lo hi:Nat),hi-lo<=f->lo<=hi->hi<=xs.size->(∀i,i<lo->At xs i<j)->(∀i,hi<=i->i<xs.size->j<=At xs i) ->
  below.go xs j f lo hi<=xs.size/\(∀i,i<below.go xs j f lo hi->At xs i<j)/\∀i,below.go xs j f lo hi<=i->i<xs.size->j<=At xs i
 |0,lo,hi,h1,p,l,h,g=>by
  have:lo=hi:=by lia
  subst this;exact⟨l,h,g⟩
 | f+1,lo,hi,h1,p,l,h,g=>by
  unfold below.go
  by_cases c:lo<hi
  ·rw[if_pos c];have o:(lo+hi)/2<xs.size:=by lia
   have e:xs.getD ((lo+hi)/2) j=At xs ((lo+hi)/2):=by simp[Array.getD,o]
   have rel:∀a b,a<=b->b<xs.size->At xs a<=At xs b:=fun a b n m=>by
    rcases Et a b with z|z
    ·exact Nl (up a b z m)
    ·rw[show a=b by exact Ek n z];exact Nu _
   dsimp only;rw[e]
   by_cases d:At xs ((lo+hi)/2)<j
   ·rw[if_pos d];exact KL up f _ hi (by omega) (by lia) l (fun i q=>Nd (rel i _ (by lia) o) d) g
   ·rw[if_neg d];exact KL up f lo _ (by omega) (by lia) (Nl o) h (fun i n m=>Nf (NQ.mp d) (rel _ i n m))
  ·rw[if_neg c];have:lo=hi:=by exact Ek p (NQ.mp c)
   subst this;exact⟨l,h,g⟩
theorem V0{xs:Array Nat}(up:Up xs)(j:Nat):below xs j<=xs.size/\(∀i,i<below xs j->At xs i<j)/\∀i,below xs j<=i->i<xs.size->j<=At xs i:=
 KL up xs.size 0 xs.size (ED _ _) (NM _) (Nu _) (fun i h=>absurd h (Da _)) (fun i b a=>by omega)
theorem Qdj{xs:Array Nat}(up:Up xs){i:Nat}(hi:i<xs.size):below xs (At xs i)=i:=by
 obtain⟨c,b,a⟩:=V0 up (At xs i)
 rcases Ik (below xs (At xs i)) i with z|z|z
 ·have:=a _ (Nu _) (N0 z hi);have:=up _ _ z hi;omega
 ·exact z
 ·exact absurd (b i z) (EG _)
theorem below_next{xs:Array Nat}(up:Up xs){i:Nat}(hi:i<xs.size):below xs (At xs i+1)=i+1:=by
 obtain⟨c,b,a⟩:=V0 up (At xs i+1)
 rcases Ik (below xs (At xs i+1)) (i+1)with z|z|z
 ·have:=a i (by omega) hi;lia
 ·exact z
 ·have:=b (i+1) z;have:=up i (i+1) (EI _) (Ng z c);omega
theorem below_zero{xs:Array Nat}(up:Up xs):below xs 0=0:=by
 obtain⟨c,a,b⟩:=V0 up 0
 rcases Nat.eq_zero_or_pos (below xs 0)with z|z
 ·exact z
 ·exact absurd (a 0 z) (Da _)
theorem at_get{xs:Array Nat}{i:Nat}(hi:i<xs.size):xs[i]?=some (At xs i):=by simp[Array.getD,hi]
theorem mem_at{xs:Array Nat}{j:Nat}:j∈xs.toList↔∃i,i<xs.size/\At xs i=j:=by
 rw[NZ];constructor
 ·rintro⟨i,a⟩
  rw[NH]at a;have b:i<xs.size:=(Lo.mp a).1;rw[at_get b]at a;exact⟨i,b,Eg a⟩
 ·rintro⟨i,a,e⟩
  exact⟨i,by rw[NH,at_get a,e]⟩
theorem YM{t:SetTable}(up:Up t.place){i:Nat}(hi:i<t.place.size):t.slot (At t.place i)=.live i:=by
 unfold slot;dsimp only;rw[Qdj up hi,at_get hi];simp
theorem U9{t:SetTable}(hd:t.dummies=#[]){j:Nat}(a:j∉t.place.toList):t.slot j=.empty:=by
 unfold slot;dsimp only
 have:(t.place[below t.place j]?==some j)=false:=by
  rw[beq_eq_false_iff_ne];intro z;refine a (NZ.mpr ⟨below t.place j,?_⟩);rw[NH];exact z
 rw[this,hd];rfl
noncomputable def adv(m:Nat)(p:Probe):Probe:=
 if p.more>0 then { p with j:=p.j+1,more:=p.more-1 }else
 let(i,perturb):=leap m p.i p.perturb
 { p with j:=i,more:=runEnd m i-i,i,perturb }
theorem Gg(t:SetTable)(p:Probe):t.advance p=adv t.mask p:=rfl
noncomputable def sq(m:Nat)(h:Int):Nat->Probe
 |0=>{ j:=bits h%(m+1),more:=runEnd m (bits h%(m+1))-bits h%(m+1),i:=bits h%(m+1),perturb:=bits h,dummy:=none }
 |n+1=>adv m (sq m h n)
noncomputable abbrev sj(m:Nat)(h:Int)(n:Nat):Nat:=(sq m h n).j
noncomputable def bk(m:Nat)(h:Int):Nat->Nat×Nat
 |0=>(bits h%(m+1),bits h)
 |k+1=>leap m (bk m h k).1 (bk m h k).2
noncomputable def ps(m:Nat)(h:Int):Nat->Nat
 |0=>0
 |k+1=>ps m h k+(runEnd m (bk m h k).1-(bk m h k).1)+1
theorem G9(m:Nat)(h:Int)(n i a:Nat)(e:sq m h n={ j:=i,more:=runEnd m i-i,i:=i,perturb:=a,dummy:=none }):∀c,c<=runEnd m i-i->sq m h (n+c)={ j:=i+c,more:=runEnd m i-i-c,i:=i,perturb:=a,dummy:=none }
 |0,_=>e
 |c+1,b=>by
  rw[show n+(c+1)=(n+c)+1 from rfl];show adv m (sq m h (n+c))=_;rw[G9 m h n i a e c (Nl b)];unfold adv;rw[if_pos (by show runEnd m i-i-c>0;omega)];rfl
theorem Qg7(m:Nat)(h:Int):∀k,sq m h (ps m h k)={ j:=(bk m h k).1,more:=runEnd m (bk m h k).1-(bk m h k).1,i:=(bk m h k).1,perturb:=(bk m h k).2,dummy:=none }
 |0=>rfl
 |k+1=>by
  show adv m (sq m h (ps m h k+(runEnd m (bk m h k).1-(bk m h k).1)))=_;rw[G9 m h _ _ _ (Qg7 m h k) _ (Nu _)];unfold adv;rw[if_neg (by show¬(runEnd m (bk m h k).1-(bk m h k).1-(runEnd m (bk m h k).1-(bk m h k).1)>0);lia)];rfl
theorem QcN(m:Nat)(h:Int)(k c:Nat)(a:c<=runEnd m (bk m h k).1-(bk m h k).1):sj m h (ps m h k+c)=(bk m h k).1+c:=by
 show(sq m h (ps m h k+c)).j=_;rw[G9 m h _ _ _ (Qg7 m h k) c a]
theorem KH(m:Nat)(h:Int):∀n,(sq m h n).dummy=none
 |0=>rfl
 |n+1=>by
  show(adv m (sq m h n)).dummy=none;unfold adv;split
  ·exact KH m h n
  ·exact KH m h n
theorem Qhw(m i:Nat):runEnd m i-i<=9:=by unfold runEnd;split<;>lia
theorem W1(m i:Nat):i<=runEnd m i:=by unfold runEnd;split<;>lia
theorem GP{m i:Nat}(hi:i<=m):runEnd m i<=m:=by unfold runEnd;split<;>omega
theorem Qh9(m:Nat)(h:Int):∀k,ps m h k<=10*k
 |0=>Nu _
 |k+1=>by
  have:=Qh9 m h k;have:=Qhw m (bk m h k).1;show ps m h k+(runEnd m (bk m h k).1-(bk m h k).1)+1<=_;lia
theorem QfD(m:Nat)(h:Int):∀k,(bk m h k).1<=m
 |0=>Ih (LG _ (DN _))
 |k+1=>Ih (LG _ (DN _))
theorem QgI(m:Nat)(h:Int):∀k,(bk m h k).2=bits h/32^k
 |0=>(Nat.div_one _).symm
 |k+1=>by
  show(bk m h k).2/32=_;rw[QgI m h k,Nat.div_div_eq_div_mul,Nat.pow_succ]
theorem Qfe(h:Int):bits h<2^64:=by
 unfold bits;have:=NV h (show(0:Int)<2^64 by decide);have:=NY h (show((2:Int)^64)≠0 by decide);lia
theorem Qhd(m:Nat)(h:Int){k:Nat}(a:13<=k):(bk m h k).2=0:=by
 rw[QgI];apply Nat.div_eq_of_lt;have:=Qfe h;have c:32^13<=32^k:=Nat.pow_le_pow_right (by decide) a;have b:(2:Nat)^64<=32^13:=by decide
 exact Ng (Ng this b) c
noncomputable def lcg(m:Nat):Nat->Nat->Nat
 |0,i=>i
 |r+1,i=>(lcg m r i*5+1)%(m+1)
theorem Qdl(m:Nat)(h:Int):∀r,(bk m h (12+r)).1=lcg m r (bk m h 12).1
 |0=>rfl
 |r+1=>by
  show((bk m h (12+r)).1*5+1+(bk m h (12+r)).2/32)%(m+1)=_;rw[Qdl m h r];have:(bk m h (12+r)).2/32=0:=Qhd m h (k:=12+r+1) (by lia);rw[this];rfl
theorem XQ(m:Nat)(a i:Nat):∀b,lcg m (a+b) i=lcg m b (lcg m a i)
 |0=>rfl
 |b+1=>by
  show(lcg m (a+b) i*5+1)%(m+1)=_;rw[XQ m a i b];rfl
noncomputable def orb(m:Nat):Nat->Nat->List Nat
 |0,_=>[]
 |r+1,i=>i::orb m r ((i*5+1)%(m+1))
theorem Qfi(m i:Nat):lcg m 1 i=(i*5+1)%(m+1):=rfl
theorem QaP(m:Nat):∀(r i x:Nat),x∈orb m r i->∃b,b<r/\lcg m b i=x
 |0,_,_,h=>nomatch h
 |r+1,i,x,h=>by
  rcases NF.mp h with rfl|h
  ·exact⟨0,by exact DN _,rfl⟩
  ·obtain⟨b,a,e⟩:=QaP m r _ x h;refine⟨1+b,by lia,?_⟩;rw[XQ,Qfi];exact e
noncomputable def KZ(m:Nat):Prop:=(List.range (m+1)).all (fun x=>(orb m (m+1) 0).contains x)=true/\lcg m (m+1) 0=0
theorem Qju:KZ 7:=by unfold KZ;decide +kernel
theorem QdK:KZ 31:=by unfold KZ;decide +kernel
theorem Qbs:KZ 127:=by unfold KZ;decide +kernel
theorem QaE:KZ 511:=by unfold KZ;decide +kernel
theorem Uz{m:Nat}(F:KZ m){x:Nat}(a:x<=m):∃b,b<m+1/\lcg m b 0=x:=by
 have:=EW.mp F.1 x (N9.mpr (Nd a (EI _)));rw[Op]at this;exact QaP m _ _ _ this
theorem Qej{m:Nat}(F:KZ m){i x:Nat}(hi:i<=m)(c:x<=m):∃r,r<m+1/\lcg m r i=x:=by
 obtain⟨a,e,rfl⟩:=Uz F hi;obtain⟨b,d,rfl⟩:=Uz F c
 by_cases h:a<=b
 ·exact⟨b-a,by exact Nd (ED _ _) d,by rw[<-XQ];congr 1;exact Dk h⟩
 ·refine⟨m+1-a+b,by lia,?_⟩;rw[<-XQ,show a+(m+1-a+b)=(m+1)+b by lia,XQ,F.2]
theorem QbD{m:Nat}(F:KZ m)(h:Int){x:Nat}(a:x<=m):∃k,k<=m+12/\(bk m h k).1=x:=by
 obtain⟨r,hr,e⟩:=Qej F (QfD m h 12) a;exact⟨12+r,by lia,(Qdl m h r).trans e⟩
theorem Qbn{a:Type}[BEq a][LawfulBEq a]:∀(l k:List a),l.Nodup->(∀x∈l,x∈k)->l.length<=k.length
 |[],_,_,_=>NM _
 |x::l,k,b,c=>by
  rw[Eu]at b;have e:=c x Nz;have:=Qbn l (k.erase x) b.2 fun y d=>(DZ (fun z=>b.1 (by rw[<-z];exact d))).mpr (c y (Nw _ d));rw[Dy e]at this;have:0<k.length:=Ir e;simp only[El];lia
theorem QdF{m:Nat}{l:List Nat}(b:l.length<=m):∃x,x<=m/\x∉l:=by
 refine EB fun z=>?_;have:=Qbn (List.range (m+1)) l YaH fun x a=>EB fun y=>z ⟨x,by have:=N9.mp a;lia,y⟩;rw[Fw]at this;exact Dq b this
theorem Gv{m:Nat}(F:KZ m)(h:Int){l:List Nat}(q:l.length<=m):∃N,N<=10*(m+12)/\sj m h N∉l/\∀n,n<N->sj m h n∈l:=by
 obtain⟨x,p,g⟩:=QdF q;obtain⟨k,t,e⟩:=QbD F h p
 have s:sj m h (ps m h k)∉l:=by
  have:=QcN m h k 0 (NM _);rw[FY,FY,e]at this;rw[this];exact g
 have u:=Qh9 m h k
 have:∀n,sj m h n∉l->∃N,N<=n/\sj m h N∉l/\∀n,n<N->sj m h n∈l:=by
  intro n
  induction n using Nat.strongRecOn with
  |ind n o=>
   intro g
   by_cases c:∃a,a<n/\sj m h a∉l
   ·obtain⟨a,j,r⟩:=c;obtain⟨N,i,d,b⟩:=o a j r;exact⟨N,by exact Nl (Nd i j),d,b⟩
   ·exact⟨n,Nu _,g,fun a f=>EB fun z=>c ⟨a,f,z⟩⟩
 obtain⟨N,i,d,b⟩:=this _ s;exact⟨N,by lia,d,b⟩
end Sb

namespace St
theorem Qdn:Slot "set_iterator" "__iter__" "set_iterator.__iter__":=.of (owner:="set_iterator") (n:="__iter__") (by rw[typeLookup_type,Ox];kernel_rfl) (by decide +kernel) (by decide +kernel) (by decide +kernel) (by first|exact .inl (by decide +kernel)|exact .inr (by decide +kernel)) (by rw[Oy];kernel_rfl)
theorem Qey:entryFor table "set_iterator.__iter__"=some Builtin.«dict_keyiterator.__iter__»:=entryFor_alias (id':="dict_keyiterator.__iter__") (by kernel_rfl) rfl (by decide +kernel) (by kernel_rfl)
theorem Qiu(a:Value):argsOk "set_iterator.__iter__" ⟨[a],[]⟩:=by unfold argsOk;kernel_rfl
section
variable{prog:Program}{w:World}{A:Around}{E:Value->Shared->Prop}{s:Shared}
noncomputable abbrev QcY(f:Value)(i:Nat)(S:Addr)(n ep:Nat):Obj:={ cls:=.type "set_iterator",data:=.fields #[f,.int i 0,.ref S,.int n 0,.int ep 0] }
inductive How(w:World)(S T:Addr)(h:Heap)(es:Array (Int×Value))(ep:Nat)(t:SetTable)(vs:List Value):Nat->Value->Prop where
 |tup {i:Nat} {ps:List Nat} (hT:h.get? T=some { cls:=.type "tuple",data:=.seq (ps.map fun(p:Nat)=>rawInt p).toArray 0 }) (hl:ps.length=vs.length) (hp:∀(j p:Nat),ps[j]?=some p->∃e,es[p]?=some e/\vs[j]?=some e.2):How w S T h es ep t vs i (.ref T)
 |text {i:Nat} (c:Nat) (hb:w.params.followText "set-order"=true) (hv:vs=(pickOrder (w.params.setOrder S ep) es).toList.map (·.2)):How w S T h es ep t vs i (.int c 0)
 |slots {i:Nat} (c:Nat) (hb:w.params.followText "set-order"=false) (hled:t.led=true) (hs:t.plain=true\/es.size<=1) (hv:vs=es.toList.map (·.2)) (hc:SetTable.below t.place c=i):How w S T h es ep t vs i (.int c 0)
noncomputable def ItT(w:World)(I S T:Addr)(vs:List Value)(i:Nat)(h:Heap):Prop:=
 ∃f o a b t,h.get? I=some (QcY f i S vs.length b)/\h.get? S=some o/\o.data=.set a b t/\t.fits a.size=true/\(t.plain=true\/a.size<=1->Sb.Up t.place)/\a.size=vs.length/\How w S T h a b t vs i f
theorem Ue{t:SetTable}{n:Nat}(a:t.fits n=true):t.place.size=n:=by
 simp only[SetTable.fits,NX,beq_iff_eq]at a;exact a.1
theorem How.keep{S T:Addr}{h h':Heap}{es:Array (Int×Value)}{ep:Nat}{t:SetTable}{vs:List Value}{i:Nat}{f:Value}(x:How w S T h es ep t vs i f)(k:∀o,h.get? T=some o->h'.get? T=some o):How w S T h' es ep t vs i f:=by
 cases x with
 |tup m j g=>exact .tup (k _ m) j g
 |text c d b=>exact .text c d b
 |slots c d a e b l=>exact .slots c d a e b l
theorem QeW(k:Nat):rawInt (k:Int)=Value.int k 0:=rfl
theorem QlM{f x a b c d:Value}:(#[f,a,b,c,d]:Array Value).setIfInBounds 0 x=#[x,a,b,c,d]:=by rfl
theorem QlO{f x a b c d:Value}:(#[f,a,b,c,d]:Array Value).setIfInBounds 1 x=#[f,x,b,c,d]:=by rfl
theorem W5{h:Heap}{I S:Addr}{f:Value}{i n ep:Nat}(e:h.get? I=some (QcY f i S n ep))(k:Nat)(x:Value):(h.update I (Obj.mapFields (·.setIfInBounds k x))).get? I=some { cls:=.type "set_iterator",data:=.fields ((#[f,.int i 0,.ref S,.int n 0,.int ep 0]:Array Value).setIfInBounds k x) }:=Ei _ e rfl
theorem Qld{h:Heap}{I S:Addr}{f x y:Value}{i n ep:Nat}(e:h.get? I=some (QcY f i S n ep)):((h.update I (Obj.mapFields (·.setIfInBounds 0 x))).update I (Obj.mapFields (·.setIfInBounds 1 y))).get? I=some { cls:=.type "set_iterator",data:=.fields #[x,y,.ref S,.int n 0,.int ep 0] }:=by
 have g1:=W5 e 0 x;rw[QlM]at g1;exact Ei (Obj.mapFields (·.setIfInBounds 1 y)) g1 rfl
theorem Xi{S:Addr}{o:Obj}{es:Array (Int×Value)}{ep c i:Nat}{t:SetTable}{Q:Option (Value×Nat)->Shared->Prop}(f:s.heap.get? S=some o)(d:o.data=.set es ep t)(b:t.fits es.size=true)(a:w.params.followText "set-order"=true)
  (h:Q (((pickOrder (w.params.setOrder S ep) es)[i]?).map fun e=>(e.2,c)) s):wpAny (model prog w) A (setNext S c i ep) Q E s:=by
 unfold setNext;refine Na (EM f d b ?_);dsimp only;unfold setsByText;refine Na (Na (D9 (Nj ?_)));show wpAny _ _ (if(w.params.followText "set-order")=true then _ else _) _ _ _;rw[if_pos a];rw[if_neg (by simp)];refine Na ?_;unfold setWalk;refine Na (EM f d b ?_);dsimp only;unfold setsByText;refine Na (Na (D9 (Nj ?_)));show wpAny _ _ (if(w.params.followText "set-order")=true then _ else _) _ _ _;rw[if_pos a];refine Na (D9 (Nj ?_));exact Nj h
theorem Yb{S:Addr}{o:Obj}{es:Array (Int×Value)}{ep p:Nat}{t:SetTable}{e:Int×Value}{Q:Value->Shared->Prop}(d:s.heap.get? S=some o)(c:o.data=.set es ep t)(b:t.fits es.size=true)(a:es[p]?=some e)(h:Q e.2 s):wpAny (model prog w) A (setNextDrawn S p ep) Q E s:=by
 unfold setNextDrawn;refine Na (EM d c b ?_);dsimp only;rw[if_neg (by simp),a];exact Nj h
theorem VY{S:Addr}{o:Obj}{es:Array (Int×Value)}{ep c i:Nat}{t:SetTable}{Q:Option (Value×Nat)->Shared->Prop}(g:s.heap.get? S=some o)(f:o.data=.set es ep t)(e:t.fits es.size=true)(d:w.params.followText "set-order"=false)(a:t.led=true)(b:t.plain=true\/es.size<=1)
  (h:Q (match es[SetTable.below t.place c]?,t.place[SetTable.below t.place c]? with|some (_,x),some j=>some (x,j+1)|_,_=>none) s):wpAny (model prog w) A (setNext S c i ep) Q E s:=by
 unfold setNext;refine Na (EM g f e ?_);dsimp only;unfold setsByText;refine Na (Na (D9 (Nj ?_)));show wpAny _ _ (if(w.params.followText "set-order")=true then _ else _) _ _ _;rw[if_neg (by rw[d];simp)];show wpAny _ _ (if(!t.plain&&decide (es.size>1))=true then _ else _) _ _ _
 rw[if_neg (by
  rcases b with z|z
  ·rw[z];simp
  ·have:¬es.size>1:=by exact NQ.mpr z
   simp[this])]
 show wpAny _ _ ((if(!t.led&&!es.isEmpty)=true then unsupported "set:maker-not-led"else pure ())>>=_) _ _ _;rw[if_neg (by rw[a];simp)];exact Na (Nj (Nj h))
theorem Qah{I S T:Addr}{vs:List Value}{i:Nat}{Q:Option Value->Shared->Prop}(H:S≠I)(G:T≠I)(st:ItT w I S T vs i s.heap)(hi:i<vs.length)
  (hQ:∀v h',vs[i]?=some v->ItT w I S T vs (i+1) h'->Heap.SameBut I s.heap h'->Q (some v) { s with heap:=h' }):wpAny (model prog w) A (pyNext (.ref I)) Q E s:=by
 obtain⟨f,o,n,L,t,m,u,r,l,up,h,hw⟩:=st;have Z:s.TypeIs (.ref I) "set_iterator":=⟨_,m,rfl⟩
 unfold pyNext;refine Na (Iv (Ey (name:=Str.ofString "__next__") Z slotN (Ef slotN Z Qd4 ?_ (Qgu _))));unfold Builtin.«set_iterator.__next__»;refine Na (Nj (Na (FA m rfl ?_)));dsimp only;refine Na (IT u r l ?_);rw[if_neg (by simp[h])];have d:∀(x y:Value),Heap.SameBut I s.heap ((s.heap.update I (Obj.mapFields (·.setIfInBounds 0 x))).update I (Obj.mapFields (·.setIfInBounds 1 y))):=fun x y=>(NR ..).trans (NR ..)
 have U:∀(x:Value) (nx:Nat),vs[i]?=some x->How w S T s.heap n L t vs (i+1) (.int nx 0)->wpAny (model prog w) A.in1 (do
   setField (Value.ref I) 0 (rawInt (nx:Int))
   setField (Value.ref I) 1 (rawInt ((i:Int)+1))
   ret x) (fun fin M=>∃v,fin=Fin.done (Flow.ret v)/\wpAny (model prog w) A (pure (some v)) Q E M) (fun e M=>wpAny (model prog w) A (do if(<-isInstance e (Value.type "StopIteration"))=true then pure none else throw e) Q E M) s:=by
  intro x nx hx N;refine Na (Dd m rfl (by simp) (Na (Dd (W5 m 0 _) rfl (by simp) (Nj ⟨x,rfl,Nj (hQ x _ hx ?_ (d _ _))⟩))));refine⟨.int nx 0,o,n,L,t,Qld m,?_,r,l,up,h,N.keep fun o' e=>?_⟩
  ·rw[(d _ _).2 S H];exact u
  ·rw[(d _ _).2 T G];exact e
 cases hw with
 |@tup ps D Y X=>
  simp only[Ez];refine Na (D4 D rfl ?_);dsimp only;have j:ps[i]?=some ps[i]:=No (Ng hi (Nq Y.symm));generalize ps[i]=q at j;obtain⟨e,he,z⟩:=X i q j;have:((ps.map fun(p:Nat)=>rawInt p).toArray)[i]?=some (Value.int (q:Int) 0):=by simp[j,QeW]
  rw[this];dsimp only;refine Na (Yb u r l (p:=q) he (Na (Dd m rfl (by simp) (Nj ⟨e.2,rfl,Nj (hQ e.2 _ z ?_ (NR ..))⟩))));have P:Heap.SameBut I s.heap (s.heap.update I (Obj.mapFields (·.setIfInBounds 1 (rawInt ((i:Int)+1))))):=NR ..;refine⟨.ref T,o,n,L,t,?_,by rw[P.2 S H];exact u,r,l,up,h,How.keep (.tup D Y X) fun o' e=>by rw[P.2 T G];exact e⟩;have g:=W5 m 1 (rawInt ((i:Int)+1));rw[QlO]at g;exact g
 |text c C z=>
  simp only[Ez];refine Na (Xi u r l (i:=i) (c:=c) C ?_);subst z;have a:i<(pickOrder (w.params.setOrder S L) n).size:=by simpa using hi
  rw[NI a];exact U _ c (by rw[NB,NH,NI a];rfl) (.text c C rfl)
 |slots c C b O z hc=>
  simp only[Ez];refine Na (VY u r l (i:=i) (c:=c) C b O ?_);subst z;have a:i<n.size:=by simpa using hi
  have B:i<t.place.size:=by rw[Ue l];exact a
  rw[hc,NI a,Sb.at_get B];exact U n[i].2 (Sb.At t.place i+1) (by rw[NB,NH,NI a];rfl) (.slots _ C b O rfl (Sb.below_next (up O) B))
theorem Uf{B:Around}{Q:Option Value->Shared->Prop}(d:B.handled=none)(f:∀h',(∀b o,s.heap.get? b=some o->h'.get? b=some o)->Q none { s with heap:=h' }) :
  wpAny (model prog w) B (newExc (.type "StopIteration") []>>=raiseNew) (fun(fin:Fin) c=>∃v,fin=Fin.done (Flow.ret v)/\wpAny (model prog w) A (pure (some v)) Q E c) (fun e c=>wpAny (model prog w) A (do if(<-isInstance e (Value.type "StopIteration"))=true then pure none else throw e) Q E c) s:=by
 refine Na ?_;simp only[newExc,newTuple];refine Na (Eh ?_ (by size_fits));refine Na (m:=firstArgMember _ _) (Of (a:=Value.none) (by first|rfl|(simp only[firstArgMember];rfl)) (Eh ?_ (by size_fits)));simp only[raiseNew];refine Na (O0 ?_);rw[d];refine Na (Nj (wpAny_throw ?_));refine Na (Ix (T:="StopIteration") (b:=true) ⟨_,NA _ rfl,rfl⟩ isSubtype_stop ?_);refine Nj (f _ ?_);exact fun b o e=>Nn _ (Nn _ e)
theorem Qcw{I S T:Addr}{vs:List Value}{Q:Option Value->Shared->Prop}(G:A.handled=none)(M:S≠I)(L:T≠I)(st:ItT w I S T vs vs.length s.heap)
  (y:∀h',Heap.ExtBut I s.heap h'->Q none { s with heap:=h' }):wpAny (model prog w) A (pyNext (.ref I)) Q E s:=by
 obtain⟨f,o,B,N,t,h,r,q,n,up,d,hw⟩:=st;have x:s.TypeIs (.ref I) "set_iterator":=⟨_,h,rfl⟩
 unfold pyNext;refine Na (Iv (Ey (name:=Str.ofString "__next__") x slotN (Ef slotN x Qd4 ?_ (Qgu _))));unfold Builtin.«set_iterator.__next__»;refine Na (Nj (Na (FA h rfl ?_)));dsimp only;refine Na (IT r q n ?_);rw[if_neg (by simp[d])];have z:A.in1.handled=none:=G
 have one:wpAny (model prog w) A.in1 (do
   setField (Value.ref I) 2 Value.none
   raiseNew (<-newExc (Value.type "StopIteration") [])) (fun(fin:Fin) j=>∃v,fin=Fin.done (Flow.ret v)/\wpAny (model prog w) A (pure (some v)) Q E j) (fun e j=>wpAny (model prog w) A (do if(<-isInstance e (Value.type "StopIteration"))=true then pure none else throw e) Q E j) s:=by
  refine Na (Dd h rfl (by simp) (Uf z fun h' k=>y h' fun b l a e=>k b l ?_));rw[(NR ..).2 b a];exact e
 cases hw with
 |@tup ps m D O=>
  simp only[Ez];refine Na (D4 m rfl ?_);dsimp only;rw[show((ps.map fun(p:Nat)=>rawInt p).toArray)[vs.length]?=none by simp[D]];refine Na (Dd h rfl (by simp) (Na (Dd (W5 h 0 _) rfl (by simp) (Uf z fun h' k=>y h' fun b l a e=>k b l ?_))));rw[((NR s.heap I _).trans (NR ..)).2 b a];exact e
 |text c a u=>
  simp only[Ez];refine Na (Xi r q n (i:=vs.length) (c:=c) a ?_);rw[show(pickOrder (w.params.setOrder S N) B)[vs.length]?=none by rw[u];simp];exact one
 |slots c a g C u H=>
  simp only[Ez];refine Na (VY r q n (i:=vs.length) (c:=c) a g C ?_);rw[H,show B[vs.length]?=none from Ip (Nq d)];exact one
theorem Qi3{I S T:Addr}{vs:List Value}{i:Nat}{Q:Value->Shared->Prop}(st:ItT w I S T vs i s.heap)(h:Q (.ref I) s):wpAny (model prog w) A (pyIter (.ref I)) Q E s:=by
 obtain⟨f,o,c,d,t,b,_⟩:=st;have a:s.TypeIs (.ref I) "set_iterator":=⟨_,b,rfl⟩
 refine Lz a Qdn (Ef Qdn a Qey ?_ (Qiu _));exact Nj ⟨_,rfl,"set_iterator",_,a,slotN.lookup,h⟩
theorem Qiq(u:A.handled=none)(I S T:Addr)(d:S≠I)(c:T≠I)(vs:List Value) :
  Walks prog w A I [I,S,T] [I] vs.length (fun i v=>vs[i]?=some v) (fun i h=>ItT w I S T vs i h) where
 sub:=fun b a=>by simp at a;simp[a]
 frame:=fun i h g ⟨f,o,B,C,t,H,G,D,y,up,l,hw⟩ k=>⟨f,o,B,C,t,k I (by simp) _ H,k S (by simp) _ G,D,y,up,l,hw.keep fun o e=>k T (by simp) o e⟩
 item:=fun i s Q E r st m=>Qah d c st r fun v g p j n=>m v g s.toks p j fun b o a e=>by rw[n.2 b (fun z=>a (by simp[z]))];exact e
 done:=fun s Q E st m=>Qcw u d c st fun g x=>m g s.toks fun b o a e=>x b o (fun z=>a (by simp[z])) e
 self:=fun i s Q E st q=>Qi3 st q
noncomputable abbrev atP(es:Array (Int×Value))(i:Nat):Value:=(es.getD i (0,.none)).2
theorem UT{es:Array (Int×Value)}{ps:List Nat}(p:ps.Perm (List.range es.size)):(ps.map (atP es)).Perm (es.toList.map (·.2))/\∀(j q:Nat),ps[j]?=some q->∃e,es[q]?=some e/\(ps.map (atP es))[j]?=some e.2:=by
 constructor
 ·refine(p.map _).trans ?_
  have:(List.range es.size).map (atP es)=es.toList.map (·.2):=by
   apply DA;intro j;rw[NB,NB]
   by_cases lt:j<es.size
   ·simp[atP,Array.getD,lt]
   ·rw[En (by simpa using lt),En (by simpa using lt)];rfl
  rw[this]
 ·intro j q a;have lt:q<es.size:=N9.mp (p.mem_iff.mp (NZ.mpr ⟨j,a⟩));refine⟨es[q],NI lt,?_⟩;rw[NB,a];simp[atP,Array.getD,lt]
theorem Qjn{S:Addr}{o:Obj}{es:Array (Int×Value)}{ep:Nat}{t:SetTable}{Q:Value->Shared->Prop}(f:s.heap.get? S=some o)(N:o.ExactSet)(u:o.data=.set es ep t)(q:t.fits es.size=true)(up:t.plain=true\/es.size<=1->Sb.Up t.place)(x:t.led=ledW w)(hz:es.size<=sizeLine)
  (h:∀h' d I T (vs:List Value),(∀b o,s.heap.get? b=some o->h'.get? b=some o)->s.heap.objs.size<=I->(T=S\/s.heap.objs.size<=T)->S≠I->T≠I->vs.Perm (es.toList.map (·.2))->vs.length=es.size->ItT w I S T vs 0 h'->Q (.ref I) { s with heap:=h',drawn:=d }) :
  wpAny (model prog w) A (pyIter (.ref S)) Q E s:=by
 have D:s.TypeIs (.ref S) "set":=⟨o,f,N.1⟩
 have l:=ND f;refine Lz D F.slot_set_iter (Ef F.slot_set_iter D Qhr ?_ (F.args_set_iter_1 _));unfold Builtin.«frozenset.__iter__» Builtin.Frozenset.slot0;refine Na (Na (Nj (Nj ?_)));unfold Builtin.Frozenset.sizeOf;refine Na (Na (IT f u q (Nj ?_)));refine Na (Na (EM f u q ?_));dsimp only;unfold setsByText;refine Na (Na (D9 (Nj (Nj ?_))));show wpAny _ _ (if(!(w.params.followText "set-order")&&(!t.plain&&decide (es.size>1)))=true then _ else _) _ _ _
 have made:∀(c:Int) (vs:List Value),c=0->vs.Perm (es.toList.map (·.2))->How w S S (s.heap.push (QcY (.int (0:Nat) 0) 0 S es.size ep)) es ep t vs 0 (.int (0:Nat) 0)->wpAny (model prog w) A.in1 (do
   let first <-pure (rawInt c)
   ret (<-newFields "set_iterator" [first,rawInt 0,Value.ref S,rawInt (es.size:Int),rawInt ((<-setEpoch S):Int)])) (fun fin C=>∃v,fin=Fin.done (Flow.ret v)/\∃G r,C.TypeIs v G/\typeLookup (Value.type G) (Str.ofString "__next__")=pure (some r)/\Q v C) E s:=by
  intro c vs P p hw;subst P;refine Na (Nj (Na (wpAny_setEpoch_of f u q (Na (Eh (Nj ⟨_,rfl,"set_iterator",_,⟨_,NA _ rfl,rfl⟩,slotN.lookup,?_⟩))))));have a:es.size=vs.length:=by rw[p.length_eq,Ny,Nr]
  refine h _ s.drawn s.heap.objs.size S vs (fun b M e=>Nn _ e) (Nu _) (.inl rfl) (NS l) (NS l) p a.symm ?_;exact⟨.int (0:Nat) 0,o,es,ep,t,by rw[<-a];exact NA _ rfl,Nn _ f,u,q,up,a,hw⟩
 cases n:w.params.followText "set-order"with
 |true=>
  rw[if_neg (by simp)];exact made 0 ((pickOrder (w.params.setOrder S ep) es).toList.map (·.2)) rfl ((QaD _ es).map _) (.text 0 n rfl)
 | false=>
  have m:t.led=true:=by rw[x];simp[ledW,n]
  by_cases B:t.plain=false/\es.size>1
  ·rw[if_pos (by simp[B.1,B.2])];refine Na (Ys es.size (List.range es.size) s _ (by simp) fun ps d p=>?_);have y:ps.length=es.size:=by rw[p.length_eq,Fw]
   refine Na (wpAny_newTuple ?_ (by rw[Ny,y];exact hz));refine Na (wpAny_setEpoch_of (s:={ s with drawn:=d,heap:=s.heap.push { cls:=.type "tuple",data:=.seq (ps.map fun(i:Nat)=>rawInt i).toArray } }) (Nn _ f) u q ?_);refine Na (Eh (Nj ⟨_,rfl,"set_iterator",_,⟨_,NA _ rfl,rfl⟩,slotN.lookup,?_⟩));obtain⟨L,H⟩:=UT p;have a:es.size=(ps.map (atP es)).length:=by rw[Ny,y]
   have g:(s.heap.push { cls:=.type "tuple",data:=.seq (ps.map fun(i:Nat)=>rawInt i).toArray }).objs.size=s.heap.objs.size+1:=F8 _ _;refine h _ d _ s.heap.objs.size (ps.map (atP es)) (fun b M e=>Nn _ (Nn _ e)) (by show s.heap.objs.size<=(s.heap.push _).objs.size;rw[g];exact Np _ _) (.inr (Nu _)) (by show S≠(s.heap.push _).objs.size;rw[g];exact NS (DB l)) (by show s.heap.objs.size≠(s.heap.push _).objs.size;rw[g];exact NS (EI _)) L a.symm ?_;refine⟨.ref s.heap.objs.size,o,es,ep,t,by rw[<-a];exact NA _ rfl,Nn _ (Nn _ f),u,q,up,a,.tup (ps:=ps) (Nn _ (NA _ rfl)) (by rw[<-a,y]) H⟩
  ·have j:t.plain=true\/es.size<=1:=by
    cases O:t.plain with
    |true=>exact .inl rfl
    |false=>
     right
     rcases Et 1 es.size with z|z
     ·exact absurd ⟨O,z⟩ B
     ·exact z
   rw[if_neg (by
    rcases j with z|z
    ·rw[z];simp
    ·have:¬es.size>1:=by exact NQ.mpr z
     simp[this])]
   exact made 0 (es.toList.map (·.2)) rfl .rfl (.slots 0 n m j rfl (Sb.below_zero (up j)))
theorem Qji{S:Addr}{Q:Bool->Shared->Prop}(d:s.TypeIs (.ref S) "set")(h:Q false s):wpAny (model prog w) A (Builtin.List.listLengthHint (.ref S)) Q E s:=by
 unfold Builtin.List.listLengthHint;refine Na (IG d F.slot_set_len.lookup ?_);generalize a:("set.__len__":String)=c
 wp_delta
 rw[show splitId c=some ("set","__len__")from by subst a;decide +kernel];subst a;refine Na (Ix (T:="set") (b:=true) d (by rw[Oy];kernel_rfl) ?_);refine IK (fun z=>absurd z (by decide)) (fun _=>IK (fun _=>?_) (fun z=>absurd (by decide +kernel) z));exact Na (FU d (Nj h))
noncomputable abbrev lsO(xs:Array Value)(c:Nat):Obj:={ cls:=.type "list",dict:=none,data:=.seq xs c,slots:=#[] }
theorem Qep{R:Result->Shared->Prop}{S N:Addr}{o:Obj}{es:Array (Int×Value)}{ep:Nat}{t:SetTable}(hh:A.handled=none)(E:s.heap.get? S=some o)(L:o.ExactSet)(e3:o.data=.set es ep t)(ft:t.fits es.size=true)(up:t.plain=true\/es.size<=1->Sb.Up t.place)(y:t.led=ledW w)(m:N≠S)(res:Value)(i:Nat)(hN:s.heap.get? N=some (lsO #[] i))(hz:es.size<=sizeLine)
  (hR:∀h' d tk (vs:List Value) r,vs.Perm (es.toList.map (·.2))->(∀b o,b≠N->s.heap.get? b=some o->h'.get? b=some o)->h'.get? N=some (lsO vs.toArray r)->R (.ok (.ret res)) { s with heap:=h',drawn:=d,toks:=tk }) :
  wpAny (model prog w) A.in1 (Builtin.List.listExtendWith (.ref N) (.ref S) res) (fun fin l=>match fin with|.done f=>R (.ok f) l|.again r=>r.quiet=true/\codeAny (model prog w) A r R l) (fun e l=>R (.error e) l) s:=by
 unfold Builtin.List.listExtendWith;refine Na (FU (T:="set") ⟨o,E,L.1⟩ ?_);have n1:Builtin.List.listSameRef (.ref N) (.ref S)=false:=by simp[Builtin.List.listSameRef,m]
 have n2:(Value.type "set"==Value.type "list")=false:=by decide
 have n3:(Value.type "set"==Value.type "tuple")=false:=by decide
 simp only[n1,n2,n3,OY,NT,if_false];refine Na (Qjn E L e3 ft up y hz fun Z d I T vs D hI O Q P str M st=>?_);have n:=D _ _ hN;have v:N<s.heap.objs.size:=ND hN;have X:N≠I:=fun z=>absurd hI (by rw[<-z];exact Fm.mpr v)
 have U:N≠T:=by
  rcases O with z|z
  ·rw[z];exact m
  ·exact fun e=>absurd z (by rw[<-e];exact Fm.mpr v)
 have nf:N∉[I,S,T]:=by
  simp only[NF,Ew,or_false,not_or];exact⟨X,m,U⟩
 have W:=Qiq (prog:=prog) (w:=w) (A:=A.in1.in1) (by simp[hh]) I S T Q P vs
 have key:∀(C:Heap) (a:Nat),ItT w I S T vs 0 C->(∀b o,b≠N->s.heap.get? b=some o->C.get? b=some o)->C.get? N=some (lsO #[] a)->codeAny (model prog w) A (.builtin "list.extend.loop" ⟨[.ref N,.ref I,res],[]⟩) R { s with heap:=C,drawn:=d }:=by
  intro C a H k2 g;refine codeAny_extend_loopS (Walks.of_in1 W).toS (by rw[M];exact hz) N nf res vs.length 0 _ #[] a rfl (NM _) H g (ItemsOf.nil _) fun l p r hm B h=>?_;rw[Moved.eq_with hm]
  have ea:p=vs.toArray:=by
   apply Array.ext_getElem?;intro j
   by_cases G:j<p.size
   ·have q:=h.2 j p[j] (NI G);rw[NI G,IC,q]
   ·rw[Ip (NQ.mp G),IC,En (by have:=h.1;exact Nf (Nq this.symm) (NQ.mp G))]
  rw[ea]at B;refine hR l.heap d l.toks vs r str (fun b o c e=>hm.heap b o (fun x=>?_) (k2 b o c e)) B
  rcases NF.mp x with z|z
  ·exact c z
  ·rw[NG.mp z]at e;exact absurd (ND e) (NQ.mpr hI)
 refine Na (N8 (Qji ⟨o,D _ _ E,L.1⟩ ?_));refine IK (fun _=>?_) (fun _=>Nj ⟨Iw O7 _,key Z i st (fun b o _ e=>D b o e) n⟩);refine Na (DI (Na ?_));show wpAny _ _ (updateSeq N (·.push .none)>>=fun _=>updateSeq N (·.pop)) _ _ _;refine Na (L6 n rfl ?_);have g:=Ei (Obj.mapSeq (·.push Value.none)) n rfl;refine L6 (hz:=by seq_fits) g rfl ?_;have Y:=Ei (Obj.mapSeq (·.pop)) g rfl;have u:∀b o,b≠N->Z.get? b=some o->((Z.update N (Obj.mapSeq (·.push Value.none))).update N (Obj.mapSeq (·.pop))).get? b=some o:=fun b o c e=>(EF _ _ (DH c)).trans ((EF _ _ (DH c)).trans e);refine Nj ⟨Iw O7 _,key _ _ (W.frame 0 _ _ st fun b c o e=>u b o (fun z=>nf (by rw[<-z];exact c)) e) (fun b o c e=>u b o c (D b o e)) Y⟩
theorem collectW{S:Addr}{o:Obj}{es:Array (Int×Value)}{ep:Nat}{t:SetTable}{Q:List Value->Shared->Prop}(u:A.handled=none)(m:s.heap.get? S=some o)(p:o.ExactSet)(y:o.data=.set es ep t)(x:t.fits es.size=true)(up:t.plain=true\/es.size<=1->Sb.Up t.place)(j:t.led=ledW w)(hz:es.size<=sizeLine)
  (h:∀h' d tk (vs:List Value),vs.Perm (es.toList.map (·.2))->(∀b o,s.heap.get? b=some o->h'.get? b=some o)->s.heap.objs.size<=h'.objs.size->Q vs { s with heap:=h',drawn:=d,toks:=tk }):wpAny (model prog w) A (collect (.ref S)) Q E s:=by
 unfold collect;refine Na (IX (EU OP (show wpAny _ _ (do again (.builtin "list.__iadd__" ⟨[<-newList [],.ref S],[]⟩)) _ _ s from ?_)));refine Na (Fi (Nj ⟨F3 _ (by decide +kernel),EU (entry_list_iadd') ?_⟩));have l:=ND m;rw[De F.plain_list_iadd _]
 have fin:∀(r:Result) (c:Shared),(r=.ok (.ret (.ref s.heap.objs.size))/\∃h' d tk,∃vs:List Value,∃g,vs.Perm (es.toList.map (·.2))/\(∀b o,s.heap.get? b=some o->h'.get? b=some o)/\h'.get? s.heap.objs.size=some (lsO vs.toArray g)/\c={ s with heap:=h',drawn:=d,toks:=tk })->(match r with
   | .ok (.ret v)=>wpAny (model prog w) A (match v with
    |.ref a=>do
     match (<-load a).data with
     |.seq n _=>pure n.toList
     |_=>unsupported "internal:collect"
    |_=>unsupported "internal:collect") Q E c
   |.ok _=>False
   |.error e=>E e c):=by
  rintro r c ⟨rfl,h',d,tk,vs,g,str,k,hN,rfl⟩
  refine Na (wpAny_load hN ?_);show wpAny _ _ (pure vs.toArray.toList) Q E _;rw[EL];exact Nj (h h' d tk vs str k (Nl (ND hN)))
 refine N4 (Qep (A:=A) (s:={ s with heap:=s.heap.push (lsO #[] 0) }) (R:=fun r c=>r=.ok (.ret (.ref s.heap.objs.size))/\∃h' d tk,∃vs:List Value,∃g,vs.Perm (es.toList.map (·.2))/\(∀b o,s.heap.get? b=some o->h'.get? b=some o)/\h'.get? s.heap.objs.size=some (lsO vs.toArray g)/\c={ s with heap:=h',drawn:=d,toks:=tk }) u (Nn _ m) p y x up j (D6 l) (.ref s.heap.objs.size) 0 (NA _ rfl) hz fun h' d tk vs g str k hN=>⟨rfl,h',d,tk,vs,g,str,fun b o e=>k b o (NS (ND e)) (Nn _ e),hN,rfl⟩) ?_ ?_
 ·intro f c q;cases f with
  |done f=>exact fin _ _ q
  |again g=>exact⟨q.1,DJ q.2 fun r i hr=>fin r i hr⟩
 ·intro e c q;exact fin _ _ q
end
end St

namespace St
theorem Kr:∀(ks a:List Str),ks.Nodup->(∀k∈ks,k∈a)->a.length=ks.length->a.Perm ks
 |[],a,_,_,h=>by rw[Ep.mp h]
 |k::r,a,b,c,h=>by
  have e:=c k Nz;rw[Eu]at b;refine(IL e).trans (List.Perm.cons k (Kr r (a.erase k) b.2 (fun x d=>?_) ?_))
  ·exact(DZ (fun z=>b.1 (by rw[<-z];exact d))).mpr (c x (Nw _ d))
  ·rw[Dy e,h];rfl
section
variable{prog:Program}{w:World}{A:Around}{E:Value->Shared->Prop}{s:Shared}
theorem Qec{h:Heap}{a:Addr}{ks:List Str}{led:Bool}{es:Array (Int×Value)}{vs:List Value}(h1:ElemsOf (strKind prog w) es.toList)(n:ks.Nodup)(m:es.size=ks.length)(l:∀k,k∈ks↔∃e∈es.toList,(strKind prog w).is k e.2=true)(p:vs.Perm (es.toList.map (·.2))):∃j,StrsAre vs j/\j.Perm ks:=by
 have b:∀v∈vs,∃x c,v=.str x c:=fun v b=>by
  obtain⟨e,g,rfl⟩:=NE.mp (p.mem_iff.mp b);obtain⟨⟨k,f,_⟩,_⟩:=h1 e g;obtain⟨c,i⟩:=IR f;exact⟨k,c,i⟩
 refine⟨vs.map strOf,strsAre_map vs b,Kr ks _ n (fun k f=>?_) ?_⟩
 ·obtain⟨e,g,d⟩:=(l k).mp f;obtain⟨c,i⟩:=IR d;exact NE.mpr ⟨e.2,p.mem_iff.mpr (NE.mpr ⟨e,g,rfl⟩),by rw[i];rfl⟩
 ·rw[Ny,p.length_eq,Ny,Nr,m]
theorem QdW{t:SetTable}{n:Nat}(b:t.fits n=true)(c:n<=1):Sb.Up t.place:=fun i j d a=>by
 rw[Ue b]at a;omega
theorem Qc9{S:Addr}{ks:List Str}{Q:List Value->Shared->Prop}(q:A.handled=none)(hS:SetL prog w s.heap S ks (ledW w))(hz:ks.length<=sizeLine)
  (h:∀h' d tk vs,(∃l,StrsAre vs l/\l.Perm ks)->(∀b o,s.heap.get? b=some o->h'.get? b=some o)->s.heap.objs.size<=h'.objs.size->Q vs { s with heap:=h',drawn:=d,toks:=tk }):wpAny (model prog w) A (collect (.ref S)) Q E s:=by
 obtain⟨o,x,B,t,u,n,r,i,v,j,e,f,g,m,c⟩:=hS;refine collectW q u n r j (fun z=>?_) e (by rw[m];exact hz) fun h' d tk vs p=>h h' d tk vs (Qec (h:=s.heap) (a:=S) (led:=true) i g m c p)
 rcases z with z|z
 ·rcases f with y|y
  ·exact QdW j (Nl (Nd (Nq y) (by decide)))
  ·rw[z]at y;cases y
 ·exact QdW j z
theorem sortedS'{S:Addr}{ks:List Str}{Q:Value->Shared->Prop}(v:A.handled=none)(hS:SetL prog w s.heap S ks (ledW w))(hz:ks.length<64)
  (h:∀(D:Addr) h' d tk (vs:List Value) (i:List Str) c,StrsAre vs i->i.Perm ks->sortedS i=true->(∀b o,s.heap.get? b=some o->h'.get? b=some o)->s.heap.objs.size<=D->h'.get? D=some (lsO vs.toArray c)->Q (.ref D) { s with heap:=h',drawn:=d,toks:=tk }) :
  wpAny (model prog w) A (call (.builtin "sorted") [.ref S]) Q E s:=by
 refine D0 Og LQ LR (LS _) ?_;unfold Builtin.«sorted»;refine Na (m:=checkCount "sorted" 1 1 _) (Nj (Na (Qc9 (by simp[v]) hS (by rw[Db];exact Nl (N0 hz (by decide))) fun n d tk vs str r l=>?_)));obtain⟨i,st,pm⟩:=str;have g:vs.length<64:=by rw[Ou st,pm.length_eq];exact hz
 refine Na (Fi ?_ (by rw[Db];exact Nl (N0 g (by decide))));have a:(n.push (seqObj "list" vs.toArray 0)).get? n.objs.size=some (seqObj "list" vs.toArray 0):=NA _ rfl;refine Na (N8 (Ef IY ⟨_,a,rfl⟩ IM (list_sort_treeK (κ:=PyProof.Rows.strKind) strKind_oneLt a st.keysOf (fun q p rest e=>keyKind_strs (by rw[<-e];exact st)) g fun f G C=>⟨_,rfl,?_⟩) (IZ _)));obtain⟨j,B,z,y⟩:=sorted_out_str st G C;obtain⟨c,x⟩:=sortedHeap_at (out:=(arrOf f).map (·.2)) a;refine Nj ⟨_,rfl,h n.objs.size _ d tk ((arrOf f).map (·.2)).toList j c B (z.trans pm) y (fun b o e=>?_) l ?_⟩
 ·have t:=Nn (seqObj "list" vs.toArray 0) (r b o e);rw[sortedHeap_old (NS (ND (r b o e))) (ND t)];exact t
 ·rw[OQ];exact x
end
end St

namespace St
theorem le_of_lt{a b:Str}:ltCps b.cps.toList a.cps.toList=false↔a.cps.toList<=b.cps.toList:=by
 rw[ltCps_eq,decide_eq_false_iff_not];exact Iff.rfl
theorem Xa:∀(x:Str) (r:List Str),risingS x r=true->∀z∈r,x.cps.toList<=z.cps.toList
 |x,[],_,z,hz=>by cases hz
 |x,y::r,h,z,hz=>by
  have h':(!ltCps y.cps.toList x.cps.toList&&risingS y r)=true:=h;rw[NX,Il]at h';have a:=le_of_lt.mp h'.1
  rcases NF.mp hz with rfl|hz
  ·exact a
  ·exact List.le_trans a (Xa y r h'.2 z hz)
theorem X2{x:Str}{r:List Str}(h:sortedS (x::r)=true):sortedS r=true:=by
 cases r with
 |nil=>rfl
 |cons y r=>
  have a:(!ltCps y.cps.toList x.cps.toList&&risingS y r)=true:=h;rw[NX]at a;exact a.2
theorem str_eq{a b:Str}(h:a.cps.toList=b.cps.toList):a=b:=by
 obtain⟨a⟩:=a;obtain⟨b⟩:=b;congr 1;exact YaI.mp h
theorem JC:∀(a b:List Str),a.Perm b->sortedS a=true->sortedS b=true->a=b
 |[],b,p,_,_=>(List.nil_perm.mp p).symm
 |x::r,[],p,_,_=>by cases List.perm_nil.mp p
 | x::r,y::t,p,d,c=>by
  have e:x=y:=by
   have g:y∈x::r:=p.mem_iff.mpr Nz;have f:x∈y::t:=p.mem_iff.mp Nz
   rcases NF.mp g with z|z
   ·exact z.symm
   ·rcases NF.mp f with q|q
    ·exact q
    ·exact str_eq (YaJ (Xa x r d y z) (Xa y t c x q))
  subst e;rw[JC r t (Yal p) (X2 d) (X2 c)]
open Classical in
noncomputable def srt(ks:List Str):List Str:=if h:∃a:List Str,a.Perm ks/\sortedS a=true then h.choose else[]
theorem srt_eq{a ks:List Str}(p:a.Perm ks)(h:sortedS a=true):srt ks=a:=by
 have b:∃a:List Str,a.Perm ks/\sortedS a=true:=⟨a,p,h⟩
 unfold srt;rw[dif_pos b];exact JC _ _ (b.choose_spec.1.trans p.symm) b.choose_spec.2 h
end St
namespace Mi
open L2
noncomputable def txW:List W->Option (List Str)
 |[]=>some []
 |.str x::r=>(txW r).map (x::·)
 |_=>none
@[simp]theorem Qf3(l:List Str):txW (l.map .str)=some l:=by
 induction l with
 |nil=>rfl
 |cons x l a=>rw[NC,txW,a];rfl
theorem Qdr:∀{ws:List W} {a:List Str},txW ws=some a->ws=a.map .str
 |[],a,e=>by cases e;rfl
 |.str x::r,a,e=>by
  obtain⟨t,c,b⟩:=Nk.mp e;subst b;rw[Qdr c];rfl
theorem QdA{K:Nh}{R:Rn}:∀{a:List Str} {xs:List V} {us:List Value},Rws K R (a.map .str) xs->Vals xs us->StrsAre us a
 |[],xs,us,r,v=>by
  rw[FV,Rws.nil_iff]at r;subst r;cases v;exact .nil
 | x::a,xs,us,r,v=>by
  rw[NC]at r;unfold Rws at r;obtain⟨y,e,rfl,b,d⟩:=r;unfold Rw at b;subst b;cases v with
  |cons h t=>
   obtain⟨c,rfl⟩:=h;exact .cons x c (QdA d t)
theorem Wq{K:Nh}{R:Rn}:∀{d:List Str} {us:List Value},StrsAre us d->Vals (d.map V.str) us/\Rws K R (d.map W.str) (d.map V.str)
 |[],_,.nil=>⟨.nil,by unfold Rws;rfl⟩
 |_::_,_,.cons x c h=>by
  obtain⟨a,b⟩:=Wq (K:=K) (R:=R) h;refine⟨.cons ⟨c,rfl⟩ a,?_⟩;rw[NC,NC];unfold Rws;exact⟨_,_,rfl,by unfold Rw;rfl,b⟩
noncomputable def QlZ(ws:List W)(h:MH):Option (W×MH):=match ws with
 |[a]=>(lsW h a).bind fun c=>(txW c).bind fun b=>if b.length<64 then some (.lst ((St.srt b).map .str),h)else none
 |_=>none
noncomputable def Z5(ws:List W)(h:MH):Option (W×MH):=match ws with
 |[a]=>(lsW h a).bind fun c=>(txW c).bind fun b=>if b.length<4000/\(St.uniq b).length<64 then some (.ref h.length,h++[.lst ((St.srt (St.uniq b)).map .str)])else none
 |_=>none
section
variable{X:Cx}
theorem Inv.drew{a:List (Addr×Obj)}{σ:L2.St}{H:Hp}{s:Shared}(I:Inv X a σ H s)(d:Drawn):Inv X a σ H { s with drawn:=d }:=⟨I.ok,I.os,I.bare,I.base,I.loc,I.cell,I.free,I.freeC,I.pin,I.hok,I.len⟩
theorem Xf{e:Expr}{me:ME}{p1 O l g:Pos}(Y:X.calm=true)(hg:Gl X "sorted")(hm:X.mg "sorted"=none)(E:Gl X "set")(A:X.mg "set"=none)(he:PM X e me)(U:JS e=false:=by rfl) :
  PM X (.Call (.Name "sorted" p1) [.Call (.Name "set" O) [e] [] g] [] l) (mFn Z5 (Qa me Qd)):=by
 intro m s σ H Q I ⟨R,p,h,w,h',rh,st,e1,P⟩;obtain⟨⟨as,h2⟩,e2,e3⟩:=Nc.mp e1;obtain⟨⟨a,Z⟩,e4,e5⟩:=Nc.mp e2;obtain⟨⟨bs,h3⟩,e6,e7⟩:=Nc.mp e5;cases e6;cases e7;refine Dr (Vq I hg hm LX (Fl ?_ (QG rfl) (Z1 rfl)) (by decide) (by decide));rw[QG (e:=.Call (.Name "set" O) [e] [] g) rfl];refine Fk (Dr (Vq I E A boot_set (EV ?_ (QG U) (Z1 rfl)) (by decide) (by decide)));rw[QG U];refine Fk (thn (he m s σ H (fun v H2=>∃R2,Ext R R2/\Rh X.K R2 Z H2/\Rw X.K R2 a v) I ⟨R,p,h,a,Z,rh,st,e4,fun R2 H2 v x f z=>⟨R2,x,f,z⟩⟩) fun u M ⟨v,H1,I1,ru,R2,x2,f,z⟩=>Fv ?_);obtain⟨ys,e8,e9⟩:=Nc.mp e3;obtain⟨ss,G,j⟩:=Nc.mp e9;split at j
 ·rename_i S;cases j;obtain⟨ad,xs,rfl,q1,N⟩:=f.lsAt z e8;cases ru;rw[Qdr G]at N;obtain⟨aa,rv,pl,hl⟩:=I1.list q1;have hS:=QdA N rv;have B:=Ou hS;refine St.set_list (I1.ok.hd Y) pl.isList (by rw[EL];exact hS) (by rw[Nt,B];show ss.length+1<4096;lia) fun g1 r i k1=>Fv ?_;refine St.sortedS' (s:={ M with heap:=g1,toks:=r }) (I1.ok.hd Y) i S.2 fun D g2 d q vs L c b1 b2 b3 k2 C hD=>?_;obtain⟨v1,v2⟩:=Wq (K:=X.K) (R:=R2) b1;have n:M.heap.objs.size<=D:=Nf (Nl i.lt) C;have hp:=I1.hok.fresh n;have eq:=St.srt_eq b2 b3;obtain⟨R3,x3,y,t⟩:=f.new (mo:=.lst (L.map .str)) (o:=.lst (L.map V.str)) hp fun R' x'=>⟨_,rfl,(Wq (K:=X.K) (R:=R') b1).2⟩
  rw[eq]at P;refine⟨.ref D,_,Inv.drew (I1.laid (t':=q) (fun b o e=>k2 b o (k1 b o (ND e) e)) n (show ObjOk X.prog X.w _ _ _ (.lst _)from⟨?_,vs,c,v1,hD⟩)) d,rfl,P R3 _ _ (x2.trans x3) y t⟩;rw[Ny,b2.length_eq,Db];exact Nl (N0 S.2 (by decide))
 ·cases j
end
end Mi

namespace St
open AutoSeq1 (wpAny_loadPart')
theorem Qdf(l:Addr)(items:Array Value)(n:Nat)(dct:Option Addr)(j:Array (Option Value)) :
  Meets (Builtin.«enumerate.__new__» ⟨[.type "enumerate",.ref l],[]⟩) (fun _ R s=>s.heap.get? l=some { cls:=.type "tuple",dict:=dct,data:=.seq items n,slots:=j } /\
   R (.ok (.ret (.ref (s.heap.push { cls:=.type "tuple_iterator",data:=.fields #[.ref l,.int 0 0] }).objs.size)))
    { s with heap:=(s.heap.push { cls:=.type "tuple_iterator",data:=.fields #[.ref l,.int 0 0] }).push { cls:=.type "enumerate",data:=.fields #[.none,.bool false,.ref s.heap.objs.size,rawInt 0,.none,.none] } }):=
 .of_wp fun e w A R s h=>by
  obtain⟨m,g,d,i,os⟩:=s;obtain⟨a,h⟩:=h;have f:=sub_enumerate;have b:Heap.IsTuple (Shared.heap ⟨m,g,d,i,os⟩) l items:=⟨_,a,rfl,n,rfl⟩
  wp_walk using E9 a
  refine wpAny_stack_any fun st=>Nj ?_;split
  ·rename_i c _ _ _ _ _;cases(c==Value.type "enumerate")
   ·wp_walk using E9 a,FW b
    exact⟨_,rfl,h⟩
   ·wp_walk using E9 a,FW b
    exact⟨_,rfl,h⟩
  ·wp_walk using E9 a,FW b
   exact⟨_,rfl,h⟩
section
variable{prog:Program}{w:World}{A:Around}{E:Value->Shared->Prop}{s:Shared}
theorem enumT{l:Addr}{items:Array Value}{Q:Value->Shared->Prop}(i:s.heap.IsTuple l items)
  (h:∀h',IsEnum h' (s.heap.objs.size+1) s.heap.objs.size 0 .none->h'.IsTupleIter s.heap.objs.size l 0->(∀b o,s.heap.get? b=some o->h'.get? b=some o)->Q (.ref (s.heap.objs.size+1)) { s with heap:=h' }) :
  wpAny (model prog w) A (call (.type "enumerate") [.ref l]) Q E s:=by
 obtain⟨⟨c,dct,j,f⟩,g,e,n,hd⟩:=i;simp only at e hd;subst e hd;refine callType_new F.called_enumerate (by decide) (F.typeCall_enumerate_1 _) (F.newCall_enumerate_1 _) (fun obj=>F.args_object_init_2 obj _) F.entry_enumerate_new (Qdf l items n dct f) ⟨g,?_⟩;have a:(s.heap.push { cls:=.type "tuple_iterator",data:=.fields #[.ref l,.int 0 0] }).objs.size=s.heap.objs.size+1:=F8 ..;show _/\_;rw[a]
 have d:IsEnum ((s.heap.push { cls:=.type "tuple_iterator",data:=.fields #[.ref l,.int 0 0] }).push { cls:=.type "enumerate",data:=.fields #[.none,.bool false,.ref s.heap.objs.size,rawInt 0,.none,.none] }) (s.heap.objs.size+1) s.heap.objs.size 0 .none:=by
  rw[<-a];exact NA _ rfl
 exact⟨⟨_,d,rfl⟩,h _ d ⟨_,Nn _ (NA _ rfl),rfl,rfl⟩ fun b o x=>Nn _ (Nn _ x)⟩
theorem U6{it l:Addr}{i:Nat}{items:Array Value}{x:Value}{Q:Value->Shared->Prop}(hit:s.heap.IsTupleIter it l i)(e:s.heap.IsTuple l items)(d:items[i]?=some x)
  (g:∀h',h'.IsTupleIter it l (i+1)->Heap.SameBut it s.heap h'->Q x { s with heap:=h' }):wpAny (model prog w) A (Builtin.SmallTypes.nextOf (.ref it)) Q E s:=by
 obtain⟨o,a,f,hd⟩:=id hit;obtain⟨ol,b,_,nl,c⟩:=e;unfold Builtin.SmallTypes.nextOf;refine Na (Ey (name:=Str.ofString "__next__") hit.typeIs DU (Ef DU hit.typeIs Ld ?_ (I0 _)));refine(show wpAny _ _ (field (.ref it) 0>>=_) _ _ s from Na (FN a hd (x:=.ref l) rfl (show wpAny _ _ (if(Value.ref l==Value.none)=true then _ else _) _ _ s from ?_)));rw[if_neg (show¬((Value.ref l==Value.none)=true)from Eb)];refine(show wpAny _ _ (field (.ref it) 1>>=_) _ _ s from Na (FN a hd (x:=.int i 0) rfl ?_));refine(show wpAny _ _ (seqItems? (.ref l)>>=_) _ _ s from Na (D4 b c ?_));simp only[Ez,d];refine Na (Dd a hd (by simp) (Nj ⟨x,rfl,Nj (g _ ⟨_,Ei _ a (Os (F0 hd _)),(Yat ..).trans f,by rw[F0 hd];simp[rawInt]⟩ (NR ..))⟩))
theorem GM{it l:Addr}{i:Nat}{items:Array Value}{Q:Value->Shared->Prop}(f:A.handled=none)(hit:s.heap.IsTupleIter it l i)(h:s.heap.IsTuple l items)(g:items[i]?=none)
  (j:∀h' e,Heap.ExtBut it s.heap h'->(∃o,h'.get? e=some o/\o.cls=.type "StopIteration")->E (.ref e) { s with heap:=h' }):wpAny (model prog w) A (Builtin.SmallTypes.nextOf (.ref it)) Q E s:=by
 obtain⟨o,c,n,hd⟩:=id hit;obtain⟨ol,b,_,nl,d⟩:=h;unfold Builtin.SmallTypes.nextOf;refine Na (Ey (name:=Str.ofString "__next__") hit.typeIs DU (Ef DU hit.typeIs Ld ?_ (I0 _)));refine(show wpAny _ _ (field (.ref it) 0>>=_) _ _ s from Na (FN c hd (x:=.ref l) rfl (show wpAny _ _ (if(Value.ref l==Value.none)=true then _ else _) _ _ s from ?_)));rw[if_neg (show¬((Value.ref l==Value.none)=true)from Eb)];refine(show wpAny _ _ (field (.ref it) 1>>=_) _ _ s from Na (FN c hd (x:=.int i 0) rfl ?_));refine(show wpAny _ _ (seqItems? (.ref l)>>=_) _ _ s from Na (D4 b d ?_));simp only[Ez,g];refine Na (DI (Na (Dd c hd (by simp) (Na ?_))));simp only[newExc,newTuple];refine Na (Eh ?_ (by size_fits));refine Na (m:=firstArgMember _ _) (Of (a:=Value.none) (by first|rfl|(simp only[firstArgMember];rfl)) (Eh ?_ (by size_fits)));simp only[raiseNew];refine Na (O0 ?_)
 first|rw[show A.in1.handled=none from f]|rw[f]
 exact Na (Nj (wpAny_throw (j _ _ (((NR ..).extBut.push _).push _) ⟨_,NA _ rfl,rfl⟩)))
theorem tit_at{h h':Heap}{a t:Addr}{i:Nat}(x:h.IsTupleIter a t i)(e:∀o,h.get? a=some o->h'.get? a=some o):h'.IsTupleIter a t i:=let⟨o,b,r⟩:=x;⟨o,e _ b,r⟩
theorem Qgt{h h':Heap}{a:Addr}{items:Array Value}(x:h.IsTuple a items)(e:∀o,h.get? a=some o->h'.get? a=some o):h'.IsTuple a items:=let⟨o,b,r⟩:=x;⟨o,e _ b,r⟩
theorem drawsT(g:A.handled=none)(it l:Addr)(b:l≠it)(items:Array Value):Draws prog w A it [it,l] items.size (fun i v=>items[i]?=some v) (fun i h=>h.IsTupleIter it l i/\h.IsTuple l items) where
 live:=fun _ _ x=>let⟨o,h,_⟩:=x.1;⟨o,h⟩
 frame:=fun _ _ _ st d=>⟨tit_at st.1 fun o e=>d it (by simp) o e,Qgt st.2 fun o e=>d l (by simp) o e⟩
 item:=fun i s Q E f st j=>U6 st.1 st.2 (x:=items[i]) (by simp[f]) fun n a c=>j _ n s.toks (by simp[f]) ⟨a,st.2.extBut c.extBut b⟩ c
 done:=fun s Q E st m=>GM g st.1 st.2 (by simp) m
end
end St

namespace L2
noncomputable def Ite(K:Nh)(a:Addr)(n:Nat):It:=
  ⟨fun i H=>i<n/\∃b,SqT K H a b/\b.length=n,
   fun i H v c=>∃T x,v=.ref T/\H T=none/\c=upd H T (.tup [.int i,x])/\∀b,SqT K H a b->b[i]?=some x,
   fun i H=>n<=i/\∃b,SqT K H a b/\b.length=n⟩
theorem GQ{P:Program}{w:World}{K:Nh}{g:List Expr}{kk:Nat}{pos:Pos}(l e it:Addr)(n:Nat)(c:e≠it)(D:l≠e)(C:l≠it):Turn P w K (.Tuple g kk pos) (Ite K l n) [e,it] e (fun i h=>i<=n/\(∃old,IsEnum h e it i old)/\h.IsTupleIter it l i) where
 mem:=by simp
 obj:=fun i h st b d=>by
  obtain⟨_,⟨old,j⟩,⟨o1,O,c1,d1⟩⟩:=st;have m:b=e\/b=it:=by simpa using d
  rcases m with rfl|rfl
  ·exact⟨_,j,fun v q=>nomatch q⟩
  ·exact⟨o1,O,fun v q=>by rw[d1]at q;cases q⟩
 keep:=fun i h h' st k=>by
  obtain⟨y,⟨old,j⟩,h1⟩:=st;exact⟨y,⟨old,k e (by simp) _ j⟩,St.tit_at h1 fun o x=>k it (by simp) o x⟩
 item:=by
  intro X N hw hK hc i B s σ H E I hf st hg;subst N hw hK;obtain⟨y,Q,Z,hn⟩:=hg;obtain⟨a,Y,p,hz⟩:=I.tuple Z;have hl:=Y.length;obtain⟨_,S,U⟩:=st;have W:=Yax (prog:=X.prog) (w:=X.w) (St.drawsT (A:=X.A.in1) (I.ok.hd hc) it l C a.toArray) e c (by simp[c,DH D]) (by simp);refine W.item i s _ _ (by rw[Nt];exact Ng (Ng y (Nq hn.symm)) (Nq hl)) ⟨S,U,p⟩ fun T vals h' tk N hT L f hk=>?_;obtain⟨t,u,hu,rfl⟩:=N;refine⟨.ref T,rfl,W.go g kk pos i T _ _ _ f fun ah M G=>?_⟩;obtain⟨x,hx⟩:∃x,Q[i]?=some x:=⟨Q[i]'(Ng y (Nq hn.symm)),No _⟩
  obtain⟨v,hv,r⟩:=Y.get hx;have O:v=u:=by have:=hu;rw[IC,hv]at this;exact Eg this
  subst O;have ae:=W.apart i T _ f
  have af:IsTup ah T #[.int i t,v]:=by
   obtain⟨o,ho,ab,q⟩:=L;exact⟨o,G T o ae ho,ab,q⟩
  have ag:=I.hok.fresh hT;refine⟨.ref T,_,I.turnedN (ch:=[e,it]) (t':=tk) (xs:=[.int i,x]) (fun b o d e=>G b o d (hk b o d e)) hf hT ⟨by simp[Db],[.int i t,v],.cons ⟨t,rfl⟩ (.cons r .nil),af⟩,rfl,⟨T,x,rfl,ag,rfl,fun ys hy=>by rw[I.tuple_inj hy Z];exact hx⟩,⟨y,M.1,M.2.1⟩,fun b d=>?_⟩;rw[Qt (fun q=>?_)]
  ·exact(hf b d).1
  ·obtain⟨o,ho,_⟩:∃o,s.heap.get? b=some o/\True:=by
    obtain⟨old,j⟩:=S;obtain⟨o1,O,_⟩:=U;have m:b=e\/b=it:=by simpa using d
    rcases m with rfl|rfl
    ·exact⟨_,j,trivial⟩
    ·exact⟨o1,O,trivial⟩
   rw[q]at ho;exact absurd (ND ho) (NQ.mpr hT)
 done:=by
  intro X N hw hK hc i B s σ H E I hf st hg;subst N hw hK;obtain⟨y,Q,Z,hn⟩:=hg;obtain⟨a,Y,p,hz⟩:=I.tuple Z;have hl:=Y.length;obtain⟨ai,S,U⟩:=st;have W:=Yax (prog:=X.prog) (w:=X.w) (St.drawsT (A:=X.A.in1) (I.ok.hd hc) it l C a.toArray) e c (by simp[c,DH D]) (by simp);have aa:a.toArray.size=i:=by rw[Nt];lia
  refine W.done s _ _ (by rw[aa];exact⟨S,U,p⟩) fun h' tk hk=>⟨rfl,?_⟩
  exact I.turnedL (ch:=[e,it]) (fun b o d e=>hk b o d e) hf (fun _ _ e=>e) (fun _ _ _ n=>n) fun b u n e=>by rw[n]at e;cases e
 self:=fun _ _ _ _ _ st h=>let⟨_,j⟩:=st.2.1;wpAny_pyIter_enum j h
noncomputable def Qjf(K:Nh)(f:TA):TI:=fun d H R=>f d H fun e c=>∃a b,e=[.ref a]/\SqT K c a b/\R (Ite K a b.length) c
theorem Qe9{X:Cx}{j:List Expr}{y:Nat}{d:Pos}{a:Expr}{l:TA}{p pos:Pos}(G:Gl X "enumerate")(D:X.mg "enumerate"=none)(L:PA X [a] l)(A:starEach [a] X.env=[(false,eval a X.env)]:=by rfl) :
  PI X (.Tuple j y d) (.Call (.Name "enumerate" p) [a] [] pos) (Qjf X.K l):=by
 intro f s r H R I h;refine Call_ (Vq I G D boot_enumerate (EV (thn (L pos f s r H _ I h) fun O c ⟨N,M,I1,w,x⟩=>?_) A rfl));obtain⟨ad,t,e,B,q⟩:=x;subst e;obtain⟨u,rfl,v⟩:=Xb w;cases v;obtain⟨z,Q,m,S⟩:=I1.tuple B;have g:ad<c.heap.objs.size:=let⟨_,C,_⟩:=m;ND C
 refine St.enumT m fun U n hit E=>wpAny_pyIter_enum n ?_;refine⟨c.heap.objs.size+1,[c.heap.objs.size+1,c.heap.objs.size],_,_,M,rfl,I1.kept (t':=c.toks) E,GQ ad _ _ t.length (Nat.succ_ne_self _) (NS (DB g)) (NS g),⟨NM _,⟨_,n⟩,hit⟩,fun b o=>?_,q⟩
 have i:c.heap.objs.size<=b:=by
  simp at o
  rcases o with h|h<;>(rw[h];first|exact Nu _|exact Np _ _)
 exact I1.fpOk i (I1.hok.fresh i)
end L2
namespace Mi
open L2
noncomputable def VA(ws:List W):List W:=ws.zipIdx.map fun q=>.tup [.int q.2,q.1]
noncomputable def XW(ms:MA):MI:=fun a h=>(ms a h).bind fun p=>match p.1 with
 |[.tup b]=>some (VA b,none,p.2)
 |_=>none
section
variable{K:Nh}{R:Rn}
theorem QbQ{a:Addr}{xs:List V}{ws:List W}(l:SqT K R.F a xs)(r:Rws K R ws xs):ItOk K R (Ite K a xs.length) (VA ws) none where
 go:=fun i w p h H x d _ e=>by
  have c:=(Nm.mp e).1;have g:=r.length;unfold VA at c;rw[Ny,Yam]at c;exact⟨by exact Ng c (Nq g),xs,Zm (fun b o z=>d.sub b o (x.f b o z)) l,rfl⟩
 yld:=fun i w p h H x E e d _ m q=>by
  obtain⟨T,B,rfl,t,rfl,s⟩:=q;unfold VA at m;rw[NB,OR]at m;obtain⟨⟨D,j⟩,A,rfl⟩:=Nk.mp m;obtain⟨C,y,u⟩:=Nk.mp A;cases u;obtain⟨v,g1,g2⟩:=r.get y;have n:=s xs (Zm (fun b o z=>d.sub b o (e.f b o z)) l);rw[g1]at n;cases n;rw[NJ];exact d.tup t (Rws.cons (by unfold Rw;rfl) (Rws.cons (Rw.mono e _ _ g2) Rws.nil))
 stop:=fun i p h H x d _ c=>by
  have g:=r.length;unfold VA at c;rw[Ny,Yam]at c;exact⟨by exact Nf (Nq g.symm) c,xs,Zm (fun b o z=>d.sub b o (x.f b o z)) l,rfl⟩
end
section
variable{X:Cx}{tg a:Expr}{ms:MA}{p pos tpos:Pos}{elts:List Expr}{kk:Nat}
theorem W2(t:Gl X "enumerate")(s:X.mg "enumerate"=none)(u:PMA X [a] ms)(r:starEach [a] X.env=[(false,eval a X.env)]:=by rfl):PMI X (.Tuple elts kk tpos) (.Call (.Name "enumerate" p) [a] [] pos) (XW ms):=
 GW (Qe9 t s u r) fun z H C ⟨R,c,h,items,m,D,q,st,e,k⟩=>by
  obtain⟨⟨l,w⟩,x,d⟩:=Nc.mp e;refine⟨R,c,h,l,w,q,st,x,fun R1 y A j b n=>?_⟩;split at d
  ·rename_i B g;simp only at g;subst g;cases d;obtain⟨v,rfl,f⟩:=XO n;unfold Rw at f;obtain⟨ad,i,rfl,hF,o⟩:=f;exact⟨ad,i,rfl,Zm b.sub hF,k R1 y _ j b (QbQ hF o)⟩
  ·cases d
end
end Mi

namespace Dc
section
variable{prog:Program}{w:World}{A:Around}{E:Value->Shared->Prop}{s:Shared}
end
end Dc

namespace Dc
section
variable{prog:Program}{w:World}{K:Type}[DecidableEq K]{knd:KeyKind prog w K}{A:Around}{E:Value->Shared->Prop}{s:Shared}
noncomputable def PairAt(knd:KeyKind prog w K)(h:Heap)(v:Value)(p:K×Value):Prop:=∃a o n key,v=.ref a/\h.get? a=some o/\o.cls=.type "tuple"/\o.data=.seq #[key,p.2] n/\knd.is p.1 key=true
theorem PairAt.keep{h h':Heap}{v:Value}{p:K×Value}(x:PairAt knd h v p)(k:∀a o,v=.ref a->h.get? a=some o->h'.get? a=some o):PairAt knd h' v p:=by
 obtain⟨a,o,n,key,rfl,e,d,c,b⟩:=x;exact⟨a,o,n,key,rfl,k a o rfl e,d,c,b⟩
end
end Dc

namespace Dc
open PySem.W
section
variable{prog:Program}{w:World}{A:Around}{E:Value->Shared->Prop}{s:Shared}
end
end Dc

namespace Dc
open PySem.W
section
variable{prog:Program}{w:World}{A:Around}{E:Value->Shared->Prop}{s:Shared}
theorem Wp{h:Heap}:∀(as:List Addr),(∀a∈as,∃x t u,h.get? a=some { cls:=.type "tuple",data:=.seq #[.str x t,u] })->∃fs,KatTups h (as.map Value.ref) fs/\fs.length=as.length/\∀f∈fs,∃x t,f=Value.str x t
 |[],_=>⟨[],trivial,rfl,fun _ c=>nomatch c⟩
 |a::as,d=>by
  obtain⟨x,t,u,e⟩:=d a Nz;obtain⟨fs,l,j,i⟩:=Wp as fun b g=>d b (Nw _ g);refine⟨.str x t::fs,KatTups.cons e rfl rfl (by simp) l,by simp[j],fun f c=>?_⟩
  rcases NF.mp c with rfl|c
  ·exact⟨x,t,rfl⟩
  ·exact i f c
end
end Dc

namespace Dc
open PySem.W
section
variable{prog:Program}{w:World}{A:Around}{E:Value->Shared->Prop}{s:Shared}
end
end Dc

namespace Mi
open L2
section
variable{X:Cx}{pins:List (Addr×Obj)}{σ:L2.St}{H H':Hp}{s:Shared}{h':Heap}
end
section
variable{K:Nh}{h:MH}
end
end Mi

namespace Mi
open L2
section
variable{X:Cx}
end
end Mi

namespace Mi
open L2
end Mi

namespace Mi
open L2
section
variable{X:Cx}
end
end Mi

namespace Mi
open L2
section
variable{X:Cx}
end
end Mi

namespace Mi
open L2 PySem.W
section
variable{prog:Program}{w:World}{A:Around}{E:Value->Shared->Prop}{s:Shared}{T:String}{r d:Addr}{n:Nat}{P:Nat->Value->Prop}{OK:Heap->Prop}{Q:Value->Shared->Prop}
end
section
variable{X:Cx}
end
end Mi

namespace L2
end L2
namespace Mi
open L2
section
variable{K:Nh}{R:Rn}
end
section
variable{X:Cx}{tg a:Expr}{ms:MA}{p pos tpos:Pos}{elts:List Expr}{kk:Nat}
end
end Mi

namespace L2
open PySem.SeqAt
section
variable{prog:Program}{w:World}{A:Around}{E:Value->Shared->Prop}{s:Shared}
end
end L2

namespace L2
open PySem.SeqAt
end L2
namespace Mi
open L2
end Mi

namespace Sb
open PySem SetTable
noncomputable abbrev pz(t:SetTable)(es:Array (Int×Value)):List (Nat×(Int×Value)):=t.place.toList.zip es.toList
structure Tab(t:SetTable)(es:Array (Int×Value)):Prop where
 up:Up t.place
 dum:t.dummies=#[]
 len:t.place.size=es.size
 le:∀j∈t.place.toList,j<=t.mask
 own:∀q∈pz t es,∃n,sj t.mask q.2.1 n=q.1/\∀k,k<n->sj t.mask q.2.1 k∈t.place.toList
theorem Tab.fill{t:SetTable}{es:Array (Int×Value)}(T:Tab t es):t.fill=es.size:=by
 unfold SetTable.fill;rw[T.dum,T.len];rfl
theorem Tab.fits{t:SetTable}{es:Array (Int×Value)}(T:Tab t es)(h:es.size<=t.mask):t.fits es.size=true:=by
 unfold SetTable.fits;rw[T.fill,T.len];simp[h]
theorem Qhy{t:SetTable}{es:Array (Int×Value)}(T:Tab t es){i:Nat}(hi:i<es.size):(At t.place i,es[i])∈pz t es:=by
 rw[NZ];refine⟨i,?_⟩;unfold pz;have b:t.place.toList[i]?=some (At t.place i):=by rw[NH];exact at_get (by rw[T.len];exact hi)
 have a:es.toList[i]?=some es[i]:=by rw[NH];exact NI hi
 rw[LD];exact⟨b,a⟩
theorem WR{t:SetTable}{es:Array (Int×Value)}(T:Tab t es){hashAt:Nat->Int}{h:Int}{N:Nat}(hN:sj t.mask h N∉t.place.toList)(s:∀n,n<N->sj t.mask h n∈t.place.toList) :
  ∀(f n:Nat),n<=N->N-n<f->(∃b i,n<=b/\b<N/\i<es.size/\At t.place i=sj t.mask h b/\hashAt i=h/\(∀k a,n<=k->k<b->a<es.size->At t.place a=sj t.mask h k->hashAt a≠h)/\probe.go t hashAt h f (sq t.mask h n)=some (.candidate (sj t.mask h b) i (sq t.mask h (b+1)))) \/
   ((∀k a,n<=k->k<N->a<es.size->At t.place a=sj t.mask h k->hashAt a≠h)/\probe.go t hashAt h f (sq t.mask h n)=some (.empty (sj t.mask h N) none))
 |0,n,h1,u=>absurd u (Da _)
 | f+1,n,h1,u=>by
  unfold probe.go
  rcases Et n N with lt|ge
  ·obtain⟨i,hi,e⟩:=mem_at.mp (s n lt)
   have r:t.slot (sq t.mask h n).j=.live i:=by
    have:=YM T.up hi;rw[e]at this;exact this
   rw[r];dsimp only
   have uniq:∀a,a<es.size->At t.place a=sj t.mask h n->a=i:=fun a C D=>by
    rcases Ik a i with z|z|z
    ·have:=T.up a i z hi;lia
    ·exact z
    ·have:=T.up i a z (by rw[T.len];exact C);lia
   by_cases c:hashAt i=h
   ·left;refine⟨n,i,Nu _,lt,by rw[<-T.len];exact hi,e,c,fun k a l g=>by lia,?_⟩;rw[if_pos (by rw[c];exact beq_self_eq_true h)];rfl
   ·rw[if_neg (by rw[beq_iff_eq];exact c),Gg]
    have step:∀k a,k=n->a<es.size->At t.place a=sj t.mask h k->hashAt a≠h:=fun k a l g d=>by
     subst l;rw[uniq a g d];exact c
    rcases WR T (hashAt:=hashAt) hN s f (n+1) lt (by lia)with⟨b,a,B,A,x,w,v,q,p⟩|⟨q,p⟩
    ·left;refine⟨b,a,by exact Nl B,A,x,w,v,fun k o l g d m=>?_,p⟩
     rcases Et n k with y|y
     ·exact q k o y g d m
     ·exact step k o (Ek y l) d m
    ·right;refine⟨fun k o l g d m=>?_,p⟩
     rcases Et n k with y|y
     ·exact q k o y g d m
     ·exact step k o (Ek y l) d m
  ·have:n=N:=by exact Ek h1 ge
   subst this;right;refine⟨fun k a l g=>by omega,?_⟩;have r:t.slot (sq t.mask h n).j=.empty:=U9 T.dum hN;rw[r];dsimp only;rw[KH]
theorem Ug{a:Type}(xs:Array a)(p:Nat)(x:a)(b:p<=xs.size):(insertAt xs p x).toList=xs.toList.take p++x::xs.toList.drop p:=by
 unfold insertAt;simp[Ej]
theorem GA{d c:Type}(x:d)(y:c):∀{l:List d} {k:List c} (_:l.length=k.length) (p:Nat),(l.take p++x::l.drop p).zip (k.take p++y::k.drop p)=(l.zip k).take p++(x,y)::(l.zip k).drop p
 |[],[],_,p=>by simp
 |a::l,b::k,_,0=>rfl
 |a::l,b::k,h,p+1=>by
  have:=GA x y (l:=l) (k:=k) (by simpa using h) p;simpa using this
theorem ins_mem{a:Type}{l:List a}{p:Nat}{x y:a}:y∈l.take p++x::l.drop p↔y=x\/y∈l:=by
 rw[NO,NF]
 conv=>rhs;rw[<-Eo p l,NO]
 constructor
 ·rintro(h|h|h)
  ·exact .inr (.inl h)
  ·exact .inl h
  ·exact .inr (.inr h)
 ·rintro(h|h|h)
  ·exact .inr (.inl h)
  ·exact .inl h
  ·exact .inr (.inr h)
theorem up_list{xs:Array Nat}:Up xs↔xs.toList.Pairwise (·<·):=by
 rw[D1];constructor
 ·intro up i j d c a;have b:j<xs.size:=by rwa[Nr]at c
  have:=up i j a b;simpa[At,Array.getD,b,show i<xs.size by exact N0 a b]using this
 ·intro h i j a c;have:=h i j (by rw[Nr];exact N0 a c) (by rw[Nr];exact c) a;simpa[At,Array.getD,c,show i<xs.size by exact N0 a c]using this
theorem U3{xs:Array Nat}(up:Up xs)(j:Nat):(∀x∈xs.toList.take (below xs j),x<j)/\∀x∈xs.toList.drop (below xs j),j<=x:=by
 obtain⟨e,d,c⟩:=V0 up j;constructor
 ·intro x b;obtain⟨i,a⟩:=NZ.mp b;rw[Yan]at a;split at a
  ·rename_i lt;rw[NH,at_get (Ng lt e)]at a;cases a;exact d i lt
  ·cases a
 ·intro x b;obtain⟨i,a⟩:=NZ.mp b;rw[Le,NH]at a;have lt:below xs j+i<xs.size:=(Lo.mp a).1;rw[at_get lt]at a;cases a;exact c _ (Np _ _) lt
theorem Qhb{t:SetTable}{es:Array (Int×Value)}(T:Tab t es){h:Int}{x:Value}{N:Nat}(v:sj t.mask h N<=t.mask)(hN:sj t.mask h N∉t.place.toList)(w:∀n,n<N->sj t.mask h n∈t.place.toList) :
  (t.put (sj t.mask h N)).1.mask=t.mask/\(t.put (sj t.mask h N)).1.led=t.led/\(t.put (sj t.mask h N)).1.moves=t.moves/\Tab (t.put (sj t.mask h N)).1 (insertAt es (t.put (sj t.mask h N)).2 (h,x))/\(insertAt es (t.put (sj t.mask h N)).2 (h,x)).toList.Perm ((h,x)::es.toList):=by
 obtain⟨p,G,E⟩:=V0 T.up (sj t.mask h N);have c:(t.put (sj t.mask h N)).1.place.toList=t.place.toList.take (below t.place (sj t.mask h N))++sj t.mask h N::t.place.toList.drop (below t.place (sj t.mask h N)):=Ug _ _ _ p;have e:(insertAt es (t.put (sj t.mask h N)).2 (h,x)).toList=es.toList.take (below t.place (sj t.mask h N))++(h,x)::es.toList.drop (below t.place (sj t.mask h N)):=Ug _ _ _ (by rw[<-T.len];exact p);have i:t.place.toList.length=es.toList.length:=by rw[Nr,Nr,T.len]
 refine⟨rfl,rfl,rfl,⟨?_,?_,?_,?_,?_⟩,?_⟩
 ·rw[up_list,c,Df];obtain⟨C,B⟩:=U3 T.up (sj t.mask h N);have pw:=up_list.mp T.up
  have hd:∀y∈t.place.toList.drop (below t.place (sj t.mask h N)),sj t.mask h N<y:=fun y o=>by
   have m:=B y o;have D:y≠sj t.mask h N:=fun z=>hN (by rw[<-z];exact OS o);lia
  refine⟨pw.take,?_,?_⟩
  ·rw[Yao];exact⟨hd,pw.drop⟩
  ·intro a A b f;have m:=C a A
   rcases NF.mp f with rfl|f
   ·exact m
   ·have:=hd b f;exact N0 m this
 ·show(if has t.dummies (sj t.mask h N)then _ else t.dummies)=#[];rw[T.dum];rfl
 ·rw[<-Nr,<-Nr,c,e];simp[T.len]
 ·intro j g;rw[c,ins_mem]at g
  rcases g with rfl|g
  ·exact v
  ·exact T.le j g
 ·intro q u
  have d:q∈(t.place.toList.take (below t.place (sj t.mask h N))++sj t.mask h N::t.place.toList.drop (below t.place (sj t.mask h N))).zip (es.toList.take (below t.place (sj t.mask h N))++(h,x)::es.toList.drop (below t.place (sj t.mask h N))):=by
   rw[<-c,<-e];exact u
  rw[GA _ _ i,ins_mem]at d;rw[c]
  rcases d with rfl|d
  ·exact⟨N,rfl,fun k l=>ins_mem.mpr (.inr (w k l))⟩
  ·obtain⟨n,s,r⟩:=T.own q d;exact⟨n,s,fun k l=>ins_mem.mpr (.inr (r k l))⟩
 ·rw[e];refine YaG.trans (List.Perm.cons _ ?_);rw[Eo]
theorem Qcx(m:Nat)(h:Int):∀n,sj m h n<=m/\(sq m h n).j+(sq m h n).more<=m
 |0=>by
  have h1:=QfD m h 0;have b:=GP h1;have a:=W1 m (bk m h 0).1;exact⟨h1,show(bk m h 0).1+(runEnd m (bk m h 0).1-(bk m h 0).1)<=m by lia⟩
 |n+1=>by
  obtain⟨h1,b⟩:=Qcx m h n;show(adv m (sq m h n)).j<=m/\(adv m (sq m h n)).j+(adv m (sq m h n)).more<=m;unfold adv;split
  ·rename_i c;exact⟨by show(sq m h n).j+1<=m;lia,by show(sq m h n).j+1+((sq m h n).more-1)<=m;lia⟩
  ·have a:(leap m (sq m h n).i (sq m h n).perturb).1<=m:=Ih (LG _ (DN _));have e:=GP a;have d:=W1 m (leap m (sq m h n).i (sq m h n).perturb).1;exact⟨a,show(leap m (sq m h n).i (sq m h n).perturb).1+(runEnd m (leap m (sq m h n).i (sq m h n).perturb).1-(leap m (sq m h n).i (sq m h n).perturb).1)<=m by lia⟩
end Sb

namespace Sb
open PySem SetTable
noncomputable abbrev Ow(o:Array (Option Nat))(j:Nat):Option Nat:=o.getD j none
structure Lay(m:Nat)(hs:List Int)(o:Array (Option Nat)):Prop where
 size:o.size=m+1
 own:∀j k,Ow o j=some k->∃h,hs[k]?=some h/\∃n,sj m h n=j/\∀i,i<n->(Ow o (sj m h i)).isSome=true
 all:∀k,k<hs.length->∃j,Ow o j=some k
 one:∀j j' k,Ow o j=some k->Ow o j'=some k->j=j'
theorem Qjx{o:Array (Option Nat)}{j k:Nat}(h:Ow o j=some k):j<o.size:=by
 rcases Et j o.size with z|z
 ·exact z
 ·simp[Ow,Array.getD,NQ.mpr z]at h
theorem Qe7{m:Nat}{a:List Int}{o:Array (Option Nat)}(L:Lay m a o)(d:a.length<=m):∃x,x<=m/\Ow o x=none:=by
 obtain⟨x,b,c⟩:=QdF (m:=m) (l:=(List.range a.length).map fun k=>if h:k<a.length then Classical.choose (L.all k h)else 0) (by simp;exact d);refine⟨x,b,?_⟩;cases e:Ow o x with
 |none=>rfl
 |some k=>
  exfalso;obtain⟨h,f,_⟩:=L.own x k e;have lt:k<a.length:=(Nm.mp f).1;refine c (NE.mpr ⟨k,N9.mpr lt,?_⟩);rw[dif_pos lt];exact L.one _ _ k (Oz (L.all k lt)) e
theorem Qbe{m:Nat}(h:Int){o:Array (Option Nat)}(r:o.size=m+1){K:Nat}(j:Ow o (bk m h K).1=none):∀(f k:Nat),k<=K->K<k+f->(∀n,n<ps m h k->(Ow o (sj m h n)).isSome=true) ->
  ∃n,layClean.free m o f (bk m h k).1 (bk m h k).2=some (sj m h n)/\Ow o (sj m h n)=none/\∀i,i<n->(Ow o (sj m h i)).isSome=true
 |0,k,h1,t,_=>by omega
 | f+1,k,h1,t,l=>by
  unfold layClean.free
  have g:∀c,c<=runEnd m (bk m h k).1-(bk m h k).1->(bk m h k).1+c<o.size:=fun c a=>by
   have:=GP (QfD m h k);have:=W1 m (bk m h k).1;omega
  have get:∀c,c<=runEnd m (bk m h k).1-(bk m h k).1->o.getD ((bk m h k).1+c) (some 0)=Ow o (sj m h (ps m h k+c)):=fun c a=>by
   rw[QcN m h k c a];simp[Ow,Array.getD,g c a]
  have hr:runEnd m (bk m h k).1+1-(bk m h k).1=runEnd m (bk m h k).1-(bk m h k).1+1:=by
   have:=W1 m (bk m h k).1;lia
  rw[hr];split
  ·rename_i c a;rw[List.find?_range_eq_some]at a;obtain⟨q,v,u⟩:=a;rw[N9]at v;rw[get c (by lia)]at q;refine⟨ps m h k+c,by rw[QcN m h k c (by omega)],by simpa using q,fun i s=>?_⟩
   rcases Et i (ps m h k)with z|z
   ·exact l i z
   ·have p:=u (i-ps m h k) (Dt z s);rw[get _ (by lia),show ps m h k+(i-ps m h k)=i by exact Dk z]at p;revert p;cases Ow o (sj m h i)<;>simp
  ·rename_i a
   have b:∀n,n<ps m h (k+1)->(Ow o (sj m h n)).isSome=true:=by
    intro n w
    rcases Et n (ps m h k)with z|z
    ·exact l n z
    ·have e:ps m h (k+1)=ps m h k+(runEnd m (bk m h k).1-(bk m h k).1)+1:=rfl;rw[F4]at a;have:=a (n-ps m h k) (N9.mpr (by lia));rw[get _ (by lia),show ps m h k+(n-ps m h k)=n by exact Dk z]at this;revert this;cases Ow o (sj m h n)<;>simp
   have d:k<K:=by
    rcases Et k K with z|z
    ·exact z
    ·have:k=K:=by exact Ek h1 z
     subst this;have:=b (ps m h k+0) (by show _<ps m h k+_+1;lia);rw[QcN m h k 0 (NM _),FY,j]at this;cases this
   exact Qbe h r j f (k+1) d (by lia) b
theorem Ky{o:Array (Option Nat)}{j k i:Nat}(a:j<o.size):Ow (o.setIfInBounds j (some k)) i=if i=j then some k else Ow o i:=by
 by_cases c:i=j
 ·subst c;simp[Ow,Array.getD,a]
 ·rw[if_neg c];unfold Ow;rw[FF,FF,Array.getElem?_setIfInBounds_ne (DH c)]
theorem QeZ{m:Nat}(F:KZ m){d:List Int}{o:Array (Option Nat)}(L:Lay m d o)(G:d.length<=m)(h:Int) :
  ∃j,layClean.free m o (turns m) (bits h%(m+1)) (bits h)=some j/\Lay m (d++[h]) (o.setIfInBounds j (some d.length)):=by
 obtain⟨x,E,s⟩:=Qe7 L G;obtain⟨K,H,e⟩:=QbD F h E;obtain⟨n,B,A,y⟩:=Qbe h L.size (K:=K) (by rw[e];exact s) (turns m) 0 (NM _) (by unfold turns;lia) (fun n s=>absurd s (Da _))
 have g:sj m h n<o.size:=by
  have:=(Qcx m h n).1;rw[L.size];exact Nd this (EI _)
 refine⟨sj m h n,B,?_,?_,?_,?_⟩
 ·rw[F5];exact L.size
 ·intro j k f;rw[Ky g]at f;split at f
  ·rename_i z;cases f;refine⟨h,by simp,n,z.symm,fun i t=>?_⟩;rw[Ky g];split
   ·rfl
   ·exact y i t
  ·obtain⟨u,r,C,w,v⟩:=L.own j k f;refine⟨u,?_,C,w,fun i t=>?_⟩
   ·rw[NP (Nm.mp r).1];exact r
   ·rw[Ky g];split
    ·rfl
    ·exact v i t
 ·intro k f;rw[Nv,Ec]at f
  rcases Et k d.length with z|z
  ·obtain⟨j,c⟩:=L.all k z;refine⟨j,?_⟩;rw[Ky g,if_neg]
   ·exact c
   ·rintro rfl
    rw[A]at c;cases c
  ·refine⟨sj m h n,?_⟩;rw[Ky g,if_pos rfl];congr 1;lia
 ·have p:∀j,Ow o j≠some d.length:=fun j z=>by
   obtain⟨u,r,_⟩:=L.own j _ z;have:=(Nm.mp r).1;exact Dq (Nl this) this
  intro j D k q l;rw[Ky g]at q l;split at q
  ·cases q;split at l
   ·rename_i a b;rw[a,b]
   ·exact absurd l (p _)
  ·split at l
   ·cases l;exact absurd q (p _)
   ·exact L.one j D k q l
theorem Uk{m:Nat}(F:KZ m):∀(rest a:List Int) (o:Array (Option Nat)),Lay m a o->a.length+rest.length<=m ->
  ∃o',(rest.foldl (init:=some (o,a.length)) fun b h=>do
   let(owner,k) <-b
   let j <-layClean.free m owner (turns m) (bits h%(m+1)) (bits h)
   pure (owner.setIfInBounds j (some k),k+1))=some (o',a.length+rest.length)/\Lay m (a++rest) o'
 |[],a,o,L,_=>⟨o,by simp,by simpa using L⟩
 | h::rest,a,o,L,c=>by
  rw[El]at c;obtain⟨j,i,g⟩:=QeZ F L (Nf (Np _ _) c) h;obtain⟨o',f,d⟩:=Uk F rest (a++[h]) _ g (by rw[Nv,Ec];lia);refine⟨o',?_,by simpa using d⟩;rw[Fo]
  have e:((some (o,a.length):Option (Array (Option Nat)×Nat))>>=fun p=>layClean.free m p.1 (turns m) (bits h%(m+1)) (bits h)>>=fun j=>pure (p.1.setIfInBounds j (some p.2),p.2+1))=some (o.setIfInBounds j (some a.length),(a++[h]).length):=by
   show(layClean.free m o (turns m) (bits h%(m+1)) (bits h)>>=fun j=>pure (o.setIfInBounds j (some a.length),a.length+1))=_;rw[i,Nv];rfl
  refine(congrArg (fun z=>List.foldl _ z rest) e).trans (f.trans ?_);simp;exact Fq _ _ _
theorem Qea(m:Nat):Lay m [] (Array.replicate (m+1) none):=by
 have e:∀j,Ow (Array.replicate (m+1) none) j=none:=fun j=>by
  unfold Ow;rw[FF,Array.getElem?_replicate];split<;>rfl
 refine⟨Array.size_replicate,fun j k h=>?_,fun k h=>absurd h (Da _),fun j a k h=>?_⟩
 ·rw[e]at h;cases h
 ·rw[e]at h;cases h
theorem Wm{m:Nat}(F:KZ m)(a:Array Int)(b:a.size<=m):∃o,layClean m a=some o/\Lay m a.toList o:=by
 obtain⟨o,d,c⟩:=Uk F a.toList [] _ (Qea m) (by simpa using b);refine⟨o,?_,by simpa using c⟩;unfold layClean;rw[<-Array.foldl_toList];exact congrArg (fun z=>Option.map (·.1) z) d
end Sb

namespace Sb
open PySem SetTable
theorem Yf{c d:Type}(f:c->Option d):∀(l:List c),((l.filterMap fun j=>(f j).map (j,·)).map (·.1)).Sublist l
 |[]=>.slnil
 |a::l=>by
  rw[Dj];cases f a with
  |none=>exact(Yf f l).cons a
  |some b=>exact(Yf f l).cons_cons a
theorem QcZ{c d:Type}{f:c->Option d}{l:List c}{p:c×d}:p∈(l.filterMap fun j=>(f j).map (j,·))↔p.1∈l/\f p.1=some p.2:=by
 rw[FS];constructor
 ·rintro⟨a,h,e⟩
  obtain⟨b,g,rfl⟩:=Nk.mp e;exact⟨h,g⟩
 ·rintro⟨m,i⟩
  exact⟨p.1,m,by rw[i];rfl⟩
theorem Qa7{b d c:Type}(f:b->d)(g:b->c):∀l:List b,(l.map f).zip (l.map g)=l.map fun x=>(f x,g x)
 |[]=>rfl
 |a::l=>by simp[Qa7 f g l]
theorem QdS{c d:Type}{f:c->Option d}{g:c->d}:∀(l:List c),(∀a∈l,f a=some (g a))->l.filterMap f=l.map g
 |[],_=>rfl
 |a::l,h=>by
  rw[Dj,h a Nz,NC,QdS l fun b e=>h b (Nw _ e)]
theorem perm_same{c:Type}[BEq c][LawfulBEq c]:∀(l k:List c),l.Nodup->k.Nodup->(∀x,x∈l↔x∈k)->l.Perm k
 |[],k,_,_,h=>by
  have:k=[]:=List.eq_nil_iff_forall_not_mem.mpr fun x b=>nomatch (h x).mpr b
  rw[this]
 | a::l,k,d,e,h=>by
  have f:=(h a).mp Nz;rw[Eu]at d;refine(List.Perm.cons a (perm_same l (k.erase a) d.2 (e.erase a) fun x=>?_)).trans (IL f).symm;rw[e.mem_erase_iff];constructor
  ·exact fun b=>⟨fun z=>d.1 (by rw[<-z];exact b),(h x).mp (Nw _ b)⟩
  ·rintro⟨z,b⟩
   rcases NF.mp ((h x).mpr b)with y|y
   ·exact absurd y z
   ·exact y
theorem Qez{m:Nat}(F:KZ m)(es:Array (Int×Value))(O:es.size<=m)(C mv:Nat)(led t:Bool) :
  ∃t' u,laid m C mv led t (es.map (·.1))=some (t',u)/\t'.mask=m/\t'.led=led/\t'.plain=t/\Tab t' (u.filterMap (es[·]?))/\(u.filterMap (es[·]?)).toList.Perm es.toList:=by
 obtain⟨o,M,L⟩:=Wm F (es.map (·.1)) (by simpa using O);have d:(es.map (·.1)).toList.length=es.size:=by simp
 let live:=(List.range (m+1)).filterMap fun j=>(o.getD j none).map (j,·)
 let g:Nat->Int×Value:=fun k=>es.getD k (0,.none)
 have e:∀p,p∈live↔p.1<m+1/\Ow o p.1=some p.2:=fun p=>by
  show p∈(List.range (m+1)).filterMap (fun j=>(o.getD j none).map (j,·))↔_;rw[QcZ (f:=fun j=>o.getD j none),N9]
 have lk:∀p∈live,p.2<es.size:=fun p a=>by
  obtain⟨h,q,_⟩:=L.own p.1 p.2 ((e p).mp a).2;have:=(Nm.mp q).1;rwa[d]at this
 have lt:(live.map (·.1)).Pairwise (·<·):=Ds (Yf (fun j=>o.getD j none) (List.range (m+1))) Oh;have y:∀k,k<es.size->es[k]?=some (g k):=fun k b=>by simp[g,Array.getD,b]
 have A:(((live.map (·.2)).toArray).filterMap (es[·]?)).toList=live.map fun p=>g p.2:=by
  rw[Array.toList_filterMap,EL,QdS (f:=fun k=>es[k]?) (g:=g),Em]
  ·rfl
  ·intro k b;obtain⟨p,a,rfl⟩:=NE.mp b;exact y _ (lk p a)
 refine⟨{ mask:=m,place:=(live.map (·.1)).toArray,dummies:=#[],finger:=C,led:=led,moves:=mv,plain:=t },(live.map (·.2)).toArray,?_,rfl,rfl,rfl,⟨?_,rfl,?_,?_,?_⟩,?_⟩
 ·unfold laid;rw[M];rfl
 ·rw[up_list];show((live.map (·.1)).toArray).toList.Pairwise _;rw[EL];exact lt
 ·have:=congrArg List.length A;rw[Nr,Ny]at this;rw[this];simp
 ·intro j s;have x:j∈live.map (·.1):=by simpa using s
  obtain⟨p,a,rfl⟩:=NE.mp x;have:=((e p).mp a).1;show p.1<=m;lia
 ·intro q r;unfold pz at r;rw[A]at r;have l:q∈(live.map (·.1)).zip (live.map fun p=>g p.2):=by simpa using r
  rw[Qa7]at l;obtain⟨p,a,rfl⟩:=NE.mp l;obtain⟨h,B,n,G,E⟩:=L.own p.1 p.2 ((e p).mp a).2
  have D:(g p.2).1=h:=by
   have P:=y p.2 (lk p a);rw[NH,Array.getElem?_map,P]at B;exact Eg B
  refine⟨n,?_,fun k b=>?_⟩
  ·show sj m (g p.2).1 n=p.1;rw[D];exact G
  ·show sj m (g p.2).1 k∈((live.map (·.1)).toArray).toList;rw[D,EL];have:=E k b;obtain⟨N,w⟩:=LI.mp this;exact NE.mpr ⟨(sj m h k,N),(e _).mpr ⟨by have:=(Qcx m h k).1;show sj m h k<m+1;exact Nd this (EI _),w⟩,rfl⟩
 ·rw[A]
  have I:(live.map (·.2)).Perm (List.range es.size):=by
   refine perm_same _ _ ?_ YaH fun k=>?_
   ·unfold List.Nodup;rw[EY];rw[EY]at lt;refine F6 ?_ lt;intro p q a r v z;have:=L.one p.1 q.1 p.2 ((e p).mp a).2 (by rw[z];exact((e q).mp r).2);exact Dq (Nq this.symm) v
   ·rw[N9];constructor
    ·intro b;obtain⟨p,a,rfl⟩:=NE.mp b;exact lk p a
    ·intro b;obtain⟨j,s⟩:=L.all k (by rw[d];exact b);have:=Qjx s;rw[L.size]at this;exact NE.mpr ⟨(j,k),(e _).mpr ⟨this,s⟩,rfl⟩
  have H:(live.map fun p=>g p.2).Perm ((List.range es.size).map g):=by
   have:=I.map g;rwa[Em]at this
  refine H.trans ?_
  have:(List.range es.size).map g=es.toList:=by
   apply DA;intro i;rw[NB]
   by_cases c:i<es.size
   ·rw[DF c];exact(y i c).symm.trans (NH ..).symm
   ·rw[En (by simpa using c),En (by simpa using c)];rfl
  rw[this]
end Sb

namespace Sb
open SetTable L2
section
variable{prog:Program}{w:World}{A:Around}{E:Value->Shared->Prop}{s:Shared}
theorem QfP:∀(n m:Nat) (k:Tr) (v:Value) (Q:Bool->Shared->Prop),L2.IsT s.heap n k v->n<=m->Q false s->wpAny (model prog w) A (ofAClassStatement m v) Q E s
 |0,_,_,_,_,x,_,_=>x.elim
 |n+1,m,.i k,v,Q,x,_,h=>by
  rcases x with⟨t,rfl⟩|⟨b,rfl,rfl⟩<;>(unfold ofAClassStatement;exact Nj h)
 |n+1,m,.s k,v,Q,x,_,h=>by
  obtain⟨t,rfl⟩:=x;unfold ofAClassStatement;exact Nj h
 |n+1,0,.t f,v,Q,x,z,h=>by lia
 | n+1,m+1,.t f,v,Q,x,z,h=>by
  obtain⟨a,y,rfl,⟨o,g,B,l,hd⟩,q⟩:=x;have C:s.TypeIs (.ref a) "tuple":=⟨o,g,B⟩
  unfold ofAClassStatement;refine Na (FU C ?_);dsimp only;rw[if_pos (by decide)];refine Na (Nj ?_);simp only[DR,NT,if_false];refine Na (D4 g hd ?_);dsimp only;refine Na ?_;rw[<-FR];refine FG _ (fun rest (r:Option Bool×Unit) e=>r.1=none/\e=s/\∃d,Paired (L2.IsT s.heap n) d rest) _ ?_ ?_ _ _ ⟨rfl,rfl,f,q⟩
  ·rintro v rest r e ⟨hr,c,d,u⟩
   have c:=c.symm;subst c;cases u with
   |cons p j=>
    refine Na (QfP n m _ _ _ p (by lia) ?_);simp only[NT,if_false];exact Nj ⟨rfl,rfl,_,j⟩
  ·rintro⟨G,D⟩ e ⟨hr,rfl,_⟩
   simp only at hr;subst hr;exact Nj h
theorem QhW:∀(n m:Nat) (k:Tr) (v:Value) (Q:Bool->Shared->Prop),L2.IsT s.heap n k v->(∀b,Q b s)->wpAny (model prog w) A (hashByValue m v) Q E s
 |0,_,_,_,_,x,_=>x.elim
 |n+1,m,.i k,v,Q,x,h=>by
  rcases x with⟨t,rfl⟩|⟨b,rfl,rfl⟩<;>(unfold hashByValue;exact Nj (h _))
 |n+1,m,.s k,v,Q,x,h=>by
  obtain⟨t,rfl⟩:=x;unfold hashByValue;exact Nj (h _)
 |n+1,0,.t g,v,Q,x,h=>by
  obtain⟨a,e,rfl,_⟩:=x;unfold hashByValue;exact Nj (h _)
 | n+1,m+1,.t g,v,Q,x,h=>by
  obtain⟨a,e,rfl,⟨o,j,z,l,hd⟩,q⟩:=x;have B:s.TypeIs (.ref a) "tuple":=⟨o,j,z⟩
  unfold hashByValue;refine Na (IG B Yaq.lookup ?_);dsimp only;refine Na (D4 j hd ?_);refine Na ?_;show wpAny _ _ (forIn e _ _) _ _ s;rw[<-FR];refine FG _ (fun rest (r:Option Bool×Unit) f=>(r.1=none\/∃b,r.1=some b)/\f=s/\∃d,Paired (L2.IsT s.heap n) d rest) _ ?_ ?_ _ _ ⟨.inl rfl,rfl,g,q⟩
  ·rintro v rest r f ⟨hr,c,d,y⟩
   have c:=c.symm;subst c;cases y with
   | cons u p=>
    refine Na (QhW n m _ _ _ u fun b=>?_);cases b with
    |true=>
     simp only[DR,NT,if_false];exact Nj ⟨.inl rfl,rfl,_,p⟩
    |false=>
     simp only[OA,if_true];exact Nj (Nj (h _))
  ·rintro⟨D,C⟩ f ⟨hr,rfl,_⟩
   simp only at hr
   rcases hr with hr|⟨b,hr⟩<;>(subst hr;exact Nj (h _))
theorem Qgx{k:Tr}{a:Addr}{Q:Bool->Shared->Prop}(f:L2.IsT s.heap 8 k (.ref a)):∀(stored:List Value),(∀v∈stored,∃c b,v=.ref b/\L2.IsT s.heap 8 c (.ref b))->Q false s->wpAny (model prog w) A (searchCouldBeSeen (.ref a) stored) Q E s:=by
 intro stored j h;unfold searchCouldBeSeen;refine Na ?_;refine FG _ (fun rest (r:Option Bool×Unit) d=>r.1=none/\d=s/\∀v∈rest,∃c b,v=.ref b/\L2.IsT s.heap 8 c (.ref b)) _ ?_ ?_ _ _ ⟨rfl,rfl,j⟩
 ·rintro v rest r d ⟨hr,rfl,g⟩
  obtain⟨c,b,rfl,i⟩:=g v Nz;have nx:∀v∈rest,∃c b,v=.ref b/\L2.IsT d.heap 8 c (.ref b):=fun v e=>g v (Nw _ e);dsimp only;refine IK (fun _=>Nj ⟨rfl,rfl,nx⟩) (fun _=>?_);refine Na (Ya 8 8 _ _ _ f (Nu _) ?_);simp only[DR,NT,if_false];refine Na (Ya 8 8 _ _ _ i (Nu _) ?_);simp only[DR,NT,if_false];refine Na (QfP 8 8 _ _ _ f (Nu _) ?_);simp only[NT,if_false];refine Na (QfP 8 8 _ _ _ i (Nu _) ?_);simp only[NT,if_false];exact Nj ⟨rfl,rfl,nx⟩
 ·rintro⟨m,l⟩ d ⟨hr,rfl,_⟩
  simp only at hr;subst hr;exact Nj h
end
end Sb

namespace Sb
open SetTable L2
noncomputable def Szs(t:SetTable)(n:Nat):Prop:=(t.mask=7/\n<=4)\/(t.mask=31/\n<=18)\/(t.mask=127/\n<=76)\/(t.mask=511/\n<=306)
theorem Szs.full{t:SetTable}{n:Nat}(h:Szs t n):KZ t.mask:=by
 rcases h with⟨e,_⟩|⟨e,_⟩|⟨e,_⟩|⟨e,_⟩<;>rw[e]
 ·exact Qju
 ·exact QdK
 ·exact Qbs
 ·exact QaE
theorem Szs.lt{t:SetTable}{n:Nat}(h:Szs t n):n<t.mask/\t.mask<=511/\t.gaveWay=false:=by
 unfold gaveWay
 rcases h with⟨e,_⟩|⟨e,_⟩|⟨e,_⟩|⟨e,_⟩<;>rw[e]<;>exact⟨by lia,by decide,by decide⟩
section
variable{prog:Program}{w:World}{A:Around}{E:Value->Shared->Prop}{s:Shared}
noncomputable def Els(w:World)(h:Heap)(es:Array (Int×Value)):Prop:=∀e∈es.toList,∃k b,e.2=.ref b/\L2.IsT h 8 k (.ref b)/\e.1=hN w 8 k
theorem YY{es:Array (Int×Value)}{i:Nat}(hi:i<es.size):((es[i]?.map (·.1)).getD 0:Int)=es[i].1:=by rw[NI hi];rfl
theorem Y9 {S x:Addr} {o:Obj} {es:Array (Int×Value)} {ep:Nat} {t:SetTable} {k:Tr} {N:Nat} {Q:SetFound->Shared->Prop} (hu:A.units+8<cLine)
  (P:s.heap.get? S=some o) (hd:o.data=.set es ep t) (T:Tab t es) (Z:Szs t es.size) (I:Els w s.heap es) (M:L2.IsT s.heap 8 k (.ref x))
  (hN:sj t.mask (hN w 8 k) N∉t.place.toList) (hb:∀n,n<N->sj t.mask (L2.hN w 8 k) n∈t.place.toList) (X:N<=10*(t.mask+12))
  (q1:(∃e∈es.toList,L2.IsT s.heap 8 k e.2)->Q (.there none) s) (q2:(∀e∈es.toList,¬L2.IsT s.heap 8 k e.2)->Q (.free (sj t.mask (L2.hN w 8 k) N) false) s) :
  ∀(f n:Nat) (a:Option Probe),a.getD (t.probeStart (L2.hN w 8 k))=sq t.mask (L2.hN w 8 k) n->n<=N->N-n<f->(∀h i (hi:i<es.size),h<n->At t.place i=sj t.mask (L2.hN w 8 k) h->¬L2.IsT s.heap 8 k es[i].2) ->
   wpAny (model prog w) A (setSearchFrom S (.ref x) (L2.hN w 8 k) true f a) Q E s
 |0,n,a,_,_,z,_=>absurd z (Da _)
 | f+1,n,a,O,hn,hf,j=>by
  obtain⟨zl,zm,zg⟩:=Z.lt;unfold setSearchFrom;refine Na (EM P hd (T.fits (Nl zl)) ?_);dsimp only;rw[zg,if_neg (by simp),O];have go:=WR T (hashAt:=fun i=>(es[i]?.map (·.1)).getD 0) hN hb (10*turns t.mask) n hn (by unfold turns;lia);have pe:t.probe (fun i=>(es[i]?.map (·.1)).getD 0) (L2.hN w 8 k) (sq t.mask (L2.hN w 8 k) n)=probe.go t (fun i=>(es[i]?.map (·.1)).getD 0) (L2.hN w 8 k) (10*turns t.mask) (sq t.mask (L2.hN w 8 k) n):=rfl;show wpAny _ _ (match t.probe (fun i=>(es[i]?.map (·.1)).getD 0) (L2.hN w 8 k) (sq t.mask (L2.hN w 8 k) n)with|some met=>_|x=>_) _ _ _;rw[pe]
  -- an entry with this key has this hash
  have hash:∀i (hi:i<es.size),L2.IsT s.heap 8 k es[i].2->es[i].1=L2.hN w 8 k:=fun i hi z=>by
   obtain⟨k',b,G,D,e3⟩:=I es[i] (by simp);rw[G]at z;rw[e3,Ju _ _ _ D z]
  rcases go with⟨h,i,g1,g2,g3,g4,g5,g6,g7⟩|⟨g6,g7⟩
  ·rw [g7];dsimp only;obtain⟨k',b,G,D,e3⟩:=I es[i] (by simp);have hy:es[i]?=some (es[i].1,.ref b):=by rw[NI g3,<-G]
   have rest:wpAny (model prog w) A (do
     let some (_,y):=es[i]?|unsupported "internal:set-entry"
     let g <-holding [y] (eqBool y (.ref x))
     let(aa,_,t') <-setState S
     if true&&g then return .there none
     let some same:=t'.sameMemory t.moves t.mask|unsupported "set.changed-during-lookup:is-the-new-block-at-the-old-address"
     let p <-match (if same then t'.slot (sj t.mask (L2.hN w 8 k) h)else .empty)with
      |.live H=>match aa[H]? with
       |some (_,y')=>do pure (if <-isSame y' y then some H else none)
       |none=>pure none
      |_=>pure none
     match p with
     |none=>rule "set.search.anew";setSearchFrom S (.ref x) (L2.hN w 8 k) true f none
     |some H=>if g then return .there (some H)else setSearchFrom S (.ref x) (L2.hN w 8 k) true f (some (sq t.mask (L2.hN w 8 k) (h+1)))) Q E s:=by
    rw[hy];dsimp only;refine Na (N8 (Qf9 8 A hu _ _ _ _ D M _ _ _ _ ?_));refine Na (EM P hd (T.fits (Nl zl)) ?_);dsimp only
    by_cases c:k'=k
    ·subst c;rw[decide_eq_true rfl];simp only[Bool.and_self,if_true];exact Nj (q1 ⟨es[i],by simp,by rw[G];exact D⟩)
    ·rw [decide_eq_false c];simp only[D3,NT,if_false];have sm:t.sameMemory t.moves t.mask=some true:=by unfold sameMemory;rw[if_pos (beq_self_eq_true _)]
     rw[sm];dsimp only;rw[if_pos rfl,<-g4,YM T.up (by rw[T.len];exact g3)];dsimp only;rw[hy];dsimp only;refine Na ?_;unfold isSame;dsimp only;rw[if_pos (beq_self_eq_true _)];refine Nj (Na (Nj ?_));rw[if_pos rfl];dsimp only;refine Y9 hu P hd T Z I M hN hb X q1 q2 f (h+1) _ rfl g2 (by lia) fun m r d hm B=>?_
     rcases Et m n with z|z
     ·exact j m r d z B
     ·rcases Et m h with y|y
      ·intro l;refine g6 m r z y d B ?_;rw[YY d];exact hash r d l
      ·have:m=h:=by lia
       subst this
       have e:r=i:=by
        rcases Ik r i with u|u|u
        ·have:=T.up r i u (by rw[T.len];exact g3);lia
        ·exact u
        ·have:=T.up i r u (by rw[T.len];exact d);lia
       subst e;intro l;rw[G]at l;exact c (Ju _ _ _ D l)
   cases hl:t.led with
   |true=>
    simp only[DR,NT,if_false];exact rest
   | false=>
    simp only[OA,if_true];refine Na (Qgx M _ (fun v hv=>?_) ?_)
    ·obtain⟨e,B,rfl⟩:=NE.mp hv
     have U:e∈es.toList:=by
      have:=FH.mp B;exact FH.mpr (Array.mem_filter.mp this).1
     obtain⟨L,ab,z1,z2,_⟩:=I e U;exact⟨L,ab,z1,z2⟩
    ·simp only[NT,if_false];exact rest
  ·rw [g7];dsimp only;refine Nj (q2 fun e B l=>?_)
   obtain⟨i,hi,rfl⟩:∃i,∃hi:i<es.size,es[i]=e:=by
    obtain⟨i,hi,z⟩:=Array.mem_iff_getElem.mp (FH.mp B);exact⟨i,hi,z⟩
   obtain⟨q,C,Y⟩:=T.own _ (Qhy T hi);dsimp only at C Y;rw[hash i hi l]at C Y
   have lt:q<N:=by
    rcases Et q N with z|z
    ·exact z
    ·exfalso
     rcases Et N q with y|y
     ·exact hN (Y N y)
     ·have:q=N:=by exact Ek y z
      subst this;exact hN (by rw[C];exact mem_at.mpr ⟨i,by rw[T.len];exact hi,rfl⟩)
   rcases Et q n with z|z
   ·exact j q i hi z C.symm l
   ·refine g6 q i z lt hi C.symm ?_;rw[YY hi];exact hash i hi l
end
end Sb

namespace Sb
open SetTable L2
noncomputable abbrev Ex(h h':Heap):Prop:=∀b o,h.get? b=some o->h'.get? b=some o
theorem Ul{h h':Heap}(e:Ex h h'){a:Addr}{b:Array Value}(x:h.IsTuple a b):h'.IsTuple a b:=let⟨o,c,r⟩:=x;⟨o,e _ _ c,r⟩
theorem JP{h h':Heap}(e:Ex h h'):∀{n:Nat} (k:Tr) (v:Value),L2.IsT h n k v->L2.IsT h' n k v
 |0,_,_,x=>x.elim
 |n+1,.i k,v,x=>x
 |n+1,.s k,v,x=>x
 |n+1,.t ks,v,⟨a,b,q,p,r⟩=>⟨a,b,q,Ul e p,JB (fun k v=>JP e k v) r⟩
section
variable{prog:Program}{w:World}{A:Around}{E:Value->Shared->Prop}{s:Shared}{h₀:Heap}{G:Value->Prop}
noncomputable def SetT(w:World)(G:Value->Prop)(h₀ h:Heap)(a:Addr)(ks:List Tr)(led:Bool):Prop:=
 ∃o b c t,h.get? a=some o/\o.ExactSet/\o.data=.set b c t/\Tab t b/\Szs t b.size/\t.led=led/\Els w h₀ b/\ks.Nodup/\b.size=ks.length/\(∀k,k∈ks↔∃e∈b.toList,L2.IsT h₀ 8 k e.2)/\∀e∈b.toList,G e.2
theorem SetT.at{h h':Heap}{a:Addr}{ks:List Tr}{led:Bool}(x:SetT w G h₀ h a ks led)(e:∀o,h.get? a=some o->h'.get? a=some o):SetT w G h₀ h' a ks led:=let⟨o,c,d,t,b,r⟩:=x;⟨o,c,d,t,e _ b,r⟩
theorem SetT.lt{h:Heap}{a:Addr}{ks:List Tr}{led:Bool}(x:SetT w G h₀ h a ks led):a<h.objs.size:=let⟨_,_,_,_,b,_⟩:=x;ND b
theorem SetT.typeIs{a:Addr}{ks:List Tr}{led:Bool}(x:SetT w G h₀ s.heap a ks led):s.TypeIs (.ref a) "set":=let⟨o,_,_,_,c,b,_⟩:=x;⟨o,c,b.1⟩
theorem Els.mono{h h':Heap}(e:Ex h h'){es:Array (Int×Value)}(x:Els w h es):Els w h' es:=fun q f=>let⟨k,b,d,c,a⟩:=x q f;⟨k,b,d,JP e _ _ c,a⟩
theorem SetT.store{h:Heap}{a:Addr}{o:Obj}{es es':Array (Int×Value)}{ep:Nat}{t t':SetTable}(d:h.get? a=some o)(c:o.ExactSet)(hd:o.data=.set es ep t) :
  ∃b,(h.update a (Obj.putSet es' t')).get? a=some (Obj.putSet es' t' o)/\(Obj.putSet es' t' o).ExactSet/\(Obj.putSet es' t' o).data=.set es' b t':=by
 have g1:(h.update a (Obj.putSet es' t')).get? a=some (Obj.putSet es' t' o):=Ei _ d (by rw[Lc es' t' hd];rfl);have g2:(Obj.putSet es' t' o).ExactSet:=by rw[Lc es' t' hd];exact c
 have g3:∃b,(Obj.putSet es' t' o).data=.set es' b t':=by rw[Lc es' t' hd];exact⟨_,rfl⟩
 obtain⟨b,e⟩:=g3;exact⟨b,g1,g2,e⟩
theorem Qar{t:SetTable}{es:Array (Int×Value)}{b:Bool}(T:Tab t es):Tab { t with plain:=b } es:=⟨T.up,T.dum,T.len,T.le,T.own⟩
theorem QcV{S:Addr}{o:Obj}{es:Array (Int×Value)}{ep:Nat}{t:SetTable}{f m:Nat}{Q:Unit->Shared->Prop}(g:s.heap.get? S=some o)(r:o.ExactSet)(hd:o.data=.set es ep t)(T:Tab t es)(u:es.size<=t.mask)(j:sizeAbove f=m+1)(F:KZ m)(e:es.size<=m)(d:m<=511)
  (h:∀h' o' es' a t',Heap.SameBut S s.heap h'->h'.get? S=some o'->o'.ExactSet->o'.data=.set es' a t'->Tab t' es'->t'.mask=m->t'.led=t.led->es'.toList.Perm es.toList->Q () { s with heap:=h' }) :
  wpAny (model prog w) A (setRelay S f) Q E s:=by
 unfold setRelay;refine Na (EM g hd (T.fits u) ?_);dsimp only;have big:¬sizeAbove f>sizeLine:=by rw[j,Db];exact NQ.mpr (Nd d (by decide))
 rw[if_neg big];obtain⟨t',b,q,p,n,v,l,i⟩:=Qez F es e t.finger (t.movedTo m) t.led t.plain
 have rel:t.relaid (es.map (·.1)) f=some (t',b):=by
  unfold relaid;rw[j];exact q
 rw[rel];refine Na ?_;have c:(b.filterMap (es[·]?)).size=es.size:=by rw[<-Nr,i.length_eq,Nr]
 show wpAny _ _ (do
  if(b.filterMap (es[·]?)).size != es.size then unsupported "internal:set-table-lost-an-element"
  pure (b.filterMap (es[·]?),t')) _ _ _
 rw[if_neg (by rw[c];simp)];refine Na (Nj (Nj ?_));dsimp only;refine Ij g hd ?_ (by rw[c,Db];exact Nl (Nd (Nf e d) (by decide)));obtain⟨a,g1,g2,g3⟩:=SetT.store (es':=b.filterMap (es[·]?)) (t':=t') g r hd;exact h _ _ _ a t' (NR ..) g1 g2 g3 l p n i
end
end Sb

namespace Sb
open SetTable L2
section
variable{prog:Program}{w:World}{A:Around}{E:Value->Shared->Prop}{s:Shared}{h₀:Heap}{G:Value->Prop}
theorem QdQ{es es':Array (Int×Value)}{g:Int}{x:Value}(e:∀e∈es.toList,G e.2)(a:G x)(p:es'.toList.Perm ((g,x)::es.toList)):∀e∈es'.toList,G e.2:=fun q b=>by
 rcases NF.mp (p.mem_iff.mp b)with rfl|z
 ·exact a
 ·exact e q z
theorem Ud{es es':Array (Int×Value)}{k:Tr}{x:Addr}(e:Els w h₀ es)(a:L2.IsT h₀ 8 k (.ref x))(p:es'.toList.Perm ((L2.hN w 8 k,.ref x)::es.toList)):Els w h₀ es':=fun q b=>by
 rcases NF.mp (p.mem_iff.mp b)with rfl|z
 ·exact⟨k,x,rfl,a,rfl⟩
 ·exact e q z
theorem Qlf{S x:Addr}{ks:List Tr}{led:Bool}{k:Tr}{Q:Bool->Shared->Prop}(hu:A.units+8<cLine)(ext:Ex h₀ s.heap)(hS:SetT w G h₀ s.heap S ks led)(U:L2.IsT h₀ 8 k (.ref x))(hG:G (.ref x))(room:ks.length+1<=306)
  (h:∀b h',Heap.SameBut S s.heap h'->SetT w G h₀ h' S (if k∈ks then ks else ks++[k]) led->Q b { s with heap:=h' }) :
  wpAny (model prog w) A (setAddHashed S (.ref x) (L2.hN w 8 k)) Q E s:=by
 obtain⟨o,d,ep,t,ho,ah,hd,T,Z,M,el,aj,hn,y,hg⟩:=id hS;obtain⟨zl,zm,zg⟩:=Z.lt;have hf:=T.fits (Nl zl);obtain⟨N,N1,N2,N3⟩:=Gv Z.full (L2.hN w 8 k) (l:=t.place.toList) (by rw[Nr,T.len];exact Nl zl)
 have af:∀{j:Tr} {v:Value},(∃b,v=.ref b/\∃P,L2.IsT h₀ 8 P (.ref b))->L2.IsT s.heap 8 j v->L2.IsT h₀ 8 j v:=by
  rintro j v ⟨b,rfl,P,ab⟩ hj
  rw[Ju _ _ _ hj (JP ext _ _ ab)];exact ab
 have ag:∀e∈d.toList,∃b,e.2=.ref b/\∃P,L2.IsT h₀ 8 P (.ref b):=fun e D=>by
  obtain⟨P,b,H,X,_⟩:=el e D;exact⟨b,H,P,X⟩
 unfold setAddHashed setAddHashedIn;refine N8 (Na (EM ho hd hf ?_));dsimp only;rw[if_neg (show¬byScan (.ref x) d=true from by unfold byScan;simp[Value.scannable])];refine Na ?_;unfold setSearch;refine Y9 hu ho hd T Z (el.mono ext) (JP ext _ _ U) N2 N3 N1 ?_ ?_ 100000 0 none rfl (NM _) (by lia) (fun n' i hi z=>absurd z (Da _))
 ·rintro⟨e,D,hk⟩
  have n:k∈ks:=(y k).mpr ⟨e,D,af (ag e D) hk⟩;refine Nj ?_;have q:=h false s.heap (Yav S s.heap) (by rw[if_pos n];exact hS);exact q
 ·intro ai
  have n:k∉ks:=fun n=>by
   obtain⟨e,D,hk⟩:=(y k).mp n;exact ai e D (JP ext _ _ hk)
  rw[if_neg n]at h;dsimp only;refine Na (EM ho hd hf ?_);dsimp only;obtain⟨p1,p2,p3,O,B⟩:=Qhb T (h:=L2.hN w 8 k) (x:=.ref x) (Qcx t.mask _ N).1 N2 N3;generalize t.put (sj t.mask (L2.hN w 8 k) N)=pt at p1 p2 p3 O B;obtain⟨t1,p⟩:=pt;dsimp only at p1 p2 p3 O B ⊢
  have a:(insertAt d p (L2.hN w 8 k,.ref x)).size=d.size+1:=by
   rw[<-Nr,B.length_eq];simp
  have ae:Els w h₀ (insertAt d p (L2.hN w 8 k,.ref x)):=Ud el U B
  have aa:(ks++[k]).Nodup:=by
   rw[ES];exact⟨aj,by simp,fun u hu v hv e=>n (by rw[NG.mp hv]at e;rw[<-e];exact hu)⟩
  have L:∀{r:Array (Int×Value)},r.toList.Perm ((L2.hN w 8 k,.ref x)::d.toList)->∀j,j∈ks++[k]↔∃e∈r.toList,L2.IsT h₀ 8 j e.2:=fun pm j=>by
   rw[NO,NG,y j];constructor
   ·rintro(⟨e,D,q⟩|rfl)
    ·exact⟨e,pm.mem_iff.mpr (Nw _ D),q⟩
    ·exact⟨_,pm.mem_iff.mpr Nz,U⟩
   ·rintro⟨e,D,q⟩
    rcases NF.mp (pm.mem_iff.mp D)with rfl|z
    ·exact .inr (Ju _ _ _ q U)
    ·exact .inl ⟨e,z,q⟩
  generalize insertAt d p (L2.hN w 8 k,.ref x)=f at O B a ae ⊢
  have fin:∀g:SetTable,Tab g f->g.mask=t.mask->g.led=t.led->wpAny (model prog w) A (do
    storeSet S f g
    if(!false&&g.tooFull)=true then do
     setRelay S (SetTable.grown (d.size+1))
     pure true
    else pure true) Q E s:=by
   intro g T2 C l2;refine Na (Ij ho hd ?_ (by rw[a,Db];exact N0 (Nd (Nq hn) room) (by decide)));obtain⟨al,g1,g2,g3⟩:=SetT.store (es':=f) (t':=g) ho ah hd;have Y:=NR s.heap S (Obj.putSet f g)
   have tf:g.tooFull=decide ((d.size+1)*5 >= t.mask*3):=by
    unfold tooFull;rw[T2.fill,C,a]
   rw[tf]
   have plain:Szs g (d.size+1)->SetT w G h₀ (s.heap.update S (Obj.putSet f g)) S (ks++[k]) led:=fun z=>
    ⟨_,f,al,g,g1,g2,g3,T2,by rw[a];exact z,l2.trans M,ae,aa,by rw[a,Nv,hn];rfl,L B,QdQ hg hG B⟩
   have again:∀m,sizeAbove (SetTable.grown (d.size+1))=m+1->KZ m->d.size+1<=m->m<=511->(∀I:SetTable,I.mask=m->Szs I (d.size+1)) ->
     wpAny (model prog w) A (do setRelay S (SetTable.grown (d.size+1));pure true) Q E { s with heap:=s.heap.update S (Obj.putSet f g) }:=by
    intro m a1 a2 a3 a4 a5;refine Na (QcV (s:={ s with heap:=s.heap.update S (Obj.putSet f g) }) g1 g2 g3 T2 (by rw[a,C];exact zl) a1 a2 (by rw[a];exact a3) a4 fun h' o' r ak I c1 c2 c3 c4 c5 c6 c7 c8=>Nj ?_);refine h true h' (Y.trans c1) ⟨o',r,ak,I,c2,c3,c4,c5,?_,c7.trans (l2.trans M),Ud el U (c8.trans B),aa,?_,L (c8.trans B),QdQ hg hG (c8.trans B)⟩
    ·have:r.size=d.size+1:=by rw[<-Nr,c8.length_eq,Nr,a]
     rw[this];exact a5 I c6
    ·rw[<-Nr,c8.length_eq,Nr,a,Nv,hn];rfl
   rcases Z with⟨H,X⟩|⟨H,X⟩|⟨H,X⟩|⟨H,X⟩
   ·rw[H]at C ⊢
    by_cases c:d.size=4
    ·rw[c]at again ⊢;rw[if_pos (by decide)];exact again 31 (by decide) QdK (by decide) (by decide) fun I e=>.inr (.inl ⟨e,by exact by decide⟩)
    ·rw[if_neg (by simp;lia)];exact Nj (h true _ Y (plain (.inl ⟨C,by lia⟩)))
   ·rw[H]at C ⊢
    by_cases c:d.size=18
    ·rw[c]at again ⊢;rw[if_pos (by decide)];exact again 127 (by decide) Qbs (by decide) (by decide) fun I e=>.inr (.inr (.inl ⟨e,by exact by decide⟩))
    ·rw[if_neg (by simp;lia)];exact Nj (h true _ Y (plain (.inr (.inl ⟨C,by lia⟩))))
   ·rw[H]at C ⊢
    by_cases c:d.size=76
    ·rw[c]at again ⊢;rw[if_pos (by decide)];exact again 511 (by decide) QaE (by decide) (by decide) fun I e=>.inr (.inr (.inr ⟨e,by exact by decide⟩))
    ·rw[if_neg (by simp;lia)];exact Nj (h true _ Y (plain (.inr (.inr (.inl ⟨C,by lia⟩)))))
   ·rw[H]at C ⊢;rw[if_neg (by simp;lia)];exact Nj (h true _ Y (plain (.inr (.inr (.inr ⟨C,by exact Nf (EX (Nq hn) _) room⟩)))))
  cases hp:t1.plain with
  | true=>
   rw[if_pos rfl];refine Na (QhW 8 8 _ _ _ (JP ext _ _ U) fun b=>?_);cases b with
   |true=>
    rw[if_pos rfl];exact fin t1 O p1 p2
   |false=>
    rw[if_neg (by simp)];exact fin { t1 with plain:=false } (Qar O) p1 p2
  |false=>
   rw[if_neg (by simp)];refine Na (Nj ?_);rw[if_pos rfl];exact fin t1 O p1 p2
end
end Sb

namespace Sb
open SetTable L2
noncomputable def uq{a:Type}[DecidableEq a](l:List a):List a:=l.foldl (fun u x=>if x∈u then u else u++[x]) []
section
variable{α:Type}[DecidableEq α]
theorem uq_snoc(l:List α)(x:α):uq (l++[x])=if x∈uq l then uq l else uq l++[x]:=by unfold uq;rw[DX];rfl
theorem snoc_ind{P:List α->Prop}(h0:P [])(h1:∀l x,P l->P (l++[x]))(l:List α):P l:=by
 have:∀(n:Nat) (l:List α),l.length=n->P l:=by
  intro n
  induction n with
  |zero=>intro l h;rw[Ep.mp h];exact h0
  |succ n a=>
   intro l h;obtain⟨u,x,rfl⟩:∃u x,l=u++[x]:=⟨l.dropLast,l.getLast (fun z=>by rw[z]at h;cases h),(ET _).symm⟩
   exact h1 u x (a u (by simp at h;exact h))
 exact this _ l rfl
theorem uq_len(l:List α):(uq l).length<=l.length:=by
 induction l using snoc_ind with
 |h0=>exact Nu _
 |h1 l x a=>
  rw[uq_snoc,Nv,Ec];split
  ·exact Nf a (Np _ _)
  ·rw[Nv,Ec];exact EX a _
theorem uq_mem(l:List α):∀y,y∈uq l↔y∈l:=by
 induction l using snoc_ind with
 |h0=>exact fun y=>Iff.rfl
 |h1 l x a=>
  intro y;rw[uq_snoc,NO,NG];split
  ·rename_i b;rw[a y];exact⟨.inl,fun z=>z.elim id fun e=>by rw[e];exact(a x).mp b⟩
  ·rw[NO,NG,a y]
theorem uq_nodup(l:List α):(uq l).Nodup:=by
 induction l using snoc_ind with
 |h0=>exact Er
 |h1 l x a=>
  rw[uq_snoc];split
  ·exact a
  ·rename_i b;rw[ES];exact⟨a,by simp,fun u hu v c e=>b (by rw[NG.mp c]at e;rw[<-e];exact hu)⟩
end
section
variable{prog:Program}{w:World}{A:Around}{R:Result->Shared->Prop}{I:Addr}{fp wr:List Addr}{G:Array GenState->Array GenState->Prop}{n:Nat}{P:Nat->Value->Prop}{St':Nat->Shared->Prop}{h₀:Heap}{G₁:Value->Prop}
theorem Qje(hu:A.in1.units+8<cLine)(W:WalksS prog w A.in1 I fp wr G n P St')(S:Addr)(f:S∉fp)(u:h₀.objs.size<=S)(m:∀b∈wr,h₀.objs.size<=b)(led:Bool)(l:List Tr)(Q:l.length=n)(O:∀i v,P i v->∃k x,l[i]?=some k/\v=.ref x/\L2.IsT h₀ 8 k (.ref x)/\G₁ (.ref x))(hb:n+1<=306) :
  ∀(k i:Nat) (s:Shared),n-i=k->i<=n->St' i s->Ex h₀ s.heap->SetT w G₁ h₀ s.heap S (uq (l.take i)) led ->
   (∀a,Moved (S::wr) G s a->SetT w G₁ h₀ a.heap S (uq l) led->R (.ok (.ret .none)) a) ->
   codeAny (model prog w) A (.builtin "set.update.loop" ⟨[.ref S,.ref I],[]⟩) R s:=by
 have D:S∉wr:=fun z=>f (W.sub _ z);have sub:∀b∈wr,b∈S::wr:=fun b z=>Nw _ z;intro k
 induction k with
 |zero=>
  intro i s U X st ext hS B;obtain rfl:i=n:=by lia
  refine EU Ff ?_;rw[De Dg _];show wpAny _ A.in1 (pyNext (.ref I)>>=_) _ _ s;refine Na (W.done s _ _ st fun a d=>Nj (B a (d.mono sub) ?_));rw[Ej (Nq Q)]at hS;exact hS.at fun o e=>d.heap S _ D e
 | succ k M=>
  intro i s U X st ext hS B;have lt:i<n:=by lia
  refine EU Ff ?_;rw[De Dg _];show wpAny _ A.in1 (pyNext (.ref I)>>=_) _ _ s;refine Na (W.item i s _ _ lt st fun v a Z g d=>?_);obtain⟨L,x,N,rfl,E,Y⟩:=O i v Z;have y:SetT w G₁ h₀ a.heap S (uq (l.take i)) led:=hS.at fun o e=>d.heap S _ D e;have c:Ex h₀ a.heap:=fun b o e=>d.heap b o (fun z=>absurd (m b z) (Fm.mpr (ND e))) (ext b o e);show wpAny _ A.in1 (holding [Value.ref x] (setAdd S (.ref x))>>=_) _ _ a;refine Na (N8 ?_);unfold setAdd;refine N8 (Na (Qbz 8 A.in1 hu _ _ _ _ (JP c _ _ E) ?_))
  have room:(uq (l.take i)).length+1<=306:=by
   have:=uq_len (l.take i);rw[Ed]at this;lia
  refine Qlf (s:={ a with toks:=a.toks+dN 8 L }) hu c y E Y room fun b H h t=>?_
  have r:SetT w G₁ h₀ H S (uq (l.take (i+1))) led:=by
   rw[Yaw,N,Yaj,uq_snoc];exact t
  have ext2:Ex h₀ H:=fun b o e=>(h.2 b (fun z=>absurd u (by rw[<-z];exact Fm.mpr (ND e)))).trans (c b o e);refine Nj ⟨Iw Dg _,M (i+1) _ (by lia) lt (W.frame _ a _ _ g (Np ..) fun b z o e=>?_) ext2 r fun j p q=>?_⟩
  ·exact(h.2 b (fun C:b=S=>f (by rw[<-C];exact z))).trans e
  ·refine B j (Moved.trans W.gtrans ((d.mono sub).then_heap (Np ..) fun b o z e=>?_) p) q;exact(h.2 b (fun C:b=S=>z (by rw[C];exact Nz))).trans e
end
section
variable{prog:Program}{w:World}{A:Around}{E:Value->Shared->Prop}{s:Shared}{G₁:Value->Prop}
theorem Gu{h₀ h:Heap}{a:Addr}{b:Bool}(e:h.get? a=some (St.emptySet b)):SetT w G₁ h₀ h a [] b:=
 ⟨_,#[],0,_,e,⟨rfl,rfl,rfl⟩,rfl,⟨fun i j l g=>absurd g (Da _),rfl,rfl,fun j f=>(nomatch f),fun q d=>(nomatch d)⟩,.inl ⟨rfl,by decide⟩,rfl,fun x c=>(nomatch c),Er,rfl,fun k=>⟨fun z=>(nomatch z),fun⟨_,z,_⟩=>(nomatch z)⟩,fun x c=>(nomatch c)⟩
noncomputable def Qg6(h:Heap)(items:Array Value)(a:List Tr):Prop:=a.length=items.size/\∀(i:Nat) (v:Value),items[i]?=some v->∃(k:Tr) (x:Addr),a[i]?=some k/\v=Value.ref x/\L2.IsT h 8 k (Value.ref x)
theorem QjC{l:Addr}{items:Array Value}{r:List Tr}{Q:Value->Shared->Prop}(hu:A.units+9<cLine)(O:A.handled=none)(N:s.heap.IsList l items)(hi:Qg6 s.heap items r)(hG:∀v∈items.toList,G₁ v)(C:items.size+1<=306)
  (h:∀(h':Heap) (tk:Nat),SetT w G₁ s.heap h' s.heap.objs.size (uq r) (St.ledW w)->Ex s.heap h'->Q (.ref s.heap.objs.size) { s with heap:=h',toks:=tk }) :
  wpAny (model prog w) A (Builtin.«set.__init__» ⟨[.ref s.heap.objs.size,.ref l],[]⟩) (fun fin u=>fin=.done (.ret .none)/\Q (.ref s.heap.objs.size) u) E { s with heap:=s.heap.push (St.emptySet (St.ledW w)) }:=by
 have hS:(s.heap.push (St.emptySet (St.ledW w))).get? s.heap.objs.size=some (St.emptySet (St.ledW w)):=NA _ rfl;have hT:Shared.TypeIs { s with heap:=s.heap.push (St.emptySet (St.ledW w)) } (.ref s.heap.objs.size) "set":=⟨_,hS,rfl⟩
 obtain⟨ol,g,p,nl,n⟩:=N;obtain⟨H,d,z,c⟩:=ol;simp only at p n;subst p n;have f:(s.heap.push (St.emptySet (St.ledW w))).get? l=some { cls:=.type "list",dict:=d,data:=.seq items nl,slots:=c }:=Nn _ g;have m:(s.heap.push (St.emptySet (St.ledW w))).IsList l items:=⟨_,f,rfl,nl,rfl⟩
 have n1:=F.sub_list_set;have n2:=ON;have n3:(Value.type "list"==Value.type "dict")=false:=by decide
 unfold Builtin.«set.__init__» noKeywords Builtin.Frozenset.updateFrom;generalize G:pyIter=PI
 wp_walk
 subst G;refine Ly m (Na (IX ?_));have j:l<s.heap.objs.size:=ND g;have a:(s.heap.push (St.emptySet (St.ledW w))).objs.size=s.heap.objs.size+1:=F8 _ _;have B:l≠(s.heap.push (St.emptySet (St.ledW w))).objs.size:=by rw[a];exact NS (DB j)
 have M:s.heap.objs.size∉[(s.heap.push (St.emptySet (St.ledW w))).objs.size,l]:=by
  rw[a];simp only[NF,Ew,or_false,not_or];exact⟨NS (EI _),D6 j⟩
 refine Qje (h₀:=s.heap) (by show A.units+1+8<cLine;omega) ((Walks.list (show A.in1.handled=none by simp[O]) _ l B items).toS) s.heap.objs.size M (Nu _) (fun b C=>by rw[NG.mp C,a];exact FO _) (St.ledW w) r hi.1 (fun i v e=>let⟨k,x,a1,L,Z⟩:=hi.2 i v e;⟨k,x,a1,L,Z,by rw[<-L];exact hG v (NZ.mpr ⟨i,by rw[NH];exact e⟩)⟩) C (items.size-0) 0 _ rfl (NM _) ⟨⟨_,NA _ rfl,rfl,rfl⟩,m.push _⟩ (fun b o e=>Nn _ (Nn _ e)) (Gu (Nn _ hS)) fun u q D=>?_;obtain⟨h',P,Y,t,y⟩:=u;have U:P=s.gens:=q.gens;have X:Y=s.drawn:=q.drawn;have S:y=s.os:=q.os;subst U X S;refine Nj (Nj ⟨rfl,h h' t D fun b o e=>?_⟩);have lt:b<s.heap.objs.size:=ND e;refine q.heap b o ?_ (Nn _ (Nn _ e));simp only[NF,Ew,or_false,not_or];exact⟨NS lt,by rw[a];exact NS (DB lt)⟩
theorem set_tups{l:Addr}{items:Array Value}{m:List Tr}{Q:Value->Shared->Prop}(hu:A.units+12<cLine)(u:A.handled=none)(t:s.heap.IsList l items)(hi:Qg6 s.heap items m)(hG:∀v∈items.toList,G₁ v)(x:items.size+1<=306)
  (h:∀(h':Heap) (tk:Nat),SetT w G₁ s.heap h' s.heap.objs.size (uq m) (St.ledW w)->Ex s.heap h'->Q (.ref s.heap.objs.size) { s with heap:=h',toks:=tk }) :
  wpAny (model prog w) A (call (.type "set") [.ref l]) Q E s:=by
 have body:∀(i:Around),i.handled=none->i.units+9<cLine->wpAny (model prog w) i (Builtin.«set.__init__» ⟨[.ref s.heap.objs.size,.ref l],[]⟩) (fun fin n=>fin=.done (.ret .none)/\Q (.ref s.heap.objs.size) n) E { s with heap:=s.heap.push (St.emptySet (St.ledW w)) }:=by
  intro i z j;exact QjC j z t hi hG x h
 obtain⟨c,B,o⟩:=EJ.mro;have M:=EJ.made;have L:=EJ.sub;refine wpAny_call (L9 (show wpAny _ _ (callAny (.type "set") _) _ _ _ from ?_));refine Nj ⟨F3 _ (by decide +kernel),EU (F.entry_type_call) ?_⟩;rw[Yak (Ov "set" [Value.ref l] []) rfl];have I:=EJ.notType;have H:=EJ.canCreate;have G:=F.typeCall_set_1 (Value.ref l)
 repeat (any_goals (first|assumption|wp_step))
 refine DJ (St.newL (Value.ref l) (E:=E) (Q₁:=fun obj d=>obj=.ref s.heap.objs.size/\d={ s with heap:=s.heap.push (St.emptySet (St.ledW w)) }) ⟨rfl,rfl⟩) fun r d hr=>?_;cases r with
 |error e=>exact hr
 | ok fl=>
  cases fl with
  | ret obj=>
   obtain⟨rfl,rfl⟩:=hr;have hS:(s.heap.push (St.emptySet (St.ledW w))).get? s.heap.objs.size=some (St.emptySet (St.ledW w)):=NA _ rfl;have y:Shared.TypeIs { s with heap:=s.heap.push (St.emptySet (St.ledW w)) } (.ref s.heap.objs.size) "set":=⟨_,hS,rfl⟩
   have D:=EJ.init.lookup;have C:=EJ.init.bind (.ref s.heap.objs.size)
   repeat (any_goals (first|assumption|wp_step))
   refine DJ (OO (R:=wants (fun r b=>r=.none/\Q (.ref s.heap.objs.size) b) E) EJ.init.plain F.entry_set_init (check_set_init_1 y (N4 (body _ (by simp[u]) (by first|(show A.units+1+9<cLine;omega)|(show A.units+1+1+9<cLine;lia)|(show A.units+1+1+1+9<cLine;omega))) (fun fin n q=>?_) fun _ _ q=>q))) fun g b a=>?_
   ·obtain⟨rfl,q⟩:=q;exact⟨rfl,q⟩
   ·cases g with
    |error e=>exact a
    | ok f=>
     cases f with
     |ret r=>
      obtain⟨rfl,q⟩:=a
      repeat (any_goals (first|assumption|wp_step))
     |_=>exact a.elim
  |_=>exact hr.elim
end
end Sb

namespace Sb
open L2
theorem Us{d:Type}[DecidableEq d]:∀(ks a:List d),ks.Nodup->(∀k∈ks,k∈a)->a.length=ks.length->a.Perm ks
 |[],a,_,_,h=>by rw[Ep.mp h]
 |k::r,a,b,c,h=>by
  have f:=c k Nz;rw[Eu]at b;refine(IL f).trans (List.Perm.cons k (Us r (a.erase k) b.2 (fun x e=>?_) ?_))
  ·exact(DZ (fun z=>b.1 (by rw[<-z];exact e))).mpr (c x (Nw _ e))
  ·rw[Dy f,h];rfl
section
variable{prog:Program}{w:World}{A:Around}{E:Value->Shared->Prop}{s:Shared}{h₀:Heap}{G:Value->Prop}
theorem Wp{ks:List Tr}{es:Array (Int×Value)}{vs:List Value}(h1:Els w h₀ es)(y:ks.Nodup)(u:es.size=ks.length)(t:∀k,k∈ks↔∃e∈es.toList,L2.IsT h₀ 8 k e.2)(r:∀e∈es.toList,G e.2)(p:vs.Perm (es.toList.map (·.2))):∃l,Qg6 h₀ vs.toArray l/\l.Perm ks/\∀v∈vs,G v:=by
 have a:∀v∈vs,∃k x,v=.ref x/\L2.IsT h₀ 8 k (.ref x):=fun v a=>by
  obtain⟨e,d,rfl⟩:=NE.mp (p.mem_iff.mp a);obtain⟨k,b,B,z,_⟩:=h1 e d;exact⟨k,b,B,z⟩
 letI:∀p:Prop,Decidable p:=fun p=>Classical.propDecidable p
 let f:Value->Tr:=fun v=>if h:∃k x,v=.ref x/\L2.IsT h₀ 8 k (.ref x)then Classical.choose h else .i 0
 have n:∀v∈vs,∃x,v=.ref x/\L2.IsT h₀ 8 (f v) (.ref x):=fun v h=>by
  have:=a v h;show∃x,v=.ref x/\L2.IsT h₀ 8 (if h:∃k x,v=.ref x/\L2.IsT h₀ 8 k (.ref x)then Classical.choose h else .i 0) (.ref x);rw[dif_pos this];exact Oz this
 refine⟨vs.map f,⟨by simp,fun i v e=>?_⟩,Us ks _ y (fun k q=>?_) ?_,fun v a=>by
  obtain⟨e,d,rfl⟩:=NE.mp (p.mem_iff.mp a)
  exact r e d⟩
 ·have o:vs[i]?=some v:=by simpa using e
  obtain⟨x,j,g⟩:=n v (N5 o);exact⟨f v,x,by rw[NB,o];rfl,j,g⟩
 ·obtain⟨e,d,c⟩:=(t k).mp q;have m:e.2∈vs:=p.mem_iff.mpr (NE.mpr ⟨e,d,rfl⟩);obtain⟨x,j,g⟩:=n _ m;refine NE.mpr ⟨e.2,m,?_⟩;rw[j]at c;exact Ju _ _ _ g c
 ·rw[Ny,p.length_eq,Ny,Nr,u]
theorem Qb5{S:Addr}{ks:List Tr}{Q:List Value->Shared->Prop}(i:A.handled=none)(hS:SetT w G h₀ s.heap S ks (St.ledW w))(hz:ks.length<=sizeLine)
  (h:∀h' d tk (vs:List Value),(∃e,Qg6 h₀ vs.toArray e/\e.Perm ks/\∀v∈vs,G v)->Ex s.heap h'->s.heap.objs.size<=h'.objs.size->Q vs { s with heap:=h',drawn:=d,toks:=tk }):wpAny (model prog w) A (collect (.ref S)) Q E s:=by
 obtain⟨o,q,r,t,n,g,m,T0,Z,b,l,c,f,a,j⟩:=hS;exact St.collectW i n g m (T0.fits (Nl Z.lt.1)) (fun _=>T0.up) b (by rw[f];exact hz) fun h' d tk vs p=>h h' d tk vs (Wp l c f a j p)
end
end Sb

namespace Sb
open L2
inductive Sh where
 |i
 |s
 |t (l:List Sh)
noncomputable def Wf:Nat->Sh->Tr->Prop
 |0,_,_=>False
 |_+1,.i,k=>∃n,k=.i n
 |_+1,.s,k=>∃x,k=.s x
 |n+1,.t l,k=>∃ks,k=.t ks/\Paired (Wf n) l ks
noncomputable def lex(lt:Tr->Tr->Bool):List Tr->List Tr->Bool
 |k::ks,l::ls=>if k=l then lex lt ks ls else lt k l
 |_,_=>false
noncomputable def ltN:Nat->Tr->Tr->Bool
 |0,_,_=>false
 |_+1,.i a,.i b=>decide (a<b)
 |_+1,.s a,.s b=>decide (a.cps.toList<b.cps.toList)
 |n+1,.t ks,.t ls=>lex (ltN n) ks ls
 |_+1,_,_=>false
theorem str_of{a b:Str}(h:a.cps.toList=b.cps.toList):a=b:=by
 obtain⟨a⟩:=a;obtain⟨b⟩:=b;congr 1;exact YaI.mp h
theorem Qf5{n:Nat}(i:∀sh a b,Wf n sh a->Wf n sh b->a≠b->ltN n a b=true\/ltN n b a=true){l:List Sh}{ks ls:List Tr}(p:Paired (Wf n) l ks)(q:Paired (Wf n) l ls)(h:ks≠ls):lex (ltN n) ks ls=true\/lex (ltN n) ls ks=true:=by
 induction p generalizing ls with
 |nil=>cases q;exact absurd rfl h
 |@cons _ k _ ks f o g=>
  obtain _|⟨e,d⟩:=q
  rename_i m r
  by_cases c:k=m
  ·subst c;simp only[lex,if_true];exact g d fun z=>h (by rw[z])
  ·have j:¬m=k:=fun z=>c z.symm;simp only[lex,c,j,if_false];exact i _ k m f e c
theorem WC:∀(n:Nat) (sh:Sh) (a b:Tr),Wf n sh a->Wf n sh b->a≠b->ltN n a b=true\/ltN n b a=true
 |0,_,_,_,h,_,_=>h.elim
 |n+1,.i,_,_,⟨x,rfl⟩,⟨y,rfl⟩,h=>by
  have:x≠y:=fun z=>h (by rw[z]);simp only[ltN,decide_eq_true_eq];lia
 |n+1,.s,_,_,⟨x,rfl⟩,⟨y,rfl⟩,h=>by
  simp only[ltN,decide_eq_true_eq]
  by_cases c:x.cps.toList<y.cps.toList
  ·exact .inl c
  ·right;refine EB fun d=>h ?_;rw[str_of (YaJ (List.not_lt.mp d) (List.not_lt.mp c))]
 |n+1,.t l,_,_,⟨f,rfl,p⟩,⟨e,rfl,q⟩,h=>by
  simp only[ltN];exact Qf5 (WC n) p q fun z=>h (by rw[z])
theorem QbP:∀(n:Nat) (a:Tr),ltN n a a=false
 |0,_=>rfl
 |n+1,.i x=>by simp[ltN]
 |n+1,.s x=>by simp only[ltN,decide_eq_false_iff_not];exact List.lt_irrefl _
 |n+1,.t ks=>by
  simp only[ltN]
  induction ks with
  |nil=>rfl
  |cons k ks b=>simp only[lex,if_true];exact b
theorem QaX{n:Nat}(v:∀sh a b c,Wf n sh a->Wf n sh b->Wf n sh c->ltN n a b=true->ltN n b c=true->ltN n a c=true){l:List Sh}{ks ls ms:List Tr}(p:Paired (Wf n) l ks)(q:Paired (Wf n) l ls)(r:Paired (Wf n) l ms)(h1:lex (ltN n) ks ls=true)(d:lex (ltN n) ls ms=true):lex (ltN n) ks ms=true:=by
 induction p generalizing ls ms with
 |nil=>cases q;cases r;exact h1
 | @cons _ k _ ks t w u=>
  obtain _|⟨s,j⟩:=q
  obtain _|⟨i,h⟩:=r
  rename_i m ls o ms;simp only[lex]at h1 d ⊢
  by_cases f:k=m
  ·subst f;rw[if_pos rfl]at h1
   by_cases e:k=o
   ·subst e;rw[if_pos rfl]at d ⊢;exact u j h h1 d
   ·rw[if_neg e]at d ⊢;exact d
  ·rw[if_neg f]at h1
   by_cases e:m=o
   ·subst e;rw[if_neg f];exact h1
   ·rw[if_neg e]at d;have:=v _ k m o t s i h1 d
    by_cases g:k=o
    ·subst g;rw[QbP]at this;cases this
    ·rw[if_neg g];exact this
theorem X1:∀(n:Nat) (sh:Sh) (a b c:Tr),Wf n sh a->Wf n sh b->Wf n sh c->ltN n a b=true->ltN n b c=true->ltN n a c=true
 |0,_,_,_,_,h,_,_,_,_=>h.elim
 | n+1,sh,a,b,c,f,e,d,h1,g=>by
  cases sh with
  |i=>
   obtain⟨x,rfl⟩:=f;obtain⟨y,rfl⟩:=e;obtain⟨z,rfl⟩:=d;simp only[ltN,decide_eq_true_eq]at *;exact Int.lt_trans h1 g
  |s=>
   obtain⟨x,rfl⟩:=f;obtain⟨y,rfl⟩:=e;obtain⟨z,rfl⟩:=d;simp only[ltN,decide_eq_true_eq]at *;exact List.lt_trans h1 g
  |t l=>
   obtain⟨o,rfl,p⟩:=f;obtain⟨m,rfl,q⟩:=e;obtain⟨j,rfl,r⟩:=d;simp only[ltN]at *;exact QaX (X1 n) p q r h1 g
theorem JC{sh:Sh}:∀(a b:List Tr),(∀t∈a,Wf 8 sh t)->a.Perm b->(a.Pairwise fun x y=>ltN 8 y x=false)->(b.Pairwise fun x y=>ltN 8 y x=false)->a=b
 |[],b,_,p,_,_=>(List.nil_perm.mp p).symm
 |x::r,[],_,p,_,_=>by cases List.perm_nil.mp p
 | x::r,y::t,w,p,d,c=>by
  rw[Yao]at d c
  have f:x=y:=by
   have e:y∈x::r:=p.mem_iff.mpr Nz;have h:x∈y::t:=p.mem_iff.mp Nz
   rcases NF.mp e with z|z
   ·exact z.symm
   ·rcases NF.mp h with q|q
    ·exact q
    ·refine EB fun ne=>?_
     rcases WC 8 sh x y (w x Nz) (w y e) ne with u|u
     ·rw[c.1 x q]at u;cases u
     ·rw[d.1 y z]at u;cases u
  subst f;rw[JC r t (fun t g=>w t (Nw _ g)) (Yal p) d.2 c.2]
open Classical in
noncomputable def srtT(ks:List Tr):List Tr:=if h:∃a:List Tr,a.Perm ks/\a.Pairwise fun x y=>ltN 8 y x=false then h.choose else[]
theorem srtT_eq{sh:Sh}{a ks:List Tr}(w:∀t∈ks,Wf 8 sh t)(p:a.Perm ks)(h:a.Pairwise fun x y=>ltN 8 y x=false):srtT ks=a:=by
 have b:∃a:List Tr,a.Perm ks/\a.Pairwise fun x y=>ltN 8 y x=false:=⟨a,p,h⟩
 unfold srtT;rw[dif_pos b];exact JC (sh:=sh) _ _ (fun t c=>w t (b.choose_spec.1.mem_iff.mp c)) (b.choose_spec.1.trans p.symm) b.choose_spec.2 h
noncomputable def rk(a:List Tr)(t:Tr):Nat:=a.countP fun u=>ltN 8 u t
theorem Uy{e:Type}{p q:e->Bool}:∀{l:List e},(∀x∈l,p x=true->q x=true)->(∃x∈l,q x=true/\p x=false)->l.countP p<l.countP q
 |[],_,⟨_,h,_⟩=>nomatch h
 | a::l,h1,⟨x,d,g,f⟩=>by
  have le:l.countP p<=l.countP q:=OB fun y b=>h1 y (Nw _ b);rw[FL,FL]
  rcases NF.mp d with rfl|d
  ·rw[if_neg (by rw[f];simp),if_pos g];lia
  ·have i:=Uy (l:=l) (fun y b=>h1 y (Nw _ b)) ⟨x,d,g,f⟩;have:=h1 a Nz
   by_cases c:p a=true
   ·rw[if_pos c,if_pos (this c)];exact Nat.add_lt_add_right i _
   ·rw[if_neg c];split<;>omega
theorem QjD{sh:Sh}{d:List Tr}(w:∀t∈d,Wf 8 sh t){a b:Tr}(f:a∈d)(g:b∈d):(rk d a<rk d b)↔ltN 8 a b=true:=by
 constructor
 ·intro h;cases c:ltN 8 a b with
  |true=>rfl
  | false=>
   exfalso
   have:rk d b<=rk d a:=by
    unfold rk;refine OB fun u hu z=>?_
    by_cases e:a=b
    ·rw[e];exact z
    ·rcases WC 8 sh a b (w a f) (w b g) e with y|y
     ·rw[c]at y;cases y
     ·exact X1 8 sh u b a (w u hu) (w b g) (w a f) z y
   exact Dq this h
 ·intro h;unfold rk;exact Uy (fun u hu z=>X1 8 sh u a b (w u hu) (w a f) (w b g) z h) ⟨a,f,h,QbP 8 a⟩
end Sb

namespace Sb
open L2 PySem.W SeqAt
noncomputable def LtAt(A:Around)(s:Shared)(p q:Value)(b:Bool):Prop:=∀(a:Program) (w:World) (E:Value->Shared->Prop) (Q:Value->Shared->Prop),Q (.bool b) s->wpAny (model a w) A (richCompare .Lt p q) Q E s
inductive LexAt(A:Around)(s:Shared)(fin:Bool):List (Value×Value)->Bool->Prop where
 |nil:LexAt A s fin [] fin
 |same {p q:Value} {r:List (Value×Value)} {b:Bool}:EqAt A s p q true->LexAt A s fin r b->LexAt A s fin ((p,q)::r) b
 |diff {p q:Value} {r:List (Value×Value)} {b:Bool}:EqAt A s p q false->LtAt A s p q b->LexAt A s fin ((p,q)::r) b
theorem U7(l b:Addr)(items a:Array Value)(n z:Nat)(E r:Option Addr)(v i:Array (Option Value))(c:Bool) :
  Meets (Builtin.«tuple.__lt__» ⟨[.ref l,.ref b],[]⟩)
   (fun A R s=>s.heap.get? l=some { cls:=.type "tuple",dict:=E,data:=.seq items n,slots:=v }/\s.heap.get? b=some { cls:=.type "tuple",dict:=r,data:=.seq a z,slots:=i } /\
    LexAt A.in1 s (decide (items.size<a.size)) (items.toList.zip a.toList) c/\R (.ok (.ret (.bool c))) s):=
 .of_wp fun e w A R s h=>by
  obtain⟨u,g,d,t,os⟩:=s;obtain⟨B,D,C,h⟩:=h;have f2:=LO
  wp_walk using E9 B,E9 D,FG _ (fun rest b j=>b.1=none/\j=⟨u,g,d,t,os⟩/\LexAt A.in1 ⟨u,g,d,t,os⟩ (decide (items.size<a.size)) rest c) _
  case turn=>
   rintro⟨y,x⟩ rest b j ⟨f,o,m⟩
   subst o;cases m with
   |same q p=>
    refine Na (q e w _ _ ?_)
    wp_walk
    exact⟨rfl,rfl,p⟩
   |diff q p=>
    refine Na (q e w _ _ ?_);simp only[OA,if_true];refine Na (DI (Na (p e w _ _ ?_)))
    wp_walk
    exact⟨_,rfl,h⟩
  case fin=>
   rintro⟨H,G⟩ j ⟨f,rfl,m⟩
   simp only at f;subst f;cases m
   wp_walk
   exact⟨_,rfl,by simpa[Builtin.Tuple.tupleCompareSizes]using h⟩
  case h=>
   exact⟨rfl,rfl,C⟩
section
variable{A:Around}{s:Shared}
theorem LtAt.tuples{l b:Addr}{items a:Array Value}{c:Bool}(t:s.heap.IsTuple l items)(v:s.heap.IsTuple b a)(hu:A.units<cLine)
  (u:LexAt A.in1 s (decide (items.size<a.size)) (items.toList.zip a.toList) c):LtAt A s (.ref l) (.ref b) c:=fun j w E Q h=>by
 obtain⟨⟨cls,y,data,q⟩,m,o,n,hd⟩:=id t;obtain⟨⟨p,i,data2,g⟩,d,f,r,e⟩:=id v;simp only at o hd f e;subst o hd f e
 exact richCompare_meets_room (op:=.Lt) ⟨_,m,rfl⟩ ⟨_,d,rfl⟩ F.slot_tuple_lt F.entry_tuple_lt (F.args_tuple_lt_2 _ _) (U7 l b items a n r y i q g c)
  ⟨m,d,u,show Value.bool c≠Value.notImplemented/\Q (.bool c) s from⟨(fun x=>nomatch x),h⟩⟩ hu
noncomputable def IsQ(h:Heap):Nat->Tr->Value->Prop
 |0,_,_=>False
 |_+1,.i k,v=>∃t,v=.int k t
 |_+1,.s x,v=>∃t,v=.str x t
 |n+1,.t ks,v=>∃a b,v=.ref a/\h.IsTuple a b/\Paired (IsQ h n) ks b.toList
theorem XN{h:Heap}:∀{n:Nat} (k:Tr) (v:Value),IsQ h n k v->L2.IsT h n k v
 |0,_,_,x=>x.elim
 |n+1,.i k,v,x=>.inl x
 |n+1,.s y,v,x=>x
 |n+1,.t ks,v,⟨a,b,e,p,q⟩=>⟨a,b,e,p,JB (fun k v=>XN k v) q⟩
theorem ZK{h h':Heap}(e:Ex h h'):∀{n:Nat} (k:Tr) (v:Value),IsQ h n k v->IsQ h' n k v
 |0,_,_,x=>x.elim
 |n+1,.i k,v,x=>x
 |n+1,.s k,v,x=>x
 |n+1,.t ks,v,⟨a,b,q,p,r⟩=>⟨a,b,q,Ul e p,JB (fun k v=>ZK e k v) r⟩
theorem Qh5{n:Nat}(A:Around)(hu:A.units+n<cLine)(o:∀sh x y u v,Wf n sh x->Wf n sh y->IsQ s.heap n x u->IsQ s.heap n y v->LtAt A s u v (ltN n x y))
  {l:List Sh} {ks ls:List Tr} {us vs:List Value} (p:Paired (Wf n) l ks) (q:Paired (Wf n) l ls) (r:Paired (IsQ s.heap n) ks us) (t:Paired (IsQ s.heap n) ls vs):LexAt A s false (us.zip vs) (lex (ltN n) ks ls):=by
 induction p generalizing ls us vs with
 |nil=>cases q;cases r;cases t;exact .nil
 |@cons _ k _ ks i w j=>
  obtain _|⟨h,g⟩:=q
  obtain _|⟨b,f⟩:=r
  obtain _|⟨a,d⟩:=t
  rename_i m z u us v vs;have e:=Qf9 n A hu k m u v (XN _ _ b) (XN _ _ a);rw[Lf];unfold lex
  by_cases c:k=m
  ·rw[if_pos c];rw[decide_eq_true c]at e;exact .same e (j g f d)
  ·rw[if_neg c];rw[decide_eq_false c]at e;exact .diff e (o _ k m u v i h b a)
theorem QdE{h:Heap}{n:Nat}{l:List Sh}{ks ls:List Tr}{us vs:Array Value}(p:Paired (Wf n) l ks)(q:Paired (Wf n) l ls)(r:Paired (IsQ h n) ks us.toList)(t:Paired (IsQ h n) ls vs.toList):us.size=vs.size:=by
 have f:=N7 p;have e:=N7 q;have d:=N7 r;have c:=N7 t;have b:us.toList.length=us.size:=Nr ..;have a:vs.toList.length=vs.size:=Nr ..;lia
theorem Qjp:∀(n:Nat) (A:Around),A.units+n<cLine->∀sh x y u v,Wf n sh x->Wf n sh y->IsQ s.heap n x u->IsQ s.heap n y v->LtAt A s u v (ltN n x y)
 |0,_,_,_,_,_,_,_,h,_,_,_=>h.elim
 | n+1,A,hu,sh,x,y,u,v,e,d,g,f=>by
  cases sh with
  |i=>
   obtain⟨x,rfl⟩:=e;obtain⟨y,rfl⟩:=d;obtain⟨t,rfl⟩:=g;obtain⟨r,rfl⟩:=f;intro c w E Q h;show wpAny _ _ (compareOp .Lt _ _) _ _ _;refine PyProof.Rows.lt_int ?_;simpa only[ltN]using h
  |s=>
   obtain⟨x,rfl⟩:=e;obtain⟨y,rfl⟩:=d;obtain⟨t,rfl⟩:=g;obtain⟨r,rfl⟩:=f;intro c w E Q h;show wpAny _ _ (compareOp .Lt _ _) _ _ _;refine PyProof.Rows.lt_str ?_;simpa only[ltN]using h
  |t l=>
   obtain⟨G,rfl,p⟩:=e;obtain⟨D,rfl,q⟩:=d;obtain⟨a,z,rfl,C,m⟩:=g;obtain⟨b,o,rfl,B,j⟩:=f;refine LtAt.tuples C B (Nd (Np _ _) hu) ?_;rw[QdE p q m j];simp only[EG,decide_false,ltN];exact Qh5 A.in1 (by show A.units+1+n<cLine;lia) (Qjp n A.in1 (by show A.units+1+n<cLine;lia)) p q m j
end
end Sb

namespace Ts
open PySem.W
set_option autoImplicit false
noncomputable def ZQ:Bool->Keyed->Array Keyed->Nat->Nat->Nat->StateT SortSt Sem (Option Nat):=sortPriv% PySem.Builtin.gallop
section
variable{prog:Program}{w:World}{A:Around}{E:Value->Shared->Prop}{s:Shared}
noncomputable def T(prog:Program)(w:World)(A:Around)(E:Value->Shared->Prop)(s:Shared){c:Type}(m:StateT SortSt Sem c)(P:c->SortSt->Prop)(st:SortSt):Prop:=
 ∀d,kasC (model prog w) A E m (fun a b e=>(∃t,e={ s with toks:=t })/\P a b) st { s with toks:=d }
theorem Qf{b:Type}{a:b}{P:b->SortSt->Prop}{st:SortSt}(h:P a st):T prog w A E s (pure a) P st:=fun c=>kasC_pure ⟨⟨c,rfl⟩,h⟩
theorem Qe{d c:Type}{m:StateT SortSt Sem d}{g:d->StateT SortSt Sem c}{P:c->SortSt->Prop}{st:SortSt}
  (h:T prog w A E s m (fun a b=>T prog w A E s (g a) P b) st):T prog w A E s (m>>=g) P st:=fun f=>by
 refine kasC_bind (N4 (h f) (fun r l j=>?_) fun _ _ e=>e);obtain⟨⟨t,rfl⟩,i⟩:=j;exact i t
theorem QO{c:Type}{m:StateT SortSt Sem c}{P f:c->SortSt->Prop}{st:SortSt}(h:T prog w A E s m P st)(i:∀a b,P a b->f a b):T prog w A E s m f st:=
 fun g=>N4 (h g) (fun _ _ d=>⟨d.1,i _ _ d.2⟩) fun _ _ e=>e
theorem Ki{P:SortSt->SortSt->Prop}{st:SortSt}(h:P st st):T prog w A E s get P st:=fun a=>kasC_get ⟨⟨a,rfl⟩,h⟩
theorem ZF{g:SortSt->SortSt}{P:PUnit->SortSt->Prop}{st:SortSt}(h:P ⟨⟩ (g st)):T prog w A E s (modify g) P st:=fun a=>kasC_modify ⟨⟨a,rfl⟩,h⟩
theorem Qja{a:SortSt}{P:PUnit->SortSt->Prop}{st:SortSt}(h:P ⟨⟩ a):T prog w A E s (set a) P st:=fun b=>by
 unfold kasC;rw[StateT.run_set];exact Nj ⟨⟨b,rfl⟩,h⟩
theorem Kw{x:String}{P:Unit->SortSt->Prop}{st:SortSt}(h:P () st):T prog w A E s (liftM (rule x):StateT SortSt Sem Unit) P st:=fun a=>kasC_lift (DI ⟨⟨a,rfl⟩,h⟩)
theorem QdN{f:Type}(g:Nat->f->StateT SortSt Sem (ForInStep f))(I:List Nat->f->SortSt->Prop)(Q:f->SortSt->Prop)
  (a:∀x rest b st,I (x::rest) b st->T prog w A E s (g x b) (fun r c=>match r with|.done e=>Q e c|.yield e=>I rest e c) st)
  (d:∀b st,I [] b st->Q b st):∀(l:List Nat) (b:f) (st:SortSt),I l b st->T prog w A E s (forIn l b g) Q st
 |[],b,st,h=>by rw[List.forIn_nil];exact Qf (d _ _ h)
 |x::rest,b,st,h=>by
  rw[YaL];refine Qe (QO (a x rest b st h) fun r c h'=>?_);cases r with
  |done e=>exact Qf h'
  |yield e=>exact QdN g I Q a d rest e c h'
theorem Vm{o:Type}{a b:Nat}{g:Nat->o->StateT SortSt Sem (ForInStep o)}(I:Nat->o->SortSt->Prop){Q:o->SortSt->Prop}
  (f:∀i c st,a<=i->i<b->I i c st->T prog w A E s (g i c) (fun r e=>match r with|.done t=>Q t e|.yield t=>I (i+1) t e) st)
  (q:∀c st,I (max a b) c st->Q c st) {c:o} {st:SortSt} (h:I a c st):T prog w A E s (forIn [a:b] c g) Q st:=by
 rw[O8];have u:([a:b]:Std.Legacy.Range).size=b-a:=by simp[Std.Legacy.Range.size]
 show T prog w A E s (forIn (List.range' a ([a:b]:Std.Legacy.Range).size 1) c g) Q st;rw[u];refine QdN g (fun l c st=>∃i,a<=i/\i<=max a b/\l=List.range' i (max a b-i) 1/\I i c st) Q ?_ ?_ _ c st ⟨a,Nu _,by exact L4 _ _,by congr 1;omega,h⟩
 ·rintro x rest c st ⟨i,m,p,j,z⟩
  have y:i<max a b:=by
   rcases Et i (max a b)with d|d
   ·exact d
   ·rw[show max a b-i=0 by lia]at j;simp at j
  obtain⟨n,v⟩:∃n,max a b-i=n+1:=⟨max a b-i-1,by lia⟩
  rw[v,LN]at j;obtain⟨rfl,rfl⟩:=List.cons.inj j;refine QO (f x c st m (by lia) z) fun r e d=>?_;cases r with
  |done t=>exact d
  |yield t=>exact⟨x+1,by exact Nf m (Np _ _),by exact y,by congr 1;lia,d⟩
 ·rintro c st ⟨i,m,p,j,z⟩
  have:i=max a b:=by
   rcases Et i (max a b)with d|d
   ·obtain⟨n,v⟩:∃n,max a b-i=n+1:=⟨max a b-i-1,by omega⟩
    rw[v,LN]at j;simp at j
   ·exact Ek p d
  subst this;exact q _ _ z
noncomputable def Cmp(prog:Program)(w:World)(A:Around)(s:Shared)(κ:SortKind)(M:Keyed->Prop)(f:Keyed->Int):Prop:=
 ∀x y,M x->M y->∀(a:Nat) (C:Bool->Shared->Prop),(∀t,C (decide (f x<f y)) { s with toks:=t })->wpAny (model prog w) A (keyLt' κ x.1 y.1) C (fun _ _=>False) { s with toks:=a }
variable{κ:SortKind}{M:Keyed->Prop}{f:Keyed->Int}
theorem Qgk{x y:Keyed}{P:Option Bool->SortSt->Prop}{st:SortSt}(g:Cmp prog w A s κ M f)(e:kindOf st=κ)(d:M x)(c:M y)(h:P (some (decide (f x<f y))) st):T prog w A E s (lt' x y) P st:=by
 rw[lt'_eq];refine Qe (Ki ?_);refine Qe (m:=liftM (keyLt' (kindOf st) x.1 y.1).attempt) fun a=>kasC_lift (Iv ?_);rw[e];refine N4 (g x y d c a _ fun t=>(?_:(∃b,({ s with toks:=t }:Shared)={ s with toks:=b })/\_)) (fun _ _ h=>h) fun _ _ h=>h.elim;exact⟨⟨t,rfl⟩,Qf h⟩
theorem QZ{xs:Array Keyed}{i:Nat}{P:Keyed->SortSt->Prop}{st:SortSt}(hi:i<xs.size)(h:P xs[i] st):T prog w A E s (elem' xs i) P st:=by
 rw[elem'_eq,getElem?_pos xs i hi];exact Qf h
end
theorem Gh(left:Bool)(key:Keyed)(arr:Array Keyed)(base n hint:Nat):ZQ left key arr base n hint=(do
 let b (i:Nat):StateT SortSt Sem (Option Bool):=do
  let x <-elem' arr (base+i)
  if left then lt' x key else return(<-lt' key x).map (!·)
 let mut lastofs:=0
 let mut ofs:=1
 let mut lo:=0
 let mut hi:=0
 let some right <-b hint|return none
 if right then
  let a:=n-hint
  for _ in [0:n] do
   if ofs >= a then break
   let some more <-b (hint+ofs)|return none
   if !more then break
   lastofs:=ofs
   ofs:=2*ofs+1
  lo:=hint+lastofs+1
  hi:=hint+min ofs a
 else
  let a:=hint+1
  for _ in [0:n] do
   if ofs >= a then break
   let some found <-b (hint-ofs)|return none
   if found then break
   lastofs:=ofs
   ofs:=2*ofs+1
  lo:=hint+1-min ofs a
  hi:=hint-lastofs
 for _ in [0:n] do
  if lo >= hi then break
  let m:=lo+(hi-lo)/2
  let some more <-b m|return none
  if more then lo:=m+1 else hi:=m
 return some hi):=rfl
end Ts

namespace Ts
open PySem.W
set_option autoImplicit false
section
variable{prog:Program}{w:World}{A:Around}{E:Value->Shared->Prop}{s:Shared}{κ:SortKind}{M:Keyed->Prop}{f:Keyed->Int}
noncomputable def bey(f:Keyed->Int)(left:Bool)(key x:Keyed):Bool:=if left=true then decide (f x<f key)else !decide (f key<f x)
theorem Qc0{left:Bool}{key:Keyed}{arr:Array Keyed}{i:Nat}{P:Option Bool->SortSt->Prop}{st:SortSt}(d:Cmp prog w A s κ M f)(c:kindOf st=κ)(a:M key)(hi:i<arr.size)(b:M arr[i])(h:P (some (bey f left key arr[i])) st) :
  T prog w A E s (do
   let x <-elem' arr i
   if left then lt' x key else return(<-lt' key x).map (!·)) P st:=by
 refine Qe (QZ hi ?_);cases left with
 |true=>exact Qgk d c b a h
 |false=>exact Qe (Qgk d c a b (Qf h))
noncomputable def QkR(left:Bool)(key:Keyed)(arr:Array Keyed)(base n lo hi:Nat):StateT SortSt Sem (Option Nat):=do
 let mut lo:=lo
 let mut hi:=hi
 for _ in [0:n] do
  if lo >= hi then break
  let m:=lo+(hi-lo)/2
  let some more <-(do
   let x <-elem' arr (base+m)
   if left then lt' x key else return(<-lt' key x).map (!·))|return none
  if more then lo:=m+1 else hi:=m
 return some hi
theorem Qhl{left:Bool}{key:Keyed}{arr:Array Keyed}{base n lo hi:Nat}{P:Option Nat->SortSt->Prop}{st:SortSt}(B:Cmp prog w A s κ M f)(z:kindOf st=κ)(o:M key)
  (G:base+n<=arr.size) (y:∀i (h:i<arr.size),M arr[i]) (mono:∀i j (hi:base+i<arr.size) (H:base+j<arr.size),i<=j->j<n->bey f left key arr[base+j]=true->bey f left key arr[base+i]=true)
  (q:lo<=hi) (t:hi<=n) (bl:∀i (h:base+i<arr.size),i<lo->bey f left key arr[base+i]=true) (D:∀i (h:base+i<arr.size),hi<=i->i<n->bey f left key arr[base+i]=false)
  (h:∀k,k<=n->(∀i (hi:base+i<arr.size),i<k->bey f left key arr[base+i]=true)->(∀i (hi:base+i<arr.size),k<=i->i<n->bey f left key arr[base+i]=false)->P (some k) st) :
  T prog w A E s (QkR left key arr base n lo hi) P st:=by
 unfold QkR
 refine Qe (QO (Vm (I:=fun x c a=>a=st/\∃l r,c=(none,l,r)/\l<=r/\r<=n/\r-l<=n-x/\(∀i (h:base+i<arr.size),i<l->bey f left key arr[base+i]=true)/\(∀i (h:base+i<arr.size),r<=i->i<n->bey f left key arr[base+i]=false))
  (Q:=fun c a=>a=st/\∃l r,c=(none,l,r)/\r<=n/\l=r/\(∀i (h:base+i<arr.size),i<l->bey f left key arr[base+i]=true)/\(∀i (h:base+i<arr.size),r<=i->i<n->bey f left key arr[base+i]=false)) ?_ ?_ ⟨rfl,lo,hi,rfl,q,t,by lia,bl,D⟩) ?_)
 ·rintro i c a _ p ⟨rfl,l,r,rfl,v,m,C,g,d⟩
  dsimp only
  by_cases b:l >= r
  ·rw[if_pos b];exact Qf ⟨rfl,l,r,rfl,m,by exact Ek v b,g,d⟩
  ·rw[if_neg b];refine Qe (Qc0 B z o (by lia) (y _ _) ?_);cases u:bey f left key arr[base+(l+(r-l)/2)]with
   |true=>
    refine Qf ⟨rfl,l+(r-l)/2+1,r,rfl,by lia,m,by omega,fun i h hi=>mono i (l+(r-l)/2) _ (by lia) (by lia) (by lia) u,d⟩
   |false=>
    refine Qf ⟨rfl,l,l+(r-l)/2,rfl,by exact Np _ _,by lia,by omega,g,fun i h hi p=>?_⟩;cases e:bey f left key arr[base+i]with
    |false=>rfl
    |true=>rw[mono (l+(r-l)/2) i (Nd (NK hi _) h) h hi p e]at u;exact absurd u (by simp)
 ·rintro c a ⟨rfl,l,r,rfl,v,m,C,g,d⟩
  exact⟨rfl,l,r,rfl,m,by lia,g,d⟩
 ·rintro c a ⟨rfl,l,r,rfl,m,rfl,g,d⟩
  exact Qf (h l m g d)
theorem J8{left:Bool}{key:Keyed}{arr:Array Keyed}{base n hint:Nat}{P:Option Nat->SortSt->Prop}{st:SortSt}(C:Cmp prog w A s κ M f)(B:kindOf st=κ)(b:M key)
  (y:base+n<=arr.size) (G:hint<n) (z:∀i (h:i<arr.size),M arr[i]) (N:∀i j (hi:i<arr.size) (v:j<arr.size),base<=i->i<=j->j<base+n->f arr[i]<=f arr[j])
  (h:∀k,k<=n->(∀i (hi:base+i<arr.size),i<k->bey f left key arr[base+i]=true)->(∀i (hi:base+i<arr.size),k<=i->i<n->bey f left key arr[base+i]=false)->P (some k) st) :
  T prog w A E s (ZQ left key arr base n hint) P st:=by
 rw[Gh]
 have mono:∀i j (hi:base+i<arr.size) (v:base+j<arr.size),i<=j->j<n->bey f left key arr[base+j]=true->bey f left key arr[base+i]=true:=by
  intro i j hi v u t;have:=N (base+i) (base+j) hi v (Np _ _) (NK u _) (NU t _);unfold bey;cases left<;>simp<;>lia
 have r:∀i j (hi:base+i<arr.size) (v:base+j<arr.size),i<=j->j<n->bey f left key arr[base+i]=false->bey f left key arr[base+j]=false:=by
  intro i j hi v u t e;cases O:bey f left key arr[base+j]with
  |false=>rfl
  |true=>rw[mono i j hi v u t O]at e;exact absurd e (by simp)
 dsimp only;refine Qe (Qc0 C B b (Ng (NU G _) y) (z _ _) ?_);cases hr:bey f left key arr[base+hint]with
 | true=>
  dsimp only;rw[if_pos rfl]
  refine Qe (QO (Vm (I:=fun x c a=>a=st/\∃l o,c=(none,l,o)/\l<o/\x+1<=o/\hint+l<n/\(∀(h:base+(hint+l)<arr.size),bey f left key arr[base+(hint+l)]=true))
   (Q:=fun c a=>a=st/\∃l o,c=(none,l,o)/\l<o/\hint+l<n/\(∀(h:base+(hint+l)<arr.size),bey f left key arr[base+(hint+l)]=true)/\(∀(h:base+(hint+o)<arr.size),hint+o<n->bey f left key arr[base+(hint+o)]=false)) ?_ ?_ ⟨rfl,0,1,rfl,by exact by decide,by exact by decide,by omega,fun _=>hr⟩) ?_)
  ·rintro i c a _ m ⟨rfl,l,o,rfl,q,L,d,g⟩
   dsimp only
   by_cases p:o >= n-hint
   ·rw[if_pos p];exact Qf ⟨rfl,l,o,rfl,q,d,g,fun _ h=>by omega⟩
   ·rw[if_neg p];refine Qe (Qc0 C B b (by lia) (z _ _) ?_);cases D:bey f left key arr[base+(hint+o)]with
    |true=>exact Qf ⟨rfl,o,2*o+1,rfl,by lia,by lia,by lia,fun _=>D⟩
    |false=>exact Qf ⟨rfl,l,o,rfl,q,d,g,fun _ _=>D⟩
  ·rintro c a ⟨rfl,l,o,rfl,q,L,d,g⟩
   exact⟨rfl,l,o,rfl,q,d,g,fun _ h=>by lia⟩
  ·rintro c a ⟨rfl,l,o,rfl,q,d,g,H⟩
   refine Qhl (lo:=hint+l+1) (hi:=hint+min o (n-hint)) C B b y z mono (by omega) (by omega) (fun i h hi=>mono i (hint+l) h (Ng (NU d _) y) (by lia) d (g (Ng (NU d _) y))) (fun i h hi m=>r (hint+o) i (by lia) h (by omega) m (H (by omega) (by lia))) h
 | false=>
  dsimp only;rw[if_neg (by simp)]
  refine Qe (QO (Vm (I:=fun x c a=>a=st/\∃l o,c=(none,l,o)/\l<o/\x+1<=o/\l<=hint/\(∀(h:base+(hint-l)<arr.size),bey f left key arr[base+(hint-l)]=false))
   (Q:=fun c a=>a=st/\∃l o,c=(none,l,o)/\l<o/\l<=hint/\(∀(h:base+(hint-l)<arr.size),bey f left key arr[base+(hint-l)]=false)/\(∀(h:base+(hint-o)<arr.size),o<=hint->bey f left key arr[base+(hint-o)]=true)) ?_ ?_ ⟨rfl,0,1,rfl,by exact by decide,by exact by decide,by exact NM _,fun _=>hr⟩) ?_)
  ·rintro i c a _ m ⟨rfl,l,o,rfl,q,L,d,g⟩
   dsimp only
   by_cases p:o >= hint+1
   ·rw[if_pos p];exact Qf ⟨rfl,l,o,rfl,q,d,g,fun _ h=>by lia⟩
   ·rw[if_neg p];refine Qe (Qc0 C B b (by lia) (z _ _) ?_);cases D:bey f left key arr[base+(hint-o)]with
    |true=>exact Qf ⟨rfl,l,o,rfl,q,d,g,fun _ _=>D⟩
    |false=>exact Qf ⟨rfl,o,2*o+1,rfl,by omega,by omega,by lia,fun _=>D⟩
  ·rintro c a ⟨rfl,l,o,rfl,q,L,d,g⟩
   exact⟨rfl,l,o,rfl,q,d,g,fun _ h=>by lia⟩
  ·rintro c a ⟨rfl,l,o,rfl,q,d,g,H⟩
   refine Qhl (lo:=hint+1-min o (hint+1)) (hi:=hint-l) C B b y z mono (by omega) (Nl (Nd (ED _ _) G)) (fun i h hi=>mono i (hint-o) h (by lia) (by omega) (Nd (ED _ _) G) (H (by omega) (by omega))) (fun i h hi m=>r (hint-l) i (Nd (NK hi _) h) h hi m (g (Nd (NK hi _) h))) h
end
end Ts

namespace Ts
open PySem.W
set_option autoImplicit false
noncomputable def Xt:Array Keyed->Array Keyed->StateT SortSt Sem (Array Keyed):=sortPriv% PySem.Builtin.mergeLo
noncomputable def Xy:Array Keyed->Array Keyed->StateT SortSt Sem (Array Keyed):=sortPriv% PySem.Builtin.mergeHi
noncomputable def K7(g:Nat)(st:SortSt):SortSt:=SortSt.mk' (kindOf st) (arrOf st) (pendingOf st) g (failedOf st)
theorem Wg(a b:Array Keyed):Xt a b=(do
 rule "list.sort.merge-lo"
 let d:=a.size+b.size
 let done (out:Array Keyed) (ia ib:Nat):=out++a.extract ia a.size++b.extract ib b.size
 let c (out:Array Keyed) (ia ib:Nat):=out++b.extract ib b.size++a.extract ia a.size
 let mut out:Array Keyed:=#[<-elem' b 0]
 let mut ia:=0
 let mut ib:=1
 if ib==b.size then return done out ia ib
 if ia+1==a.size then return c out ia ib
 let mut minGallop:=gallopOf (<-get)
 for _ in [0:d] do
  let mut acount:=0
  let mut bcount:=0
  for _ in [0:d] do
   let some e <-lt' (<-elem' b ib) (<-elem' a ia)|return done out ia ib
   if e then
    out:=out.push (<-elem' b ib);ib:=ib+1;bcount:=bcount+1;acount:=0
    if ib==b.size then return done out ia ib
    if bcount >= minGallop then break
   else
    out:=out.push (<-elem' a ia);ia:=ia+1;acount:=acount+1;bcount:=0
    if ia+1==a.size then return c out ia ib
    if acount >= minGallop then break
  rule "list.sort.gallop"
  minGallop:=minGallop+1
  for _ in [0:d] do
   if minGallop>1 then minGallop:=minGallop-1
   modify (K7 minGallop)
   let some k <-ZQ false (<-elem' b ib) a ia (a.size-ia) 0|return done out ia ib
   acount:=k
   if k>0 then
    out:=out++a.extract ia (ia+k);ia:=ia+k
    if ia+1==a.size then return c out ia ib
    if ia==a.size then return done out ia ib
   out:=out.push (<-elem' b ib);ib:=ib+1
   if ib==b.size then return done out ia ib
   let some k <-ZQ true (<-elem' a ia) b ib (b.size-ib) 0|return done out ia ib
   bcount:=k
   if k>0 then
    out:=out++b.extract ib (ib+k);ib:=ib+k
    if ib==b.size then return done out ia ib
   out:=out.push (<-elem' a ia);ia:=ia+1
   if ia+1==a.size then return c out ia ib
   if acount<7&&bcount<7 then break
  minGallop:=minGallop+1
  modify (K7 minGallop)
 unsupported "internal:list.sort.merge-bound"):=rfl
theorem Wx(a b:Array Keyed):Xy a b=(do
 rule "list.sort.merge-hi"
 let d:=a.size+b.size
 let done (out:Array Keyed) (na nb:Nat):=a.extract 0 na++b.extract 0 nb++out.reverse
 let c (out:Array Keyed) (na nb:Nat):=b.extract 0 nb++a.extract 0 na++out.reverse
 let mut na:=a.size-1
 let mut nb:=b.size
 let mut out:Array Keyed:=#[<-elem' a na]
 if na==0 then return done out na nb
 if nb==1 then return c out na nb
 let mut minGallop:=gallopOf (<-get)
 for _ in [0:d] do
  let mut acount:=0
  let mut bcount:=0
  for _ in [0:d] do
   let some f <-lt' (<-elem' b (nb-1)) (<-elem' a (na-1))|return done out na nb
   if f then
    na:=na-1;out:=out.push (<-elem' a na);acount:=acount+1;bcount:=0
    if na==0 then return done out na nb
    if acount >= minGallop then break
   else
    nb:=nb-1;out:=out.push (<-elem' b nb);bcount:=bcount+1;acount:=0
    if nb==1 then return c out na nb
    if bcount >= minGallop then break
  rule "list.sort.gallop"
  minGallop:=minGallop+1
  for _ in [0:d] do
   if minGallop>1 then minGallop:=minGallop-1
   modify (K7 minGallop)
   let some e <-ZQ false (<-elem' b (nb-1)) a 0 na (na-1)|return done out na nb
   let k:=na-e
   acount:=k
   if k>0 then
    out:=out++(a.extract e na).reverse;na:=e
    if na==0 then return done out na nb
   nb:=nb-1;out:=out.push (<-elem' b nb)
   if nb==1 then return c out na nb
   let some e <-ZQ true (<-elem' a (na-1)) b 0 nb (nb-1)|return done out na nb
   let k:=nb-e
   bcount:=k
   if k>0 then
    out:=out++(b.extract e nb).reverse;nb:=e
    if nb==1 then return c out na nb
    if nb==0 then return done out na nb
   na:=na-1;out:=out.push (<-elem' a na)
   if na==0 then return done out na nb
   if acount<7&&bcount<7 then break
  minGallop:=minGallop+1
  modify (K7 minGallop)
 unsupported "internal:list.sort.merge-bound"):=rfl
structure J(f:Keyed->Int)(la lb o:List Keyed)(ia ib:Nat):Prop where
 pm:(o++(la.drop ia++lb.drop ib)).Perm (la++lb)
 so:o.Pairwise fun x y=>f x<=f y
 ua:∀x∈o,∀y∈la.drop ia,f x<=f y
 ub:∀x∈o,∀y∈lb.drop ib,f x<=f y
variable{f:Keyed->Int}{la lb o:List Keyed}{ia ib:Nat}
theorem J.swap(h:J f la lb o ia ib):J f lb la o ib ia:=⟨(FC o FD).trans (h.pm.trans FD),h.so,h.ub,h.ua⟩
theorem J.chunk(h:J f la lb o ia ib)(sa:la.Pairwise fun x y=>f x<=f y)(k:Nat)(d:∀x∈(la.drop ia).take k,∀y∈lb.drop ib,f x<=f y):J f la lb (o++(la.drop ia).take k) (ia+k) ib:=by
 have e:la.drop ia=(la.drop ia).take k++la.drop (ia+k):=by rw[<-OC,Eo]
 have c:=Ds (Fx ia la) sa;rw[e,Df]at c;refine⟨?_,?_,?_,?_⟩
 ·have:=h.pm;rw[e]at this;simpa[DC]using this
 ·rw[Df];refine⟨h.so,c.1,fun x a y b=>h.ua x a y ?_⟩;rw[e];exact Du _ b
 ·intro x a y b
  rcases NO.mp a with a|a
  ·exact h.ua x a y (by rw[e];exact Ea _ b)
  ·exact c.2.2 x a y b
 ·intro x a y b
  rcases NO.mp a with a|a
  ·exact h.ub x a y b
  ·exact d x a y b
theorem Uq{l:List Keyed}{i:Nat}(hi:i<l.length):(l.drop i).take 1=[l[i]]:=by
 rw[EO hi];rfl
theorem J.one(h:J f la lb o ia ib)(sa:la.Pairwise fun x y=>f x<=f y)(hi:ia<la.length)(c:∀y∈lb.drop ib,f la[ia]<=f y):J f la lb (o++[la[ia]]) (ia+1) ib:=by
 have:=h.chunk sa 1;rw[Uq hi]at this;exact this fun x b y a=>by rw[NG.mp b];exact c y a
noncomputable def Out(f:Keyed->Int)(la lb r:List Keyed):Prop:=r.Perm (la++lb)/\r.Pairwise fun x y=>f x<=f y
theorem J.endB(h:J f la lb o ia ib)(sa:la.Pairwise fun x y=>f x<=f y)(a:lb.length<=ib):Out f la lb (o++la.drop ia++lb.drop ib):=by
 have e:lb.drop ib=[]:=Ft a;refine⟨by rw[DC];exact h.pm,?_⟩;rw[e,Dx,Df];exact⟨h.so,Ds (Fx ia la) sa,h.ua⟩
theorem J.endA(h:J f la lb o ia ib)(sb:lb.Pairwise fun x y=>f x<=f y)(a:la.length<=ia):Out f la lb (o++la.drop ia++lb.drop ib):=by
 have e:la.drop ia=[]:=Ft a;refine⟨by rw[DC];exact h.pm,?_⟩;rw[e,Dx,Df];exact⟨h.so,Ds (Fx ib lb) sb,h.ub⟩
theorem J.lastA(h:J f la lb o ia ib)(sa:la.Pairwise fun x y=>f x<=f y)(sb:lb.Pairwise fun x y=>f x<=f y)(b:∀x∈lb.drop ib,∀y∈la.drop ia,f x<=f y):Out f la lb (o++lb.drop ib++la.drop ia):=by
 refine⟨by rw[DC];exact(FC o FD).trans h.pm,?_⟩;rw[DC,Df,Df];refine⟨h.so,⟨Ds (Fx ib lb) sb,Ds (Fx ia la) sa,b⟩,fun x c y a=>?_⟩
 rcases NO.mp a with a|a
 ·exact h.ub x c y a
 ·exact h.ua x c y a
end Ts

namespace Ts
open PySem.W
set_option autoImplicit false
noncomputable abbrev LoS:=Option (Array Keyed)×Array Keyed×Nat×Nat×Nat
noncomputable abbrev InS:=Option (Array Keyed)×Array Keyed×Nat×Nat×Nat×Nat
noncomputable abbrev GaS:=Option (Array Keyed)×Array Keyed×Nat×Nat×Nat×Nat×Nat
theorem QM{f:Type}{c:Prop}[Decidable c]{a b e d:f}(h1:a=e)(g:b=d):ite c a b=ite c e d:=by rw[h1,g]
theorem Qm{a b:Type}{m:StateT SortSt Sem a}{g g':a->StateT SortSt Sem b}(h:∀x,g x=g' x):(m>>=g)=(m>>=g'):=by rw[funext h]
theorem Zd{a b:Type}{m:StateT SortSt Sem (Option a)}{g g':Option a->StateT SortSt Sem b}(h0:g none=g' none)(h1:∀x,g (some x)=g' (some x)):(m>>=g)=(m>>=g'):=Qm fun x=>by cases x;exact h0;exact h1 _
section
variable(a b:Array Keyed)
noncomputable def QiF(d:Nat)(_:Nat)(s:InS):StateT SortSt Sem (ForInStep InS):=do
 let y <-elem' b s.2.2.2.1
 let x <-elem' a s.2.2.1
 match <-lt' y x with
 | some c=>
  if c=true then do
   let y <-elem' b s.2.2.2.1
   if(s.2.2.2.1+1==b.size)=true then pure (.done (some (s.2.1.push y++a.extract s.2.2.1 a.size++b.extract (s.2.2.2.1+1) b.size),s.2.1.push y,s.2.2.1,s.2.2.2.1+1,0,s.2.2.2.2.2+1))
   else if s.2.2.2.2.2+1 >= d then pure (.done (none,s.2.1.push y,s.2.2.1,s.2.2.2.1+1,0,s.2.2.2.2.2+1))
   else pure (.yield (none,s.2.1.push y,s.2.2.1,s.2.2.2.1+1,0,s.2.2.2.2.2+1))
  else do
   let x <-elem' a s.2.2.1
   if(s.2.2.1+1+1==a.size)=true then pure (.done (some (s.2.1.push x++b.extract s.2.2.2.1 b.size++a.extract (s.2.2.1+1) a.size),s.2.1.push x,s.2.2.1+1,s.2.2.2.1,s.2.2.2.2.1+1,0))
   else if s.2.2.2.2.1+1 >= d then pure (.done (none,s.2.1.push x,s.2.2.1+1,s.2.2.2.1,s.2.2.2.2.1+1,0))
   else pure (.yield (none,s.2.1.push x,s.2.2.1+1,s.2.2.2.1,s.2.2.2.2.1+1,0))
 |_=>pure (.done (some (s.2.1++a.extract s.2.2.1 a.size++b.extract s.2.2.2.1 b.size),s.2.1,s.2.2.1,s.2.2.2.1,s.2.2.2.2.1,s.2.2.2.2.2))
noncomputable def Qhc(out:Array Keyed)(c d f ac e:Nat):StateT SortSt Sem (ForInStep GaS):=do
 let x <-elem' a c
 if(c+1+1==a.size)=true then pure (.done (some (out.push x++b.extract d b.size++a.extract (c+1) a.size),out.push x,c+1,d,f,ac,e))
 else if(decide (ac<7)&&decide (e<7))=true then pure (.done (none,out.push x,c+1,d,f,ac,e))
 else pure (.yield (none,out.push x,c+1,d,f,ac,e))
noncomputable def QhV(out:Array Keyed)(d c e ac f:Nat):StateT SortSt Sem (ForInStep GaS):=do
 let y <-elem' b c
 if(c+1==b.size)=true then pure (.done (some (out.push y++a.extract d a.size++b.extract (c+1) b.size),out.push y,d,c+1,e,ac,f))
 else do
  let x <-elem' a d
  match <-ZQ true x b (c+1) (b.size-(c+1)) 0 with
  | some k=>
   if k>0 then
    if(c+1+k==b.size)=true then pure (.done (some (out.push y++b.extract (c+1) (c+1+k)++a.extract d a.size++b.extract (c+1+k) b.size),out.push y++b.extract (c+1) (c+1+k),d,c+1+k,e,ac,k))
    else Qhc a b (out.push y++b.extract (c+1) (c+1+k)) d (c+1+k) e ac k
   else Qhc a b (out.push y) d (c+1) e ac k
  |_=>pure (.done (some (out.push y++a.extract d a.size++b.extract (c+1) b.size),out.push y,d,c+1,e,ac,f))
noncomputable def QhR(out:Array Keyed)(c d e ac f:Nat):StateT SortSt Sem (ForInStep GaS):=do
 modify (K7 e)
 let y <-elem' b d
 match <-ZQ false y a c (a.size-c) 0 with
 | some k=>
  if k>0 then
   if(c+k+1==a.size)=true then pure (.done (some (out++a.extract c (c+k)++b.extract d b.size++a.extract (c+k) a.size),out++a.extract c (c+k),c+k,d,e,k,f))
   else if(c+k==a.size)=true then pure (.done (some (out++a.extract c (c+k)++a.extract (c+k) a.size++b.extract d b.size),out++a.extract c (c+k),c+k,d,e,k,f))
   else QhV a b (out++a.extract c (c+k)) (c+k) d e k f
  else QhV a b out c d e k f
 |_=>pure (.done (some (out++a.extract c a.size++b.extract d b.size),out,c,d,e,ac,f))
noncomputable def QjY(_:Nat)(s:GaS):StateT SortSt Sem (ForInStep GaS):=
 if s.2.2.2.2.1>1 then QhR a b s.2.1 s.2.2.1 s.2.2.2.1 (s.2.2.2.2.1-1) s.2.2.2.2.2.1 s.2.2.2.2.2.2 else QhR a b s.2.1 s.2.2.1 s.2.2.2.1 s.2.2.2.2.1 s.2.2.2.2.2.1 s.2.2.2.2.2.2
noncomputable def QcO(_:Nat)(s:LoS):StateT SortSt Sem (ForInStep LoS):=do
 let t <-forIn [0:a.size+b.size] ((none,s.2.1,s.2.2.1,s.2.2.2.1,0,0):InS) (QiF a b s.2.2.2.2)
 match t.1 with
 |some r=>pure (.done (some r,t.2.1,t.2.2.1,t.2.2.2.1,s.2.2.2.2))
 | none=>do
  rule "list.sort.gallop"
  let u <-forIn [0:a.size+b.size] ((none,t.2.1,t.2.2.1,t.2.2.2.1,s.2.2.2.2+1,t.2.2.2.2.1,t.2.2.2.2.2):GaS) (QjY a b)
  match u.1 with
  |some r=>pure (.done (some r,u.2.1,u.2.2.1,u.2.2.2.1,u.2.2.2.2.1))
  |none=>do
   modify (K7 (u.2.2.2.2.1+1))
   pure (.yield (none,u.2.1,u.2.2.1,u.2.2.2.1,u.2.2.2.2.1+1))
set_option maxRecDepth 10000 in
set_option maxHeartbeats 400000 in
theorem U0:Xt a b=(do
 rule "list.sort.merge-lo"
 let y <-elem' b 0
 if(1==b.size)=true then pure (#[y]++a.extract 0 a.size++b.extract 1 b.size)
 else if(0+1==a.size)=true then pure (#[y]++b.extract 1 b.size++a.extract 0 a.size)
 else do
  let st <-get
  let t <-forIn [0:a.size+b.size] ((none,#[y],0,1,gallopOf st):LoS) (QcO a b)
  match t.1 with
  |some r=>pure r
  |none=>unsupported "internal:list.sort.merge-bound"):=by
 rw[Wg];unfold QcO QjY QhR QhV Qhc QiF;dsimp only;refine congrArg (bind _) (funext fun _=>congrArg (bind _) (funext fun y=>congrArg (ite _ _) (congrArg (ite _ _) (congrArg (bind _) (funext fun st=>congr (congrArg bind ?_) ?_)))))
 ·refine congrArg (forIn _ _) (funext fun _=>funext fun s=>?_);refine congr (congrArg bind ?_) (funext fun t=>?_)
  ·refine congrArg (forIn _ _) (funext fun _=>funext fun t=>?_)
   (repeat' (first|(with_reducible rfl)|((with_reducible refine Zd ?_ fun _=>?_)<;>dsimp only)|(with_reducible refine Qm fun _=>?_)|(with_reducible refine QM ?_ ?_)))
  ·obtain⟨_|r,t⟩:=t
   ·refine congrArg (bind _) (funext fun _=>congr (congrArg bind ?_) (funext fun u=>?_))
    ·refine congrArg (forIn _ _) (funext fun _=>funext fun t=>?_)
     (repeat' (first|(with_reducible rfl)|((with_reducible refine Zd ?_ fun _=>?_)<;>dsimp only)|(with_reducible refine Qm fun _=>?_)|(with_reducible refine QM ?_ ?_)))
    ·obtain⟨_|r,u⟩:=u<;>rfl
   ·rfl
 ·funext t;obtain⟨_|r,t⟩:=t<;>rfl
end
end Ts

namespace Ts
open PySem.W
set_option autoImplicit false
theorem V6(a:Array Keyed)(i:Nat):(a.extract i a.size).toList=a.toList.drop i:=by
 rw[Dz,EE];exact Ej (by simp)
theorem QgE(a:Array Keyed)(i k:Nat):(a.extract i (i+k)).toList=(a.toList.drop i).take k:=by simp[EE]
theorem Qbg{f:Keyed->Int}{l:List Keyed}(h:l.Pairwise fun x y=>f x<=f y){i j:Nat}(hi:i<l.length)(a:j<l.length)(b:i<=j):f l[i]<=f l[j]:=by
 by_cases e:i=j
 ·subst e;lia
 ·exact D1.mp h i j hi a (by lia)
theorem ZN{l:List Keyed}{i:Nat}{x:Keyed}(h:x∈l.drop i):∃j,∃b:j<l.length,i<=j/\x=l[j]:=by
 obtain⟨k,a,e⟩:=EN.mp h;rw[FI]at a;rw[Yay]at e;exact⟨i+k,by omega,by exact Np _ _,e.symm⟩
theorem JZ{l:List Keyed}{i k:Nat}{x:Keyed}(h:x∈(l.drop i).take k):∃j,∃b:j<l.length,i<=j/\j<i+k/\x=l[j]:=by
 obtain⟨n,a,e⟩:=EN.mp h;rw[Ed,FI]at a;rw[Yaz,Yay]at e;exact⟨i+n,by omega,by exact Np _ _,by lia,e.symm⟩
section
variable{prog:Program}{w:World}{A:Around}{E:Value->Shared->Prop}{s:Shared}{κ:SortKind}{M:Keyed->Prop}{f:Keyed->Int}{a b:Array Keyed}
structure Two(f:Keyed->Int)(M:Keyed->Prop)(a b:Array Keyed):Prop where
 ma:∀i (h:i<a.size),M a[i]
 mb:∀i (h:i<b.size),M b[i]
 sa:a.toList.Pairwise fun x y=>f x<=f y
 sb:b.toList.Pairwise fun x y=>f x<=f y
noncomputable def Top(f:Keyed->Int)(a b:Array Keyed):Prop:=∀i (h:i<a.size),i+1=a.size->∀x∈b.toList,f x<=f a[i]
noncomputable def Ja(f:Keyed->Int)(a b out:Array Keyed)(d c:Nat):Prop:=J f a.toList b.toList out.toList d c
noncomputable def Ro(f:Keyed->Int)(a b r:Array Keyed):Prop:=Out f a.toList b.toList r.toList
variable(W:Two f M a b)(hT:Top f a b)
include W in
theorem Ja.pushA{out:Array Keyed}{c d:Nat}(h:Ja f a b out c d)(hi:c<a.size)(i:∀j (e:j<b.size),d<=j->f a[c]<=f b[j]):Ja f a b (out.push a[c]) (c+1) d:=by
 unfold Ja;rw[DW];refine J.one h W.sa (by simpa using hi) fun y g=>?_;obtain⟨j,e,l,rfl⟩:=ZN g;exact i j (by simpa using e) l
include W in
theorem Ja.pushB{out:Array Keyed}{d c:Nat}(h:Ja f a b out d c)(hi:c<b.size)(i:∀j (e:j<a.size),d<=j->f b[c]<=f a[j]):Ja f a b (out.push b[c]) d (c+1):=by
 unfold Ja;rw[DW];refine(J.one (J.swap h) W.sb (by simpa using hi) fun y g=>?_).swap;obtain⟨j,e,l,rfl⟩:=ZN g;exact i j (by simpa using e) l
include W in
theorem Ja.manyA{out:Array Keyed}{c d:Nat}(h:Ja f a b out c d)(k:Nat)(m:∀i (hi:i<a.size),i<c+k->∀j (e:j<b.size),d<=j->f a[i]<=f b[j]):Ja f a b (out++a.extract c (c+k)) (c+k) d:=by
 unfold Ja;rw[N6,QgE];refine J.chunk h W.sa k fun x l y g=>?_;obtain⟨i,hi,_,o,rfl⟩:=JZ l;obtain⟨j,e,n,rfl⟩:=ZN g;exact m i (by simpa using hi) o j (by simpa using e) n
include W in
theorem Ja.manyB{out:Array Keyed}{d c:Nat}(h:Ja f a b out d c)(k:Nat)(m:∀i (hi:i<b.size),i<c+k->∀j (e:j<a.size),d<=j->f b[i]<=f a[j]):Ja f a b (out++b.extract c (c+k)) d (c+k):=by
 unfold Ja;rw[N6,QgE];refine(J.chunk (J.swap h) W.sb k fun x l y g=>?_).swap;obtain⟨i,hi,_,o,rfl⟩:=JZ l;obtain⟨j,e,n,rfl⟩:=ZN g;exact m i (by simpa using hi) o j (by simpa using e) n
include W in
theorem Ja.doneB{out:Array Keyed}{d c:Nat}(h:Ja f a b out d c)(e:b.size<=c):Ro f a b (out++a.extract d a.size++b.extract c b.size):=by
 unfold Ro;rw[N6,N6,V6,V6];exact J.endB h W.sa (by simpa using e)
include W in
theorem Ja.doneA{out:Array Keyed}{c d:Nat}(h:Ja f a b out c d)(e:a.size<=c):Ro f a b (out++a.extract c a.size++b.extract d b.size):=by
 unfold Ro;rw[N6,N6,V6,V6];exact J.endA h W.sb (by simpa using e)
include W hT in
theorem Ja.doneL{out:Array Keyed}{c e:Nat}(h:Ja f a b out c e)(m:c+1=a.size):Ro f a b (out++b.extract e b.size++a.extract c a.size):=by
 unfold Ro;rw[N6,N6,V6,V6];refine J.lastA h W.sa W.sb fun x i y g=>?_;obtain⟨j,l,n,rfl⟩:=ZN g;have d:j<a.size:=by simpa using l
 have:j=c:=by lia
 subst this;exact hT j d m x (OS i)
structure Lv(f:Keyed->Int)(a b out:Array Keyed)(ia ib:Nat):Prop where
 j:Ja f a b out ia ib
 ia:ia+1<a.size
 ib:ib<b.size
noncomputable def fl(g:Nat)(st:SortSt)(c:SortSt):Prop:=c=K7 g st
include W in
theorem aLe{i j:Nat}(hi:i<a.size)(c:j<a.size)(h:i<=j):f a[i]<=f a[j]:=Qbg W.sa (i:=i) (j:=j) (by simpa using hi) (by simpa using c) h
include W in
theorem bLe{i j:Nat}(hi:i<b.size)(c:j<b.size)(h:i<=j):f b[i]<=f b[j]:=Qbg W.sb (i:=i) (j:=j) (by simpa using hi) (by simpa using c) h
noncomputable def InP(f:Keyed->Int)(a b:Array Keyed)(n:Nat)(t:InS):Prop:=(∃r,t.1=some r/\Ro f a b r)\/(t.1=none/\Lv f a b t.2.1 t.2.2.1 t.2.2.2.1/\n<=t.2.2.1+t.2.2.2.1)
include W hT in
theorem Qij{y i n:Nat}{t:InS}{st:SortSt}(C:Cmp prog w A s κ M f)(B:kindOf st=κ)(h:t.1=none/\Lv f a b t.2.1 t.2.2.1 t.2.2.2.1/\n<=t.2.2.1+t.2.2.2.1) :
  T prog w A E s (QiF a b y i t) (fun r q=>q=st/\match r with|.done c=>InP f a b (n+1) c|.yield c=>c.1=none/\Lv f a b c.2.1 c.2.2.1 c.2.2.2.1/\n+1<=c.2.2.1+c.2.2.2.1) st:=by
 obtain⟨_,x,v,u,ac,D⟩:=t;obtain⟨rfl,L,z⟩:=h;dsimp only at L z;have o:=L.ia;have l:=L.ib;unfold QiF;dsimp only;refine Qe (QZ l (Qe (QZ (Nd (Np _ _) o) (Qe (Qgk C B (W.mb _ _) (W.ma _ _) ?_)))))
 by_cases m:f b[u]<f a[v]
 ·rw[decide_eq_true m];dsimp only;rw[if_pos rfl];refine Qe (QZ l ?_);have g:=L.j.pushB W l fun j p d=>by have:=aLe W (Nd d p) p d;omega
  by_cases e:(u+1==b.size)=true
  ·rw[if_pos e];simp only[beq_iff_eq]at e;exact Qf ⟨rfl,.inl ⟨_,rfl,g.doneB W (Nq e.symm)⟩⟩
  ·rw[if_neg e];simp only[beq_iff_eq]at e;split
   ·exact Qf ⟨rfl,.inr ⟨rfl,⟨g,o,by dsimp only;lia⟩,by dsimp only;lia⟩⟩
   ·exact Qf ⟨rfl,rfl,⟨g,o,by dsimp only;omega⟩,by dsimp only;omega⟩
 ·rw[decide_eq_false m];dsimp only;rw[if_neg (by simp)];refine Qe (QZ (Nd (Np _ _) o) ?_);have g:=L.j.pushA W (Nd (Np _ _) o) fun j p d=>by have:=bLe W l p d;omega
  by_cases e:(v+1+1==a.size)=true
  ·rw[if_pos e];simp only[beq_iff_eq]at e;exact Qf ⟨rfl,.inl ⟨_,rfl,g.doneL W hT e⟩⟩
  ·rw[if_neg e];simp only[beq_iff_eq]at e;split
   ·exact Qf ⟨rfl,.inr ⟨rfl,⟨g,by dsimp only;lia,l⟩,by dsimp only;lia⟩⟩
   ·exact Qf ⟨rfl,rfl,⟨g,by dsimp only;omega,l⟩,by dsimp only;omega⟩
end
end Ts

namespace Ts
open PySem.W
set_option autoImplicit false
section
variable{prog:Program}{w:World}{A:Around}{E:Value->Shared->Prop}{s:Shared}{κ:SortKind}{M:Keyed->Prop}{f:Keyed->Int}{a b:Array Keyed}
noncomputable def Sg(st c:SortSt):Prop:=∃g,c=K7 g st
theorem Sg.refl(st:SortSt):Sg st st:=⟨gallopOf st,rfl⟩
theorem Sg.kind{st c:SortSt}(h:Sg st c):kindOf c=kindOf st:=by obtain⟨g,rfl⟩:=h;rfl
theorem Sg.set{st c:SortSt}(h:Sg st c)(g:Nat):Sg st (K7 g c):=by obtain⟨d,rfl⟩:=h;exact⟨g,rfl⟩
noncomputable def GaL(f:Keyed->Int)(a b:Array Keyed)(n:Nat)(u:GaS):Prop:=u.1=none/\Lv f a b u.2.1 u.2.2.1 u.2.2.2.1/\n<=u.2.2.1+u.2.2.2.1
noncomputable def GaP(f:Keyed->Int)(a b:Array Keyed)(n:Nat)(u:GaS):Prop:=(∃r,u.1=some r/\Ro f a b r)\/GaL f a b n u
noncomputable def GaR(f:Keyed->Int)(a b:Array Keyed)(n:Nat)(r:ForInStep GaS):Prop:=match r with|.done c=>GaP f a b n c|.yield c=>GaL f a b n c
variable(W:Two f M a b)(hT:Top f a b)
include W hT in
theorem Qdv{out:Array Keyed}{c d i ac l n:Nat}{st:SortSt}(j:Ja f a b out c d)(h1:c+1<a.size)(o:d<b.size)(p:n<=c+d)(h:∀j (q:j<b.size),d<=j->f a[c]<=f b[j]) :
  T prog w A E s (Qhc a b out c d i ac l) (fun r g=>g=st/\GaR f a b n r) st:=by
 unfold Qhc;refine Qe (QZ (Nd (Np _ _) h1) ?_);have m:=j.pushA W (Nd (Np _ _) h1) h
 by_cases e:(c+1+1==a.size)=true
 ·rw[if_pos e];simp only[beq_iff_eq]at e;exact Qf ⟨rfl,.inl ⟨_,rfl,m.doneL W hT e⟩⟩
 ·rw[if_neg e];simp only[beq_iff_eq]at e;have k:GaL f a b n (none,out.push a[c],c+1,d,i,ac,l):=⟨rfl,⟨m,by dsimp only;lia,o⟩,by dsimp only;lia⟩
  split
  ·exact Qf ⟨rfl,.inr k⟩
  ·exact Qf ⟨rfl,k⟩
include W hT in
theorem Qds{out:Array Keyed}{g c G ac O n:Nat}{st:SortSt}(N:Cmp prog w A s κ M f)(I:kindOf st=κ)(j:Ja f a b out g c)(h1:g+1<a.size)(z:c<b.size)(P:n<=g+c)(o:∀j (l:j<a.size),g<=j->f b[c]<=f a[j]) :
  T prog w A E s (QhV a b out g c G ac O) (fun r v=>v=st/\GaR f a b n r) st:=by
 unfold QhV;refine Qe (QZ z ?_);have B:=j.pushB W z o
 by_cases e:(c+1==b.size)=true
 ·rw[if_pos e];simp only[beq_iff_eq]at e;exact Qf ⟨rfl,.inl ⟨_,rfl,B.doneB W (Nq e.symm)⟩⟩
 ·rw[if_neg e];simp only[beq_iff_eq]at e;refine Qe (QZ (Nd (Np _ _) h1) (Qe (J8 N I (W.ma _ _) (by omega) (by lia) W.mb (fun i j m l _ d _=>bLe W m l d) fun k H y x=>?_)));dsimp only
  have lo:∀i (m:i<b.size),i<c+1+k->f b[i]<=f a[g]:=by
   intro i m p
   by_cases q:i<=c
   ·have D:=bLe W m z q;have C:=o g (Nd (Np _ _) h1) (Nu _);lia
   ·have:=y (i-(c+1)) (by omega) (by omega);simp only[bey,if_true,decide_eq_true_eq,show c+1+(i-(c+1))=i by exact Dk (Fm.mp q)]at this;omega
  have t:∀j (l:j<b.size),c+1+k<=j->f a[g]<=f b[j]:=by
   intro j l L;have:=x (j-(c+1)) (by omega) (by omega) (by omega);simp only[bey,if_true,decide_eq_false_iff_not,show c+1+(j-(c+1))=j by lia]at this;omega
  by_cases h:k>0
  ·rw[if_pos h];have J2:=B.manyB W k fun i m p j l d=>by have D:=lo i m p;have C:=aLe W (Nd d l) l d;omega
   by_cases u:(c+1+k==b.size)=true
   ·rw[if_pos u];simp only[beq_iff_eq]at u;exact Qf ⟨rfl,.inl ⟨_,rfl,J2.doneB W (Nq u.symm)⟩⟩
   ·rw[if_neg u];simp only[beq_iff_eq]at u;exact Qdv W hT J2 h1 (by omega) (by lia) t
  ·rw[if_neg h];have:k=0:=by exact Ek (NQ.mp h) (NM _)
   subst this;exact Qdv W hT B h1 (by lia) (by lia) t
include W hT in
theorem QhM{out:Array Keyed}{c v l ac Y n:Nat}{st o:SortSt}(H:Cmp prog w A s κ M f)(G:kindOf o=κ)(u:Sg o st)(L:Lv f a b out c v)(Q:n<=c+v) :
  T prog w A E s (QhR a b out c v l ac Y) (fun r d=>Sg o d/\GaR f a b n r) st:=by
 have X:=L.ia;have D:=L.ib;unfold QhR;refine Qe (ZF (Qe (QZ D (Qe (J8 H ((u.set l).kind.trans G) (W.mb _ _) (by lia) (by lia) W.ma (fun i j t x _ p _=>aLe W t x p) fun k S N I=>?_)))));dsimp only
 have lo:∀i (t:i<a.size),i<c+k->0<k->f a[i]<=f b[v]:=by
  intro i t y g;have q:=N (max i c-c) (by omega) (by omega);simp only[bey,NT,if_false,Il,decide_eq_false_iff_not,show c+(max i c-c)=max i c by lia]at q;have:=aLe W t (show max i c<a.size by omega) (L4 _ _);omega
 have z:∀j (x:j<a.size),c+k<=j->f b[v]<=f a[j]:=by
  intro j x U;have:=I (j-c) (by lia) (by lia) (by lia);simp only[bey,NT,if_false,Lg,decide_eq_true_eq,show c+(j-c)=j by lia]at this;omega
 have fin:∀{m:StateT SortSt Sem (ForInStep GaS)},T prog w A E s m (fun r d=>d=K7 l st/\GaR f a b n r) (K7 l st)->T prog w A E s m (fun r d=>Sg o d/\GaR f a b n r) (K7 l st):=
  fun h=>QO h fun r d ⟨e,q⟩=>⟨e▸u.set l,q⟩
 by_cases g:k>0
 ·rw[if_pos g];have J2:=L.j.manyA W k fun i t y j x p=>by have P:=lo i t y g;have O:=bLe W D x p;exact Dm P O
  by_cases C:(c+k+1==a.size)=true
  ·rw[if_pos C];simp only[beq_iff_eq]at C;exact Qf ⟨u.set l,.inl ⟨_,rfl,J2.doneL W hT C⟩⟩
  ·rw[if_neg C];simp only[beq_iff_eq]at C
   by_cases B:(c+k==a.size)=true
   ·rw[if_pos B];simp only[beq_iff_eq]at B;exact Qf ⟨u.set l,.inl ⟨_,rfl,J2.doneA W (Nq B.symm)⟩⟩
   ·rw[if_neg B];simp only[beq_iff_eq]at B;exact fin (Qds W hT H ((u.set l).kind.trans G) J2 (by lia) D (by lia) z)
 ·rw[if_neg g];have:k=0:=by exact Ek (NQ.mp g) (NM _)
  subst this;exact fin (Qds W hT H ((u.set l).kind.trans G) L.j X D Q z)
include W hT in
theorem Qe0{i n:Nat}{t:LoS}{st g:SortSt}(D:Cmp prog w A s κ M f)(C:kindOf g=κ)(u:Sg g st)(h:t.1=none/\Lv f a b t.2.1 t.2.2.1 t.2.2.2.1/\n<=t.2.2.1+t.2.2.2.1) :
  T prog w A E s (QcO a b i t) (fun r d=>Sg g d/\match r with|.done c=>∃r,c.1=some r/\Ro f a b r|.yield c=>c.1=none/\Lv f a b c.2.1 c.2.2.1 c.2.2.2.1/\n+1<=c.2.2.1+c.2.2.2.1) st:=by
 obtain⟨_,N,ia,ib,mg⟩:=t;obtain⟨rfl,L,B⟩:=h;dsimp only at L B;have h1:=L.ia;unfold QcO;refine Qe (QO (Vm (I:=fun x c d=>d=st/\c.1=none/\Lv f a b c.2.1 c.2.2.1 c.2.2.2.1/\n+x<=c.2.2.1+c.2.2.2.1) (Q:=fun c d=>d=st/\InP f a b (n+1) c) ?_ ?_ ⟨rfl,rfl,L,B⟩) ?_)
 ·rintro x c d _ _ ⟨rfl,p⟩
  refine QO (Qij W hT D (u.kind.trans C) p) ?_
  rintro(v|v) m ⟨rfl,q⟩
  ·refine⟨rfl,?_⟩
   rcases q with q|⟨e,o,l⟩
   ·exact .inl q
   ·exact .inr ⟨e,o,by exact Nd (Np _ _) l⟩
  ·exact⟨rfl,q.1,q.2.1,by have:=q.2.2;omega⟩
 ·rintro c d ⟨rfl,e,o,l⟩
  exact⟨rfl,.inr ⟨e,o,by lia⟩⟩
 ·rintro⟨c1,z,X,S,ab,Z⟩ d ⟨rfl,q⟩
  rcases q with⟨r,e,o⟩|⟨e,G,l⟩
  ·dsimp only at e;subst e;exact Qf ⟨u,r,rfl,o⟩
  ·dsimp only at e G l;subst e;dsimp only;refine Qe (Kw ?_);refine Qe (QO (Vm (I:=fun x c d=>Sg g d/\GaL f a b (n+1) c) (Q:=fun c d=>Sg g d/\GaP f a b (n+1) c) ?_ ?_ ⟨u,rfl,G,l⟩) ?_)
   ·rintro x c m _ _ ⟨j,p⟩
    unfold QjY;split
    all_goals
     refine QO (QhM W hT D C j p.2.1 p.2.2) ?_
     rintro(v|v) H q
     ·exact q
     ·exact q
   ·exact fun c m q=>⟨q.1,.inr q.2⟩
   ·rintro⟨c2,y,U,P,O,aa,Y⟩ m ⟨j,q⟩
    rcases q with⟨r,e,o⟩|⟨e,L2,l⟩
    ·dsimp only at e;subst e;exact Qf ⟨j,r,rfl,o⟩
    ·dsimp only at e L2 l;subst e;exact Qe (ZF (Qf ⟨j.set _,rfl,L2,l⟩))
include W hT in
theorem QbK{P:Array Keyed->SortSt->Prop}{st:SortSt}(y:Cmp prog w A s κ M f)(u:kindOf st=κ)(z:0<a.size)(n:0<b.size)(h0:f b[0]<=f a[0])
  (h:∀r d,Sg st d->Ro f a b r->P r d):T prog w A E s (Xt a b) P st:=by
 rw[U0];refine Qe (Kw (Qe (QZ n ?_)));have t:Ja f a b #[] 0 0:=⟨by simp,by simp,by simp,by simp⟩
 have i:Ja f a b #[b[0]] 0 1:=t.pushB W n fun j v _=>by have:=aLe W z v (NM _);exact Dm h0 this
 by_cases e:(1==b.size)=true
 ·rw[if_pos e];simp only[beq_iff_eq]at e;exact Qf (h _ _ (Sg.refl _) (i.doneB W (Nq e.symm)))
 ·rw[if_neg e];simp only[beq_iff_eq]at e
  by_cases g:(0+1==a.size)=true
  ·rw[if_pos g];simp only[beq_iff_eq]at g;exact Qf (h _ _ (Sg.refl _) (i.doneL W hT g))
  ·rw[if_neg g];simp only[beq_iff_eq]at g;refine Qe (Ki (Qe (QO (Vm (I:=fun x c d=>Sg st d/\c.1=none/\Lv f a b c.2.1 c.2.2.1 c.2.2.2.1/\x+1<=c.2.2.1+c.2.2.2.1) (Q:=fun c d=>Sg st d/\∃r,c.1=some r/\Ro f a b r) ?_ ?_ ⟨Sg.refl _,rfl,⟨i,by dsimp only;lia,by dsimp only;lia⟩,by dsimp only;exact by decide⟩) ?_)))
   ·rintro x c d _ _ ⟨l,B⟩
    refine QO (Qe0 W hT y u l B) ?_
    rintro(C|C) o q
    ·exact q
    ·exact q
   ·rintro c d ⟨_,_,L,q⟩
    have:=L.ia;have:=L.ib;lia
   ·rintro⟨G,D⟩ d ⟨l,r,m,p⟩
    dsimp only at m;subst m;exact Qf (h _ _ l p)
end
end Ts

namespace Ts
open PySem.W
set_option autoImplicit false
noncomputable abbrev HiS:=Option (Array Keyed)×Nat×Nat×Array Keyed×Nat
noncomputable abbrev HnS:=Option (Array Keyed)×Nat×Nat×Array Keyed×Nat×Nat
noncomputable abbrev HgS:=Option (Array Keyed)×Nat×Nat×Array Keyed×Nat×Nat×Nat
section
variable(a b:Array Keyed)
noncomputable def hD(out:Array Keyed)(c nb:Nat):Array Keyed:=a.extract 0 c++b.extract 0 nb++out.reverse
noncomputable def hF(out:Array Keyed)(c nb:Nat):Array Keyed:=b.extract 0 nb++a.extract 0 c++out.reverse
noncomputable def Qiz(d:Nat)(_:Nat)(s:HnS):StateT SortSt Sem (ForInStep HnS):=do
 let y <-elem' b (s.2.2.1-1)
 let x <-elem' a (s.2.1-1)
 match <-lt' y x with
 | some c=>
  if c=true then do
   let x <-elem' a (s.2.1-1)
   if(s.2.1-1==0)=true then pure (.done (some (hD a b (s.2.2.2.1.push x) (s.2.1-1) s.2.2.1),s.2.1-1,s.2.2.1,s.2.2.2.1.push x,s.2.2.2.2.1+1,0))
   else if s.2.2.2.2.1+1 >= d then pure (.done (none,s.2.1-1,s.2.2.1,s.2.2.2.1.push x,s.2.2.2.2.1+1,0))
   else pure (.yield (none,s.2.1-1,s.2.2.1,s.2.2.2.1.push x,s.2.2.2.2.1+1,0))
  else do
   let y <-elem' b (s.2.2.1-1)
   if(s.2.2.1-1==1)=true then pure (.done (some (hF a b (s.2.2.2.1.push y) s.2.1 (s.2.2.1-1)),s.2.1,s.2.2.1-1,s.2.2.2.1.push y,0,s.2.2.2.2.2+1))
   else if s.2.2.2.2.2+1 >= d then pure (.done (none,s.2.1,s.2.2.1-1,s.2.2.2.1.push y,0,s.2.2.2.2.2+1))
   else pure (.yield (none,s.2.1,s.2.2.1-1,s.2.2.2.1.push y,0,s.2.2.2.2.2+1))
 |_=>pure (.done (some (hD a b s.2.2.2.1 s.2.1 s.2.2.1),s.2.1,s.2.2.1,s.2.2.2.1,s.2.2.2.2.1,s.2.2.2.2.2))
noncomputable def Qgq(c nb:Nat)(out:Array Keyed)(e ac d:Nat):StateT SortSt Sem (ForInStep HgS):=do
 let x <-elem' a (c-1)
 if(c-1==0)=true then pure (.done (some (hD a b (out.push x) (c-1) nb),c-1,nb,out.push x,e,ac,d))
 else if(decide (ac<7)&&decide (d<7))=true then pure (.done (none,c-1,nb,out.push x,e,ac,d))
 else pure (.yield (none,c-1,nb,out.push x,e,ac,d))
noncomputable def Qgg(c nb:Nat)(out:Array Keyed)(d ac e:Nat):StateT SortSt Sem (ForInStep HgS):=do
 let y <-elem' b (nb-1)
 if(nb-1==1)=true then pure (.done (some (hF a b (out.push y) c (nb-1)),c,nb-1,out.push y,d,ac,e))
 else do
  let x <-elem' a (c-1)
  match <-ZQ true x b 0 (nb-1) (nb-1-1)with
  | some k=>
   if nb-1-k>0 then
    if(k==1)=true then pure (.done (some (hF a b (out.push y++(b.extract k (nb-1)).reverse) c k),c,k,out.push y++(b.extract k (nb-1)).reverse,d,ac,nb-1-k))
    else if(k==0)=true then pure (.done (some (hD a b (out.push y++(b.extract k (nb-1)).reverse) c k),c,k,out.push y++(b.extract k (nb-1)).reverse,d,ac,nb-1-k))
    else Qgq a b c k (out.push y++(b.extract k (nb-1)).reverse) d ac (nb-1-k)
   else Qgq a b c (nb-1) (out.push y) d ac (nb-1-k)
  |_=>pure (.done (some (hD a b (out.push y) c (nb-1)),c,nb-1,out.push y,d,ac,e))
noncomputable def QhY(c nb:Nat)(out:Array Keyed)(d ac e:Nat):StateT SortSt Sem (ForInStep HgS):=do
 modify (K7 d)
 let y <-elem' b (nb-1)
 match <-ZQ false y a 0 c (c-1)with
 | some k=>
  if c-k>0 then
   if(k==0)=true then pure (.done (some (hD a b (out++(a.extract k c).reverse) k nb),k,nb,out++(a.extract k c).reverse,d,c-k,e))
   else Qgg a b k nb (out++(a.extract k c).reverse) d (c-k) e
  else Qgg a b c nb out d (c-k) e
 |_=>pure (.done (some (hD a b out c nb),c,nb,out,d,ac,e))
noncomputable def Qjt(_:Nat)(s:HgS):StateT SortSt Sem (ForInStep HgS):=
 if s.2.2.2.2.1>1 then QhY a b s.2.1 s.2.2.1 s.2.2.2.1 (s.2.2.2.2.1-1) s.2.2.2.2.2.1 s.2.2.2.2.2.2 else QhY a b s.2.1 s.2.2.1 s.2.2.2.1 s.2.2.2.2.1 s.2.2.2.2.2.1 s.2.2.2.2.2.2
noncomputable def Qb9(_:Nat)(s:HiS):StateT SortSt Sem (ForInStep HiS):=do
 let t <-forIn [0:a.size+b.size] ((none,s.2.1,s.2.2.1,s.2.2.2.1,0,0):HnS) (Qiz a b s.2.2.2.2)
 match t.1 with
 |some r=>pure (.done (some r,t.2.1,t.2.2.1,t.2.2.2.1,s.2.2.2.2))
 | none=>do
  rule "list.sort.gallop"
  let u <-forIn [0:a.size+b.size] ((none,t.2.1,t.2.2.1,t.2.2.2.1,s.2.2.2.2+1,t.2.2.2.2.1,t.2.2.2.2.2):HgS) (Qjt a b)
  match u.1 with
  |some r=>pure (.done (some r,u.2.1,u.2.2.1,u.2.2.2.1,u.2.2.2.2.1))
  |none=>do
   modify (K7 (u.2.2.2.2.1+1))
   pure (.yield (none,u.2.1,u.2.2.1,u.2.2.2.1,u.2.2.2.2.1+1))
set_option maxRecDepth 10000 in
set_option maxHeartbeats 400000 in
theorem Gj:Xy a b=(do
 rule "list.sort.merge-hi"
 let x <-elem' a (a.size-1)
 if(a.size-1==0)=true then pure (hD a b #[x] (a.size-1) b.size)
 else if(b.size==1)=true then pure (hF a b #[x] (a.size-1) b.size)
 else do
  let st <-get
  let t <-forIn [0:a.size+b.size] ((none,a.size-1,b.size,#[x],gallopOf st):HiS) (Qb9 a b)
  match t.1 with
  |some r=>pure r
  |none=>unsupported "internal:list.sort.merge-bound"):=by
 rw[Wx];unfold Qb9 Qjt QhY Qgg Qgq Qiz hD hF;dsimp only;refine congrArg (bind _) (funext fun _=>congrArg (bind _) (funext fun y=>congrArg (ite _ _) (congrArg (ite _ _) (congrArg (bind _) (funext fun st=>congr (congrArg bind ?_) ?_)))))
 ·refine congrArg (forIn _ _) (funext fun _=>funext fun s=>?_);refine congr (congrArg bind ?_) (funext fun t=>?_)
  ·refine congrArg (forIn _ _) (funext fun _=>funext fun t=>?_)
   (repeat' (first|(with_reducible rfl)|((with_reducible refine Zd ?_ fun _=>?_)<;>dsimp only)|(with_reducible refine Qm fun _=>?_)|(with_reducible refine QM ?_ ?_)))
  ·obtain⟨_|r,t⟩:=t
   ·refine congrArg (bind _) (funext fun _=>congr (congrArg bind ?_) (funext fun u=>?_))
    ·refine congrArg (forIn _ _) (funext fun _=>funext fun t=>?_)
     (repeat' (first|(with_reducible rfl)|((with_reducible refine Zd ?_ fun _=>?_)<;>dsimp only)|(with_reducible refine Qm fun _=>?_)|(with_reducible refine QM ?_ ?_)))
    ·obtain⟨_|r,u⟩:=u<;>rfl
   ·rfl
 ·funext t;obtain⟨_|r,t⟩:=t<;>rfl
end
section
variable{f:Keyed->Int}{M:Keyed->Prop}{a b:Array Keyed}
noncomputable def Jh(f:Keyed->Int)(a b out:Array Keyed)(c nb:Nat):Prop:=J (fun x=>- f x) a.toList.reverse b.toList.reverse out.toList (a.size-c) (b.size-nb)
theorem Yw{l:List Keyed}(h:l.Pairwise fun x y=>f x<=f y):l.reverse.Pairwise fun x y=>(fun x=>- f x) x<=(fun x=>- f x) y:=by
 rw[OD];exact h.imp fun {x y} q=>by dsimp only;lia
theorem ZI(a:Array Keyed){n:Nat}(h:n<=a.size):a.toList.reverse.drop (a.size-n)=(a.toList.take n).reverse:=by
 rw[List.drop_reverse,Nr,show a.size-(a.size-n)=n by lia]
theorem QaK(a:Array Keyed){k n:Nat}(c:k<=n)(h:n<=a.size):(a.toList.reverse.drop (a.size-n)).take (n-k)=(a.extract k n).toList.reverse:=by
 rw[ZI a h,List.take_reverse,Ed,Nr,DQ h,show n-(n-k)=k by lia,Dz,EE,List.drop_take]
theorem Out.rev{c lb r:List Keyed}(h:Out (fun x=>- f x) c.reverse lb.reverse r):Out f c lb r.reverse:=by
 refine⟨(LA r).trans (h.1.trans ((LA c).append (LA lb))),?_⟩;rw[OD];exact h.2.imp fun {x y} q=>by dsimp only at q;lia
theorem Out.comm{c lb r:List Keyed}(h:Out f c lb r):Out f lb c r:=⟨h.1.trans FD,h.2⟩
theorem X8{l:List Keyed}{n:Nat}{x:Keyed}(h:x∈l.take n):∃j,∃d:j<l.length,j<n/\x=l[j]:=by
 obtain⟨k,c,e⟩:=EN.mp h;rw[Ed]at c;rw[Yaz]at e;exact⟨k,by exact Ng c (Dp _ _),by exact Ng c (IN _ _),e.symm⟩
variable(W:Two f M a b)
include W in
theorem Jh.manyA{out:Array Keyed}{k c nb:Nat}(h:Jh f a b out c nb)(m:k<=c)(l:c<=a.size)(o:nb<=b.size)(n:∀i (hi:i<a.size),k<=i->i<c->∀j (g:j<b.size),j<nb->f b[j]<=f a[i]):Jh f a b (out++(a.extract k c).reverse) k nb:=by
 unfold Jh;have q:=J.chunk h (Yw W.sa) (c-k);rw[QaK a m l,show a.size-c+(c-k)=a.size-k by lia]at q;rw[N6,D2];refine q fun x e y d=>?_;rw[Iz,Dz,EE]at e;rw[ZI b o,Iz]at d;obtain⟨i,hi,r,s,rfl⟩:=JZ e;obtain⟨j,g,p,rfl⟩:=X8 d;have:=n i (by simpa using hi) r (by lia) j (by simpa using g) p;show-f a[i]<=- f b[j];lia
include W in
theorem Jh.manyB{out:Array Keyed}{k c nb:Nat}(h:Jh f a b out c nb)(e:k<=nb)(d:c<=a.size)(l:nb<=b.size)(g:∀i (hi:i<b.size),k<=i->i<nb->∀j (n:j<a.size),j<c->f a[j]<=f b[i]):Jh f a b (out++(b.extract k nb).reverse) c k:=by
 have m:Two f M b a:=⟨W.mb,W.ma,W.sb,W.sa⟩
 exact J.swap (Jh.manyA (a:=b) (b:=a) m (J.swap h) e l d g)
theorem Qbf(a:Array Keyed){n:Nat}(h1:0<n)(h:n<=a.size)(out:Array Keyed):out++(a.extract (n-1) n).reverse=out.push a[n-1]:=by
 apply Array.ext';rw[N6,D2,DW,Dz,EE,show n-(n-1)=1 by lia,Uq (by simpa using by omega)];rfl
include W in
theorem Jh.pushA{out:Array Keyed}{c nb:Nat}(h:Jh f a b out c nb)(h1:0<c)(d:c<=a.size)(l:nb<=b.size)(g:∀j (e:j<b.size),j<nb->f b[j]<=f a[c-1]):Jh f a b (out.push a[c-1]) (c-1) nb:=by
 rw[<-Qbf a h1 d out];refine h.manyA W (ED _ _) d l fun i n p o j e m=>?_;have:i=c-1:=by lia
 subst this;exact g j e m
include W in
theorem Jh.pushB{out:Array Keyed}{c nb:Nat}(h:Jh f a b out c nb)(h1:0<nb)(g:c<=a.size)(e:nb<=b.size)(l:∀j (d:j<a.size),j<c->f a[j]<=f b[nb-1]):Jh f a b (out.push b[nb-1]) c (nb-1):=by
 rw[<-Qbf b h1 e out];refine h.manyB W (ED _ _) g e fun i n p o j d m=>?_;have:i=nb-1:=by lia
 subst this;exact l j d m
theorem Gw(a:Array Keyed)(n:Nat):(a.extract 0 n).toList=a.toList.take n:=by simp[EE]
include W in
theorem Jh.doneA{out:Array Keyed}{c nb:Nat}(h:Jh f a b out c nb)(h0:c=0)(d:nb<=b.size):Ro f a b (hD a b out c nb):=by
 subst h0;have q:=(J.endA h (Yw W.sb) (by simp)).rev;rw[ZI b d,ZI a (NM _)]at q;unfold Ro hD;rw[N6,N6,D2,Gw,Gw];simpa using q
include W in
theorem Jh.doneB{out:Array Keyed}{c:Nat}(h:Jh f a b out c 0)(d:c<=a.size):Ro f a b (hD a b out c 0):=by
 have q:=(J.endB h (Yw W.sa) (by simp)).rev;rw[ZI a d,ZI b (NM _)]at q;unfold Ro hD;rw[N6,N6,D2,Gw,Gw];simpa using q
noncomputable def Bot(f:Keyed->Int)(a b:Array Keyed):Prop:=∀i (h:i<b.size),i=0->∀x∈a.toList,f b[i]<=f x
include W in
theorem Jh.doneF{out:Array Keyed}{c nb:Nat}(m:Bot f a b)(h:Jh f a b out c nb)(g:c<=a.size)(h1:nb=1)(i:nb<=b.size):Ro f a b (hF a b out c nb):=by
 have q:=(J.lastA (J.swap h) (Yw W.sb) (Yw W.sa) fun x e y d=>?_).comm.rev
 ·rw[ZI a g,ZI b i]at q;unfold Ro hF;rw[N6,N6,D2,Gw,Gw];simpa using q
 ·rw[ZI a g,Iz]at e;rw[ZI b i,Iz]at d;obtain⟨j,l,n,rfl⟩:=X8 d;have:=m j (by simpa using l) (by lia) x (OT e);show-f x<=- f b[j];lia
end
end Ts

namespace Ts
open PySem.W
set_option autoImplicit false
section
variable{prog:Program}{w:World}{A:Around}{E:Value->Shared->Prop}{s:Shared}{κ:SortKind}{M:Keyed->Prop}{f:Keyed->Int}{a b:Array Keyed}
structure Lh(f:Keyed->Int)(a b:Array Keyed)(na nb:Nat)(out:Array Keyed)(n:Nat):Prop where
 j:Jh f a b out na nb
 a1:0<na
 a2:na<=a.size
 b1:1<nb
 b2:nb<=b.size
 n:n<=(a.size-na)+(b.size-nb)
noncomputable def HL(f:Keyed->Int)(a b:Array Keyed)(n:Nat)(t:HnS):Prop:=t.1=none/\Lh f a b t.2.1 t.2.2.1 t.2.2.2.1 n
noncomputable def HP(f:Keyed->Int)(a b:Array Keyed)(n:Nat)(t:HnS):Prop:=(∃r,t.1=some r/\Ro f a b r)\/HL f a b n t
noncomputable def HgL(f:Keyed->Int)(a b:Array Keyed)(n:Nat)(t:HgS):Prop:=t.1=none/\Lh f a b t.2.1 t.2.2.1 t.2.2.2.1 n
noncomputable def HgP(f:Keyed->Int)(a b:Array Keyed)(n:Nat)(t:HgS):Prop:=(∃r,t.1=some r/\Ro f a b r)\/HgL f a b n t
noncomputable def HgR(f:Keyed->Int)(a b:Array Keyed)(n:Nat)(r:ForInStep HgS):Prop:=match r with|.done c=>HgP f a b n c|.yield c=>HgL f a b n c
variable(W:Two f M a b)(hB:Bot f a b)
include W hB in
theorem Qh6{z i n:Nat}{t:HnS}{st:SortSt}(C:Cmp prog w A s κ M f)(B:kindOf st=κ)(h:HL f a b n t) :
  T prog w A E s (Qiz a b z i t) (fun r q=>q=st/\match r with|.done c=>HP f a b (n+1) c|.yield c=>HL f a b (n+1) c) st:=by
 obtain⟨_,d,nb,l,ac,G⟩:=t;obtain⟨rfl,L⟩:=h;dsimp only at L;obtain⟨j,y,o,x,g,D⟩:=L;unfold Qiz;dsimp only;refine Qe (QZ (by lia) (Qe (QZ (by omega) (Qe (Qgk C B (W.mb _ _) (W.ma _ _) ?_)))))
 by_cases m:f b[nb-1]<f a[d-1]
 ·rw[decide_eq_true m];dsimp only;rw[if_pos rfl];refine Qe (QZ (by lia) ?_);have p:=j.pushA W y o g fun j u v=>by have:=bLe W u (show nb-1<b.size by lia) (by lia);omega
  by_cases e:(d-1==0)=true
  ·rw[if_pos e];simp only[beq_iff_eq]at e;exact Qf ⟨rfl,.inl ⟨_,rfl,p.doneA W e g⟩⟩
  ·rw[if_neg e];simp only[beq_iff_eq]at e;have k:Lh f a b (d-1) nb (l.push a[d-1]) (n+1):=⟨p,by lia,by exact Nf (ED _ _) o,x,g,by lia⟩
   split
   ·exact Qf ⟨rfl,.inr ⟨rfl,k⟩⟩
   ·exact Qf ⟨rfl,rfl,k⟩
 ·rw[decide_eq_false m];dsimp only;rw[if_neg (by simp)];refine Qe (QZ (by lia) ?_);have p:=j.pushB W (N0 (by decide) x) o g fun j u v=>by have:=aLe W u (show d-1<a.size by lia) (by lia);omega
  by_cases e:(nb-1==1)=true
  ·rw[if_pos e];simp only[beq_iff_eq]at e;exact Qf ⟨rfl,.inl ⟨_,rfl,p.doneF W hB o e (Nf (ED _ _) g)⟩⟩
  ·rw[if_neg e];simp only[beq_iff_eq]at e;have k:Lh f a b d (nb-1) (l.push b[nb-1]) (n+1):=⟨p,y,o,by lia,by exact Nf (ED _ _) g,by lia⟩
   split
   ·exact Qf ⟨rfl,.inr ⟨rfl,k⟩⟩
   ·exact Qf ⟨rfl,rfl,k⟩
include W in
theorem QdP{out:Array Keyed}{c nb m ac o n:Nat}{st:SortSt}(L:Lh f a b c nb out n)(i:c-1<a.size)(g:∀j (v:j<b.size),j<nb->f b[j]<=f a[c-1]) :
  T prog w A E s (Qgq a b c nb out m ac o) (fun r d=>d=st/\HgR f a b n r) st:=by
 obtain⟨j,t,q,p,h,u⟩:=L;unfold Qgq;refine Qe (QZ i ?_);have l:=j.pushA W t q h g
 by_cases e:(c-1==0)=true
 ·rw[if_pos e];simp only[beq_iff_eq]at e;exact Qf ⟨rfl,.inl ⟨_,rfl,l.doneA W e h⟩⟩
 ·rw[if_neg e];simp only[beq_iff_eq]at e;have k:Lh f a b (c-1) nb (out.push a[c-1]) n:=⟨l,by lia,by exact Nl i,p,h,by lia⟩
  split
  ·exact Qf ⟨rfl,.inr ⟨rfl,k⟩⟩
  ·exact Qf ⟨rfl,rfl,k⟩
include W hB in
theorem QdR{out:Array Keyed}{m nb N ac U n:Nat}{st:SortSt}(P:Cmp prog w A s κ M f)(O:kindOf st=κ)(L:Lh f a b m nb out n)(c:nb-1<b.size)(x:∀j (d:j<a.size),j<m->f a[j]<=f b[nb-1]) :
  T prog w A E s (Qgg a b m nb out N ac U) (fun r v=>v=st/\HgR f a b n r) st:=by
 obtain⟨j,I,l,Y,X,hn⟩:=L;unfold Qgg;refine Qe (QZ c ?_);have H:=j.pushB W (N0 (by decide) Y) l X x
 by_cases e:(nb-1==1)=true
 ·rw[if_pos e];simp only[beq_iff_eq]at e;exact Qf ⟨rfl,.inl ⟨_,rfl,H.doneF W hB l e (Nl c)⟩⟩
 ·rw[if_neg e];simp only[beq_iff_eq]at e;refine Qe (QZ (by lia) (Qe (J8 P O (W.ma _ _) (by lia) (by lia) W.mb (fun i j q d _ p _=>bLe W q d p) fun k g G D=>?_)));dsimp only
  have lo:∀i (q:i<b.size),i<k->f b[i]<=f a[m-1]:=by
   intro i q B;have:=G i (by lia) B;simp only[bey,if_true,decide_eq_true_eq,NJ]at this;omega
  have C:∀j (d:j<b.size),k<=j->j<nb-1->f a[m-1]<=f b[j]:=by
   intro j d y z;have:=D j (by omega) y z;simp only[bey,if_true,decide_eq_false_iff_not,NJ]at this;omega
  by_cases o:nb-1-k>0
  ·rw[if_pos o];have J2:=H.manyB W (k:=k) g l (Nl c) fun i q S Q j d p=>by have q1:=C i q S Q;have Z:=aLe W d (show m-1<a.size by lia) (by lia);omega
   by_cases u:(k==1)=true
   ·rw[if_pos u];simp only[beq_iff_eq]at u;exact Qf ⟨rfl,.inl ⟨_,rfl,J2.doneF W hB l u (Nl (Nd g c))⟩⟩
   ·rw[if_neg u];simp only[beq_iff_eq]at u
    by_cases t:(k==0)=true
    ·rw[if_pos t];simp only[beq_iff_eq]at t;subst t;exact Qf ⟨rfl,.inl ⟨_,rfl,J2.doneB W l⟩⟩
    ·rw[if_neg t];simp only[beq_iff_eq]at t;exact QdP W ⟨J2,I,l,by lia,by exact Nl (Nd g c),by lia⟩ (by lia) fun j d h=>lo j d h
  ·rw[if_neg o];exact QdP W ⟨H,I,l,by lia,by exact Nl c,by lia⟩ (by omega) fun j d h=>lo j d (by lia)
include W hB in
theorem Qhx{out:Array Keyed}{y nb g ac U n:Nat}{st d:SortSt}(H:Cmp prog w A s κ M f)(z:kindOf d=κ)(v:Sg d st)(L:Lh f a b y nb out n) :
  T prog w A E s (QhY a b y nb out g ac U) (fun r c=>Sg d c/\HgR f a b n r) st:=by
 have Y:=L;obtain⟨j,a1,P,X,O,hn⟩:=L;unfold QhY;refine Qe (ZF (Qe (QZ (by lia) (Qe (J8 H ((v.set g).kind.trans z) (W.mb _ _) (by lia) (by omega) W.ma (fun i j l t _ u _=>aLe W l t u) fun k o N I=>?_)))));dsimp only
 have lo:∀i (l:i<a.size),i<k->f a[i]<=f b[nb-1]:=by
  intro i l D;have q:=N i (by lia) D;simp only[bey,NT,if_false,Il,decide_eq_false_iff_not,NJ]at q;omega
 have G:∀j (t:j<a.size),k<=j->j<y->f b[nb-1]<=f a[j]:=by
  intro j t C B;have:=I j (by omega) C B;simp only[bey,NT,if_false,Lg,decide_eq_true_eq,NJ]at this;omega
 have fin:∀{m:StateT SortSt Sem (ForInStep HgS)},T prog w A E s m (fun r c=>c=K7 g st/\HgR f a b n r) (K7 g st)->T prog w A E s m (fun r c=>Sg d c/\HgR f a b n r) (K7 g st):=
  fun h=>QO h fun r c ⟨e,q⟩=>⟨e▸v.set g,q⟩
 by_cases p:y-k>0
 ·rw[if_pos p];have J2:=j.manyA W (k:=k) o P O fun i l S Q j t u=>by have q1:=G i l S Q;have Z:=bLe W t (show nb-1<b.size by lia) (by lia);omega
  by_cases x:(k==0)=true
  ·rw[if_pos x];simp only[beq_iff_eq]at x;subst x;exact Qf ⟨v.set g,.inl ⟨_,rfl,J2.doneA W rfl O⟩⟩
  ·rw[if_neg x];simp only[beq_iff_eq]at x;exact fin (QdR W hB H ((v.set g).kind.trans z) ⟨J2,by lia,by exact Nf o P,X,O,by lia⟩ (by lia) lo)
 ·rw[if_neg p];exact fin (QdR W hB H ((v.set g).kind.trans z) Y (by omega) fun i l h=>lo i l (by lia))
include W hB in
theorem QfG{i n:Nat}{t:HiS}{st g:SortSt}(O:Cmp prog w A s κ M f)(N:kindOf g=κ)(B:Sg g st)(h:t.1=none/\Lh f a b t.2.1 t.2.2.1 t.2.2.2.1 n) :
  T prog w A E s (Qb9 a b i t) (fun r d=>Sg g d/\match r with|.done c=>∃r,c.1=some r/\Ro f a b r|.yield c=>c.1=none/\Lh f a b c.2.1 c.2.2.1 c.2.2.2.1 (n+1)) st:=by
 obtain⟨_,y,nb,u,mg⟩:=t;obtain⟨rfl,L⟩:=h;dsimp only at L;have h1:=L.a1;have h2:=L.a2;unfold Qb9;have v:∀{y nb:Nat} {u:Array Keyed} {p q:Nat},q<=p->Lh f a b y nb u p->Lh f a b y nb u q:=fun z L=>⟨L.j,L.a1,L.a2,L.b1,L.b2,Nf z L.n⟩
 refine Qe (QO (Vm (I:=fun x c d=>d=st/\HL f a b (n+x) c) (Q:=fun c d=>d=st/\HP f a b (n+1) c) ?_ ?_ ⟨rfl,rfl,L⟩) ?_)
 ·rintro x c d _ _ ⟨rfl,C⟩
  refine QO (Qh6 W hB O (B.kind.trans N) C) ?_
  rintro(D|D) m ⟨rfl,q⟩
  ·refine⟨rfl,?_⟩
   rcases q with q|⟨e,o⟩
   ·exact .inl q
   ·exact .inr ⟨e,v (Nd (Np _ _) (EI _)) o⟩
  ·exact⟨rfl,q⟩
 ·rintro c d ⟨rfl,e,o⟩
  exact⟨rfl,.inr ⟨e,v (by lia) o⟩⟩
 ·rintro⟨c1,Z,X,H,ag,ae⟩ d ⟨rfl,q⟩
  rcases q with⟨r,e,o⟩|⟨e,P⟩
  ·dsimp only at e;subst e;exact Qf ⟨B,r,rfl,o⟩
  ·dsimp only at e P;subst e;dsimp only;refine Qe (Kw ?_);refine Qe (QO (Vm (I:=fun x c d=>Sg g d/\HgL f a b (n+1) c) (Q:=fun c d=>Sg g d/\HgP f a b (n+1) c) ?_ ?_ ⟨B,rfl,P⟩) ?_)
   ·rintro x c m _ _ ⟨l,C⟩
    unfold Qjt;split
    all_goals
     refine QO (Qhx W hB O N l C.2) ?_
     rintro(D|D) S q
     ·exact q
     ·exact q
   ·exact fun c m q=>⟨q.1,.inr q.2⟩
   ·rintro⟨c2,Y,U,G,aa,af,ab⟩ m ⟨l,q⟩
    rcases q with⟨r,e,o⟩|⟨e,L2⟩
    ·dsimp only at e;subst e;exact Qf ⟨l,r,rfl,o⟩
    ·dsimp only at e L2;subst e;exact Qe (ZF (Qf ⟨l.set _,rfl,L2⟩))
include W hB in
theorem GB{P:Array Keyed->SortSt->Prop}{st:SortSt}(y:Cmp prog w A s κ M f)(v:kindOf st=κ)(o:0<a.size)(G:0<b.size)(z:Top f a b)
  (h:∀r d,Sg st d->Ro f a b r->P r d):T prog w A E s (Xy a b) P st:=by
 rw[Gj];refine Qe (Kw (Qe (QZ (by omega) ?_)))
 have u:Jh f a b #[] a.size b.size:=by
  unfold Jh;rw[LL,LL];exact⟨by simp,by simp,by simp,by simp⟩
 have i:Jh f a b #[a[a.size-1]] (a.size-1) b.size:=u.pushA W o (Nu _) (Nu _) fun j D _=>z (a.size-1) (by omega) (Nat.sub_add_cancel o) _ (by simp)
 by_cases e:(a.size-1==0)=true
 ·rw[if_pos e];simp only[beq_iff_eq]at e;exact Qf (h _ _ (Sg.refl _) (i.doneA W e (Nu _)))
 ·rw[if_neg e];simp only[beq_iff_eq]at e
  by_cases g:(b.size==1)=true
  ·rw[if_pos g];simp only[beq_iff_eq]at g;exact Qf (h _ _ (Sg.refl _) (i.doneF W hB (ED _ _) g (Nu _)))
  ·rw[if_neg g];simp only[beq_iff_eq]at g;refine Qe (Ki (Qe (QO (Vm (I:=fun x c d=>Sg st d/\c.1=none/\Lh f a b c.2.1 c.2.2.1 c.2.2.2.1 (x+1)) (Q:=fun c d=>Sg st d/\∃r,c.1=some r/\Ro f a b r) ?_ ?_ ⟨Sg.refl _,rfl,⟨i,by dsimp only;lia,by dsimp only;exact ED _ _,by dsimp only;lia,by dsimp only;exact Nu _,by dsimp only;lia⟩⟩) ?_)))
   ·rintro x c d _ _ ⟨l,B⟩
    refine QO (QfG W hB y v l B) ?_
    rintro(C|C) p q
    ·exact q
    ·exact q
   ·rintro c d ⟨_,_,L⟩
    have:=L.a1;have:=L.b1;have:=L.n;omega
   ·rintro⟨N,H⟩ d ⟨l,r,m,t⟩
    dsimp only at m;subst m;exact Qf (h _ _ l t)
end
end Ts

namespace Ts
open PySem.W
set_option autoImplicit false
noncomputable def Qif(lo a d:Nat):StateT SortSt Sem AscSt:=
 forIn [a:d] ((none,a):AscSt) fun _ c=>do
  let e <-ltAt' (lo+c.snd) (lo+c.snd-1)
  match e with
  |some b=>if b=true then pure (ForInStep.done (none,c.snd))else pure (ForInStep.yield (none,c.snd+1))
  |_=>pure (ForInStep.done (some none,c.snd))
noncomputable def GT(lo n a:Nat):StateT SortSt Sem (Option Nat):=do
 reverseSlice' lo (lo+n)
 let b <-Qif lo n a
 match b.fst with
 |some r=>pure r
 |none=>pure (some b.snd)
noncomputable def Qdb(lo n e:Nat):StateT SortSt Sem DescSt:=
 forIn [n:e] ((none,n,0):DescSt) fun _ a=>do
  let d <-ltAt' (lo+a.snd.fst) (lo+a.snd.fst-1)
  match d with
  | some b=>
   if b=true then
    if a.snd.snd>0 then do
     reverseSlice' (lo+a.snd.fst-(a.snd.snd+1)) (lo+a.snd.fst)
     pure (ForInStep.yield (none,a.snd.fst+1,0))
    else pure (ForInStep.yield (none,a.snd.fst+1,0))
   else do
    let d <-ltAt' (lo+a.snd.fst-1) (lo+a.snd.fst)
    match d with
    |some c=>
     if c=true then pure (ForInStep.done (none,a.snd.fst,a.snd.snd))
     else pure (ForInStep.yield (none,a.snd.fst+1,a.snd.snd+1))
    |_=>pure (ForInStep.done (some none,a.snd.fst,a.snd.snd))
  |_=>pure (ForInStep.done (some none,a.snd.fst,a.snd.snd))
noncomputable def YC(lo n b:Nat):StateT SortSt Sem (Option Nat):=do
 liftM (rule "list.sort.descending-run")
 let a <-Qdb lo (n+1) b
 match a.fst with
 |some r=>pure r
 | none=>
  if a.snd.snd>0 then do
   reverseSlice' (lo+a.snd.fst-(a.snd.snd+1)) (lo+a.snd.fst)
   GT lo a.snd.fst b
  else GT lo a.snd.fst b
theorem QcG(lo b:Nat):countRun' lo b=(do
  let a <-Qif lo 1 b
  match a.fst with
  |some r=>pure r
  | none=>
   if(a.snd==b)=true then pure (some a.snd)
   else if a.snd>1 then do
    let i <-ltAt' lo (lo+a.snd-1)
    match i with
    | some c=>if c=true then pure (some a.snd)else do
      reverseSlice' lo (lo+a.snd)
      YC lo a.snd b
    |_=>pure none
   else YC lo a.snd b):=by
 rw[countRun'_eq];unfold YC GT Qdb Qif;refine congr (congrArg bind ?_) ?_
 ·(focus (refine congrArg (forIn _ _) (funext fun _=>funext fun t=>?_);(repeat' (first|(with_reducible rfl)|((with_reducible refine Zd ?_ fun _=>?_)<;>dsimp only)|(with_reducible refine Qm fun _=>?_)|(with_reducible refine QM ?_ ?_)))))
 funext a;obtain⟨r,n⟩:=a;cases r with
 |some r=>rfl
 | none=>
  dsimp only;refine QM rfl (QM (Zd rfl fun c=>?_) ?_)
  ·dsimp only;refine QM rfl (Qm fun _=>?_)
   (refine Qm fun _=>?_;refine congr (congrArg bind ?_) ?_;(focus (refine congrArg (forIn _ _) (funext fun _=>funext fun t=>?_);(repeat' (first|(with_reducible rfl)|((with_reducible refine Zd ?_ fun _=>?_)<;>dsimp only)|(with_reducible refine Qm fun _=>?_)|(with_reducible refine QM ?_ ?_)))));(funext g;obtain⟨f,l,j⟩:=g;rcases f with _|f;(dsimp only;refine QM (Qm fun _=>?_) ?_;(refine Qm fun _=>?_;refine congr (congrArg bind ?_) ?_;(focus (refine congrArg (forIn _ _) (funext fun _=>funext fun t=>?_);(repeat' (first|(with_reducible rfl)|((with_reducible refine Zd ?_ fun _=>?_)<;>dsimp only)|(with_reducible refine Qm fun _=>?_)|(with_reducible refine QM ?_ ?_)))));(funext d;obtain⟨e,h⟩:=d;cases e<;>rfl));(refine Qm fun _=>?_;refine congr (congrArg bind ?_) ?_;(focus (refine congrArg (forIn _ _) (funext fun _=>funext fun t=>?_);(repeat' (first|(with_reducible rfl)|((with_reducible refine Zd ?_ fun _=>?_)<;>dsimp only)|(with_reducible refine Qm fun _=>?_)|(with_reducible refine QM ?_ ?_)))));(funext d;obtain⟨e,h⟩:=d;cases e<;>rfl)));rfl))
  ·(refine Qm fun _=>?_;refine congr (congrArg bind ?_) ?_;(focus (refine congrArg (forIn _ _) (funext fun _=>funext fun t=>?_);(repeat' (first|(with_reducible rfl)|((with_reducible refine Zd ?_ fun _=>?_)<;>dsimp only)|(with_reducible refine Qm fun _=>?_)|(with_reducible refine QM ?_ ?_)))));(funext g;obtain⟨f,l,j⟩:=g;rcases f with _|f;(dsimp only;refine QM (Qm fun _=>?_) ?_;(refine Qm fun _=>?_;refine congr (congrArg bind ?_) ?_;(focus (refine congrArg (forIn _ _) (funext fun _=>funext fun t=>?_);(repeat' (first|(with_reducible rfl)|((with_reducible refine Zd ?_ fun _=>?_)<;>dsimp only)|(with_reducible refine Qm fun _=>?_)|(with_reducible refine QM ?_ ?_)))));(funext d;obtain⟨e,h⟩:=d;cases e<;>rfl));(refine Qm fun _=>?_;refine congr (congrArg bind ?_) ?_;(focus (refine congrArg (forIn _ _) (funext fun _=>funext fun t=>?_);(repeat' (first|(with_reducible rfl)|((with_reducible refine Zd ?_ fun _=>?_)<;>dsimp only)|(with_reducible refine Qm fun _=>?_)|(with_reducible refine QM ?_ ?_)))));(funext d;obtain⟨e,h⟩:=d;cases e<;>rfl)));rfl))
noncomputable def F(f:Keyed->Int)(xs:Array Keyed)(i:Nat):Int:=(xs[i]?.map f).getD 0
theorem Qfp{f:Keyed->Int}{xs:Array Keyed}{i:Nat}(h:i<xs.size):F f xs i=f xs[i]:=by unfold F;rw[getElem?_pos xs i h];rfl
theorem VE{f:Keyed->Int}{xs a:Array Keyed}{i j:Nat}(h:xs[i]?=a[j]?):F f xs i=F f a j:=by unfold F;rw[h]
noncomputable def So(f:Keyed->Int)(xs:Array Keyed)(i j:Nat):Prop:=∀k l,i<=k->k<=l->l<j->F f xs k<=F f xs l
noncomputable def Ni(f:Keyed->Int)(xs:Array Keyed)(i j:Nat):Prop:=∀k l,i<=k->k<=l->l<j->F f xs l<=F f xs k
structure Mv(lo hi:Nat)(xs ys:Array Keyed):Prop where
 pm:ys.Perm xs
 out:∀k,k<lo\/hi<=k->ys[k]?=xs[k]?
theorem Mv.refl{lo hi:Nat}(xs:Array Keyed):Mv lo hi xs xs:=⟨Array.Perm.refl _,fun _ _=>rfl⟩
theorem Mv.trans{lo hi:Nat}{xs b a:Array Keyed}(h:Mv lo hi xs b)(h':Mv lo hi b a):Mv lo hi xs a:=⟨h'.pm.trans h.pm,fun k c=>(h'.out k c).trans (h.out k c)⟩
theorem Mv.wide{lo hi lo' hi':Nat}{xs a:Array Keyed}(h:Mv lo hi xs a)(h1:lo'<=lo)(c:hi<=hi'):Mv lo' hi' xs a:=⟨h.pm,fun k b=>h.out k (by lia)⟩
theorem Mv.size{lo hi:Nat}{xs a:Array Keyed}(h:Mv lo hi xs a):a.size=xs.size:=by
 have:=(DV.mp h.pm).length_eq;simpa using this
theorem VR{xs:Array Keyed}{i j:Nat}(a:j<=xs.size):Mv i j xs (mirror xs i j ((j-i)/2)):=
 ⟨mirror_perm _ _ _ _,fun k b=>by rw[O9 a,if_neg (by lia)]⟩
theorem GG{xs:Array Keyed}{src d:Nat}(a:src<xs.size)(hd:d<=src):Mv (src-d) (src+1) xs (bubble xs src d):=
 ⟨bubble_perm _ _ _,fun k b=>by rw[getElem?_bubble a d hd,if_neg (by lia),if_neg (by lia)]⟩
section
variable{f:Keyed->Int}{xs:Array Keyed}
theorem K3{i j:Nat}(b:j<=xs.size)(k:Nat):F f (mirror xs i j ((j-i)/2)) k=if i<=k/\k<j then F f xs (i+j-1-k)else F f xs k:=by
 have e:=O9 (i:=i) b k
 by_cases a:i<=k/\k<j
 ·rw[if_pos a]at e ⊢;exact VE e
 ·rw[if_neg a]at e ⊢;exact VE e
theorem ZH{i j:Nat}(a:j<=xs.size)(heq:∀k,i<=k->k<j->F f xs k=F f xs (j-1))(k:Nat):F f (mirror xs i j ((j-i)/2)) k=F f xs k:=by
 rw[K3 a];split
 ·rw[heq _ (by omega) (by omega),heq k (by lia) (by lia)]
 ·rfl
theorem UG{src d:Nat}(a:src<xs.size)(hd:d<=src)(k:Nat):F f (bubble xs src d) k=if k=src-d then F f xs src else if src-d<k/\k<=src then F f xs (k-1)else F f xs k:=by
 have e:=getElem?_bubble a d hd k
 repeat' split
 all_goals simp_all[F]
end
section
variable{prog:Program}{w:World}{A:Around}{E:Value->Shared->Prop}{s:Shared}{κ:SortKind}{M:Keyed->Prop}{f:Keyed->Int}
noncomputable def Al(M:Keyed->Prop)(xs:Array Keyed):Prop:=∀x∈xs.toList,M x
theorem Al.at{xs:Array Keyed}(h:Al M xs)(i:Nat)(hi:i<xs.size):M xs[i]:=h _ (by simp)
theorem Al.mv{lo hi:Nat}{xs a:Array Keyed}(h:Al M xs)(m:Mv lo hi xs a):Al M a:=fun x b=>h x ((DV.mp m.pm).mem_iff.mp b)
theorem Qbd{i j:Nat}{P:Option Bool->SortSt->Prop}{st:SortSt}(d:Cmp prog w A s κ M f)(c:kindOf st=κ)(b:Al M (arrOf st))(hi:i<(arrOf st).size)(a:j<(arrOf st).size)(h:P (some (decide (F f (arrOf st) i<F f (arrOf st) j))) st):T prog w A E s (ltAt' i j) P st:=by
 rw[ltAt'_eq];refine Qe (Ki (Qe (QZ hi (Qe (QZ a (Qgk d c (b.at _ hi) (b.at _ a) ?_))))));rw[Qfp hi,Qfp a]at h;exact h
theorem Qfs{i j:Nat}{P:Option Bool->SortSt->Prop}{st:SortSt}{a:Array Keyed}(e:Cmp prog w A s κ M f)(c:kindOf st=κ)(b:Al M a)(hi:i<a.size)(d:j<a.size)(h:P (some (decide (F f a i<F f a j))) (setArr st a)):T prog w A E s (ltAt' i j) P (setArr st a):=
 Qbd (st:=setArr st a) e c b hi d h
theorem Qca{i j:Nat}{P:Unit->SortSt->Prop}{st:SortSt}(h:P () (setArr st (mirror (arrOf st) i j ((j-i)/2)))):T prog w A E s (reverseSlice' i j) P st:=by
 rw[reverseSlice'_eq];exact ZF h
theorem Qhu{lo a b:Nat}{st:SortSt}{P:AscSt->SortSt->Prop}(C:Cmp prog w A s κ M f)(B:kindOf st=κ)(z:Al M (arrOf st))(u:lo+b<=(arrOf st).size)(G:1<=a)(t:a<=b)(y:So f (arrOf st) lo (lo+a))
  (h:∀n,a<=n->n<=b->So f (arrOf st) lo (lo+n)->(n=b\/F f (arrOf st) (lo+n)<F f (arrOf st) (lo+n-1))->P (none,n) st):T prog w A E s (Qif lo a b) P st:=by
 unfold Qif;refine Vm (I:=fun x c g=>g=st/\c=(none,x)/\So f (arrOf st) lo (lo+x)) ?_ ?_ ⟨rfl,rfl,y⟩
 ·rintro x c g r l ⟨rfl,rfl,e⟩
  dsimp only;refine Qe (Qbd C B z (Ng (NU l _) u) (Ng (Nd (ED _ _) (NU l _)) u) ?_)
  by_cases d:F f (arrOf g) (lo+x)<F f (arrOf g) (lo+x-1)
  ·rw[decide_eq_true d];exact Qf (h x r (Nl l) e (.inr d))
  ·rw[decide_eq_false d];refine Qf ⟨rfl,rfl,fun i j v p D=>?_⟩
   by_cases m:j<lo+x
   ·exact e i j v p m
   ·have o:j=lo+x:=by lia
    subst o
    by_cases q:i=lo+x
    ·subst q;lia
    ·have:=e i (lo+x-1) v (by lia) (by omega);exact Dm this (IP.mp d)
 ·rintro c g ⟨rfl,rfl,e⟩
  rw[show max a b=b by lia]at e ⊢;exact h b t (Nu _) e (.inl rfl)
theorem Qd5{lo n a:Nat}{st:SortSt}{P:Option Nat->SortSt->Prop}(u:Cmp prog w A s κ M f)(r:kindOf st=κ)(q:Al M (arrOf st))(o:lo+a<=(arrOf st).size)(h1:1<=n)(c:n<=a)(p:Ni f (arrOf st) lo (lo+n))
  (h:∀m d,1<=m->m<=a->Mv lo (lo+a) (arrOf st) d->So f d lo (lo+m)->P (some m) (setArr st d)):T prog w A E s (GT lo n a) P st:=by
 unfold GT;have b:lo+n<=(arrOf st).size:=by exact Nf (NK c _) o
 have mv:=(VR (i:=lo) b).wide (Nu lo) (show lo+n<=lo+a by exact NK c _);refine Qe (Qca (Qe (Qhu u r (q.mv mv) (by rw[show arrOf (setArr st _)=_ from rfl,mv.size];exact o) h1 c ?_ fun m l g e _=>Qf (h m _ (Nf h1 l) g mv e))));intro i j x t v;show F f (mirror (arrOf st) lo (lo+n) _) i<=F f (mirror (arrOf st) lo (lo+n) _) j;rw[K3 b,K3 b,if_pos (by lia),if_pos (by lia)];exact p _ _ (by omega) (by omega) (by omega)
theorem Qin{lo n b:Nat}{st:SortSt}{P:DescSt->SortSt->Prop}(Y:Cmp prog w A s κ M f)(v:kindOf st=κ)(U:Al M (arrOf st))(S:lo+b<=(arrOf st).size)(h1:1<=n)(B:n<=b)(hs:Ni f (arrOf st) lo (lo+n))
  (h:∀m a d,n<=m->m<=b->Mv lo (lo+b) (arrOf st) d->Ni f d lo (lo+m)->a+1<=m->(∀i,lo+m-(a+1)<=i->i<lo+m->F f d i=F f d (lo+m-1))->P (none,m,a) (setArr st d)):T prog w A E s (Qdb lo n b) P st:=by
 unfold Qdb;refine Vm (I:=fun x c q=>∃a d,c=(none,x,a)/\q=setArr st d/\Mv lo (lo+b) (arrOf st) d/\Ni f d lo (lo+x)/\a+1<=x/\(∀i,lo+x-(a+1)<=i->i<lo+x->F f d i=F f d (lo+x-1))) ?_ ?_ ⟨0,arrOf st,rfl,rfl,Mv.refl _,hs,by exact h1,fun i h1 Q=>by congr 1;lia⟩
 ·rintro x c q O o ⟨a,d,rfl,rfl,mv,l,u,r⟩
  dsimp only;have t:=mv.size
  have g:∀z:Array Keyed,(∀k,F f z k=F f d k)->F f d (lo+x)<=F f d (lo+x-1)->Ni f z lo (lo+(x+1)):=by
   intro z v C i j X L hj;rw[v,v]
   by_cases D:j<lo+x
   ·exact l i j X L D
   ·have G:j=lo+x:=by lia
    subst G
    by_cases N:i=lo+x
    ·subst N;lia
    ·have:=l i (lo+x-1) X (by lia) (by omega);exact Dm C this
  refine Qe (Qfs Y v (U.mv mv) (Ng (Ng (NU o _) S) (Nq t.symm)) (by lia) ?_)
  by_cases e:F f d (lo+x)<F f d (lo+x-1)
  ·rw[decide_eq_true e];dsimp only;rw[if_pos rfl]
   by_cases p:a>0
   ·rw[if_pos p];have Z:lo+x<=d.size:=by lia
    have me:∀k,F f (mirror d (lo+x-(a+1)) (lo+x) ((lo+x-(lo+x-(a+1)))/2)) k=F f d k:=ZH Z r;exact Qe (Qca (Qf ⟨0,_,rfl,rfl,mv.trans ((VR Z).wide (by lia) (Nl (NU o _))),g _ me (Dw e),by exact DN _,fun i h1 Q=>by congr 1;lia⟩))
   ·rw[if_neg p];exact Qf ⟨0,d,rfl,rfl,mv,g _ (fun _=>rfl) (Dw e),by exact DN _,fun i h1 Q=>by congr 1;omega⟩
  ·rw[decide_eq_false e];dsimp only;rw[if_neg (by simp)];refine Qe (Qfs Y v (U.mv mv) (by lia) (Ng (Ng (NU o _) S) (Nq t.symm)) ?_)
   by_cases y:F f d (lo+x-1)<F f d (lo+x)
   ·rw[decide_eq_true y];exact Qf (h x a d O (Nl o) mv l u r)
   ·rw[decide_eq_false y];refine Qf ⟨a+1,d,rfl,rfl,mv,g _ (fun _=>rfl) (IP.mp y),by exact EX u _,fun i h1 Q=>?_⟩;rw[show lo+(x+1)-1=lo+x by exact rfl]
    by_cases H:i=lo+x
    ·subst H;rfl
    ·rw[r i (by lia) (by lia)];exact Int.le_antisymm (IP.mp e) (IP.mp y)
 ·rintro c q ⟨a,d,rfl,rfl,mv,l,u,r⟩
  rw[show max n b=b by lia]at l u r ⊢;exact h b a d B (Nu _) mv l u r
end
end Ts

namespace Ts
open PySem.W
set_option autoImplicit false
section
variable{prog:Program}{w:World}{A:Around}{E:Value->Shared->Prop}{s:Shared}{κ:SortKind}{M:Keyed->Prop}{f:Keyed->Int}
theorem Qap{lo n a:Nat}{st:SortSt}{P:Option Nat->SortSt->Prop}(G:Cmp prog w A s κ M f)(C:kindOf st=κ)(B:Al M (arrOf st))(q:lo+a<=(arrOf st).size)(z:n+1<=a)(L:Ni f (arrOf st) lo (lo+(n+1)))
  (h:∀m c,1<=m->m<=a->Mv lo (lo+a) (arrOf st) c->So f c lo (lo+m)->P (some m) (setArr st c)):T prog w A E s (YC lo n a) P st:=by
 unfold YC;refine Qe (Kw (Qe (Qin G C B q (Fr _ _) z L fun m b c p d mv o S Q=>?_)));dsimp only;have l:=mv.size
 by_cases e:b>0
 ·rw[if_pos e];have I:lo+m<=c.size:=by exact Nf (Nf (NK d _) q) (Nq l.symm)
  have H:∀k,F f (mirror c (lo+m-(b+1)) (lo+m) ((lo+m-(lo+m-(b+1)))/2)) k=F f c k:=ZH I Q;have g:Mv lo (lo+a) (arrOf st) (mirror c (lo+m-(b+1)) (lo+m) ((lo+m-(lo+m-(b+1)))/2)):=mv.trans ((VR I).wide (by lia) (NK d _));refine Qe (Qca (Qd5 (st:=setArr st (mirror c (lo+m-(b+1)) (lo+m) ((lo+m-(lo+m-(b+1)))/2))) G C (B.mv g) (by show _<=Array.size (mirror _ _ _ _);rw[g.size];exact q) (Nf (Fr _ _) p) d ?_ fun y r x v u t=>h y r x v (g.trans u) t));intro i j O D N;show F f (mirror c _ _ _) j<=F f (mirror c _ _ _) i;rw[H,H];exact o i j O D N
 ·rw[if_neg e];exact Qd5 (st:=setArr st c) G C (B.mv mv) (by show _<=c.size;exact Nf q (Nq l.symm)) (Nf (Fr _ _) p) d o fun y r x v u t=>h y r x v (mv.trans u) t
theorem Qf2{lo a:Nat}{st:SortSt}{P:Option Nat->SortSt->Prop}(z:Cmp prog w A s κ M f)(t:kindOf st=κ)(y:Al M (arrOf st))(x:lo+a<=(arrOf st).size)(h1:1<=a)
  (h:∀m B,1<=m->m<=a->Mv lo (lo+a) (arrOf st) B->So f B lo (lo+m)->P (some m) (setArr st B)):T prog w A E s (countRun' lo a) P st:=by
 rw[QcG];refine Qe (Qhu z t y x (Nu 1) h1 (fun i j v e I=>by have:i=j:=(by lia);subst this;lia) fun n o d c C=>?_);dsimp only
 by_cases l:n=a
 ·rw[if_pos (by simpa using l)];exact Qf (h n (arrOf st) o d (Mv.refl _) c)
 ·rw [if_neg (by simpa using l)];have p:=C.resolve_left l
  by_cases r:n>1
  ·rw[if_pos r];refine Qe (Qbd z t y (by lia) (by lia) ?_)
   by_cases hr:F f (arrOf st) lo<F f (arrOf st) (lo+n-1)
   ·rw[decide_eq_true hr];exact Qf (h n (arrOf st) o d (Mv.refl _) c)
   ·rw[decide_eq_false hr];dsimp only;rw[if_neg (by simp)];have g:lo+n<=(arrOf st).size:=by exact Nf (NK d _) x
    have b:∀k,lo<=k->k<lo+n->F f (arrOf st) k=F f (arrOf st) (lo+n-1):=by
     intro k L t;have Z:=c lo k (Nu _) L t;have Y:=c k (lo+n-1) L (by lia) (by omega);exact Int.le_antisymm Y (Dm (IP.mp hr) Z)
    have mv:=(VR (i:=lo) g).wide (Nu lo) (show lo+n<=lo+a by exact NK d _);refine Qe (Qca (Qap (st:=setArr st (mirror (arrOf st) lo (lo+n) ((lo+n-lo)/2))) z t (y.mv mv) (by show _<=Array.size (mirror _ _ _ _);rw[mv.size];exact x) (by lia) ?_ fun X N U S Q O=>h X N U S (mv.trans Q) O));intro i j v e I;show F f (mirror (arrOf st) _ _ _) j<=F f (mirror (arrOf st) _ _ _) i;rw[ZH g b,ZH g b]
    by_cases u:j<lo+n
    ·rw[b i v (Nd e u),b j (Nf v e) u];lia
    ·have G:j=lo+n:=by lia
     subst G
     by_cases q:i=lo+n
     ·subst q;lia
     ·rw[b i v (by lia)];exact Dw p
  ·rw[if_neg r];have:n=1:=by exact Ek (NQ.mp r) o
   subst this;refine Qap z t y x (by lia) ?_ h;intro i j v e I
   by_cases q:i=j
   ·subst q;lia
   ·have H:i=lo:=by lia
    have D:j=lo+1:=by lia
    subst H;subst D;rw[show i+1-1=i by exact rfl]at p;exact Dw p
theorem Qcy{lo n ok:Nat}{st:SortSt}{P:Bool->SortSt->Prop}(D:Cmp prog w A s κ M f)(Y:kindOf st=κ)(L:Al M (arrOf st))(H:lo+n<=(arrOf st).size)(S:ok<=n)(O:So f (arrOf st) lo (lo+ok))
  (h:∀a,Mv lo (lo+n) (arrOf st) a->So f a lo (lo+n)->P true (setArr st a)):T prog w A E s (binarySort' lo n ok) P st:=by
 rw[binarySort'_eq]
 refine Qe (QO (Vm (I:=fun k c g=>c=(none,())/\∃a,g=setArr st a/\Mv lo (lo+n) (arrOf st) a/\So f a lo (lo+min k n))
  (Q:=fun c g=>c=(none,())/\∃a,g=setArr st a/\Mv lo (lo+n) (arrOf st) a/\So f a lo (lo+n)) ?step ?fin ?init) ?post)
 case post=>
  rintro c g ⟨rfl,a,rfl,mv,e⟩
  exact Qf (h a mv e)
 case init=>
  refine⟨rfl,arrOf st,rfl,Mv.refl _,fun i j C z Z=>?_⟩
  by_cases B:ok=0
  ·have:i=j:=by lia
   subst this;lia
  ·exact O i j C z (by lia)
 case fin=>
  rintro c g ⟨D,a,rfl,mv,e⟩
  refine⟨D,a,rfl,mv,?_⟩;rwa[show min (max (max ok 1) n) n=n by lia]at e
 case step=>
  rintro k c g aa t ⟨rfl,a,rfl,mv,e⟩
  rw[show min k n=k by lia]at e;have v:=mv.size
  refine Qe (QO (Vm (I:=fun x c b=>b=setArr st a/\∃l r,c=(none,l,r)/\l<=r/\r<=k/\r-l<=k-x /\
    (∀i,lo<=i->i<lo+l->F f a i<=F f a (lo+k))/\(∀i,lo+r<=i->i<lo+k->F f a (lo+k)<F f a i))
   (Q:=fun c b=>b=setArr st a/\∃l r,c=(none,l,r)/\l<=k /\
    (∀i,lo<=i->i<lo+l->F f a i<=F f a (lo+k))/\(∀i,lo+l<=i->i<lo+k->F f a (lo+k)<F f a i)) ?istep ?ifin ?iinit) ?ipost)
  case iinit=>exact⟨rfl,0,k,rfl,by exact NM _,by exact Nu _,by exact Nu _,fun i C=>by lia,fun i B G=>by lia⟩
  case ifin=>
   rintro c b ⟨rfl,l,r,rfl,y,p,L,m,o⟩
   have:l=r:=by lia
   subst this;exact⟨rfl,l,l,rfl,p,m,o⟩
  case istep=>
   rintro x c b _ N ⟨rfl,l,r,rfl,y,p,U,m,o⟩
   dsimp only
   by_cases u:l >= r
   ·rw[if_pos u];have:l=r:=by exact Ek y u
    subst this;exact Qf ⟨rfl,l,l,rfl,p,m,o⟩
   ·rw[if_neg u];refine Qe (Qfs D Y (L.mv mv) (Ng (Ng (NU t _) H) (Nq v.symm)) (by lia) ?_)
    by_cases d:F f a (lo+k)<F f a (lo+(l+r)/2)
    ·rw[decide_eq_true d];refine Qf ⟨rfl,l,(l+r)/2,rfl,by lia,by lia,by omega,m,fun i B G=>?_⟩;have:=e (lo+(l+r)/2) i (Np _ _) B G;exact Int.lt_of_lt_of_le d this
    ·rw[decide_eq_false d];refine Qf ⟨rfl,(l+r)/2+1,r,rfl,by lia,by exact p,by omega,fun i B G=>?_,o⟩;have:=e i (lo+(l+r)/2) B (by lia) (by lia);exact Dm this (IP.mp d)
  case ipost=>
   rintro c b ⟨rfl,l,r,rfl,X,m,o⟩
   show T _ _ _ _ _ (do moveDown' (lo+k) (lo+l);pure (ForInStep.yield (none,()))) _ _;rw[moveDown'_eq];have q:lo+k<a.size:=by exact Ng (Ng (NU t _) H) (Nq v.symm)
   refine Qe (ZF (Qf ⟨rfl,bubble a (lo+k) (lo+k-(lo+l)),rfl,mv.trans ((GG q (ED _ _)).wide (by omega) (NU t _)),?_⟩));rw[show min (k+1) n=k+1 by lia];intro i j C z Z;rw[UG q (ED _ _),UG q (ED _ _),show lo+k-(lo+k-(lo+l))=lo+l by lia]
   repeat' split
   all_goals first
    |(exfalso;lia)
    |lia
    |exact m _ (by omega) (by lia)
    |exact Dw (o _ (by lia) (by omega))
    |exact e _ _ (by omega) (by lia) (by omega)
end
theorem Uv(s:Nat):∀(l:List Keyed) (n:Nat) (xs:Array Keyed),s+n+l.length<=xs.size ->
  ((l.zipIdx n).foldl (fun a (p,j)=>a.setIfInBounds (s+j) p) xs).size=xs.size/\∀k,((l.zipIdx n).foldl (fun a (p,j)=>a.setIfInBounds (s+j) p) xs)[k]?=if s+n<=k/\k<s+n+l.length then l[k-(s+n)]? else xs[k]?
 |[],n,xs,_=>⟨rfl,fun k=>by rw[if_neg (by simp)];rfl⟩
 | p::l,n,xs,h=>by
  rw[El]at h;have b:=Uv s l (n+1) (xs.setIfInBounds (s+n) p) (by rw[F5];lia);rw[List.zipIdx_cons,Fo];refine⟨b.1.trans (F5 ..),fun k=>?_⟩;rw[b.2 k,El]
  by_cases c:s+(n+1)<=k/\k<s+(n+1)+l.length
  ·rw[if_pos c,if_pos (by lia),show k-(s+n)=(k-(s+(n+1)))+1 by lia,Ic]
  ·rw[if_neg c]
   by_cases d:k=s+n
   ·subst d;rw[if_pos (by lia),LL,Fg,La,if_pos rfl,if_pos (by lia)]
   ·rw[if_neg (by lia),La,if_neg (by lia)]
end Ts

namespace Ts
open PySem.W
set_option autoImplicit false
theorem UX(i:Nat):mergeAt' i=(do
 let s <-get
 let(some (sa,b,power),some (sb,nb,_)):=((pendingOf s)[i]?,(pendingOf s)[i+1]?)|unsupported "internal:list.sort.pending"
 set (setPending s (((pendingOf s).setIfInBounds i (sa,b+nb,power)).eraseIdxIfInBounds (i+1)))
 let some k <-ZQ false (<-elem' (arrOf s) sb) (arrOf s) sa b 0|return false
 let(sa,b):=(sa+k,b-k)
 if b==0 then return true
 let some nb <-ZQ true (<-elem' (arrOf s) (sa+b-1)) (arrOf s) sb nb (nb-1)|return false
 if nb==0 then return true
 let x:=(arrOf s).extract sa sb
 let y:=(arrOf s).extract sb (sb+nb)
 let merged <-if b<=nb then Xt x y else Xy x y
 modify fun s=>setArr s (merged.toList.zipIdx.foldl (fun a (p,j)=>a.setIfInBounds (sa+j) p) (arrOf s))
 return(failedOf (<-get)).isNone):=rfl
section
variable{f:Keyed->Int}{M:Keyed->Prop}{xs:Array Keyed}
theorem VC{i j k:Nat}(b:j<=xs.size)(a:k<(xs.extract i j).size):∃h:i+k<xs.size,(xs.extract i j)[k]=xs[i+k]:=by
 have:k<j-i:=by simpa[DQ b]using a
 exact⟨by omega,by simp⟩
theorem Vf{i j:Nat}(a:j<=xs.size):(xs.extract i j).size=j-i:=by simp[DQ a]
theorem QdD{i j:Nat}(d:j<=xs.size)(h:So f xs i j):(xs.extract i j).toList.Pairwise fun x y=>f x<=f y:=by
 rw[D1];intro p q m l c;have b:p<(xs.extract i j).size:=by rw[<-Nr];exact m
 have a:q<(xs.extract i j).size:=by rw[<-Nr];exact l
 obtain⟨g,o⟩:=VC d b;obtain⟨e,n⟩:=VC d a;rw[Vf d]at b a;show f (xs.extract i j)[p]<=f (xs.extract i j)[q];rw[o,n,<-Qfp (f:=f) g,<-Qfp (f:=f) e];exact h _ _ (Np _ _) (Nl (NU c _)) (by lia)
theorem Ym{i j:Nat}(b:j<=xs.size){x:Keyed}(h:x∈(xs.extract i j).toList):∃k,∃l:k<xs.size,i<=k/\k<j/\x=xs[k]:=by
 obtain⟨p,d,e⟩:=EN.mp h;have a:p<(xs.extract i j).size:=by rw[<-Nr];exact d
 obtain⟨c,g⟩:=VC b a;rw[Vf b]at a;exact⟨i+p,c,by exact Np _ _,by omega,by rw[<-e,<-g];rfl⟩
theorem Qb2{sa sb se:Nat}{m a:Array Keyed}(h1:sa<=sb)(g:sb<=se)(b:se<=xs.size)(e:m.toList.Perm ((xs.extract sa sb).toList++(xs.extract sb se).toList))(i:a.size=xs.size)
  (d:∀k,a[k]?=if sa<=k/\k<sa+m.toList.length then m.toList[k-sa]? else xs[k]?):Mv sa se xs a/\m.size=se-sa:=by
 have j:=e.length_eq;rw[Nv,Nr,Nr,Nr,Vf (Nf g b),Vf b]at j;refine⟨⟨?_,fun k q=>?_⟩,by lia⟩
 ·rw[DV]
  have l:a.toList=xs.toList.take sa++(m.toList++xs.toList.drop se):=by
   apply DA;intro k;rw[NH,d k,OU,OU,Ed,Nr,Nr,DQ (Nf (Nf h1 g) b),Yan,Le,NH]
   by_cases c:k<sa
   ·rw[if_neg (by lia),if_pos c,if_pos c,NH]
   ·rw[if_neg c]
    by_cases h:k-sa<m.size
    ·rw[if_pos (by lia),if_pos h]
    ·rw[if_neg (by lia),if_neg h];rw[show se+(k-sa-m.size)=k by lia,NH]
  have n:xs.toList=xs.toList.take sa++(((xs.extract sa sb).toList++(xs.extract sb se).toList)++xs.toList.drop se):=by
   have p:(xs.extract sa sb).toList++(xs.extract sb se).toList=(xs.toList.drop sa).take (se-sa):=by
    rw[Dz,Dz,EE,EE,show se-sa=(sb-sa)+(se-sb) by lia,List.take_add,OC,show sa+(sb-sa)=sb by exact Dk h1]
   rw[p];have o:xs.toList.drop se=(xs.toList.drop sa).drop (se-sa):=by rw[OC,show sa+(se-sa)=se by lia]
   rw[o,Eo,Eo]
  rw[l]
  conv=>rhs;rw[n]
  exact FC _ (e.append_right _)
 ·rw[d k,if_neg (by rw[Nr];lia)]
end
section
variable{prog:Program}{w:World}{A:Around}{E:Value->Shared->Prop}{s:Shared}{κ:SortKind}{M:Keyed->Prop}{f:Keyed->Int}
set_option maxHeartbeats 1000000 in
theorem QbI {i sa y pw sb nb aa:Nat} {l1 l2:List (Nat×Nat×Nat)} {st:SortSt} {P:Bool->SortSt->Prop} (hc:Cmp prog w A s κ M f) (H:kindOf st=κ) (hf:failedOf st=none) (hm:Al M (arrOf st))
    (hp:(pendingOf st).toList=l1++(sa,y,pw)::(sb,nb,aa)::l2) (hi:l1.length=i) (v:sb=sa+y) (h1:1<=y) (h2:1<=nb) (b:sb+nb<=(arrOf st).size) (Z:So f (arrOf st) sa sb) (L:So f (arrOf st) sb (sb+nb))
    (h:∀m:SortSt,kindOf m=κ->failedOf m=none->(pendingOf m).toList=l1++(sa,y+nb,pw)::l2->Mv sa (sb+nb) (arrOf st) (arrOf m)->So f (arrOf m) sa (sb+nb)->P true m):T prog w A E s (mergeAt' i) P st:=by
  rw[UX];refine Qe (Ki ?_)
  have e1:(pendingOf st)[i]?=some (sa,y,pw):=by
    rw[<-NH,hp,<-hi];simp
  have e2:(pendingOf st)[i+1]?=some (sb,nb,aa):=by
    rw[<-NH,hp,<-hi];simp
  rw[e1,e2];dsimp only;refine Qe (Qja ?_)
  have S:(((pendingOf st).setIfInBounds i (sa,y+nb,pw)).eraseIdxIfInBounds (i+1)).toList=l1++(sa,y+nb,pw)::l2:=by
    rw[Array.toList_eraseIdxIfInBounds,Array.toList_setIfInBounds,hp,<-hi];simp[List.set_append,List.eraseIdx_append];intro hh;lia
  generalize((pendingOf st).setIfInBounds i (sa,y+nb,pw)).eraseIdxIfInBounds (i+1)=pq at S;have hF:∀k (H:k<(arrOf st).size),F f (arrOf st) k=f (arrOf st)[k]:=fun k H=>Qfp H;refine Qe (QZ (by lia) (Qe (J8 (st:=setPending st pq) hc H (hm.at _ _) (Nf (Nf (Nq v.symm) (Np _ _)) b) h1 hm.at (fun i j hi I d c t=>by rw[<-hF,<-hF];exact Z i j d c (Ng t (Nq v.symm))) fun k G am al=>?_)));dsimp only
  have lo1:∀j,sa<=j->j<sa+k->F f (arrOf st) j<=F f (arrOf st) sb:=by
    intro j d c;have:=am (j-sa) (by lia) (Dt d c);simp only[bey,NT,if_false,Il,decide_eq_false_iff_not,show sa+(j-sa)=j by exact Dk d]at this;rw[hF _ (by lia),hF _ (by lia)];omega
  have U:∀j,sa+k<=j->j<sb->F f (arrOf st) sb<F f (arrOf st) j:=by
    intro j d c;have:=al (j-sa) (by lia) (by lia) (by lia);simp only[bey,NT,if_false,Lg,decide_eq_true_eq,show sa+(j-sa)=j by lia]at this;rw[hF _ (by lia),hF _ (Ng (Ng c (Np _ _)) b)];omega
  by_cases hz:(y-k==0)=true
  · rw[if_pos hz];simp only[beq_iff_eq]at hz;refine Qf (h (setPending st pq) H hf S (Mv.refl _) fun p q d c t=>?_);show F f (arrOf st) p<=F f (arrOf st) q
    by_cases o:q<sb
    · exact Z p q d c o
    · by_cases n:p<sb
      · have O:=lo1 p d (by lia);have N:=L sb q (Nu _) (NQ.mp o) t;exact Dm O N
      · exact L p q (NQ.mp n) c t
  · rw [if_neg hz];simp only[beq_iff_eq]at hz;refine Qe (QZ (by lia) (Qe (J8 (st:=setPending st pq) hc H (hm.at _ _) b (by omega) hm.at (fun i j hi I d c t=>by rw[<-hF,<-hF];exact L i j d c t) fun e l ak aj=>?_)));dsimp only;have el:sa+k+(y-k)-1=sb-1:=by lia
    have ai:∀j,sb<=j->j<sb+e->F f (arrOf st) j<F f (arrOf st) (sb-1):=by
      intro j d c;have:=ak (j-sb) (by lia) (Dt d c);simp only[bey,if_true,decide_eq_true_eq,show sb+(j-sb)=j by exact Dk d,el]at this;rw[hF _ (Ng (Ng c (NK l _)) b),hF _ (by lia)];exact this
    have ag:∀j,sb+e<=j->j<sb+nb->F f (arrOf st) (sb-1)<=F f (arrOf st) j:=by
      intro j d c;have:=aj (j-sb) (by lia) (by lia) (by lia);simp only[bey,if_true,decide_eq_false_iff_not,show sb+(j-sb)=j by lia,el]at this;rw[hF _ (by lia),hF _ (Ng c b)];omega
    by_cases B:(e==0)=true
    · rw[if_pos B];simp only[beq_iff_eq]at B;subst B;exfalso;have O:=U (sb-1) (by lia) (by omega);have N:=ag sb (by lia) (by lia);lia
    · rw [if_neg B];simp only[beq_iff_eq]at B;have z1:((arrOf st).extract (sa+k) sb).size=y-k:=by rw[Vf (Nf (Np _ _) b)];omega
      have z2:((arrOf st).extract sb (sb+e)).size=e:=by rw[Vf (Nf (NK l _) b)];exact Fe ..
      have W:Two f M ((arrOf st).extract (sa+k) sb) ((arrOf st).extract sb (sb+e)):=by
        refine⟨fun i hi=>?_,fun i hi=>?_,QdD (Nf (Np _ _) b) fun p q d c t=>Z p q (Nf (Np _ _) d) c t,QdD (Nf (NK l _) b) fun p q d c t=>L p q d c (Ng t (NK l _))⟩
        · obtain⟨d,c⟩:=VC (xs:=arrOf st) (i:=sa+k) (j:=sb) (Nf (Np _ _) b) hi;rw[c];exact hm.at _ d
        · obtain⟨d,c⟩:=VC (xs:=arrOf st) (i:=sb) (j:=sb+e) (Nf (NK l _) b) hi;rw[c];exact hm.at _ d
      have gA:∀i (hi:i<((arrOf st).extract (sa+k) sb).size),f ((arrOf st).extract (sa+k) sb)[i]=F f (arrOf st) (sa+k+i):=by
        intro i hi;obtain⟨d,c⟩:=VC (xs:=arrOf st) (i:=sa+k) (j:=sb) (Nf (Np _ _) b) hi;rw[c,hF _ d]
      have gB:∀i (hi:i<((arrOf st).extract sb (sb+e)).size),f ((arrOf st).extract sb (sb+e))[i]=F f (arrOf st) (sb+i):=by
        intro i hi;obtain⟨d,c⟩:=VC (xs:=arrOf st) (i:=sb) (j:=sb+e) (Nf (NK l _) b) hi;rw[c,hF _ d]
      have hT:Top f ((arrOf st).extract (sa+k) sb) ((arrOf st).extract sb (sb+e)):=by
        intro i hi he x Q;obtain⟨j,I,d,c,rfl⟩:=Ym (Nf (NK l _) b) Q;rw[gA i hi,show sa+k+i=sb-1 by lia,<-hF _ I];exact Dw (ai j d c)
      have hB:Bot f ((arrOf st).extract (sa+k) sb) ((arrOf st).extract sb (sb+e)):=by
        intro i hi he x Q;obtain⟨j,I,d,c,rfl⟩:=Ym (Nf (Np _ _) b) Q;subst he;rw[gB 0 hi,<-hF _ I];exact Dw (U j d c)
      have fin:∀ (r:Array Keyed) (m:SortSt),Sg (setPending st pq) m->Ro f ((arrOf st).extract (sa+k) sb) ((arrOf st).extract sb (sb+e)) r ->
          T prog w A E s (do
            modify fun s=>setArr s (r.toList.zipIdx.foldl (fun a (p,j)=>a.setIfInBounds (sa+k+j) p) (arrOf s))
            return(failedOf (<-get)).isNone) P m:=by
        rintro r m ⟨g,rfl⟩ ⟨rp,rs⟩
        have hl:=rp.length_eq;rw[Nv,Nr,Nr,Nr,z1,z2]at hl;obtain⟨fs,X⟩:=Uv (sa+k) r.toList 0 (arrOf st) (by rw[Nr];omega);simp only[FY]at X
        have fin2:∀D:Array Keyed,D.size=(arrOf st).size->(∀z,D[z]?=if sa+k<=z/\z<sa+k+r.toList.length then r.toList[z-(sa+k)]? else(arrOf st)[z]?)->P true (setArr (K7 g (setPending st pq)) D):=by
         intro D fs X;obtain⟨mv,ap⟩:=Qb2 (xs:=arrOf st) (sa:=sa+k) (sb:=sb) (se:=sb+e) (Nf (NK G _) (Nq v.symm)) (Np _ _) (Nf (NK l _) b) rp fs X
         have key:∀p,sa+k<=p->p<sb+e->∃x∈r.toList,F f D p=f x/\∃j,F f (arrOf st) j=f x/\sa+k<=j/\j<sb+e:=by
           intro p d c;have af:p-(sa+k)<r.toList.length:=by rw[Nr];omega
           refine⟨r.toList[p-(sa+k)],D7 _,?_,?_⟩
           · unfold F;rw[X p,if_pos (by rw[Nr];lia),No af];rfl
           · rcases NO.mp (rp.mem_iff.mp (D7 af))with Q|Q
             · obtain⟨j,I,o,n,Y⟩:=Ym (j:=sb) (Nf (Np _ _) b) Q;exact⟨j,by rw[hF j I,<-Y],by exact o,by exact Ng n (Np _ _)⟩
             · obtain⟨j,I,o,n,Y⟩:=Ym (j:=sb+e) (Nf (NK l _) b) Q;exact⟨j,by rw[hF j I,<-Y],by exact Nf (Nf (NK G _) (Nq v.symm)) o,by exact n⟩
         have u:∀p,p<sa+k\/sb+e<=p->F f D p=F f (arrOf st) p:=fun p hp=>VE (mv.out p hp);refine h (setArr (K7 g (setPending st pq)) D) H hf S (mv.wide (lo':=sa) (hi':=sb+nb) (Np _ _) (NK l _)) ?_;show So f D sa (sb+nb);intro p q d c t
         -- where an ah
         have left:∀p j,sa<=p->p<sa+k->sa+k<=j->j<sb+e->F f (arrOf st) p<=F f (arrOf st) j:=by
           intro p j o n C c4
           by_cases c5:j<sb
           · exact Z p j o (Nl (Ng n C)) c5
           · have O:=lo1 p o n;have N:=L sb j (Nu _) (NQ.mp c5) (Ng c4 (NK l _));exact Dm O N
         have right:∀j q,sa+k<=j->j<sb+e->sb+e<=q->q<sb+nb->F f (arrOf st) j<=F f (arrOf st) q:=by
           intro j q o n C c4
           by_cases c5:j<sb
           · have O:=Z j (sb-1) (Nf (Np _ _) o) (by lia) (by lia);have N:=ag q C c4;exact Dm O N
           · exact L j q (NQ.mp c5) (Nl (Ng n C)) c4
         by_cases o:p<sa+k
         · rw[u p (.inl o)]
           by_cases n:q<sa+k
           · rw[u q (.inl n)];exact Z p q d c (Ng (Ng n (NK G _)) (Nq v.symm))
           · by_cases C:q<sb+e
             · obtain⟨x,_,Y,j,ej,j1,j2⟩:=key q (NQ.mp n) C;rw[Y,<-ej];exact left p j d o j1 j2
             · rw[u q (.inr (NQ.mp C))];have O:=left p sb d o (Nf (NK G _) (Nq v.symm)) (by lia);have N:=L sb q (Nu _) (Nf (Np _ _) (NQ.mp C)) t;exact Dm O N
         · by_cases n:p<sb+e
           · by_cases C:q<sb+e
             · have ae:p-(sa+k)<r.toList.length:=by rw[Nr];omega
               have ab:q-(sa+k)<r.toList.length:=by rw[Nr];lia
               have ep:F f D p=f r.toList[p-(sa+k)]:=by
                 unfold F;rw[X p,if_pos (by rw[Nr];lia),No ae];rfl
               have eq:F f D q=f r.toList[q-(sa+k)]:=by
                 unfold F;rw[X q,if_pos (by rw[Nr];lia),No ab];rfl
               rw[ep,eq];exact Qbg rs ae ab (by lia)
             · obtain⟨x,_,Y,j,ej,j1,j2⟩:=key p (NQ.mp o) n;rw[Y,<-ej,u q (.inr (NQ.mp C))];exact right j q j1 j2 (NQ.mp C) t
           · rw[u p (.inr (NQ.mp n)),u q (.inr (Nf (NQ.mp n) c))];exact L p q (Nf (Np _ _) (NQ.mp n)) c t
        refine Qe (ZF (Qe (Ki (Qf ?_))));show P ((failedOf st).isNone) _;rw[hf];exact fin2 _ fs X
      split
      · refine Qe (QbK W hT hc H (by lia) (by lia) ?_ fin);rw[gA 0 (by omega),gB 0 (by omega)];have:=U (sa+k+0) (Np _ _) (by lia);rw[FY sb];exact Dw this
      · exact Qe (GB W hB hc H (by lia) (by omega) hT fin)
end
end Ts

namespace Ts
open PySem.W
set_option autoImplicit false
section
variable{f:Keyed->Int}{xs ys:Array Keyed}
noncomputable def Ch(f:Keyed->Int)(xs:Array Keyed):List (Nat×Nat×Nat)->Nat->Nat->Prop
 |[],a,b=>a=b
 |p::r,a,b=>p.1=a/\1<=p.2.1/\So f xs a (a+p.2.1)/\Ch f xs r (a+p.2.1) b
theorem Ch.le:∀{l:List (Nat×Nat×Nat)} {a b:Nat},Ch f xs l a b->a+l.length<=b
 |[],a,b,h=>by have:a=b:=h;simp;exact Nq this
 |p::r,a,b,⟨_,d,_,c⟩=>by have:=c.le;rw[El];lia
theorem Ch.app:∀{d c:List (Nat×Nat×Nat)} {a b:Nat},Ch f xs (d++c) a b->∃m,Ch f xs d a m/\Ch f xs c m b
 |[],c,a,b,h=>⟨a,rfl,h⟩
 |p::r,c,a,b,⟨h1,l,j,i⟩=>by
  obtain⟨m,g,e⟩:=i.app;exact⟨m,⟨h1,l,j,g⟩,e⟩
theorem Ch.join:∀{d c:List (Nat×Nat×Nat)} {a m b:Nat},Ch f xs d a m->Ch f xs c m b->Ch f xs (d++c) a b
 |[],c,a,m,b,h,h'=>by have:a=m:=h;subst this;exact h'
 |p::r,c,a,m,b,⟨j,i,g,e⟩,h'=>⟨j,i,g,e.join h'⟩
theorem So.same{i j:Nat}(h:So f xs i j)(e:∀k,i<=k->k<j->F f ys k=F f xs k):So f ys i j:=fun k l c b a=>by rw[e k c (Nd b a),e l (Nf c b) a];exact h k l c b a
theorem Ch.same:∀{l:List (Nat×Nat×Nat)} {a b:Nat},Ch f xs l a b->(∀k,a<=k->k<b->F f ys k=F f xs k)->Ch f ys l a b
 |[],a,b,h,_=>h
 |p::r,a,b,⟨h1,j,i,g⟩,e=>by
  have:=g.le;exact⟨h1,j,i.same fun k d c=>e k d (Ng (Ng c (Np _ _)) this),g.same fun k d c=>e k (Nf (Np _ _) d) c⟩
theorem Ch.pow{l:List (Nat×Nat×Nat)}{p q:Nat×Nat×Nat}{a b:Nat}(h:Ch f xs (l++[p]) a b)(h1:q.1=p.1)(e:q.2.1=p.2.1):Ch f xs (l++[q]) a b:=by
 obtain⟨m,d,c⟩:=h.app;refine d.join ?_;unfold Ch at c ⊢;rw[h1,e];exact c
end
section
variable{prog:Program}{w:World}{A:Around}{E:Value->Shared->Prop}{s:Shared}{κ:SortKind}{M:Keyed->Prop}{f:Keyed->Int}{a₀:Array Keyed}
structure R(κ:SortKind)(M:Keyed->Prop)(f:Keyed->Int)(a₀:Array Keyed)(lo:Nat)(st:SortSt):Prop where
 kind:kindOf st=κ
 failed:failedOf st=none
 al:Al M (arrOf st)
 mv:Mv 0 a₀.size a₀ (arrOf st)
 le:lo<=a₀.size
 ch:Ch f (arrOf st) (pendingOf st).toList 0 lo
theorem Ur{i lo:Nat}{st:SortSt}(U:Cmp prog w A s κ M f)(h:R κ M f a₀ lo st)(hi:i+1<(pendingOf st).size) :
  T prog w A E s (mergeAt' i) (fun b a=>b=true/\R κ M f a₀ lo a/\(pendingOf a).size+1=(pendingOf st).size/\∀k,lo<=k->(arrOf a)[k]?=(arrOf st)[k]?) st:=by
 have hl:i+1<(pendingOf st).toList.length:=by simpa using hi
 have e:(pendingOf st).toList=(pendingOf st).toList.take i++(pendingOf st).toList[i]::(pendingOf st).toList[i+1]::(pendingOf st).toList.drop (i+2):=by
  rw[<-EO,<-EO,Eo]
 generalize(pendingOf st).toList[i]=p at e;generalize(pendingOf st).toList[i+1]=q at e;have g:((pendingOf st).toList.take i).length=i:=by rw[Ed];lia
 generalize(pendingOf st).toList.take i=Z at e g;generalize(pendingOf st).toList.drop (i+2)=Y at e;have c:=h.ch;rw[e]at c;obtain⟨m,B,z,o,y,j,x,v,n⟩:=c.app;obtain⟨H,P,pw⟩:=p;obtain⟨G,nb,O⟩:=q;dsimp only at z o y j x v n;subst z;have X:=n.le;have l:=h.le;have S:=h.mv.size;refine QbI U h.kind h.failed h.al e g j o x (by lia) (by rw[j];exact y) (by rw[j];exact v) fun a N L r d I=>⟨rfl,⟨N,L,h.al.mv d,h.mv.trans (d.wide (NM _) (by lia)),l,?_⟩,?_,fun k hk=>d.out k (.inr (by lia))⟩
 ·rw[r];have Q:=B.le;refine(B.same fun k u t=>VE (d.out k (.inl t))).join ⟨rfl,by dsimp only;exact Nf o (Np _ _),?_,?_⟩
  ·dsimp only;rw[show H+(P+nb)=G+nb by lia];exact I
  ·dsimp only;rw[<-Li];exact n.same fun k u t=>VE (d.out k (.inr (Nf (EX (Nq j) _) u)))
 ·have D:=congrArg List.length r;have C:=congrArg List.length e;simp only[Nv,El,Nr]at D C;lia
theorem R.push{lo n:Nat}{st:SortSt}(h:R κ M f a₀ lo st)(b:1<=n)(c:lo+n<=a₀.size)(a:So f (arrOf st) lo (lo+n)):R κ M f a₀ (lo+n) (setPending st ((pendingOf st).push (lo,n,0))):=by
 refine⟨h.kind,h.failed,h.al,h.mv,c,?_⟩;show Ch f (arrOf st) ((pendingOf st).push (lo,n,0)).toList 0 (lo+n);rw[DW];exact h.ch.join ⟨rfl,b,a,rfl⟩
theorem R.pow{lo pw:Nat}{st:SortSt}(h:R κ M f a₀ lo st):R κ M f a₀ lo (setPending st ((pendingOf st).modify ((pendingOf st).size-1) fun x=>(x.1,x.2.1,pw))):=by
 refine⟨h.kind,h.failed,h.al,h.mv,h.le,?_⟩;show Ch f (arrOf st) ((pendingOf st).modify ((pendingOf st).size-1) fun x=>(x.1,x.2.1,pw)).toList 0 lo;have c:=h.ch;rw[Array.toList_modify]
 rcases List.eq_nil_or_concat (pendingOf st).toList with e|⟨l,x,e⟩
 ·rw[e]at c ⊢;simpa using c
 ·have z:=congrArg List.length e;rw[Nr,OE,Nv,Ec]at z;rw[e,OE]at c ⊢;rw[z,Nat.add_sub_cancel]
  have:(l++[x]).modify l.length (fun x=>(x.1,x.2.1,pw))=l++[(x.1,x.2.1,pw)]:=by
   clear c z e
   induction l with
   |nil=>rfl
   |cons y l a=>exact congrArg (y::·) a
  rw[this];exact c.pow rfl rfl
end
end Ts

namespace Ts
open PySem.W
set_option autoImplicit false
section
variable{prog:Program}{w:World}{A:Around}{E:Value->Shared->Prop}{s:Shared}{κ:SortKind}{M:Keyed->Prop}{f:Keyed->Int}{a₀:Array Keyed}
theorem Qkf{a:Type}{m b:StateT SortSt Sem a}{P:a->SortSt->Prop}{st:SortSt}(e:m=b)(h:T prog w A E s b P st):T prog w A E s m P st:=e▸h
theorem Qdw{size lo n:Nat}{st:SortSt}(G:Cmp prog w A s κ M f)(h:R κ M f a₀ lo st)(o:1<=n)(u:lo+n<=a₀.size)(m:So f (arrOf st) lo (lo+n)){P:ForInStep (Option Unit×Nat)->SortSt->Prop}
  (v:∀a,R κ M f a₀ (lo+n) a->P (.yield (none,lo+n)) a):T prog w A E s (do
   let st <-get
   match (pendingOf st).back? with
   | some (j,e,_)=>do
    let t <-forIn [0:size] ((none,()):Option Unit×Unit) fun _ _=>do
     let st <-get
     match (if(pendingOf st).size>1 then(pendingOf st)[(pendingOf st).size-2]? else none)with
     | some (_,_,d)=>if d<=power' size (2*j+e) (2*j+e+e+n) size then pure (.done (none,()))else do
       let b <-mergeAt' ((pendingOf st).size-2)
       if(!b)=true then pure (.done (some (),()))else pure (.yield (none,()))
     |_=>pure (.done (none,()))
    match t.1 with
    |some r=>pure (.done (some r,lo))
    |none=>do
     modify fun s=>setPending s ((pendingOf s).modify ((pendingOf s).size-1) fun x=>(x.1,x.2.1,power' size (2*j+e) (2*j+e+e+n) size))
     modify fun s=>setPending s ((pendingOf s).push (lo,n,0))
     pure (.yield (none,lo+n))
   |_=>do
    modify fun s=>setPending s ((pendingOf s).push (lo,n,0))
    pure (.yield (none,lo+n))) P st:=by
 refine Qe (Ki ?_);cases S:(pendingOf st).back? with
 |none=>exact Qe (ZF (Qf (v _ (h.push o u m))))
 | some p=>
  obtain⟨j,e,pw⟩:=p;dsimp only;refine Qe (QO (Vm (I:=fun x c a=>c=(none,())/\R κ M f a₀ lo a/\So f (arrOf a) lo (lo+n)) (Q:=fun c a=>c=(none,())/\R κ M f a₀ lo a/\So f (arrOf a) lo (lo+n)) ?_ (fun _ _ q=>q) ⟨rfl,h,m⟩) ?_)
  ·rintro x c a _ _ ⟨rfl,i,g⟩
   refine Qe (Ki ?_)
   by_cases l:(pendingOf a).size>1
   ·rw[if_pos l];cases O:(pendingOf a)[(pendingOf a).size-2]? with
    |none=>exact Qf ⟨rfl,i,g⟩
    | some C=>
     obtain⟨H,L,d⟩:=C;dsimp only;split
     ·exact Qf ⟨rfl,i,g⟩
     ·refine Qe (QO (Ur G i (by lia)) ?_)
      rintro b y ⟨rfl,B,_,z⟩
      exact Qf ⟨rfl,B,g.same fun k D N=>VE (z k D)⟩
   ·rw[if_neg l];exact Qf ⟨rfl,i,g⟩
  ·rintro c a ⟨rfl,i,g⟩
   exact Qe (ZF (Qe (ZF (Qf (v _ (i.pow.push o u g))))))
theorem UR{st:SortSt}{P:Unit->SortSt->Prop}(u:Cmp prog w A s κ M f)(hk:kindOf st=κ)(hf:failedOf st=none)(hm:Al M a₀)(O:arrOf st=a₀)(hp:pendingOf st=#[])
  (h:∀a,(arrOf a).Perm a₀->failedOf a=none->So f (arrOf a) 0 a₀.size->P () a):T prog w A E s sortRuns' P st:=by
 rw[sortRuns'_eq];refine Qe (Ki ?_);dsimp only;rw[O];refine Qe (QO (Vm (I:=fun x c a=>∃lo,c=(none,lo)/\R κ M f a₀ lo a/\min x a₀.size<=lo) (Q:=fun c a=>c=(none,a₀.size)/\R κ M f a₀ a₀.size a) ?_ ?_ ⟨0,rfl,⟨hk,hf,O▸hm,O▸Mv.refl _,NM _,by rw[hp];rfl⟩,by exact IN _ _⟩) ?_)
 ·rintro x c a _ hx ⟨lo,rfl,q,N⟩
  dsimp only;have g:=q.le;have aa:=q.mv.size
  by_cases j:lo >= a₀.size
  ·rw[if_pos j];have:lo=a₀.size:=by exact Ek g j
   subst this;exact Qf ⟨rfl,q⟩
  ·rw[if_neg j];refine Qe (Qf2 u q.kind q.al (by lia) (by lia) fun m X L ab mv hs=>?_);dsimp only
   have Z:∀{n:Nat} {y:Array Keyed},lo+n<=a₀.size->Mv lo (lo+n) (arrOf a) y->R κ M f a₀ lo (setArr a y):=fun {n y} hn z=>
    ⟨q.kind,q.failed,q.al.mv z,q.mv.trans (z.wide (NM _) hn),g,q.ch.same fun k k1 k2=>VE (z.out k (.inl k2))⟩
   by_cases o:m<minRun' a₀.size a₀.size 0
   ·rw[if_pos o];refine Qe (Kw ?_);have z:=mv.size;refine Qe (Qcy (st:=setArr a X) u q.kind (q.al.mv mv) (show lo+min (a₀.size-lo) (minRun' a₀.size a₀.size 0)<=X.size by lia) (show m<=min (a₀.size-lo) (minRun' a₀.size a₀.size 0) by omega) hs fun y C H=>?_);simp only[DR,NT,if_false];refine Qkf ?_ (Qdw (size:=a₀.size) (n:=min (a₀.size-lo) (minRun' a₀.size a₀.size 0)) u (Z (n:=a₀.size-lo) (by lia) (mv.trans (C.wide (Nu _) (by omega)))) (by lia) (by lia) H fun d r=>⟨_,rfl,r,by lia⟩)
    (refine Qm fun st=>?_;rcases(pendingOf st).back? with _|⟨_,_,_⟩;rfl;(dsimp only;refine congr (congrArg bind ?_) (funext fun t=>?_);(focus (refine congrArg (forIn _ _) (funext fun _=>funext fun t=>?_);rfl));(obtain⟨_|r,t⟩:=t<;>rfl)))
   ·rw[if_neg o];refine Qkf ?_ (Qdw (size:=a₀.size) (n:=m) u (Z (n:=a₀.size-lo) (by lia) (mv.wide (Nu _) (Nu _))) L (by lia) hs fun d r=>⟨_,rfl,r,by lia⟩)
    (refine Qm fun st=>?_;rcases(pendingOf st).back? with _|⟨_,_,_⟩;rfl;(dsimp only;refine congr (congrArg bind ?_) (funext fun t=>?_);(focus (refine congrArg (forIn _ _) (funext fun _=>funext fun t=>?_);rfl));(obtain⟨_|r,t⟩:=t<;>rfl)))
 ·rintro c a ⟨lo,rfl,q,N⟩
  have g:=q.le;have:lo=a₀.size:=by lia
  subst this;exact⟨rfl,q⟩
 ·rintro c a ⟨rfl,q⟩
  dsimp only;refine Qe (QO (Vm (I:=fun x c a=>c=(none,())/\R κ M f a₀ a₀.size a/\(pendingOf a).size<=a₀.size-x) (Q:=fun c a=>c=(none,())/\R κ M f a₀ a₀.size a/\(pendingOf a).size<=1) ?_ ?_ ⟨rfl,q,?_⟩) ?_)
  ·rintro x c d _ hx ⟨rfl,r,G⟩
   refine Qe (Ki ?_)
   by_cases S:(pendingOf d).size<=1
   ·rw[if_pos S];exact Qf ⟨rfl,r,S⟩
   ·rw[if_neg S]
    have go:∀i,i+1<(pendingOf d).size->T prog w A E s (do
      let b <-mergeAt' i
      if(!b)=true then pure (ForInStep.done (some (),()))else pure (ForInStep.yield (none,()))) (fun r a=>match r with|.done v=>v=(none,())/\R κ M f a₀ a₀.size a/\(pendingOf a).size<=1|.yield v=>v=(none,())/\R κ M f a₀ a₀.size a/\(pendingOf a).size<=a₀.size-(x+1)) d:=by
     intro i hi;refine Qe (QO (Ur u r hi) ?_)
     rintro b B ⟨rfl,r1,r2,_⟩
     exact Qf ⟨rfl,r1,by lia⟩
    refine QO (go _ ?_) ?_
    ·repeat' split
     all_goals omega
    ·rintro(v|v) B Y
     ·exact Y
     ·exact Y
  ·rintro c d ⟨rfl,r,G⟩
   exact⟨rfl,r,by lia⟩
  ·have:=q.ch.le;simp at this;omega
  ·rintro c d ⟨rfl,r,G⟩
   refine Qf (h d r.mv.pm r.failed ?_);have c:=r.ch;have D:(pendingOf d).toList.length<=1:=by simpa using G
   match e:(pendingOf d).toList,D with
   |[],_=>
    rw[e]at c;have:0=a₀.size:=c;intro k l q1 q2 q3;lia
   |[p],_=>
    rw[e]at c;obtain⟨c1,c2,c3,c4⟩:=c;have U:0+p.2.1=a₀.size:=c4;rw[U]at c3;exact c3
end
end Ts

namespace Ts
open PySem.W
set_option autoImplicit false
section
variable{prog:Program}{w:World}{A:Around}{E:Value->Shared->Prop}{s:Shared}
theorem sort_any{a:Addr}{vs:List Value}{n:Nat}{κ:SortKind}{f:Value->Int}{P:PySem.Fin->Shared->Prop}(H:s.heap.get? a=some (seqObj "list" vs.toArray n))(hz:vs.length<=sizeLine)
  (hk:2<=vs.length->∀g:Heap,(∀b o,b≠a->s.heap.get? b=some o->g.get? b=some o)->∀Q:SortKind->Shared->Prop,Q κ { s with heap:=g }->wpAny (model prog w) A (keyKind' vs.toArray) Q (fun _ _=>False) { s with heap:=g })
  (hc:∀g:Heap,(∀b o,b≠a->s.heap.get? b=some o->g.get? b=some o)->∀x∈vs,∀y∈vs,∀(u:Nat) (C:Bool->Shared->Prop),(∀t,C (decide (f x<f y)) { s with heap:=g,toks:=t })->wpAny (model prog w) A (keyLt' κ x y) C (fun _ _=>False) { s with heap:=g,toks:=u })
  (h:∀(g:Heap) (u c:Nat) (m:List Value),m.Perm vs->(m.Pairwise fun x y=>f x<=f y)->(∀b o,b≠a->s.heap.get? b=some o->g.get? b=some o)->g.get? a=some (seqObj "list" m.toArray c)->P (.done (.ret .none)) { s with heap:=g,toks:=u }) :
  wpAny (model prog w) A (Builtin.«list.sort» ⟨[.ref a],[]⟩) P E s:=by
 have la:a<s.heap.objs.size:=ND H;obtain⟨L,g1⟩:∃L,(s.heap.update a (Obj.mapSeq fun _=>(#[]:Array Value))).get? a=some (seqObj "list" #[] L):=⟨_,get?_update_seq H fun _=>#[]⟩
 rw[list_sort_plain];refine Na (listItems_at H rfl (Na (listUpdate_at H rfl ?_ (by rw[Nt];exact hz) (NM _))));refine Na (seqEpoch_at g1 rfl (Na (wpAny_newTuple ?_ (by show vs.length<=_;exact hz))));refine Na (Fi (N8 ?_) (NM _));show wpAny (model prog w) A _ P E { s with heap:=((s.heap.update a (Obj.mapSeq fun _=>(#[]:Array Value))).push (seqObj "tuple" vs.toArray 0)).push (seqObj "list" #[] 0) };have D:∀b o,b≠a->s.heap.get? b=some o->(((s.heap.update a (Obj.mapSeq fun _=>(#[]:Array Value))).push (seqObj "tuple" vs.toArray 0)).push (seqObj "list" #[] 0)).get? b=some o:=fun b o I e=>Nn _ (Nn _ ((EF _ _ (DH I)).trans e));have g2:(((s.heap.update a (Obj.mapSeq fun _=>(#[]:Array Value))).push (seqObj "tuple" vs.toArray 0)).push (seqObj "list" #[] 0)).get? a=some (seqObj "list" #[] L):=Nn _ (Nn _ g1);generalize((s.heap.update a (Obj.mapSeq fun _=>(#[]:Array Value))).push (seqObj "tuple" vs.toArray 0)).push (seqObj "list" #[] 0)=g at D g2;dsimp only
 have fin:∀(st:SortSt) (u:Nat) (m:List Value),m.Perm vs->(m.Pairwise fun x y=>f x<=f y)->(arrOf st).map (·.2)=m.toArray->failedOf st=none->wpAny (model prog w) A (do
   let l:=(<-seqEpoch a) != L
   Builtin.List.listUpdate (.ref a) fun _=>(arrOf st).map (·.2)
   if let some e:=failedOf st then rule "list.sort.comparison-raised";throw e
   if l then rule "list.sort.modified";raiseError "ValueError" "list modified during sort"
   ret .none) P E { s with heap:=g,toks:=u }:=by
  intro st u m Z u2 q1 q2;rw[q1,q2];refine Na (seqEpoch_at g2 rfl (Na (listUpdate_at g2 rfl ?_ (NM _) (by rw[Nt,Z.length_eq];exact Nf hz (Np _ _)))));simp only[bne_self_eq_false,NT,if_false];refine Nj ?_;exact h _ u _ m Z u2 (fun b o I e=>(EF _ _ (DH I)).trans (D b o I e)) (get?_update_seq g2 fun _=>m.toArray)
 by_cases v:vs.toArray.size<2
 ·rw[if_pos v,if_pos v];refine Na (Nj ?_);rw[StateT.run_pure];have hl:vs.length<2:=by rwa[Nt]at v
  refine Na (Nj (fin (SortSt.mk' general' (vs.toArray.zip vs.toArray) #[] 7 none) s.toks vs (List.Perm.refl _) ?_ ?_ rfl))
  ·match vs,hl with
   |[],_=>exact List.Pairwise.nil
   |[_],_=>exact List.pairwise_singleton _ _
  ·show(vs.toArray.zip vs.toArray).map (·.2)=vs.toArray;apply Array.ext
   ·simp
   ·intro i h1 h2;simp
 ·rw[if_neg v,if_neg v];have h2:2<=vs.length:=by rw[Nt]at v;exact NQ.mp v
  refine Na (N4 (hk h2 g D (fun r M=>r=κ/\M={ s with heap:=g }) ⟨rfl,rfl⟩) (fun r M z=>?_) fun _ _ z=>z.elim);obtain⟨rfl,rfl⟩:=z;have hC:Cmp prog w A { s with heap:=g } r (fun p=>p.1=p.2/\p.1∈vs) (fun p=>f p.1):=fun x y G hy u C q=>hc g D x.1 G.2 y.1 hy.2 u C q;refine Na (N4 (UR (E:=E) (P:=fun _ d=>(arrOf d).Perm (pairsOf vs)/\failedOf d=none/\So (fun p=>f p.1) (arrOf d) 0 (pairsOf vs).size) (st:=SortSt.mk' r (pairsOf vs) #[] 7 none) (a₀:=pairsOf vs) hC rfl rfl (fun x G=>by rw[pairsOf_toList]at G;exact Yap G) rfl rfl (fun d B S O=>⟨B,S,O⟩) s.toks) ?_ fun _ _ e=>e)
  rintro⟨⟨⟩,d⟩ M ⟨⟨t,rfl⟩,B,S,O⟩
  have N:(arrOf d).toList.Perm (vs.zip vs):=by rw[<-pairsOf_toList];exact DV.mp B
  have U:(arrOf d).size=(pairsOf vs).size:=B.size_eq;refine fin d t ((arrOf d).toList.map (·.2)) ?_ ?_ ?_ S
  ·have:=N.map (·.2);rwa[List.map_snd_zip (Nu _)]at this
  ·rw[EY,D1];intro i j hi X Y;rw[Nr]at hi X;have q:=O i j (NM _) (Nl Y) (Ng X (Nq U));rw[Qfp hi,Qfp X]at q;have m1:=Yap (N.mem_iff.mp (show(arrOf d)[i]∈(arrOf d).toList by simp));have m2:=Yap (N.mem_iff.mp (show(arrOf d)[j]∈(arrOf d).toList by simp));show f (arrOf d)[i].2<=f (arrOf d)[j].2;rw[<-m1.1,<-m2.1];exact q
  ·apply Array.ext';simp
theorem sorted_any{l:Addr}{vs:List Value}{κ:SortKind}{f:Value->Int}{Q:Value->Shared->Prop}(u:s.heap.IsList l vs.toArray)(hz:vs.length<=sizeLine)
  (v:2<=vs.length->∀(A:Around) (g:Heap),(∀b o,s.heap.get? b=some o->g.get? b=some o)->∀Q:SortKind->Shared->Prop,Q κ { s with heap:=g }->wpAny (model prog w) A (keyKind' vs.toArray) Q (fun _ _=>False) { s with heap:=g })
  (z:∀(p:Around) (g:Heap),p=A.in1.in1->(∀b o,s.heap.get? b=some o->g.get? b=some o)->∀x∈vs,∀y∈vs,∀(d:Nat) (C:Bool->Shared->Prop),(∀t,C (decide (f x<f y)) { s with heap:=g,toks:=t })->wpAny (model prog w) p (keyLt' κ x y) C (fun _ _=>False) { s with heap:=g,toks:=d })
  (h:∀(D:Addr) (g:Heap) (d c:Nat) (a:List Value),a.Perm vs->(a.Pairwise fun x y=>f x<=f y)->(∀b o,s.heap.get? b=some o->g.get? b=some o)->s.heap.objs.size<=D->g.get? D=some (seqObj "list" a.toArray c)->Q (.ref D) { s with heap:=g,toks:=d }) :
  wpAny (model prog w) A (call (.builtin "sorted") [.ref l]) Q E s:=by
 refine D0 Og LQ LR (LS _) ?_;unfold Builtin.«sorted»;refine Na (m:=checkCount "sorted" 1 1 _) (Nj ?_);refine Na (collect_list u ?_ hz);refine Na (Fi ?_ hz)
 have j:((s.heap.push (seqObj "list" #[] 0)).update s.heap.objs.size (Obj.mapSeq (·++vs.toArray))).objs.size=s.heap.objs.size+1:=by
  rw[Heap.size_update,size_push']
 have n:(((s.heap.push (seqObj "list" #[] 0)).update s.heap.objs.size (Obj.mapSeq (·++vs.toArray))).push (seqObj "list" vs.toArray 0)).get? (s.heap.objs.size+1)=some (seqObj "list" vs.toArray 0):=by
  rw[<-j];exact NA _ rfl
 have old:∀b o,s.heap.get? b=some o->(((s.heap.push (seqObj "list" #[] 0)).update s.heap.objs.size (Obj.mapSeq (·++vs.toArray))).push (seqObj "list" vs.toArray 0)).get? b=some o:=fun b o e=>
  Nn _ ((EF _ _ (D6 (ND e))).trans (Nn _ e))
 show wpAny _ _ _ _ _ { s with heap:=((s.heap.push (seqObj "list" #[] 0)).update s.heap.objs.size (Obj.mapSeq (·++vs.toArray))).push (seqObj "list" vs.toArray 0) };rw[j];have ne:∀b o,s.heap.get? b=some o->b≠s.heap.objs.size+1:=fun b o e=>NS (DB (ND e))
 refine Na (N8 (Ef IY ⟨_,n,rfl⟩ IM (sort_any (A:=A.in1.in1) (κ:=κ) (f:=f) (s:={ s with heap:=((s.heap.push (seqObj "list" #[] 0)).update s.heap.objs.size (Obj.mapSeq (·++vs.toArray))).push (seqObj "list" vs.toArray 0) }) n hz
  (fun B g i=>v B _ g fun b o e=>i b o (ne b o e) (old b o e)) (fun g i=>z _ g rfl fun b o e=>i b o (ne b o e) (old b o e)) fun g d c a r q i hD=>⟨_,rfl,?_⟩) (IZ _)))
 exact Nj ⟨_,rfl,h _ g d c a r q (fun b o e=>i b o (ne b o e) (old b o e)) (FO _) hD⟩
end
end Ts

namespace Sb
open L2 PySem.W SeqAt
section
variable{prog:Program}{w:World}{A:Around}{E:Value->Shared->Prop}{s:Shared}{b:Bool}{Q:Bool->Shared->Prop}
theorem QcM{n:Nat}(hu:A.units+n<cLine){l:List Sh}{ks ls:List Tr}{us vs:List Value}(i:Nat)(hi:(b&&i==0)=false)(p:Paired (Wf n) l ks)(q:Paired (Wf n) l ls)(r:Paired (IsQ s.heap n) ks us)(t:Paired (IsQ s.heap n) ls vs)(h:Q (lex (ltN n) ks ls) s):KatLex prog w A b false Q (us.zip vs) i s:=by
 induction p generalizing ls us vs i with
 |nil=>cases q;cases r;cases t;exact kat_nil h
 |@cons _ k _ ks o y x=>
  obtain _|⟨j,g⟩:=q
  obtain _|⟨d,f⟩:=r
  obtain _|⟨a,e⟩:=t
  rename_i m z u us v vs;rw[Lf];refine kat_cons (Qf9 n A hu k m u v (XN _ _ d) (XN _ _ a) _ _ _ _ ?_);unfold lex at h
  by_cases c:k=m
  ·rw[if_pos c]at h;rw[decide_eq_true c];exact kat_yes (x (i+1) (by simp) g f e h)
  ·rw[if_neg c]at h;rw[decide_eq_false c];refine kat_no ?_;rw[hi];exact kat_one u v (Qjp n A hu _ k m u v o j d a _ _ _ _ h)
noncomputable def ty0:Sh->String
 |.i=>"int"
 |.s=>"str"
 |.t _=>"tuple"
theorem GE {n:Nat} (hu:A.units+(n+1)<cLine) {sh0:Sh} {shs:List Sh} {x y:Tr} {u v:Value} (p:Wf (n+1) (.t (sh0::shs)) x) (q:Wf (n+1) (.t (sh0::shs)) y) (r:IsQ s.heap (n+1) x u) (t:IsQ s.heap (n+1) y v) (h:Q (ltN (n+1) x y) s) :
  wpAny (model prog w) A (keyLt' (tuples' (Value.type (ty0 sh0) != Value.type "tuple")) u v) Q E s:=by
 obtain⟨L,rfl,p⟩:=p;obtain⟨ls,rfl,q⟩:=q;obtain⟨a,o,rfl,O,r⟩:=r;obtain⟨b,d,rfl,N,t⟩:=t;have M:=QdE p q r t;obtain⟨Z,X,_,n1,U⟩:=O;obtain⟨Y,S,_,n2,P⟩:=N;refine kat_lt X U S P ?_;rw[M];simp only[EG,decide_false];simp only[ltN]at h;generalize o.toList=B at r;generalize d.toList=z at t;cases p with
 | cons g I=>
  cases q with
  | cons j H=>
   cases r with
   | cons f G=>
    cases t with
    | cons e C=>
     rename_i k L m ms u B v z;rw[Lf];refine kat_cons (Qf9 n A (by lia) k m u v (XN _ _ f) (XN _ _ e) _ _ _ _ ?_);unfold lex at h
     by_cases c:k=m
     ·rw[if_pos c]at h;rw[decide_eq_true c];exact kat_yes (QcM (by omega) 1 (by simp) I H G C h)
     ·rw[if_neg c]at h;rw[decide_eq_false c];refine kat_no ?_;cases n with
      |zero=>exact g.elim
      | succ n=>
       cases sh0 with
       |i=>
        obtain⟨x,rfl⟩:=g;obtain⟨y,rfl⟩:=j;obtain⟨t,rfl⟩:=f;obtain⟨D,rfl⟩:=e;refine oneLt_int ?_;simpa only[ltN]using h
       |s=>
        obtain⟨x,rfl⟩:=g;obtain⟨y,rfl⟩:=j;obtain⟨t,rfl⟩:=f;obtain⟨D,rfl⟩:=e;refine oneLt_str ?_;simpa only[ltN]using h
       |t l=>exact kat_one u v (Qjp (n+1) A (by lia) _ k m u v g j f e _ _ _ _ h)
theorem Xu{h:Heap}{n:Nat}{sh0:Sh}{shs:List Sh}:∀(vs:List Value),(∀v∈vs,∃t,IsQ h (n+2) t v/\Wf (n+2) (.t (sh0::shs)) t)->∃fs,KatTups h vs fs/\fs.length=vs.length/\∀f∈fs,Looks (model prog w) h (typeOf f) (.type (ty0 sh0))
 |[],_=>⟨[],trivial,rfl,fun _ d=>nomatch d⟩
 | v::vs,z=>by
  obtain⟨t,r,p⟩:=z v Nz;obtain⟨fs,f1,f2,I⟩:=Xu vs fun b H=>z b (Nw _ H);obtain⟨C,rfl,p⟩:=p;obtain⟨a,c,rfl,⟨o,D,G,l,hd⟩,r⟩:=r;obtain⟨e,rfl⟩:∃e:List Value,c=e.toArray:=⟨c.toList,by simp⟩
  rw[EL]at r;cases p with
  | cons j N=>
   cases r with
   | cons g M=>
    rename_i k C u e;refine⟨u::fs,KatTups.cons D G hd (by simp) f1,by simp[f2],fun f d=>?_⟩
    rcases NF.mp d with rfl|d
    ·cases sh0 with
     |i=>
      obtain⟨x,rfl⟩:=j;obtain⟨t,rfl⟩:=g;exact Looks.of_pure rfl
     |s=>
      obtain⟨x,rfl⟩:=j;obtain⟨t,rfl⟩:=g;exact Looks.of_pure rfl
     |t l=>
      obtain⟨x,rfl,_⟩:=j;obtain⟨L,y,rfl,⟨B,m,q,_⟩,_⟩:=g;have:Looks (model prog w) h (typeOf (.ref L)) B.cls:=(Looks.ld m).andThen .now;rw[q]at this;exact this
    ·exact I f d
open Classical in
noncomputable def trV(h:Heap)(v:Value):Tr:=if x:∃t,IsQ h 8 t v then x.choose else .i 0
theorem Vu{h:Heap}{v:Value}{t:Tr}(x:IsQ h 8 t v):trV h v=t:=by
 have a:∃t,IsQ h 8 t v:=⟨t,x⟩
 unfold trV;rw[dif_pos a];exact Ju _ _ _ (XN _ _ a.choose_spec) (XN _ _ x)
noncomputable abbrev Ye(h:Heap)(us:List Value):Prop:=us.Pairwise fun x y=>ltN 8 (trV h y) (trV h x)=false
noncomputable abbrev Yx(h:Heap)(sh0:Sh)(shs:List Sh)(vs:List Value):Prop:=∀v∈vs,∃t,IsQ h 8 t v/\Wf 8 (.t (sh0::shs)) t
theorem KO{h:Heap}{sh0:Sh}{shs:List Sh}{vs:List Value}(i:Yx h sh0 shs vs){x y:Value}(e:x∈vs)(d:y∈vs):(rk (vs.map (trV h)) (trV h x)<rk (vs.map (trV h)) (trV h y))↔ltN 8 (trV h x) (trV h y)=true:=
 QjD (sh:=.t (sh0::shs)) (fun t g=>by
  obtain⟨v,f,rfl⟩:=NE.mp g;obtain⟨t,c,a⟩:=i v f
  rw[Vu c];exact a) (EZ e) (EZ d)
theorem KG{h:Heap}{sh0:Sh}{shs:List Sh}{vs us:List Value}(e:Yx h sh0 shs vs)(p:us.Perm vs)(o:us.Pairwise fun x y=>(rk (vs.map (trV h)) (trV h x):Int)<=rk (vs.map (trV h)) (trV h y)):Ye h us:=by
 refine F6 ?_ o;intro x y d a f;cases c:ltN 8 (trV h y) (trV h x)with
 |false=>rfl
 |true=>
  have:=(KO e (p.mem_iff.mp a) (p.mem_iff.mp d)).mpr c;lia
theorem sorted_tups{l:Addr}{vs:List Value}{sh0:Sh}{shs:List Sh}{Q:Value->Shared->Prop}(hu:A.units+12<cLine)(H:s.heap.IsList l vs.toArray)(hz:vs.length<=sizeLine)(a:Yx s.heap sh0 shs vs)
  (h:∀(D:Addr) (g:Heap) (tk c:Nat) (us:List Value),us.Perm vs->Ye s.heap us->Ex s.heap g->s.heap.objs.size<=D->g.get? D=some (seqObj "list" us.toArray c)->Q (.ref D) { s with heap:=g,toks:=tk }) :
  wpAny (model prog w) A (call (.builtin "sorted") [.ref l]) Q E s:=by
 refine Ts.sorted_any (κ:=tuples' (Value.type (ty0 sh0) != Value.type "tuple")) (f:=fun v=>(rk (vs.map (trV s.heap)) (trV s.heap v):Int)) H hz ?_ ?_ fun D g tk c us p o k hD I=>h D g tk c us p (KG a p o) k hD I
 ·intro M S g j X m
  obtain⟨fs,f1,f2,N⟩:=Xu (prog:=prog) (w:=w) (h:=g) (n:=6) vs fun v G=>by
   obtain⟨t,i,d⟩:=a v G;exact⟨t,ZK j _ _ i,d⟩
  exact kat_kind (s:={ s with heap:=g }) f1 (Ng (Ng (by decide) M) (Nq f2.symm)) N (by simp) m
 ·rintro S g rfl j x r y q tk C L
  obtain⟨i,B,P⟩:=a x r;obtain⟨d,u,O⟩:=a y q;refine GE (n:=7) (s:={ s with heap:=g,toks:=tk }) (by show A.units+1+1+8<cLine;lia) P O (ZK j _ _ B) (ZK j _ _ u) ?_
  have e:decide ((rk (vs.map (trV s.heap)) (trV s.heap x):Int)<rk (vs.map (trV s.heap)) (trV s.heap y))=ltN 8 i d:=by
   have:=KO a r q;rw[Vu B,Vu u]at this ⊢;cases c:ltN 8 i d with
   |true=>rw[decide_eq_true_eq];have:=this.mpr c;lia
   |false=>
    rw[decide_eq_false_iff_not];intro z;have:=this.mp (by omega);rw[c]at this;cases this
  have:=L tk;rw[e]at this;exact this
theorem sorted_set{h₀:Heap}{S:Addr}{ks:List Tr}{G:Value->Prop}{sh0:Sh}{shs:List Sh}{Q:Value->Shared->Prop}(hu:A.units+12<cLine)(hh:A.handled=none)(ext:Ex h₀ s.heap)(hS:SetT w G h₀ s.heap S ks (St.ledW w))(hz:ks.length<=306)(hG:∀v,G v->∃t,IsQ h₀ 8 t v/\Wf 8 (.t (sh0::shs)) t)
  (h:∀(D:Addr) h' d tk (us:List Value) c,(∀v∈us,G v)->(us.map (trV h₀)).Perm ks->Ye h₀ us->Ex s.heap h'->s.heap.objs.size<=D->h'.get? D=some (seqObj "list" us.toArray c)->Q (.ref D) { s with heap:=h',drawn:=d,toks:=tk }) :
  wpAny (model prog w) A (call (.builtin "sorted") [.ref S]) Q E s:=by
 refine D0 Og LQ LR (LS _) ?_;unfold Builtin.«sorted»;refine Na (m:=checkCount "sorted" 1 1 _) (Nj (Na (Qb5 (by simp[hh]) hS (by rw[Db];exact Nl (Nd hz (by decide))) fun l d tk a str L P=>?_)));obtain⟨ts,st,pm,hg⟩:=str
 have u:a.length<=306:=by
  have:=st.1;rw[Nt]at this;rw[<-this,pm.length_eq];exact hz
 have r:Yx h₀ sh0 shs a:=fun v B=>hG v (hg v B);refine Na (Fi ?_ (by rw[Db];exact Nl (Nd u (by decide))));have H:(l.push (seqObj "list" a.toArray 0)).get? l.objs.size=some (seqObj "list" a.toArray 0):=NA _ rfl;have X:Ex h₀ (l.push (seqObj "list" a.toArray 0)):=fun b o e=>Nn _ (L b o (ext b o e));have ne:∀b o,h₀.get? b=some o->b≠l.objs.size:=fun b o e=>NS (ND (L b o (ext b o e)));refine Na (N8 (Ef IY ⟨_,H,rfl⟩ IM (Ts.sort_any (A:=A.in1.in1) (κ:=tuples' (Value.type (ty0 sh0) != Value.type "tuple")) (f:=fun v=>(rk (a.map (trV h₀)) (trV h₀ v):Int)) (s:={ s with heap:=l.push (seqObj "list" a.toArray 0),drawn:=d,toks:=tk }) H (by rw[Db];exact Nl (Nd u (by decide))) ?_ ?_ fun g j c us p o k hD=>⟨_,rfl,?_⟩) (IZ _)))
 ·intro M g N Q' O
  obtain⟨fs,f1,f2,f3⟩:=Xu (prog:=prog) (w:=w) (h:=g) (n:=6) a fun v B=>by
   obtain⟨t,q,I⟩:=r v B;exact⟨t,ZK (fun b o e=>N b o (ne b o e) (X b o e)) _ _ q,I⟩
  exact kat_kind (s:={ s with heap:=g,drawn:=d,toks:=tk }) f1 (Ng (Ng (by decide) M) (Nq f2.symm)) f3 (by simp) O
 ·intro g N x Z y Y j C hC;obtain⟨q,a1,a2⟩:=r x Z;obtain⟨I,b1,b2⟩:=r y Y;have U:Ex h₀ g:=fun b o e=>N b o (ne b o e) (X b o e);refine GE (n:=7) (s:={ s with heap:=g,drawn:=d,toks:=j }) (by show A.units+1+1+8<cLine;lia) a2 b2 (ZK U _ _ a1) (ZK U _ _ b1) ?_
  have e:decide ((rk (a.map (trV h₀)) (trV h₀ x):Int)<rk (a.map (trV h₀)) (trV h₀ y))=ltN 8 q I:=by
   have:=KO r Z Y;rw[Vu a1,Vu b1]at this ⊢;cases c:ltN 8 q I with
   |true=>rw[decide_eq_true_eq];have:=this.mpr c;lia
   |false=>
    rw[decide_eq_false_iff_not];intro z;have:=this.mp (by lia);rw[c]at this;cases this
  have:=hC j;rw[e]at this;exact this
 ·refine Nj ⟨_,rfl,h l.objs.size g d j us c (fun v B=>hg v (p.mem_iff.mp B)) ?_ (KG r p o) (fun b o e=>k b o (NS (ND (L b o e))) (Nn _ (L b o e))) P hD⟩;refine(p.map _).trans (List.Perm.trans ?_ pm)
  have:a.map (trV h₀)=ts:=by
   apply DA;intro i;rw[NB];cases e:a[i]? with
   |none=>
    have l:a.length<=i:=DY.mp e;have M:=st.1;rw[Nt]at M;rw[En (Nf (Nq M) l)];rfl
   |some v=>
    obtain⟨k',x,z1,z2,z3⟩:=st.2 i v (by simpa using e);obtain⟨t,q,_⟩:=r v (N5 e);rw[z1];subst z2;show some (trV h₀ _)=_;rw[Vu q,Ju _ _ _ (XN _ _ q) z3]
  rw[this]
end
end Sb

namespace Mi
open L2 Sb
noncomputable def plN:Nat->W->Option Tr
 |0,_=>none
 |_+1,.int i=>some (.i i)
 |_+1,.str x=>some (.s x)
 |n+1,.tup ws=>(ws.mapM (plN n)).map .t
 |_+1,_=>none
mutual
noncomputable def toW:Tr->W
 |.i n=>.int n
 |.s x=>.str x
 |.t ks=>.tup (QiE ks)
noncomputable def QiE:List Tr->List W
 |[]=>[]
 |k::ks=>toW k::QiE ks
end
noncomputable def plL:List W->Option (List Tr)
 |[]=>some []
 |.tup ws::r=>(plN 8 (.tup ws)).bind fun t=>(plL r).map (t::·)
 |_::_=>none
theorem mapM_cons{b d:Type}{f:b->Option d}{a:b}{l:List b}{ks:List d}(e:(a::l).mapM f=some ks):∃k r,f a=some k/\l.mapM f=some r/\ks=k::r:=by
 rw[Fz]at e;obtain⟨g,i,m⟩:=Nc.mp e;obtain⟨c,h,j⟩:=Nc.mp m;cases(show some (g::c)=some ks from j);exact⟨_,_,i,h,rfl⟩
theorem Qag:∀(n:Nat) (w:W) (t:Tr),plN n w=some t->w=toW t
 |0,_,_,e=>by simp[plN]at e
 | n+1,w,t,e=>by
  cases w with
  |int i=>simp only[plN]at e;cases e;simp[toW]
  |str x=>simp only[plN]at e;cases e;simp[toW]
  | tup ws=>
   simp only[plN]at e;obtain⟨ks,a,rfl⟩:=Nk.mp e;rw[toW];congr 1;clear e
   induction ws generalizing ks with
   |nil=>cases(show some []=some ks from a);rw[QiE]
   |cons w ws b=>
    obtain⟨k,r,d,c,rfl⟩:=mapM_cons a;rw[QiE,<-Qag n w k d,<-b r c]
  |_=>simp[plN]at e
section
variable{X:Cx}{pins:List (Addr×Obj)}{σ:L2.St}{H:Hp}{s:Shared}{R:Rn}{h:MH}
theorem QhZ(I:Inv X pins σ H s)(j:Rh X.K R h H):∀(n:Nat) (w:W) (v:V) (u:Value) (t:Tr),Rw X.K R w v->plN n w=some t->RelV v u->IsQ s.heap n t u
 |0,_,_,_,_,_,e,_=>by simp[plN]at e
 | n+1,w,v,u,t,r,e,b=>by
  cases w with
  |int i=>
   simp only[plN]at e;cases e;rw[r.int_eq]at b;exact b
  |str x=>
   simp only[plN]at e;cases e;rw[r.str_eq]at b;exact b
  | tup ws=>
   simp only[plN]at e;obtain⟨ks,m,E⟩:=Nk.mp e;subst E;obtain⟨a,p,rfl,q,d⟩:=j.tupAt r;cases b;obtain⟨c,g,l,D⟩:=I.tuple q;refine⟨a,c.toArray,rfl,l,?_⟩;rw[EL];clear e r q l D
   induction ws generalizing ks p c with
   |nil=>
    rw[Rws.nil_iff]at d;subst d;cases(show some []=some ks from m);cases g;exact .nil
   |cons x ws C=>
    obtain⟨B,f,N,M,rfl⟩:=mapM_cons m;rw[Rws.cons_iff]at d;obtain⟨y,o,rfl,A,z⟩:=d;cases g with
    |cons L G=>exact .cons (QhZ I j n x y _ B A N L) (C f M o z _ G)
  |_=>simp[plN]at e
noncomputable def QdC(K:Nh)(R:Rn)(g:Heap)(t:Tr)(u:Value):Prop:=∃a,u=.ref a/\IsQ g 8 t u/\Rw K R (toW t) (.ref a)
theorem WQ(I:Inv X pins σ H s)(c:Rh X.K R h H):∀{ws:List W} {b:List Tr} {xs:List V} {us:List Value},plL ws=some b->Rws X.K R ws xs->Vals xs us->Paired (QdC X.K R s.heap) b us/\ws=b.map toW
 |[],b,xs,us,e,r,v=>by
  cases e;rw[Rws.nil_iff]at r;subst r;cases v;exact⟨.nil,rfl⟩
 | w::ws,b,xs,us,e,r,v=>by
  cases w with
  | tup q=>
   unfold plL at e;obtain⟨t,g,p⟩:=Nc.mp e;obtain⟨j,o,rfl⟩:=Nk.mp p;rw[Rws.cons_iff]at r;obtain⟨y,u,rfl,d,l⟩:=r;cases v with
   |cons v1 i=>
    obtain⟨n,m⟩:=WQ I c o l i;obtain⟨a,xs,rfl,_⟩:=c.tupAt d;have f:=Qag 8 _ _ g;refine⟨.cons ⟨a,v1,QhZ I c 8 _ _ _ _ d g v1,by rw[<-f];exact d⟩ n,?_⟩;rw[NC,<-f,<-m]
  |_=>simp[plL]at e
theorem Vd{d c:Type}{F:d->c->Prop}:∀{b:List d} {a:List c},Paired F b a->∀y∈a,∃x∈b,F x y
 |_,_,.nil,_,h=>nomatch h
 |_,_,.cons r t,y,h=>by
  rcases NF.mp h with rfl|h
  ·exact⟨_,Nz,r⟩
  ·obtain⟨x,f,e⟩:=Vd t y h;exact⟨x,Nw _ f,e⟩
theorem Qa4{g:Heap}{K:Nh}:∀{a:List Tr} {us:List Value},Paired (QdC K R g) a us->us.map (trV g)=a
 |_,_,.nil=>rfl
 |_,_,.cons ⟨_,_,q,_⟩ t=>by rw[NC,Qa4 t,Vu q]
theorem GD{g:Heap}{K:Nh}:∀{b:List Tr} {us:List Value},Paired (QdC K R g) b us->Qg6 g us.toArray b
 |_,_,.nil=>⟨rfl,fun i v e=>by simp at e⟩
 | t::b,u::us,.cons ⟨a,c,q,_⟩ p=>by
  obtain⟨h1,l⟩:=GD p;refine⟨by simp at h1 ⊢;exact h1,fun i v e=>?_⟩;cases i with
  |zero=>
   have:u=v:=by simpa using e
   subst this;exact⟨t,a,rfl,c,by rw[<-c];exact XN _ _ q⟩
  |succ i=>
   obtain⟨k,x,j,f,d⟩:=l i v (by simpa using e);exact⟨k,x,by simpa using j,f,d⟩
theorem K5{g:Heap}{K:Nh}:∀{us:List Value},(∀u∈us,∃t,QdC K R g t u)->∃xs:List V,Vals xs us/\(∀R',Ext R R'->Rws K R' ((us.map (trV g)).map toW) xs)/\xs.length=us.length
 |[],_=>⟨[],.nil,fun R' _=>by unfold Rws;rfl,rfl⟩
 |u::us,hu=>by
  obtain⟨t,a,rfl,q,r⟩:=hu u Nz;obtain⟨xs,e,d,c⟩:=K5 (us:=us) fun f i=>hu f (Nw _ i);refine⟨.ref a::xs,.cons rfl e,fun R' b=>?_,by simp[c]⟩;rw[NC,NC,Vu q];exact Rws.cons_iff.mpr ⟨_,_,rfl,Rw.mono b _ _ r,d R' b⟩
end
noncomputable def One(c:List Tr):Prop:=∃b a,∀t∈c,Wf 8 (.t (b::a)) t
open Classical in
noncomputable def Qbo(ws:List W)(h:MH):Option (W×MH):=match ws with
 |[a]=>(lsW h a).bind fun c=>(plL c).bind fun b=>if One b then some (.ref h.length,h++[.lst ((srtT b).map toW)])else none
 |_=>none
open Classical in
noncomputable def J6(ws:List W)(h:MH):Option (W×MH):=match ws with
 |[a]=>(lsW h a).bind fun c=>(plL c).bind fun b=>if One b/\b.length<=305 then some (.ref h.length,h++[.lst ((srtT (uq b)).map toW)])else none
 |_=>none
section
variable{X:Cx}
theorem QeU(hu:X.A.units+64<cLine):CallR X (.builtin "sorted") (Fs X.K Qbo):=by
 intro M s σ H P b Q I r q;obtain⟨R,h,ws,w,h',C,y,e,k⟩:=q;unfold Qbo at e;split at e
 ·obtain⟨ys,e1,e2⟩:=Nc.mp e;obtain⟨n,e3,E⟩:=Nc.mp e2;split at E
  ·rename_i l;obtain⟨i,f,l⟩:=l;cases E;obtain⟨v,rfl,r1⟩:=XO y;obtain⟨ad,P,rfl,q1,r2⟩:=C.lsAt r1 e1;obtain⟨u,rfl,ru⟩:=Xb r;cases ru;obtain⟨d,G,pl,hl⟩:=I.list q1;obtain⟨L,_⟩:=WQ I C e3 r2 G;have N:∀u∈d,∃t∈n,QdC X.K R s.heap t u:=Vd L;have j:d.length<=sizeLine:=by rw[<-G.length];exact hl
   refine Sb.sorted_tups (sh0:=i) (shs:=f) (vs:=d) (by first|exact N0 (NU (by decide) _) hu|(show X.A.units+1+12<cLine;omega)) pl.isList j (fun u hu=>?_) fun D g tk c b p o kx hD hg=>?_
   ·obtain⟨t,t1,a,_,x,_⟩:=N u hu;exact⟨t,x,l t t1⟩
   ·obtain⟨m,Y,U,S⟩:=K5 (us:=b) (g:=s.heap) (K:=X.K) (R:=R) fun u hu=>let⟨t,_,x⟩:=N u (p.mem_iff.mp hu);⟨t,x⟩
    have pt:(b.map (trV s.heap)).Perm n:=by
     rw[<-Qa4 L];exact p.map _
    have eq:srtT n=b.map (trV s.heap):=srtT_eq l pt (EY.mpr o);rw[eq]at k;have hp:=I.hok.fresh hD;obtain⟨R3,O,B,z⟩:=C.new (mo:=.lst ((b.map (trV s.heap)).map toW)) (o:=.lst m) hp fun R' Z=>⟨_,rfl,U R' Z⟩
    refine⟨.ref D,_,I.laid (t':=tk) kx hD (show ObjOk X.prog X.w _ _ _ (.lst _)from⟨?_,b,c,Y,hg⟩),rfl,k R3 _ _ O B z⟩;rw[S,p.length_eq];exact j
  ·cases E
 ·cases e
theorem VZ{e:Expr}{me:ME}{p1 p2 z j:Pos}(hu:X.A.units+64<cLine)(hc:X.calm=true)(hg:Gl X "sorted")(hm:X.mg "sorted"=none)(af:Gl X "set")(ab:X.mg "set"=none)(he:PM X e me)(hs:JS e=false:=by rfl) :
  PM X (.Call (.Name "sorted" p1) [.Call (.Name "set" p2) [e] [] j] [] z) (mFn J6 (Qa me Qd)):=by
 intro B s σ H Q I ⟨R,N,h,w,h',rh,st,e1,kk⟩;obtain⟨⟨as,h2⟩,e2,e3⟩:=Nc.mp e1;obtain⟨⟨a,h1⟩,e4,e5⟩:=Nc.mp e2;obtain⟨⟨bs,h3⟩,e6,e7⟩:=Nc.mp e5;cases e6;cases e7;refine Dr (Vq I hg hm LX (Fl ?_ (QG rfl) (Z1 rfl)) (by decide) (by decide));rw[QG (e:=.Call (.Name "set" p2) [e] [] j) rfl];refine Fk (Dr (Vq I af ab boot_set (EV ?_ (QG hs) (Z1 rfl)) (by decide) (by decide)));rw[QG hs];refine Fk (thn (he B s σ H (fun v H2=>∃R2,Ext R R2/\Rh X.K R2 h1 H2/\Rw X.K R2 a v) I ⟨R,N,h,a,h1,rh,st,e4,fun R2 H2 v x f ra=>⟨R2,x,f,ra⟩⟩) fun u i ⟨v,H1,I1,ru,R2,x2,f,ra⟩=>Fv ?_);obtain⟨ys,e8,e9⟩:=Nc.mp e3;obtain⟨p,ag,n⟩:=Nc.mp e9;split at n
 ·rename_i M;obtain⟨⟨y,r,M⟩,m⟩:=M;cases n;obtain⟨ad,xs,rfl,q1,r2⟩:=f.lsAt ra e8;cases ru;obtain⟨C,rv,pl,hl⟩:=I1.list q1;obtain⟨pr,_⟩:=WQ I1 f ag r2 rv;have hm:∀u∈C,∃t∈p,QdC X.K R2 i.heap t u:=Vd pr;have ae:C.length=p.length:=(N7 pr).symm;have E:=uq_len p;have aa:=uq_mem p;refine Sb.set_tups (G₁:=fun v=>∃t∈p,QdC X.K R2 i.heap t v) (by first|exact N0 (NU (by decide) _) hu|(show X.A.units+1+12<cLine;omega)) (I1.ok.hd hc) pl.isList (GD pr) (by rw[EL];exact hm) (by rw[Nt,ae];exact Nd m (by decide)) fun g1 S l k1=>Fv ?_;refine Sb.sorted_set (s:={ i with heap:=g1,toks:=S }) (h₀:=i.heap) (sh0:=y) (shs:=r) (by first|exact N0 (NU (by decide) _) hu|(show X.A.units+1+12<cLine;omega)) (I1.ok.hd hc) k1 l (Nl (Nd (Nf E m) (by decide))) (fun v ⟨t,t1,a,_,U,_⟩=>⟨t,U,M t t1⟩) fun D g2 d P q c b1 b2 b3 k2 G hD=>?_;obtain⟨O,y1,y2,y3⟩:=K5 (us:=q) (g:=i.heap) (K:=X.K) (R:=R2) fun u hu=>let⟨t,_,U⟩:=b1 u hu;⟨t,U⟩
  have eq:srtT (uq p)=q.map (trV i.heap):=srtT_eq (fun t ht=>M t ((aa t).mp ht)) b2 (EY.mpr b3);have L:i.heap.objs.size<=D:=Nf (Nl l.lt) G;have hp:=I1.hok.fresh L;obtain⟨R3,x3,Z,Y⟩:=f.new (mo:=.lst ((q.map (trV i.heap)).map toW)) (o:=.lst O) hp fun R' x'=>⟨_,rfl,y2 R' x'⟩
  rw[eq]at kk;refine⟨.ref D,_,Inv.drew (I1.laid (t':=P) (fun b o e=>k2 b o (k1 b o e)) L (show ObjOk X.prog X.w _ _ _ (.lst _)from⟨?_,q,c,y1,hD⟩)) d,rfl,kk R3 _ _ (x2.trans x3) Z Y⟩;have:=b2.length_eq;rw[Ny]at this;rw[y3,this,Db];exact Nl (Nd (Nf E m) (by decide))
 ·cases n
end
end Mi

namespace L2
noncomputable def Itq(a:Addr)(n:Nat):It:=⟨fun i H=>i<n/\∃b,H a=some (.dT b)/\b.length=n,fun i H x c=>c=H/\∀b,H a=some (.dT b)->∃p,b[i]?=some p/\x=.ref p.2.1,fun i H=>n<=i/\∃b,H a=some (.dT b)/\b.length=n⟩
theorem Qac{X:Cx}{b:List (Addr×Obj)}{σ:L2.St}{H:Hp}{s:Shared}{a:Addr}{kx:List (Tr×Addr×V)}(I:Inv X b σ H s)(e:H a=some (.dT kx)) :
  ∃es:Array DictEntry,RawD s.heap a es kx.length/\es.size=kx.length/\(a==sysModules)=false/\∀(i:Nat) p,kx[i]?=some p->∃hi:i<es.size,es[i].key=.ref p.2.1:=by
 obtain⟨z,y,u,r,o,es,x,t,n,m,f,v,l⟩:=I.hok _ _ e;have j:=N7 r;have c:es.size=kx.length:=by rw[<-Nr,f,Ny,j]
 refine⟨es,⟨o,t,n,by rw[m,l,c]⟩,c,y,fun i p d=>?_⟩;have hi:i<es.size:=by rw[c];exact(Nm.mp d).1
 obtain⟨q,h,g⟩:=Jy r d;refine⟨hi,?_⟩;have:es.toList[i]?=some (entryOfKey (Qi X.prog X.w) q):=by rw[f,NB,h];rfl
 rw[NH,NI hi]at this;rw[Eg this,g.2.1];rfl
theorem Qgz{P:Program}{w:World}{K:Nh}{tg:Expr}(a it:Addr)(n:Nat):Turn P w K tg (Itq a n) [it] it (fun i h=>i<=n/\h.IsKeyIter it a i n n) where
 mem:=by simp
 obj:=fun i h st b j=>by
  have e:b=it:=by simpa using j
  subst e;obtain⟨_,o,e,c,d⟩:=st;exact⟨o,e,fun v z=>by rw[d]at z;cases z⟩
 keep:=fun i h A st k=>⟨st.1,st.2.at fun o e=>k it (by simp) o e⟩
 item:=by
  intro X G hw L Z i f s S H E I y st D;subst G hw L;obtain⟨x,B,t,u⟩:=D;obtain⟨m,q,l,lo,Y⟩:=Qac I t;obtain⟨p,U⟩:∃p,B[i]?=some p:=⟨B[i]'(Ng x (Nq u.symm)),No _⟩
  obtain⟨Q,f1,f2,O,N,M⟩:=y it (by simp);obtain⟨C,ek⟩:=Y i p U;have hit:=st.2;rw[u]at q l;refine WS (es:=m) (ep:=n) (by rw[l];exact hit) q C fun A g sb=>?_;rw[l]at g;have I1:Inv X f S H { s with heap:=A }:=I.turned (t':=s.toks) (fun b o j e=>(sb.2 b j).trans e) Q f1 O N M;obtain⟨o,e,c,d⟩:=id g;refine⟨m[i].key,rfl,UO (s:={ s with heap:=A }) e c d (by decide) ⟨.ref p.2.1,H,I1,ek,⟨rfl,fun aa r=>?_⟩,⟨x,g⟩,fun b j=>(y b j).1⟩⟩;rw[t]at r;cases r;exact⟨p,U,rfl⟩
 done:=by
  intro X G hw L Z i f s S H E I y st D;subst G hw L;obtain⟨x,B,t,u⟩:=D;obtain rfl:i=n:=Ek st.1 x;obtain⟨m,q,l,lo,Y⟩:=Qac I t;obtain⟨Q,f1,f2,O,N,M⟩:=y it (by simp);have hit:=st.2;rw[u]at q l;exact QbC (es:=m) (ep:=i) (I.ok.hd Z) (by rw[l];exact hit) q fun A eb=>⟨rfl,I.turned (t':=s.toks) (fun b o j e=>eb b o j e) Q f1 O N M⟩
 self:=fun _ _ _ _ _ st h=>OJ st.2 h
end L2
namespace Mi
open L2
noncomputable def V7(m:ME):MI:=fun b h=>(m b h).bind fun p=>match p.1 with
 |.ref n=>match p.2[n]? with|some (.dct a)=>some (a.map (·.1),some (.d n),p.2)|_=>none
 |_=>none
theorem QcH{K:Nh}{R:Rn}{n:Nat}{ws:List W}(o:n<R.N):ItOk K R (Itq (R.ρ n) ws.length) ws (some (.d n)) where
 go:=fun i w s h H x b g e=>by
  obtain⟨f,m,l⟩:=g (.d n) rfl;obtain⟨c,a,j⟩:=b.obj n _ m;rw[x.ρ n o]at a;refine⟨(Nm.mp e).1,c,a,?_⟩;rw[<-N7 j,<-l,Ny]
 yld:=fun i w s h H x D e b g u A=>by
  obtain⟨rfl,B⟩:=A;obtain⟨f,m,l⟩:=g (.d n) rfl;obtain⟨c,a,j⟩:=b.obj n _ m;rw[e.ρ n o]at a;obtain⟨p,z,rfl⟩:=B c a;rw[<-l,NB]at u;obtain⟨q,v,rfl⟩:=Nk.mp u;obtain⟨C,t,y⟩:=Jy j v;rw[z]at t;cases t;exact⟨s,Ext.refl _,b,y.1⟩
 stop:=fun i s h H x b g r=>by
  obtain⟨f,m,l⟩:=g (.d n) rfl;obtain⟨c,a,j⟩:=b.obj n _ m;rw[x.ρ n o]at a;exact⟨r,c,a,by rw[<-N7 j,<-l,Ny]⟩
section
variable{X:Cx}{tg a:Expr}{ma:ME}
theorem Qbj(S:PM X a ma):PMI X tg a (V7 ma):=by
 intro j s D H C I q;obtain⟨R,t,h,items,y,Z,E,st,e,k⟩:=q;obtain⟨⟨w,r⟩,e1,m⟩:=Nc.mp e;refine thn (S j s D H (fun v i=>∃R1 n l c,Ext R R1/\Rh X.K R1 r i/\v=.ref (R1.ρ n)/\n<R1.N/\r[n]?=some (.dct c)/\i (R1.ρ n)=some (.dT l)/\items=c.map (·.1)/\l.length=items.length/\y=some (.d n)/\Z=r) I ⟨R,t,h,w,r,E,st,e1,fun R1 i v u f A=>?_⟩) fun v p ⟨x,i,I1,L,R1,n,l,c,u,f,O,g,z,M,ei,el,B,eh⟩=>?_
 ·cases w with
  |ref n=>
   simp only at m;split at m
   ·rename_i c z;cases m;obtain⟨l,Y,U⟩:=f.obj n _ z;unfold Rw at A;obtain⟨g,rfl⟩:=A;exact⟨R1,n,l,c,u,f,rfl,g,z,Y,rfl,by rw[<-N7 U,Ny],rfl,rfl⟩
   ·cases m
  |_=>cases m
 ·subst O B eh;cases L;obtain⟨B,G,P,lo,hk⟩:=Qac I1 M;refine WU lo G ?_;refine⟨p.heap.objs.size,[p.heap.objs.size],_,Itq (R1.ρ n) items.length,i,rfl,I1.kept (t':=p.toks) fun b o e=>Nn _ e,Qgz (R1.ρ n) _ items.length,⟨NM _,_,NA _ rfl,rfl,?_⟩,fun b Q=>?_,k R1 i _ u f (QcH g)⟩
  ·rw[<-el,P];rfl
  ·have e:b=p.heap.objs.size:=by simpa using Q
   subst e;exact I1.fpOk (Nu _) (I1.hok.fresh (Nu _))
end
end Mi

namespace Mi
open L2 Sb
noncomputable def Qd7(a b:W)(h:MH):Option (W×MH):=(UN h a).bind fun c=>(nrm b).bind fun k=>(VG c k).map fun v=>(v,h)
section
variable{X:Cx}{o i e a b:Expr}{mo mi mv ma mb:ME}{pos pos':Pos}
theorem QgL(hu:X.A.units+64<cLine)(ha:PM X a ma)(hb:PM X b mb)(hs:Qks b):PM X (.Subscript a b pos) (Qc Qd7 ma mb):=by
 intro d s B H Q I q;refine QfO PySem.F.slot_dict_getitem.lookup hs (thn (ha d s B H _ I (QgC q)) fun u S ⟨x,H1,I1,Y,o⟩=>thn (hb d S B H1 _ I1 o) fun iv s2 ⟨y,L,I2,U,R,h,a,b,w,h',j,C,i,e,k⟩=>?_);unfold Qd7 at e;obtain⟨aa,e1,e2⟩:=Nc.mp e;obtain⟨D,e3,e4⟩:=Nc.mp e2;obtain⟨v,g,e6⟩:=Nk.mp e4;cases e6;obtain⟨n,rfl,hn⟩:=XA e1;obtain⟨kx,xs,hx,dr,zl,lo,Z,G⟩:=W4 I2 j hn;obtain⟨c,rfl,rfl,f⟩:=WJ I2 j i U e3;unfold Rw at C;obtain⟨ab,rfl⟩:=C;obtain rfl:u=Value.ref (R.ρ n):=Y;have E:=Ke (k:=D) Z;refine⟨G.typeIs,?_⟩
 rcases V9 (k:=D) dr with z|⟨w',P,O,N,M⟩
 ·rw[z.1]at g;cases g
 ·rw[O]at g;cases g;rw[N]at E;obtain⟨u',m,l⟩:=RelO.some_of E;obtain⟨p,t,r⟩:=Nk.mp m;subst r;exact wpAny_getItem_heap (Qcc hu) f G t ⟨P,L,I2.tok _,l,k R L _ (Ext.refl _) j M⟩
end
end Mi
namespace Sb
open L2 PySem.W
section
variable{prog:Program}{w:World}{A:Around}{E:Value->Shared->Prop}{s:Shared}
theorem Qcb{d:Addr}{es:Array DictEntry}{ep:Nat}{Q:List Value->Shared->Prop}(H:A.handled=none)(lo:(d==sysModules)=false)(hd:RawD s.heap d es ep)(hz:es.size<=sizeLine)
  (h:∀(g:Heap) (tk:Nat) (vs:List Value),vs=es.toList.map (·.key)->Ex s.heap g->s.heap.objs.size<=g.objs.size->Q vs { s with heap:=g,toks:=tk }):wpAny (model prog w) A (collect (.ref d)) Q E s:=by
 have p:d<s.heap.objs.size:=hd.lt;unfold collect;refine Na (IX (EU OP (show wpAny _ _ (do again (.builtin "list.__iadd__" ⟨[<-newList [],.ref d],[]⟩)) _ _ s from ?_)));refine Na (Fi (Nj ⟨F3 _ (by decide +kernel),EU (entry_list_iadd') ?_⟩));rw[De F.plain_list_iadd _]
 have fin:∀(r:Result) (m:Shared),(r=.ok (.ret (.ref s.heap.objs.size))/\∃g tk,∃vs:List Value,∃y,vs=es.toList.map (·.key)/\Ex s.heap g/\g.get? s.heap.objs.size=some (St.lsO vs.toArray y)/\m={ s with heap:=g,toks:=tk })->(match r with
   | .ok (.ret v)=>wpAny (model prog w) A (match v with
    |.ref a=>do
     match (<-load a).data with
     |.seq B _=>pure B.toList
     |_=>unsupported "internal:collect"
    |_=>unsupported "internal:collect") Q E m
   |.ok _=>False
   |.error e=>E e m):=by
  rintro r m ⟨rfl,g,tk,vs,y,str,k,hN,rfl⟩
  refine Na (wpAny_load hN ?_);show wpAny _ _ (pure vs.toArray.toList) Q E _;rw[EL];exact Nj (h g tk vs str k (Nl (ND hN)))
 refine N4 (kdl_extend (A:=A) (s:={ s with heap:=s.heap.push (St.lsO #[] 0) }) (R:=fun r m=>r=.ok (.ret (.ref s.heap.objs.size))/\∃g tk,∃vs:List Value,∃y,vs=es.toList.map (·.key)/\Ex s.heap g/\g.get? s.heap.objs.size=some (St.lsO vs.toArray y)/\m={ s with heap:=g,toks:=tk }) (Qfk (es:=es) (ep:=ep) lo) H (hd.at fun o e=>Nn _ e) s.heap.objs.size (D6 p) (D6 p) (.ref s.heap.objs.size) 0 (NA _ rfl) (fun g tk l c G hS i=>?_) hz) ?_ ?_
 ·refine⟨rfl,g,tk,l.toList,c,?_,fun b o e=>G b o (NS (ND e)) (Nn _ e),by rw[OQ];exact hS,rfl⟩;apply DA;intro j;rw[NB]
  by_cases u:j<es.size
  ·have t:j<l.size:=by rw[i.1];exact u
   obtain⟨e,x,z⟩:=i.2 j l[j] (NI t);rw[NI u]at x;cases x;rw[NH,NI t,z,NH,NI u];rfl
  ·have D:l.toList.length<=j:=by rw[Nr,i.1];exact NQ.mp u
   have C:es.toList.length<=j:=by rw[Nr];exact NQ.mp u
   rw[En D,En C];rfl
 ·intro f m q;cases f with
  |done f=>exact fin _ _ q
  |again y=>exact⟨q.1,DJ q.2 fun r n hr=>fin r n hr⟩
 ·intro e m q;exact fin _ _ q
theorem sorted_keys{d:Addr}{es:Array DictEntry}{ep:Nat}{sh0:Sh}{shs:List Sh}{Q:Value->Shared->Prop}(hu:A.units+12<cLine)(Z:A.handled=none)(lo:(d==sysModules)=false)(hd:RawD s.heap d es ep)(hz:es.size<=sizeLine)(j:Yx s.heap sh0 shs (es.toList.map (·.key)))
  (h:∀(D:Addr) h' tk (us:List Value) c,us.Perm (es.toList.map (·.key))->Ye s.heap us->Ex s.heap h'->s.heap.objs.size<=D->h'.get? D=some (seqObj "list" us.toArray c)->Q (.ref D) { s with heap:=h',toks:=tk }) :
  wpAny (model prog w) A (call (.builtin "sorted") [.ref d]) Q E s:=by
 refine D0 Og LQ LR (LS _) ?_;unfold Builtin.«sorted»;refine Na (m:=checkCount "sorted" 1 1 _) (Nj (Na (Qcb (by simp[Z]) lo hd hz fun l tk a S N L=>?_)));have q:a.length<=sizeLine:=by rw[S,Ny,Nr];exact hz
 rw[<-S]at j h;refine Na (Fi ?_ q);have r:(l.push (seqObj "list" a.toArray 0)).get? l.objs.size=some (seqObj "list" a.toArray 0):=NA _ rfl;have H:Ex s.heap (l.push (seqObj "list" a.toArray 0)):=fun b o e=>Nn _ (N b o e);have ne:∀b o,s.heap.get? b=some o->b≠l.objs.size:=fun b o e=>NS (ND (N b o e));refine Na (N8 (Ef IY ⟨_,r,rfl⟩ IM (Ts.sort_any (A:=A.in1.in1) (κ:=tuples' (Value.type (ty0 sh0) != Value.type "tuple")) (f:=fun v=>(rk (a.map (trV s.heap)) (trV s.heap v):Int)) (s:={ s with heap:=l.push (seqObj "list" a.toArray 0),toks:=tk }) r q ?_ ?_ fun g i c us p o k hD=>⟨_,rfl,?_⟩) (IZ _)))
 ·intro h2 g G Q' I
  obtain⟨fs,f1,f2,f3⟩:=Xu (prog:=prog) (w:=w) (h:=g) (n:=6) a fun v Y=>by
   obtain⟨t,B,u⟩:=j v Y;exact⟨t,ZK (fun b o e=>G b o (ne b o e) (H b o e)) _ _ B,u⟩
  exact kat_kind (s:={ s with heap:=g,toks:=tk }) f1 (Ng (Ng (by decide) h2) (Nq f2.symm)) f3 (by simp) I
 ·intro g G x P y O i C hC;obtain⟨B,X,a2⟩:=j x P;obtain⟨u,U,b2⟩:=j y O;have M:Ex s.heap g:=fun b o e=>G b o (ne b o e) (H b o e);refine GE (n:=7) (s:={ s with heap:=g,toks:=i }) (by show A.units+1+1+8<cLine;lia) a2 b2 (ZK M _ _ X) (ZK M _ _ U) ?_
  have e:decide ((rk (a.map (trV s.heap)) (trV s.heap x):Int)<rk (a.map (trV s.heap)) (trV s.heap y))=ltN 8 B u:=by
   have:=KO j P O;rw[Vu X,Vu U]at this ⊢;cases c:ltN 8 B u with
   |true=>rw[decide_eq_true_eq];have:=this.mpr c;lia
   |false=>
    rw[decide_eq_false_iff_not];intro z;have:=this.mp (by lia);rw[c]at this;cases this
  have:=hC i;rw[e]at this;exact this
 ·exact Nj ⟨_,rfl,h l.objs.size g i us c p (KG j p o) (fun b o e=>k b o (ne b o e) (H b o e)) L hD⟩
end
end Sb
namespace Mi
open L2 Sb
open Classical in
noncomputable def XV(ws:List W)(h:MH):Option (W×MH):=match ws with
 |[a]=>(UN h a).bind fun b=>(plL (b.map (·.1))).bind fun c=>if One c then some (.ref h.length,h++[.lst ((srtT c).map toW)])else none
 |_=>none
section
variable{X:Cx}
theorem YR(hu:X.A.units+64<cLine)(hc:X.calm=true):CallR X (.builtin "sorted") (Fs X.K XV):=by
 intro P s σ H xs b Q I r q;obtain⟨R,h,ws,w,h',C,y,e,k⟩:=q;unfold XV at e;split at e
 ·obtain⟨aa,e1,e2⟩:=Nc.mp e;obtain⟨m,e3,M⟩:=Nc.mp e2;split at M
  ·rename_i j;obtain⟨f,d,j⟩:=j;cases M;obtain⟨v,rfl,O⟩:=XO y;obtain⟨n,rfl,hn⟩:=XA e1;obtain⟨u,rfl,ru⟩:=Xb r;obtain⟨kx,Y,hx,dr,zl,lo,N,o,L,ep,b1,b2,b3,U,b5,b6⟩:=W4 I C hn;unfold Rw at O;obtain⟨ab,rfl⟩:=O;obtain rfl:u=Value.ref (R.ρ n):=ru;have ek:L.toList.map (·.key)=Y.map fun p=>Value.ref p.2.1:=by rw[U,Em];rfl
   obtain⟨E,_⟩:=WQ I C e3 (WV dr) (W7 N);rw[<-ek]at E;have S:∀u∈L.toList.map (·.key),∃t∈m,QdC X.K R s.heap t u:=Vd E
   have i:L.size<=sizeLine:=by
    have:=L8 U;have:=N7 N;lia
   refine Sb.sorted_keys (sh0:=f) (shs:=d) (by first|exact N0 (NU (by decide) _) hu|(show X.A.units+1+12<cLine;omega)) (I.ok.hd hc) lo ⟨o,b1,b2,b3⟩ i (fun u hu=>?_) fun D g tk b c p od G hD hg=>?_
   ·obtain⟨t,t1,a,_,x,_⟩:=S u hu;exact⟨t,x,j t t1⟩
   ·obtain⟨l,x1,x2,x3⟩:=K5 (us:=b) (g:=s.heap) (K:=X.K) (R:=R) fun u hu=>let⟨t,_,x⟩:=S u (p.mem_iff.mp hu);⟨t,x⟩
    have pt:(b.map (trV s.heap)).Perm m:=by
     rw[<-Qa4 E];exact p.map _
    have eq:srtT m=b.map (trV s.heap):=srtT_eq j pt (EY.mpr od);rw[eq]at k;have hp:=I.hok.fresh hD;obtain⟨R3,Z,B,z⟩:=C.new (mo:=.lst ((b.map (trV s.heap)).map toW)) (o:=.lst l) hp fun R' x'=>⟨_,rfl,x2 R' x'⟩
    refine⟨.ref D,_,I.laid (t':=tk) G hD (show ObjOk X.prog X.w _ _ _ (.lst _)from⟨?_,b,c,x1,hg⟩),rfl,k R3 _ _ Z B z⟩;rw[x3,p.length_eq,Ny,Nr];exact i
  ·cases M
 ·cases e
end
end Mi

namespace Mi
open L2
theorem Xm:fillsNumberSlot (.type "tuple") "mul"=pure false:=PySem.fillsNumberSlot_seq (id:="tuple.__mul__") (r:=some (.builtin "tuple.__rmul__")) Is.lookup (by decide +kernel) LY.lookup (by decide +kernel)
theorem YF:seqRepeat? (.type "tuple")=pure (some (.builtin "tuple.__mul__")):=by
 unfold seqRepeat?;rw[YaK (T:="tuple") (name:="__mul__") (id:="tuple.__mul__") Is.lookup (by decide +kernel),YaK (T:="tuple") (name:="__rmul__") (id:="tuple.__rmul__") LY.lookup (by decide +kernel)];rfl
theorem WT(items:Array Value)(k:Nat):List.foldl (fun c b=>c++b) #[] (List.replicate k items)=(List.replicate k items.toList).flatten.toArray:=by
 have:∀(k:Nat) (a:Array Value),List.foldl (fun c b=>c++b) a (List.replicate k items)=(a.toList++(List.replicate k items.toList).flatten).toArray:=by
  intro k
  induction k with
  |zero=>intro a;simp
  |succ k d=>intro a;rw[EQ,Fo,d,EQ,DD];simp
 simpa using this k #[]
theorem Xv{a:Type}(l:List a):∀k:Nat,(List.replicate k l).flatten.length=l.length*k
 |0=>rfl
 |k+1=>by rw[EQ,DD,Nv,Xv l k,Nat.mul_succ];exact Nat.add_comm _ _
theorem U5(a:Int)(t:Tok)(l:Addr)(items:Array Value)(n:Nat)(e:Option Addr)(c:Array (Option Value)) :
  Meets (Builtin.«int.__rmul__» ⟨[.int a t,.ref l],[]⟩) (fun _ R s=>s.heap.get? l=some { cls:=.type "tuple",dict:=e,data:=.seq items n,slots:=c }/\R (.ok (.ret Value.notImplemented)) s):=
 .of_wp fun b w A R s h=>by obtain⟨i,g,d,f,os⟩:=s;obtain⟨j,h⟩:=h;wp_walk;exact⟨_,rfl,h⟩
theorem Qa0(l:Addr)(items:Array Value)(n:Nat)(o:Option Addr)(f:Array (Option Value))(x:Int)(u:Tok)(h0:items.isEmpty=false)(h1:2<=x)(m:x<=1000)(j:items.size<=1000) :
  Meets (Builtin.«tuple.__mul__» ⟨[.ref l,.int x u],[]⟩) (fun _ R s=>s.heap.get? l=some { cls:=.type "tuple",dict:=o,data:=.seq items n,slots:=f } /\
   R (.ok (.ret (.ref s.heap.objs.size))) { s with heap:=s.heap.push { cls:=.type "tuple",data:=.seq ((List.replicate x.toNat items).foldl (·++·) #[]) } }):=
 .of_wp fun a w A R s h=>by
  obtain⟨y,g,d,v,os⟩:=s;obtain⟨i,h⟩:=h;have f1:=AutoSeq1.idx_int
  have t:(decide (x < -(2^63:Int)) ||decide (x >= 2^63))=false:=by
   rw[decide_eq_false (by lia),decide_eq_false (by lia)];rfl
  have r:(items.isEmpty ||x==1)=false:=by
   rw[h0];have:(x==1)=false:=beq_eq_false_iff_ne.mpr (by lia);rw[this];rfl
  have q:(decide (x<=0) ||items.isEmpty)=false:=by
   rw[h0,decide_eq_false (by lia)];rfl
  have z:(items.size:Int)*x<=1000000:=by
   have:=Int.mul_le_mul (show(items.size:Int)<=1000 by lia) m (by lia) (by decide);exact Dm this (by decide)
  wp_walk
  rw[if_neg (by rw[t];simp)];refine Na (wpAny_tupleItemsOf i rfl ?_);rw[if_neg (by rw[r];simp),if_neg (by rw[q];simp)];rw[if_neg (by lia)]
  have p:¬Builtin.Tuple.tupleTooMany ((items.size:Int)*x)=true:=by
   simp[Builtin.Tuple.tupleTooMany];have:sizeLine=16777216:=by decide
   lia
  rw[if_neg p];unfold Builtin.Tuple.tupleExact;refine Na (Eh (Nj ⟨_,rfl,h⟩) ?_);show(List.foldl (fun c b=>c++b) #[] (List.replicate x.toNat items)).size<=sizeLine;rw[WT,Nt,Xv];have:items.toList.length*x.toNat<=1000*1000:=Oq (by rw[Nr];exact j) (by lia);have e:sizeLine=16777216:=by decide
  lia
noncomputable def WF(a b:W)(h:MH):Option (W×MH):=match a,b with
 |.tup c,.int n=>if 2<=n/\n<=1000/\0<c.length/\c.length<=1000 then some (.tup (List.replicate n.toNat c).flatten,h)else none
 |_,_=>none
theorem GO{K:Nh}{R:Rn}{ws:List W}{xs:List V}(r:Rws K R ws xs):∀k:Nat,Rws K R (List.replicate k ws).flatten (List.replicate k xs).flatten
 |0=>by unfold Rws;rfl
 |k+1=>by
  rw[EQ,EQ,DD,DD];exact Rws.append r (GO r k)
theorem Ui{xs:List V}{us:List Value}(r:Vals xs us):∀k:Nat,Vals (List.replicate k xs).flatten (List.replicate k us).flatten
 |0=>.nil
 |k+1=>by
  rw[EQ,EQ,DD,DD];exact Vals.append r (Ui r k)
theorem Qcj{X:Cx}:OpR X (binaryOp .Mult) (F2 X.K WF):=by
 intro E s σ H x y v u Q I S P q;obtain⟨R,h,a,b,w,h',C,Z,Y,e,k⟩:=q;unfold WF at e;split at e
 ·split at e
  ·rename_i ws n f;cases e;obtain⟨ad,M,rfl,q1,D⟩:=C.tupAt Z;have eb:=Y.int_eq;subst eb;cases S;obtain⟨t,rfl⟩:=P;obtain⟨c,B,⟨⟨cls,L,data,A⟩,d,G,m,hd⟩,hz⟩:=I.tuple q1;simp only at G hd;subst G hd;have l:=D.length;have j:=B.length;have r:c≠[]:=fun z=>by rw[z,L5]at j;exact Dq (Nf (Nq l) (Nq j)) f.2.2.1
   have p:c.toArray.size<=1000:=by rw[Nt];exact Nf (Nf (Nq j.symm) (Nq l.symm)) f.2.2.2
   refine wpAny_binaryOp_repeat_ref (T:="tuple") (U:="int") (by decide) ⟨_,d,rfl⟩ (fun O=>typeIs_int O n t) Xm PySem.F.fills_int_mul OF YF PySem.F.slot_int_index.lookup
    (FJ OF (typeIs_int s n t) PySem.F.entry_int_rmul (PySem.F.args_int_rmul_2 _ _) (U5 n t ad c.toArray m L A)
     ⟨d,rfl,⟨_,d,rfl⟩,FJ Is ⟨_,d,rfl⟩ PySem.F.entry_tuple_mul (PySem.F.args_tuple_mul_2 _ _)
      (Qa0 ad c.toArray m L A n t (by simp[r]) f.1 f.2.1 p) ⟨d,?_⟩⟩)
   rw[WT,EL];have hp:=I.hok.fresh (Nu s.heap.objs.size);obtain⟨R3,N,i,g⟩:=C.tup hp (GO D n.toNat);refine⟨.ref s.heap.objs.size,_,I.laid (t':=s.toks) (fun b o e=>Nn _ e) (Nu _) (show ObjOk X.prog X.w _ _ _ (.tup _)from⟨?_,_,Ui B n.toNat,_,NA _ rfl,rfl,0,rfl⟩),rfl,k R3 _ _ N i g⟩;rw[Xv];have:M.length*n.toNat<=1000*1000:=Oq (Nf (Nq l.symm) f.2.2.2) (by lia);have e:sizeLine=16777216:=by decide
   lia
  ·cases e
 ·cases e
theorem G6{e o i:Expr}{p:Pos}{l:Nat}{env:Env}:swapsWith e (some (.Subscript o i p)) l env=pure false:=by cases e<;>rfl
section
variable{X:Cx}{o i e:Expr}{mo mi mv:ME}{pos pos':Pos}
theorem QbM(hu:X.A.units+64<cLine)(a:PM X o mo)(hi:PM X i mi)(b:PM X e mv):PMS X (.Assign [.Subscript o i pos'] e pos) (K1 mo mi mv):=QhK hu a hi b G6
end
end Mi

namespace My
open L2 Mi
set_option maxHeartbeats 4000000
local macro_rules|`(tactic|walk_at $s:str)=>do
 let l:=s.getString.toList
 if l.head? != some '~'then Lean.Macro.throwUnsupported
 let mut r:Array (Lean.TSyntax `tactic):=#[]
 let mut f:=false
 for c in l.tail do
  if c=='!'then f:=true
  else
   r:=r.push (<-match f,c with
    |false,'#'=>`(tactic|refine Qdi ?_ ?_)
    |false,'$'=>`(tactic|exact rfl)
    |false,'%'=>`(tactic|first|exact .inl rfl|exact .inr rfl)
    |false,'&'=>`(tactic|exact QfR)
    |false,'('=>`(tactic|exact QgD)
    |false,')'=>`(tactic|refine Qc6 ?_ ?_)
    |false,'*'=>`(tactic|refine QfN ?_ ?_ ?_ ?_ ?_ ?_)
    |false,'+'=>`(tactic|refine Km Dh IH PySem.F.type_list_append UU ?_ ?_)
    |false,','=>`(tactic|refine J9 Qbw Q6 ?_ ?_ PySem.boot_len ?_ ?_ ?_ ?_ ?_)
    |false,'-'=>`(tactic|refine WG Qd8 QI ?_ ?_)
    |false,'.'=>`(tactic|refine QeO ?_)
    |false,'/'=>`(tactic|refine QjQ ?_ ?_)
    |false,'0'=>`(tactic|exact(Or.inl rfl))
    |false,'1'=>`(tactic|refine WG Qek QI ?_ ?_)
    |false,'2'=>`(tactic|decide)
    |false,'3'=>`(tactic|exact Qp 0)
    |false,'4'=>`(tactic|exact Qp 1)
    |false,'5'=>`(tactic|exact Qgn)
    |false,'6'=>`(tactic|exact $(Lean.mkIdent `nd_))
    |false,'7'=>`(tactic|refine WG QfK QI ?_ ?_)
    |false,'8'=>`(tactic|exact $(Lean.mkIdent `hr.mono) (by decide))
    |false,'9'=>`(tactic|refine Qgy ?_)
    |false,':'=>`(tactic|refine Jb Wb Q6 ?_ ?_ Ig ?_ ?_ ?_ ?_ ?_)
    |false,';'=>`(tactic|refine Qfx ?_ ?_ ?_ ?_ ?_ ?_)
    |false,'<'=>`(tactic|exact Qp 3)
    |false,'='=>`(tactic|exact Qp 2)
    |false,'>'=>`(tactic|refine QgX ?_ ?_ ?_)
    |false,'?'=>`(tactic|refine Qfz ?_)
    |false,'@'=>`(tactic|refine QU (GL ?_) QI ?_ ?_)
    |false,'A'=>`(tactic|exact Qp 6)
    |false,'B'=>`(tactic|exact fun _=>rfl)
    |false,'C'=>`(tactic|exact Qp 7)
    |false,'D'=>`(tactic|exact $(Lean.mkIdent `hu))
    |false,'E'=>`(tactic|exact PassesOwn.never)
    |false,'F'=>`(tactic|refine Qc7 ?_)
    |false,'G'=>`(tactic|refine WG QcS QI ?_ ?_)
    |false,'H'=>`(tactic|refine Qgp ?_ ?_ ?_ ?_)
    |false,'I'=>`(tactic|refine Qh3 ?_)
    |false,'J'=>`(tactic|have $(Lean.mkIdent `hu):ident:=$(Lean.mkIdent `hr.units))
    |false,'K'=>`(tactic|exact Qp 4)
    |false,'L'=>`(tactic|exact Qp 5)
    |false,'M'=>`(tactic|refine Qu (k:=1) (ps:=["script","k"]) ?_ ?_ ?_ ?_ ?_ ?_ ?_ ?_)
    |false,'N'=>`(tactic|refine QU (QhH ?_) QI ?_ ?_)
    |false,'O'=>`(tactic|exact Qel)
    |false,'P'=>`(tactic|exact $(Lean.mkIdent `b_len))
    |false,'Q'=>`(tactic|refine Qg5 ?_)
    |false,'R'=>`(tactic|refine QeI ?_)
    |_,_=>Lean.Macro.throwUnsupported)
   f:=false
 `(tactic|($[$r]*))
noncomputable def top(i:Nat):Stmt:=Lp.main.body.getD i (.Pass ⟨0,0,0,0⟩)
section
variable{P:Program}{w:World}{K:Nh}{mg:Str->Option Value}{base:Heap}
noncomputable abbrev QS:Stmt:=top 9
theorem V2:FnScope ["number","many","letters","near","kept","size","at","base","found","k","name"] ["number","many"] (Qg QS):=⟨rfl,rfl,rfl,by decide +kernel,rfl,by decide +kernel,by decide +kernel⟩
noncomputable abbrev Zl:SM:=(Qs (QQ 10 (Qc QL (Qc QL (mSl (Qb 7) YZ (Xq (Qb 6))) (Qc wIx (Qb 2) (Qc Zu (Qc QL (Qc Jc (Qb 0) (mC (.int 9360))) (Qc Zj (mC (.int 3)) (Qb 9))) (mC (.int 26))))) (mSl (Qb 7) (Xq (Qb 6)) YZ)))
  (Qs (VM (Qy (Qc (wIn false) (Qb 10) (Qb 4))) (QQ 10 (Qc QL (Qb 10) (mC (.str "s")))) Jf)
  (ZS (mMt "list" Qx (Qb 8) (Qa (Qb 10) Qd)))))
noncomputable def Za:FM:=Zs 9
  (Qs (QQ 2 (mC (.str "abcdefghijklmnopqrstuvwxyz")))
  (Qs (QQ 3 (mFn JE (Qa (mC (.str "pairs")) (Qa (mC (.str "o")) (Qa (mC (.str "seconda")) (Qa (mC (.str "nones")) (Qa (mC (.str "en")) (Qa (mC (.str "backs")) (Qa (mC (.str "eithera")) (Qa (mC (.str "ors")) (Qa (mC (.str "dos")) (Qa (mC (.str "ends")) (Qa (mC (.str "agains")) (Qa (mC (.str "parts")) (Qa (mC (.str "firs")) Qd)))))))))))))))
  (Qs (QQ 3 (Qc QL (Qb 3) (mFn JE (Qa (mC (.str "same")) (Qa (mC (.str "tells")) (Qa (mC (.str "firsts")) Qd))))))
  (Qs (QQ 4 (mFn Zg (Qa (mC (.str "pair")) (Qa (mC (.str "first")) (Qa (mC (.str "second")) (Qa (mC (.str "none")) (Qa (mC (.str "tell")) (Qa (mC (.str "back")) (Qa (mC (.str "either")) (Qa (mC (.str "or")) (Qa (mC (.str "again")) (Qa (mC (.str "end")) (Qa (mC (.str "do")) (Qa (mC (.str "part")) Qd))))))))))))))
  (Qs (VM (Qy (Qc wEq (Qc Zu (Qb 0) (mC (.int 5))) (mC (.int 0)))) (JX (Qz Jg (ZO (Qa (Qb 1) Qd)) [none,some 3,some 0] (QF 0) Vn (Qc wIx (Qb 1) (Qc Zu (Qc QL (Qc Jc (Qb 2) (mC (.int 5))) (Qb 0)) (mC (.int 16)))))) Jf)
  (Qs (VM (Qy (Qc wEq (Qc Zu (Qb 0) (mC (.int 5))) (mC (.int 1)))) (JX (Qz Jg (ZO (Qa (Qb 1) Qd)) [none,some 2,some 0] (QF 0) Vn (Qc Zj (Qc wIx (Qb 1) (Qc Zu (Qc Jc (Qb 2) (mC (.int 5))) (mC (.int 26)))) (Qc QL (Qb 0) (mC (.int 1)))))) Jf)
  (Qs (QQ 5 (Qc Zu (Qc Jc (Qb 0) (mC (.int 5))) (mC (.int 8))))
  (Qs (QQ 6 (Qc Zu (Qc Jc (Qb 0) (mC (.int 40))) (Qc QL (Qb 5) (mC (.int 1)))))
  (Qs (QQ 7 (mMt "str" Gp (mC (.str "")) (Qa (Qz Jg (ZO (Qa (Qb 5) Qd)) [none,some 2,some 0] (QF 0) Vn (Qc wIx (Qb 1) (Qc Zu (Qc QL (Qc Jc (Qb 2) (mC (.int 360))) (Qc Zj (Qc Zj (mC (.int 5)) (Qb 0)) (Qb 0))) (mC (.int 26))))) Qd)))
  (Qs (QQ 8 (mFn Yp Qd))
  (Qs (Zi (ZO (Qa (Qb 1) Qd)) (QF 9)
  Zl)
  (JX (Qb 8)))))))))))))
theorem Kh(d:DefAt K mg "_law_names" QS ["number","many"])(b_range:mg "range"=none):Cal P w K mg base 1 "_law_names" ["number","many"] Za:=by
 refine Zp (k:=0) (more:=9) d V2 rfl fun _ _ _ _ _ _ _ hr=>?_;have nd_:=(V2).nd
 walk_at"~J)*6$"
 exact(Or.inr rfl)
 walk_at"~5$%)*6$"
 exact(Or.inr rfl)
 walk_at"~I#5#5#5#5#5#5#5#5#5#5#5#5#5&$%)*6$"
 exact(Or.inr rfl)
 walk_at"~-<I#5#5#5&$%)*6$09#5#5#5#5#5#5#5#5#5#5#5#5&$%)>@D13((.?"
 refine JH Zz ?_ (Xd (ks:=["number","near"]) (Nb:=["k","near","number"]) (cp:=[none,some 3,some 0]) (N:=["number","many","letters","near","kept","size","at","base","found","k","name"]) (xs:=(Qg QS)) rfl rfl (by decide +kernel) rfl (by decide +kernel) (by intro p hp;simp only[NF,Ew,or_false]at hp;rcases hp with rfl|rfl<;>rfl) rfl rfl rfl (by decide +kernel)) ?_ (fun _ _ _ _ _=>?_) (fun _ _ _ _ _=>?_)
 walk_at"~$H$"
 exact b_range
 walk_at"~#4&$"
 exact Qo (i:=0) (x:="k") (show List.Nodup (["k","near","number"]:List Str)from by decide +kernel) rfl (Or.inl rfl)
 walk_at"~/41-7=(3(O)>@D13((.?"
 refine JH Zz ?_ (Xd (ks:=["number","letters"]) (Nb:=["k","letters","number"]) (cp:=[none,some 2,some 0]) (N:=["number","many","letters","near","kept","size","at","base","found","k","name"]) (xs:=(Qg QS)) rfl rfl (by decide +kernel) rfl (by decide +kernel) (by intro p hp;simp only[NF,Ew,or_false]at hp;rcases hp with rfl|rfl<;>rfl) rfl rfl rfl (by decide +kernel)) ?_ (fun _ _ _ _ _=>?_) (fun _ _ _ _ _=>?_)
 walk_at"~$H$"
 exact b_range
 walk_at"~#4&$"
 exact Qo (i:=0) (x:="k") (show List.Nodup (["k","letters","number"]:List Str)from by decide +kernel) rfl (Or.inl rfl)
 walk_at"~G/417=((-3(O)*6$0173(($%)*6$0173(-L($%)*6$0"
 refine Km PySem.F.plainAttrs_str PySem.F.slot_str_join PySem.F.type_str_join QcP ?_ ?_
 walk_at"~5#"
 refine JH Zz ?_ (Xd (ks:=["number","letters"]) (Nb:=["k","letters","number"]) (cp:=[none,some 2,some 0]) (N:=["number","many","letters","near","kept","size","at","base","found","k","name"]) (xs:=(Qg QS)) rfl rfl (by decide +kernel) rfl (by decide +kernel) (by intro p hp;simp only[NF,Ew,or_false]at hp;rcases hp with rfl|rfl<;>rfl) rfl rfl rfl (by decide +kernel)) ?_ (fun _ _ _ _ _=>?_) (fun _ _ _ _ _=>?_)
 walk_at"~$H$"
 exact b_range
 walk_at"~#L&$"
 exact Qo (i:=0) (x:="k") (show List.Nodup (["k","letters","number"]:List Str)from by decide +kernel) rfl (Or.inl rfl)
 walk_at"~/41-7=(GG(33(&$%)*6$0Q&$%);E$H$"
 exact b_range
 walk_at"~#4&$"
 exact Qo (i:=9) (x:="k") nd_ rfl (Or.inl rfl)
 walk_at"~)*6$0--"
 refine Vi ?_ ?_ ?_
 walk_at"~C"
 exact Xx;refine Jl ?_
 walk_at"~A/=1-73(G("
 exact Qp 9
 walk_at"~("
 refine Vi ?_ ?_ ?_
 walk_at"~C"
 refine Jl ?_
 walk_at"~A"
 exact Xx
 walk_at"~$%)>"
 refine QU (Ks ?_) QI ?_ ?_
 walk_at"~D"
 exact Qp 10
 walk_at"~K.*6$0-"
 exact Qp 10
 walk_at"~5$%O.F+"
 exact Qp 8
 walk_at"~#"
 exact Qp 10
 walk_at"~&B.?"
 exact Qp 8
noncomputable def Qv:FM:=box frN Za
noncomputable abbrev ZV:Stmt:=top 8
theorem VL:FnScope ["script","k","cell","number"] ["script","k"] (Qg ZV):=⟨rfl,rfl,rfl,by decide +kernel,rfl,by decide +kernel,by decide +kernel⟩
noncomputable def ZJ:FM:=Zs 2
  (Qs (QQ 2 (mC (.int 0)))
  (Qs (VM (Qy (Qc wGt (mFn ZZ (Qa (Qb 0) Qd)) (mC (.int 0)))) (QQ 2 (Qc wIx (Qb 0) (Qc Zu (Qb 1) (mFn ZZ (Qa (Qb 0) Qd))))) Jf)
  (Qs (QQ 3 (Qc Zu (Qc Zj (Qc QL (Qc QL (Qb 2) (Qc Zj (Qc Zj (mC (.int 7919)) (Qb 1)) (Qb 1))) (mC (.int 1))) (mC (.int 1357913579135791357))) (mC (.int 2305843009213693951))))
  (JX (Qc Zu (Qc QL (Qc QL (Qc Zj (Qb 3) (Qb 3)) (Qc Zj (mC (.int 48271)) (Qb 3))) (Qc Zj (mC (.int 104729)) (Qb 1))) (mC (.int 2305843009213693951)))))))
theorem Kk(d:DefAt K mg "_law_mixed" ZV ["script","k"])(b_len:mg "len"=none):Cal P w K mg base 1 "_law_mixed" ["script","k"] ZJ:=by
 refine Zp (k:=0) (more:=2) d VL rfl fun _ _ _ _ _ _ _ hr=>?_;have nd_:=(VL).nd
 walk_at"~J)*6$0($%)>"
 refine QU Ku QI ?_ ?_
 walk_at"~,$P#3&22$$(.*6$0/314,$P#3&22$$$%O)*6$01G--=GG(44((($%.?1--G<<G(<G(4("
noncomputable def Qh:FM:=box frN ZJ
noncomputable abbrev Q4:Stmt:=top 13
theorem JN:FnScope ["parts","number","names","size","line"] ["parts","number"] (Qg Q4):=⟨rfl,rfl,rfl,by decide +kernel,rfl,by decide +kernel,by decide +kernel⟩
noncomputable abbrev Zn(a:FM):SM:=(VM (Qy (Qc wEq (Qc wIx (Qb 4) (mC (.int 0))) (mC (.str "do")))) (QQ 3 (Qc QL (Qc QL (Qb 3) (mC (.int 1))) (QB 2 a (Qa (Qb 0) (Qa (mMt "list" YN (Qb 2) (Qa (Qc wIx (Qb 4) (mC (.int 1))) Qd)) Qd))))) (QQ 3 (Qc QL (Qb 3) (mC (.int 1)))))
noncomputable def Jx(a:FM):FM:=Zs 3
  (Qs (QQ 2 (Qz Jg (QC (Qb 0)) [none] (QF 0) Vn (Qc wIx (Qb 0) (mC (.int 0)))))
  (Qs (QQ 3 (mC (.int 0)))
  (Qs (Zi (QC (Qc wIx (Qc wIx (Qb 0) (Qb 1)) (mC (.int 1)))) (QF 4)
  (Zn a))
  (JX (Qb 3)))))
theorem Ko{k:Nat}{rec_:FM}(hk:0<=k)(d:DefAt K mg "_law_sized" Q4 ["parts","number"])(c_rec:Cal P w K mg base k "_law_sized" ["parts","number"] rec_):Cal P w K mg base (k+1) "_law_sized" ["parts","number"] (Jx rec_):=by
 refine Zp (k:=k) (more:=3) d JN rfl fun _ _ _ _ _ _ _ hr=>?_;have nd_:=(JN).nd
 walk_at"~J)"
 refine Y0 nd_ rfl (Or.inl rfl) ?_ Zz ?_ (J5 (Nb:=["part"]) (cp:=[none]) rfl (by decide +kernel) (by decide +kernel) rfl rfl) ?_ (fun _ _ _ _ _=>?_) (fun _ _ _ _ _=>?_) ?_ ?_
 walk_at"~%$R3"
 exact Qo (i:=0) (x:="part") (show List.Nodup (["part"]:List Str)from by decide +kernel) rfl (Or.inl rfl)
 walk_at"~/3(B$)*6$0($%);E$R//34("
 exact Qo (i:=4) (x:="line") nd_ rfl (Or.inl rfl)
 walk_at"~.>@D/K(5.*6$0--<("
 refine Qu (k:=k) (ps:=["parts","number"]) ?_ ?_ ?_ ?_ ?_ ?_ ?_ ?_;exact c_rec;exact hr.mono (by lia)
 walk_at"~$#3#"
 refine Km Dh LW PySem.F.type_list_index (GU ?_) ?_ ?_
 walk_at"~D=#/K(&&$2$$$%.*6$0-<($%B.?<"
noncomputable def QK:Nat->FM
 |0=>Zs 3 fun _ _=>none
 |n+1=>box frN (Jx (QK n))
theorem Vw(d:DefAt K mg "_law_sized" Q4 ["parts","number"]):∀n,Cal P w K mg base (1+n) "_law_sized" ["parts","number"] (QK n)
 |0=>Zp (k:=0) (more:=3) d JN rfl fun _ _ _ _ _ _ _ _=>Qaf
 |n+1=>(Ko (k:=1+n) (by lia) d (Vw d n)).box frN
noncomputable def Zo:FM:=QK 6
theorem Kp(d:DefAt K mg "_law_sized" Q4 ["parts","number"]):Cal P w K mg base 7 "_law_sized" ["parts","number"] Zo:=Vw d 6
noncomputable abbrev ZA:Stmt:=top 11
theorem Vr:FnScope ["waiting","lines","word"] ["waiting"] (Qg ZA):=⟨rfl,rfl,rfl,by decide +kernel,rfl,by decide +kernel,by decide +kernel⟩
noncomputable abbrev JU:SM:=(Qs (VM (Qy (Qc wEq (Qb 2) (mC (.str "either")))) (ZS (mMt "list" Qx (Qb 1) (Qa (mFn Zg (Qa (mC (.str "or")) Qd)) Qd))) Jf)
  (ZS (mMt "list" Qx (Qb 1) (Qa (mFn Zg (Qa (mC (.str "end")) Qd)) Qd))))
noncomputable def QY:FM:=Zs 2
  (Qs (QQ 1 (mFn Yp Qd))
  (Qs (Zi (Qfu (Qa (Qb 0) Qd)) (QF 2)
  JU)
  (JX (Qb 1))))
theorem Kc(d:DefAt K mg "_law_closed" ZA ["waiting"])(b_reversed:mg "reversed"=none):Cal P w K mg base 1 "_law_closed" ["waiting"] QY:=by
 refine Zp (k:=0) (more:=2) d Vr rfl fun _ _ _ _ _ _ _ hr=>?_;have nd_:=(Vr).nd
 walk_at"~J)*6$0Q&$%);E$"
 refine QeV ?_ ?_ ?_ ?_
 walk_at"~$"
 exact b_reversed
 walk_at"~#3&$"
 exact Qo (i:=2) (x:="word") nd_ rfl (Or.inl rfl)
 walk_at"~)>@D=5.F+4#9#5&&O.F+4#9#5&&B.?4"
noncomputable def ZG:FM:=box frN QY
noncomputable abbrev Jk:Stmt:=top 10
theorem Xj:FnScope ["number","boxes","words","x","y","z","way"] ["number","boxes","words"] (Qg Jk):=⟨rfl,rfl,rfl,by decide +kernel,rfl,by decide +kernel,by decide +kernel⟩
noncomputable def Qk:FM:=Zs 4
  (Qs (QQ 3 (Qc wIx (Qb 1) (Qc Zu (Qc Jc (Qb 0) (mC (.int 16))) (mFn ZZ (Qa (Qb 1) Qd)))))
  (Qs (QQ 4 (Qc wIx (Qb 1) (Qc Zu (Qc Jc (Qb 0) (mC (.int 160))) (mFn ZZ (Qa (Qb 1) Qd)))))
  (Qs (QQ 5 (Qc wIx (Qb 1) (Qc Zu (Qc Jc (Qb 0) (mC (.int 1600))) (mFn ZZ (Qa (Qb 1) Qd)))))
  (Qs (QQ 6 (Qc Zu (Qb 0) (mC (.int 16))))
  (Qs (VM (Qy (Qc wGt (Qb 6) (mC (.int 9)))) (QQ 6 (Qc Zu (Qc Jc (Qb 0) (mC (.int 64))) (mC (.int 10)))) Jf)
  (Qs (VM (Qy (Qc wLt (Qb 6) (mC (.int 3)))) (JX (mFn Zg (Qa (mC (.str "pair")) (Qa (Qb 3) (Qa (Qc wIx (Qb 2) (Qc Zu (Qc Jc (Qb 0) (mC (.int 16000))) (mFn ZZ (Qa (Qb 2) Qd)))) (Qa (Qb 4) (Qa (Qb 5) Qd))))))) Jf)
  (Qs (VM (Qy (Qc wLt (Qb 6) (mC (.int 5)))) (JX (mFn Zg (Qa (mC (.str "first")) (Qa (Qb 3) (Qa (Qb 4) Qd))))) Jf)
  (Qs (VM (Qy (Qc wEq (Qb 6) (mC (.int 5)))) (JX (mFn Zg (Qa (mC (.str "second")) (Qa (Qb 3) (Qa (Qb 4) Qd))))) Jf)
  (Qs (VM (Qy (Qc wEq (Qb 6) (mC (.int 6)))) (JX (mFn Zg (Qa (mC (.str "same")) (Qa (Qb 3) (Qa (Qb 4) Qd))))) Jf)
  (Qs (VM (Qy (Qc wEq (Qb 6) (mC (.int 7)))) (JX (mFn Zg (Qa (mC (.str "none")) (Qa (Qb 3) Qd)))) Jf)
  (JX (mFn Zg (Qa (mC (.str "tell")) (Qa (Qb 4) Qd))))))))))))))
theorem KK(d:DefAt K mg "_law_line" Jk ["number","boxes","words"])(b_len:mg "len"=none):Cal P w K mg base 1 "_law_line" ["number","boxes","words"] Qk:=by
 refine Zp (k:=0) (more:=4) d Xj rfl fun _ _ _ _ _ _ _ hr=>?_;have nd_:=(Xj).nd
 walk_at"~J)*6$0/4173(,$P#4&22$$$%)*6$0/4173(,$P#4&22$$$%)*6$0/4173(,$P#4&22$$$%)*6$013($%)>"
 refine QU Ku QI ?_ ?_
 walk_at"~A(.*6$0173(($%O)>"
 refine QU Kt QI ?_ ?_
 walk_at"~A(.?9#5#<#/=173(,$P#=&22$$#K#L&O)>"
 refine QU Kt QI ?_ ?_
 walk_at"~A(.?9#5#<#K&O)>@DA(.?9#5#<#K&O)>@DA(.?9#5#<#K&O)>@DA(.?9#5#<&O.?9#5#K&"
noncomputable def Ji:FM:=box frN Qk
noncomputable abbrev ZX:Stmt:=top 12
theorem VI:FnScope ["numbers","boxes","words","others","deep","left","lines","waiting","number","way"] ["numbers","boxes","words","others","deep","left"] (Qg ZX):=⟨rfl,rfl,rfl,by decide +kernel,rfl,by decide +kernel,by decide +kernel⟩
noncomputable abbrev Je:SM:=(Qs (QQ 9 (Qc Zu (Qb 8) (mC (.int 16))))
  (VM (Xo (Qy (Qc (wIn false) (Qb 9) (mFn Zg (Qa (mC (.int 10)) (Qa (mC (.int 12)) Qd))))) (Qy (Qc wLt (mFn ZZ (Qa (Qb 7) Qd)) (Qb 4)))) (Qs (ZS (mMt "list" Qx (Qb 7) (Qa (Qc wIx (mFn JE (Qa (mC (.str "either")) (Qa (mC (.str "again")) Qd))) (mFn QbX (Qa (Qc wEq (Qb 9) (mC (.int 12))) Qd))) Qd)))
  (ZS (mMt "list" Qx (Qb 6) (Qa (mFn Zg (Qa (Qc wIx (Qb 7) (mUn QcQ (mC (.int 1)))) Qd)) Qd)))) (VM (Xo (Qy (Qc (wIn false) (Qb 9) (mFn Zg (Qa (mC (.int 11)) (Qa (mC (.int 13)) Qd))))) (Xo (Qy (Qc wNe (Qb 7) (mFn JE Qd))) (Qy (Qc wEq (Qc wIx (Qb 7) (mUn QcQ (mC (.int 1)))) (mC (.str "either")))))) (Qs (Qhf (Qb 7) (mUn QcQ (mC (.int 1))) (mC (.str "or")))
  (ZS (mMt "list" Qx (Qb 6) (Qa (mFn Zg (Qa (mC (.str "or")) Qd)) Qd)))) (VM (Xo (Qy (Qc (wIn false) (Qb 9) (mFn Zg (Qa (mC (.int 11)) (Qa (mC (.int 13)) Qd))))) (Qy (Qc wNe (Qb 7) (mFn JE Qd)))) (Qs (ZS (mMt "list" QiB (Qb 7) Qd))
  (ZS (mMt "list" Qx (Qb 6) (Qa (mFn Zg (Qa (mC (.str "end")) Qd)) Qd)))) (VM (Xo (Qy (Qc wGt (Qb 9) (mC (.int 13)))) (Xo (Qy (Qc wNe (Qb 3) (mFn JE Qd))) (Qy (Qc wGt (Qc wIx (Qb 5) (mC (.int 0))) (mC (.int 0)))))) (Qs (Qhf (Qb 5) (mC (.int 0)) (Qc QfC (Qc wIx (Qb 5) (mC (.int 0))) (mC (.int 1))))
  (ZS (mMt "list" Qx (Qb 6) (Qa (mFn Zg (Qa (mC (.str "do")) (Qa (Qc wIx (Qb 3) (Qc Zu (Qc Jc (Qb 8) (mC (.int 16))) (mFn ZZ (Qa (Qb 3) Qd)))) Qd))) Qd)))) (ZS (mMt "list" Qx (Qb 6) (Qa (QB 3 Ji (Qa (Qb 8) (Qa (Qb 1) (Qa (Qb 2) Qd)))) Qd))))))))
noncomputable def Jq:FM:=Zs 4
  (Qs (QQ 6 (mFn Yp Qd))
  (Qs (QQ 7 (mFn Yp Qd))
  (Qs (Zi (QC (Qb 0)) (QF 8)
  Je)
  (JX (mFn Z6 (Qa (Qc QL (Qb 6) (QB 1 ZG (Qa (Qb 7) Qd))) Qd))))))
theorem Kl(d:DefAt K mg "_law_lines" ZX ["numbers","boxes","words","others","deep","left"])(b_int:mg "int"=none)(b_len:mg "len"=none)(b_tuple:mg "tuple"=none)(c__law_closed:Cal P w K mg base 1 "_law_closed" ["waiting"] ZG)(c__law_line:Cal P w K mg base 1 "_law_line" ["number","boxes","words"] Ji):Cal P w K mg base 2 "_law_lines" ["numbers","boxes","words","others","deep","left"] Jq:=by
 refine Zp (k:=1) (more:=4) d VI rfl fun _ _ _ _ _ _ _ hr=>?_;have nd_:=(VI).nd
 walk_at"~J)*6$0Q&$%)*6$0Q&$%);E$R3"
 exact Qo (i:=8) (x:="number") nd_ rfl (Or.inl rfl)
 walk_at"~)*6$01"
 exact Qp 8
 walk_at"~($%.>"
 refine PMW.pt ?_;refine J4 ?_ ?_;refine QU (Ks ?_) QI ?_ ?_
 walk_at"~D"
 exact Qp 9
 walk_at"~9#(#(&"
 refine VV ?_;refine QU Kt QI ?_ ?_
 walk_at"~,$P#C&22$$K)F+C#/I#5#5&"
 refine Jb XH Q6 ?_ ?_ ID ?_ ?_ ?_ ?_ ?_
 walk_at"~$"
 exact b_int
 walk_at"~#"
 refine Uj (GL ?_) QI ?_ ?_
 walk_at"~D"
 exact Qp 9
 walk_at"~(&22$$&.F+A#9#/C"
 refine Uc ?_
 walk_at"~(&&.>"
 refine PMW.pt ?_;refine J4 ?_ ?_;refine QU (Ks ?_) QI ?_ ?_
 walk_at"~D"
 exact Qp 9
 walk_at"~9#(#(&"
 refine J4 ?_ ?_
 walk_at"~NDCI&"
 refine VV ?_
 walk_at"~@D/C"
 refine Uc ?_
 walk_at"~(5)"
 refine Qbq ?_ ?_ ?_ ?_ ?_ ?_
 walk_at"~C"
 refine Uc ?_
 walk_at"~(5B$$.F+A#9#5&&.>"
 refine PMW.pt ?_;refine J4 ?_ ?_;refine QU (Ks ?_) QI ?_ ?_
 walk_at"~D"
 exact Qp 9
 walk_at"~9#(#(&"
 refine VV ?_
 walk_at"~NDCI&)F"
 refine Qg2 Dh Yah PySem.F.type_list_pop Qef ?_
 walk_at"~C.F+A#9#5&&.>"
 refine PMW.pt ?_;refine J4 ?_ ?_;refine QU Ku QI ?_ ?_;exact Qp 9
 walk_at"~("
 refine J4 ?_ ?_
 walk_at"~ND<I&"
 refine VV ?_;refine QU Ku QI ?_ ?_
 walk_at"~/L(()"
 refine Qbq ?_ ?_ ?_ ?_ ?_ ?_
 walk_at"~L("
 refine WG Qav QI ?_ ?_
 walk_at"~/L((B$$.F+A#9#5#/<17"
 exact Qp 8
 walk_at"~(,$P#<&22$$&&.F+A#"
 refine Qu (k:=1) (ps:=["number","boxes","words"]) ?_ ?_ ?_ ?_ ?_ ?_ ?_ ?_;exact c__law_line
 walk_at"~8$#"
 exact Qp 8
 walk_at"~#4#=&$2$$&B.?:$"
 exact b_tuple
 walk_at"~#-A"
 refine Qu (k:=1) (ps:=["waiting"]) ?_ ?_ ?_ ?_ ?_ ?_ ?_ ?_;exact c__law_closed
 walk_at"~8$#C&$2$$&22$$"
noncomputable def JM:FM:=box frN Jq
noncomputable abbrev QN:Stmt:=top 14
theorem JW:FnScope ["script","top","heads","many","boxes","words","names","count","left","parts","k","numbers","often","more"] ["script","top"] (Qg QN):=⟨rfl,rfl,rfl,by decide +kernel,rfl,by decide +kernel,by decide +kernel⟩
noncomputable abbrev QA:SM:=(Qs (QQ 11 (Qz Jg (ZO (Qa (Qb 7) Qd)) [none,some 0,some 10,some 7,some 3] (QF 0) (Qy (Qc wEq (Qc Jc (Qc Zj (Qb 0) (Qb 4)) (Qb 3)) (Qb 2))) (QB 2 Qh (Qa (Qb 1) (Qa (Qc QL (mC (.int 4)) (Qb 0)) Qd)))))
  (ZS (mMt "list" Qx (Qb 9) (Qa (mFn Zg (Qa (Qc wIx (Qb 6) (Qb 10)) (Qa (QB 6 JM (Qa (Qb 11) (Qa (Qb 4) (Qa (Qb 5) (Qa (mSl (Qb 6) (Xq (Qc QL (Qb 10) (mC (.int 1)))) YZ) (Qa (Qc QL (mC (.int 1)) (mFn QbX (Qa (Qc wLt (Qb 3) (mC (.int 4))) Qd))) (Qa (Qb 8) Qd))))))) Qd))) Qd))))
noncomputable def Ze:FM:=Zs 12
  (Qs (QQ 2 (Qz Jg (ZO (Qa (mC (.int 4)) Qd)) [none,some 0] (QF 0) Vn (QB 2 Qh (Qa (Qb 1) (Qa (Qb 0) Qd)))))
  (Qs (QQ 3 (Qc wIx (mFn JE (Qa (mC (.int 1)) (Qa (mC (.int 1)) (Qa (mC (.int 2)) (Qa (mC (.int 2)) (Qa (mC (.int 3)) (Qa (mC (.int 3)) (Qa (mC (.int 2)) (Qa (mC (.int 5)) Qd))))))))) (Qc Zu (Qc wIx (Qb 2) (mC (.int 0))) (mC (.int 8)))))
  (Qs (QQ 4 (QB 2 Qv (Qa (Qc Jc (Qc wIx (Qb 2) (mC (.int 1))) (mC (.int 8))) (Qa (Qc wIx (mFn JE (Qa (mC (.int 1)) (Qa (mC (.int 2)) (Qa (mC (.int 2)) (Qa (mC (.int 3)) (Qa (mC (.int 3)) (Qa (mC (.int 2)) (Qa (mC (.int 3)) (Qa (mC (.int 5)) Qd))))))))) (Qc Zu (Qc wIx (Qb 2) (mC (.int 1))) (mC (.int 8)))) Qd))))
  (Qs (QQ 5 (QB 2 Qv (Qa (Qc Jc (Qc wIx (Qb 2) (mC (.int 2))) (mC (.int 8))) (Qa (Qc wIx (mFn JE (Qa (mC (.int 1)) (Qa (mC (.int 2)) (Qa (mC (.int 2)) (Qa (mC (.int 3)) (Qa (mC (.int 1)) (Qa (mC (.int 2)) (Qa (mC (.int 3)) (Qa (mC (.int 5)) Qd))))))))) (Qc Zu (Qc wIx (Qb 2) (mC (.int 2))) (mC (.int 8)))) Qd))))
  (Qs (QQ 6 (QB 2 Qv (Qa (Qc wIx (Qb 2) (mC (.int 3))) (Qa (Qb 3) Qd))))
  (Qs (QQ 7 (mFn Qga (Qa (mFn Qge (Qa (Qc QfC (mFn ZZ (Qa (Qb 0) Qd)) (mC (.int 4))) (Qa (Qb 1) Qd))) (Qa (Qc QL (mC (.int 3)) (Qc Zu (Qc Jc (Qc wIx (Qb 2) (mC (.int 0))) (mC (.int 8))) (mC (.int 6)))) Qd))))
  (Qs (QQ 8 (mFn Yp (Qa (Qc wIx (mFn JE (Qa (mC (.int 3)) (Qa (mC (.int 1)) Qd))) (mFn QbX (Qa (Qc wGt (Qb 7) (mC (.int 12))) Qd))) Qd)))
  (Qs (QQ 9 (mFn Yp Qd))
  (Qs (Zi (ZO (Qa (Qb 3) Qd)) (QF 10)
  QA)
  (Qs (QQ 12 (Qc WF (mFn Zg (Qa (mFn Zg (Qa (mC (.str "do")) (Qa (Qc wIx (Qb 6) (mUn QcQ (mC (.int 1)))) Qd))) Qd)) (Qc QL (mC (.int 2)) (Qc Zu (Qc Jc (Qc wIx (Qb 2) (mC (.int 3))) (mC (.int 7))) (mC (.int 4))))))
  (Qs (QQ 13 (Qc QL (mFn Zg (Qa (mFn Zg (Qa (Qc wIx (Qb 6) (mC (.int 0))) (Qa (Qc QL (Qb 12) (Qc wIx (Qc wIx (Qb 9) (mC (.int 0))) (mC (.int 1)))) Qd))) Qd)) (mFn Z6 (Qa (mSl (Qb 9) (Xq (mC (.int 1))) YZ) Qd))))
  (Qs (VM (Xo (Qy (Qc wGt (Qb 3) (mC (.int 1)))) (Xo (Qy (Qc wEq (Qc Zu (Qc Jc (Qc wIx (Qb 2) (mC (.int 2))) (mC (.int 64))) (mC (.int 4))) (mC (.int 0)))) (Qy (Qc wLt (QB 2 Zo (Qa (Qb 13) (Qa (mC (.int 0)) Qd))) (mC (.int 20)))))) (JX (Qb 13)) Jf)
  (JX (mFn Z6 (Qa (Qb 9) Qd)))))))))))))))
theorem Xl(d:DefAt K mg "_law_program" QN ["script","top"])(b_int:mg "int"=none)(b_len:mg "len"=none)(b_max:mg "max"=none)(b_min:mg "min"=none)(b_range:mg "range"=none)(b_tuple:mg "tuple"=none)(c__law_lines:Cal P w K mg base 2 "_law_lines" ["numbers","boxes","words","others","deep","left"] JM)(c__law_mixed:Cal P w K mg base 1 "_law_mixed" ["script","k"] Qh)(c__law_names:Cal P w K mg base 1 "_law_names" ["number","many"] Qv)(c__law_sized:Cal P w K mg base 7 "_law_sized" ["parts","number"] Zo):Cal P w K mg base 8 "_law_program" ["script","top"] Ze:=by
 refine Zp (k:=7) (more:=12) d JW rfl fun _ _ _ _ _ _ _ hr=>?_;have nd_:=(JW).nd
 walk_at"~J)"
 refine Y0 nd_ rfl (Or.inl rfl) ?_ Zz ?_ (Xd (ks:=["script"]) (Nb:=["k","script"]) (cp:=[none,some 0]) (N:=["script","top","heads","many","boxes","words","names","count","left","parts","k","numbers","often","more"]) (xs:=(Qg QN)) rfl rfl (by decide +kernel) rfl (by decide +kernel) (by intro p hp;simp only[NF,Ew,or_false]at hp;rcases hp with rfl<;>rfl) rfl rfl rfl (by decide +kernel)) ?_ (fun _ _ _ _ _=>?_) (fun _ _ _ _ _=>?_) ?_ ?_
 walk_at"~%$H$"
 exact b_range
 walk_at"~#(&$"
 exact Qo (i:=0) (x:="k") (show List.Nodup (["k","script"]:List Str)from by decide +kernel) rfl (Or.inl rfl)
 walk_at"~M"
 exact c__law_mixed
 walk_at"~8$#4#3&$2$$B$)*6$"
 exact(Or.inr rfl)
 walk_at"~/I#(#(#(#(#(#(#(#(&1/=(($%)*6$0"
 refine Qu (k:=1) (ps:=["number","many"]) ?_ ?_ ?_ ?_ ?_ ?_ ?_ ?_;exact c__law_names
 walk_at"~8$#7/=((#/I#(#(#(#(#(#(#(#(&1/=((&$2$$$%)*6$0"
 refine Qu (k:=1) (ps:=["number","many"]) ?_ ?_ ?_ ?_ ?_ ?_ ?_ ?_;exact c__law_names
 walk_at"~8$#7/=((#/I#(#(#(#(#(#(#(#(&1/=((&$2$$$%)*6$0"
 refine Qu (k:=1) (ps:=["number","many"]) ?_ ?_ ?_ ?_ ?_ ?_ ?_ ?_;exact c__law_names
 walk_at"~8$#/=(#<&$2$$$%)*6$"
 exact(Or.inr rfl);refine J9 (Qbx ?_) Q6 ?_ ?_ PyProof.Rows.boot_max ?_ ?_ ?_ ?_ ?_
 walk_at"~$$"
 exact b_max
 walk_at"~#"
 refine J9 (QaS ?_) Q6 ?_ ?_ PyProof.Rows.boot_min ?_ ?_ ?_ ?_ ?_
 walk_at"~$$"
 exact b_min
 walk_at"~#"
 refine WG Qav QI ?_ ?_
 walk_at"~,$P#3&22$$(#4&22$$#-(17/=(((&22$$$%)*6$0Q#/I#(#(&"
 refine Jb XH Q6 ?_ ?_ ID ?_ ?_ ?_ ?_ ?_
 walk_at"~$"
 exact b_int
 walk_at"~#"
 refine Uj Ku QI ?_ ?_
 walk_at"~C(&22$$&$%)*6$0Q&$%);E$H$"
 exact b_range
 walk_at"~#<&$"
 exact Qo (i:=10) (x:="k") nd_ rfl (Or.inr rfl)
 walk_at"~)"
 refine G1 nd_ rfl (Or.inl rfl) ?_ Zz ?_ (Xd (ks:=["script","many","k","count"]) (Nb:=["j","script","k","count","many"]) (cp:=[none,some 0,some 10,some 7,some 3]) (N:=["script","top","heads","many","boxes","words","names","count","left","parts","k","numbers","often","more"]) (xs:=(Qg QN)) rfl rfl (by decide +kernel) rfl (by decide +kernel) (by intro p hp;simp only[NF,Ew,or_false]at hp;rcases hp with rfl|rfl|rfl|rfl<;>rfl) rfl rfl rfl (by decide +kernel)) ?_ (fun _ _ _ _ _=>?_) (fun _ _ _ _ _=>?_) (fun _ _ _ _ _=>?_) ?_ ?_
 walk_at"~%$H$"
 exact b_range
 walk_at"~#C&$"
 exact Qo (i:=0) (x:="j") (show List.Nodup (["j","script","k","count","many"]:List Str)from by decide +kernel) rfl (Or.inl rfl)
 walk_at"~@D7G3K<=M"
 exact c__law_mixed
 walk_at"~8$#4#-(3&$2$$B$.F+"
 exact Qp 9
 walk_at"~#9#/A"
 exact Qp 10
 walk_at"~#"
 refine Qu (k:=2) (ps:=["numbers","boxes","words","others","deep","left"]) ?_ ?_ ?_ ?_ ?_ ?_ ?_ ?_;exact c__law_lines
 walk_at"~8$#"
 exact Qp 11
 walk_at"~#K#L#"
 refine Vi ?_ ?_ ?_
 walk_at"~A"
 refine Jl ?_
 walk_at"~-"
 exact Qp 10
 walk_at"~("
 exact Xx
 walk_at"~#-("
 refine Jb XH Q6 ?_ ?_ ID ?_ ?_ ?_ ?_ ?_
 walk_at"~$"
 exact b_int
 walk_at"~#"
 refine Uj Kt QI ?_ ?_
 walk_at"~<(&22$$#"
 exact Qp 8
 walk_at"~&$2$$&&B)*6$0"
 refine WG Qcj QI ?_ ?_
 walk_at"~9#9#5#/A"
 refine Uc ?_
 walk_at"~(&&-(17/=((($%)*6$0-9#9#/A(#-"
 exact Qp 12
 walk_at"~//"
 exact Qp 9
 walk_at"~((&&:$"
 exact b_tuple
 walk_at"~#"
 refine Vi ?_ ?_ ?_;exact Qp 9;refine Jl ?_
 walk_at"~("
 exact Xx
 walk_at"~&22$$$%)>"
 refine PMW.pt ?_;refine J4 ?_ ?_;refine QU Ku QI ?_ ?_
 walk_at"~<("
 refine J4 ?_ ?_
 walk_at"~@D17/=(((("
 refine VV ?_;refine QU Kt QI ?_ ?_;refine Qu (k:=7) (ps:=["parts","number"]) ?_ ?_ ?_ ?_ ?_ ?_ ?_ ?_;exact c__law_sized
 walk_at"~8$#"
 exact Qp 13
 walk_at"~#(&$2$$(.?"
 exact Qp 13
 walk_at"~O.?:$"
 exact b_tuple
 walk_at"~#"
 exact Qp 9
 walk_at"~&22$$"
noncomputable def Z9:FM:=box frN Ze
noncomputable abbrev ZY:Stmt:=top 15
theorem VT:FnScope ["program","found","name","lines"] ["program"] (Qg ZY):=⟨rfl,rfl,rfl,by decide +kernel,rfl,by decide +kernel,by decide +kernel⟩
noncomputable abbrev Jd:SM:=(QQ 1 (Qc QL (Qb 1) (Qz Jg (QC (Qb 3)) [none] (QF 0) (Qy (Qc wEq (Qc wIx (Qb 0) (mC (.int 0))) (mC (.str "pair")))) (Qc wIx (Qb 0) (mC (.int 2))))))
noncomputable def Jt:FM:=Zs 3
  (Qs (QQ 1 (mFn JE Qd))
  (Qs (Zi (QC (Qb 0)) (Vk [2,3])
  Jd)
  (JX (mFn Z5 (Qa (Qb 1) Qd)))))
theorem Kj(d:DefAt K mg "_law_words" ZY ["program"])(b_set:mg "set"=none)(b_sorted:mg "sorted"=none):Cal P w K mg base 1 "_law_words" ["program"] Jt:=by
 refine Zp (k:=0) (more:=3) d VT rfl fun _ _ _ _ _ _ _ hr=>?_;have nd_:=(VT).nd
 walk_at"~J)*6$0I&$%);E$R3"
 refine Vg (is:=[2,3]) ?_ ?_ ?_ ?_
 walk_at"~$"
 refine QT (i:=2) (x:="name") nd_ rfl (Or.inl rfl) ?_ ?_;refine QT (i:=3) (x:="lines") nd_ rfl (Or.inl rfl) ?_ ?_;exact Vc
 walk_at"~%%$$.*6$0-4"
 refine KS Zz ?_ (J5 (Nb:=["line"]) (cp:=[none]) rfl (by decide +kernel) (by decide +kernel) rfl rfl) ?_ (fun _ _ _ _ _=>?_) (fun _ _ _ _ _=>?_) (fun _ _ _ _ _=>?_)
 walk_at"~$R<"
 exact Qo (i:=0) (x:="line") (show List.Nodup (["line"]:List Str)from by decide +kernel) rfl (Or.inl rfl)
 walk_at"~@D/3(5/3($%B.?"
 refine Xf ?_ ?_ ?_ ?_ ?_ ?_ ?_
 walk_at"~$$"
 exact b_sorted
 walk_at"~$"
 exact b_set
 walk_at"~4$"
noncomputable def JG:FM:=box frN Jt
noncomputable abbrev Q8:Stmt:=top 16
theorem Vs:FnScope ["program","found","number"] ["program"] (Qg Q8):=⟨rfl,rfl,rfl,by decide +kernel,rfl,by decide +kernel,by decide +kernel⟩
noncomputable abbrev ZP:SM:=(QQ 1 (Qc QL (Qb 1) (Qz Jg (ZO (Qa (Qc QL (mFn ZZ (Qa (Qc wIx (Qc wIx (Qb 0) (Qb 2)) (mC (.int 1))) Qd)) (mC (.int 1))) Qd)) [none,some 2] (QF 0) Vn (mFn Zg (Qa (Qb 1) (Qa (Qb 0) Qd))))))
noncomputable def Z4:FM:=Zs 2
  (Qs (QQ 1 (mFn JE Qd))
  (Qs (Zi (ZO (Qa (mFn ZZ (Qa (Qb 0) Qd)) Qd)) (QF 2)
  ZP)
  (JX (Qb 1))))
theorem XM(d:DefAt K mg "_law_places" Q8 ["program"])(b_len:mg "len"=none)(b_range:mg "range"=none):Cal P w K mg base 1 "_law_places" ["program"] Z4:=by
 refine Zp (k:=0) (more:=2) d Vs rfl fun _ _ _ _ _ _ _ hr=>?_;have nd_:=(Vs).nd
 walk_at"~J)*6$0I&$%);E$H$"
 exact b_range
 walk_at"~#,$P#3&22$$&$"
 exact Qo (i:=2) (x:="number") nd_ rfl (Or.inr rfl)
 walk_at"~.*6$0-4"
 refine JH Zz ?_ (Xd (ks:=["number"]) (Nb:=["gap","number"]) (cp:=[none,some 2]) (N:=["program","found","number"]) (xs:=(Qg Q8)) rfl rfl (by decide +kernel) rfl (by decide +kernel) (by intro p hp;simp only[NF,Ew,or_false]at hp;rcases hp with rfl<;>rfl) rfl rfl rfl (by decide +kernel)) ?_ (fun _ _ _ _ _=>?_) (fun _ _ _ _ _=>?_)
 walk_at"~$H$"
 exact b_range
 walk_at"~#-,$P#//3=(&22$$(&$"
 exact Qo (i:=0) (x:="gap") (show List.Nodup (["gap","number"]:List Str)from by decide +kernel) rfl (Or.inl rfl)
 walk_at"~9#4#3&$%B.?4"
noncomputable def Jv:FM:=box frN Z4
noncomputable abbrev ZL:Stmt:=top 17
theorem Vt:FnScope ["script","at","many","words","places","found","k","number"] ["script","at","many","words","places"] (Qg ZL):=⟨rfl,rfl,rfl,by decide +kernel,rfl,by decide +kernel,by decide +kernel⟩
noncomputable abbrev JR:SM:=(Qs (QQ 7 (QB 2 Qh (Qa (Qb 0) (Qa (Qc QL (Qb 1) (Qb 6)) Qd))))
  (ZS (mMt "list" Qx (Qb 5) (Qa (mFn Zg (Qa (Qc wIx (Qb 3) (Qc Zu (Qb 7) (mFn ZZ (Qa (Qb 3) Qd)))) (Qa (Qc wIx (Qb 4) (Qc Zu (Qc Jc (Qb 7) (mC (.int 7))) (mFn ZZ (Qa (Qb 4) Qd)))) Qd))) Qd))))
noncomputable def Zq:FM:=Zs 3
  (Qs (VM (Qy (Qc wEq (Qb 3) (mFn JE Qd))) (JX (mFn JE Qd)) Jf)
  (Qs (QQ 5 (mFn Yp Qd))
  (Qs (Zi (ZO (Qa (Qb 2) Qd)) (QF 6)
  JR)
  (JX (mFn J6 (Qa (Qb 5) Qd))))))
theorem X3(d:DefAt K mg "_law_manner" ZL ["script","at","many","words","places"])(b_len:mg "len"=none)(b_range:mg "range"=none)(b_set:mg "set"=none)(b_sorted:mg "sorted"=none)(c__law_mixed:Cal P w K mg base 1 "_law_mixed" ["script","k"] Qh):Cal P w K mg base 2 "_law_manner" ["script","at","many","words","places"] Zq:=by
 refine Zp (k:=1) (more:=3) d Vt rfl fun _ _ _ _ _ _ _ hr=>?_;have nd_:=(Vt).nd
 walk_at"~J)>@D<I&.?I&O)*6$0Q&$%);E$H$"
 exact b_range
 walk_at"~#=&$"
 exact Qo (i:=6) (x:="k") nd_ rfl (Or.inl rfl)
 walk_at"~)*6$0M"
 exact c__law_mixed
 walk_at"~8$#3#-4A&$2$$$%.F+L#9#/<1C,$P#<&22$$#/K17C(,$P#K&22$$&&B.?"
 refine VZ ?_ ?_ ?_ ?_ ?_ ?_ ?_ ?_
 walk_at"~D$$"
 exact b_sorted
 walk_at"~$"
 exact b_set
 walk_at"~L$"
noncomputable def Jr:FM:=box frN Zq
noncomputable abbrev Q3:Stmt:=top 5
theorem Jz:FnScope ["manner","words","word","place"] ["manner"] (Qg Q3):=⟨rfl,rfl,rfl,by decide +kernel,rfl,by decide +kernel,by decide +kernel⟩
noncomputable abbrev Zf:SM:=(ZS (mMt "list" Qx (mMt "dict" Qd9 (Qb 1) (Qa (Qb 3) (Qa (mFn Yp Qd) Qd))) (Qa (Qb 2) Qd)))
noncomputable def QH:FM:=Zs 3
  (Qs (QQ 1 KT)
  (Qs (Zi (QC (Qb 0)) (Vk [2,3])
  Zf)
  (JX (Qb 1))))
theorem VU(d:DefAt K mg "words_by_place" Q3 ["manner"]):Cal P w K mg base 1 "words_by_place" ["manner"] QH:=by
 refine Zp (k:=0) (more:=3) d Jz rfl fun _ _ _ _ _ _ _ hr=>?_;have nd_:=(Jz).nd
 walk_at"~J)*6$0"
 exact Yo
 walk_at"~$%);E$R3"
 refine Vg (is:=[2,3]) ?_ ?_ ?_ ?_
 walk_at"~$"
 refine QT (i:=2) (x:="word") nd_ rfl (Or.inl rfl) ?_ ?_;refine QT (i:=3) (x:="place") nd_ rfl (Or.inl rfl) ?_ ?_;exact Vc
 walk_at"~%%$$.F+"
 refine Km Fh IW PySem.F.type_dict_setdefault (Qeb ?_) ?_ ?_
 walk_at"~D4#<#Q&&#=&B.?4"
noncomputable def Zx:FM:=box frR QH
noncomputable abbrev VJ:Stmt:=top 4
theorem YA:FnScope ["program","manner","words","parts","number","part","lines","gap"] ["program","manner"] (Qg VJ):=⟨rfl,rfl,rfl,by decide +kernel,rfl,by decide +kernel,by decide +kernel⟩
noncomputable abbrev Zy:SM:=(Qs (ZS (mMt "list" X0 (Qb 6) (Qa (Qz Jg (QC (mMt "dict" VQ (Qb 2) (Qa (mFn Zg (Qa (Qb 4) (Qa (Qb 7) Qd))) (Qa (mFn JE Qd) Qd)))) [none] (QF 0) Vn (mFn Zg (Qa (mC (.str "back")) (Qa (Qb 0) Qd)))) Qd)))
  (ZS (mMt "list" Jn (Qb 6) (Qa (mSl (Qc wIx (Qb 5) (mC (.int 1))) (Xq (Qb 7)) (Xq (Qc QL (Qb 7) (mC (.int 1))))) Qd))))
noncomputable abbrev JI:SM:=(Qs (QQ 6 (mFn Yp Qd))
  (Qs (Zi (ZO (Qa (Qc QL (mFn ZZ (Qa (Qc wIx (Qb 5) (mC (.int 1))) Qd)) (mC (.int 1))) Qd)) (QF 7)
  Zy)
  (ZS (mMt "list" Qx (Qb 3) (Qa (mFn Zg (Qa (Qc wIx (Qb 5) (mC (.int 0))) (Qa (mFn Z6 (Qa (Qb 6) Qd)) Qd))) Qd)))))
noncomputable def V8:FM:=Zs 6
  (Qs (QQ 2 (QB 1 Zx (Qa (Qb 1) Qd)))
  (Qs (QQ 3 (mFn Yp Qd))
  (Qs (Zi (XW (Qa (Qb 0) Qd)) (Vk [4,5])
  JI)
  (JX (mFn Z6 (Qa (Qb 3) Qd))))))
theorem Gk(d:DefAt K mg "put_in" VJ ["program","manner"])(b_enumerate:mg "enumerate"=none)(b_len:mg "len"=none)(b_range:mg "range"=none)(b_tuple:mg "tuple"=none)(c_words_by_place:Cal P w K mg base 1 "words_by_place" ["manner"] Zx):Cal P w K mg base 2 "put_in" ["program","manner"] V8:=by
 refine Zp (k:=1) (more:=6) d YA rfl fun _ _ _ _ _ _ _ hr=>?_;have nd_:=(YA).nd
 walk_at"~J)*6$0"
 refine Qu (k:=1) (ps:=["manner"]) ?_ ?_ ?_ ?_ ?_ ?_ ?_ ?_;exact c_words_by_place
 walk_at"~8$#4&$2$$$%)*6$0Q&$%);E$"
 refine W2 ?_ ?_ ?_ ?_
 walk_at"~$"
 exact b_enumerate
 walk_at"~#3&$"
 refine Vg (is:=[4,5]) ?_ ?_ ?_ ?_
 walk_at"~$"
 refine QT (i:=4) (x:="number") nd_ rfl (Or.inl rfl) ?_ ?_;refine QT (i:=5) (x:="part") nd_ rfl (Or.inl rfl) ?_ ?_;exact Vc
 walk_at"~%%$$)*6$0Q&$%);E$H$"
 exact b_range
 walk_at"~#-,$P#/L(&22$$(&$"
 exact Qo (i:=7) (x:="gap") nd_ rfl (Or.inl rfl)
 walk_at"~)F"
 refine Km Dh DM F7 Gm ?_ ?_
 walk_at"~A#"
 refine JH Zz ?_ (J5 (Nb:=["word"]) (cp:=[none]) rfl (by decide +kernel) (by decide +kernel) rfl rfl) ?_ (fun _ _ _ _ _=>?_) (fun _ _ _ _ _=>?_)
 walk_at"~$R"
 refine Km Fh FB IE (Yg ?_) ?_ ?_
 walk_at"~D=#9#K#C&#I&&"
 exact Qo (i:=0) (x:="word") (show List.Nodup (["word"]:List Str)from by decide +kernel) rfl (Or.inl rfl)
 walk_at"~9#5#3&&.F"
 refine Km Dh DM F7 XR ?_ ?_
 walk_at"~A#"
 refine Vi ?_ ?_ ?_
 walk_at"~/L("
 refine Jl ?_
 walk_at"~C"
 refine Jl ?_
 walk_at"~-C(&B.F+<#9#/L(#:$"
 exact b_tuple
 walk_at"~#A&22$$&&B.?:$"
 exact b_tuple
 walk_at"~#<&22$$"
noncomputable def X7:FM:=box frN V8
noncomputable abbrev QW:Stmt:=top 19
theorem J7:FnScope ["script","words","places","backs","some","k","number"] ["script","words","places"] (Qg QW):=⟨rfl,rfl,rfl,by decide +kernel,rfl,by decide +kernel,by decide +kernel⟩
noncomputable abbrev Qn:SM:=(Qs (QQ 6 (QB 2 Qh (Qa (Qb 0) (Qa (Qc QL (mC (.int 150)) (Qb 5)) Qd))))
  (VM (Qy (Qc wEq (Qc Zu (Qb 6) (mC (.int 3))) (mC (.int 0)))) (K1 (Qb 3) (Qc wIx (Qb 2) (Qb 5)) (Qz Jg (ZO (Qa (Qc QL (mC (.int 1)) (Qc Zu (Qc Jc (Qb 6) (mC (.int 3))) (mC (.int 2)))) Qd)) [none,some 4,some 6] (QF 0) Vn (Qc wIx (Qb 1) (Qc Zu (Qc Jc (Qb 2) (Qc QL (mC (.int 3)) (Qc Zj (mC (.int 7)) (Qb 0)))) (mFn ZZ (Qa (Qb 1) Qd)))))) Jf))
noncomputable def ZT:FM:=Zs 4
  (Qs (QQ 3 KT)
  (Qs (QQ 4 (mFn UJ (Qa (Qb 1) Qd)))
  (Qs (VM (Qy (Qc wLt (mFn ZZ (Qa (Qb 4) Qd)) (mC (.int 5)))) (ZS (mMt "list" Qx (Qb 4) (Qa (mC (.str "zzzzzzzz")) Qd))) Jf)
  (Qs (Zi (ZO (Qa (mFn ZZ (Qa (Qb 2) Qd)) Qd)) (QF 5)
  Qn)
  (JX (Qb 3))))))
theorem Xp(d:DefAt K mg "_law_by_hand" QW ["script","words","places"])(b_len:mg "len"=none)(b_list:mg "list"=none)(b_range:mg "range"=none)(c__law_mixed:Cal P w K mg base 1 "_law_mixed" ["script","k"] Qh):Cal P w K mg base 2 "_law_by_hand" ["script","words","places"] ZT:=by
 refine Zp (k:=1) (more:=4) d J7 rfl fun _ _ _ _ _ _ _ hr=>?_;have nd_:=(J7).nd
 walk_at"~J)*6$0"
 exact Yo
 walk_at"~$%)*6$"
 exact(Or.inr rfl);refine Jb Wh Q6 ?_ ?_ Iu ?_ ?_ ?_ ?_ ?_
 walk_at"~$"
 exact b_list
 walk_at"~#4&22$$$%)>"
 refine QU Kt QI ?_ ?_
 walk_at"~,$P#K&22$$(.F+K#5&O);E$H$"
 exact b_range
 walk_at"~#,$P#=&22$$&$"
 exact Qo (i:=5) (x:="k") nd_ rfl (Or.inl rfl)
 walk_at"~)*6$"
 exact(Or.inr rfl)
 walk_at"~M"
 exact c__law_mixed
 walk_at"~8$#3#-(L&$2$$$%.>@D1A((."
 refine QbM ?_ ?_ ?_ ?_
 walk_at"~D</=L"
 refine JH Zz ?_ (Xd (ks:=["some","number"]) (Nb:=["j","some","number"]) (cp:=[none,some 4,some 6]) (N:=["script","words","places","backs","some","k","number"]) (xs:=(Qg QW)) rfl rfl (by decide +kernel) rfl (by decide +kernel) (by intro p hp;simp only[NF,Ew,or_false]at hp;rcases hp with rfl|rfl<;>rfl) rfl rfl rfl (by decide +kernel)) ?_ (fun _ _ _ _ _=>?_) (fun _ _ _ _ _=>?_)
 walk_at"~$H$"
 exact b_range
 walk_at"~#-(17A((&$"
 exact Qo (i:=0) (x:="j") (show List.Nodup (["j","some","number"]:List Str)from by decide +kernel) rfl (Or.inl rfl)
 walk_at"~/417=-(G(3,$P#4&22$$OB.?<"
noncomputable def Z8:FM:=box frR ZT
noncomputable abbrev Jm:Stmt:=top 2
theorem Xe:FnScope ["program","lines","part"] ["program"] (Qg Jm):=⟨rfl,rfl,rfl,by decide +kernel,rfl,by decide +kernel,by decide +kernel⟩
noncomputable abbrev Vp:SM:=(ZS (mMt "list" Jn (Qb 1) (Qa (Qc wIx (Qb 2) (mC (.int 1))) Qd)))
noncomputable def JK:FM:=Zs 2
  (Qs (QQ 1 (mFn Yp Qd))
  (Qs (Zi (QC (Qb 0)) (QF 2)
  Vp)
  (JX (Qb 1))))
theorem KY(d:DefAt K mg "all_lines" Jm ["program"]):Cal P w K mg base 1 "all_lines" ["program"] JK:=by
 refine Zp (k:=0) (more:=2) d Xe rfl fun _ _ _ _ _ _ _ hr=>?_;have nd_:=(Xe).nd
 walk_at"~J)*6$0Q&$%);E$R3"
 exact Qo (i:=2) (x:="part") nd_ rfl (Or.inl rfl)
 walk_at"~.F"
 refine Km Dh DM F7 XR ?_ ?_
 walk_at"~4#/=(&B.?4"
noncomputable def Q0:FM:=box frN JK
noncomputable abbrev JF:Stmt:=top 1
theorem Kg:FnScope ["program"] ["program"] (Qg JF):=⟨rfl,rfl,rfl,by decide +kernel,rfl,by decide +kernel,by decide +kernel⟩
noncomputable def J0:FM:=Zs 0
  (JX (mFn Z5 (Qa (Qz Jg (QC (QB 1 Q0 (Qa (Qb 0) Qd))) [none] (QF 0) (Qy (Qc wEq (Qc wIx (Qb 0) (mC (.int 0))) (mC (.str "pair")))) (Qc wIx (Qb 0) (mC (.int 2)))) Qd)))
theorem Y8(d:DefAt K mg "words_of" JF ["program"])(b_set:mg "set"=none)(b_sorted:mg "sorted"=none)(c_all_lines:Cal P w K mg base 1 "all_lines" ["program"] Q0):Cal P w K mg base 2 "words_of" ["program"] J0:=by
 refine Zp (k:=1) (more:=0) d Kg rfl fun _ _ _ _ _ _ _ hr=>?_;have nd_:=(Kg).nd
 walk_at"~J.?"
 refine Xf ?_ ?_ ?_ ?_ ?_ ?_ ?_
 walk_at"~$$"
 exact b_sorted
 walk_at"~$"
 exact b_set;refine KS Zz ?_ (J5 (Nb:=["line"]) (cp:=[none]) rfl (by decide +kernel) (by decide +kernel) rfl rfl) ?_ (fun _ _ _ _ _=>?_) (fun _ _ _ _ _=>?_) (fun _ _ _ _ _=>?_)
 walk_at"~$R"
 refine Qu (k:=1) (ps:=["program"]) ?_ ?_ ?_ ?_ ?_ ?_ ?_ ?_;exact c_all_lines
 walk_at"~8$#3&$2$$"
 exact Qo (i:=0) (x:="line") (show List.Nodup (["line"]:List Str)from by decide +kernel) rfl (Or.inl rfl)
 walk_at"~@D/3(5/3($"
noncomputable def VF:FM:=box frN J0
noncomputable abbrev Jo:Stmt:=top 6
theorem Xh:FnScope ["program","made","parts","pairs","number","part","lines","line"] ["program"] (Qg Jo):=⟨rfl,rfl,rfl,by decide +kernel,rfl,by decide +kernel,by decide +kernel⟩
noncomputable abbrev Q9:SM:=(VM (Qy (Qc wNe (Qc wIx (Qb 7) (mC (.int 0))) (mC (.str "back")))) (ZS (mMt "list" Qx (Qb 6) (Qa (Qb 7) Qd))) (VM (Qy (Qc (wIn false) (Qc wIx (Qb 7) (mC (.int 1))) (Qb 1))) (K1 (Qb 3) (mFn Zg (Qa (Qc wIx (Qb 7) (mC (.int 1))) (Qa (mFn Zg (Qa (Qb 4) (Qa (mFn ZZ (Qa (Qb 6) Qd)) Qd))) Qd))) (mC (.bl true))) Jf))
noncomputable abbrev ZC:SM:=(Qs (QQ 6 (mFn Yp Qd))
  (Qs (Zi (QC (Qc wIx (Qb 5) (mC (.int 1)))) (QF 7)
  Q9)
  (ZS (mMt "list" Qx (Qb 2) (Qa (mFn Zg (Qa (Qc wIx (Qb 5) (mC (.int 0))) (Qa (mFn Z6 (Qa (Qb 6) Qd)) Qd))) Qd)))))
noncomputable def JL:FM:=Zs 7
  (Qs (QQ 1 (QB 1 VF (Qa (Qb 0) Qd)))
  (Qs (QQ 2 (mFn Yp Qd))
  (Qs (QQ 3 KT)
  (Qs (Zi (XW (Qa (Qb 0) Qd)) (Vk [4,5])
  ZC)
  (JX (mFn Zg (Qa (mFn Z6 (Qa (Qb 2) Qd)) (Qa (mFn XV (Qa (Qb 3) Qd)) Qd))))))))
theorem KM(d:DefAt K mg "taken_out" Jo ["program"])(b_enumerate:mg "enumerate"=none)(b_len:mg "len"=none)(b_sorted:mg "sorted"=none)(b_tuple:mg "tuple"=none)(c_words_of:Cal P w K mg base 2 "words_of" ["program"] VF):Cal P w K mg base 3 "taken_out" ["program"] JL:=by
 refine Zp (k:=2) (more:=7) d Xh rfl fun _ _ _ _ _ _ _ hr=>?_;have nd_:=(Xh).nd
 walk_at"~J)*6$0"
 refine Qu (k:=2) (ps:=["program"]) ?_ ?_ ?_ ?_ ?_ ?_ ?_ ?_;exact c_words_of
 walk_at"~8$#3&$2$$$%)*6$0Q&$%)*6$0"
 exact Yo
 walk_at"~$%);E$"
 refine W2 ?_ ?_ ?_ ?_
 walk_at"~$"
 exact b_enumerate
 walk_at"~#3&$"
 refine Vg (is:=[4,5]) ?_ ?_ ?_ ?_
 walk_at"~$"
 refine QT (i:=4) (x:="number") nd_ rfl (Or.inl rfl) ?_ ?_;refine QT (i:=5) (x:="part") nd_ rfl (Or.inl rfl) ?_ ?_;exact Vc
 walk_at"~%%$$)*6$0Q&$%);E$R/L("
 exact Qo (i:=7) (x:="line") nd_ rfl (Or.inl rfl)
 walk_at"~.>ND/C(5.F+A#C&.>"
 refine QU (Ks ?_) QI ?_ ?_
 walk_at"~D/C(4."
 refine UF ?_ ?_ ?_ ?_ ?_
 walk_at"~D<9#/C(#9#K#,$P#A&22$$&&"
 exact Qfr
 walk_at"~$OB.F+=#9#/L(#:$"
 exact b_tuple
 walk_at"~#A&22$$&&B.?9#:$"
 exact b_tuple
 walk_at"~#=&22$$#"
 refine J9 (YR ?_ ?_) Q6 ?_ ?_ LX ?_ ?_ ?_ ?_ ?_
 walk_at"~D$$"
 exact b_sorted
 walk_at"~#<&22$$&"
noncomputable def Zh:FM:=box frN JL
noncomputable abbrev JQ:Stmt:=top 18
theorem XG:FnScope ["program","backs","parts","number","name","lines","fresh","gap"] ["program","backs"] (Qg JQ):=⟨rfl,rfl,rfl,by decide +kernel,rfl,by decide +kernel,by decide +kernel⟩
noncomputable abbrev Q5:SM:=(QQ 6 (Qc QL (Qc QL (Qb 6) (Qz Jg (QC (mMt "dict" VQ (Qb 1) (Qa (mFn Zg (Qa (Qb 3) (Qa (Qb 7) Qd))) (Qa (mFn JE Qd) Qd)))) [none] (QF 0) Vn (mFn Zg (Qa (mC (.str "back")) (Qa (Qb 0) Qd))))) (mFn Gb (Qa (mSl (Qb 5) (Xq (Qb 7)) (Xq (Qc QL (Qb 7) (mC (.int 1))))) Qd))))
noncomputable abbrev Z0:SM:=(Qs (QjA (Vk [4,5]) (Qc wIx (Qb 0) (Qb 3)))
  (Qs (QQ 6 (mFn JE Qd))
  (Qs (Zi (ZO (Qa (Qc QL (mFn ZZ (Qa (Qb 5) Qd)) (mC (.int 1))) Qd)) (QF 7)
  Q5)
  (ZS (mMt "list" Qx (Qb 2) (Qa (mFn Zg (Qa (Qb 4) (Qa (mFn Z6 (Qa (Qb 6) Qd)) Qd))) Qd))))))
noncomputable def QX:FM:=Zs 6
  (Qs (QQ 2 (mFn Yp Qd))
  (Qs (Zi (ZO (Qa (mFn ZZ (Qa (Qb 0) Qd)) Qd)) (QF 3)
  Z0)
  (JX (mFn Z6 (Qa (Qb 2) Qd)))))
theorem YG(d:DefAt K mg "_law_put" JQ ["program","backs"])(b_len:mg "len"=none)(b_list:mg "list"=none)(b_range:mg "range"=none)(b_tuple:mg "tuple"=none):Cal P w K mg base 1 "_law_put" ["program","backs"] QX:=by
 refine Zp (k:=0) (more:=6) d XG rfl fun _ _ _ _ _ _ _ hr=>?_;have nd_:=(XG).nd
 walk_at"~J)*6$0Q&$%);E$H$"
 exact b_range
 walk_at"~#,$P#3&22$$&$"
 exact Qo (i:=3) (x:="number") nd_ rfl (Or.inl rfl)
 walk_at"~)"
 refine Qfa ?_ ?_ ?_ ?_ ?_
 walk_at"~/3<"
 refine Vg (is:=[4,5]) ?_ ?_ ?_ ?_
 walk_at"~$"
 refine QT (i:=4) (x:="name") nd_ rfl (Or.inl rfl) ?_ ?_;refine QT (i:=5) (x:="lines") nd_ rfl (Or.inl rfl) ?_ ?_;exact Vc
 walk_at"~%%$$$$$)*6$0I&$%);E$H$"
 exact b_range
 walk_at"~#-,$P#L&22$$(&$"
 exact Qo (i:=7) (x:="gap") nd_ rfl (Or.inl rfl)
 walk_at"~.*6$0--A"
 refine JH Zz ?_ (J5 (Nb:=["word"]) (cp:=[none]) rfl (by decide +kernel) (by decide +kernel) rfl rfl) ?_ (fun _ _ _ _ _=>?_) (fun _ _ _ _ _=>?_)
 walk_at"~$R"
 refine Km Fh FB IE (Yg ?_) ?_ ?_
 walk_at"~D4#9#<#C&#I&&"
 exact Qo (i:=0) (x:="word") (show List.Nodup (["word"]:List Str)from by decide +kernel) rfl (Or.inl rfl)
 walk_at"~9#5#3&"
 refine Jb Kq Q6 ?_ ?_ Iu ?_ ?_ ?_ ?_ ?_
 walk_at"~$"
 exact b_list
 walk_at"~#"
 refine Vi ?_ ?_ ?_
 walk_at"~L"
 refine Jl ?_
 walk_at"~C"
 refine Jl ?_
 walk_at"~-C(&22$$$%B.F+=#9#K#:$"
 exact b_tuple
 walk_at"~#A&22$$&&B.?:$"
 exact b_tuple
 walk_at"~#=&22$$"
noncomputable abbrev KF:Stmt:=top 20
theorem Qd6:FnScope ["script","program","words","places","manner","backs","word","place","handed","found","hand","due","told"] ["script"] (Qg KF):=⟨rfl,rfl,rfl,by decide +kernel,rfl,by decide +kernel,by decide +kernel⟩
noncomputable abbrev Xr:SM:=(K1 (Qb 5) (Qb 7) (Qc QL (mMt "dict" VQ (Qb 5) (Qa (Qb 7) (Qa (mFn JE Qd) Qd))) (mFn JE (Qa (Qb 6) Qd))))
noncomputable abbrev VN:SM:=(QQ 11 (Qc QL (Qb 11) (Qz Jg (QC (Qc Qd7 (Qb 10) (Qb 7))) [none,some 7,some 2] (QF 0) (Qy (Qc (wIn false) (Qb 0) (Qb 2))) (mFn Zg (Qa (Qb 0) (Qa (Qb 1) Qd))))))
noncomputable def V5:FM:=Zs 12
  (Qs (QQ 1 (QB 2 Z9 (Qa (Qb 0) (Qa (mC (.int 40)) Qd))))
  (Qs (QQ 2 (QB 1 JG (Qa (Qb 1) Qd)))
  (Qs (QQ 3 (QB 1 Jv (Qa (Qb 1) Qd)))
  (Qs (QQ 4 (QB 5 Jr (Qa (Qb 0) (Qa (mC (.int 100)) (Qa (Qc Zu (QB 2 Qh (Qa (Qb 0) (Qa (mC (.int 140)) Qd))) (mC (.int 13))) (Qa (Qb 2) (Qa (Qb 3) Qd)))))))
  (Qs (QQ 5 KT)
  (Qs (Zi (QC (Qb 4)) (Vk [6,7])
  Xr)
  (Qs (QQ 8 (mFn Gb (Qa (Qb 4) Qd)))
  (Qs (QQ 9 (QB 2 X7 (Qa (Qb 1) (Qa (Qb 8) Qd))))
  (Qs (VM (QfE (QbY (QiG (mFn Qgd (Qa (Qb 9) (Qa (mC (.ty "tuple")) Qd))))) (QfE (Qy (Qc wNe (Qb 9) (QB 2 QX (Qa (Qb 1) (Qa (Qb 5) Qd))))) (Qy (Qc wNe (Qb 8) (Qb 4))))) (JX (mC (.bl false))) Jf)
  (Qs (VM (QfE (Qy (Qc wNe (QB 1 Zh (Qa (Qb 9) Qd)) (mFn Zg (Qa (Qb 1) (Qa (Qb 4) Qd))))) (Qy (Qc wNe (QB 1 Zh (Qa (Qb 1) Qd)) (mFn Zg (Qa (Qb 1) (Qa (mFn JE Qd) Qd)))))) (JX (mC (.bl false))) Jf)
  (Qs (QQ 10 (QB 3 Z8 (Qa (Qb 0) (Qa (Qb 2) (Qa (Qb 3) Qd)))))
  (Qs (QQ 11 (mFn JE Qd))
  (Qs (Zi (V7 (Qb 10)) (QF 7)
  VN)
  (Qs (QQ 12 (QB 1 Zh (Qa (QB 2 QX (Qa (Qb 1) (Qa (Qb 10) Qd))) Qd)))
  (JX (Qj5 (mFn Qgd (Qa (Qb 12) (Qa (mC (.ty "tuple")) Qd))) (Qc wEq (Qb 12) (mFn Zg (Qa (Qb 1) (Qa (mFn J6 (Qa (Qb 11) Qd)) Qd))))))))))))))))))))
theorem Qfy(d:DefAt K mg "law" KF ["script"])(b_isinstance:mg "isinstance"=none)(b_list:mg "list"=none)(b_set:mg "set"=none)(b_sorted:mg "sorted"=none)(b_tuple:mg "tuple"=none)(c__law_by_hand:Cal P w K mg base 2 "_law_by_hand" ["script","words","places"] Z8)(c__law_manner:Cal P w K mg base 2 "_law_manner" ["script","at","many","words","places"] Jr)(c__law_mixed:Cal P w K mg base 1 "_law_mixed" ["script","k"] Qh)(c__law_places:Cal P w K mg base 1 "_law_places" ["program"] Jv)(c__law_program:Cal P w K mg base 8 "_law_program" ["script","top"] Z9)(c__law_put:Cal P w K mg base 1 "_law_put" ["program","backs"] QX)(c__law_words:Cal P w K mg base 1 "_law_words" ["program"] JG)(c_put_in:Cal P w K mg base 2 "put_in" ["program","manner"] X7)(c_taken_out:Cal P w K mg base 3 "taken_out" ["program"] Zh):Cal P w K mg base 9 "law" ["script"] V5:=by
 refine Zp (k:=8) (more:=12) d Qd6 rfl fun _ _ _ _ _ _ _ hr=>?_;have nd_:=(Qd6).nd
 walk_at"~J)*6$0"
 refine Qu (k:=8) (ps:=["script","top"]) ?_ ?_ ?_ ?_ ?_ ?_ ?_ ?_;exact c__law_program
 walk_at"~8$#3#(&$2$$$%)*6$"
 exact(Or.inr rfl);refine Qu (k:=1) (ps:=["program"]) ?_ ?_ ?_ ?_ ?_ ?_ ?_ ?_;exact c__law_words
 walk_at"~8$#4&$2$$$%)*6$0"
 refine Qu (k:=1) (ps:=["program"]) ?_ ?_ ?_ ?_ ?_ ?_ ?_ ?_;exact c__law_places
 walk_at"~8$#4&$2$$$%)*6$0"
 refine Qu (k:=2) (ps:=["script","at","many","words","places"]) ?_ ?_ ?_ ?_ ?_ ?_ ?_ ?_;exact c__law_manner
 walk_at"~8$#3#(#1M"
 exact c__law_mixed
 walk_at"~8$#3#(&$2$$(#=#<&$2$$$%)*6$0"
 exact Yo
 walk_at"~$%);E$RK"
 refine Vg (is:=[6,7]) ?_ ?_ ?_ ?_
 walk_at"~$"
 refine QT (i:=6) (x:="word") nd_ rfl (Or.inl rfl) ?_ ?_;refine QT (i:=7) (x:="place") nd_ rfl (Or.inr rfl) ?_ ?_;exact Vc
 walk_at"~%%$$."
 refine UF ?_ ?_ ?_ ?_ ?_
 walk_at"~DLC-"
 refine Km Fh FB IE (Yg ?_) ?_ ?_
 walk_at"~DL#C#I&&I#A&$B)*6$0"
 refine Jb Kq Q6 ?_ ?_ Iu ?_ ?_ ?_ ?_ ?_
 walk_at"~$"
 exact b_list
 walk_at"~#K&22$$$%)*6$0"
 refine Qu (k:=2) (ps:=["program","manner"]) ?_ ?_ ?_ ?_ ?_ ?_ ?_ ?_;exact c_put_in
 walk_at"~8$#4#"
 exact Qp 8
 walk_at"~&$2$$$%)>"
 refine PMW.pt ?_;refine Qa6 ?_ ?_;refine Qeh ?_;refine Qfl ?_;refine J9 YJ Q6 ?_ ?_ Lb ?_ ?_ ?_ ?_ ?_
 walk_at"~$"
 exact b_isinstance
 walk_at"~#"
 exact Qp 9
 walk_at"~#"
 exact QhX rfl b_tuple Ig
 walk_at"~&22$$"
 refine Qa6 ?_ ?_
 walk_at"~ND"
 exact Qp 9;refine Qu (k:=1) (ps:=["program","backs"]) ?_ ?_ ?_ ?_ ?_ ?_ ?_ ?_;exact c__law_put
 walk_at"~8$#4#L&$2$$"
 refine Qaa ?_
 walk_at"~ND"
 exact Qp 8
 walk_at"~K.?"
 exact Qfr
 walk_at"~O)>"
 refine PMW.pt ?_;refine Qa6 ?_ ?_
 walk_at"~ND"
 refine Qu (k:=3) (ps:=["program"]) ?_ ?_ ?_ ?_ ?_ ?_ ?_ ?_;exact c_taken_out
 walk_at"~8$#"
 exact Qp 9
 walk_at"~&$2$$9#4#K&"
 refine Qaa ?_
 walk_at"~ND"
 refine Qu (k:=3) (ps:=["program"]) ?_ ?_ ?_ ?_ ?_ ?_ ?_ ?_;exact c_taken_out
 walk_at"~8$#4&$2$$9#4#I&&.?"
 exact Qfr
 walk_at"~O)*6$0"
 refine Qu (k:=2) (ps:=["script","words","places"]) ?_ ?_ ?_ ?_ ?_ ?_ ?_ ?_;exact c__law_by_hand
 walk_at"~8$#3#=#<&$2$$$%)*6$0I&$%);E$"
 refine Qbj ?_;exact Qp 10;exact Qo (i:=7) (x:="place") nd_ rfl (Or.inr rfl)
 walk_at"~.*6$0-"
 exact Qp 11;refine KS Zz ?_ (Xd (ks:=["words","place"]) (Nb:=["word","place","words"]) (cp:=[none,some 7,some 2]) (N:=["script","program","words","places","manner","backs","word","place","handed","found","hand","due","told"]) (xs:=(Qg KF)) rfl rfl (by decide +kernel) rfl (by decide +kernel) (by intro p hp;simp only[NF,Ew,or_false]at hp;rcases hp with rfl|rfl<;>rfl) rfl rfl rfl (by decide +kernel)) ?_ (fun _ _ _ _ _=>?_) (fun _ _ _ _ _=>?_) (fun _ _ _ _ _=>?_)
 walk_at"~$R"
 refine QgL ?_ ?_ ?_ ?_
 walk_at"~D"
 exact Qp 10
 walk_at"~C"
 exact fun _ _=>rfl;exact Qo (i:=0) (x:="word") (show List.Nodup (["word","place","words"]:List Str)from by decide +kernel) rfl (Or.inl rfl);refine QU (Ks ?_) QI ?_ ?_
 walk_at"~D3=9#3#4&$%B)*6$0"
 refine Qu (k:=3) (ps:=["program"]) ?_ ?_ ?_ ?_ ?_ ?_ ?_ ?_;exact c_taken_out
 walk_at"~8$#"
 refine Qu (k:=1) (ps:=["program","backs"]) ?_ ?_ ?_ ?_ ?_ ?_ ?_ ?_;exact c__law_put
 walk_at"~8$#4#"
 exact Qp 10
 walk_at"~&$2$$&$2$$$%.?"
 refine Qh7 ?_ ?_;refine J9 YJ Q6 ?_ ?_ Lb ?_ ?_ ?_ ?_ ?_
 walk_at"~$"
 exact b_isinstance
 walk_at"~#"
 exact Qp 12
 walk_at"~#"
 exact QhX rfl b_tuple Ig
 walk_at"~&22$$"
 refine Qg3 ?_;refine Uj (GL ?_) QI ?_ ?_
 walk_at"~D"
 exact Qp 12
 walk_at"~9#4#"
 refine VZ ?_ ?_ ?_ ?_ ?_ ?_ ?_ ?_
 walk_at"~D$$"
 exact b_sorted
 walk_at"~$"
 exact b_set;exact Qp 11
 walk_at"~$&"
end

theorem QfU{P:Program}{w:World}{K:Nh}{e:Str->Option Value}{base:Heap}(v:DefAt K e "_law_names" QS ["number","many"])(x:DefAt K e "_law_mixed" ZV ["script","k"])(u:DefAt K e "_law_sized" Q4 ["parts","number"])(p:DefAt K e "_law_closed" ZA ["waiting"])(H:DefAt K e "_law_line" Jk ["number","boxes","words"])(y:DefAt K e "_law_lines" ZX ["numbers","boxes","words","others","deep","left"])(i:DefAt K e "_law_program" QN ["script","top"])(t:DefAt K e "_law_words" ZY ["program"])(n:DefAt K e "_law_places" Q8 ["program"])(o:DefAt K e "_law_manner" ZL ["script","at","many","words","places"])(f:DefAt K e "words_by_place" Q3 ["manner"])(Z:DefAt K e "put_in" VJ ["program","manner"])(j:DefAt K e "_law_by_hand" QW ["script","words","places"])(G:DefAt K e "all_lines" Jm ["program"])(Q:DefAt K e "words_of" JF ["program"])(E:DefAt K e "taken_out" Jo ["program"])(S:DefAt K e "_law_put" JQ ["program","backs"])(ae:DefAt K e "law" KF ["script"])(h:e "enumerate"=none)(ab:e "int"=none)(D:e "isinstance"=none)(b_len:e "len"=none)(O:e "list"=none)(ah:e "max"=none)(ag:e "min"=none)(b:e "range"=none)(Y:e "reversed"=none)(N:e "set"=none)(d:e "sorted"=none)(c:e "tuple"=none):Cal P w K e base 9 "law" ["script"] V5:=by
 have B:=(Kh (P:=P) (w:=w) (base:=base) v b).box frN;have a:=(Kk (P:=P) (w:=w) (base:=base) x b_len).box frN;have A:Cal P w K e base 7 "_law_sized" ["parts","number"] Zo:=Kp u;have s:=(Kc (P:=P) (w:=w) (base:=base) p Y).box frN;have M:=(KK (P:=P) (w:=w) (base:=base) H b_len).box frN;have C:=(Kl y ab b_len c s M).box frN;have l:=(Xl i ab b_len ah ag b c C a B A).box frN;have z:=(Kj (P:=P) (w:=w) (base:=base) t N d).box frN;have q:=(XM (P:=P) (w:=w) (base:=base) n b_len b).box frN;have r:=(X3 o b_len b N d a).box frN;have g:=(VU (P:=P) (w:=w) (base:=base) f).box frR;have aa:=(Gk Z h b_len b c g).box frN;have m:=(Xp j b_len O b a).box frR;have L:=(KY (P:=P) (w:=w) (base:=base) G).box frN;have U:=(Y8 Q N d L).box frN;have I:=(KM E h b_len d c U).box frN;have X:Cal P w K e base 1 "_law_put" ["program","backs"] QX:=YG S b_len O b c;have af:Cal P w K e base 9 "law" ["script"] V5:=Qfy ae D O N d c m r a q l X z aa I;exact af

noncomputable abbrev Ln:=List Str
noncomputable def Qj(l:Ln):W:=.tup (l.map .str)
noncomputable def Zv(xs:List Str):W:=.lst (xs.map .str)
noncomputable abbrev Pt:=Str×List Ln
noncomputable def Qr(p:Pt):W:=.tup [.str p.1,.tup (p.2.map Qj)]
noncomputable def QE(p:List Pt):W:=.tup (p.map Qr)
theorem Uw:∀{ws:List W},(∀w∈ws,pln w=true)->XD ws=true
 |[],_=>rfl
 |w::ws,h=>by unfold XD;rw[h w Nz,Uw fun x a=>h x (Nw _ a)];rfl
theorem WY{n:Nat}:∀{ws:List W},(∀w∈ws,dep w<=n)->KB ws<=n
 |[],_=>NM _
 |w::ws,h=>by unfold KB;exact Nat.max_le.mpr ⟨h w Nz,WY fun x a=>h x (Nw _ a)⟩
theorem Ve{a:Type}{f:a->W}{xs:List a}(h:∀x,pln (f x)=true):XD (xs.map f)=true:=Uw fun w hw=>by obtain⟨x,_,rfl⟩:=NE.mp hw;exact h x
theorem Vh{a:Type}{f:a->W}{xs:List a}{n:Nat}(h:∀x,dep (f x)<=n):KB (xs.map f)<=n:=WY fun w hw=>by obtain⟨x,_,rfl⟩:=NE.mp hw;exact h x
@[simp]theorem JJ{xs:List Str}:XD (xs.map .str)=true:=Ve fun _=>rfl
theorem Va{xs:List Str}:KB (xs.map .str)<=1:=Vh fun _=>Nu _
@[simp]theorem QhT{l:Ln}:pln (Qj l)=true:=by unfold Qj pln;exact JJ
theorem QiR{l:Ln}:dep (Qj l)<=2:=by unfold Qj dep;have:=Va (xs:=l);exact Nd this (by decide)
@[simp]theorem KQ{xs:List Str}:pln (Zv xs)=true:=by unfold Zv pln;exact JJ
theorem WI{xs:List Str}:dep (Zv xs)<=2:=by unfold Zv dep;have:=Va (xs:=xs);exact Nd this (by decide)
@[simp]theorem QeE{ls:List Ln}:XD (ls.map Qj)=true:=Ve fun _=>QhT
theorem Qei{ls:List Ln}:KB (ls.map Qj)<=2:=Vh fun _=>QiR
@[simp]theorem Qj0{p:Pt}:pln (Qr p)=true:=by simp[Qr,pln,XD]
theorem Qj8{p:Pt}:dep (Qr p)<=4:=by simp[Qr,dep,KB];have:=Qei (ls:=p.2);exact this
@[simp]theorem Qe3{ps:List Pt}:XD (ps.map Qr)=true:=Ve fun _=>Qj0
@[simp]theorem Qat{ps:List Pt}:pln (QE ps)=true:=by unfold QE pln;exact Qe3
theorem Qcz{ps:List Pt}:dep (QE ps)<=5:=by unfold QE dep;have:=Vh (xs:=ps) (n:=4) (fun x=>Qj8 (p:=x));exact Nd this (by decide)
@[simp]theorem Qla{l:Ln}:pur (Qj l)=true:=KP _ QhT
@[simp]theorem QiD{xs:List Str}:pur (Zv xs)=true:=KP _ KQ
@[simp]theorem Qmf{ps:List Pt}:pur (QE ps)=true:=KP _ Qat
@[simp]theorem KJ{xs:List Str}:ZD (xs.map .str)=true:=ZM _ JJ
@[simp]theorem QjO{ls:List Ln}:ZD (ls.map Qj)=true:=ZM _ QeE
@[simp]theorem QlC{i:Int}:pur (.int i)=true:=id rfl
@[simp]theorem Ql8{ws:List W}:pur (.tup ws)=ZD ws:=by unfold pur;rfl
@[simp]theorem QlW{ws:List W}:pur (.lst ws)=ZD ws:=by unfold pur;rfl
@[simp]theorem QlL{ws:List W}:pur (.frz ws)=ZD ws:=by unfold pur;rfl
@[simp]theorem Qk1:ZD []=true:=id rfl
@[simp]theorem QjG{w:W}{ws:List W}:ZD (w::ws)=(pur w&&ZD ws):=by rw[ZD]
@[simp]theorem Qkl{ws us:List W}:ZD (ws++us)=(ZD ws&&ZD us):=by
 induction ws with
 |nil=>simp
 |cons w ws a=>simp[a,Bool.and_assoc]
@[simp]theorem QhS{ns:List Int}:ZD (ns.map .int)=true:=by
 induction ns with
 |nil=>rfl
 |cons n ns a=>simp[a]
@[simp]theorem QkG{ws:List W}:Qgc (.lst ws)=ZD ws:=id rfl
@[simp]theorem QkY:1<=sizeLine:=by decide
@[simp]theorem QkO:2<=sizeLine:=by decide
@[simp]theorem Qk0:3<=sizeLine:=by decide
@[simp]theorem QkH:5<=sizeLine:=by decide
@[simp]theorem QkB:8<=sizeLine:=by decide
theorem Qex{a:Type}{xs:List a}{i:Int}{P:a->Prop}{f:a->W}(h0:0<=i)(h1:i<xs.length)(c:∀x∈xs,P x):∃x,x∈xs/\P x/\atI (xs.map f) i=some (f x):=by
 obtain⟨n,rfl⟩:∃n:Nat,i=n:=⟨i.toNat,by exact(Fc ‹_›).symm⟩
 have b:n<xs.length:=by lia
 exact⟨xs[n],D7 b,c _ (D7 b),by rw[Zc,NB,No b];rfl⟩
theorem Qjz{neg:Bool}{a:W}{b:List W}{h:MH}(d:pln a=true)(py:XD b=true)(f:dep a<=40)(e:KB b<=40):wIn neg a (.lst b) h=some (.bl (if neg=true then !inW a b else inW a b),h):=by
 show((lsW h (.lst b)).bind fun b=>(drf h 40 a).bind fun x=>(Zt (drf h 40) b).map fun c=>(W.bl (if neg then !inW x c else inW x c),h))=_;simp only[lsW,Nx];rw[Jw h a 40 d f,Jj h b 40 py e];rfl
theorem Qhv{neg:Bool}{a:W}{b:List W}{h:MH}(d:pln a=true)(py:XD b=true)(f:dep a<=40)(e:KB b<=40):wIn neg a (.tup b) h=some (.bl (if neg=true then !inW a b else inW a b),h):=by
 show((drf h 40 a).bind fun x=>(Zt (drf h 40) b).map fun c=>(W.bl (if neg then !inW x c else inW x c),h))=_;rw[Jw h a 40 d f,Jj h b 40 py e];rfl
@[simp]theorem Qi4{xs:List Str}{h:MH}:ZZ [Zv xs] h=some (.int xs.length,h):=by unfold Zv;simp
@[simp]theorem QkD{xs:List Str}{i:Int}{h:MH}:wIx (Zv xs) (.int i) h=@om _ _ (fun w=>(w,h)) (atI (xs.map .str) i):=by unfold Zv;simp
@[simp]theorem Qms{a:Type}{xs:List a}:atI xs 2=xs[2]?:=Zc (n:=2)
@[simp]theorem Qmn{a:Type}{xs:List a}:atI xs 3=xs[3]?:=Zc (n:=3)
theorem QaJ{a:Int}{n j:Nat}{w:W}(h:(Ql a n)[j]?=some w):j<n/\w=.int (a+j):=by
 have b:=(Nm.mp h).1;simp[Ql]at b;refine⟨b,?_⟩;unfold Ql at h;rw[NB,DF b]at h;cases h;rfl
theorem Qed{a b:Char}(h:a.toNat=b.toNat):a=b:=by
 have:a.val=b.val:=by
  apply UInt32.toNat_inj.mp;exact h
 exact Char.ext this
theorem XS:∀{a b:List Char},a.map Char.toNat=b.map Char.toNat->a=b
 |[],[],_=>rfl
 |[],_::_,h=>by simp at h
 |_::_,[],h=>by simp at h
 |x::a,y::b,h=>by
  simp only[NC,List.cons.injEq]at h;rw[Qed h.1,XS h.2]
@[simp]theorem QjT{a b:String}:(Str.ofString a=Str.ofString b)↔a=b:=by
 constructor
 ·intro h;rw[Oi,Oi]at h;have c:=XS (List.toArray_inj (Str.mk.inj h));exact String.toList_inj.mp c
 ·intro h;rw[h]
noncomputable abbrev scr(ns:List Int):W:=.frz (ns.map W.int)
theorem ZU{ms:MA}{σ:MSt}{h h':MH}{j:Nat}(e:ms σ h=some ([.int j],h'))(a:j<1000000):ZO ms σ h=some (Ql 0 j,none,h'):=by
 unfold ZO;rw[e,Nx];exact(if_pos ⟨by lia,by lia⟩).trans (by simp)
theorem QJ{a:Int}{n:Nat}:(Ql a n).length=n:=by simp[Ql]
theorem Jp{n j:Nat}{w:W}(h:(Ql 0 n)[j]?=some w):j<n/\w=.int j:=by
 obtain⟨a,b⟩:=QaJ h;exact⟨a,by rw[b];simp⟩
theorem szN{n:Nat}(h:n<=100000):n<sizeLine:=Nd h (by decide)
theorem Wr{xs:List Str}{i:Int}(h0:0<=i)(h1:i<xs.length):∃x,x∈xs/\atI (xs.map W.str) i=some (.str x):=by
 obtain⟨x,a,_,e⟩:=Qex (xs:=xs) (f:=W.str) (P:=fun _=>True) h0 h1 (fun _ _=>True.intro);exact⟨x,a,e⟩
theorem K0{items:List W}{src:Option Src}{b:MG}{body:SM}(P:Nat->MSt->MH->Prop)(f:∀n σ h,P n σ h->live src items h):∀(r:List W) (n:Nat) (σ:MSt) (h:MH),P n σ h ->
  (∀(j:Nat) (w:W),r[j]?=some w->∀σ h,P (n+j) σ h->∃c,b w σ h=some c/\∃a g,(body c h=some (.nx a g)\/body c h=some (.ct a g))/\P (n+j+1) a g) ->
  ∃d h',VS items src b body r σ h=some (.nx d h')/\P (n+r.length) d h'
 |[],n,σ,h,e,_=>⟨σ,h,by rw[VS,if_pos (f _ _ _ e)],e⟩
 | w::r,n,σ,h,e,l=>by
  obtain⟨c,s,a,g,i,o⟩:=l 0 w rfl σ h e
  obtain⟨d,h',q,m⟩:=K0 (items:=items) (src:=src) (b:=b) (body:=body) P f r (n+1) a g o fun j x p σ h e=>by
   have:=l (j+1) x (by simpa using p) σ h (by rw[show n+(j+1)=n+1+j by lia];exact e);rw[show n+(j+1)+1=n+1+j+1 by exact Fq _ _ _]at this;exact this
  refine⟨d,h',?_,by rw[El,show n+(r.length+1)=n+1+r.length by lia];exact m⟩;rw[VS,if_pos (f _ _ _ e),s,Nx]
  rcases i with i|i<;>rw[i]<;>exact q
noncomputable def QiP(cell k:Int):Int:=
 ((cell+7919*k*k+1)*1357913579135791357%2305843009213693951*((cell+7919*k*k+1)*1357913579135791357%2305843009213693951)+48271*((cell+7919*k*k+1)*1357913579135791357%2305843009213693951)+104729*k)%2305843009213693951
theorem Yk(ns:List Int)(k:Nat)(p:k<=1000):∃c:Int,0<=c/\∀h:MH,Qh [scr ns,.int k] h=some (.int c,h):=by
 have d:(-18446744073709551616:Int)<k:=by lia
 have b:(k:Int)<18446744073709551616:=by lia
 have a:∀x:Int,0<=x%2305843009213693951:=fun x=>NY _ (by decide);have f:∀x:Int,-18446744073709551616<x%2305843009213693951:=fun x=>by have:=a x;lia
 have e:∀x:Int,x%2305843009213693951<18446744073709551616:=fun x=>by have:=NV x (show(0:Int)<2305843009213693951 by decide);lia
 by_cases j:0<ns.length
 ·obtain⟨x,l,m⟩:=Qg9 (xs:=ns.map W.int) (i:=(k:Int)%(ns.length:Nat)) (NY _ (by lia)) (by rw[Ny];exact NV _ (by lia));obtain⟨n,_,rfl⟩:=NE.mp l;refine⟨QiP n k,a _,fun h=>ZE (by simp[scr]) (g:=[]) ?_ (by simp)⟩;simp[ZJ,Zs,scr,j,m,d,b,f,e,QiP]
 ·refine⟨QiP 0 k,a _,fun h=>ZE (by simp[scr]) (g:=[]) ?_ (by simp)⟩;simp[ZJ,Zs,scr,j,d,b,f,e,QiP]
structure L45(wl others:List Str)(l:Ln):Prop where
 head:∃x r,l=x::r/\x≠"back"/\(x="pair"->∃a b c d,b∈wl/\r=[a,b,c,d])/\(x="do"->∃y∈others,r=[y])
theorem l45{wl others:List Str}{x:Str}{r:Ln}(h1:x≠"back")(f:x="pair"->∃a b c d,b∈wl/\r=[a,b,c,d])(e:x="do"->∃y∈others,r=[y]):L45 wl others (x::r):=⟨_,_,rfl,h1,f,e⟩
theorem Qet{n:Int}(G:0<=n){bs ws others:List Str}(c:0<bs.length)(hw:0<ws.length)(C:bs.length<=5)(B:ws.length<=5):∃l:Ln,L45 ws others l/\∀h:MH,Ji [.int n,Zv bs,Zv ws] h=some (Qj l,h):=by
 have a:(0:Int)<bs.length:=by lia
 have b:(0:Int)<ws.length:=by lia
 obtain⟨x,_,f⟩:=Wr (xs:=bs) (i:=n/16%(bs.length:Nat)) (NY _ (Dv a)) (NV _ a);obtain⟨y,_,e⟩:=Wr (xs:=bs) (i:=n/160%(bs.length:Nat)) (NY _ (Dv a)) (NV _ a);obtain⟨z,_,d⟩:=Wr (xs:=bs) (i:=n/1600%(bs.length:Nat)) (NY _ (Dv a)) (NV _ a);obtain⟨w,p,A⟩:=Wr (xs:=ws) (i:=n/16000%(ws.length:Nat)) (NY _ (Dv b)) (NV _ b);obtain⟨o,q⟩:∃o:Int,o=if 9<n%16 then n/64%10 else n%16:=⟨_,rfl⟩
 have go:∀l:Ln,L45 ws others l->(∀h,Qk [.int n,Zv bs,Zv ws] h=some (Qj l,h))->∃l:Ln,L45 ws others l/\∀h:MH,Ji [.int n,Zv bs,Zv ws] h=some (Qj l,h):=fun l E D=>⟨l,E,fun h=>ZE (by simp) (g:=[]) (D []) (by simp)⟩
 by_cases j:9<n%16
 ·rw [if_pos j]at q
  by_cases m:n/64%10<3
  ·exact go ["pair",x,w,y,z] (l45 (by simp) (fun _=>⟨_,_,_,_,p,rfl⟩) (by simp)) fun h=>by simp[Qk,Zs,a,b,c,hw,f,e,d,A,j,m,Qj]
  ·by_cases u:n/64%10<5
   ·exact go ["first",x,y] (l45 (by simp) (by simp) (by simp)) fun h=>by simp[Qk,Zs,a,b,c,hw,f,e,d,j,m,u,Qj]
   ·by_cases t:n/64%10=5
    ·exact go ["second",x,y] (l45 (by simp) (by simp) (by simp)) fun h=>by simp[Qk,Zs,a,b,c,hw,f,e,d,j,t,Qj]
    ·by_cases s:n/64%10=6
     ·exact go ["same",x,y] (l45 (by simp) (by simp) (by simp)) fun h=>by simp[Qk,Zs,a,b,c,hw,f,e,d,j,s,Qj]
     ·by_cases r:n/64%10=7
      ·exact go ["none",x] (l45 (by simp) (by simp) (by simp)) fun h=>by simp[Qk,Zs,a,b,c,hw,f,e,d,j,r,Qj]
      ·exact go ["tell",y] (l45 (by simp) (by simp) (by simp)) fun h=>by simp[Qk,Zs,a,b,c,hw,f,e,d,j,m,u,t,s,r,Qj]
 ·by_cases m:n%16<3
  ·exact go ["pair",x,w,y,z] (l45 (by simp) (fun _=>⟨_,_,_,_,p,rfl⟩) (by simp)) fun h=>by simp[Qk,Zs,a,b,c,hw,f,e,d,A,j,m,Qj]
  ·by_cases u:n%16<5
   ·exact go ["first",x,y] (l45 (by simp) (by simp) (by simp)) fun h=>by simp[Qk,Zs,a,b,c,hw,f,e,d,j,m,u,Qj]
   ·by_cases t:n%16=5
    ·exact go ["second",x,y] (l45 (by simp) (by simp) (by simp)) fun h=>by simp[Qk,Zs,a,b,c,hw,f,e,d,t,Qj]
    ·by_cases s:n%16=6
     ·exact go ["same",x,y] (l45 (by simp) (by simp) (by simp)) fun h=>by simp[Qk,Zs,a,b,c,hw,f,e,d,s,Qj]
     ·by_cases r:n%16=7
      ·exact go ["none",x] (l45 (by simp) (by simp) (by simp)) fun h=>by simp[Qk,Zs,a,b,c,hw,f,e,d,r,Qj]
      ·exact go ["tell",y] (l45 (by simp) (by simp) (by simp)) fun h=>by simp[Qk,Zs,a,b,c,hw,f,e,d,j,m,u,t,s,r,Qj]
theorem Qb0{h:MH}{n:Nat}{o:MO}(e:h[n]?=some o):h.set n o=h:=by
 apply DA;intro i
 by_cases c:n=i
 ·subst c;rw[Es (Nm.mp e).1,e]
 ·rw[EC c]
theorem Qaw{wt:List Str}{wl others:List Str}(e:wt.length<=1000):∃ls:List Ln,(∀l∈ls,L45 wl others l)/\ls.length<=2*wt.length/\∀(h:MH) (n:Nat),h[n]?=some (.lst (wt.map .str))->ZG [.ref n] h=some (.lst (ls.map Qj),h):=by
 have p:L45 wl others ["or"]:=l45 (by simp) (by simp) (by simp);have a:L45 wl others ["end"]:=l45 (by simp) (by simp) (by simp)
 have d:=K0 (items:=(wt.map W.str).reverse) (src:=some (.r 0)) (b:=QF 2) (body:=JU) (fun n i h=>∃(ls:List Ln) (x:Option W),i=[some (.ref 0),some (.ref 1),x]/\h=[.lst (wt.map .str),.lst (ls.map Qj)]/\(∀l∈ls,L45 wl others l)/\ls.length<=2*n)
  (by
   rintro n i h ⟨ls,x,rfl,rfl,_⟩ z D
   cases D;show some (MO.lst (wt.map W.str))=some (.lst ((wt.map W.str).reverse.reverse))
   rw[IJ])
  ((wt.map W.str).reverse) 0 [some (.ref 0),some (.ref 1),none] [.lst (wt.map .str),.lst []] ⟨[],none,rfl,rfl,by simp,by simp⟩ (by
   rintro j w u i h ⟨ls,x,rfl,rfl,f,v⟩
   rw[<-List.map_reverse,NB]at u;obtain⟨y,E,rfl⟩:=Nk.mp u;have q:=(Nm.mp E).1;rw[DG]at q;have s:ls.length<sizeLine:=szN (by lia);have B:ls.length+1<sizeLine:=szN (by lia)
   by_cases c:y="either"
   ·refine⟨[some (.ref 0),some (.ref 1),some (.str y)],rfl,_,[.lst (wt.map .str),.lst ((ls++[(["or"]:Ln),(["end"]:Ln)]).map Qj)],.inl ?_,ls++[(["or"]:Ln),(["end"]:Ln)],some (.str y),rfl,rfl,fun l e=>?_,by simp;lia⟩
    ·simp[c,s,B,tyW,Qj]
    ·rcases NO.mp e with z|z
     ·exact f l z
     ·simp at z;rcases z with rfl|rfl
      ·exact p
      ·exact a
   ·refine⟨[some (.ref 0),some (.ref 1),some (.str y)],rfl,_,[.lst (wt.map .str),.lst ((ls++[(["end"]:Ln)]).map Qj)],.inl ?_,ls++[(["end"]:Ln)],some (.str y),rfl,rfl,fun l e=>?_,by simp;lia⟩
    ·simp[c,s,tyW,Qj]
    ·rcases NO.mp e with z|z
     ·exact f l z
     ·rw[NG.mp z];exact a)
 obtain⟨A,N,H,ls,x,rfl,rfl,f,v⟩:=d;refine⟨ls,f,by simpa using v,fun h n t=>?_⟩;have G:Qfu (Qa (Qb 0) Qd) [some (.ref 0),some (.ref 1),none] [.lst (wt.map .str),.lst []]=some ((wt.map W.str).reverse,some (.r 0),[.lst (wt.map .str),.lst []]):=rfl
 have:=Qci (m:=QY) (ws:=[]) (vs:=ls.map Qj) (o:=.lst (wt.map .str)) (o':=.lst (wt.map .str)) (n:=n) (j:=0) (g:=[.lst (ls.map Qj)]) (h:=h) rfl t (by simp) (by
  simp[QY,Zs,Zi,G,H]) rfl (by simp) ⟨_,rfl,by simp⟩
 rw[show ZG=box frN QY from rfl,this,Qb0 t]
theorem in2{i a b:Int}{h:MH}:wIn false (.int i) (.tup [.int a,.int b]) h=some (.bl (decide (i=a\/i=b)),h):=by
 rw[Qhv rfl (by simp[XD,pln]) (by simp[dep]) (by simp[KB,dep])]
 have:inW (.int i) [.int a,.int b]=decide (i=a\/i=b):=by
  rw[Oa];simp only[inW,DS,List.any_nil,OY,Di,eqW,beq_iff_eq,decide_eq_true_eq];constructor
  ·rintro(z|z)
   ·exact .inl z.symm
   ·exact .inr z.symm
  ·rintro(z|z)
   ·exact .inl z.symm
   ·exact .inr z.symm
 rw[this];rfl
theorem Qfv{n:Nat}{ws:List Str}{h:MH}(a:h[n]?=some (.lst (ws.map .str))):wNe (.ref n) (.lst []) h=some (.bl (!ws.isEmpty),h):=by
 have c:drf h 40 (.ref n)=some (.lst (ws.map .str)):=by
  unfold drf;simp only[a,Jj h (ws.map .str) 39 JJ (Nf Va (by decide)),Fp]
 have b:drf h 40 (.lst [])=some (.lst []):=Jw h _ 40 rfl (by simp[dep,KB]);unfold wNe;rw[c,b];cases ws<;>simp[eqW,X5]
theorem Qf6{ws:List Str}{h:MH}:wNe (Zv ws) (.lst []) h=some (.bl (!ws.isEmpty),h):=by
 rw[QiN KQ rfl (Nf WI (by decide)) (by simp[dep,KB])];cases ws<;>simp[Zv,eqW,X5]
theorem Ws{a:Type}{xs:List a}{y:a}:atI (xs++[y]) (-1)=some y:=by
 unfold atI ixN;rw[if_neg (by decide),if_pos (by rw[Nv,Ec];lia)];have:(-1+((xs++[y]).length:Int)).toNat=xs.length:=by rw[Nv,Ec];lia
 rw[Nx,this];simp
theorem Qfc{n:Nat}(h:0<n):ixN n (-1)=some (n-1):=by
 unfold ixN;rw[if_neg (by decide),if_pos (by lia)];congr 1;lia
noncomputable abbrev nS(nu:W)(bs ws os:List Str)(dp:Int)(x8 x9:Option W):MSt:=[some nu,some (Zv bs),some (Zv ws),some (Zv os),some (.int dp),some (.ref 0),some (.ref 1),some (.ref 2),x8,x9]
noncomputable abbrev nH(lf:Int)(ls:List Ln)(wt:List Str):MH:=[.lst [.int lf],.lst (ls.map Qj),.lst (wt.map .str)]
theorem QeT {nu:W} {bs ws os:List Str} (hb:0<bs.length) (hw:0<ws.length) (Q:bs.length<=5) (N:ws.length<=5) {dp lf:Int} {ls:List Ln} {wt:List Str} {c:Int} (hc:0<=c) {x9:Option W} (hl:ls.length<=1000) (L:wt.length<=1000) :
  ∃G l g,L45 ws os l/\(g.length<=wt.length\/(g.length=wt.length+1/\(wt.length:Int)<dp))/\Je (nS nu bs ws os dp (some (.int c)) x9) (nH lf ls wt)=some (.nx (nS nu bs ws os dp (some (.int c)) (some (.int (c%16)))) (nH G (ls++[l]) g)):=by
 have d:ls.length<sizeLine:=szN (Nl (Nd hl (by decide)));have U:wt.length<sizeLine:=szN (Nl (Nd L (by decide)));have f:=Qfv (n:=2) (ws:=wt) (h:=nH lf ls wt) rfl;have A:=fun h=>Qf6 (ws:=os) (h:=h);have r:atI [W.int lf] 0=some (.int lf):=rfl
 by_cases D:(c%16=10\/c%16=12)/\(wt.length:Int)<dp
 ·obtain⟨y,w⟩:∃y:Str,atI [W.str "either",.str "again"] (if c%16=12 then 1 else 0)=some (.str y)/\(y="either"\/y="again"):=by
   by_cases z:c%16=12
   ·exact⟨"again",by rw[if_pos z];rfl,.inr rfl⟩
   ·exact⟨"either",by rw[if_neg z];rfl,.inl rfl⟩
  have B:atI (wt.map W.str++[.str y]) (-1)=some (.str y):=Ws;refine⟨lf,[y],wt++[y],l45 (by rcases w.2 with rfl|rfl<;>simp) (by rcases w.2 with rfl|rfl<;>simp) (by rcases w.2 with rfl|rfl<;>simp),.inr ⟨by simp,D.2⟩,?_⟩;have e1:=w.1;simp[nS,nH,in2,D,d,U,tyW,QbX,e1,B,Qj]
 ·by_cases C:(c%16=11\/c%16=13)/\wt≠[]
  ·have n1:¬((c%16=10\/c%16=12)/\(wt.length:Int)<dp):=D;have b:¬(c%16=10\/c%16=12):=by lia
   obtain⟨a,y,rfl⟩:∃u x,wt=u++[x]:=⟨wt.dropLast,wt.getLast C.2,(ET _).symm⟩
   have B:atI (a.map W.str++[.str y]) (-1)=some (.str y):=Ws;have H:ixN (a.length+1) (-1)=some a.length:=Qfc (DN _);have O:(a++[y]).isEmpty=false:=by simp
   rw[O]at f
   by_cases S:y="either"
   ·refine⟨lf,["or"],a++[("or":Str)],l45 (by simp) (by simp) (by simp),.inl (by simp),?_⟩;subst S;simp[nS,nH]at f;simp[nS,nH,in2,b,C.1,d,tyW,B,f,H,Qj]
   ·refine⟨lf,["end"],a,l45 (by simp) (by simp) (by simp),.inl (by simp),?_⟩;simp[nS,nH]at f;simp[nS,nH,in2,b,C.1,d,tyW,B,S,f,Qj]
  ·have t1:∀σ:MSt,True:=fun _=>trivial
   have b2:¬(c%16=11\/c%16=13)\/wt.isEmpty=true:=by
    by_cases z:wt=[]
    ·right;simp[z]
    ·left;exact fun q=>C ⟨q,z⟩
   by_cases s:13<c%16/\os≠[]/\0<lf
   ·have b:¬(c%16=10\/c%16=12):=by lia
    have E:¬(c%16=11\/c%16=13):=by lia
    have q:(0:Int)<os.length:=by
     have:=Qq.mpr s.2.1;lia
    obtain⟨o,Z,eo⟩:=Wr (xs:=os) (i:=c/16%(os.length:Nat)) (NY _ (Dv q)) (NV _ q);have m:os.isEmpty=false:=by simpa using s.2.1
    have X:0<os.length:=by lia
    refine⟨lf-1,["do",o],wt,l45 (by simp) (by simp) (fun _=>⟨o,Z,rfl⟩),.inl (Nu _),?_⟩;have I:ixN 1 0=some 0:=rfl;simp[nS,nH,in2,b,E,s.1,s.2.2,d,tyW,A,m,r,I,X,eo,Qj]
   ·obtain⟨l,P,p⟩:=Qet (others:=os) hc hb hw Q N;refine⟨lf,l,wt,P,.inl (Nu _),?_⟩
    by_cases b:(c%16=10\/c%16=12)
    ·have E:¬(wt.length:Int)<dp:=fun z=>D ⟨b,z⟩;have j:¬(c%16=11\/c%16=13):=by lia
     have e:¬13<c%16:=by lia
     simp[nS,nH,in2,b,E,j,e,d,tyW,p]
    ·by_cases j:(c%16=11\/c%16=13)
     ·have M:wt.isEmpty=true:=b2.resolve_left fun z=>z j;have e:¬13<c%16:=by lia
      rw[M]at f;simp[nS,nH]at f;simp[nS,nH,in2,b,j,e,d,tyW,f,p]
     ·by_cases e:13<c%16
      ·by_cases v:os=[]
       ·simp[nS,nH,in2,b,j,e,v,d,tyW,A,p];subst v;simp[A,p,d]
       ·have m:os.isEmpty=false:=by simpa using v
        have Y:¬0<lf:=fun z=>s ⟨e,v,z⟩;simp[nS,nH,in2,b,j,e,Y,d,tyW,A,m,r,p]
      ·simp[nS,nH,in2,b,j,e,d,tyW,p]
theorem Qcr{m:FM}{args as:List W}{w:W}{us us':List W}{n:Nat}{g h:MH}(hr:XB 0 args=some (as,[n]))(d:h[n]?=some (.lst us))(hu:ZD us=true)(e:m as [.lst us]=some (w,.lst us'::g))(hw:pur w=true)(a:ZD us'=true):box frN m args h=some (w,h.set n (.lst us')):=by
 have:=Wu (m:=m) (args:=args) (as:=as) (ns:=[n]) (os:=[.lst us]) (os':=[.lst us']) (g:=g) (h:=h) (w:=w) (w':=w) hr (by simp) (by simp[Zt,QeB,d,hu]) e rfl (by intro o c;rw[NG.mp c];exact⟨_,rfl,a⟩) (Qab _ w hw);rw[this];simp[QD]
theorem QcB{nums:List Int}(P:∀c∈nums,0<=c)(B:nums.length<=100){bs ws os:List Str}(U:0<bs.length)(hw:0<ws.length)(t:bs.length<=5)(r:ws.length<=5)(O:os.length<=5){dp:Int}(S:dp<=2)(lf:Int) :
  ∃(ls:List Ln) (a:Int),(∀l∈ls,L45 ws os l)/\ls.length<=nums.length+4/\∀(h:MH) (n:Nat),h[n]?=some (.lst [.int lf])->JM [.lst (nums.map .int),Zv bs,Zv ws,Zv os,.int dp,.ref n] h=some (.tup (ls.map Qj),h.set n (.lst [.int a])):=by
 have f:=QV (items:=nums.map W.int) (b:=QF 8) (body:=Je) (fun n A h=>∃(a:Int) (ls:List Ln) (d:List Str) (o e:Option W),A=nS (.lst (nums.map .int)) bs ws os dp o e/\h=nH a ls d/\(∀l∈ls,L45 ws os l)/\ls.length=n/\d.length<=2)
  (nums.map W.int) 0 (nS (.lst (nums.map .int)) bs ws os dp none none) (nH lf [] []) ⟨lf,[],[],none,none,rfl,rfl,by simp,rfl,NM _⟩ (by
   rintro j w C A h ⟨a,ls,d,o,e,rfl,rfl,v,E,u⟩
   rw[NB]at C;obtain⟨c,D,rfl⟩:=Nk.mp C;have Q:=(Nm.mp D).1;obtain⟨q,l,p,a1,a2,Z⟩:=QeT (nu:=.lst (nums.map .int)) (os:=os) U hw t r (dp:=dp) (lf:=a) (ls:=ls) (wt:=d) (P c (N5 D)) (x9:=e) (by lia) (Nl (Nd u (by decide)));refine⟨_,rfl,_,_,.inl Z,q,ls++[l],p,_,_,rfl,rfl,fun x N=>?_,by simp;lia,by rcases a2 with z|z<;>lia⟩
   rcases NO.mp N with z|z
   ·exact v x z
   ·rw[NG.mp z];exact a1)
 obtain⟨L,h',y,a,ls,d,o,e,rfl,rfl,v,E,u⟩:=f;rw[Ny,NJ]at E;obtain⟨m,Y,c2,X⟩:=Qaw (wt:=d) (wl:=ws) (others:=os) (Nl (Nd u (by decide)));refine⟨ls++m,a,fun l B=>(NO.mp B).elim (v l) (Y l),by rw[Nv];lia,fun h n s=>?_⟩;have H:=X (nH a ls d) 2 rfl;have G:∀h:MH,QC (Qb 0) (nS (.lst (nums.map .int)) bs ws os dp none none) h=some (nums.map .int,none,h):=fun _=>rfl;have z:ls.length+m.length<=sizeLine:=Nl (szN (by lia));refine Qcr (as:=[.lst (nums.map .int),Zv bs,Zv ws,Zv os,.int dp,.ref 0]) (us:=[.int lf]) (us':=[.int a]) (g:=[.lst (ls.map Qj),.lst (d.map .str)]) (by simp[XB,Zv]) s (by simp) ?_ (by simp) (by simp)
 have I:QL (.ref 1) (.lst (m.map Qj)) (nH a ls d)=some (.lst (ls.map Qj++m.map Qj),nH a ls d):=by
  unfold QL;simp[lsW,loW,nH,z]
 simp only[nS,nH]at y G H I;simp at y;simp[Jq,Zs,Zi,G,y,H,I,z]
theorem Kf:∀{ws:List W},ZD ws=true->∀{k:Nat},XB k ws=some (ws,[])
 |[],_,k=>rfl
 |a::r,b,k=>by
  unfold ZD at b;rw[NX]at b;have:=Kf b.2 (k:=k);cases a<;>first|(unfold pur at b;cases b.1;done)|(unfold XB;rw[if_pos b.1,this];rfl)
theorem VH{m:FM}{ws vs:List W}{j:Nat}{g h:MH}(c:ZD ws=true)(e:m ws []=some (.ref j,g))(d:g[j]?=some (.lst vs))(b:ZD vs=true):box frN m ws h=some (.lst vs,h):=by
 have hr:XB 0 ws=some (ws,[]):=Kf c
 have:=Wu (m:=m) (args:=ws) (as:=ws) (ns:=[]) (os:=[]) (os':=[]) (g:=g) (h:=h) (w:=.ref j) (w':=.lst vs) hr (by simp) rfl e rfl (by simp) (by
  unfold th res
  simp[Vy,d,ZR _ vs b])
 simpa[QD]using this
noncomputable def J1:List Str:=["pairs","o","seconda","nones","en","backs","eithera","ors","dos","ends","agains","parts","firs"]
noncomputable def JY:List Str:=["same","tells","firsts"]
noncomputable def keptN:List Str:=["pair","first","second","none","tell","back","either","or","again","end","do","part"]
noncomputable def abc:Str:="abcdefghijklmnopqrstuvwxyz"
theorem QfT:abc.length=26:=by decide +kernel
theorem Qbr{i:Int}(h0:0<=i)(h1:i<26)(h:MH):wIx (.str abc) (.int i) h=some (.str ⟨#[97+i.toNat]⟩,h):=by
 have e:abc.cps.toList=(List.range 26).map (97+·):=by decide +kernel
 refine Qfh (by rw[QfT];decide) ?_;obtain⟨n,rfl⟩:∃n:Nat,i=n:=⟨i.toNat,by exact(Fc ‹_›).symm⟩
 rw[Zc,e,NB,DF (by lia)];rfl
theorem QeN:(J1++JY).Nodup:=by
 unfold J1 JY;simp
theorem Zr{a:Type}{m:Nat}{f:Nat->a}(d:∀i j,i<m->j<m->f i=f j->i=j):((List.range m).map f).Nodup:=by
 unfold List.Nodup;rw[EY];refine F6 ?_ Oh;intro i j c b lt e;have:=d i j (N9.mp c) (N9.mp b) e;exact Dq (Nq this.symm) lt
noncomputable abbrev gS(n:Int)(m:Nat)(b x6 x7 x8 x9 a:Option W):MSt:=[some (.int n),some (.int m),some (.str abc),some (.lst ((J1++JY).map .str)),some (.tup (keptN.map .str)),b,x6,x7,x8,x9,a]
theorem Kz{fin:List W->MH->Option (W×MH)}{ms:MA}{cp:List (Option Nat)}{me:ME}{σ caps:MSt}{h:MH}{m:Nat}(f:Nat->Str)(e:ms σ h=some ([.int (m:Int)],h))(d:∃o,Qbh cp σ=o::caps)(a:m<=1000)(c:∀k,k<m->me (some (.int (k:Int))::caps) h=some (.str (f k),h)) :
  Qz Jg (ZO ms) cp (QF 0) Vn me σ h=some (Zv ((List.range m).map f),h):=by
 let g:W->W:=fun w=>match w with|.int i=>.str (f i.toNat)|w=>w
 have:=XC (fin:=Jg) (mi:=ZO ms) (cp:=cp) (me:=me) (σ:=σ) (h:=h) (items:=Ql 0 m) g (ZU e (Nd a (by decide))) d (by
  intro w hw;unfold Ql at hw;obtain⟨k,b,rfl⟩:=NE.mp hw;rw[N9]at b;have:=c k b
  simpa[g]using this) (by rw[QJ];exact Nl (szN (Nl (Nd a (by decide)))))
 rw[this];show some (W.lst ((Ql 0 m).map g),h)=_;unfold Zv Ql;rw[Em,Em];congr 3;apply E1;intro k _;simp[g]
theorem Wc{a b:List W}{h:MH}:QL (.lst a) (.lst b) h=if a.length+b.length<=sizeLine then some (.lst (a++b),h)else none:=id rfl
theorem X9{n:Int}{m:Nat}{f:SM}:Qs (QQ 2 (mC (.str "abcdefghijklmnopqrstuvwxyz"))) (Qs (QQ 3 (mFn JE (Qa (mC (.str "pairs")) (Qa (mC (.str "o")) (Qa (mC (.str "seconda")) (Qa (mC (.str "nones")) (Qa (mC (.str "en")) (Qa (mC (.str "backs")) (Qa (mC (.str "eithera")) (Qa (mC (.str "ors")) (Qa (mC (.str "dos")) (Qa (mC (.str "ends")) (Qa (mC (.str "agains")) (Qa (mC (.str "parts")) (Qa (mC (.str "firs")) Qd)))))))))))))))
  (Qs (QQ 3 (Qc QL (Qb 3) (mFn JE (Qa (mC (.str "same")) (Qa (mC (.str "tells")) (Qa (mC (.str "firsts")) Qd))))))
  (Qs (QQ 4 (mFn Zg (Qa (mC (.str "pair")) (Qa (mC (.str "first")) (Qa (mC (.str "second")) (Qa (mC (.str "none")) (Qa (mC (.str "tell")) (Qa (mC (.str "back")) (Qa (mC (.str "either")) (Qa (mC (.str "or")) (Qa (mC (.str "again")) (Qa (mC (.str "end")) (Qa (mC (.str "do")) (Qa (mC (.str "part")) Qd)))))))))))))) f)))
  [some (.int n),some (.int m),none,none,none,none,none,none,none,none,none] []=f (gS n m none none none none none none) []:=by
 have b:13<=sizeLine:=by decide
 have c:12<=sizeLine:=by decide
 have a:16<=sizeLine:=by decide
 simp[gS,b,c,a,J1,JY,keptN,abc,Wc]
noncomputable def nmX(b a:Str)(q:Int)(k:Nat):Str:=b++(⟨#[97+((q+3*(k:Int))%26).toNat]⟩:Str)++a
noncomputable def nm(b a:Str)(q:Int)(k:Nat):Str:=if nmX b a q k∈keptN then nmX b a q k++"s"else nmX b a q k
theorem XT(x y:Str):(x++y).cps.toList=x.cps.toList++y.cps.toList:=by
 show(x.cps++y.cps).toList=_;simp
theorem QfW{x y:Str}(h:x.cps.toList=y.cps.toList):x=y:=Sb.str_of h
theorem QbN{b a:Str}{q:Int}{i j:Nat}(hi:i<5)(c:j<5)(e:nmX b a q i=nmX b a q j):i=j:=by
 have:=congrArg (fun s:Str=>s.cps.toList) e;unfold nmX at this;simp only[XT,DC,List.append_cancel_left_eq]at this;simp at this;have f:0<=(q+3*(i:Int))%26:=NY _ (by decide);have d:0<=(q+3*(j:Int))%26:=NY _ (by decide);lia
theorem QgJ{b a:Str}{q:Int}{i j:Nat}(hi:i<5)(f:j<5)(e:nm b a q i=nm b a q j):i=j:=by
 have c:∀k,(nmX b a q k).cps.toList.length=b.cps.toList.length+1+a.cps.toList.length:=fun k=>by
  unfold nmX;rw[XT,XT,Nv,Nv];rfl
 have d:∀k,(nmX b a q k++("s":Str)).cps.toList.length=b.cps.toList.length+1+a.cps.toList.length+1:=fun k=>by
  rw[XT,Nv,c];rfl
 have g:=congrArg (fun s:Str=>s.cps.toList.length) e;unfold nm at e g;split at e<;>split at e
 ·have:=congrArg (fun s:Str=>s.cps.toList) e;simp only[XT,List.append_cancel_right_eq]at this;exact QbN hi f (QfW this)
 ·have:=congrArg (fun s:Str=>s.cps.toList.length) e;simp only[d,c]at this;lia
 ·have:=congrArg (fun s:Str=>s.cps.toList.length) e;simp only[d,c]at this;lia
 ·exact QbN hi f e
theorem Qes{x:Str}{h:MH}:wIn false (.str x) (.tup (keptN.map .str)) h=some (.bl (decide (x∈keptN)),h):=by
 rw[Qhv rfl JJ (by simp[dep]) (Nf Va (by decide))]
 have:inW (.str x) (keptN.map .str)=decide (x∈keptN):=by
  generalize keptN=L
  induction L with
  |nil=>rfl
  | cons y L b=>
   unfold inW at b ⊢;rw[NC,DS,b,Oa];simp only[eqW,Di,beq_iff_eq,decide_eq_true_eq,NF];constructor
   ·rintro(a|a)
    ·exact .inl a.symm
    ·exact .inr a
   ·rintro(a|a)
    ·exact .inl a.symm
    ·exact .inr a
 rw[this];rfl
theorem Yj{n:Int}(hn:0<=n){m:Nat}(C:m<=5):∃xs:List Str,xs.length=m/\xs.Nodup/\∀h:MH,Qv [.int n,.int m] h=some (Zv xs,h):=by
 by_cases c0:n%5=0
 ·let f:Nat->Str:=fun k=>(J1++JY).getD ((n/5+(k:Int))%16).toNat ""
  refine⟨(List.range m).map f,by simp,Zr fun i j hi N e=>?_,fun h=>ZE (by simp) (g:=[]) ?_ (by simp)⟩
  ·have a0:0<=(n/5+(i:Int))%16:=NY _ (by decide);have a1:(n/5+(i:Int))%16<16:=NV _ (by decide);have b0:0<=(n/5+(j:Int))%16:=NY _ (by decide);have c:(n/5+(j:Int))%16<16:=NV _ (by decide);have I:(J1++JY).length=16:=rfl;have ha:((n/5+(i:Int))%16).toNat<(J1++JY).length:=by rw[I];lia
   have r:((n/5+(j:Int))%16).toNat<(J1++JY).length:=by rw[I];lia
   have e':(J1++JY)[((n/5+(i:Int))%16).toNat]=(J1++JY)[((n/5+(j:Int))%16).toNat]:=by
    simp only[f,DT]at e;rwa[No ha,No r]at e
   have:=(D5 (h₀:=ha) (h₁:=r) QeN).mp e';omega
  ·have u:=Kz (fin:=Jg) (ms:=Qa (Qb 1) Qd) (cp:=[none,some 3,some 0]) (me:=Qc wIx (Qb 1) (Qc Zu (Qc QL (Qc Jc (Qb 2) (mC (.int 5))) (Qb 0)) (mC (.int 16)))) (σ:=gS n m none none none none none none) (h:=[]) (m:=m) f rfl ⟨_,rfl⟩ (Nl (Nd C (by decide))) (fun k A=>by
    have a0:0<=(n/5+(k:Int))%16:=NY _ (by decide);have a1:(n/5+(k:Int))%16<16:=NV _ (by decide)
    have v:atI ((J1++JY).map W.str) ((n/5+(k:Int))%16)=some (.str (f k)):=by
     obtain⟨q,hq⟩:∃q:Nat,(n/5+(k:Int))%16=q:=⟨((n/5+(k:Int))%16).toNat,by exact(Fc ‹_›).symm⟩
     have M:q<(J1++JY).length:=by show q<16;lia
     simp only[f,hq,Ez];rw[Zc,NB,No M];simp[DT,No M]
    rw[NL]at v
    simp[v])
   unfold Za Zs;show Qgf (Qs _ (Qs _ (Qs _ (Qs _ _))) [some (.int n),some (.int m),none,none,none,none,none,none,none,none,none] [])=_;rw[X9];generalize Qz Jg (ZO (Qa (Qb 1) Qd)) [none,some 3,some 0] (QF 0) Vn (Qc wIx (Qb 1) (Qc Zu (Qc QL (Qc Jc (Qb 2) (mC (.int 5))) (Qb 0)) (mC (.int 16))))=co at u;generalize o:(J1++JY).map W.str=L at u;simp only[gS,o]at u;simp only[gS,o];simp[c0,u]
 ·by_cases U:n%5=1
  ·have h0:0<=n/5%26:=NY _ (by decide);have h1:n/5%26<26:=NV _ (by decide)
   let x:Str:=⟨#[97+(n/5%26).toNat]⟩
   have rl:∀k:Nat,(rep x ((k:Int)+1)).cps.toList.length=k+1:=fun k=>by
    unfold rep;rw[show((k:Int)+1).toNat=k+1 by exact rfl];simp[x,Xv]
   refine⟨(List.range m).map fun(k:Nat)=>rep x ((k:Int)+1),by simp,Zr fun i j hi N e=>?_,fun h=>ZE (by simp) (g:=[]) ?_ (by simp)⟩
   ·have:=congrArg (fun s:Str=>s.cps.toList.length) e;simp only[rl]at this;lia
   ·have u:=Kz (fin:=Jg) (ms:=Qa (Qb 1) Qd) (cp:=[none,some 2,some 0]) (me:=Qc Zj (Qc wIx (Qb 1) (Qc Zu (Qc Jc (Qb 2) (mC (.int 5))) (mC (.int 26)))) (Qc QL (Qb 0) (mC (.int 1)))) (σ:=gS n m none none none none none none) (h:=[]) (m:=m) (fun(k:Nat)=>rep x ((k:Int)+1)) rfl ⟨_,rfl⟩ (Nl (Nd C (by decide))) (fun k A=>by
     have v:=Qbr h0 h1 [];have em:Zj (.str x) (.int ((k:Int)+1)) []=some (.str (rep x ((k:Int)+1)),[]):=Qhh ⟨by lia,by lia,by show x.cps.size<1000;simp[x]⟩
     simp[v,em,x]at em ⊢)
    unfold Za Zs;show Qgf (Qs _ (Qs _ (Qs _ (Qs _ _))) [some (.int n),some (.int m),none,none,none,none,none,none,none,none,none] [])=_;rw[X9];generalize Qz Jg (ZO (Qa (Qb 1) Qd)) [none,some 2,some 0] (QF 0) Vn (Qc Zj (Qc wIx (Qb 1) (Qc Zu (Qc Jc (Qb 2) (mC (.int 5))) (mC (.int 26)))) (Qc QL (Qb 0) (mC (.int 1))))=co at u;generalize o:(J1++JY).map W.str=L at u;simp only[gS,o]at u;simp only[gS,o];simp[U,u]
  ·have s0:0<=n/5%8:=NY _ (by decide);have s1:n/5%8<8:=NV _ (by decide);obtain⟨sz,Y⟩:∃sz:Nat,n/5%8=sz:=⟨(n/5%8).toNat,by exact(Fc ‹_›).symm⟩
   obtain⟨l,aa⟩:∃a:Int,n/40%(sz+1)=a:=⟨_,rfl⟩
   have sp:(0:Int)<sz+1:=by lia
   obtain⟨t,ht,Q⟩:=QaH (mi:=ZO (Qa (Qb 5) Qd)) (cp:=[none,some 2,some 0]) (me:=Qc wIx (Qb 1) (Qc Zu (Qc QL (Qc Jc (Qb 2) (mC (.int 360))) (Qc Zj (Qc Zj (mC (.int 5)) (Qb 0)) (Qb 0))) (mC (.int 26)))) (σ:=gS n m (some (.int sz)) (some (.int l)) none none none none) (h:=[]) (h1:=[]) (items:=Ql 0 sz) (m:=1) (caps:=[some (.str abc),some (.int n)]) (ZU rfl (by lia)) rfl (by
    intro w hw;unfold Ql at hw;obtain⟨k,A,rfl⟩:=NE.mp hw;rw[N9]at A;have n1:(-18446744073709551616:Int)<k:=by lia
    have n2:(k:Int)<18446744073709551616:=by lia
    have v:=Qbr (i:=(n/360+5*(k:Int)*k)%26) (NY _ (by decide)) (NV _ (by decide)) [];refine⟨⟨#[97+((n/360+5*(k:Int)*k)%26).toNat]⟩,by show(1:Nat)<=1;exact by decide,?_⟩
    simp[n1,n2,v]) (by rw[QJ];lia) (by rw[QJ];exact Nl (szN (by lia)))
   rw[QJ]at ht
   let c:Str:=Txt.slice t none (some l)
   let d:Str:=Txt.slice t (some l) none
   have l1:c.length<=10:=Nf (FX t _ _) (by lia);have l2:d.length<=10:=Nf (FX t _ _) (by omega);have lt':t.length<=sizeLine:=Nl (szN (by lia));have q0:∀k:Nat,0<=(n/9360+3*(k:Int))%26:=fun k=>NY _ (by decide);have q1:∀k:Nat,(n/9360+3*(k:Int))%26<26:=fun k=>NV _ (by decide)
   have len:∀x y:Str,(x++y).length=x.length+y.length:=fun x y=>by
    show(x.cps++y.cps).size=_;simp[Str.length]
   have H:=QV (items:=Ql 0 m) (b:=QF 9) (body:=Zl) (fun j G h=>∃S p,G=gS n m (some (.int sz)) (some (.int l)) (some (.str t)) (some (.ref 0)) S p/\h=[.lst (((List.range j).map fun k=>nm c d (n/9360) k).map .str)])
    (Ql 0 m) 0 (gS n m (some (.int sz)) (some (.int l)) (some (.str t)) (some (.ref 0)) none none) [.lst []] ⟨none,none,rfl,rfl⟩ (by
     rintro j w N G h ⟨S,p,rfl,rfl⟩
     obtain⟨Z,rfl⟩:=Jp N;rw[NJ]at *;have v:=fun h=>Qbr (q0 j) (q1 j) h;have U:c.length+1<=sizeLine:=Nl (szN (Nd l1 (by decide)));have c2:c.length+1+d.length<=sizeLine:=Nl (szN (by lia));have c3:c.length+1+d.length+1<=sizeLine:=Nl (szN (by lia));have z:j<sizeLine:=szN (Nl (N0 (Ng Z C) (by decide)));have X:(⟨#[97+((n/9360+3*(j:Int))%26).toNat]⟩:Str).length=1:=rfl;have ls:("s":Str).length=1:=by decide +kernel
     have ek:=fun h=>Qes (x:=nmX c d (n/9360) j) (h:=h);have P:∀h,wSl (.str t) none (some l) h=some (.str c,h):=fun h=>QaF lt';have O:∀h,wSl (.str t) (some l) none h=some (.str d,h):=fun h=>QaF lt';have en:(List.range (j+1)).map (fun k=>nm c d (n/9360) k)=(List.range j).map (fun k=>nm c d (n/9360) k)++[nm c d (n/9360) j]:=by rw[DP,NL];rfl
     refine⟨gS n m (some (.int sz)) (some (.int l)) (some (.str t)) (some (.ref 0)) (some (.int j)) p,rfl,gS n m (some (.int sz)) (some (.int l)) (some (.str t)) (some (.ref 0)) (some (.int j)) (some (.str (nm c d (n/9360) j))),_,.inl ?_,some (.int j),some (.str (nm c d (n/9360) j)),rfl,rfl⟩;rw[en,NL];have e1:∀h,QL (.str c) (.str (⟨#[97+((n/9360+3*(j:Int))%26).toNat]⟩:Str)) h=some (.str (c++(⟨#[97+((n/9360+3*(j:Int))%26).toNat]⟩:Str)),h):=fun h=>by rw[Qaz,if_pos (by rw[X];exact U)]
     have e2:∀h,QL (.str (c++(⟨#[97+((n/9360+3*(j:Int))%26).toNat]⟩:Str))) (.str d) h=some (.str (nmX c d (n/9360) j),h):=fun h=>by rw[Qaz,if_pos (by rw[len,X];exact c2)];rfl
     have e3:∀h,QL (.str (nmX c d (n/9360) j)) (.str "s") h=some (.str (nmX c d (n/9360) j++"s"),h):=fun h=>by rw[Qaz,if_pos (by unfold nmX;rw[len,len,X,ls];exact c3)]
     have r:=fun h=>ek h;clear ek
     by_cases A:nmX c d (n/9360) j∈keptN
     ·have ej:nm c d (n/9360) j=nmX c d (n/9360) j++"s":=by unfold nm;rw[if_pos A]
      rw[ej];rw[decide_eq_true A]at r;generalize o:(J1++JY).map W.str=L;generalize D:keptN.map W.str=K at r;generalize hM:((List.range j).map fun k=>nm c d (n/9360) k).map W.str=MM;have B:MM.length=j:=by rw[<-hM];simp
      simp[gS,o,D,P,O,v,e1,e2,e3,r,tyW,B,z]
     ·have ej:nm c d (n/9360) j=nmX c d (n/9360) j:=by unfold nm;rw[if_neg A]
      rw[ej];rw[decide_eq_false A]at r;generalize o:(J1++JY).map W.str=L;generalize D:keptN.map W.str=K at r;generalize hM:((List.range j).map fun k=>nm c d (n/9360) k).map W.str=MM;have B:MM.length=j:=by rw[<-hM];simp
      simp[gS,o,D,P,O,v,e1,e2,r,tyW,B,z])
   obtain⟨ag,h',el,S,p,rfl,rfl⟩:=H;rw[QJ,NJ]at el;refine⟨(List.range m).map fun k=>nm c d (n/9360) k,by simp,Zr fun i j hi N e=>QgJ (Ng hi C) (Ng N C) e,fun h=>?_⟩
   have E:Zi (ZO (Qa (Qb 1) Qd)) (QF 9) Zl (gS n m (some (.int sz)) (some (.int l)) (some (.str t)) (some (.ref 0)) none none) [.lst []]=some (.nx (gS n m (some (.int sz)) (some (.int l)) (some (.str t)) (some (.ref 0)) S p) [.lst (((List.range m).map fun k=>nm c d (n/9360) k).map .str)]):=by
    unfold Zi;rw[ZU (j:=m) rfl (Nd C (by decide)),Nx];exact el
   refine VH (j:=0) (g:=[.lst (((List.range m).map fun k=>nm c d (n/9360) k).map .str)]) (by simp) ?_ rfl KJ;unfold Za Zs;show Qgf (Qs _ (Qs _ (Qs _ (Qs _ _))) [some (.int n),some (.int m),none,none,none,none,none,none,none,none,none] [])=_;rw[X9];generalize Zi (ZO (Qa (Qb 1) Qd)) (QF 9) Zl=fo at E;generalize mMt "str" Gp (mC (.str "")) (Qa (Qz Jg (ZO (Qa (Qb 5) Qd)) [none,some 2,some 0] (QF 0) Vn (Qc wIx (Qb 1) (Qc Zu (Qc QL (Qc Jc (Qb 2) (mC (.int 360))) (Qc Zj (Qc Zj (mC (.int 5)) (Qb 0)) (Qb 0))) (mC (.int 26))))) Qd)=jo at Q;generalize o:(J1++JY).map W.str=L at E Q;generalize D:keptN.map W.str=K at E Q;generalize((List.range m).map fun k=>nm c d (n/9360) k).map W.str=MM at E;simp only[gS,o,D]at E Q;simp only[gS,o,D];have ah:0<sz+1:=by exact DN _
   simp[c0,U,Y,aa,sp,Q,E]
noncomputable def tot(P:List Pt):Nat:=(P.map fun x=>x.2.length).sum
structure PgOk(ws:List Str)(P:List Pt):Prop where
 five:ws.length<=5
 nd:(P.map (·.1)).Nodup
 ne:P≠[]
 len:P.length<=5
 ok:∀k x,P[k]?=some x->∀l∈x.2,L45 ws ((P.map (·.1)).drop (k+1)) l
 few:tot P<=100
theorem QhN{xs:List Str}(l:xs.Nodup){y:Str}{k:Nat}(m:y∈xs.drop k):∃i,k<=i/\i<xs.length/\∀h:MH,YN (.lst (xs.map .str)) [.str y] h=some (.int (i:Nat),h):=by
 obtain⟨j,b⟩:=NZ.mp m;rw[Le]at b;have a:=(Nm.mp b).1;refine⟨k+j,by exact Np _ _,a,fun h=>?_⟩
 have n:(xs.map W.str).findIdx? (fun z=>eqW z (.str y))=some (k+j):=by
  rw[Dl];refine⟨by simpa using a,?_,fun i g=>?_⟩
  ·have:=(Nm.mp b).2;simp[eqW,this]
  ·have c:i<xs.length:=by exact N0 g a
   simp only[List.getElem_map,eqW,Bool.not_eq_true,beq_eq_false_iff_ne];intro z;have d:=(Nm.mp b).2;have:=(D5 (h₀:=c) (h₁:=a) l).mp (z.trans d.symm);exact Dq (Nq this.symm) g
 unfold YN;have o:lsW h (.lst (xs.map .str))=some (xs.map .str):=rfl;have d:drf h 40 (.str y)=some (.str y):=rfl;simp only[o,Nx,d,Jj h (xs.map .str) 40 JJ (Nf Va (by decide)),n,Fp]
theorem K4{p:List Pt}{i:Nat}{x:Pt}(h:p[i]?=some x):atI (p.map Qr) (i:Int)=some (Qr x):=by rw[Zc,NB,h];rfl
theorem UL{ws:List Str}{P:List Pt}(g:PgOk ws P):∀(d k:Nat),k<P.length->5-k<=d->∃v:Int,∀h:MH,QK d [QE P,.int k] h=some (.int v,h)
 |0,k,h1,I=>by have:=g.len;lia
 | d+1,k,h1,I=>by
  have q:P[k]?=some P[k]:=No h1;generalize P[k]=x at q;have G:=fun E a b=>UL g d E a b;have M:=K4 q
  have e:=QV (items:=x.2.map Qj) (b:=QF 4) (body:=Zn (QK d)) (fun j n h=>∃(v:Int) (o:Option W),n=[some (QE P),some (.int k),some (.lst ((P.map (·.1)).map .str)),some (.int v),o]/\h=[])
   (x.2.map Qj) 0 [some (QE P),some (.int k),some (.lst ((P.map (·.1)).map .str)),some (.int 0),none] [] ⟨0,none,rfl,rfl⟩ (by
    rintro j w A n h ⟨v,o,rfl,rfl⟩
    rw[NB]at A;obtain⟨l,H,rfl⟩:=Nk.mp A;obtain⟨y,r,rfl,_,_,hd⟩:=(g.ok k x q l (N5 H)).head
    by_cases c:y="do"
    ·obtain⟨nm,s,rfl⟩:=hd c;subst c;obtain⟨i,S,z,m⟩:=QhN g.nd s;rw[Ny]at z;obtain⟨D,L⟩:=G i z (by omega);refine⟨[some (QE P),some (.int k),some (.lst ((P.map (·.1)).map .str)),some (.int v),some (Qj ["do",nm])],rfl,[some (QE P),some (.int k),some (.lst ((P.map (·.1)).map .str)),some (.int (v+1+D)),some (Qj ["do",nm])],[],.inl ?_,_,_,rfl,rfl⟩;simp only[Em]at m;simp[Qj,m,L,tyW]
    ·refine⟨[some (QE P),some (.int k),some (.lst ((P.map (·.1)).map .str)),some (.int v),some (Qj (y::r))],rfl,[some (QE P),some (.int k),some (.lst ((P.map (·.1)).map .str)),some (.int (v+1)),some (Qj (y::r))],[],.inl ?_,_,_,rfl,rfl⟩
     simp[Qj,c])
  obtain⟨C,U,N,v,o,rfl,rfl⟩:=e;refine⟨v,fun h=>ZE (g:=[]) (by simp) ?_ (by simp)⟩
  have u:Qz Jg (QC (Qb 0)) [none] (QF 0) Vn (Qc wIx (Qb 0) (mC (.int 0))) [some (QE P),some (.int k),none,none,none] []=some (.lst ((P.map (·.1)).map .str),[]):=by
   let f:W->W:=fun w=>match w with|.tup (a::_)=>a|w=>w
   have:=XC (fin:=Jg) (mi:=QC (Qb 0)) (cp:=[none]) (me:=Qc wIx (Qb 0) (mC (.int 0))) (σ:=[some (QE P),some (.int k),none,none,none]) (caps:=[]) (h:=[]) (items:=P.map Qr) f rfl ⟨_,rfl⟩ (by
    intro w hw;obtain⟨p,_,rfl⟩:=NE.mp hw
    rfl) (by rw[Ny];exact Nl (szN (by have:=g.len;exact Nl (Nd this (by decide)))))
   rw[this];show some (W.lst ((P.map Qr).map f),[])=_;rw[Em,Em];rfl
  have m:QC (Qc wIx (Qc wIx (Qb 0) (Qb 1)) (mC (.int 1))) [some (QE P),some (.int k),some (.lst ((P.map (·.1)).map .str)),some (.int 0),none] []=some (x.2.map Qj,none,[]):=by
   have:(Qc wIx (Qc wIx (Qb 0) (Qb 1)) (mC (.int 1))) [some (QE P),some (.int k),some (.lst ((P.map (·.1)).map .str)),some (.int 0),none] []=some (.tup (x.2.map Qj),[]):=by simp[QE,M,Qr]
   unfold QC;rw[this];rfl
  have t:Zi (QC (Qc wIx (Qc wIx (Qb 0) (Qb 1)) (mC (.int 1)))) (QF 4) (Zn (QK d)) [some (QE P),some (.int k),some (.lst ((P.map (·.1)).map .str)),some (.int 0),none] []=some (.nx [some (QE P),some (.int k),some (.lst ((P.map (·.1)).map .str)),some (.int v),o] []):=by
   unfold Zi;rw[m,Nx];exact N
  unfold Jx;generalize Zi (QC (Qc wIx (Qc wIx (Qb 0) (Qb 1)) (mC (.int 1)))) (QF 4) (Zn (QK d))=X at t;generalize Qz Jg (QC (Qb 0)) [none] (QF 0) Vn (Qc wIx (Qb 0) (mC (.int 0)))=co at u;generalize(P.map (·.1)).map W.str=Z at u t;simp[Zs,u,t]
theorem K8{a:Type}(xs:List a)(k:Nat):KI xs (some (k:Int)) none=xs.drop k:=by
 unfold KI;rw[HT.sIx_nat,HT.sIx_none]
 by_cases h:k<=xs.length
 ·rw[DQ h,Ej (by simp)]
 ·rw[LU (Nl (Fm.mp h)),Oj (Nu _),Oj (Nl (Fm.mp h))];simp
open Classical in
noncomputable def mx(ns:List Int)(k:Nat):Int:=if h:k<=1000 then(Yk ns k h).choose else 0
theorem Qbc(ns:List Int)(k:Nat):0<=mx ns k:=by
 unfold mx;split
 ·rename_i h;exact(Yk ns k h).choose_spec.1
 ·exact Int.le_refl _
theorem QbS(ns:List Int){k:Nat}(a:k<=1000)(h:MH):Qh [scr ns,.int k] h=some (.int (mx ns k),h):=by
 unfold mx;rw[dif_pos a];exact(Yk ns k a).choose_spec.2 h
theorem Vx{ms:MA}{cp:List (Option Nat)}{me:ME}{σ caps:MSt}{h:MH}{m:Nat}(f:Nat->W)(e:ms σ h=some ([.int (m:Int)],h))(d:∃o,Qbh cp σ=o::caps)(a:m<=1000)(c:∀k,k<m->me (some (.int (k:Int))::caps) h=some (f k,h)) :
  Qz Jg (ZO ms) cp (QF 0) Vn me σ h=some (.lst ((List.range m).map f),h):=by
 let g:W->W:=fun w=>match w with|.int i=>f i.toNat|w=>w
 have:=XC (fin:=Jg) (mi:=ZO ms) (cp:=cp) (me:=me) (σ:=σ) (h:=h) (items:=Ql 0 m) g (ZU e (Nd a (by decide))) d (by
  intro w hw;unfold Ql at hw;obtain⟨k,b,rfl⟩:=NE.mp hw;rw[N9]at b;have:=c k b
  simpa[g]using this) (by rw[QJ];exact Nl (szN (Nl (Nd a (by decide)))))
 rw[this];show some (W.lst ((Ql 0 m).map g),h)=_;unfold Ql;rw[Em];congr 3;apply E1;intro k _;simp[g]
theorem QeR{c:Int}{l:List Int}(d:l.length=8)(P:Int->Prop)(b:∀x∈l,P x):∃m,P m/\atI (l.map W.int) (c%8)=some (.int m):=by
 have h:0<=c%8:=NY _ (by decide);have g:c%8<8:=NV _ (by decide);obtain⟨x,_,a,e⟩:=Qex (xs:=l) (f:=W.int) (P:=P) h (by rw[d];exact g) b;exact⟨x,a,e⟩
noncomputable abbrev gP(ns:List Int)(hd:W)(m:Nat)(bs ws xs:List Str)(ct:Nat)(x8 x9 a x11 x12 x13:Option W):MSt:=[some (scr ns),some (.int 40),some hd,some (.int m),some (Zv bs),some (Zv ws),some (Zv xs),some (.int ct),x8,x9,a,x11,x12,x13]
theorem QeL{ns:List Int}{hd:W}{m ct k:Nat}{bs ws xs:List Str}(x:1<=m)(n:m<=5)(d:1<=ct)(a:ct<=60){x8 x9 x11 x12 x13:Option W}{h:MH} :
  ∃nu:List Int,nu.length=(List.range ct).countP (fun(j:Nat)=>decide ((j:Int)*m/ct=k))/\(∀c∈nu,0<=c)/\Qz Jg (ZO (Qa (Qb 7) Qd)) [none,some 0,some 10,some 7,some 3] (QF 0) (Qy (Qc wEq (Qc Jc (Qc Zj (Qb 0) (Qb 4)) (Qb 3)) (Qb 2))) (QB 2 Qh (Qa (Qb 1) (Qa (Qc QL (mC (.int 4)) (Qb 0)) Qd))) (gP ns hd m bs ws xs ct x8 x9 (some (.int k)) x11 x12 x13) h=some (.lst (nu.map .int),h):=by
 let f:W->W:=fun w=>match w with|.int j=>.int (mx ns (4+j.toNat))|w=>w
 let p:W->Bool:=fun w=>match w with|.int j=>j*m/ct==(k:Int)|_=>false
 have:=Qby (fin:=Jg) (mi:=ZO (Qa (Qb 7) Qd)) (cp:=[none,some 0,some 10,some 7,some 3]) (mt:=Qy (Qc wEq (Qc Jc (Qc Zj (Qb 0) (Qb 4)) (Qb 3)) (Qb 2))) (me:=QB 2 Qh (Qa (Qb 1) (Qa (Qc QL (mC (.int 4)) (Qb 0)) Qd))) (σ:=gP ns hd m bs ws xs ct x8 x9 (some (.int k)) x11 x12 x13) (caps:=[some (scr ns),some (.int k),some (.int ct),some (.int m)]) (h:=h) (items:=Ql 0 ct) f p (ZU rfl (Nd a (by decide))) ⟨_,rfl⟩ (by
   intro w hw;unfold Ql at hw;obtain⟨j,b,rfl⟩:=NE.mp hw;have l:(-18446744073709551616:Int)<m:=by lia
   have i:(m:Int)<18446744073709551616:=by lia
   have s:(0:Int)<ct:=by lia
   have r:(ct:Int)<1073741824:=by lia
   have q:0<ct:=by exact d
   simp[p,l,i,s,r,q]) (by
   intro w hw _;unfold Ql at hw;obtain⟨j,b,rfl⟩:=NE.mp hw;rw[N9]at b;have e:=QbS ns (k:=4+j) (by lia) h;push_cast at e
   simp[f,e]) (by rw[QJ];exact Nl (szN (Nl (Nd a (by decide)))))
 refine⟨((Ql 0 ct).filter p).map (fun w=>match w with|.int j=>mx ns (4+j.toNat)|_=>0),?_,fun c o=>?_,?_⟩
 ·rw[Ny,<-List.countP_eq_length_filter];unfold Ql;rw[List.countP_map];apply List.countP_congr;intro j _;simp[p]
 ·obtain⟨w,_,rfl⟩:=NE.mp o;cases w<;>first|exact Qbc _ _|exact Int.le_refl _
 ·rw[this]
  have e:(((Ql 0 ct).filter p).map (fun w=>match w with|.int j=>mx ns (4+j.toNat)|_=>0)).map W.int=((Ql 0 ct).filter p).map f:=by
   rw[Em];apply E1;intro w hw;have hw:=(Fj.mp hw).1;unfold Ql at hw;obtain⟨j,b,rfl⟩:=NE.mp hw;rfl
  rw[e];rfl
noncomputable def cnt(m ct n:Nat):Nat:=(List.range ct).countP (fun(j:Nat)=>decide ((j:Int)*m/ct<n))
theorem QcW(m ct n:Nat):cnt m ct (n+1)=cnt m ct n+(List.range ct).countP (fun(j:Nat)=>decide ((j:Int)*m/ct=n)):=by
 unfold cnt
 induction List.range ct with
 |nil=>rfl
 | cons a l e=>
  rw[FL,FL,FL,e]
  by_cases d:(a:Int)*m/ct<n
  ·have c:¬(a:Int)*m/ct=n:=by exact Int.ne_of_lt d
   have b:(a:Int)*m/ct<(n+1:Nat):=by lia
   rw[if_pos (decide_eq_true b),if_pos (decide_eq_true d),if_neg (by rw[decide_eq_false c];simp)];exact Fq _ _ _
  ·by_cases c:(a:Int)*m/ct=n
   ·have b:(a:Int)*m/ct<(n+1:Nat):=by lia
    rw[if_pos (decide_eq_true b),if_neg (by rw[decide_eq_false d];simp),if_pos (decide_eq_true c)];exact rfl
   ·have b:¬(a:Int)*m/ct<(n+1:Nat):=by lia
    rw[if_neg (by rw[decide_eq_false b];simp),if_neg (by rw[decide_eq_false d];simp),if_neg (by rw[decide_eq_false c];simp)];exact rfl
theorem Qik(m ct n:Nat):cnt m ct n<=ct:=by
 unfold cnt;exact Nf OG (by simp)
structure PtsOk(ws xs:List Str)(m ct n:Nat)(P:List Pt):Prop where
 nm:P.map (·.1)=xs.take n
 len:P.length=n
 ok:∀k x,P[k]?=some x->∀l∈x.2,L45 ws (xs.drop (k+1)) l
 few:tot P<=cnt m ct n+4*n
theorem QbO{ns:List Int}{hd:W}{m ct k:Nat}{bs ws xs:List Str}(M:1<=m)(j:m<=5)(v:1<=ct)(b:ct<=60)(f:xs.length=m)(N:k<m)(O:0<bs.length)(w:bs.length<=5)(hw:0<ws.length)(t:ws.length<=5){lf:Int}{P:List Pt}(g:PtsOk ws xs m ct k P){x11:Option W} :
  ∃(d:Int) (pt:Pt) (p:Option W),PtsOk ws xs m ct (k+1) (P++[pt])/\QA (gP ns hd m bs ws xs ct (some (.ref 0)) (some (.ref 1)) (some (.int k)) x11 none none) [.lst [.int lf],.lst (P.map Qr)]=some (.nx (gP ns hd m bs ws xs ct (some (.ref 0)) (some (.ref 1)) (some (.int k)) p none none) [.lst [.int d],.lst ((P++[pt]).map Qr)]):=by
 obtain⟨B,C,H,q⟩:=QeL (ns:=ns) (hd:=hd) (k:=k) (bs:=bs) (ws:=ws) (xs:=xs) M j v b (x8:=some (.ref 0)) (x9:=some (.ref 1)) (x11:=x11) (x12:=none) (x13:=none) (h:=[.lst [.int lf],.lst (P.map Qr)]);obtain⟨e,n⟩:∃e:Int,e=1+(if(m:Int)<4 then 1 else 0):=⟨_,rfl⟩
 obtain⟨r,d,L,Z,I⟩:=QcB (nums:=B) H (by rw[C];exact Nf OG (by simp;exact Nl (Nd b (by decide)))) (os:=xs.drop (k+1)) O hw w t (by rw[FI];exact Nf (Nf (ED _ _) (Nq f)) j) (dp:=e) (by rw[n];split<;>exact by decide) lf;have s:xs[k]?=some xs[k]:=No (Ng N (Nq f.symm));generalize xs[k]=x at s;refine⟨d,(x,r),some (.lst (B.map .int)),⟨?_,by simp[g.len],fun i y a l D=>?_,?_⟩,?_⟩
 ·rw[NL,g.nm,Ee,s];rfl
 ·rcases Et i P.length with z|z
  ·rw[NP z]at a;exact g.ok i y a l D
  ·have:i=k:=by
    have:=(Nm.mp a).1;simp at this;have:=g.len;lia
   subst this;rw[Dn z,g.len]at a;simp at a;subst a;exact L l D
 ·have h1:=g.few;have Q:tot (P++[(x,r)])=tot P+r.length:=by simp[tot]
  rw[Q,QcW,<-C];lia
 ·have S:=I [.lst [.int lf],.lst (P.map Qr)] 0 rfl;have U:atI (xs.map W.str) (k:Int)=some (.str x):=by rw[Zc,NB,s];rfl
  have o:KI (xs.map W.str) (some ((k:Int)+1)) none=(xs.drop (k+1)).map .str:=by
   have:=K8 (xs.map W.str) (k+1);push_cast at this;rw[this,List.map_drop]
  have z:P.length<sizeLine:=szN (by have:=g.len;lia);unfold QA;generalize Qz Jg (ZO (Qa (Qb 7) Qd)) [none,some 0,some 10,some 7,some 3] (QF 0) (Qy (Qc wEq (Qc Jc (Qc Zj (Qb 0) (Qb 4)) (Qb 3)) (Qb 2))) (QB 2 Qh (Qa (Qb 1) (Qa (Qc QL (mC (.int 4)) (Qb 0)) Qd)))=co at q;simp only[gP]at q
  have A:∀h,wSl (Zv xs) (some ((k:Int)+1)) none h=some (Zv (xs.drop (k+1)),h):=fun h=>by
   show some (W.lst (KI (xs.map W.str) (some ((k:Int)+1)) none),h)=_;rw[o];rfl
  have a:(1:Int)+(if(m:Int)<4 then 1 else 0)=e:=n.symm
  have u:(1:Int)+(if m<4 then 1 else 0)=e:=by
   rw[<-a]
   by_cases c:m<4
   ·rw[if_pos c,if_pos (by lia)]
   ·rw[if_neg c,if_neg (by lia)]
  simp[gP,q,A,QbX,a,u,S,U,z,tyW,Qr]
theorem Qeg{ls:Ln}{n:Nat}:(List.replicate n [Qj ls]).flatten=(List.replicate n ls).map Qj:=by
 induction n with
 |zero=>rfl
 |succ n a=>rw[EQ,DD,a,EQ,NC];rfl
theorem UV(ns:List Int)(hl:ns.length<=63):∃(ws:List Str) (P:List Pt),PgOk ws P/\∀h:MH,Z9 [scr ns,.int 40] h=some (QE P,h):=by
 have E:Qz Jg (ZO (Qa (mC (.int 4)) Qd)) [none,some 0] (QF 0) Vn (QB 2 Qh (Qa (Qb 1) (Qa (Qb 0) Qd))) [some (scr ns),some (.int 40),none,none,none,none,none,none,none,none,none,none,none,none] []=some (.lst [.int (mx ns 0),.int (mx ns 1),.int (mx ns 2),.int (mx ns 3)],[]):=by
  have:=Vx (ms:=Qa (mC (.int 4)) Qd) (cp:=[none,some 0]) (me:=QB 2 Qh (Qa (Qb 1) (Qa (Qb 0) Qd))) (σ:=[some (scr ns),some (.int 40),none,none,none,none,none,none,none,none,none,none,none,none]) (caps:=[some (scr ns)]) (h:=[]) (m:=4) (fun k=>.int (mx ns k)) rfl ⟨_,rfl⟩ (by decide) (fun k hk=>by
   have e:=QbS ns (k:=k) (Nl (N0 hk (by decide))) []
   simp[e])
  rw[this];rfl
 have g0:=Qbc ns 0;have g1:=Qbc ns 1;have g2:=Qbc ns 2;have g3:=Qbc ns 3;obtain⟨m',bj,em⟩:=QeR (c:=mx ns 0) (l:=[1,1,2,2,3,3,2,5]) rfl (fun x=>1<=x/\x<=5) (by simp);obtain⟨m,rfl⟩:∃m:Nat,m'=m:=⟨m'.toNat,by lia⟩
 obtain⟨b',bn,eb⟩:=QeR (c:=mx ns 1) (l:=[1,2,2,3,3,2,3,5]) rfl (fun x=>1<=x/\x<=5) (by simp);obtain⟨b,rfl⟩:∃m:Nat,b'=m:=⟨b'.toNat,by lia⟩
 obtain⟨w',bg,ew⟩:=QeR (c:=mx ns 2) (l:=[1,2,2,3,1,2,3,5]) rfl (fun x=>1<=x/\x<=5) (by simp);obtain⟨w,rfl⟩:∃m:Nat,w'=m:=⟨w'.toNat,by lia⟩
 obtain⟨bs,b1,_,b3⟩:=Yj (n:=mx ns 1/8) (Int.ediv_nonneg g1 (by decide)) (m:=b) (by lia);obtain⟨ws,w1,_,w3⟩:=Yj (n:=mx ns 2/8) (Int.ediv_nonneg g2 (by decide)) (m:=w) (by lia);obtain⟨D,Z,x2,x3⟩:=Yj (n:=mx ns 3) g3 (m:=m) (by lia);obtain⟨I,an⟩:∃c:Int,c=(if(3+mx ns 0/8%6)>(if(40:Int)<(ns.length:Int)-4 then 40 else(ns.length:Int)-4)then(3+mx ns 0/8%6)else(if(40:Int)<(ns.length:Int)-4 then 40 else(ns.length:Int)-4)):=⟨_,rfl⟩
 have q0:0<=mx ns 0/8%6:=NY _ (by decide);have q1:mx ns 0/8%6<6:=NV _ (by decide);have bm:1<=I/\I<=60:=by rw[an];split<;>split<;>lia
 obtain⟨ct,rfl⟩:∃m:Nat,I=m:=⟨I.toNat,by lia⟩
 obtain⟨lf,ak⟩:∃lf:Int,atI [W.int 3,.int 1] (if(12:Int)<ct then 1 else 0)=some (.int lf):=by
  by_cases c:(12:Int)<ct
  ·exact⟨1,by rw[if_pos c];rfl⟩
  ·exact⟨3,by rw[if_neg c];rfl⟩
 have aj:atI [W.int 3,.int 1] (if 12<ct then 1 else 0)=some (.int lf):=by
  rw[<-ak]
  by_cases c:12<ct
  ·rw[if_pos c,if_pos (by lia)]
  ·rw[if_neg c,if_neg (by lia)]
 let hd:W:=.lst [.int (mx ns 0),.int (mx ns 1),.int (mx ns 2),.int (mx ns 3)]
 have aa:=QV (items:=Ql 0 m) (b:=QF 10) (body:=QA) (fun k σ h=>∃(o:Int) (P:List Pt) (C s:Option W),σ=gP ns hd m bs ws D ct (some (.ref 0)) (some (.ref 1)) C s none none/\h=[.lst [.int o],.lst (P.map Qr)]/\PtsOk ws D m ct k P)
  (Ql 0 m) 0 (gP ns hd m bs ws D ct (some (.ref 0)) (some (.ref 1)) none none none none) [.lst [.int lf],.lst []] ⟨lf,[],none,none,rfl,rfl,⟨by simp,rfl,by simp,by simp[tot]⟩⟩ (by
   rintro j w hj σ h ⟨o,P,C,s,rfl,rfl,g⟩
   obtain⟨av,rfl⟩:=Jp hj;rw[NJ]at *;obtain⟨aq,pt,bf,g',e⟩:=QbO (ns:=ns) (hd:=hd) (bs:=bs) (ws:=ws) (xs:=D) (by lia) (by lia) (ct:=ct) (by lia) (by lia) Z av (by lia) (by lia) (by lia) (by lia) (lf:=o) g (x11:=s)
   exact⟨_,rfl,_,_,.inl e,aq,P++[pt],_,_,rfl,rfl,g'⟩)
 obtain⟨be,h',el,o,P,C,s,rfl,rfl,g⟩:=aa;rw[QJ,NJ]at g;have H:P.map (·.1)=D:=by rw[g.nm,Ej (Nq Z)]
 have ae:P≠[]:=fun z=>by have:=g.len;rw[z]at this;simp at this;lia
 have ax:=Qik m ct m;have aw:ct<=60:=by lia
 have q:PgOk ws P:=⟨by lia,by rw[H];exact x2,ae,by have:=g.len;lia,by rw[H];exact g.ok,Nf g.few (by lia)⟩
 obtain⟨d,P1,rfl⟩:∃d P1,P=d::P1:=by
  cases P with
  |nil=>exact absurd rfl ae
  |cons a b=>exact⟨a,b,rfl⟩
 obtain⟨f,y,rfl⟩:∃u x,D=u++[x]:=⟨D.dropLast,D.getLast (fun z=>by rw[z]at Z;simp at Z;lia),(ET _).symm⟩
 obtain⟨B,a0⟩:∃r:Int,2+mx ns 3/7%4=r:=⟨_,rfl⟩
 have r0:0<=mx ns 3/7%4:=NY _ (by decide);have r1:mx ns 3/7%4<4:=NV _ (by decide);have al:atI ((f.map W.str)++[.str y]) (-1)=some (.str y):=Ws
 have ai:∀h,WF (.tup [.tup [.str "do",.str y]]) (.int B) h=some (.tup ((List.replicate B.toNat (["do",y]:Ln)).map Qj),h):=fun h=>by
  unfold WF;simp only[];rw[if_pos ⟨by lia,by lia,by simp,by simp⟩];have:=Qeg (ls:=(["do",y]:Ln)) (n:=B.toNat);rw[<-this];rfl
 let Mo:List Pt:=(d.1,List.replicate B.toNat (["do",y]:Ln)++d.2)::P1
 have bc:tot (d::P1)<=ct+4*m:=Nf g.few (EX ax _)
 have bi:d.2.length<=400:=by
  have:tot (d::P1)=d.2.length+tot P1:=by simp[tot]
  lia
 have ab:atI ((f++[y]).map W.str) 0=some (.str d.1):=by
  have:((d::P1).map (·.1))[0]?=(f++[y])[0]?:=by rw[H]
  simp only[NC,Fg]at this;have h0:=Zc (xs:=(f++[y]).map W.str) (n:=0);rw[show((0:Nat):Int)=0 from rfl]at h0;rw[h0,NB,<-this];rfl
 have ao:∀h,QL (.tup ((List.replicate B.toNat (["do",y]:Ln)).map Qj)) (.tup (d.2.map Qj)) h=some (.tup ((List.replicate B.toNat (["do",y]:Ln)++d.2).map Qj),h):=fun h=>by
  rw[Qd0,if_pos (Nl (szN (by simp;lia))),<-NL]
 have am:∀h:MH,h=[.lst [.int o],.lst ((d::P1).map Qr)]->wSl (.ref 1) (some 1) none h=some (.lst (P1.map Qr),h):=fun h eh=>by
  subst eh;have:=K8 ((d::P1).map Qr) 1;show some (W.lst (KI ((d::P1).map Qr) (some 1) none),_)=_;rw[show((1:Nat):Int)=1 from rfl]at this;rw[this];rfl
 have M:∀h,QL (.tup [.tup [.str d.1,.tup ((List.replicate B.toNat (["do",y]:Ln)++d.2).map Qj)]]) (.tup (P1.map Qr)) h=some (QE Mo,h):=fun h=>by
  have au:=q.len;rw[Qd0,if_pos (Nl (szN (by simp at au ⊢;lia)))];rfl
 have ag:1<m->PgOk ws Mo:=fun h1=>by
  have en:Mo.map (·.1)=(d::P1).map (·.1):=rfl;refine⟨q.five,by rw[en];exact q.nd,by simp[Mo],q.len,fun k x hk l af=>?_,?_⟩
  ·rw[en];cases k with
   | zero=>
    have:(d.1,List.replicate B.toNat (["do",y]:Ln)++d.2)=x:=by simpa[Mo]using hk
    subst this
    rcases NO.mp af with z|z
    ·rw[(List.mem_replicate.mp z).2];refine l45 (by simp) (by simp) fun _=>⟨y,?_,rfl⟩
     rw[H];have as:1<=f.length:=by rw[Nv,Ec]at Z;lia
     rw[List.drop_append_of_le_length as];simp
    ·exact q.ok 0 d rfl l z
   |succ k=>exact q.ok (k+1) x (by simpa[Mo]using hk) l af
  ·have:tot Mo=B.toNat+tot (d::P1):=by simp[tot,Mo];exact Li _ _ _
   rw[this];lia
 obtain⟨R,hR,eR⟩:∃R:List Pt,PgOk ws R/\Ze [scr ns,.int 40] []=some (QE R,[.lst [.int o],.lst ((d::P1).map Qr)]):=by
  have L:Zi (ZO (Qa (Qb 3) Qd)) (QF 10) QA (gP ns hd m bs ws (f++[y]) ct (some (.ref 0)) (some (.ref 1)) none none none none) [.lst [.int lf],.lst []]=some (.nx (gP ns hd m bs ws (f++[y]) ct (some (.ref 0)) (some (.ref 1)) C s none none) [.lst [.int o],.lst ((d::P1).map Qr)]):=by
   unfold Zi;rw[ZU (j:=m) rfl (by lia),Nx];exact el
  have ba:atI [W.int 1,.int 1,.int 2,.int 2,.int 3,.int 3,.int 2,.int 5] (mx ns 0%8)=some (.int m):=em;have bb:atI [W.int 1,.int 2,.int 2,.int 3,.int 3,.int 2,.int 3,.int 5] (mx ns 1%8)=some (.int b):=eb;have az:atI [W.int 1,.int 2,.int 2,.int 3,.int 1,.int 2,.int 3,.int 5] (mx ns 2%8)=some (.int w):=ew;have i0:atI [W.int (mx ns 0),.int (mx ns 1),.int (mx ns 2),.int (mx ns 3)] 0=some (.int (mx ns 0)):=rfl;have i1:atI [W.int (mx ns 0),.int (mx ns 1),.int (mx ns 2),.int (mx ns 3)] 1=some (.int (mx ns 1)):=rfl;have i2:atI [W.int (mx ns 0),.int (mx ns 1),.int (mx ns 2),.int (mx ns 3)] 2=some (.int (mx ns 2)):=rfl;have i3:atI [W.int (mx ns 0),.int (mx ns 1),.int (mx ns 2),.int (mx ns 3)] 3=some (.int (mx ns 3)):=rfl
  have Y:(Qc wIx (mFn JE (Qa (mC (.int 1)) (Qa (mC (.int 1)) (Qa (mC (.int 2)) (Qa (mC (.int 2)) (Qa (mC (.int 3)) (Qa (mC (.int 3)) (Qa (mC (.int 2)) (Qa (mC (.int 5)) Qd))))))))) (Qc Zu (Qc wIx (Qb 2) (mC (.int 0))) (mC (.int 8)))) [some (scr ns),some (.int 40),some hd,none,none,none,none,none,none,none,none,none,none,none] []=some (.int m,[]):=by
   simp[hd,ba]
  have X:(QB 2 Qv (Qa (Qc Jc (Qc wIx (Qb 2) (mC (.int 1))) (mC (.int 8))) (Qa (Qc wIx (mFn JE (Qa (mC (.int 1)) (Qa (mC (.int 2)) (Qa (mC (.int 2)) (Qa (mC (.int 3)) (Qa (mC (.int 3)) (Qa (mC (.int 2)) (Qa (mC (.int 3)) (Qa (mC (.int 5)) Qd))))))))) (Qc Zu (Qc wIx (Qb 2) (mC (.int 1))) (mC (.int 8)))) Qd))) [some (scr ns),some (.int 40),some hd,some (.int m),none,none,none,none,none,none,none,none,none,none] []=some (Zv bs,[]):=by
   simp[hd,bb,b3]
  have U:(QB 2 Qv (Qa (Qc Jc (Qc wIx (Qb 2) (mC (.int 2))) (mC (.int 8))) (Qa (Qc wIx (mFn JE (Qa (mC (.int 1)) (Qa (mC (.int 2)) (Qa (mC (.int 2)) (Qa (mC (.int 3)) (Qa (mC (.int 1)) (Qa (mC (.int 2)) (Qa (mC (.int 3)) (Qa (mC (.int 5)) Qd))))))))) (Qc Zu (Qc wIx (Qb 2) (mC (.int 2))) (mC (.int 8)))) Qd))) [some (scr ns),some (.int 40),some hd,some (.int m),some (Zv bs),none,none,none,none,none,none,none,none,none] []=some (Zv ws,[]):=by
   simp[hd,az,w3]
  have S:(QB 2 Qv (Qa (Qc wIx (Qb 2) (mC (.int 3))) (Qa (Qb 3) Qd))) [some (scr ns),some (.int 40),some hd,some (.int m),some (Zv bs),some (Zv ws),none,none,none,none,none,none,none,none] []=some (Zv (f++[y]),[]):=by
   simp[hd,x3]
  have Q:(mFn Qga (Qa (mFn Qge (Qa (Qc QfC (mFn ZZ (Qa (Qb 0) Qd)) (mC (.int 4))) (Qa (Qb 1) Qd))) (Qa (Qc QL (mC (.int 3)) (Qc Zu (Qc Jc (Qc wIx (Qb 2) (mC (.int 0))) (mC (.int 8))) (mC (.int 6)))) Qd))) [some (scr ns),some (.int 40),some hd,some (.int m),some (Zv bs),some (Zv ws),some (Zv (f++[y])),none,none,none,none,none,none,none] []=some (.int ct,[]):=by
   rw[an];simp only[Qgj,s_c,QlT,QiW,Qe5,Qi7,QhG,scr];simp[hd]
  have O:(Qc wIx (mFn JE (Qa (mC (.int 3)) (Qa (mC (.int 1)) Qd))) (mFn QbX (Qa (Qc wGt (Qb 7) (mC (.int 12))) Qd))) [some (scr ns),some (.int 40),some hd,some (.int m),some (Zv bs),some (Zv ws),some (Zv (f++[y])),some (.int ct),none,none,none,none,none,none] []=some (.int lf,[]):=by
   simp[QbX,ak,aj]
  have A:(Qc WF (mFn Zg (Qa (mFn Zg (Qa (mC (.str "do")) (Qa (Qc wIx (Qb 6) (mUn QcQ (mC (.int 1)))) Qd))) Qd)) (Qc QL (mC (.int 2)) (Qc Zu (Qc Jc (Qc wIx (Qb 2) (mC (.int 3))) (mC (.int 7))) (mC (.int 4))))) (gP ns hd m bs ws (f++[y]) ct (some (.ref 0)) (some (.ref 1)) C s none none) [.lst [.int o],.lst ((d::P1).map Qr)]=some (.tup ((List.replicate B.toNat (["do",y]:Ln)).map Qj),[.lst [.int o],.lst ((d::P1).map Qr)]):=by
   have:=ai [.lst [.int o],.lst ((d::P1).map Qr)];simp only[NC]at this ⊢;simp[gP,hd,al,a0,this]
  have t:(Qc QL (mFn Zg (Qa (mFn Zg (Qa (Qc wIx (Qb 6) (mC (.int 0))) (Qa (Qc QL (Qb 12) (Qc wIx (Qc wIx (Qb 9) (mC (.int 0))) (mC (.int 1)))) Qd))) Qd)) (mFn Z6 (Qa (mSl (Qb 9) (Xq (mC (.int 1))) YZ) Qd))) (gP ns hd m bs ws (f++[y]) ct (some (.ref 0)) (some (.ref 1)) C s (some (.tup ((List.replicate B.toNat (["do",y]:Ln)).map Qj))) none) [.lst [.int o],.lst ((d::P1).map Qr)]=some (QE Mo,[.lst [.int o],.lst ((d::P1).map Qr)]):=by
   have a1:=ao [.lst [.int o],.lst ((d::P1).map Qr)];have a2:=M [.lst [.int o],.lst ((d::P1).map Qr)];have a3:=am _ rfl;have a4:atI ((d::P1).map Qr) 0=some (Qr d):=K4 (p:=d::P1) (i:=0) (x:=d) rfl;have a5:atI [W.str d.1,.tup (d.2.map Qj)] 1=some (.tup (d.2.map Qj)):=rfl;generalize hh:([.lst [.int o],.lst ((d::P1).map Qr)]:MH)=H0 at a1 a2 a3 ⊢;have h1:H0[1]?=some (.lst ((d::P1).map Qr)):=by rw[<-hh];rfl
   generalize(List.replicate B.toNat (["do",y]:Ln)).map Qj=RR at a1 ⊢;have a9:QE Mo=.tup (.tup [.str d.1,.tup ((List.replicate B.toNat (["do",y]:Ln)++d.2).map Qj)]::P1.map Qr):=rfl;generalize((List.replicate B.toNat (["do",y]:Ln))++d.2).map Qj=R2 at a1 a2 a9;have a6:((d::P1).map Qr)[0]?=some (Qr d):=rfl
   have a8:KI ((d::P1).map Qr) (some 1) none=P1.map Qr:=by
    have:=K8 ((d::P1).map Qr) 1;rw[show((1:Nat):Int)=1 from rfl]at this;rw[this];rfl
   have z8:1+P1.length<=sizeLine:=Nl (szN (by have:=q.len;simp at this;lia))
   have a7:((f++[y]).map W.str)[0]?=some (.str d.1):=by
    have h0:=Zc (xs:=(f++[y]).map W.str) (n:=0);rw[<-h0];exact ab
   generalize bh:(d::P1).map Qr=PL at a4 a6 a8 h1;generalize ar:(f++[y]).map W.str=XL at a7 ab;simp[gP,Zv,ar,a7,h1,a6,Qr,a5,a1,a8,z8,a9]
  unfold Ze;generalize Zi (ZO (Qa (Qb 3) Qd)) (QF 10) QA=fo at L;generalize Qz Jg (ZO (Qa (mC (.int 4)) Qd)) [none,some 0] (QF 0) Vn (QB 2 Qh (Qa (Qb 1) (Qa (Qb 0) Qd)))=e2 at E;generalize(Qc wIx (mFn JE (Qa (mC (.int 1)) (Qa (mC (.int 1)) (Qa (mC (.int 2)) (Qa (mC (.int 2)) (Qa (mC (.int 3)) (Qa (mC (.int 3)) (Qa (mC (.int 2)) (Qa (mC (.int 5)) Qd))))))))) (Qc Zu (Qc wIx (Qb 2) (mC (.int 0))) (mC (.int 8))))=e3 at Y;generalize(QB 2 Qv (Qa (Qc Jc (Qc wIx (Qb 2) (mC (.int 1))) (mC (.int 8))) (Qa (Qc wIx (mFn JE (Qa (mC (.int 1)) (Qa (mC (.int 2)) (Qa (mC (.int 2)) (Qa (mC (.int 3)) (Qa (mC (.int 3)) (Qa (mC (.int 2)) (Qa (mC (.int 3)) (Qa (mC (.int 5)) Qd))))))))) (Qc Zu (Qc wIx (Qb 2) (mC (.int 1))) (mC (.int 8)))) Qd)))=e4 at X;generalize(QB 2 Qv (Qa (Qc Jc (Qc wIx (Qb 2) (mC (.int 2))) (mC (.int 8))) (Qa (Qc wIx (mFn JE (Qa (mC (.int 1)) (Qa (mC (.int 2)) (Qa (mC (.int 2)) (Qa (mC (.int 3)) (Qa (mC (.int 1)) (Qa (mC (.int 2)) (Qa (mC (.int 3)) (Qa (mC (.int 5)) Qd))))))))) (Qc Zu (Qc wIx (Qb 2) (mC (.int 2))) (mC (.int 8)))) Qd)))=e5 at U;generalize(QB 2 Qv (Qa (Qc wIx (Qb 2) (mC (.int 3))) (Qa (Qb 3) Qd)))=e6 at S;generalize(mFn Qga (Qa (mFn Qge (Qa (Qc QfC (mFn ZZ (Qa (Qb 0) Qd)) (mC (.int 4))) (Qa (Qb 1) Qd))) (Qa (Qc QL (mC (.int 3)) (Qc Zu (Qc Jc (Qc wIx (Qb 2) (mC (.int 0))) (mC (.int 8))) (mC (.int 6)))) Qd)))=e7 at Q;generalize(Qc wIx (mFn JE (Qa (mC (.int 3)) (Qa (mC (.int 1)) Qd))) (mFn QbX (Qa (Qc wGt (Qb 7) (mC (.int 12))) Qd)))=e8 at O;generalize(Qc WF (mFn Zg (Qa (mFn Zg (Qa (mC (.str "do")) (Qa (Qc wIx (Qb 6) (mUn QcQ (mC (.int 1)))) Qd))) Qd)) (Qc QL (mC (.int 2)) (Qc Zu (Qc Jc (Qc wIx (Qb 2) (mC (.int 3))) (mC (.int 7))) (mC (.int 4)))))=bq at A;generalize(Qc QL (mFn Zg (Qa (mFn Zg (Qa (Qc wIx (Qb 6) (mC (.int 0))) (Qa (Qc QL (Qb 12) (Qc wIx (Qc wIx (Qb 9) (mC (.int 0))) (mC (.int 1)))) Qd))) Qd)) (mFn Z6 (Qa (mSl (Qb 9) (Xq (mC (.int 1))) YZ) Qd)))=bp at t;generalize ay:(d::P1).map Qr=PM at *;generalize bo:(List.replicate B.toNat (["do",y]:Ln)).map Qj=RR at A t;have ap:QE (d::P1)=.tup PM:=by rw[<-ay];rfl
  simp only[gP]at L A t;simp only[hd]at Y X U S Q O L A t
  by_cases N:1<m
  ·have G:(1:Int)<m:=by lia
   obtain⟨v,ev⟩:=UL (ag N) 6 0 (by simp[Mo]) (by decide);have ah:∀h,Zo [QE Mo,.int 0] h=some (.int v,h):=ev
   by_cases c2:mx ns 2/64%4=0/\v<20
   ·refine⟨Mo,ag N,?_⟩;simp[Zs,E,Y,X,U,S,Q,O,L,A,t,N,G,i2,c2.1,ah,c2.2]
   ·refine⟨d::P1,q,?_⟩;rw[ap]
    by_cases c3:mx ns 2/64%4=0
    ·have c4:¬v<20:=fun z=>c2 ⟨c3,z⟩;simp[Zs,E,Y,X,U,S,Q,O,L,A,t,N,G,i2,c3,ah,c4]
    ·simp[Zs,E,Y,X,U,S,Q,O,L,A,t,N,G,i2,c3]
  ·have G:¬(1:Int)<m:=by lia
   refine⟨d::P1,q,?_⟩;rw[ap];simp[Zs,E,Y,X,U,S,Q,O,L,A,t,N,G]
 exact⟨ws,R,hR,fun h=>ZE (g:=_) (by simp[scr]) eR (by simp)⟩
theorem Qho:∀(a b:List Str),a.Nodup->(∀y∈a,y∈b)->a.length<=b.length
 |[],b,_,_=>NM _
 |k::r,b,c,h=>by
  have e:=h k Nz;rw[Eu]at c;have:=Qho r (b.erase k) c.2 fun y d=>(DZ (fun z=>c.1 (by rw[<-z];exact d))).mpr (h y (Nw _ d));rw[Dy e]at this;have:=Ir e;rw[El];lia
theorem QeM:∀(n:Nat) (l:List Str),l.length=n->(St.uniq l).Nodup:=by
 intro n
 induction n with
 |zero=>intro l h;rw[Ep.mp h];exact Er
 |succ n c=>
  intro l h;obtain⟨u,x,rfl⟩:∃u x,l=u++[x]:=⟨l.dropLast,l.getLast (fun z=>by rw[z]at h;cases h),(ET _).symm⟩
  have q:=c u (by simp at h;exact h);rw[St.uniq_snoc];split
  ·exact q
  ·rename_i d;rw[ES];exact⟨q,by simp,fun a g b f e=>d (by rw[NG.mp f]at e;rw[<-e];exact g)⟩
theorem KE{a:W}{b:List Str}{h:MH}(c:lsW h a=some (b.map .str))(h1:b.length<4000)(d:(St.uniq b).length<64):Z5 [a] h=some (.ref h.length,h++[.lst ((St.srt (St.uniq b)).map .str)]):=by
 unfold Z5;simp only[c,Nx,Qf3];rw[if_pos ⟨h1,d⟩]
theorem QbH{l B:List Str}(h:∀y∈l,y∈B)(b:B.length<=5):(St.uniq l).length<64:=by
 have:=Qho _ B (QeM _ l rfl) fun y a=>h y ((St.uniq_mem _ l rfl y).mp a);exact Nd (Nf this b) (by decide)
theorem QeH{ks:List Str}:(St.srt ks).length<=ks.length:=by
 by_cases b:∃a:List Str,a.Perm ks/\sortedS a=true
 ·obtain⟨a,p,h⟩:=b;rw[St.srt_eq p h,p.length_eq];exact Nu _
 ·unfold St.srt;rw[dif_neg b];exact NM _
noncomputable abbrev Pl:=Nat×Nat
noncomputable def Zk(q:Pl):W:=.tup [.int q.1,.int q.2]
noncomputable abbrev Mn:=Str×Pl
noncomputable def QP(m:Mn):W:=.tup [.str m.1,Zk m.2]
@[simp]theorem Qjv{q:Pl}:pln (Zk q)=true:=by simp[Zk,pln,XD]
@[simp]theorem QjE{m:Mn}:pln (QP m)=true:=by simp[QP,pln,XD]
theorem Qi8{q:Pl}:dep (Zk q)<=3:=by simp[Zk,dep,KB]
@[simp]theorem Qdt{ms:List Mn}:XD (ms.map QP)=true:=Ve fun _=>QjE
@[simp]theorem Qk4{ms:List Mn}:ZD (ms.map QP)=true:=ZM _ Qdt
@[simp]theorem Qg4{ms:List Pl}:XD (ms.map Zk)=true:=Ve fun _=>Qjv
@[simp]theorem Qky{ms:List Pl}:ZD (ms.map Zk)=true:=ZM _ Qg4
noncomputable def wdL(l:Ln):Option Str:=match l with
 |[x,_,w,_,_]=>if x="pair"then some w else none
 |_=>none
noncomputable def pw(P:List Pt):List Str:=P.flatMap fun x=>x.2.filterMap wdL
noncomputable def LP(l:Ln):Prop:=∃x r,l=x::r/\(x="pair"->∃a b c d,r=[a,b,c,d])
theorem L45.lp{wl os:List Str}{l:Ln}(h:L45 wl os l):LP l:=let⟨x,r,e,_,f,_⟩:=h.head;⟨x,r,e,fun z=>let⟨a,b,c,d,_,q⟩:=f z;⟨a,b,c,d,q⟩⟩
noncomputable def isP:W->Bool
 |.tup (.str x::_)=>x=="pair"
 |_=>false
noncomputable def thW:W->W
 |.tup [_,_,c,_,_]=>c
 |w=>w
theorem YV{ls:List Ln}(g:∀l∈ls,LP l)(s:ls.length<=100000){mi:MI}{σ:MSt}{h h1:MH}(hi:mi σ h=some (ls.map Qj,none,h1)):Qz Jg mi [none] (QF 0) (Qy (Qc wEq (Qc wIx (Qb 0) (mC (.int 0))) (mC (.str "pair")))) (Qc wIx (Qb 0) (mC (.int 2))) σ h=some (.lst ((ls.filterMap wdL).map .str),h1):=by
 unfold Qz;rw[hi,Nx];have u:Qbh [none] σ=[none]:=rfl;simp only[u]
 rw[Z2 (p:=isP) (f:=thW) (ls.map Qj) [] none (fun w hw=>by
   obtain⟨l,i,rfl⟩:=NE.mp hw;obtain⟨x,r,rfl,_⟩:=g l i;simp[Qj,isP]) (fun w hw t=>by
   obtain⟨l,i,rfl⟩:=NE.mp hw;obtain⟨x,r,rfl,n⟩:=g l i;have m:x="pair":=by simpa[isP,Qj]using t
   obtain⟨a,b,c,d,rfl⟩:=n m
   simp[Qj,thW]) (by simpa using Nl (szN s))]
 have e:((ls.map Qj).filter isP).map thW=(ls.filterMap wdL).map .str:=by
  clear hi s
  induction ls with
  |nil=>rfl
  | cons l ls j=>
   have j:=j fun x m=>g x (Nw _ m);obtain⟨x,r,rfl,n⟩:=g l Nz
   by_cases c:x="pair"
   ·obtain⟨a,b,d,f,rfl⟩:=n c;have q:isP (Qj [x,a,b,d,f])=true:=by simp[isP,Qj,c]
    have o:wdL [x,a,b,d,f]=some b:=by simp[wdL,c]
    rw[NC,Iy,if_pos q,NC,j,Dj,o];rfl
   ·have q:isP (Qj (x::r))=false:=by simp[isP,Qj,c]
    have o:wdL (x::r)=none:=by
     unfold wdL;split
     ·rename_i h;cases h;rw[if_neg c]
     ·rfl
    rw[NC,Iy,q,Dj,o];exact j
 rw[IQ,e];rfl
noncomputable def Wd(P:List Pt):List Str:=St.srt (St.uniq (pw P))
theorem UK:∀(P:List Pt),(pw P).length<=tot P
 |[]=>Nu _
 |x::P=>by
  have:=UK P;have c:(pw (x::P)).length=(x.2.filterMap wdL).length+(pw P).length:=by simp[pw]
  have b:tot (x::P)=x.2.length+tot P:=by simp[tot]
  have a:=List.length_filterMap_le wdL x.2;lia
theorem Qax{ws:List Str}{P:List Pt}(g:PgOk ws P):∀y∈pw P,y∈ws:=fun y f=>by
 obtain⟨x,j,f⟩:=Fa.mp f;obtain⟨l,m,e⟩:=FS.mp f;obtain⟨k,n⟩:=NZ.mp j;obtain⟨z,r,rfl,_,p,_⟩:=(g.ok k x n l m).head;unfold wdL at e;split at e
 ·rename_i h;cases h;split at e
  ·rename_i i;cases e;obtain⟨a,b,c,d,o,q⟩:=p i;cases q;exact o
  ·cases e
 ·cases e
theorem QgA{P:List Pt}{ws:List Str}(g:PgOk ws P):(Wd P).length<=63:=by
 have:=QbH (Qax g) g.five;have:=QeH (ks:=St.uniq (pw P));unfold Wd;lia
noncomputable abbrev vS(p:List Pt)(c b a:Option W):MSt:=[some (QE p),c,b,a]
theorem X6:∀{P:List Pt} {x:Pt},x∈P->x.2.length<=tot P
 |y::P,x,h=>by
  have e:tot (y::P)=y.2.length+tot P:=by simp[tot]
  rcases NF.mp h with rfl|h
  ·exact Nf (Np _ _) (Nq e.symm)
  ·have:=X6 h;exact Nf (Nf this (Fr _ _)) (Nq e.symm)
theorem Qay{ws:List Str}{P:List Pt}(g:PgOk ws P)(h:MH):JG [QE P] h=some (Zv (Wd P),h):=by
 have a:=QV (items:=P.map Qr) (b:=Vk [2,3]) (body:=Jd) (fun n e h=>∃(i f:Option W),e=vS P (some (.lst ((pw (P.take n)).map .str))) i f/\h=[])
  (P.map Qr) 0 (vS P (some (.lst [])) none none) [] ⟨none,none,rfl,rfl⟩ (by
   rintro j w s e h ⟨i,f,rfl,rfl⟩
   rw[NB]at s;obtain⟨x,m,rfl⟩:=Nk.mp s;rw[NJ]at *
   have c:x.2.length<=100000:=by
    have d:=g.few
    have:x.2.length<=tot P:=by
     exact X6 (N5 m)
    exact Nl (Nd (Nf this d) (by decide))
   have p:=YV (ls:=x.2) (fun l o=>(g.ok j x m l o).lp) c (mi:=QC (Qb 3)) (σ:=vS P (some (.lst ((pw (P.take j)).map .str))) (some (.str x.1)) (some (.tup (x.2.map Qj)))) (h:=[]) (h1:=[]) rfl
   have r:pw (P.take (j+1))=pw (P.take j)++x.2.filterMap wdL:=by
    unfold pw;rw[Ee,m,E2];simp
   have v:(pw (P.take j)).length+(x.2.filterMap wdL).length<=sizeLine:=by
    have d:=UK (P.take (j+1));rw[r,Nv]at d
    have C:tot (P.take (j+1))<=tot P:=by
     have:tot P=tot (P.take (j+1))+tot (P.drop (j+1)):=by
      unfold tot;rw[<-FQ,<-NL,Eo]
     exact Nf (Np _ _) (Nq this.symm)
    have:=g.few;exact Nl (szN (by lia))
   refine⟨vS P (some (.lst ((pw (P.take j)).map .str))) (some (.str x.1)) (some (.tup (x.2.map Qj))),rfl,vS P (some (.lst ((pw (P.take (j+1))).map .str))) (some (.str x.1)) (some (.tup (x.2.map Qj))),[],.inl ?_,_,_,rfl,rfl⟩;rw[r,NL];unfold Jd;generalize Qz Jg (QC (Qb 3)) [none] (QF 0) (Qy (Qc wEq (Qc wIx (Qb 0) (mC (.int 0))) (mC (.str "pair")))) (Qc wIx (Qb 0) (mC (.int 2)))=co at p;simp only[vS]at p
   simp[vS,p,Wc,v])
 obtain⟨u,D,q,i,f,rfl,rfl⟩:=a;rw[Ny,NJ,EK]at q;have o:=UK P;have y:=g.few;have z:Z5 [.lst ((pw P).map .str)] []=some (.ref 0,[.lst ((Wd P).map .str)]):=KE rfl (Nd (Nf o y) (by decide)) (QbH (Qax g) g.five);refine VH (j:=0) (g:=[.lst ((Wd P).map .str)]) (by simp) ?_ rfl KJ;have t:∀h:MH,QC (Qb 0) (vS P (some (.lst [])) none none) h=some (P.map Qr,none,h):=fun _=>rfl;simp only[vS]at q t;simp[Jt,Zs,Zi,t,q,z]
theorem WE{Q:List Pt}(q:tot Q<=100000)(h:MH):Q0 [QE Q] h=some (.lst ((Q.flatMap (·.2)).map Qj),h):=by
 have p:∀n,((Q.take n).flatMap (·.2)).length<=tot Q:=fun n=>by
  have:tot Q=tot (Q.take n)+tot (Q.drop n):=by
   unfold tot;rw[<-FQ,<-NL,Eo]
  have r:((Q.take n).flatMap (·.2)).length=tot (Q.take n):=by simp[tot,Yaa]
  exact Nf (Nf (Nq r) (Np _ _)) (Nq this.symm)
 have a:=QV (items:=Q.map Qr) (b:=QF 2) (body:=Vp) (fun n d h=>∃(c:Option W),d=[some (QE Q),some (.ref 0),c]/\h=[.lst (((Q.take n).flatMap (·.2)).map Qj)])
  (Q.map Qr) 0 [some (QE Q),some (.ref 0),none] [.lst []] ⟨none,rfl,rfl⟩ (by
   rintro j w i d h ⟨c,rfl,rfl⟩
   rw[NB]at i;obtain⟨x,o,rfl⟩:=Nk.mp i;rw[NJ]at *
   have f:(Q.take (j+1)).flatMap (·.2)=(Q.take j).flatMap (·.2)++x.2:=by
    rw[Ee,o,E2];simp
   have e:((Q.take j).flatMap (·.2)).length+x.2.length<=sizeLine:=by
    have:=p (j+1);rw[f,Nv]at this;exact Nl (szN (Nf this q))
   refine⟨[some (QE Q),some (.ref 0),some (Qr x)],rfl,[some (QE Q),some (.ref 0),some (Qr x)],_,.inl ?_,some (Qr x),rfl,rfl⟩;rw[f,NL];generalize(Q.take j).flatMap (·.2)=A at e
   have t:Jn (.ref 0) [.tup (x.2.map Qj)] [.lst (A.map Qj)]=some (.non,[.lst (A.map Qj++x.2.map Qj)]):=by
    unfold Jn;simp[e]
   simp[Qr,tyW,t])
 obtain⟨m,u,l,c,rfl,rfl⟩:=a;rw[Ny,NJ,EK]at l;refine VH (j:=0) (g:=[.lst ((Q.flatMap (·.2)).map Qj)]) (by simp) ?_ rfl (by simp);have s:∀h:MH,QC (Qb 0) [some (QE Q),some (.ref 0),none] h=some (Q.map Qr,none,h):=fun _=>rfl;simp[JK,Zs,Zi,s,l]
theorem WD{Q P:List Pt}{ws:List Str}(g:PgOk ws P)(f:tot Q<=3000)(d:∀x∈Q,∀l∈x.2,LP l)(c:pw Q=pw P)(h:MH):VF [QE Q] h=some (Zv (Wd P),h):=by
 have p:(Q.flatMap (·.2)).filterMap wdL=pw P:=by rw[<-c,List.filterMap_flatMap];rfl
 have a:(Q.flatMap (·.2)).length<=100000:=by
  have:(Q.flatMap (·.2)).length=tot Q:=by simp[tot,Yaa]
  exact Nl (Nd (Nf (Nq this) f) (by decide))
 have o:QC (QB 1 Q0 (Qa (Qb 0) Qd)) [some (QE Q)] []=some ((Q.flatMap (·.2)).map Qj,none,[]):=by
  have:QB 1 Q0 (Qa (Qb 0) Qd) [some (QE Q)] []=some (.lst ((Q.flatMap (·.2)).map Qj),[]):=by simp[WE (Q:=Q) (Nl (Nd f (by decide)))]
  unfold QC;rw[this];rfl
 have e:=YV (ls:=Q.flatMap (·.2)) (fun l b=>by obtain⟨x,i,b⟩:=Fa.mp b;exact d x i l b) a (mi:=QC (QB 1 Q0 (Qa (Qb 0) Qd))) (σ:=[some (QE Q)]) (h:=[]) (h1:=[]) o;rw[p]at e;have b:=UK P;have m:=g.few;have n:Z5 [.lst ((pw P).map .str)] []=some (.ref 0,[.lst ((Wd P).map .str)]):=KE rfl (Nd (Nf b m) (by decide)) (QbH (Qax g) g.five);refine VH (j:=0) (g:=[.lst ((Wd P).map .str)]) (by simp) ?_ rfl KJ;unfold J0;generalize Qz Jg (QC (QB 1 Q0 (Qa (Qb 0) Qd))) [none] (QF 0) (Qy (Qc wEq (Qc wIx (Qb 0) (mC (.int 0))) (mC (.str "pair")))) (Qc wIx (Qb 0) (mC (.int 2)))=co at e;simp[Zs,e,n]
noncomputable def trQ(q:Pl):Tr:=.t [.i q.1,.i q.2]
@[simp]theorem XE{q:Pl}:nrm (Zk q)=some (trQ q):=by
 show KN 8 (.tup [.int q.1,.int q.2])=_;simp only[KN,Fz,Ll];rfl
theorem XF{a b:Pl}(h:trQ a=trQ b):a=b:=by
 unfold trQ at h;injection h with h
 simp at h;exact Prod.ext (by have:=h.1;lia) (by have:=h.2;lia)
noncomputable def wa(M:List Mn)(q:Pl):List Str:=(M.filter fun m=>m.2=q).map (·.1)
theorem X4{M:List Mn}{m:Mn}{q:Pl}:wa (M++[m]) q=if m.2=q then wa M q++[m.1]else wa M q:=by
 unfold wa;rw[List.filter_append,NL]
 by_cases h:m.2=q<;>simp[h]
noncomputable abbrev Gs:=List (Pl×Nat)
noncomputable def dG(G:Gs):List (W×W):=G.map fun g=>(Zk g.1,.ref (g.2+1))
noncomputable def hG(G:Gs)(Ls:List (List Str)):MH:=.dct (dG G)::Ls.map fun l=>.lst (l.map .str)
theorem Qff{G:Gs}{q:Pl}:VG (dG G) (trQ q)=(G.find? fun g=>decide (g.1=q)).map fun g=>.ref (g.2+1):=by
 unfold VG dG
 induction G with
 |nil=>rfl
 |cons g G a=>
  rw[NC,NW,NW]
  by_cases h:g.1=q
  ·simp[h]
  ·have:¬trQ g.1=trQ q:=fun z=>h (XF z);simp only[XE,Im,this,h,decide_false];exact a
structure WB(M:List Mn)(G:Gs)(Ls:List (List Str)):Prop where
 nk:(G.map (·.1)).Nodup
 ni:(G.map (·.2)).Nodup
 at_:∀g∈G,Ls[g.2]?=some (wa M g.1)
 all:∀m∈M,m.2∈G.map (·.1)
theorem Qh2{G:Gs}{q:Pl}(b:(G.map (·.1)).Nodup){g:Pl×Nat}(a:g∈G)(c:g.1=q):(G.find? fun g=>decide (g.1=q))=some g:=by
 induction G with
 |nil=>cases a
 |cons x G d=>
  rw[NC,Eu]at b;rw[NW]
  rcases NF.mp a with rfl|a
  ·simp[c]
  ·have:¬x.1=q:=fun z=>b.1 (by rw[z,<-c];exact EZ a);simp only[this,decide_false];exact d b.2 a
theorem QdM{G:Gs}{q:Pl}(h:q∉G.map (·.1)):(G.find? fun g=>decide (g.1=q))=none:=by
 rw[F4];intro g a;simp;exact fun z=>h (by rw[<-z];exact EZ a)
theorem Qe4{M:List Mn}{G:Gs}{Ls:List (List Str)}(I:WB M G Ls){q:Pl}(h:q∉G.map (·.1)):wa M q=[]:=by
 unfold wa;rw[Yab,Ol];intro m a;simp;exact fun z=>h (by rw[<-z];exact I.all m a)
theorem WB.step{M:List Mn}{G:Gs}{Ls:List (List Str)}(I:WB M G Ls)(m:Mn) :
  (∃g∈G,g.1=m.2/\g.2<Ls.length/\WB (M++[m]) G ((Ls++[[]]).set g.2 (wa M m.2++[m.1]))/\(Ls++[[]])[g.2]?=some (wa M m.2)) \/
  (m.2∉G.map (·.1)/\WB (M++[m]) (G++[(m.2,Ls.length)]) ((Ls++[[]]).set Ls.length [m.1])):=by
 by_cases n:m.2∈G.map (·.1)
 ·obtain⟨g,o,r⟩:=NE.mp n;have u:=I.at_ g o;have s:=(Nm.mp u).1;refine .inl ⟨g,o,r,s,⟨I.nk,I.ni,fun x f=>?_,fun x f=>?_⟩,by rw[NP s,u,r]⟩
  ·have d:=I.at_ x f;have c:=(Nm.mp d).1
   by_cases e:x=g
   ·subst e;rw[Es (by simp;exact Ng c (Np _ _)),X4,if_pos r.symm,r]
   ·have ne:g.2≠x.2:=fun z=>e (by
     obtain⟨i,A,w⟩:=EN.mp f;obtain⟨j,y,v⟩:=EN.mp o;have:=(D5 (i:=i) (j:=j) (h₀:=by simpa using A) (h₁:=by simpa using y) I.ni).mp (by simp[w,v,z]);subst this
     rw[<-w,<-v])
    have l:¬m.2=x.1:=fun z=>e (by
     obtain⟨i,A,w⟩:=EN.mp f;obtain⟨j,y,v⟩:=EN.mp o;have:=(D5 (i:=i) (j:=j) (h₀:=by simpa using A) (h₁:=by simpa using y) I.nk).mp (by simp[w,v,<-z,r]);subst this
     rw[<-w,<-v])
    rw[EC ne,NP c,d,X4,if_neg l]
  ·rcases NO.mp f with h|h
   ·exact I.all x h
   ·rw[NG.mp h];exact n
 ·refine .inr ⟨n,⟨?_,?_,fun x f=>?_,fun x f=>?_⟩⟩
  ·rw[NL,ES];exact⟨I.nk,by simp,fun a B b t=>by simp at t;subst t;exact fun z=>n (by rw[<-z];exact B)⟩
  ·rw[NL,ES];refine⟨I.ni,by simp,fun a B b t=>?_⟩;simp at t;subst t;obtain⟨g,o,rfl⟩:=NE.mp B;have:=(Nm.mp (I.at_ g o)).1;exact NS this
  ·rcases NO.mp f with h|h
   ·have d:=I.at_ x h;have c:=(Nm.mp d).1;have l:¬m.2=x.1:=fun z=>n (by rw[z];exact EZ h);rw[EC (D6 c),NP c,d,X4,if_neg l]
   ·rw[NG.mp h];show((Ls++[[]]).set Ls.length [m.1])[Ls.length]?=some (wa (M++[m]) m.2);rw[Es (by simp),X4,if_pos rfl,Qe4 I n];rfl
  ·rcases NO.mp f with h|h
   ·have:=I.all x h;simp at this ⊢;exact .inl this
   ·rw[NG.mp h];simp
noncomputable abbrev yS(mn:W)(b a:Option W):MSt:=[some mn,some (.ref 0),b,a]
theorem G8{G:Gs}{Ls:List (List Str)}:hG G Ls++[.lst []]=hG G (Ls++[[]]):=by simp[hG]
theorem GX{G:Gs}{Ls:List (List Str)}:(hG G Ls).length=Ls.length+1:=by simp[hG]
theorem QdJ{G:Gs}{Ls:List (List Str)}{i:Nat}{l:List Str}{w:Str}:(hG G Ls).set (i+1) (.lst (l.map .str++[.str w]))=hG G (Ls.set i (l++[w])):=by
 simp[hG,List.map_set]
theorem QfS{G:Gs}{Ls:List (List Str)}{i:Nat}{l:List Str}(h:Ls[i]?=some l):(hG G Ls)[i+1]?=some (.lst (l.map .str)):=by
 show(Ls.map fun l=>MO.lst (l.map .str))[i]?=_;rw[NB,h];rfl
theorem Gn{mn:W}{M:List Mn}{G:Gs}{Ls:List (List Str)}(I:WB M G Ls)(m:Mn)(f:G.length<=100000)(z:M.length<=100000) :
  ∃p b,WB (M++[m]) p b/\p.length<=G.length+1/\b.length=Ls.length+1/\Zf (yS mn (some (.str m.1)) (some (Zk m.2))) (hG G Ls)=some (.nx (yS mn (some (.str m.1)) (some (Zk m.2))) (hG p b)):=by
 have u:∀q,(wa M q).length<sizeLine:=fun q=>Nd (Nf (by unfold wa;rw[Ny];exact FE _ _) z) (by decide);have B:∀G Ls,(hG G Ls)[0]?=some (.dct (dG G)):=fun _ _=>rfl;have c:∀G Ls (h:0<(hG G Ls).length),(hG G Ls)[0]=.dct (dG G):=fun _ _ _=>rfl;have s:∀G Ls,UN (hG G Ls) (.ref 0)=some (dG G):=fun _ _=>rfl
 have C:Yp [] (hG G Ls)=some (.ref (Ls.length+1),hG G (Ls++[[]])):=by
  show some (W.ref (hG G Ls).length,hG G Ls++[.lst []])=_;rw[GX,G8]
 rcases I.step m with⟨g,A,x,y,o,e⟩|⟨r,o⟩
 ·refine⟨G,_,o,by exact Np _ _,by simp,?_⟩
  have j:Qd9 (.ref 0) [Zk m.2,.ref (Ls.length+1)] (hG G (Ls++[[]]))=some (.ref (g.2+1),hG G (Ls++[[]])):=by
   unfold Qd9;simp only[s,XE,Nx,Qff,Qh2 I.nk A x,Fp]
  have d:=QfS (G:=G) e;have a:=QdJ (G:=G) (Ls:=Ls++[[]]) (i:=g.2) (l:=wa M m.2) (w:=m.1);simp[GX,G8,j,d,a,u,tyW,c]
 ·refine⟨_,_,o,by simp,by simp,?_⟩;have v:(dG G).length<sizeLine:=Nd (by simpa[dG]using f) (by decide)
  have j:Qd9 (.ref 0) [Zk m.2,.ref (Ls.length+1)] (hG G (Ls++[[]]))=some (.ref (Ls.length+1),hG (G++[(m.2,Ls.length)]) (Ls++[[]])):=by
   unfold Qd9;simp only[s,XE,Nx,Qff,QdM r,YaO];unfold VP;simp only[B,XE,Nx];rw[if_pos v]
   have:Yq (dG G) (trQ m.2) (Zk m.2) (.ref (Ls.length+1))=dG (G++[(m.2,Ls.length)]):=by
    unfold Yq;rw[Qff,QdM r];simp[dG]
   rw[this];rfl
  have d:=QfS (G:=G++[(m.2,Ls.length)]) (Ls:=Ls++[[]]) (i:=Ls.length) (l:=[]) (by simp);have a:=QdJ (G:=G++[(m.2,Ls.length)]) (Ls:=Ls++[[]]) (i:=Ls.length) (l:=[]) (w:=m.1);simp only[FV,IQ]at a d;have t:0<sizeLine:=by decide
  have n:∀(h:Ls.length+1<(hG (G++[(m.2,Ls.length)]) (Ls++[[]])).length),(hG (G++[(m.2,Ls.length)]) (Ls++[[]]))[Ls.length+1]=.lst []:=fun h=>(Nm.mp d).2;simp[GX,G8,j,n,a,t,tyW,c]
noncomputable def dP(M:List Mn)(P:List Pl):List (W×W):=P.map fun q=>(Zk q,.lst ((wa M q).map .str))
theorem Qjr{M:List Mn}{P:List Pl}(a:∀m∈M,m.2∈P){q:Pl}:(VG (dP M P) (trQ q)).getD (.lst [])=.lst ((wa M q).map .str):=by
 by_cases h:q∈P
 ·have:VG (dP M P) (trQ q)=some (.lst ((wa M q).map .str)):=by
   clear a;unfold VG dP
   induction P with
   |nil=>cases h
   |cons x P b=>
    rw[NC,NW]
    by_cases e:x=q
    ·subst e;simp
    ·have:¬trQ x=trQ q:=fun z=>e (XF z);simp only[XE,Im,this,decide_false];exact b (by rcases NF.mp h with z|z;exact absurd z.symm e;exact z)
  rw[this];rfl
 ·have f:wa M q=[]:=by
   unfold wa;rw[Yab,Ol];intro m g;simp;exact fun z=>h (by rw[<-z];exact a m g)
  have:VG (dP M P) (trQ q)=none:=by
   unfold VG dP;rw[Om,F4];intro x d;obtain⟨y,c,rfl⟩:=NE.mp d;simp;exact fun z=>h (by rw[<-XF z];exact c)
  rw[this,f];rfl
theorem Wy{M:List Mn}(u:M.length<=100000):∃P:List Pl,(∀m∈M,m.2∈P)/\∀h:MH,Zx [.lst (M.map QP)] h=some (.ref h.length,h++[.dct (dP M P)]):=by
 have d:=QV (items:=M.map QP) (b:=Vk [2,3]) (body:=Zf) (fun n s h=>∃(G:Gs) (Ls:List (List Str)) (o l:Option W),s=yS (.lst (M.map QP)) o l/\h=hG G Ls/\WB (M.take n) G Ls/\G.length<=n)
  (M.map QP) 0 (yS (.lst (M.map QP)) none none) (hG [] []) ⟨[],[],none,none,rfl,rfl,⟨by simp,by simp,by simp,by simp⟩,Nu _⟩ (by
   rintro j w v s h ⟨G,Ls,o,l,rfl,rfl,I,a⟩
   rw[NB]at v;obtain⟨m,t,rfl⟩:=Nk.mp v;have p:=(Nm.mp t).1;rw[NJ]at *;obtain⟨c,r,H,A,_,e⟩:=Gn (mn:=.lst (M.map QP)) I m (Nl (Ng (Nd a p) u)) (by rw[Ed];exact Nf (Dp _ _) u);refine⟨yS (.lst (M.map QP)) (some (.str m.1)) (some (Zk m.2)),rfl,_,_,.inl e,c,r,_,_,rfl,rfl,?_,by exact Nf A (EX a _)⟩;rw[Ee,t]
   exact H)
 obtain⟨z,N,i,G,Ls,o,l,rfl,rfl,I,a⟩:=d;rw[Ny,NJ,EK]at I;refine⟨G.map (·.1),I.all,fun h=>?_⟩;show box frR QH _ _=_;unfold box;rw[Kf (by simp),Nx];unfold QfQ;rw[if_pos Er];have q:∀(h:MH),QC (Qb 0) (yS (.lst (M.map QP)) none none) h=some (M.map QP,none,h):=fun _=>rfl
 have e:QH [.lst (M.map QP)] []=some (.ref 0,hG G Ls):=by
  simp only[yS,hG]at i q;simp[dG]at i;simp[QH,Zs,Zi,KT,q,i,hG,dG]
 simp only[Zt,Nx,e];rw[if_pos ⟨by simp[frR],by simp[frR]⟩]
 have key:∀(c:Gs),(∀g∈c,Ls[g.2]?=some (wa M g.1))->ths (res (Vy [] [0] h.length) (hG G Ls) 3) ((dG c).map (·.2))=some ((dP M (c.map (·.1))).map (·.2)):=by
  intro c
  induction c with
  |nil=>intro _;rfl
  | cons g c f=>
   intro y;have:=f fun x B=>y x (Nw _ B);unfold dG dP at this ⊢;rw[NC,NC,ths,this];have E:=QfS (G:=G) (y g Nz)
   have:th (res (Vy [] [0] h.length) (hG G Ls) 3) (.ref (g.2+1))=some (.lst ((wa M g.1).map .str)):=by
    have C:ths (res (Vy [] [0] h.length) (hG G Ls) 2) ((wa M g.1).map .str)=some ((wa M g.1).map .str):=ZR _ _ (by simp);unfold th res;simp[Vy,E,C]
   rw[this];rfl
 have k:=key G I.at_
 have hd:thO (res (Vy [] [0] h.length) (hG G Ls) 3) (.dct (dG G))=some (.dct (dP M (G.map (·.1)))):=by
  unfold thO;dsimp only;rw[k]
  have:((dG G).map (·.1)).zip ((dP M (G.map (·.1))).map (·.2))=dP M (G.map (·.1)):=by
   unfold dG dP;clear k key e i q I a
   induction G with
   |nil=>rfl
   |cons g G f=>simp at f ⊢;exact f
  simp[this]
 have D:(hG G Ls)[0]?=some (.dct (dG G)):=rfl;simp[frR,th,res,Vy,Zt,QD,D]at hd ⊢;rw[hd];rfl
noncomputable def ll(P:List Pt)(k:Nat):Nat:=(P[k]?).elim 0 (·.2.length)
noncomputable def plN(P:List Pt)(n:Nat):List Pl:=(List.range n).flatMap fun k=>(List.range (ll P k+1)).map fun g=>(k,g)
noncomputable def pls(P:List Pt):List Pl:=plN P P.length
theorem Xw{P:List Pt}{n:Nat}:plN P (n+1)=plN P n++(List.range (ll P n+1)).map fun g=>(n,g):=by
 unfold plN;rw[DP,E2];simp
theorem plN_mem{P:List Pt}{n:Nat}{q:Pl}:q∈plN P n↔q.1<n/\q.2<=ll P q.1:=by
 unfold plN;rw[Fa];constructor
 ·rintro⟨k,a,b⟩
  obtain⟨g,c,rfl⟩:=NE.mp b;rw[N9]at a c;exact⟨a,by show g<=ll P k;lia⟩
 ·rintro⟨e,d⟩
  exact⟨q.1,N9.mpr e,NE.mpr ⟨q.2,N9.mpr (Nd d (EI _)),rfl⟩⟩
theorem Ub{P:List Pt}:∀n,n<=P.length->(plN P n).length=tot (P.take n)+n
 |0,_=>rfl
 | n+1,h=>by
  have b:=Ub (P:=P) n (Nl h);have a:P[n]?=some P[n]:=No h;have d:ll P n=P[n].2.length:=by unfold ll;rw[a];rfl
  have c:tot (P.take (n+1))=tot (P.take n)+P[n].2.length:=by
   unfold tot;rw[Ee,a,NL,FQ];simp
  rw[Xw,Nv,b,Ny,Fw,c,d];lia
theorem Wt{ws:List Str}{P:List Pt}(g:PgOk ws P):(pls P).length<=105:=by
 have:=Ub (P:=P) P.length (Nu _);rw[EK]at this;have:=g.few;have:=g.len;unfold pls;lia
theorem QbT{ws:List Str}{P:List Pt}(g:PgOk ws P)(h:MH):Jv [QE P] h=some (.lst ((pls P).map Zk),h):=by
 have s:∀n,n<=P.length->(plN P n).length<=105:=fun n t=>by
  have G:=Ub (P:=P) n t
  have E:tot P=tot (P.take n)+tot (P.drop n):=by
   unfold tot;rw[<-FQ,<-NL,Eo]
  have:=g.few;have:=g.len;lia
 have c:=QV (items:=Ql 0 P.length) (b:=QF 2) (body:=ZP) (fun n f h=>∃(i:Option W),f=[some (QE P),some (.lst ((plN P n).map Zk)),i]/\h=[])
  (Ql 0 P.length) 0 [some (QE P),some (.lst []),none] [] ⟨none,rfl,rfl⟩ (by
   rintro j w v f h ⟨i,rfl,rfl⟩
   obtain⟨e,rfl⟩:=Jp v;rw[NJ]at *;have l:P[j]?=some P[j]:=No e;have d:ll P j=P[j].2.length:=by unfold ll;rw[l];rfl
   generalize P[j]=x at l d;have A:=K4 l;have a:=s (j+1) e;rw[Xw,Nv,Ny,Fw]at a
   have o:=Vx (ms:=Qa (Qc QL (mFn ZZ (Qa (Qc wIx (Qc wIx (Qb 0) (Qb 2)) (mC (.int 1))) Qd)) (mC (.int 1))) Qd) (cp:=[none,some 2]) (me:=mFn Zg (Qa (Qb 1) (Qa (Qb 0) Qd))) (σ:=[some (QE P),some (.lst ((plN P j).map Zk)),some (.int j)]) (caps:=[some (.int j)]) (h:=[]) (m:=ll P j+1) (fun k=>Zk (j,k)) (by
     rw[d]
     simp[QE,A,Qr]) ⟨_,rfl⟩ (Nl (Nd (Nf (Fr _ _) a) (by decide))) (fun k D=>by simp[Zk])
   have y:(plN P j).length+(ll P j+1)<=sizeLine:=Nl (szN (Nl (Nd a (by decide))));refine⟨[some (QE P),some (.lst ((plN P j).map Zk)),some (.int j)],rfl,[some (QE P),some (.lst ((plN P (j+1)).map Zk)),some (.int j)],[],.inl ?_,some (.int j),rfl,rfl⟩;rw[Xw,NL,Em];unfold ZP;generalize Qz Jg (ZO (Qa (Qc QL (mFn ZZ (Qa (Qc wIx (Qc wIx (Qb 0) (Qb 2)) (mC (.int 1))) Qd)) (mC (.int 1))) Qd)) [none,some 2] (QF 0) Vn (mFn Zg (Qa (Qb 1) (Qa (Qb 0) Qd)))=co at o
   simp[o,Wc,y])
 obtain⟨r,H,p,i,rfl,rfl⟩:=c;rw[QJ,NJ]at p;refine ZE (g:=[]) (by simp) ?_ (by simp);have u:=g.len;have z:ZO (Qa (mFn ZZ (Qa (Qb 0) Qd)) Qd) [some (QE P),some (.lst []),none] []=some (Ql 0 P.length,none,[]):=ZU (by simp[QE]) (Nd u (by decide));simp[Z4,Zs,Zi,z,p,pls]
noncomputable def trM(m:Mn):Tr:=.t [.s m.1,.t [.i m.2.1,.i m.2.2]]
theorem Wk{a b:Mn}(h:trM a=trM b):a=b:=by
 obtain⟨m,g,f⟩:=a;obtain⟨l,e,d⟩:=b;unfold trM at h;injection h with h
 simp at h;obtain⟨c,j,i⟩:=h;rw[c,show g=e by lia,show f=d by lia]
theorem Qkn{m:Mn}:Mi.plN 8 (QP m)=some (trM m):=by
 show Mi.plN 8 (.tup [.str m.1,.tup [.int m.2.1,.int m.2.2]])=_;simp only[Mi.plN,Fz,Ll];rfl
@[simp]theorem QgP{m:Mn}:nrm (QP m)=some (trM m):=by
 show KN 8 (.tup [.str m.1,.tup [.int m.2.1,.int m.2.2]])=_;simp only[KN,Fz,Ll];rfl
open Sb in
theorem QiM{m:Mn}:Wf 8 (.t (.s::[.t [.i,.i]])) (trM m):=⟨_,rfl,.cons ⟨_,rfl⟩ (.cons ⟨_,rfl,.cons ⟨_,rfl⟩ (.cons ⟨_,rfl⟩ .nil)⟩ .nil)⟩
theorem Qeo:∀l:List Mn,plL (l.map QP)=some (l.map trM)
 |[]=>rfl
 |a::l=>by
  have h1:=Qkn (m:=a);have:QP a=.tup [.str a.1,Zk a.2]:=rfl;rw[this]at h1;rw[NC,this,plL,h1,Qeo l];rfl
theorem Qcg{m:Mn}:toW (trM m)=QP m:=(Qag 8 _ _ Qkn).symm
theorem Qiv(l:List Mn):One (l.map trM):=⟨.s,[.t [.i,.i]],fun t a=>by obtain⟨m,_,rfl⟩:=NE.mp a;exact QiM⟩
theorem Qit{d g:Type}[DecidableEq d][DecidableEq g]{f:d->g}(j:∀a b,f a=f b->a=b)(l:List d):Sb.uq (l.map f)=(Sb.uq l).map f:=by
 induction l using Sb.snoc_ind with
 |h0=>rfl
 |h1 l x h=>
  rw[NL,NC,FV,Sb.uq_snoc,Sb.uq_snoc,h]
  by_cases c:x∈Sb.uq l
  ·rw[if_pos c,if_pos (EZ c)]
  ·rw[if_neg c,if_neg (fun z=>by obtain⟨y,i,e⟩:=NE.mp z;exact c (by rw[<-j _ _ e];exact i)),NL];rfl
theorem GI{l:List Mn}:∀{k:List Tr},(∀x∈k,x∈l.map trM)->∃m:List Mn,k=m.map trM/\∀a∈m,a∈l
 |[],_=>⟨[],rfl,fun _ h=>nomatch h⟩
 |x::k,h=>by
  obtain⟨a,f,rfl⟩:=NE.mp (h x Nz);obtain⟨m,rfl,e⟩:=GI fun y d=>h y (Nw _ d);refine⟨a::m,rfl,fun b c=>?_⟩
  rcases NF.mp c with rfl|c
  ·exact f
  ·exact e b c
noncomputable def UI(m:List Mn):Prop:=(m.map trM).Pairwise (fun x y=>Sb.ltN 8 y x=false)/\m.Nodup
theorem Qen(l:List Mn)(g:l.Nodup):∃m:List Mn,Sb.srtT (l.map trM)=m.map trM/\(∀a∈m,a∈l)/\UI m/\m.length<=l.length:=by
 unfold Sb.srtT;split
 ·rename_i h;obtain⟨c,f⟩:=h.choose_spec;obtain⟨m,em,n⟩:=GI (l:=l) (k:=h.choose) fun x j=>c.mem_iff.mp j;rw[em]at c f;refine⟨m,em,n,⟨f,?_⟩,?_⟩
  ·have i:(l.map trM).Nodup:=by
    unfold List.Nodup;rw[EY];exact YaA (fun b e=>b (Wk e)) g
   have d:(m.map trM).Nodup:=c.nodup_iff.mpr i;unfold List.Nodup at d ⊢;rw[EY]at d;exact YaA (fun b e=>b (by rw[e])) d
  ·have:=c.length_eq;rw[Ny,Ny]at this;exact Nq this
 ·exact⟨[],rfl,fun _ h=>(nomatch h),⟨List.Pairwise.nil,Er⟩,NM _⟩
theorem Qce{m k:List Mn}(r:UI m)(p:m.Perm k):Sb.srtT (k.map trM)=m.map trM:=Sb.srtT_eq (sh:=.t (.s::[.t [.i,.i]])) (fun t b=>by obtain⟨a,_,rfl⟩:=NE.mp b;exact QiM) (p.map _) r.1
theorem QaL{a b:List Mn}(p:a.Perm b):Sb.srtT (a.map trM)=Sb.srtT (b.map trM):=by
 by_cases d:∃c:List Tr,c.Perm (a.map trM)/\c.Pairwise fun x y=>Sb.ltN 8 y x=false
 ·obtain⟨c,q,h⟩:=d;have g:∀t∈a.map trM,Sb.Wf 8 (.t (.s::[.t [.i,.i]])) t:=fun t e=>by obtain⟨m,_,rfl⟩:=NE.mp e;exact QiM
  have f:∀t∈b.map trM,Sb.Wf 8 (.t (.s::[.t [.i,.i]])) t:=fun t e=>by obtain⟨m,_,rfl⟩:=NE.mp e;exact QiM
  rw[Sb.srtT_eq g q h,Sb.srtT_eq f (q.trans (p.map _)) h]
 ·have j:¬∃c:List Tr,c.Perm (b.map trM)/\c.Pairwise fun x y=>Sb.ltN 8 y x=false:=fun⟨c,q,h⟩=>d ⟨c,q.trans (p.map _).symm,h⟩;unfold Sb.srtT;rw[dif_neg d,dif_neg j]
theorem Qdm{l:List Mn}(c:l.length<=305){h:MH}{a:W}(d:lsW h a=some (l.map QP)):J6 [a] h=some (.ref h.length,h++[.lst ((Sb.srtT ((Sb.uq l).map trM)).map toW)]):=by
 unfold J6;simp only[d,Nx,Qeo];rw[if_pos ⟨Qiv l,by rw[Ny];exact c⟩,Qit fun a b=>Wk]
theorem QaZ{ws:List Str}{h:MH}:wEq (Zv ws) (.lst []) h=some (.bl ws.isEmpty,h):=by
 rw[QlY KQ rfl (Nf WI (by decide)) (by simp[dep,KB])];cases ws<;>simp[Zv,eqW,X5]
theorem QiT{xs:List Pl}{i:Int}(h0:0<=i)(h1:i<xs.length):∃x,x∈xs/\atI (xs.map Zk) i=some (Zk x):=by
 obtain⟨x,a,_,e⟩:=Qex (xs:=xs) (f:=Zk) (P:=fun _=>True) h0 h1 (fun _ _=>True.intro);exact⟨x,a,e⟩
noncomputable abbrev kS(ns:List Int)(mn:Nat)(ws:List Str)(ps:List Pl)(a x6 x7:Option W):MSt:=[some (scr ns),some (.int 100),some (.int mn),some (Zv ws),some (.lst (ps.map Zk)),a,x6,x7]
theorem Qbu{ns:List Int}{mn:Nat}(f:mn<=12){ws:List Str}{ps:List Pl}(S:0<ps.length)(Q:ps.length<=1000)(N:ws.length<=1000):∃M:List Mn,UI M/\M.length<=12/\(∀m∈M,m.1∈ws/\m.2∈ps)/\∀h:MH,Jr [scr ns,.int 100,.int mn,Zv ws,.lst (ps.map Zk)] h=some (.lst (M.map QP),h):=by
 cases c:ws.isEmpty with
 |true=>
  refine⟨[],⟨List.Pairwise.nil,Er⟩,NM _,fun _ h=>(nomatch h),fun h=>ZE (g:=[]) (by simp[scr]) ?_ (by simp)⟩;have e:=fun h=>QaZ (ws:=ws) (h:=h);rw[c]at e;simp[Zq,Zs,e]
 | false=>
  have hw:0<ws.length:=by
   cases ws with
   |nil=>cases c
   |cons _ _=>simp
  have d:=QV (items:=Ql 0 mn) (b:=QF 6) (body:=JR) (fun n A h=>∃(F:List Mn) (r o:Option W),A=kS ns mn ws ps (some (.ref 0)) r o/\h=[.lst (F.map QP)]/\F.length=n/\∀m∈F,m.1∈ws/\m.2∈ps)
   (Ql 0 mn) 0 (kS ns mn ws ps (some (.ref 0)) none none) [.lst []] ⟨[],none,none,rfl,rfl,rfl,fun _ h=>(nomatch h)⟩ (by
    rintro j w X A h ⟨F,r,o,rfl,rfl,p,t⟩
    obtain⟨U,rfl⟩:=Jp X;rw[NJ]at *;have em:=QbS ns (k:=100+j) (by lia);have v:∀h,Qh [scr ns,.int (100+(j:Int))] h=some (.int (mx ns (100+j)),h):=fun h=>by have:=em h;push_cast at this;exact this
    have B:(0:Int)<ws.length:=by lia
    have C:(0:Int)<ps.length:=by lia
    obtain⟨x,L,Y⟩:=Wr (xs:=ws) (i:=mx ns (100+j)%(ws.length:Nat)) (NY _ (Dv B)) (NV _ B);obtain⟨q,P,eq⟩:=QiT (xs:=ps) (i:=mx ns (100+j)/7%(ps.length:Nat)) (NY _ (Dv C)) (NV _ C);have z:F.length<sizeLine:=szN (by lia);refine⟨kS ns mn ws ps (some (.ref 0)) (some (.int j)) o,rfl,kS ns mn ws ps (some (.ref 0)) (some (.int j)) (some (.int (mx ns (100+j)))),[.lst ((F++[(x,q)]).map QP)],.inl ?_,F++[(x,q)],_,_,rfl,rfl,by simp;exact p,fun m s=>?_⟩
    ·simp[kS,v,hw,S,Y,eq,z,tyW,QP]
    ·rcases NO.mp s with y|y
     ·exact t m y
     ·rw[NG.mp y];exact⟨L,P⟩)
  obtain⟨H,h',G,F,r,o,rfl,rfl,p,t⟩:=d;rw[QJ,NJ]at p;obtain⟨M,M1,M2,M3,M4⟩:=Qen (Sb.uq F) (Sb.uq_nodup F);have O:=Sb.uq_len F;refine⟨M,M3,by lia,fun m s=>t m ((Sb.uq_mem F m).mp (M2 m s)),fun h=>?_⟩;have u:=Qdm (l:=F) (Nl (Nd (Nf (Nq p) f) (by decide))) (h:=[.lst (F.map QP)]) (a:=.ref 0) rfl
  have Z:(M.map trM).map toW=M.map QP:=by
   rw[Em];exact E1 fun m _=>Qcg
  rw[M1,Z]at u;refine VH (j:=1) (g:=[.lst (F.map QP),.lst (M.map QP)]) (by simp[scr]) ?_ rfl (by simp);have E:=fun h=>QaZ (ws:=ws) (h:=h);rw[c]at E;have D:ZO (Qa (Qb 2) Qd) (kS ns mn ws ps (some (.ref 0)) none none) [.lst []]=some (Ql 0 mn,none,[.lst []]):=ZU rfl (Nd f (by decide));simp only[kS]at D G;simp at u;simp[Zq,Zs,Zi,E,D,G,u]
noncomputable def bkL(w:Str):Ln:=["back",w]
noncomputable def Xn(f:Nat->List Str)(ls:List Ln)(n:Nat):List Ln:=(List.range n).flatMap fun g=>(f g).map bkL++(ls[g]?).toList
theorem JD{f:Nat->List Str}{ls:List Ln}{n:Nat}:Xn f ls (n+1)=Xn f ls n++((f n).map bkL++(ls[n]?).toList):=by
 unfold Xn;rw[DP,E2];simp
noncomputable def V4(F:Pl->List Str)(P:List Pt)(n:Nat):List Pt:=(List.range n).map fun k=>(((P[k]?).elim "" (·.1)),Xn (fun g=>F (k,g)) ((P[k]?).elim [] (·.2)) (ll P k+1))
theorem JV{F:Pl->List Str}{P:List Pt}{n:Nat}{x:Pt}(a:P[n]?=some x):V4 F P (n+1)=V4 F P n++[(x.1,Xn (fun g=>F (n,g)) x.2 (x.2.length+1))]:=by
 unfold V4;rw[DP,NL];have:ll P n=x.2.length:=by unfold ll;rw[a];rfl
 simp[a,this]
theorem Yn{f:Nat->List Str}{ls:List Ln}{B:Nat}(a:∀g,(f g).length<=B):∀n,(Xn f ls n).length<=n*(B+1)
 |0=>by simp[Xn]
 |n+1=>by
  have b:=Yn (ls:=ls) a n;have d:=a n;have c:((ls[n]?).toList).length<=1:=by cases ls[n]?<;>simp
  rw[JD,Nv,Nv,Ny,Yai];lia
theorem Yu{src:List Str}{mi:MI}{σ:MSt}{h:MH}(b:src.length<=100000)(hi:mi σ h=some (src.map .str,none,h)):Qz Jg mi [none] (QF 0) Vn (mFn Zg (Qa (mC (.str "back")) (Qa (Qb 0) Qd))) σ h=some (.lst ((src.map bkL).map Qj),h):=by
 let f:W->W:=fun w=>.tup [.str "back",w]
 have:=XC (fin:=Jg) (mi:=mi) (cp:=[none]) (me:=mFn Zg (Qa (mC (.str "back")) (Qa (Qb 0) Qd))) (σ:=σ) (caps:=[]) (h:=h) (items:=src.map .str) f hi ⟨_,rfl⟩ (by
  intro w _
  simp[f]) (by rw[Ny];exact Nl (szN b))
 rw[this];show some (W.lst ((src.map W.str).map f),h)=_;rw[Em,Em];rfl
theorem QaM{a:Type}(xs:List a)(k:Nat):KI xs (some (k:Int)) (some ((k:Int)+1))=(xs[k]?).toList:=by
 unfold KI;rw[HT.sIx_nat,show((k:Int)+1)=((k+1:Nat):Int) by exact rfl,HT.sIx_nat]
 by_cases h:k<xs.length
 ·rw[DQ h,DQ (Nl h),No h,EO h,show k+1-k=1 by exact Fe ..];rfl
 ·rw[LU (Nf (NQ.mp h) (Np _ _)),LU (NQ.mp h),En (NQ.mp h)];simp
noncomputable def VX(kvs:List (W×W))(F:Pl->List Str):Prop:=∀q,(VG kvs (trQ q)).getD (.lst [])=.lst ((F q).map .str)
theorem Qee{kvs:List (W×W)}{F:Pl->List Str}(t:VX kvs F){h:MH}{n:Nat}(c:h[n]?=some (.dct kvs))(a b:Nat):VQ (.ref n) [.tup [.int a,.int b],.lst []] h=some (.lst ((F (a,b)).map .str),h):=by
 have e:UN h (.ref n)=some kvs:=by simp only[UN,c]
 have d:nrm (.tup [.int a,.int b])=some (trQ (a,b)):=XE (q:=(a,b));unfold VQ;simp only[e,d,Nx,Fp];rw[t (a,b)]
theorem WO{P:List Pt}{j:Nat}{w:W}(h:(VA (P.map Qr))[j]?=some w):∃x,P[j]?=some x/\w=.tup [.int j,Qr x]:=by
 unfold VA at h;rw[NB,OR,NB]at h;cases a:P[j]? with
 |none=>rw[a]at h;cases h
 |some x=>
  rw[a]at h;refine⟨x,rfl,?_⟩;simp at h;rw[<-h]
theorem WL{P:List Pt}:(VA (P.map Qr)).length=P.length:=by simp[VA]
section
variable{h:MH}{A B:List W}
theorem XZ:(h++[MO.lst A])[h.length]?=some (MO.lst A):=by simp
theorem Wl:(h++[MO.lst A]).set h.length (MO.lst B)=h++[MO.lst B]:=by simp
theorem QjB{ws:List W}(hz:A.length+ws.length<=sizeLine):X0 (.ref h.length) [.lst ws] (h++[.lst A])=some (.non,h++[.lst (A++ws)]):=by
 unfold X0;simp only[XZ,loW,Nx];rw[if_pos hz,Wl]
theorem QjU{ws:List W}(hz:A.length+ws.length<=sizeLine):Jn (.ref h.length) [.tup ws] (h++[.lst A])=some (.non,h++[.lst (A++ws)]):=by
 unfold Jn;simp only[XZ];rw[if_pos hz,Wl]
theorem Qgl{w:W}(hz:A.length<sizeLine):Qx (.ref h.length) [w] (h++[.lst A])=some (.non,h++[.lst (A++[w])]):=by
 have e:=XZ (h:=h) (A:=A);have a:=Wl (h:=h) (A:=A) (B:=A++[w]);simp[hz,a]
theorem QiK:tyW (h++[.lst A]) "list" (.ref h.length)=true:=by simp[tyW]
end
noncomputable abbrev iS(P:List Pt)(mn:W)(nu pt li gp:Option W):MSt:=[some (QE P),some mn,some (.ref 0),some (.ref 1),nu,pt,li,gp]
section
variable{P:List Pt}{mn:W}{kvs:List (W×W)}{F:Pl->List Str}
theorem QcD(t:VX kvs F)(hF:∀q,(F q).length<=300){h:MH}(h0:h[0]?=some (.dct kvs)){k g:Nat}{x:Pt}{A:List Ln}(y:A.length<=50000) :
  Zy (iS P mn (some (.int k)) (some (Qr x)) (some (.ref h.length)) (some (.int g))) (h++[.lst (A.map Qj)])=some (.nx (iS P mn (some (.int k)) (some (Qr x)) (some (.ref h.length)) (some (.int g))) (h++[.lst ((A++((F (k,g)).map bkL++(x.2[g]?).toList)).map Qj)])):=by
 have l:0<h.length:=(Nm.mp h0).1;have b:(h++[.lst (A.map Qj)])[0]?=some (.dct kvs):=by rw[NP l];exact h0
 have u:=Qee t b k g;have r:tyW (h++[.lst (A.map Qj)]) "dict" (.ref 0)=true:=by simp only[tyW,b];rfl
 have m:=hF (k,g)
 have v:mMt "dict" VQ (Qb 2) (Qa (mFn Zg (Qa (Qb 4) (Qa (Qb 7) Qd))) (Qa (mFn JE Qd) Qd)) (iS P mn (some (.int k)) (some (Qr x)) (some (.ref h.length)) (some (.int g))) (h++[.lst (A.map Qj)])=some (.lst ((F (k,g)).map .str),h++[.lst (A.map Qj)]):=by
  simp[iS,r,u]
 have s:QC (mMt "dict" VQ (Qb 2) (Qa (mFn Zg (Qa (Qb 4) (Qa (Qb 7) Qd))) (Qa (mFn JE Qd) Qd))) (iS P mn (some (.int k)) (some (Qr x)) (some (.ref h.length)) (some (.int g))) (h++[.lst (A.map Qj)])=some ((F (k,g)).map .str,none,h++[.lst (A.map Qj)]):=by
  unfold QC;rw[v];rfl
 have f:=Yu (Nl (Nd m (by decide))) s;have n:=QjB (h:=h) (A:=A.map Qj) (ws:=((F (k,g)).map bkL).map Qj) (Nl (szN (by simp;lia)))
 have d:KI (x.2.map Qj) (some (g:Int)) (some ((g:Int)+1))=((x.2[g]?).toList).map Qj:=by
  rw[QaM,NB];cases x.2[g]?<;>rfl
 have w:((x.2[g]?).toList).length<=1:=by cases x.2[g]?<;>simp
 have i:=QjU (h:=h) (A:=A.map Qj++((F (k,g)).map bkL).map Qj) (ws:=((x.2[g]?).toList).map Qj) (Nl (szN (by simp;lia)));have j:=QiK (h:=h) (A:=A.map Qj);have a:=QiK (h:=h) (A:=A.map Qj++((F (k,g)).map bkL).map Qj)
 have c:∀e,wSl (.tup (x.2.map Qj)) (some (g:Int)) (some ((g:Int)+1)) e=some (.tup (((x.2[g]?).toList).map Qj),e):=fun e=>by
  show some (W.tup (KI (x.2.map Qj) (some (g:Int)) (some ((g:Int)+1))),e)=_;rw[d]
 rw[NL,NL];unfold Zy;generalize Qz Jg (QC (mMt "dict" VQ (Qb 2) (Qa (mFn Zg (Qa (Qb 4) (Qa (Qb 7) Qd))) (Qa (mFn JE Qd) Qd)))) [none] (QF 0) Vn (mFn Zg (Qa (mC (.str "back")) (Qa (Qb 0) Qd)))=co at f;generalize((F (k,g)).map bkL).map Qj=C at f n i a;generalize((x.2[g]?).toList).map Qj=B at i c;generalize A.map Qj=D at *;simp only[iS,Qr]at f ⊢;have p:atI [W.str x.1,.tup (x.2.map Qj)] 1=some (.tup (x.2.map Qj)):=rfl;generalize x.2.map Qj=z at *;simp[iS,f,j,n,a,i,c,Qr]
end
section
variable{P:List Pt}{mn:W}{kvs:List (W×W)}{F:Pl->List Str}
theorem QbA{F:Pl->List Str}{k n:Nat}{ls:List Ln}(hF:∀q,(F q).length<=300)(a:n<=102):(Xn (fun g=>F (k,g)) ls n).length<=50000:=by
 have c:=Yn (f:=fun g=>F (k,g)) (ls:=ls) (B:=300) (fun g=>hF _) n;have b:n*(300+1)<=102*(300+1):=Nat.mul_le_mul_right _ a;lia
theorem QfX(t:VX kvs F)(hF:∀q,(F q).length<=300){h:MH}(h0:h[0]?=some (.dct kvs)){k:Nat}{x:Pt}(p:x.2.length<=100){gp:Option W} :
  ∃a,Zi (ZO (Qa (Qc QL (mFn ZZ (Qa (Qc wIx (Qb 5) (mC (.int 1))) Qd)) (mC (.int 1))) Qd)) (QF 7) Zy (iS P mn (some (.int k)) (some (Qr x)) (some (.ref h.length)) gp) (h++[.lst []])=some (.nx (iS P mn (some (.int k)) (some (Qr x)) (some (.ref h.length)) a) (h++[.lst ((Xn (fun g=>F (k,g)) x.2 (x.2.length+1)).map Qj)])):=by
 have c:=QV (items:=Ql 0 (x.2.length+1)) (b:=QF 7) (body:=Zy) (fun n f e=>n<=x.2.length+1/\∃a,f=iS P mn (some (.int k)) (some (Qr x)) (some (.ref h.length)) a/\e=h++[.lst ((Xn (fun g=>F (k,g)) x.2 n).map Qj)])
  (Ql 0 (x.2.length+1)) 0 (iS P mn (some (.int k)) (some (Qr x)) (some (.ref h.length)) gp) (h++[.lst []]) ⟨NM _,gp,rfl,rfl⟩ (by
   rintro j w m f e ⟨r,a,rfl,rfl⟩
   obtain⟨d,rfl⟩:=Jp m;rw[NJ]at *;refine⟨_,rfl,_,_,.inl (QcD t hF h0 (QbA hF (by lia))),by exact d,_,rfl,?_⟩
   rw[JD])
 obtain⟨l,e,i,_,a,rfl,rfl⟩:=c;rw[QJ,NJ]at i;refine⟨a,?_⟩;have o:ZO (Qa (Qc QL (mFn ZZ (Qa (Qc wIx (Qb 5) (mC (.int 1))) Qd)) (mC (.int 1))) Qd) (iS P mn (some (.int k)) (some (Qr x)) (some (.ref h.length)) gp) (h++[.lst []])=some (Ql 0 (x.2.length+1),none,h++[.lst []]):=ZU (by simp[iS,Qr]) (by lia);unfold Zi;rw[o];simpa using i
theorem QcX(t:VX kvs F)(hF:∀q,(F q).length<=300){h:MH}(h0:h[0]?=some (.dct kvs)){k:Nat}{x:Pt}(j:x.2.length<=100){li gp:Option W}{A:List Pt}(h1:h[1]?=some (.lst (A.map Qr)))(l:A.length<=1000) :
  ∃b a h',JI (iS P mn (some (.int k)) (some (Qr x)) li gp) h=some (.nx (iS P mn (some (.int k)) (some (Qr x)) b a) h')/\h'[0]?=some (.dct kvs)/\h'[1]?=some (.lst ((A++[(x.1,Xn (fun g=>F (k,g)) x.2 (x.2.length+1))]).map Qr)):=by
 obtain⟨a,e⟩:=QfX (P:=P) (mn:=mn) t hF h0 (k:=k) j (gp:=gp);generalize n:Xn (fun g=>F (k,g)) x.2 (x.2.length+1)=L at *;have c:1<h.length:=(Nm.mp h1).1;have i:A.length<sizeLine:=szN (Nl (Nd l (by decide)));refine⟨some (.ref h.length),a,(h++[MO.lst (L.map Qj)]).set 1 (MO.lst ((A++[(x.1,L)]).map Qr)),?_,?_,?_⟩
 ·unfold JI;generalize Zi (ZO (Qa (Qc QL (mFn ZZ (Qa (Qc wIx (Qb 5) (mC (.int 1))) Qd)) (mC (.int 1))) Qd)) (QF 7) Zy=co at e;have f:(h++[MO.lst (L.map Qj)])[1]?=some (.lst (A.map Qr)):=by rw[NP c];exact h1
  have d:Qx (.ref 1) [Qr (x.1,L)] (h++[.lst (L.map Qj)])=some (.non,(h++[MO.lst (L.map Qj)]).set 1 (MO.lst ((A++[(x.1,L)]).map Qr))):=by
   unfold Qx;simp only[f];rw[if_pos (by rw[Ny];exact i),NL];rfl
  have m:tyW (h++[MO.lst (L.map Qj)]) "list" (.ref 1)=true:=by simp only[tyW,f];rfl
  simp only[iS,Qr]at e d;simp[iS,Qr,e,d,m,XZ]
 ·rw[EC (by decide),NP (N0 (by decide) c)];exact h0
 ·rw[Es (by simp;exact N0 (by decide) c)]
end
theorem QbJ{M:List Mn}{q:Pl}:(wa M q).length<=M.length:=by
 unfold wa;rw[Ny];exact FE _ _
theorem Qam{P:List Pt}{M:List Mn}(C:P.length<=5)(B:tot P<=100)(u:M.length<=300)(h:MH):X7 [QE P,.lst (M.map QP)] h=some (QE (V4 (wa M) P P.length),h):=by
 obtain⟨K,E,H⟩:=Wy (M:=M) (Nl (Nd u (by decide)));have t:VX (dP M K) (wa M):=fun q=>Qjr E
 have a:=QV (items:=VA (P.map Qr)) (b:=Vk [4,5]) (body:=JI) (fun n s h=>∃l pt c d,s=iS P (.lst (M.map QP)) l pt c d/\h[0]?=some (.dct (dP M K))/\h[1]?=some (.lst ((V4 (wa M) P n).map Qr)))
  (VA (P.map Qr)) 0 (iS P (.lst (M.map QP)) none none none none) [.dct (dP M K),.lst []] ⟨none,none,none,none,rfl,rfl,rfl⟩ (by
   rintro j w D s h ⟨l,pt,c,d,rfl,v,i⟩
   obtain⟨x,o,rfl⟩:=WO D;have p:=(Nm.mp o).1;rw[NJ]at *;have m:=X6 (N5 o);obtain⟨A,G,y,e,I,f⟩:=QcX (P:=P) (mn:=.lst (M.map QP)) t (fun q=>Nf QbJ u) v (k:=j) (x:=x) (Nf m B) (li:=c) (gp:=d) i (by simp[V4];exact Nl (N0 (Ng p C) (by decide)));refine⟨_,rfl,_,_,.inl e,_,_,_,_,rfl,I,?_⟩;rw[JV o]
   exact f)
 obtain⟨z,y,f,l,pt,c,d,rfl,v,i⟩:=a;rw[WL,NJ]at i;refine ZE (g:=y) (by simp) ?_ (by simp)
 have r:XW (Qa (Qb 0) Qd) (iS P (.lst (M.map QP)) none none none none) [.dct (dP M K),.lst []]=some (VA (P.map Qr),none,[.dct (dP M K),.lst []]):=by
  unfold XW;simp[QE,iS]
 simp only[iS]at r f;have N:pur (QE P)=true:=by simp
 simp only[QE]at r f ⊢;simp[V8,Zs,Zi,H,r,f,i]
noncomputable abbrev uS(P:List Pt)(n m:Nat)(k a b c d:Option W):MSt:=[some (QE P),some (.ref n),some (.ref m),k,a,b,c,d]
section
variable{P:List Pt}{n:Nat}{kvs:List (W×W)}{F:Pl->List Str}
theorem Ge(t:VX kvs F)(hF:∀q,(F q).length<=300){h:MH}(h0:h[n]?=some (.dct kvs)){m k g:Nat}{x:Pt}{A:List Ln}(C:A.length<=50000) :
  Q5 (uS P n m (some (.int k)) (some (.str x.1)) (some (.tup (x.2.map Qj))) (some (.lst (A.map Qj))) (some (.int g))) h=some (.nx (uS P n m (some (.int k)) (some (.str x.1)) (some (.tup (x.2.map Qj))) (some (.lst ((A++((F (k,g)).map bkL++(x.2[g]?).toList)).map Qj))) (some (.int g))) h):=by
 have v:=Qee t h0 k g;have s:tyW h "dict" (.ref n)=true:=by simp only[tyW,h0];rfl
 have j:=hF (k,g)
 have w:mMt "dict" VQ (Qb 1) (Qa (mFn Zg (Qa (Qb 3) (Qa (Qb 7) Qd))) (Qa (mFn JE Qd) Qd)) (uS P n m (some (.int k)) (some (.str x.1)) (some (.tup (x.2.map Qj))) (some (.lst (A.map Qj))) (some (.int g))) h=some (.lst ((F (k,g)).map .str),h):=by
  simp[uS,s,v]
 have u:QC (mMt "dict" VQ (Qb 1) (Qa (mFn Zg (Qa (Qb 3) (Qa (Qb 7) Qd))) (Qa (mFn JE Qd) Qd))) (uS P n m (some (.int k)) (some (.str x.1)) (some (.tup (x.2.map Qj))) (some (.lst (A.map Qj))) (some (.int g))) h=some ((F (k,g)).map .str,none,h):=by
  unfold QC;rw[w];rfl
 have d:=Yu (Nl (Nd j (by decide))) u;have B:((x.2[g]?).toList).length<=1:=by cases x.2[g]?<;>simp
 have o:(A.map Qj).length+(((F (k,g)).map bkL).map Qj).length<=sizeLine:=Nl (szN (by simp;lia));have i:(A.map Qj++((F (k,g)).map bkL).map Qj).length+(((x.2[g]?).toList).map Qj).length<=sizeLine:=Nl (szN (by simp;lia))
 have b:KI (x.2.map Qj) (some (g:Int)) (some ((g:Int)+1))=((x.2[g]?).toList).map Qj:=by
  rw[QaM,NB];cases x.2[g]?<;>rfl
 have a:∀c,wSl (.tup (x.2.map Qj)) (some (g:Int)) (some ((g:Int)+1)) c=some (.tup (((x.2[g]?).toList).map Qj),c):=fun c=>by
  show some (W.tup (KI (x.2.map Qj) (some (g:Int)) (some ((g:Int)+1))),c)=_;rw[b]
 rw[NL,NL];unfold Q5;generalize Qz Jg (QC (mMt "dict" VQ (Qb 1) (Qa (mFn Zg (Qa (Qb 3) (Qa (Qb 7) Qd))) (Qa (mFn JE Qd) Qd)))) [none] (QF 0) Vn (mFn Zg (Qa (mC (.str "back")) (Qa (Qb 0) Qd)))=co at d;generalize((F (k,g)).map bkL).map Qj=e at d o i;generalize((x.2[g]?).toList).map Qj=r at i a;generalize A.map Qj=f at *;generalize x.2.map Qj=D at *;have z:∀h,QL (.lst f) (.lst e) h=some (.lst (f++e),h):=fun h=>by rw[Wc,if_pos o]
 have y:∀h,QL (.lst (f++e)) (.lst r) h=some (.lst (f++e++r),h):=fun h=>by rw[Wc,if_pos i]
 simp only[uS]at d;simp only[uS];have l:∀p h,Gb [.tup p] h=some (.lst p,h):=fun _ _=>rfl;simp[d,z,y,a,l]
theorem Qb6(t:VX kvs F)(hF:∀q,(F q).length<=300){h:MH}(h0:h[n]?=some (.dct kvs)){m k:Nat}{x:Pt}(r:x.2.length<=100){gp:Option W} :
  ∃a,Zi (ZO (Qa (Qc QL (mFn ZZ (Qa (Qb 5) Qd)) (mC (.int 1))) Qd)) (QF 7) Q5 (uS P n m (some (.int k)) (some (.str x.1)) (some (.tup (x.2.map Qj))) (some (.lst [])) gp) h=some (.nx (uS P n m (some (.int k)) (some (.str x.1)) (some (.tup (x.2.map Qj))) (some (.lst ((Xn (fun g=>F (k,g)) x.2 (x.2.length+1)).map Qj))) a) h):=by
 have c:=QV (items:=Ql 0 (x.2.length+1)) (b:=QF 7) (body:=Q5) (fun j f d=>j<=x.2.length+1/\∃a,f=uS P n m (some (.int k)) (some (.str x.1)) (some (.tup (x.2.map Qj))) (some (.lst ((Xn (fun g=>F (k,g)) x.2 j).map Qj))) a/\d=h)
  (Ql 0 (x.2.length+1)) 0 (uS P n m (some (.int k)) (some (.str x.1)) (some (.tup (x.2.map Qj))) (some (.lst [])) gp) h ⟨NM _,gp,rfl,rfl⟩ (by
   rintro j w o f d ⟨s,a,rfl,rfl⟩
   obtain⟨e,rfl⟩:=Jp o;rw[NJ]at *;refine⟨_,rfl,_,_,.inl (Ge t hF h0 (QbA hF (by lia))),by exact e,some (.int j),?_,rfl⟩
   rw[JD])
 obtain⟨l,d,i,_,a,rfl,rfl⟩:=c;rw[QJ,NJ]at i;refine⟨a,?_⟩;have p:ZO (Qa (Qc QL (mFn ZZ (Qa (Qb 5) Qd)) (mC (.int 1))) Qd) (uS P n m (some (.int k)) (some (.str x.1)) (some (.tup (x.2.map Qj))) (some (.lst [])) gp) d=some (Ql 0 (x.2.length+1),none,d):=ZU (by simp[uS]) (by lia);unfold Zi;rw[p];simpa using i
theorem U2(t:VX kvs F)(hF:∀q,(F q).length<=300){h:MH}(h0:h[n]?=some (.dct kvs)){k:Nat}{x:Pt}(r:P[k]?=some x)(p:x.2.length<=100){a b c d:Option W}{A:List Pt}(s:A.length<=1000) :
  ∃B z y d',Z0 (uS P n h.length (some (.int k)) a b c d) (h++[.lst (A.map Qr)])=some (.nx (uS P n h.length (some (.int k)) B z y d') (h++[.lst ((A++[(x.1,Xn (fun g=>F (k,g)) x.2 (x.2.length+1))]).map Qr)])):=by
 have f:=(Nm.mp h0).1;obtain⟨i,e⟩:=Qb6 (P:=P) t hF (n:=n) (h:=h++[.lst (A.map Qr)]) (by rw[NP f];exact h0) (m:=h.length) (k:=k) p (gp:=d);generalize C:Xn (fun g=>F (k,g)) x.2 (x.2.length+1)=L at *;have o:A.length<sizeLine:=szN (Nl (Nd s (by decide)));refine⟨some (.str x.1),some (.tup (x.2.map Qj)),some (.lst (L.map Qj)),i,?_⟩;unfold Z0;generalize Zi (ZO (Qa (Qc QL (mFn ZZ (Qa (Qb 5) Qd)) (mC (.int 1))) Qd)) (QF 7) Q5=co at e;have l:=Qgl (h:=h) (A:=A.map Qr) (w:=Qr (x.1,L)) (by rw[Ny];exact o);have u:=QiK (h:=h) (A:=A.map Qr);have j:=K4 r;simp only[uS,Qr,QE]at e l j;simp only[uS,QE];rw[NL];have v:Vk [4,5] (W.tup [W.str x.1,W.tup (x.2.map Qj)]) [some (W.tup (P.map Qr)),some (W.ref n),some (W.ref h.length),some (W.int k),a,b,c,d] (h++[MO.lst (A.map Qr)])=some [some (W.tup (P.map Qr)),some (W.ref n),some (W.ref h.length),some (W.int k),some (.str x.1),some (.tup (x.2.map Qj)),c,d]:=rfl;simp[j,e,l,u,Qr,v]
theorem KA(t:VX kvs F)(hF:∀q,(F q).length<=300){h:MH}(h0:h[n]?=some (.dct kvs))(r:P.length<=5)(v:tot P<=100):QX [QE P,.ref n] h=some (QE (V4 F P P.length),h++[.lst ((V4 F P P.length).map Qr)]):=by
 have f:=QV (items:=Ql 0 P.length) (b:=QF 3) (body:=Z0) (fun j p m=>∃k a b c d,p=uS P n h.length k a b c d/\m=h++[.lst ((V4 F P j).map Qr)])
  (Ql 0 P.length) 0 (uS P n h.length none none none none none) (h++[.lst []]) ⟨none,none,none,none,none,rfl,rfl⟩ (by
   rintro j w y p m ⟨k,a,b,c,d,rfl,rfl⟩
   obtain⟨g,rfl⟩:=Jp y;rw[NJ]at *;have i:P[j]?=some P[j]:=No g;generalize P[j]=x at i;have l:=X6 (N5 i);obtain⟨D,C,B,z,e⟩:=U2 (n:=n) t hF h0 i (Nf l v) (a:=a) (b:=b) (c:=c) (d:=d) (A:=V4 F P j) (by simp[V4];exact Nl (N0 (Ng g r) (by decide)));refine⟨_,rfl,_,_,.inl e,_,_,_,_,_,rfl,?_⟩
   rw[JV i])
 obtain⟨u,m,o,k,a,b,c,d,rfl,rfl⟩:=f;rw[QJ,NJ]at o;have s:ZO (Qa (mFn ZZ (Qa (Qb 0) Qd)) Qd) (uS P n h.length none none none none none) (h++[.lst []])=some (Ql 0 P.length,none,h++[.lst []]):=ZU (by simp[uS,QE]) (Nd r (by decide));simp only[uS,QE]at s o ⊢;simp[QX,Zs,Zi,s,o,XZ]
end
theorem Qcu{m:FM}{ws vs:List W}{v:W}{j:Nat}{g h:MH}(f:ZD ws=true)(e:m ws []=some (.tup [v,.ref j],g))(i:g[j]?=some (.lst vs))(d:ZD vs=true)(hw:pur v=true):box frN m ws h=some (.tup [v,.lst vs],h):=by
 have hr:XB 0 ws=some (ws,[]):=Kf f;have a:ths (res (Vy [] [] h.length) g 3) [v]=some [v]:=ZR _ [v] (by simp[hw])
 have n:th (res (Vy [] [] h.length) g 3) v=some v:=by
  unfold ths at a;cases b:th (res (Vy [] [] h.length) g 3) v with
  |none=>rw[b]at a;cases a
  |some y=>
   rw[b]at a;simp[ths]at a;rw[a]
 have:=Wu (m:=m) (args:=ws) (as:=ws) (ns:=[]) (os:=[]) (os':=[]) (g:=g) (h:=h) (w:=.tup [v,.ref j]) (w':=.tup [v,.lst vs]) hr (by simp) rfl e rfl (by simp) (by
  have l:th (res (Vy [] [] h.length) g 3) (.ref j)=some (.lst vs):=by
   unfold th res;simp[Vy,i,ZR _ vs d]
  unfold th
  simp[ths,n,l])
 simpa[QD]using this
noncomputable def LB(l:Ln):Prop:=∃x r,l=x::r/\(x="back"->∃w,r=[w])
noncomputable def bkW(l:Ln):Option Str:=match l with
 |[x,w]=>if x="back"then some w else none
 |_=>none
noncomputable abbrev Sc:=List Ln×List Mn
noncomputable def stp(W:List Str)(k:Nat)(s:Sc)(l:Ln):Sc:=match bkW l with
 |some w=>if w∈W then(s.1,s.2++[(w,(k,s.1.length))])else s
 |none=>(s.1++[l],s.2)
theorem Qa8{w:Str}:bkW (bkL w)=some w:=by simp[bkW,bkL]
theorem Qbi{W:List Str}{k:Nat}:∀(ws:List Str) (s:Sc),(ws.map bkL).foldl (stp W k) s=(s.1,s.2++(ws.filter (·∈W)).map fun w=>(w,(k,s.1.length)))
 |[],s=>by simp
 |w::ws,s=>by
  rw[NC,Fo,Qbi ws]
  by_cases h:w∈W
  ·simp[stp,Qa8,h]
  ·simp[stp,Qa8,h]
noncomputable def evL(W:List Str)(f:Nat->List Str)(k n:Nat):List Mn:=(List.range n).flatMap fun g=>((f g).filter (·∈W)).map fun w=>(w,(k,g))
theorem W3{W:List Str}{f:Nat->List Str}{k n:Nat}:evL W f k (n+1)=evL W f k n++((f n).filter (·∈W)).map fun w=>(w,(k,n)):=by
 unfold evL;rw[DP,E2];simp
theorem WM{W:List Str}{k:Nat}{f:Nat->List Str}{ls:List Ln}(b:∀l∈ls,bkW l=none){D:List Mn}:∀n,n<=ls.length+1->(Xn f ls n).foldl (stp W k) ([],D)=(ls.take n,D++evL W f k n)
 |0,_=>by simp[Xn,evL]
 | n+1,h=>by
  rw[JD,DX,WM b n (Nl h),DX,Qbi,W3];have c:(ls.take n).length=n:=by rw[Ed];lia
  dsimp only;rw[c];cases a:ls[n]? with
  |none=>
   rw[DY]at a;simp[Ej a,Ej (Nat.le_succ_of_le a)]
  |some l=>
   have:=b l (N5 a);simp[stp,this,Ee,a]
noncomputable def evN(W:List Str)(F:Pl->List Str)(P:List Pt)(n:Nat):List Mn:=(List.range n).flatMap fun k=>evL W (fun g=>F (k,g)) k (ll P k+1)
theorem UE{W:List Str}{F:Pl->List Str}{P:List Pt}{n:Nat}:evN W F P (n+1)=evN W F P n++evL W (fun g=>F (n,g)) n (ll P n+1):=by
 unfold evN;rw[DP,E2];simp
theorem QaO{W:List Str}{F:Pl->List Str}{P:List Pt}{n:Nat}{m:Mn}:m∈evN W F P n↔m.1∈W/\m.1∈F m.2/\m.2.1<n/\m.2.2<=ll P m.2.1:=by
 unfold evN evL;simp only[Fa,NE,Fj,N9,decide_eq_true_eq];constructor
 ·rintro⟨k,c,g,f,w,⟨b,a⟩,rfl⟩
  exact⟨a,b,c,by show g<=ll P k;lia⟩
 ·rintro⟨b,a,e,d⟩
  exact⟨m.2.1,e,m.2.2,by exact Nd d (EI _),m.1,⟨a,b⟩,rfl⟩
noncomputable def dM(D:List Mn):List (W×W):=D.map fun m=>(QP m,.bl true)
theorem Qhm{D:List Mn}{m:Mn}:(VG (dM D) (trM m)).isSome=decide (m∈D):=by
 unfold VG dM;rw[Yau]
 induction D with
 |nil=>rfl
 |cons a D b=>
  rw[NC,NW]
  by_cases h:a=m
  ·subst h;simp
  ·have:¬trM a=trM m:=fun z=>h (Wk z);have c:¬m=a:=fun z=>h z.symm;simp only[QgP,Im,this,decide_false];rw[b];simp[c]
theorem Qha{L:List Mn}{m:Mn}:Yq (dM (Sb.uq L)) (trM m) (QP m) (.bl true)=dM (Sb.uq (L++[m])):=by
 unfold Yq;rw[Qhm,Sb.uq_snoc]
 by_cases h:m∈Sb.uq L
 ·rw[if_pos (by simpa using h),if_pos h]
  have:∀p∈dM (Sb.uq L),(if nrm p.1=some (trM m)then(p.1,W.bl true)else p)=p:=fun p b=>by
   obtain⟨a,_,rfl⟩:=NE.mp b;split<;>rfl
  rw[E1 this,List.map_id']
 ·rw[if_neg (by simpa using h),if_neg h];simp[dM]
theorem Qf8{h:MH}{n:Nat}{L:List Mn}{m:Mn}(a:h[n]?=some (.dct (dM (Sb.uq L))))(hz:L.length<=100000):VP (.ref n) (QP m) (.bl true) h=some (h.set n (.dct (dM (Sb.uq (L++[m]))))):=by
 have b:(dM (Sb.uq L)).length<sizeLine:=by
  have:=Sb.uq_len L;exact szN (by simp[dM];exact Nf this hz)
 unfold VP;simp only[a,QgP,Nx];rw[if_pos b,Qha]
theorem Qkp{x:Str}{l:List Str}{h:MH}:wIn false (.str x) (.lst (l.map .str)) h=some (.bl (decide (x∈l)),h):=by
 rw[Qjz rfl JJ (by simp[dep]) (Nf Va (by decide))]
 have:inW (.str x) (l.map .str)=decide (x∈l):=by
  induction l with
  |nil=>rfl
  | cons y L b=>
   unfold inW at b ⊢;rw[NC,DS,b,Oa];simp only[eqW,Di,beq_iff_eq,decide_eq_true_eq,NF];constructor
   ·rintro(a|a)
    ·exact .inl a.symm
    ·exact .inr a
   ·rintro(a|a)
    ·exact .inl a.symm
    ·exact .inr a
 rw[this];rfl
noncomputable abbrev tS(Q:List Pt)(Z:List Str)(nu pt li ln:Option W):MSt:=[some (QE Q),some (.lst (Z.map .str)),some (.ref 0),some (.ref 1),nu,pt,li,ln]
section
variable{Q:List Pt}{Z:List Str}
theorem Qbp{h:MH}{k:Nat}{x:Pt}{l:Ln}(n:LB l){A:List Ln}{L:List Mn}(h1:h[1]?=some (.dct (dM (Sb.uq L))))(q:A.length<=50000)(p:L.length<=50000) :
  ∃h',h'.length=h.length/\h'[0]?=h[0]?/\h'[1]?=some (.dct (dM (Sb.uq (stp Z k (A,L) l).2)))/\Q9 (tS Q Z (some (.int k)) (some (Qr x)) (some (.ref h.length)) (some (Qj l))) (h++[.lst (A.map Qj)])=some (.nx (tS Q Z (some (.int k)) (some (Qr x)) (some (.ref h.length)) (some (Qj l))) (h'++[.lst ((stp Z k (A,L) l).1.map Qj)])):=by
 obtain⟨y,r,rfl,o⟩:=n;have f:1<h.length:=(Nm.mp h1).1;have d:=QiK (h:=h) (A:=A.map Qj)
 by_cases c:y="back"
 ·subst c;obtain⟨w,rfl⟩:=o rfl;have a:bkW ["back",w]=some w:=Qa8;have i:=fun h=>Qkp (x:=w) (l:=Z) (h:=h)
  by_cases hw:w∈Z
  ·refine⟨h.set 1 (.dct (dM (Sb.uq (L++[(w,(k,A.length))])))),by simp,?_,?_,?_⟩
   ·rw[EC (by decide)]
   ·rw[Es f];simp[stp,a,hw]
   ·have t:(h++[MO.lst (A.map Qj)])[1]?=some (.dct (dM (Sb.uq L))):=by rw[NP f];exact h1
    have j:=Qf8 (m:=(w,(k,A.length))) t (Nl (Nd p (by decide)));rw[List.set_append_left _ _ f]at j;have s:(stp Z k (A,L) ["back",w]).1=A:=by simp[stp,a,hw]
    rw[s];have g:VP (.ref 1) (.tup [.str w,.tup [.int k,.int A.length]]) (.bl true) (h++[MO.lst (A.map Qj)])=some (h.set 1 (.dct (dM (Sb.uq (L++[(w,(k,A.length))]))))++[MO.lst (A.map Qj)]):=j;have b:=XZ (h:=h) (A:=A.map Qj);simp[tS,Qj,i,hw,K1,g,b]
  ·refine⟨h,rfl,rfl,?_,?_⟩
   ·simp[stp,a,hw,h1]
   ·simp[tS,Qj,i,hw,stp,a]
 ·have a:bkW (y::r)=none:=by
   unfold bkW;split
   ·rename_i e;cases e;rw[if_neg c]
   ·rfl
  have b:=Qgl (h:=h) (A:=A.map Qj) (w:=Qj (y::r)) (szN (by rw[Ny];exact Nl (Nd q (by decide))));refine⟨h,rfl,rfl,by simp[stp,a,h1],?_⟩;simp only[Qj,NC]at b;simp[tS,Qj,c,d,b,stp,a]
end
theorem Ut{Z:List Str}{k:Nat}:∀(ls:List Ln) (s:Sc),(ls.foldl (stp Z k) s).1.length<=s.1.length+ls.length/\(ls.foldl (stp Z k) s).2.length<=s.2.length+ls.length
 |[],s=>⟨Nu _,Nu _⟩
 | l::ls,s=>by
  have a:=Ut (Z:=Z) (k:=k) ls (stp Z k s l)
  have b:(stp Z k s l).1.length<=s.1.length+1/\(stp Z k s l).2.length<=s.2.length+1:=by
   unfold stp;split
   ·split<;>simp
   ·simp
  rw[Fo,El];lia
section
variable{Q:List Pt}{Z:List Str}
theorem Go{h:MH}{k:Nat}{x:Pt}(e:∀l∈x.2,LB l){L:List Mn}(h1:h[1]?=some (.dct (dM (Sb.uq L))))(B:x.2.length<=20000)(C:L.length<=20000){ln:Option W} :
  ∃a h',h'.length=h.length/\h'[0]?=h[0]?/\h'[1]?=some (.dct (dM (Sb.uq (x.2.foldl (stp Z k) ([],L)).2)))/\Zi (QC (Qc wIx (Qb 5) (mC (.int 1)))) (QF 7) Q9 (tS Q Z (some (.int k)) (some (Qr x)) (some (.ref h.length)) ln) (h++[.lst []])=some (.nx (tS Q Z (some (.int k)) (some (Qr x)) (some (.ref h.length)) a) (h'++[.lst ((x.2.foldl (stp Z k) ([],L)).1.map Qj)])):=by
 have c:=QV (items:=x.2.map Qj) (b:=QF 7) (body:=Q9) (fun n p g=>∃a h',h'.length=h.length/\h'[0]?=h[0]?/\h'[1]?=some (.dct (dM (Sb.uq ((x.2.take n).foldl (stp Z k) ([],L)).2)))/\p=tS Q Z (some (.int k)) (some (Qr x)) (some (.ref h.length)) a/\g=h'++[.lst (((x.2.take n).foldl (stp Z k) ([],L)).1.map Qj)])
  (x.2.map Qj) 0 (tS Q Z (some (.int k)) (some (Qr x)) (some (.ref h.length)) ln) (h++[.lst []]) ⟨ln,h,rfl,rfl,h1,rfl,rfl⟩ (by
   rintro j w q p g ⟨a,h',o,m,d,rfl,rfl⟩
   rw[NB]at q;obtain⟨l,f,rfl⟩:=Nk.mp q;rw[NJ]at *;have fl:=Ut (Z:=Z) (k:=k) (x.2.take j) ([],L);have z:(x.2.take j).length<=x.2.length:=by rw[Ed];exact Dp _ _
   simp only[L5,NJ]at fl;have D:((x.2.take j).foldl (stp Z k) ([],L))=(((x.2.take j).foldl (stp Z k) ([],L)).1,((x.2.take j).foldl (stp Z k) ([],L)).2):=rfl;obtain⟨i,E,y,v,s⟩:=Qbp (Q:=Q) (Z:=Z) (k:=k) (x:=x) (e l (N5 f)) (A:=((x.2.take j).foldl (stp Z k) ([],L)).1) d (by lia) (by lia);rw[o]at s;refine⟨_,rfl,_,_,.inl s,_,i,by lia,by rw[y,m],?_,rfl,?_⟩
   ·rw[Ee,f,DX];exact v
   ·rw[Ee,f,DX]
    rfl)
 obtain⟨t,g,r,a,h',o,m,d,rfl,rfl⟩:=c;rw[Ny,NJ,EK]at d r;refine⟨a,h',o,m,d,?_⟩
 have u:QC (Qc wIx (Qb 5) (mC (.int 1))) (tS Q Z (some (.int k)) (some (Qr x)) (some (.ref h.length)) ln) (h++[.lst []])=some (x.2.map Qj,none,h++[.lst []]):=by
  unfold QC;simp[tS,Qr];rfl
 unfold Zi;rw[u];simpa using r
theorem Qct{h:MH}{k:Nat}{x:Pt}(d:∀l∈x.2,LB l){B:List Pt}{L:List Mn}(h0:h[0]?=some (.lst (B.map Qr)))(p:B.length<=1000)(h1:h[1]?=some (.dct (dM (Sb.uq L))))(n:x.2.length<=20000)(o:L.length<=20000){li ln:Option W} :
  ∃c a h',ZC (tS Q Z (some (.int k)) (some (Qr x)) li ln) h=some (.nx (tS Q Z (some (.int k)) (some (Qr x)) c a) h')/\h'[0]?=some (.lst ((B++[(x.1,(x.2.foldl (stp Z k) ([],L)).1)]).map Qr))/\h'[1]?=some (.dct (dM (Sb.uq (x.2.foldl (stp Z k) ([],L)).2))):=by
 obtain⟨a,h',f,s,r,e⟩:=Go (Q:=Q) (Z:=Z) (k:=k) d h1 n o (ln:=ln);have g:1<h.length:=(Nm.mp h1).1;generalize(x.2.foldl (stp Z k) ([],L)).1=A at *;generalize(x.2.foldl (stp Z k) ([],L)).2=t at *;have m:B.length<sizeLine:=szN (Nl (Nd p (by decide)));refine⟨some (.ref h.length),a,(h'++[MO.lst (A.map Qj)]).set 0 (MO.lst ((B++[(x.1,A)]).map Qr)),?_,?_,?_⟩
 ·unfold ZC;generalize Zi (QC (Qc wIx (Qb 5) (mC (.int 1)))) (QF 7) Q9=co at e;have j:(h'++[MO.lst (A.map Qj)])[0]?=some (.lst (B.map Qr)):=by rw[NP (Ng (N0 (by decide) g) (Nq f.symm)),s];exact h0
  have i:Qx (.ref 0) [Qr (x.1,A)] (h'++[MO.lst (A.map Qj)])=some (.non,(h'++[MO.lst (A.map Qj)]).set 0 (MO.lst ((B++[(x.1,A)]).map Qr))):=by
   unfold Qx;simp only[j];rw[if_pos (by rw[Ny];exact m),NL];rfl
  have q:tyW (h'++[MO.lst (A.map Qj)]) "list" (.ref 0)=true:=by simp only[tyW,j];rfl
  have b:=XZ (h:=h') (A:=A.map Qj);rw[f]at b;simp only[tS,Qr]at e i;simp[tS,Qr,e,i,q,b]
 ·rw[Es (by simp)]
 ·rw[EC (by decide),NP (Ng g (Nq f.symm))];exact r
end
theorem L45.nb{wl os:List Str}{l:Ln}(h:L45 wl os l):bkW l=none:=by
 obtain⟨x,r,rfl,a,_⟩:=h.head;unfold bkW;split
 ·rename_i e;cases e;rw[if_neg a]
 ·rfl
theorem L45.lb{wl os:List Str}{l:Ln}(h:L45 wl os l):LB l:=by
 obtain⟨x,r,rfl,a,_⟩:=h.head;exact⟨x,r,rfl,fun z=>absurd z a⟩
theorem Qcs{f:Nat->List Str}{ls:List Ln}{n:Nat}{l:Ln}(h:l∈Xn f ls n):l∈ls\/∃w,l=bkL w:=by
 unfold Xn at h;obtain⟨g,_,h⟩:=Fa.mp h
 rcases NO.mp h with h|h
 ·obtain⟨w,_,rfl⟩:=NE.mp h;exact .inr ⟨w,rfl⟩
 ·cases e:ls[g]? with
  |none=>rw[e]at h;cases h
  |some y=>
   rw[e]at h;simp at h;rw[h];exact .inl (N5 e)
theorem WK{F:Pl->List Str}{P:List Pt}{n:Nat}:(V4 F P n).length=n:=by simp[V4]
theorem WW{F:Pl->List Str}{P:List Pt}{n k:Nat}{y:Pt}(h:(V4 F P n)[k]?=some y)(c:n<=P.length):∃x,P[k]?=some x/\k<n/\y=(x.1,Xn (fun g=>F (k,g)) x.2 (x.2.length+1)):=by
 have b:=(Nm.mp h).1;rw[WK]at b;have a:P[k]?=some P[k]:=No (Ng b c);generalize P[k]=x at a;refine⟨x,a,b,?_⟩;unfold V4 at h;rw[NB,DF b]at h;have:ll P k=x.2.length:=by unfold ll;rw[a];rfl
 simp[a,this]at h;exact h.symm
theorem QjS{w:Str}:LP (bkL w):=⟨"back",[w],rfl,fun z=>absurd z (by decide)⟩
theorem Qjq{w:Str}:LB (bkL w):=⟨"back",[w],rfl,fun _=>⟨w,rfl⟩⟩
theorem QdZ{f:Nat->List Str}{ls:List Ln}:∀n,(Xn f ls n).filterMap wdL=(ls.take n).filterMap wdL
 |0=>by simp[Xn]
 | n+1=>by
  have b:((f n).map bkL).filterMap wdL=[]:=by
   rw[List.filterMap_eq_nil_iff];intro l a;obtain⟨w,_,rfl⟩:=NE.mp a;rfl
  rw[JD,IF,IF,QdZ n,b,IQ,Ee,IF]
section
variable{P:List Pt}{ws:List Str}{F:Pl->List Str}
theorem Qdo:∀n,n<=P.length->pw (V4 F P n)=pw (P.take n)
 |0,_=>rfl
 |n+1,h=>by
  have a:P[n]?=some P[n]:=No h;generalize P[n]=x at a;have b:=Qdo n (Nl h);unfold pw at b ⊢;rw[JV a,E2,b,Ee,a,E2];simp[QdZ,Ej]
theorem GN(hF:∀q,(F q).length<=12):∀n,n<=P.length->tot (V4 F P n)<=13*(tot (P.take n)+n)
 |0,_=>by simp[V4,tot]
 | n+1,h=>by
  have a:P[n]?=some P[n]:=No h;generalize P[n]=x at a;have c:=GN hF n (Nl h);have d:=Yn (f:=fun g=>F (n,g)) (ls:=x.2) (B:=12) (fun g=>hF _) (x.2.length+1)
  have i:tot (V4 F P (n+1))=tot (V4 F P n)+(Xn (fun g=>F (n,g)) x.2 (x.2.length+1)).length:=by
   rw[JV a];simp[tot]
  have e:tot (P.take (n+1))=tot (P.take n)+x.2.length:=by
   rw[Ee,a];simp[tot]
  lia
theorem QaB{Z:List Str}{f:Nat->List Str}{k:Nat}{B:Nat}(a:∀g,(f g).length<=B):∀n,(evL Z f k n).length<=n*B
 |0=>by simp[evL]
 |n+1=>by
  have b:=QaB (Z:=Z) (k:=k) a n;have d:=a n;have c:=FE (fun w=>decide (w∈Z)) (f n);rw[W3,Nv,Ny,Yai];lia
theorem Qa9{Z:List Str}(hF:∀q,(F q).length<=12):∀n,n<=P.length->(evN Z F P n).length<=12*(tot (P.take n)+n)
 |0,_=>by simp[evN]
 | n+1,h=>by
  have a:P[n]?=some P[n]:=No h;generalize P[n]=x at a;have c:ll P n=x.2.length:=by unfold ll;rw[a];rfl
  have b:=Qa9 (Z:=Z) hF n (Nl h);have d:=QaB (Z:=Z) (f:=fun g=>F (n,g)) (k:=n) (B:=12) (fun g=>hF _) (ll P n+1)
  have e:tot (P.take (n+1))=tot (P.take n)+x.2.length:=by
   rw[Ee,a];simp[tot]
  rw[UE,Nv];lia
theorem Qc5(n:Nat):tot (P.take n)<=tot P:=by
 have:tot P=tot (P.take n)+tot (P.drop n):=by
  unfold tot;rw[<-FQ,<-NL,Eo]
 exact Nf (Np _ _) (Nq this.symm)
theorem Qe1{h:MH}{n:Nat}{D:List Mn}(a:h[n]?=some (.dct (dM D))):XV [.ref n] h=some (.ref h.length,h++[.lst ((Sb.srtT (D.map trM)).map toW)]):=by
 have c:UN h (.ref n)=some (dM D):=by simp only[UN,a]
 have b:(dM D).map (·.1)=D.map QP:=by simp[dM]
 unfold XV;simp only[c,Nx,b,Qeo];rw[if_pos (Qiv D)]
noncomputable def mk(Z:List Str)(F:Pl->List Str)(P:List Pt):List W:=(Sb.srtT ((Sb.uq (evN Z F P P.length)).map trM)).map toW
theorem QgS{D:List Mn}(b:D.Nodup):ZD ((Sb.srtT (D.map trM)).map toW)=true:=by
 obtain⟨m,e,_⟩:=Qen D b;have c:m.map (toW∘trM)=m.map QP:=E1 fun a _=>Qcg;rw[e,Em,c];simp
theorem Yd(g:PgOk ws P)(hF:∀q,(F q).length<=12)(h:MH):Zh [QE (V4 F P P.length)] h=some (.tup [QE P,.lst (mk (Wd P) F P)],h):=by
 have s:=g.len;have U:=g.few
 have c:tot (V4 F P P.length)<=3000:=by
  have:=GN (P:=P) hF P.length (Nu _);rw[EK]at this;lia
 have X:∀x∈V4 F P P.length,∀l∈x.2,LP l/\LB l:=fun y r l d=>by
  obtain⟨k,hk⟩:=NZ.mp r;obtain⟨x,a,_,rfl⟩:=WW hk (Nu _)
  rcases Qcs d with q|⟨w,rfl⟩
  ·exact⟨(g.ok k x a l q).lp,(g.ok k x a l q).lb⟩
  ·exact⟨QjS,Qjq⟩
 have E:pw (V4 F P P.length)=pw P:=by rw[Qdo _ (Nu _),EK]
 have ew:=fun h=>WD g c (fun x a l d=>(X x a l d).1) E h;generalize t:V4 F P P.length=Q at *
 have i:=QV (items:=VA (Q.map Qr)) (b:=Vk [4,5]) (body:=ZC) (fun n S h=>∃A pt o m,S=tS Q (Wd P) A pt o m/\h[0]?=some (.lst ((P.take n).map Qr))/\h[1]?=some (.dct (dM (Sb.uq (evN (Wd P) F P n)))))
  (VA (Q.map Qr)) 0 (tS Q (Wd P) none none none none) [.lst [],.dct []] ⟨none,none,none,none,rfl,rfl,rfl⟩ (by
   rintro j w hj S h ⟨A,pt,o,m,rfl,u,z⟩
   obtain⟨y,r,rfl⟩:=WO hj;rw[NJ]at *;have C:=X6 (N5 r);have H:=fun l d=>(X y (N5 r) l d).2;have p:=r;rw[<-t]at p;obtain⟨x,a,I,Y⟩:=WW p (Nu _);have ag:=Qa9 (P:=P) (Z:=Wd P) hF j (Nl I);have af:=Qc5 (P:=P) j;obtain⟨ae,ab,O,e,e0,v⟩:=Qct (Q:=Q) (Z:=Wd P) (k:=j) (x:=y) (B:=P.take j) (L:=evN (Wd P) F P j) H u (by rw[Ed];exact Nl (Nd (Nf (Dp _ _) s) (by decide))) z (Nl (Nd (Nf C c) (by decide))) (by lia) (li:=o) (ln:=m);have hf:=WM (W:=Wd P) (k:=j) (f:=fun g=>F (j,g)) (ls:=x.2) (fun l d=>(g.ok j x a l d).nb) (D:=evN (Wd P) F P j) (x.2.length+1) (Nu _);have G:ll P j=x.2.length:=by unfold ll;rw[a];rfl
   have M:y.2.foldl (stp (Wd P) j) ([],evN (Wd P) F P j)=(x.2,evN (Wd P) F P (j+1)):=by
    rw[Y,hf,UE,G,Ej (FO _)]
   rw[M]at e0 v;refine⟨_,rfl,_,_,.inl e,_,_,_,_,rfl,?_,v⟩;rw[Ee,a,e0,Y]
   rfl)
 obtain⟨aa,O,v,A,pt,o,m,rfl,u,z⟩:=i;have N:Q.length=P.length:=by rw[<-t,WK]
 rw[WL,NJ,N]at u z;rw[EK]at u;have es:=Qe1 z;refine Qcu (j:=O.length) (g:=O++[.lst (mk (Wd P) F P)]) (by simp) ?_ (by simp) (QgS (Sb.uq_nodup _)) (by simp)
 have ei:XW (Qa (Qb 0) Qd) (tS Q (Wd P) none none none none) [.lst [],.dct []]=some (VA (Q.map Qr),none,[.lst [],.dct []]):=by
  unfold XW;simp[QE,tS]
 simp only[tS,QE,Zv]at ei v ew ⊢;simp[JL,Zs,Zi,KT,ew,ei,v,u,es,mk]
end
theorem Qch{m:FM}{ws:List W}{kvs:List (W×W)}{g h:MH}(d:ZD ws=true)(e:m ws []=some (.ref 0,g))(h0:g[0]?=some (.dct kvs))(c:ZD (kvs.map (·.2))=true):box frR m ws h=some (.ref h.length,h++[.dct kvs]):=by
 unfold box;rw[Kf d,Nx];unfold QfQ;rw[if_pos Er];simp only[Zt,Nx,e];rw[if_pos ⟨by simp[frR],by simp[frR]⟩];have k:=ZR (res (Vy [] [0] h.length) g 3) (kvs.map (·.2)) c
 have hd:thO (res (Vy [] [0] h.length) g 3) (.dct kvs)=some (.dct kvs):=by
  unfold thO;dsimp only;rw[k]
  have:(kvs.map (·.1)).zip (kvs.map (·.2))=kvs:=by
   clear k c h0
   induction kvs with
   |nil=>rfl
   |cons a r b=>simp at b ⊢;exact b
  simp[this]
 simp[frR,th,res,Vy,Zt,QD,h0]at hd ⊢;rw[hd];rfl
noncomputable abbrev Hd:=List (Pl×List Str)
noncomputable def dH(H:Hd):List (W×W):=H.map fun p=>(Zk p.1,.lst (p.2.map .str))
noncomputable def fH(H:Hd)(q:Pl):List Str:=(H.find? fun p=>decide (p.1=q)).elim [] (·.2)
theorem QfV{H:Hd}{q:Pl}:VG (dH H) (trQ q)=(H.find? fun p=>decide (p.1=q)).map fun p=>.lst (p.2.map .str):=by
 unfold VG dH
 induction H with
 |nil=>rfl
 |cons g G a=>
  rw[NC,NW,NW]
  by_cases h:g.1=q
  ·simp[h]
  ·have:¬trQ g.1=trQ q:=fun z=>h (XF z);simp only[XE,Im,this,h,decide_false];exact a
theorem QfI{H:Hd}:VX (dH H) (fH H):=fun q=>by
 rw[QfV];unfold fH;cases H.find? fun p=>decide (p.1=q)<;>rfl
theorem Qd2{H:Hd}(a:(H.map (·.1)).Nodup){p:Pl×List Str}(b:p∈H):(H.find? fun x=>decide (x.1=p.1))=some p:=by
 induction H with
 |nil=>cases b
 |cons x G d=>
  rw[NC,Eu]at a;rw[NW]
  rcases NF.mp b with rfl|c
  ·simp
  ·have:¬x.1=p.1:=fun z=>a.1 (by rw[z];exact EZ c);simp only[this,decide_false];exact d a.2 c
theorem QjM{H:Hd}{q:Pl}{l:List Str}(a:q∉H.map (·.1)):Yq (dH H) (trQ q) (Zk q) (.lst (l.map .str))=dH (H++[(q,l)]):=by
 have:(H.find? fun p=>decide (p.1=q))=none:=by
  rw[F4];intro g b;simp;exact fun z=>a (by rw[<-z];exact EZ b)
 unfold Yq;rw[QfV,this];simp[dH]
theorem Qdz{P:List Pt}:∀n,(plN P n).Nodup
 |0=>Er
 |n+1=>by
  rw[Xw,ES];refine⟨Qdz n,Zr fun i j _ _ e=>by simpa using e,fun a d b c e=>?_⟩;obtain⟨g,_,rfl⟩:=NE.mp c;have:=(plN_mem.mp d).1;rw[e]at this;exact absurd this (EG _)
theorem Yt{c:Type}{l:List c}(f:l.Nodup){j:Nat}{x:c}(h:l[j]?=some x):x∉l.take j:=fun g=>by
 obtain⟨i,b⟩:=NZ.mp g;have a:=(Nm.mp b).1;rw[Ed]at a;rw[LJ (Ng a (IN _ _))]at b;have n:=(Nm.mp h)
 have m:=(Nm.mp b)
 obtain⟨r,p⟩:=n;obtain⟨q,o⟩:=m;have:=(D5 (h₀:=q) (h₁:=r) f).mp (o.trans p.symm);exact Dq (Nf (IN _ _) (Nq this.symm)) a
noncomputable abbrev hS(ns:List Int)(ws:List Str)(ps:List Pl)(a x6:Option W):MSt:=[some (scr ns),some (.lst (ws.map .str)),some (.lst (ps.map Zk)),some (.ref 0),some (.ref 1),a,x6]
theorem GR{ns:List Int}{ws a:List Str}{ps:List Pl}(E:ps.Nodup)(v:ps.length<=800)(I:0<a.length)(G:a.length<=1000){H:Hd}(O:H.length<=1000){j:Nat}{q:Pl}(t:ps[j]?=some q)(w:∀p∈H,p.1∈ps.take j){x6:Option W} :
  ∃o u,Qn (hS ns ws ps (some (.int j)) x6) [.dct (dH H),.lst (a.map .str)]=some (.nx (hS ns ws ps (some (.int j)) o) [.dct (dH u),.lst (a.map .str)])/\(u=H\/∃l:List Str,l.length<=2/\u=H++[(q,l)]):=by
 have N:=(Nm.mp t).1;have em:=QbS ns (k:=150+j) (by lia);have g:∀h,Qh [scr ns,.int (150+(j:Int))] h=some (.int (mx ns (150+j)),h):=fun h=>by have:=em h;push_cast at this;exact this
 generalize mx ns (150+j)=z at *
 by_cases c:z%3=0
 ·obtain⟨m,r⟩:∃m:Nat,1+z/3%2=m:=⟨(1+z/3%2).toNat,by lia⟩
  have f:m<=2:=by lia
  have d:(0:Int)<a.length:=by lia
  have b:∀k:Nat,∃x:Str,atI (a.map W.str) (z/(3+7*(k:Int))%(a.length:Nat))=some (.str x):=fun k=>by
   obtain⟨x,_,e⟩:=Wr (xs:=a) (i:=z/(3+7*(k:Int))%(a.length:Nat)) (NY _ (Dv d)) (NV _ d);exact⟨x,e⟩
  have n:=Vx (ms:=Qa (Qc QL (mC (.int 1)) (Qc Zu (Qc Jc (Qb 6) (mC (.int 3))) (mC (.int 2)))) Qd) (cp:=[none,some 4,some 6]) (me:=Qc wIx (Qb 1) (Qc Zu (Qc Jc (Qb 2) (Qc QL (mC (.int 3)) (Qc Zj (mC (.int 7)) (Qb 0)))) (mFn ZZ (Qa (Qb 1) Qd)))) (σ:=hS ns ws ps (some (.int j)) (some (.int z))) (caps:=[some (.ref 1),some (.int z)]) (h:=[.dct (dH H),.lst (a.map .str)]) (m:=m) (fun k=>.str (b k).choose) (by
    simp[hS,r]) ⟨_,rfl⟩ (Nl (Nd f (by decide))) (fun k w=>by
    have e:=(b k).choose_spec;generalize(b k).choose=y at e;have D:Zj (.int 7) (.int (k:Int)) [.dct (dH H),.lst (a.map .str)]=some (.int (7*k),[.dct (dH H),.lst (a.map .str)]):=rfl;have C:(0:Int)<3+7*(k:Int):=by lia
    have B:3+7*(k:Int)<1073741824:=by lia
    simp[D,C,B,I,e])
  have P:(List.range m).map (fun k=>W.str (b k).choose)=((List.range m).map fun k=>(b k).choose).map .str:=by simp
  rw[P]at n;generalize M:(List.range m).map (fun k=>(b k).choose)=l at n;have s:l.length<=2:=by rw[<-M];simp;exact f
  have L:q∉H.map (·.1):=fun r=>by
   obtain⟨p,v,e⟩:=NE.mp r;have:=w p v;rw[e]at this;exact Yt E t this
  have Q:VP (.ref 0) (Zk q) (.lst (l.map .str)) [.dct (dH H),.lst (a.map .str)]=some [.dct (dH (H++[(q,l)])),.lst (a.map .str)]:=by
   unfold VP;simp only[Fg,XE,Nx];rw[if_pos (szN (by simp[dH];exact Nl (Nd O (by decide)))),QjM L];rfl
  have S:atI (ps.map Zk) (j:Int)=some (Zk q):=by rw[Zc,NB,t];rfl
  refine⟨some (.int z),H++[(q,l)],?_,.inr ⟨l,s,rfl⟩⟩;unfold Qn;generalize Qz Jg (ZO (Qa (Qc QL (mC (.int 1)) (Qc Zu (Qc Jc (Qb 6) (mC (.int 3))) (mC (.int 2)))) Qd)) [none,some 4,some 6] (QF 0) Vn (Qc wIx (Qb 1) (Qc Zu (Qc Jc (Qb 2) (Qc QL (mC (.int 3)) (Qc Zj (mC (.int 7)) (Qb 0)))) (mFn ZZ (Qa (Qb 1) Qd))))=co at n;simp only[hS]at n;simp[hS,g,c,K1,n,S,Q]
 ·refine⟨some (.int z),H,?_,.inl rfl⟩;simp[hS,g,c]
structure HdOk(P:List Pt)(H:Hd):Prop where
 nk:(H.map (·.1)).Nodup
 at_:∀p∈H,p.1∈pls P
 two:∀p∈H,p.2.length<=2
theorem Qio{H:Hd}:ZD ((dH H).map (·.2))=true:=by
 unfold dH;rw[Em];have:(fun(x:W×W)=>x.2)∘(fun(p:Pl×List Str)=>(Zk p.1,W.lst (p.2.map .str)))=fun p:Pl×List Str=>W.lst (p.2.map .str):=rfl;rw[this];exact ZM _ (Ve fun p=>by simp[pln])
theorem QeQ{ns:List Int}{ws:List Str}{P:List Pt}{wl:List Str}(g:PgOk wl P)(hw:ws.length<=63):∃H:Hd,HdOk P H/\∀h:MH,Z8 [scr ns,.lst (ws.map .str),.lst ((pls P).map Zk)] h=some (.ref h.length,h++[.dct (dH H)]):=by
 have t:=Wt g;have I:(pls P).Nodup:=Qdz _
 obtain⟨d,A,z,es⟩:∃d:List Str,0<d.length/\d.length<=1000/\∀k:SM,Qs (VM (Qy (Qc wLt (mFn ZZ (Qa (Qb 4) Qd)) (mC (.int 5)))) (ZS (mMt "list" Qx (Qb 4) (Qa (mC (.str "zzzzzzzz")) Qd))) Jf) k (hS ns ws (pls P) none none) [.dct [],.lst (ws.map .str)]=k (hS ns ws (pls P) none none) [.dct [],.lst (d.map .str)]:=by
  by_cases c:ws.length<5
  ·refine⟨ws++[("zzzzzzzz":Str)],by simp,by simp;exact Nl (Nd hw (by decide)),fun k=>?_⟩;have D:(ws.length:Int)<5:=by lia
   have Q:ws.length<sizeLine:=szN (Nl (Nd hw (by decide)));simp[hS,D,Q,tyW]
  ·refine⟨ws,by exact Ng (by decide) (NQ.mp c),by exact Nl (Nd hw (by decide)),fun k=>?_⟩;have D:¬(ws.length:Int)<5:=by lia
   simp[hS,D,tyW]
 have s:=QV (items:=Ql 0 (pls P).length) (b:=QF 5) (body:=Qn) (fun n G h=>∃(H:Hd) (r i:Option W),G=hS ns ws (pls P) r i/\h=[.dct (dH H),.lst (d.map .str)]/\(H.map (·.1)).Nodup/\(∀p∈H,p.1∈(pls P).take n)/\(∀p∈H,p.2.length<=2)/\H.length<=n)
  (Ql 0 (pls P).length) 0 (hS ns ws (pls P) none none) [.dct [],.lst (d.map .str)] ⟨[],none,none,rfl,rfl,Er,fun _ h=>(nomatch h),fun _ h=>(nomatch h),Nu _⟩ (by
   rintro j w X G h ⟨H,r,i,rfl,rfl,x,o,v,E⟩
   obtain⟨B,rfl⟩:=Jp X;rw[NJ]at *;have u:(pls P)[j]?=some (pls P)[j]:=No B;generalize(pls P)[j]=q at u;have L:∀y∈(pls P).take j,y∈(pls P).take (j+1):=fun y S=>by rw[Ee];exact Du _ S
   obtain⟨O,H',e,Z⟩:=GR (ns:=ns) (ws:=ws) I (Nl (Nd t (by decide))) A z (H:=H) (by lia) u o (x6:=i);refine⟨_,rfl,_,_,.inl e,H',_,_,rfl,rfl,?_⟩
   rcases Z with rfl|⟨l,U,rfl⟩
   ·exact⟨x,fun p m=>L _ (o p m),v,by exact Nf E (Np _ _)⟩
   ·refine⟨?_,fun p m=>?_,fun p m=>?_,by simp;exact E⟩
    ·rw[NL,ES];refine⟨x,by simp,fun a Y b M e=>?_⟩;simp at M;obtain⟨p,m,rfl⟩:=NE.mp Y;have:=o p m;rw[e,M]at this;exact Yt I u this
    ·rcases NO.mp m with y|y
     ·exact L _ (o p y)
     ·rw[NG.mp y,Ee,u];simp
    ·rcases NO.mp m with y|y
     ·exact v p y
     ·rw[NG.mp y];exact U)
 obtain⟨N,h',e1,H,r,i,rfl,rfl,x,o,v,E⟩:=s;rw[QJ,NJ,EK]at o;refine⟨H,⟨x,o,v⟩,fun h=>Qch (g:=[.dct (dH H),.lst (d.map .str)]) (by simp[scr]) ?_ rfl Qio⟩;have er:ZO (Qa (mFn ZZ (Qa (Qb 2) Qd)) Qd) (hS ns ws (pls P) none none) [.dct [],.lst (d.map .str)]=some (Ql 0 (pls P).length,none,[.dct [],.lst (d.map .str)]):=ZU (by simp[hS]) (Nd t (by decide))
 have C:Zi (ZO (Qa (mFn ZZ (Qa (Qb 2) Qd)) Qd)) (QF 5) Qn (hS ns ws (pls P) none none) [.dct [],.lst (d.map .str)]=some (.nx (hS ns ws (pls P) r i) [.dct (dH H),.lst (d.map .str)]):=by
  unfold Zi;rw[er];simpa using e1
 have el:UJ [.lst (ws.map .str)] [.dct []]=some (.ref 1,[.dct [],.lst (ws.map .str)]):=rfl;unfold ZT;have f:=es (Qs (Zi (ZO (Qa (mFn ZZ (Qa (Qb 2) Qd)) Qd)) (QF 5) Qn) (JX (Qb 3)));generalize Qs (VM (Qy (Qc wLt (mFn ZZ (Qa (Qb 4) Qd)) (mC (.int 5)))) (ZS (mMt "list" Qx (Qb 4) (Qa (mC (.str "zzzzzzzz")) Qd))) Jf) (Qs (Zi (ZO (Qa (mFn ZZ (Qa (Qb 2) Qd)) Qd)) (QF 5) Qn) (JX (Qb 3)))=fo at f ⊢
 have e2:Qs (Zi (ZO (Qa (mFn ZZ (Qa (Qb 2) Qd)) Qd)) (QF 5) Qn) (JX (Qb 3)) (hS ns ws (pls P) none none) [.dct [],.lst (d.map .str)]=JX (Qb 3) (hS ns ws (pls P) r i) [.dct (dH H),.lst (d.map .str)]:=by
  generalize Zi (ZO (Qa (mFn ZZ (Qa (Qb 2) Qd)) Qd)) (QF 5) Qn=lo at C ⊢;simp only[hS]at C ⊢;simp[C]
 rw[e2]at f;simp only[hS,scr]at f ⊢;simp[Zs,KT,el,f]
section
variable{kvs:List (W×W)}{k k':Tr}{kw v:W}
theorem QeX(l:nrm kw=some k):VG (Yq kvs k kw v) k'=if k'=k then some v else VG kvs k':=by
 unfold Yq
 by_cases c:(VG kvs k).isSome=true
 ·rw [if_pos c]
  induction kvs with
  |nil=>cases c
  | cons p r g=>
   unfold VG at c g ⊢;rw[NC,NW,NW]
   by_cases e:nrm p.1=some k
   ·rw [if_pos e]
    by_cases a:k'=k
    ·subst a;simp[e]
    ·have:¬some k=some k':=fun z=>a (by cases z;rfl);have m:¬nrm p.1=some k':=by rw[e];exact this
     simp only[m,decide_false,a,if_false];clear g c
     induction r with
     |nil=>rfl
     | cons f o b=>
      rw[NC,NW,NW]
      by_cases j:nrm f.1=some k
      ·have d:¬nrm f.1=some k':=by rw[j];exact this
       rw[if_pos j];simp only[d,decide_false];exact b
      ·rw[if_neg j]
       by_cases d:nrm f.1=some k'
       ·simp[d]
       ·simp only[d,decide_false];exact b
   ·rw[if_neg e]
    have n:(Option.map (·.2) (List.find? (fun p=>decide (nrm p.1=some k)) r)).isSome=true:=by
     rw[NW]at c;simp only[e,decide_false]at c;exact c
    by_cases a:nrm p.1=some k'
    ·have:¬k'=k:=fun z=>e (by rw[a,z]);simp[a,this]
    ·simp only[a,decide_false];exact g n
 ·rw[if_neg c]
  have i:VG kvs k=none:=by
   cases h:VG kvs k with
   |none=>rfl
   |some _=>rw[h]at c;exact absurd rfl c
  unfold VG at i ⊢;rw[List.find?_append]
  by_cases e:k'=k
  ·subst e;rw[Om]at i;rw[i,if_pos rfl];simp[l]
  ·rw[if_neg e];have:¬nrm kw=some k':=fun z=>e (by rw[l]at z;cases z;rfl);simp[this]
theorem Qb3:(Yq kvs k kw v).length<=kvs.length+1:=by
 unfold Yq;split<;>simp
end
theorem GZ{kvs:List (W×W)}{M:List Mn}{m:Mn}(t:VX kvs (wa M)):VX (Yq kvs (trQ m.2) (Zk m.2) (.lst ((wa M m.2++[m.1]).map .str))) (wa (M++[m])):=fun q=>by
 rw[QeX XE,X4]
 by_cases e:m.2=q
 ·subst e;rw[if_pos rfl,if_pos rfl];rfl
 ·have:¬trQ q=trQ m.2:=fun z=>e (XF z).symm;rw[if_neg this,if_neg e];exact t q
section
variable{P:List Pt}{ws:List Str}
theorem Qgw{M:List Mn}{q:Pl}{w:Str}:w∈wa M q↔(w,q)∈M:=by
 unfold wa;simp only[NE,Fj,decide_eq_true_eq];constructor
 ·rintro⟨m,⟨b,a⟩,rfl⟩
  rw[<-a];exact b
 ·intro h;exact⟨_,⟨h,rfl⟩,rfl⟩
theorem QgB{Z:List Str}{M:List Mn}(r:UI M)(c:∀m∈M,m.1∈Z/\m.2∈pls P):mk Z (wa M) P=M.map QP:=by
 have p:M.Perm (Sb.uq (evN Z (wa M) P P.length)):=Sb.perm_same _ _ r.2 (Sb.uq_nodup _) fun m=>by
  rw[Sb.uq_mem,QaO,Qgw];constructor
  ·intro h;have b:=c m h;have a:=plN_mem.mp b.2;exact⟨b.1,h,a.1,a.2⟩
  ·exact fun h=>h.2.1
 unfold mk;rw[Qce r p,Em];exact E1 fun m _=>Qcg
theorem Qgi{Z:List Str}:mk Z (fun _=>[]) P=[]:=by
 have:(fun _=>[]:Pl->List Str)=wa []:=by funext q;rfl
 rw[this,QgB (M:=[]) ⟨List.Pairwise.nil,Er⟩ (fun _ h=>(nomatch h))];rfl
theorem Uu{ls:List Ln}:∀n,Xn (fun _=>[]) ls n=ls.take n
 |0=>rfl
 |n+1=>by rw[JD,Uu n,Ee];simp
theorem W6:∀n,n<=P.length->V4 (fun _=>[]) P n=P.take n
 |0,_=>rfl
 |n+1,h=>by
  have a:P[n]?=some P[n]:=No h;generalize P[n]=x at a;rw[JV a,W6 n (Nl h),Uu,Ej (FO _),Ee,a];rfl
theorem U8(g:PgOk ws P)(h:MH):Zh [QE P] h=some (.tup [QE P,.lst []],h):=by
 have:=Yd g (F:=fun _=>[]) (fun _=>NM _) h;rw[W6 _ (Nu _),EK,Qgi]at this;exact this
noncomputable def due(Z:List Str)(H:Hd):List Mn:=H.flatMap fun p=>(p.2.filter (·∈Z)).map fun w=>(w,p.1)
theorem QgF{Z:List Str}{H:Hd}(k:HdOk P H):mk Z (fH H) P=(Sb.srtT ((Sb.uq (due Z H)).map trM)).map toW:=by
 unfold mk;rw[QaL (Sb.perm_same (Sb.uq (evN Z (fH H) P P.length)) (Sb.uq (due Z H)) (Sb.uq_nodup _) (Sb.uq_nodup _) fun m=>?_)];rw[Sb.uq_mem,Sb.uq_mem,QaO];unfold due;simp only[Fa,NE,Fj,decide_eq_true_eq];constructor
 ·rintro⟨d,a,h,g⟩
  unfold fH at a;cases c:H.find? fun p=>decide (p.1=m.2)with
  |none=>rw[c]at a;cases a
  |some p=>
   rw[c]at a;have b:=LH c;have f:p.1=m.2:=by simpa using List.find?_some c
   exact⟨p,b,m.1,⟨a,d⟩,by rw[f]⟩
 ·rintro⟨p,b,w,⟨d,a⟩,rfl⟩
  have e:=plN_mem.mp (k.at_ p b);refine⟨a,?_,e.1,e.2⟩;show w∈fH H p.1;unfold fH;rw[Qd2 k.nk b];exact d
theorem Qht{H:Hd}(k:HdOk P H)(q:Pl):(fH H q).length<=2:=by
 unfold fH;cases a:H.find? fun p=>decide (p.1=q)with
 |none=>exact NM _
 |some p=>exact k.two p (LH a)
theorem Qdu:∀(a b:List Pl),a.Nodup->(∀y∈a,y∈b)->a.length<=b.length
 |[],b,_,_=>NM _
 |k::r,b,c,h=>by
  have e:=h k Nz;rw[Eu]at c;have:=Qdu r (b.erase k) c.2 fun y d=>(DZ (fun z=>c.1 (by rw[<-z];exact d))).mpr (h y (Nw _ d));rw[Dy e]at this;have:=Ir e;rw[El];omega
theorem We{Z:List Str}:∀{H:Hd},(∀p∈H,p.2.length<=2)->(due Z H).length<=2*H.length
 |[],_=>NM _
 |p::H,h=>by
  have b:=We (Z:=Z) (H:=H) fun x a=>h x (Nw _ a);have d:=h p Nz;have c:=FE (fun w=>decide (w∈Z)) p.2;have e:(due Z (p::H)).length=(p.2.filter (·∈Z)).length+(due Z H).length:=by simp[due]
  rw[e,El];lia
theorem QhE{H:Hd}(g:PgOk ws P)(k:HdOk P H):H.length<=105:=by
 have a:=Qdu (H.map (·.1)) (pls P) k.nk fun y b=>by
  obtain⟨p,c,rfl⟩:=NE.mp b;exact k.at_ p c
 have:=Wt g;rw[Ny]at a;exact Nf a this
end
noncomputable abbrev lS(ns:List Int)(P:List Pt)(M:List Mn)(x6 x7 x8 x9 a x11 x12:Option W):MSt:=[some (scr ns),some (QE P),some (.lst ((Wd P).map .str)),some (.lst ((pls P).map Zk)),some (.lst (M.map QP)),some (.ref 0),x6,x7,x8,x9,a,x11,x12]
section
variable{ns:List Int}{P:List Pt}{M:List Mn}
theorem Qdh(E:M.length<=12):∃(K:List (W×W)) (x6 x7:Option W),VX K (wa M)/\Zi (QC (Qb 4)) (Vk [6,7]) Xr (lS ns P M none none none none none none none) [.dct []]=some (.nx (lS ns P M x6 x7 none none none none none) [.dct K]):=by
 have a:=QV (items:=M.map QP) (b:=Vk [6,7]) (body:=Xr) (fun n e h=>∃(K:List (W×W)) (x6 x7:Option W),e=lS ns P M x6 x7 none none none none none/\h=[.dct K]/\VX K (wa (M.take n))/\K.length<=n)
  (M.map QP) 0 (lS ns P M none none none none none none none) [.dct []] ⟨[],none,none,rfl,rfl,fun _=>rfl,Nu _⟩ (by
   rintro j w l e h ⟨K,x6,x7,rfl,rfl,t,i⟩
   rw[NB]at l;obtain⟨m,g,rfl⟩:=Nk.mp l;have x:=(Nm.mp g).1;rw[NJ]at *;have o:VQ (.ref 0) [Zk m.2,.lst []] [.dct K]=some (.lst ((wa (M.take j) m.2).map .str),[.dct K]):=Qee t (h:=[.dct K]) (n:=0) rfl m.2.1 m.2.2;have f:=GZ (m:=m) t
   have c:((wa (M.take j) m.2).map W.str).length+[W.str m.1].length<=sizeLine:=by
    have:=QbJ (M:=M.take j) (q:=m.2);rw[Ed]at this;exact Nl (szN (by simp;lia))
   have d:∀h,QL (.lst ((wa (M.take j) m.2).map .str)) (.lst [.str m.1]) h=some (.lst ((wa (M.take j) m.2++[m.1]).map .str),h):=fun h=>by rw[Wc,if_pos c,NL];rfl
   generalize D:W.lst ((wa (M.take j) m.2++[m.1]).map .str)=v at d f;generalize W.lst ((wa (M.take j) m.2).map .str)=u at d o
   have z:VP (.ref 0) (Zk m.2) v [.dct K]=some [.dct (Yq K (trQ m.2) (Zk m.2) v)]:=by
    unfold VP;simp only[Fg,XE,Nx];rw[if_pos (szN (by lia))];rfl
   have r:=Qb3 (kvs:=K) (k:=trQ m.2) (kw:=Zk m.2) (v:=v);refine⟨lS ns P M (some (.str m.1)) (some (Zk m.2)) none none none none none,rfl,lS ns P M (some (.str m.1)) (some (Zk m.2)) none none none none none,[.dct (Yq K (trQ m.2) (Zk m.2) v)],.inl ?_,Yq K (trQ m.2) (Zk m.2) v,some (.str m.1),some (Zk m.2),rfl,rfl,?_,by exact Nf r (EX i _)⟩
   ·have y:tyW [.dct K] "dict" (.ref 0)=true:=rfl;simp[lS,K1,y,o,d,z]
   ·rw[Ee,g]
    exact f)
 obtain⟨p,G,B,K,x6,x7,rfl,rfl,t,i⟩:=a;rw[Ny,NJ,EK]at t;refine⟨K,x6,x7,t,?_⟩;have A:QC (Qb 4) (lS ns P M none none none none none none none) [.dct []]=some (M.map QP,none,[.dct []]):=rfl;unfold Zi;rw[A];simpa using B
theorem QcJ{Z:List Str}{H:Hd}{p:Pl×List Str}:due Z (H++[p])=due Z H++(p.2.filter (·∈Z)).map fun w=>(w,p.1):=by simp[due]
noncomputable def inZ(Z:List Str):W->Bool
 |.str x=>decide (x∈Z)
 |_=>false
theorem QcK{Z:List Str}{l:List Str}{q:Pl}(a:l.length<=100000){mi:MI}{σ:MSt}{h h1:MH}(hi:mi σ h=some (l.map .str,none,h1))(b:Qbh [none,some 7,some 2] σ=[none,some (Zk q),some (.lst (Z.map .str))]):Qz Jg mi [none,some 7,some 2] (QF 0) (Qy (Qc (wIn false) (Qb 0) (Qb 2))) (mFn Zg (Qa (Qb 0) (Qa (Qb 1) Qd))) σ h=some (.lst (((l.filter (·∈Z)).map fun w=>(w,q)).map QP),h1):=by
 unfold Qz;rw[hi,Nx];simp only[b];have c:=fun x h=>Qkp (x:=x) (l:=Z) (h:=h)
 rw[Z2 (p:=inZ Z) (f:=fun w=>.tup [w,Zk q]) (l.map .str) [] none (fun w hw=>by
   obtain⟨x,_,rfl⟩:=NE.mp hw;simp[c,inZ]) (fun w hw d=>by
   obtain⟨x,_,rfl⟩:=NE.mp hw
   simp) (by simpa using Nl (szN a))]
 have e:((l.map W.str).filter (inZ Z)).map (fun w=>W.tup [w,Zk q])=((l.filter (·∈Z)).map fun w=>(w,q)).map QP:=by
  rw[List.filter_map,Em,Em];rfl
 rw[IQ,e];rfl
theorem QhJ{H:Hd}(C:(H.map (·.1)).Nodup)(y:∀p∈H,p.2.length<=2)(N:H.length<=105){n:Nat}{h:MH}(r:h[n]?=some (.dct (dH H))){x6 x7 x8 x9:Option W}:∃a,Zi (V7 (Qb 10)) (QF 7) VN (lS ns P M x6 x7 x8 x9 (some (.ref n)) (some (.lst [])) none) h=some (.nx (lS ns P M x6 a x8 x9 (some (.ref n)) (some (.lst ((due (Wd P) H).map QP))) none) h):=by
 have G:(dH H).map (·.1)=H.map fun p=>Zk p.1:=by simp[dH]
 have e:=K0 (items:=H.map fun p=>Zk p.1) (src:=some (.d n)) (b:=QF 7) (body:=VN) (fun j l c=>∃a,l=lS ns P M x6 a x8 x9 (some (.ref n)) (some (.lst ((due (Wd P) (H.take j)).map QP))) none/\c=h) (by
   rintro j l c ⟨a,_,rfl⟩ s E
   cases E
   exact⟨_,r,G⟩)
  (H.map fun p=>Zk p.1) 0 (lS ns P M x6 x7 x8 x9 (some (.ref n)) (some (.lst [])) none) h ⟨x7,rfl,rfl⟩ (by
   rintro j w v l c ⟨a,rfl,rfl⟩
   rw[NB]at v;obtain⟨p,o,rfl⟩:=Nk.mp v;have I:=(Nm.mp o).1;have f:=N5 o;rw[NJ]at *
   have L:Qd7 (.ref n) (Zk p.1) c=some (.lst (p.2.map .str),c):=by
    have i:UN c (.ref n)=some (dH H):=by simp only[UN,r]
    unfold Qd7;simp only[i,XE,Nx,QfV,Qd2 C f,Fp]
   have t:QC (Qc Qd7 (Qb 10) (Qb 7)) (lS ns P M x6 (some (Zk p.1)) x8 x9 (some (.ref n)) (some (.lst ((due (Wd P) (H.take j)).map QP))) none) c=some (p.2.map .str,none,c):=by
    have:Qc Qd7 (Qb 10) (Qb 7) (lS ns P M x6 (some (Zk p.1)) x8 x9 (some (.ref n)) (some (.lst ((due (Wd P) (H.take j)).map QP))) none) c=some (.lst (p.2.map .str),c):=by simp[lS,L]
    unfold QC;rw[this];rfl
   have m:=y p f;have g:=QcK (Z:=Wd P) (q:=p.1) (Nl (Nd m (by decide))) t rfl;have hd:=We (Z:=Wd P) (H:=H.take (j+1)) fun x D=>y x (OT D)
   have z:due (Wd P) (H.take (j+1))=due (Wd P) (H.take j)++(p.2.filter (·∈Wd P)).map fun w=>(w,p.1):=by
    rw[Ee,o];exact QcJ
   rw[z,Nv,Ed]at hd;refine⟨lS ns P M x6 (some (Zk p.1)) x8 x9 (some (.ref n)) (some (.lst ((due (Wd P) (H.take j)).map QP))) none,rfl,_,_,.inl ?_,some (Zk p.1),rfl,rfl⟩;rw[z,NL];have u:∀h,QL (.lst ((due (Wd P) (H.take j)).map QP)) (.lst (((p.2.filter (·∈Wd P)).map fun w=>(w,p.1)).map QP)) h=some (.lst ((due (Wd P) (H.take j)).map QP++((p.2.filter (·∈Wd P)).map fun w=>(w,p.1)).map QP),h):=fun h=>by rw[Wc,if_pos (Nl (szN (by rw[Ny,Ny];lia)))]
   generalize((p.2.filter (·∈Wd P)).map fun w=>(w,p.1)).map QP=O at g u;generalize(due (Wd P) (H.take j)).map QP=Q at g u;unfold VN;generalize Qz Jg (QC (Qc Qd7 (Qb 10) (Qb 7))) [none,some 7,some 2] (QF 0) (Qy (Qc (wIn false) (Qb 0) (Qb 2))) (mFn Zg (Qa (Qb 0) (Qa (Qb 1) Qd)))=co at g;simp only[lS]at g ⊢
   simp[g,u])
 obtain⟨A,c,i,a,rfl,rfl⟩:=e;rw[Ny,NJ,EK]at i;refine⟨a,?_⟩
 have t:V7 (Qb 10) (lS ns P M x6 x7 x8 x9 (some (.ref n)) (some (.lst [])) none) c=some (H.map (fun p=>Zk p.1),some (.d n),c):=by
  unfold V7;simp[lS,r,dH]
 unfold Zi;rw[t];simpa using i
end
section
variable{P:List Pt}{M:List Mn}{h:MH}
theorem Yr:pln (.tup [QE P,.lst (M.map QP)])=true:=by simp[pln,XD]
theorem Qev{m:Mn}:dep (QP m)<=4:=by
 have:=Qi8 (q:=m.2);simp[QP,dep,KB];lia
theorem QaU:dep (.tup [QE P,.lst (M.map QP)])<=40:=by
 have c:=Qcz (ps:=P);have b:=Vh (xs:=M) (n:=4) (fun m=>Qev (m:=m));simp only[dep,KB];lia
theorem QhQ:wNe (.tup [QE P,.lst (M.map QP)]) (.tup [QE P,.lst (M.map QP)]) h=some (.bl false,h):=by
 rw[QiN Yr Yr QaU QaU,VO _ Yr];rfl
theorem QlX:wNe (QE P) (QE P) h=some (.bl false,h):=by
 rw[QiN Qat Qat (Nf Qcz (by decide)) (Nf Qcz (by decide)),VO _ Qat];rfl
theorem Qlx:wNe (.lst (M.map QP)) (.lst (M.map QP)) h=some (.bl false,h):=by
 have a:pln (.lst (M.map QP))=true:=by simp[pln]
 have hd:dep (.lst (M.map QP))<=40:=by
  have b:=Vh (xs:=M) (n:=4) (fun m=>Qev (m:=m));simp only[dep];exact Nd b (by decide)
 rw[QiN a a hd hd,VO _ a];rfl
theorem QiU{n:Nat}(b:h[n]?=some (.lst (M.map QP))):wEq (.tup [QE P,.lst (M.map QP)]) (.tup [QE P,.ref n]) h=some (.bl true,h):=by
 have g:drf h 40 (.tup [QE P,.lst (M.map QP)])=some (.tup [QE P,.lst (M.map QP)]):=Jw h _ _ Yr QaU;have f:drf h 39 (QE P)=some (QE P):=Jw h _ _ Qat (Nf Qcz (by decide));have e:Zt (drf h 38) (M.map QP)=some (M.map QP):=Jj h _ _ Qdt (Nf (Vh (xs:=M) (n:=4) (fun m=>Qev (m:=m))) (by decide))
 have d:drf h 39 (.ref n)=some (.lst (M.map QP)):=by
  show(match h[n]? with|some (.lst a)=>(Zt (drf h 38) a).map W.lst|_=>none)=_;rw[b];show(Zt (drf h 38) (M.map QP)).map W.lst=_;rw[e];rfl
 have c:drf h 40 (.tup [QE P,.ref n])=some (.tup [QE P,.lst (M.map QP)]):=by
  show(Zt (drf h 39) [QE P,.ref n]).map W.tup=_;simp only[Zt,f,d];rfl
 unfold wEq;rw[g,c];show some (W.bl (eqW _ _),h)=_;rw[VO _ Yr]
end
theorem main(ns:List Int)(hl:ns.length<=63):∃h',V5 [.frz (ns.map W.int)] []=some (.bl true,h'):=by
 obtain⟨O,P,g,ep⟩:=UV ns hl;have b:=g.len;have c:=g.few;have ew:=fun h=>Qay g h;have eq:=fun h=>QbT g h;have i:=QgA g;have u:=Wt g
 have w:0<(pls P).length:=by
  have:=Ub (P:=P) P.length (Nu _);have x:0<P.length:=Qq.mpr g.ne;unfold pls;exact Ng (Ng x (Fr _ _)) (Nq this.symm)
 obtain⟨f,y⟩:∃f:Nat,mx ns 140%13=f:=⟨(mx ns 140%13).toNat,by lia⟩
 have em:∀h,Qh [scr ns,.int 140] h=some (.int (mx ns 140),h):=fun h=>QbS ns (k:=140) (by decide) h;obtain⟨M,r,B,z,eM⟩:=Qbu (ns:=ns) (mn:=f) (by lia) (ws:=Wd P) (ps:=pls P) w (Nl (Nd u (by decide))) (Nl (Nd i (by decide)));obtain⟨K,N,L,t,X⟩:=Qdh (ns:=ns) (P:=P) (M:=M) B;have hF:∀q,(wa M q).length<=12:=fun q=>Nf QbJ B;have e9:=fun h=>Qam (P:=P) (M:=M) b c (Nl (Nd B (by decide))) h;have U:=KA (P:=P) (n:=0) (h:=[.dct K]) t (fun q=>Nf (hF q) (by decide)) rfl b c;have E:=fun h=>Yd g hF h;rw[QgB r z]at E;have D:=fun h=>U8 g h;obtain⟨H,e,eH⟩:=QeQ (ns:=ns) (ws:=Wd P) g i;have Q:=Qht e;have C:=QhE g e;generalize af:V4 (wa M) P P.length=Q1 at e9 U E;have o:=KA (P:=P) (n:=2) (h:=[.dct K,.lst (Q1.map Qr),.dct (dH H)]) QfI (fun q=>Nf (Q q) (by decide)) rfl b c;have d:=fun h=>Yd g (F:=fH H) (fun q=>Nf (Q q) (by decide)) h;rw[QgF e]at d;generalize ae:V4 (fH H) P P.length=Q2 at o d;have ab:=We (Z:=Wd P) e.two;have S:=Qdm (l:=due (Wd P) H) (by lia) (h:=[.dct K,.lst (Q1.map Qr),.dct (dH H),.lst (Q2.map Qr)]) (a:=.lst ((due (Wd P) H).map QP)) rfl;obtain⟨M2,A,_⟩:=Qen (Sb.uq (due (Wd P) H)) (Sb.uq_nodup _)
 have G:(M2.map trM).map toW=M2.map QP:=by
  rw[Em];exact E1 fun m _=>Qcg
 rw[A,G]at S d;have j:=QiU (P:=P) (M:=M2) (h:=[.dct K,.lst (Q1.map Qr),.dct (dH H),.lst (Q2.map Qr),.lst (M2.map QP)]) (n:=4) rfl;obtain⟨aa,Y⟩:=QhJ (ns:=ns) (P:=P) (M:=M) e.nk e.two C (n:=2) (h:=[.dct K,.lst (Q1.map Qr),.dct (dH H)]) rfl (x6:=N) (x7:=L) (x8:=some (.lst (M.map QP))) (x9:=some (QE Q1));refine⟨[.dct K,.lst (Q1.map Qr),.dct (dH H),.lst (Q2.map Qr),.lst (M2.map QP)],?_⟩;have n1:=fun h=>QhQ (P:=P) (M:=M) (h:=h);have n2:∀h,wNe (.tup [QE P,.lst []]) (.tup [QE P,.lst []]) h=some (.bl false,h):=fun h=>QhQ (P:=P) (M:=[]) (h:=h);have n3:=fun h=>QlX (P:=Q1) (h:=h);have n4:=fun h=>Qlx (M:=M) (h:=h);have e8:∀h,Gb [.lst (M.map QP)] h=some (.lst (M.map QP),h):=fun _=>rfl;have i9:∀h,Qgd [QE Q1,.ty "tuple"] h=some (.bl true,h):=fun _=>rfl;have s:∀v h,Qgd [.tup v,.ty "tuple"] h=some (.bl true,h):=fun _ _=>rfl;have p:∀h,Zu (.int (mx ns 140)) (.int 13) h=some (.int f,h):=fun h=>by rw[<-y];rfl
 have I:=eH [.dct K,.lst (Q1.map Qr)];unfold V5;generalize Zi (QC (Qb 4)) (Vk [6,7]) Xr=f1 at X;generalize Zi (V7 (Qb 10)) (QF 7) VN=f2 at Y;simp only[lS,scr,Zv]at *;generalize QE Q1=q1 at *;generalize QE Q2=q2 at *;generalize QE P=pp at *;simp[Zs,KT,ep,ew,eq,em,p,eM,X,e8,e9,i9,U,n3,n4,E,n1,D,n2,I,Y,o,d,S,s,j,Qj5]
end My

def PySem.W.Fast.tw12748012863750933723:Unit:=()
def PySem.W.Fast.tw7514399092722336044:Unit:=()
def PySem.W.Fast.tw15654611076745525629:Unit:=()
def PySem.W.Fast.tw1493160340812375334:Unit:=()
def PySem.W.Fast.tw7384850336431319788:Unit:=()
def PySem.W.Fast.tw12975796603468522492:Unit:=()
def PySem.W.Fast.tw7708677678173006368:Unit:=()
def PySem.W.Fast.tw5289273753527597415:Unit:=()
def PySem.W.Fast.tw11986337464088872220:Unit:=()
def PySem.W.Fast.tw1647522632661187055:Unit:=()
def PySem.W.Fast.tw2849714626512777812:Unit:=()
def PySem.W.Fast.tw1509132798010556996:Unit:=()
def PySem.W.Fast.tw5186041044265122644:Unit:=()
def PySem.W.Fast.tw12824114759089271508:Unit:=()
def PySem.W.Fast.tw5023003930607240229:Unit:=()
def PySem.W.Fast.tw4274169885898819597:Unit:=()
def PySem.W.Fast.tw5075193634547962933:Unit:=()
def PySem.W.Fast.tw11384470647470506021:Unit:=()
def PySem.W.Fast.tw16948051675946798260:Unit:=()
def PySem.W.Fast.tw3423979009579667585:Unit:=()
def PySem.W.Fast.tw8105642269799523785:Unit:=()
def PySem.W.Fast.tw7100479851355425036:Unit:=()
def PySem.W.Fast.tw3033950506830103966:Unit:=()
def PySem.W.Fast.tw16861797591996607054:Unit:=()
def PySem.W.Fast.tw1950917651235953037:Unit:=()
def PySem.W.Fast.tw12638007548740386528:Unit:=()
def PySem.W.Fast.tw18408756573858138143:Unit:=()
def PySem.W.Fast.tw18271553657921473652:Unit:=()
def PySem.W.Fast.tw17898606497922565123:Unit:=()
def PySem.W.Fast.tw10688844039748360196:Unit:=()
def PySem.W.Fast.tw10316614122593532573:Unit:=()
def PySem.W.Fast.tw4683351926700301796:Unit:=()
def PySem.W.Fast.tw10692799871631835023:Unit:=()
def PySem.W.Fast.tw2420831371591796434:Unit:=()
def PySem.W.Fast.tw13269832541555627521:Unit:=()
def PySem.W.Fast.tw8513946871172867689:Unit:=()
def PySem.W.Fast.tw17688293848882055496:Unit:=()
def PySem.W.Fast.tw13959974821892839261:Unit:=()
def PySem.W.Fast.tw17323718629065301294:Unit:=()
def PySem.W.Fast.tw11028950303903234726:Unit:=()
def PySem.W.Fast.tw13712224886608274664:Unit:=()
def PySem.W.Fast.tw15340735794015176402:Unit:=()
def PySem.W.Fast.tw18376978125869056707:Unit:=()
def PySem.W.Fast.tw4014402897542967793:Unit:=()
def PySem.W.Fast.tw14673399983482316728:Unit:=()
def PySem.W.Fast.tw12973709468282950605:Unit:=()
def PySem.W.Fast.tw11416870195504445845:Unit:=()
def PySem.W.Fast.tw12524689167245660595:Unit:=()
def PySem.W.Fast.tw8444026227241129191:Unit:=()
def PySem.W.Fast.tw13527283035156532077:Unit:=()
open PySem PySem.W PyProof.Rows
local macro_rules | `(tactic| walk_at $s:str) => do
  match s.getString with
  | "~1" => `(tactic| (dsimp only [L2.KOf]; refine' Mi.V1 $(Lean.mkIdent `KX) $(Lean.mkIdent `G) ?a ?l ?c ?k ?b; (case a => k_is); (case l => k_is); (case c => k_is); (case k => k_is); (case b => exact fun _ _ _ _ _ _ us hl => match us, hl with | [_], _ => rfl)))
  | "~2" => `(tactic| (dsimp only [L2.KOf]; refine' Mi.V1 $(Lean.mkIdent `KX) $(Lean.mkIdent `G) ?a ?l ?c ?k ?b; (case a => k_is); (case l => k_is); (case c => k_is); (case k => k_is); (case b => exact fun _ _ _ _ _ _ us hl => match us, hl with | [_, _], _ => rfl)))
  | "~3" => `(tactic| (dsimp only [L2.KOf]; refine' Mi.V1 $(Lean.mkIdent `KX) $(Lean.mkIdent `G) ?a ?l ?c ?k ?b; (case a => k_is); (case l => k_is); (case c => k_is); (case k => k_is); (case b => exact fun _ _ _ _ _ _ us hl => match us, hl with | [_, _, _], _ => rfl)))
  | "~5" => `(tactic| (dsimp only [L2.KOf]; refine' Mi.V1 $(Lean.mkIdent `KX) $(Lean.mkIdent `G) ?a ?l ?c ?k ?b; (case a => k_is); (case l => k_is); (case c => k_is); (case k => k_is); (case b => exact fun _ _ _ _ _ _ us hl => match us, hl with | [_, _, _, _, _], _ => rfl)))
  | "~6" => `(tactic| (dsimp only [L2.KOf]; refine' Mi.V1 $(Lean.mkIdent `KX) $(Lean.mkIdent `G) ?a ?l ?c ?k ?b; (case a => k_is); (case l => k_is); (case c => k_is); (case k => k_is); (case b => exact fun _ _ _ _ _ _ us hl => match us, hl with | [_, _, _, _, _, _], _ => rfl)))
  | "~b" => `(tactic| (refine' PySem.W.mg_none_of $(Lean.mkIdent `KX) $(Lean.mkIdent `G) ?a; (case a => k_is)))
  | _ => Lean.Macro.throwUnsupported
set_option maxRecDepth 100000 in
set_option maxHeartbeats 0 in
theorem PySem.Challenge.cw_doneroom_k45_put_in_and_taken_out_holds : PySem.Challenge.rw_doneroom_k45_put_in_and_taken_out.Holds := by
  w_on; o_law; k_head; (case hw => w_witness2)
  k_fill
  refine Mi.Qj1 (l := PySem.Challenge.rw_doneroom_k45_put_in_and_taken_out) (st := My.KF) (sem := My.V5) (k := 9) rfl rfl ⟨rfl, by decide, by decide⟩ rfl (fun w h Y => PySem.W.kIn_of Y) (fun _ _ _ _ _ _ _ _ => .of_eq rfl) ?F My.main
  case F =>
    intro w mg h KX G
    have d__law_names : Mi.DefAt (L2.KOf KX) mg "_law_names" My.QS ["number", "many"] := by walk_at "~2"
    have d__law_mixed : Mi.DefAt (L2.KOf KX) mg "_law_mixed" My.ZV ["script", "k"] := by walk_at "~2"
    have d__law_sized : Mi.DefAt (L2.KOf KX) mg "_law_sized" My.Q4 ["parts", "number"] := by walk_at "~2"
    have d__law_closed : Mi.DefAt (L2.KOf KX) mg "_law_closed" My.ZA ["waiting"] := by walk_at "~1"
    have d__law_line : Mi.DefAt (L2.KOf KX) mg "_law_line" My.Jk ["number", "boxes", "words"] := by walk_at "~3"
    have d__law_lines : Mi.DefAt (L2.KOf KX) mg "_law_lines" My.ZX ["numbers", "boxes", "words", "others", "deep", "left"] := by walk_at "~6"
    have d__law_program : Mi.DefAt (L2.KOf KX) mg "_law_program" My.QN ["script", "top"] := by walk_at "~2"
    have d__law_words : Mi.DefAt (L2.KOf KX) mg "_law_words" My.ZY ["program"] := by walk_at "~1"
    have d__law_places : Mi.DefAt (L2.KOf KX) mg "_law_places" My.Q8 ["program"] := by walk_at "~1"
    have d__law_manner : Mi.DefAt (L2.KOf KX) mg "_law_manner" My.ZL ["script", "at", "many", "words", "places"] := by walk_at "~5"
    have d_words_by_place : Mi.DefAt (L2.KOf KX) mg "words_by_place" My.Q3 ["manner"] := by walk_at "~1"
    have d_put_in : Mi.DefAt (L2.KOf KX) mg "put_in" My.VJ ["program", "manner"] := by walk_at "~2"
    have d__law_by_hand : Mi.DefAt (L2.KOf KX) mg "_law_by_hand" My.QW ["script", "words", "places"] := by walk_at "~3"
    have d_all_lines : Mi.DefAt (L2.KOf KX) mg "all_lines" My.Jm ["program"] := by walk_at "~1"
    have d_words_of : Mi.DefAt (L2.KOf KX) mg "words_of" My.JF ["program"] := by walk_at "~1"
    have d_taken_out : Mi.DefAt (L2.KOf KX) mg "taken_out" My.Jo ["program"] := by walk_at "~1"
    have d__law_put : Mi.DefAt (L2.KOf KX) mg "_law_put" My.JQ ["program", "backs"] := by walk_at "~2"
    have d_law : Mi.DefAt (L2.KOf KX) mg "law" My.KF ["script"] := by walk_at "~1"
    have b_enumerate : mg "enumerate" = none := by walk_at "~b"
    have b_int : mg "int" = none := by walk_at "~b"
    have b_isinstance : mg "isinstance" = none := by walk_at "~b"
    have b_len : mg "len" = none := by walk_at "~b"
    have b_list : mg "list" = none := by walk_at "~b"
    have b_max : mg "max" = none := by walk_at "~b"
    have b_min : mg "min" = none := by walk_at "~b"
    have b_range : mg "range" = none := by walk_at "~b"
    have b_reversed : mg "reversed" = none := by walk_at "~b"
    have b_set : mg "set" = none := by walk_at "~b"
    have b_sorted : mg "sorted" = none := by walk_at "~b"
    have b_tuple : mg "tuple" = none := by walk_at "~b"
    exact ⟨d_law, fun base kb nb => My.QfU d__law_names d__law_mixed d__law_sized d__law_closed d__law_line d__law_lines d__law_program d__law_words d__law_places d__law_manner d_words_by_place d_put_in d__law_by_hand d_all_lines d_words_of d_taken_out d__law_put d_law b_enumerate b_int b_isinstance b_len b_list b_max b_min b_range b_reversed b_set b_sorted b_tuple⟩
