import PyProof.Rows.All
import Wide.All
import OpenK.AllK
import Wide.FinOn
import Lean
import PyProof.EqAt
import PyProof.EqKinds
import PyProof.TupleCall
import KE.KDictList
import KE.KRevIter
import KE.KTurns
import PyProof.ExcAttrAll.ValueError
import KE.KIsAll
import PyProof.WalkInts
import PyProof.MinMaxWalk
import PyProof.DictTruth
import KE.KDictLaws
import PyProof.Rows.SortRev
import KE.KDictSum
import KE.KItemsList
import KE.KSortTup
import PyProof.Walks
import KE.KDictOf
import PyProof.AttrMissSeq
import PyProof.EnumMake
import PyProof.Draws
import PyProof.FactsAll.set
import PyProof.Rows.SortStr
import PyProof.Rows.SetFrom
import PySem.Challenge.RW_doneroom_k06_programs_as_texts
set_option Elab.async false
set_option bootstrap.genMatcherCode false
set_option linter.all false
set_option maxRecDepth 100000
noncomputable section
/-! THE HAND LAYER, for ints, bools, texts, own classes, LISTS and tuples (index, slices, in, append, pop ..), calls, loops. Paste it whole ahead of your own text; what your proof does not reach may be deleted. -/
open PySem renaming wpAny_bind->Na,wpAny_pure->Nh,wpAny_setState_of->NM,wpAny_newObj_type->NX,wpAny_mono->NZ,wpAny_call_entry->Ee,wpAny_callSpecial?_slot->Ep,wpAny_askSetting->Ew,wpAny_holding->Ey,wpAny_setField->EA,wpAny_Call_Name_kw->EC,wpAny_field->EJ,builtinLookup_eq_fast->ER,sizeLine_eq->EU,wpAny_of_eq->EV,wpAny_loadPart'->EX,wpAny_truthy_bool->EY,isSubtype_type->Dc,call_meets->Dd,mem_of_lookup->Dy,wpAny_getItem_str_slice->DB,codeAny_builtin->DE,typeLookup_type->DF,wpAny_specialOf->DT,wpAny_passesOwn->DV,codeAny_mono->D3,wpAny_pyIter_tuple->D5,wpAny_seqItems->Ff,wpAny_rule->Fg,wpAny_storeSet_of->Fl,wpAny_pyIter_enum->Fp,wpAny_attempt->Fz,wpAny_isInstance->FA,wpAny_typeOf->FG,typeIs_str->FH,post_val_or_str->FL,wpAny_setEntries_of->FS,entryFor_alias->FZ,plainId_quiet->F9,eqIsQuiet_byValue->Ig,wpAny_pyIter_list->Ik,fits_of_scanBound->Im,wpAny_pyIter_slot->Io,noFill_tuple_add->IB,wpAny_execs_nil->IQ,wpAny_updateSeq->IT,wpAny_ite_split->IV,wpAny_mkInt->IW,boot_len->Lo,wpAny_loadName_local->Lw,wpAny_pyIter_revIter->LA,wpAny_standAt->LG,seq_tuple_add->LH,wpAny_handled->LJ,wpAny_loadName_cell->LL,wpAny_tupleItemsOf->LW,concat_meets->LZ,seqIndex_neg->L1,sub_set_self->L3,wpAny_forIn_array'->L6,wpAny_assign_Name->L9,wpAny_sequenceKey->Oc,slot_list_getitem->Od,list_append->Oe,wpAny_setEpoch_of->Ol,seqIndex_of->Oq,wpAny_throw->Ot,seqSlot_of->OE,wpAny_Name->OI,typeIs_int->OL,call->OM,Within->O5
open Option renaming bind_eq_some_iff->Nc,map_eq_some_iff->Nf,bind_some->Nk,map_some->DZ,isSome_iff_exists->IA,getD_none->Ox,map_none->OO
open PySem.W renaming Frag->Nd,kia_one->Ek,fnOf->Dg,keepIn->DJ,mg_of->DR,KeysLit->DW,nsIn->D7,codeIn->FW,methodObj->Ih,kitx_list->Ii,instObj->IP,cellsFrom_some->IX,lookIn->Lf,findIn->Lg,pyHash_slot->LK,kitx_tuple->LY,kitx_dict->Ob,plainGet->Ou,kitOne->OU,WalkO->OZ
open List renaming getElem?_eq_some_iff->Ng,getElem?_eq_getElem->Ni,size_toArray->Nj,mem_cons_of_mem->No,length_append->Np,getElem?_map->Nq,length_map->Nu,mem_cons_self->Nx,map_cons->Nz,mem_cons->NB,mem_map->NC,mem_append_right->NF,mem_singleton->NH,length_singleton->NK,mem_of_getElem?->NL,length_eq_zero_iff->NO,mem_append->NQ,mem_iff_getElem?->NS,all_eq_true->NV,length_cons->NW,mem_range->NY,mem_append_left->N2,getElem?_eq_none->N5,length_reverse->N7,map_map->N8,replicate_succ->N9,map_append->Ed,getD_eq_getElem?_getD->Ef,lookup_cons->Eg,take_add_one->Eh,getElem?_append_left->Ei,dropLast_concat_getLast->Ej,take_length->Em,nodup_cons->Er,find?_cons->Et,getElem?_set_self->Ez,getElem?_range->EB,length_take->ED,not_mem_nil->EE,any_cons->EF,toList_toArray->EI,findIdx?_eq_some_iff_getElem->EL,getElem?_append_right->EN,getElem?_toArray->EQ,drop_eq_getElem_cons->ET,flatten_cons->EZ,nodup_nil->Db,take_of_length_le->De,append_nil->Dj,length_set->Dk,take_append_drop->Dl,ext_getElem?->Dn,length_range->Dq,getElem?_set_ne->Dr,getElem?_zip_eq_some->Ds,filterMap_cons->Dx,map_congr_left->DA,drop_eq_nil_of_le->DG,getElem?_reverse->DK,getElem_mem->DN,reverse_reverse->DO,getElem?_zipIdx->DQ,length_pos_iff->DS,mem_filter->DU,foldl_cons->DY,length_erase_of_mem->D9,length_zipIdx->Fa,getElem?_drop->Fc,all_eq_false->Fj,append_assoc->Fm,flatMap_cons->Fq,length_pos_of_mem->Fv,all_cons->Fy,length_drop->FB,length_nil->FJ,length_zip->FO,mem_erase_of_ne->FP,getElem_of_mem->FT,flatMap_append->FU,countP_pos_iff->FV,mem_filterMap->F4,getLastD_cons->F7,length_eraseIdx_of_lt->Ia,map_drop->Ic,reverse_cons->Ij,nodup_append->Il,pairwise_map->Ip,findIdx?_eq_none_iff->Iu,getElem?_eq_none_iff->Iv,getElem_inj->Iz,map_nil->IC,mem_flatMap->IE,countP_cons->IF,getElem?_replicate->IG,getElem?_cons_succ->IJ,filter_cons_of_pos->IM,filter_cons_of_neg->IN,of_mem_zip->IR,range_succ->IS,range_succ_eq_map->La,pairwise_lt_range->Lc,dropLast_eq_take->Li,contains_iff_mem->Lj,cons_lt_cons_iff->Lr,drop_drop->Lu,countP_le_length->Lv,length_dropLast->Lz,perm_cons_erase->LB,mem_of_mem_drop->LD,filter_eq_self->LP,mem_map_of_mem->LS,mem_replicate->L7,any_eq_false->Oa,getElem?_nil->Og,findIdx?_nil->Oh,foldl_append->Oj,drop_sublist->Oo,any_toArray->Oz,filter_cons->OA,range'_succ->OB,nodup_range->OC,cons_append->OG,forIn_cons->OH,range_zero->ON,mem_range'->OR,not_lt_nil->OS,drop_zero->OV,le_trans->O0,sum_cons->O4,all_map->O6
open Nat renaming lt_of_lt_of_le->Nl,le_trans->Nr,le_refl->Nt,lt_of_le_of_lt->Ny,le_of_eq->NA,le_of_lt->NE,zero_add->NG,ne_of_lt->NP,le_add_right->N4,zero_le->N6,not_lt->Ec,lt_trans->El,lt_irrefl->Ex,lt_succ_self->EO,add_lt_add_left->E2,lt_or_ge->Du,not_lt_of_le->Dv,not_lt_zero->DD,lt_succ_of_lt->DI,succ_pos->DL,sub_lt_left_of_lt_add->DX,ne_of_gt->D2,add_right_comm->D8,le_of_lt_succ->Fk,not_le->FK,add_sub_cancel'->FR,mod_lt->Iw,add_sub_cancel_left->II,le_antisymm->IU,mul_le_mul->Lk,add_le_add->Ls,pos_of_ne_zero->L5,le_succ->Os,min_le_right->Ov,succ_ne_self->OD,add_assoc->OX
open PySem.Heap renaming get?_push_of_some->Nn,lt_size->Nv,get?_push_size->Nw,get?_update_self->Eb,get?_update_other->EK,size_push->FX
open Array renaming length_toList->ND,getElem?_eq_getElem->NU,getElem?_toList->Eo,getD_eq_getD_getElem?->DM,eq_empty_of_size_eq_zero->FN,getElem?_eq_none->Lb,forIn_toList->LX,toList_push->Oi
open Int renaming emod_lt_of_pos->NI,emod_nonneg->NR,toNat_natCast->Es,toNat_of_nonneg->Dz,le_trans->Fb,ne_of_gt->Fe,le_refl->F3,add_zero->L8,ediv_nonneg->OT
open Bool renaming and_eq_true->NJ,false_ne_true->Ea,or_eq_true->EH,and_false->E9,eq_iff_iff->D0,false_eq_true->D1,and_true->LF,or_false->LI,not_eq_true'->Om,not_true->OY,and_self->O1,false_or->O2
open PySem.Heap.SameBut renaming update->NT,refl->DH,extBut->LR
open PyProof.Rows renaming callWith_type1->N0,slot_tuple_getitem->N3,boot_tuple->EG,callWith_builtin1->EW,boot_str->FD,boot_int->FE,subscriptTail_builtinR->IY,boot_max->Lp,entry_tuple_getitem->LM,args_tuple_getitem->L0,Call_->OJ,Subscript_->OK
open Option.some renaming inj->N1
open PySem.F renaming plainAttrs_list->Eu,slot_list_extend->Dh,slot_tuple_iterator_next->Dm,called_set->Dt,slot_str_split->DC,args_tuple_add_2->D4,type_list_extend->Fd,entry_tuple_add->Fh,slot_tuple_add->Ft,slot_tuple_mul->Fw,plainAttrs_str->Fx,slot_list_append->FI,slot_list_pop->FQ,args_tuple_iterator_next_1->F0,entry_tuple_iterator_next->F5,args_str_split_2->F6,entry_str_split->Iq,slot_dict_getitem->Ir,slot_list_index->IH,slot_tuple_rmul->IL,type_str_split->Ld,slot_dict_get->Lh,slot_int_rmul->Ll,type_list_pop->Lq,args_list_append_2->Lx,args_list_extend_2->Ly,args_object_init_2->LC,entry_list_append->LN,entry_list_extend->LO,plain_extend_loop->LQ,plain_set_new->OP,slot_set_iter->OQ
open PySem.Paired renaming length->EM,snoc->O8
open Classical renaming byContradiction->ES
open LawfulBEq renaming eq_of_beq->E1
open Ne renaming symm->Da
open PySem.Calls renaming spliced_cons->Df,spliced_nil->Dp,Name_function_global->F8,callWith_builtin->IZ
open PySem.Obj renaming data_mapFields->Di,isFreed_of_fields->FC,cls_mapFields->On
open PySem.Value renaming isStrOf_shape->Dw
open PySem.Around renaming under_plainId->DP
open PySem.Txt renaming slice_le->D6
open PyProof.Rows.F renaming plain_set_update_loop->Fi,entry_set_update_loop->IK
open PySem.WalksT renaming enumerateD->Fo,zip2->O9
open PySem.StrLaws renaming glued_eq_join->FF
open PyProof.Rows.StrsAre renaming length->FY
open PySem.Challenge renaming pw_doneroom_k06_programs_as_texts->Iy
open List.Pairwise renaming imp_of_mem->ID
open PySem.Str renaming ofString_eq_toList->Le
open List.Perm renaming refl->Lm
open PySem.SeqAt.EqAt renaming int_str->LU,str_int->LV
open PySem.Code renaming quiet_builtin->L4
open Function renaming comp_def->Of
open PySem.IsL renaming update->Oy
open PySem.Heap.ExtBut renaming push->OF
open PyProof.Rows.IsTup renaming new->OW
open List.cons renaming inj->O3
open Sum.inr renaming inj->O7
open PySem.Heap.IsSliceOf renaming new->Qq
open PySem PySem.Spec PyProof.Rows
namespace L2
noncomputable abbrev Key:=Sum Int Str
noncomputable def QbD:Key->Value->Bool
 |.inl k,v=>Value.isInt k v
 |.inr x,v=>Value.isStrOf x v
noncomputable def Qoh(w:World):Key->Int
 |.inl k=>hashInt k
 |.inr x=>hashStr w x
theorem Q3:∀{k:Key} {v:Value},QbD k v=true->(∃i t,k=Sum.inl i/\v=Value.int i t)\/(∃x t,k=Sum.inr x/\v=Value.str x t)
 |.inl i,v,h=>by
  obtain⟨t,e⟩:=Value.isInt_shape (k:=i) (v:=v) h;exact .inl ⟨i,t,rfl,e⟩
 |.inr x,v,h=>by
  obtain⟨t,e⟩:=Dw (x:=x) (v:=v) h;exact .inr ⟨x,t,rfl,e⟩
theorem QdA(i:Int)(t:Tok):QbD (.inl i) (.int i t)=true:=by simp[QbD,Value.isInt]
theorem Qdi(x:Str)(t:Tok):QbD (.inr x) (.str x t)=true:=by simp[QbD,Value.isStrOf]
theorem QiT(a b:Int):decide ((Sum.inl a:Key)=Sum.inl b)=(a==b):=by
 by_cases e:a=b
 ·subst e;simp
 ·have h:¬(Sum.inl a:Key)=Sum.inl b:=fun q=>e (Sum.inl.inj q);rw[decide_eq_false h];exact(beq_eq_false_iff_ne.mpr e).symm
theorem Qi5(a b:Str):decide ((Sum.inr a:Key)=Sum.inr b)=decide (a=b):=by
 by_cases e:a=b
 ·subst e;simp
 ·have h:¬(Sum.inr a:Key)=Sum.inr b:=fun q=>e (O7 q);rw[decide_eq_false h,decide_eq_false e]
theorem Qka(a:Int)(b:Str):decide ((Sum.inl a:Key)=Sum.inr b)=false:=decide_eq_false (fun q=>nomatch q)
theorem QjB(a:Str)(b:Int):decide ((Sum.inr a:Key)=Sum.inl b)=false:=decide_eq_false (fun q=>nomatch q)
noncomputable def VX(prog:Program)(w:World):PySem.KeyKind prog w Key where
 is:=QbD
 hash:=Qoh w
 inj:=fun v a b g f=>by
  rcases Q3 g with⟨i,t,rfl,rfl⟩|⟨x,t,rfl,rfl⟩
  ·rcases Q3 f with⟨j,u,rfl,e⟩|⟨y,u,rfl,e⟩
   ·injection e with c _;rw[c]
   ·exact nomatch e
  ·rcases Q3 f with⟨j,u,rfl,e⟩|⟨y,u,rfl,e⟩
   ·exact nomatch e
   ·injection e with c _;rw[c]
 byValue:=fun k v h=>by
  rcases Q3 h with⟨i,t,rfl,rfl⟩|⟨x,t,rfl,rfl⟩<;>rfl
 pyHash:=fun d h=>by
  rcases Q3 d with⟨i,t,rfl,rfl⟩|⟨x,t,rfl,rfl⟩
  ·exact wpAny_pyHash_int h
  ·exact wpAny_pyHash_str h
 eqBool:=fun hu d h=>by
  rcases Q3 hu with⟨i,t,rfl,rfl⟩|⟨x,t,rfl,rfl⟩
  ·rcases Q3 d with⟨j,u,rfl,rfl⟩|⟨y,u,rfl,rfl⟩
   ·rw[QiT]at h;exact wpAny_eqBool_int h
   ·rw[Qka]at h;exact LU i t y u _ _ _ _ h
  ·rcases Q3 d with⟨j,u,rfl,rfl⟩|⟨y,u,rfl,rfl⟩
   ·rw[QjB]at h;exact LV x t j u _ _ _ _ h
   ·rw[Qi5]at h;exact wpAny_eqBool_str h
 «strs»:=fun k x t v h=>by
  rcases Q3 h with⟨i,u,rfl,e⟩|⟨y,u,rfl,e⟩
  ·exact nomatch e
  ·injection e with c _
   subst c;cases v<;>rfl
theorem GD(prog:Program)(w:World)(i:Int)(t:Tok):(VX prog w).is (.inl i) (.int i t)=true:=QdA i t
theorem GU(prog:Program)(w:World)(x:Str)(t:Tok):(VX prog w).is (.inr x) (.str x t)=true:=Qdi x t
inductive V where
 |non|bl (b:Bool)|int (i:Int)|str (x:Str)|byt (b:Array UInt8)|flt (b:UInt64)|ref (a:Addr)|ty (n:String)
 deriving DecidableEq
noncomputable def RelV:V->Value->Prop
 |.non,u=>u=Value.none
 |.bl b,u=>u=Value.bool b
 |.int i,u=>∃t,u=Value.int i t
 |.str x,u=>∃t,u=Value.str x t
 |.byt b,u=>∃t,u=Value.bytes b t
 |.flt b,u=>∃t,u=Value.float b t
 |.ref a,u=>u=Value.ref a
 |.ty n,u=>u=Value.type n
noncomputable abbrev Vals:List V->List Value->Prop:=Paired RelV
theorem Vals.length{xs:List V}{us:List Value}(r:Vals xs us):xs.length=us.length:=EM r
theorem Vals.get:∀{xs:List V} {us:List Value} {i:Nat} {x:V},Vals xs us->xs[i]?=some x->∃u,us[i]?=some u/\RelV x u
 |_,_,_,_,.nil,e=>by simp at e
 |_,_,0,_,.cons r _,e=>by simp at e;subst e;exact⟨_,rfl,r⟩
 |_,_,i+1,x,.cons _ t,e=>by
  obtain⟨u,b,a⟩:=Vals.get (i:=i) (x:=x) t (by simpa using e);exact⟨u,by simpa using b,a⟩
theorem Vals.set{x:V}{u:Value}(r:RelV x u):∀{xs:List V} {us:List Value} (i:Nat),Vals xs us->Vals (xs.set i x) (us.set i u)
 |_,_,_,.nil=>.nil
 |_,_,0,.cons _ t=>.cons r t
 |_,_,i+1,.cons q t=>.cons q (Vals.set r i t)
theorem Vals.append:∀{xs ys:List V} {us ws:List Value},Vals xs us->Vals ys ws->Vals (xs++ys) (us++ws)
 |_,_,_,_,.nil,s=>s
 |_,_,_,_,.cons r t,s=>.cons r (Vals.append t s)
theorem Vals.take:∀{xs:List V} {us:List Value} (n:Nat),Vals xs us->Vals (xs.take n) (us.take n)
 |_,_,0,_=>.nil
 |_,_,_+1,.nil=>.nil
 |_,_,n+1,.cons r t=>.cons r (Vals.take n t)
theorem Vals.drop:∀{xs:List V} {us:List Value} (n:Nat),Vals xs us->Vals (xs.drop n) (us.drop n)
 |_,_,0,r=>r
 |_,_,_+1,.nil=>.nil
 |_,_,n+1,.cons _ t=>Vals.drop n t
noncomputable def RelO:Option V->Option Value->Prop
 |some v,some u=>RelV v u
 |none,none=>True
 |_,_=>False
noncomputable def KV{κ:Type}:List (κ×V)->List (κ×Value)->Prop:=Paired fun(p:κ×V) (q:κ×Value)=>p.1=q.1/\RelV p.2 q.2
inductive Tr where
 |i (n:Int)
 |s (x:Str)
 |t (ks:List Tr)
noncomputable instance trDec:DecidableEq Tr:=fun _ _=>Classical.propDecidable _
noncomputable def IsT(h:Heap):Nat->Tr->Value->Prop
 |0,_,_=>False
 |_+1,.i k,v=>(∃t,v=.int k t)\/∃b:Bool,v=.bool b/\k=if b then 1 else 0
 |_+1,.s x,v=>∃t,v=.str x t
 |n+1,.t ks,v=>∃a c,v=.ref a/\h.IsTuple a c/\Paired (IsT h n) ks c.toList
theorem QaM{d c:Type}{F:d->c->Prop}(e:∀x y v,F x v->F y v->x=y):∀{xs ys:List d} {vs:List c},Paired F xs vs->Paired F ys vs->xs=ys
 |_,_,_,.nil,.nil=>rfl
 |_,_,_,.cons a s,.cons b t=>by rw[e _ _ _ a b,QaM e s t]
theorem Qcq{h:Heap}{n:Nat}{x:Tr}{a:Addr}(d:IsT h n x (.ref a)):∃m ks c,n=m+1/\x=.t ks/\h.IsTuple a c/\Paired (IsT h m) ks c.toList:=by
 cases n with
 |zero=>exact d.elim
 |succ n=>
  cases x with
  |i k=>rcases d with⟨t,e⟩|⟨b,e,_⟩<;>cases e
  |s y=>obtain⟨t,e⟩:=d;cases e
  |t ks=>obtain⟨f,c,e,p,q⟩:=d;cases e;exact⟨n,ks,c,rfl,rfl,p,q⟩
theorem GF{h:Heap}{a:Addr}{x y:Array Value}(e:h.IsTuple a x)(d:h.IsTuple a y):x=y:=by
 obtain⟨o,g,_,n,f⟩:=e;obtain⟨i,c,_,j,b⟩:=d;rw[g]at c;cases c;rw[f]at b;injection b
theorem GX{h:Heap}:∀{n:Nat} (x y:Tr) (v:Value),IsT h n x v->IsT h n y v->x=y
 |0,_,_,_,g,_=>g.elim
 | n+1,x,y,v,g,f=>by
  cases v with
  |ref a=>
   obtain⟨m,ks,d,e,rfl,p,q⟩:=Qcq g;obtain⟨u,j,l,c,rfl,r,o⟩:=Qcq f;cases e;cases c;cases GF p r;rw[QaM (fun x y v=>GX (n:=n) x y v) q o]
  | _=>
   cases x with
   | i k=>
    cases y with
    |i w=>
     rcases g with⟨t,e⟩|⟨b,e,rfl⟩<;>cases e<;>rcases f with⟨t,e⟩|⟨b,e,rfl⟩<;>cases e<;>rfl
    |s y=>obtain⟨t,e⟩:=f;rcases g with⟨t,c⟩|⟨b,c,_⟩<;>(rw[e]at c;cases c)
    |t j=>obtain⟨a,d,e,_⟩:=f;cases e
   |s z=>
    obtain⟨t,c⟩:=g;cases y with
    |i k=>rcases f with⟨t,e⟩|⟨b,e,_⟩<;>(rw[e]at c;cases c)
    |s y=>obtain⟨t,e⟩:=f;rw[e]at c;cases c;rfl
    |t j=>obtain⟨a,d,e,_⟩:=f;cases e
   |t ks=>obtain⟨a,d,e,_⟩:=g;cases e
theorem Wh{g e:Type}{F G:g->e->Prop}(f:∀a b,F a b->G a b):∀{d:List g} {c:List e},Paired F d c->Paired G d c
 |_,_,.nil=>.nil
 |_,_,.cons r t=>.cons (f _ _ r) (Wh f t)
theorem Ui{h h':Heap}{d:Addr}{o:Obj}{es r}(g:h.get? d=some o)(hd:o.data=.dict es r)(l:Heap.SameBut d h h'):∀{n:Nat} (k:Tr) (v:Value),IsT h n k v->IsT h' n k v
 |0,_,_,x=>x.elim
 |n+1,.i k,v,x=>x
 |n+1,.s k,v,x=>x
 | n+1,.t ks,v,⟨a,f,e,⟨o',c,p,m,b⟩,q⟩=>by
  have j:a≠d:=by
   rintro rfl
   rw[c]at g;cases g;rw[hd]at b;exact nomatch b
  exact⟨a,f,e,⟨o',(l.2 a j).trans c,p,m,b⟩,Wh (fun k v=>Ui g hd l k v) q⟩
noncomputable def hN(w:World):Nat->Tr->Int
 |0,_=>0
 |_+1,.i k=>hashInt k
 |_+1,.s x=>hashStr w x
 |n+1,.t ks=>reduceHash (Builtin.Tuple.tupleHashOf (ks.map (hN w n)))
noncomputable def dN:Nat->Tr->Nat
 |0,_=>0
 |_+1,.i _=>1
 |_+1,.s _=>1
 |n+1,.t ks=>(ks.map (dN n)).sum+1
section
variable{prog:Program}{w:World}{E:Value->Shared->Prop}
theorem UB{n:Nat}{A:Around}(c:∀(k:Tr) (v:Value) (s:Shared) (Q:Int->Shared->Prop),IsT s.heap n k v->Q (hN w n k) { s with toks:=s.toks+dN n k }->wpAny (model prog w) A (pyHash v) Q E s) :
  ∀(ks:List Tr) (vs:List Value) (s:Shared) (b:Array Int) (Q:Array Int->Shared->Prop),Paired (IsT s.heap n) ks vs ->
  (∀a,a.toList=b.toList++ks.map (hN w n)->Q a { s with toks:=s.toks+(ks.map (dN n)).sum }) ->
  wpAny (model prog w) A (forIn vs b fun x r=>do let h <-pyHash x;pure PUnit.unit;pure (ForInStep.yield (r.push h))) Q E s
 |[],_,s,b,Q,x,h=>by cases x;exact Nh (h b (by simp))
 | k::ks,_,s,b,Q,x,h=>by
  cases x with
  |cons e d=>
   rw[OH];refine Na (Na (c k _ s _ e ?_));refine Na (Nh (Nh ?_));refine UB c ks _ _ _ Q d fun a f=>?_;have:=h a (by simp[f]);simpa[OX]using this
theorem QfJ:∀(n:Nat) (A:Around),A.units+n<cLine->∀(k:Tr) (v:Value) (s:Shared) (Q:Int->Shared->Prop),IsT s.heap n k v->Q (hN w n k) { s with toks:=s.toks+dN n k }->wpAny (model prog w) A (pyHash v) Q E s
 |0,_,_,_,_,_,_,x,_=>x.elim
 | n+1,A,hu,.i k,v,s,Q,x,h=>by
  rcases x with⟨t,rfl⟩|⟨b,rfl,rfl⟩
  ·exact wpAny_pyHash_int h
  ·refine LK (T:="bool") rfl F.slot_bool_hash entry_int_hash (args_int_hash _) (beq_builtin_none _) (.inr (by omega)) ?_;cases b
   ·exact(show wpAny _ _ (do ret (<-mkInt 0)) _ _ s from Na (IW (Nh ⟨_,_,rfl,h⟩)))
   ·exact(show wpAny _ _ (do ret (<-mkInt 1)) _ _ s from Na (IW (Nh ⟨_,_,rfl,h⟩)))
 |n+1,A,hu,.s y,v,s,Q,x,h=>by
  obtain⟨t,rfl⟩:=x;exact wpAny_pyHash_str h
 |n+1,A,hu,.t d,v,s,Q,x,h=>by
  obtain⟨a,e,rfl,⟨o,c,f,m,hd⟩,q⟩:=x;refine LK (T:="tuple") ⟨_,c,f⟩ F.slot_tuple_hash F.entry_tuple_hash (F.args_tuple_hash_1 _) (beq_builtin_none _) (.inr (by omega)) ?_;show wpAny _ _ (Builtin.Tuple.tupleItemsOf (.ref a)>>=_) _ _ s;refine Na (LW c hd ?_);refine Na ?_;rw[<-LX];refine UB (n:=n) (fun k v s Q=>QfJ n A.in1 (by show A.units+1+n<cLine;omega) k v s Q) d _ s #[] _ q fun b g=>?_;show wpAny _ _ (retInt (Builtin.Tuple.tupleHashOf b.toList)) _ _ _;rw[g];refine Na (IW (Nh ⟨_,_,rfl,?_⟩));simpa[hN,dN,OX]using h
theorem QgH{n:Nat}{h:Heap}{e:Nat->Bool}:∀{ks ls:List Tr} {us vs:List Value},Paired (IsT h n) ks us->Paired (IsT h n) ls vs->(∀(j:Nat) (x y:Tr),ks[j]?=some x->ls[j]?=some y->e j=decide (x=y)) ->
  ((List.range (min us.length vs.length)).all e&&us.length==vs.length)=decide (Tr.t ks=Tr.t ls):=by
 intro ks ls us vs p q f;have i:=EM p;have g:=EM q;rw[<-i,<-g]
 by_cases d:ks.length=ls.length
 ·by_cases c:ks=ls
  ·subst c;simp only[Nat.min_self,beq_self_eq_true,LF,decide_true];rw[NV];intro j a;rw[NY]at a;rw[f j ks[j] ks[j] (Ni a) (Ni a)];simp
  ·have:decide (Tr.t ks=Tr.t ls)=false:=decide_eq_false fun z=>c (Tr.t.inj z);rw[this,Bool.and_eq_false_iff];left;have:∃j,ks[j]?≠ls[j]?:=ES fun z=>c (Dn fun j=>ES fun y=>z ⟨j,y⟩);obtain⟨j,a⟩:=this;have b:j<ks.length:=ES fun z=>a (by rw[N5 (by omega),N5 (by omega)]);rw[Fj];refine⟨j,NY.mpr (by omega),?_⟩;rw[f j ks[j] ls[j] (Ni b) (Ni (by omega))];intro z;rw[decide_eq_true_eq]at z;exact a (by rw[Ni b,Ni (by omega),z])
 ·have l:(ks.length==ls.length)=false:=beq_eq_false_iff_ne.mpr d;rw[l,E9];exact(decide_eq_false fun z=>d (by rw[Tr.t.inj z])).symm
theorem KA{c d:Type}{F:c->d->Prop}:∀{b:List c} {a:List d} {j:Nat} {x:c},Paired F b a->b[j]?=some x->∃v,a[j]?=some v/\F x v
 |_,_,0,x,.cons r t,e=>by simp at e;subst e;exact⟨_,rfl,r⟩
 |_,_,j+1,x,.cons r t,e=>by
  obtain⟨v,g,f⟩:=KA (j:=j) (x:=x) t (by simpa using e);exact⟨v,by simpa using g,f⟩
open SeqAt in
theorem Qm5{s:Shared}:∀(n:Nat) (A:Around),A.units+n<cLine->∀(x y:Tr) (u v:Value),IsT s.heap n x u->IsT s.heap n y v->EqAt A s u v (decide (x=y))
 |0,_,_,_,_,_,_,c,_=>c.elim
 | n+1,A,hu,.i a,.i b,u,v,c,d=>by
  have hd:decide (Tr.i a=Tr.i b)=(a==b):=by
   by_cases z:a=b
   ·subst z;simp
   ·rw[decide_eq_false fun q=>z (Tr.i.inj q)];exact(beq_eq_false_iff_ne.mpr z).symm
  rw[hd]
  rcases c with⟨t,rfl⟩|⟨p,rfl,rfl⟩<;>rcases d with⟨g,rfl⟩|⟨q,rfl,rfl⟩
  ·exact EqAt.int_int a t b g
  ·exact EqAt.int_bool a t q
  ·exact EqAt.bool_int p b g
  ·have:=EqAt.bool_bool (A:=A) (s:=s) p q;cases p<;>cases q<;>exact this
 |n+1,A,hu,.i a,.s b,u,v,c,d=>by
  obtain⟨g,rfl⟩:=d;rw[decide_eq_false (fun z=>nomatch z)]
  rcases c with⟨t,rfl⟩|⟨p,rfl,rfl⟩
  ·exact EqAt.int_str a t b g
  ·exact EqAt.bool_str p b g
 |n+1,A,hu,.i a,.t h,u,v,c,d=>by
  obtain⟨ad,f,rfl,p,_⟩:=d;rw[decide_eq_false (fun z=>nomatch z)]
  rcases c with⟨t,rfl⟩|⟨q,rfl,rfl⟩
  ·exact EqAt.int_tuple a t p (by omega)
  ·exact EqAt.bool_tuple q p (by omega)
 |n+1,A,hu,.s b,.i a,u,v,c,d=>by
  obtain⟨g,rfl⟩:=c;rw[decide_eq_false (fun z=>nomatch z)]
  rcases d with⟨t,rfl⟩|⟨p,rfl,rfl⟩
  ·exact EqAt.str_int b g a t
  ·exact EqAt.str_bool b g p
 | n+1,A,hu,.s a,.s b,u,v,c,d=>by
  obtain⟨t,rfl⟩:=c;obtain⟨g,rfl⟩:=d
  have hd:decide (Tr.s a=Tr.s b)=(a==b):=by
   by_cases z:a=b
   ·subst z;simp
   ·rw[decide_eq_false fun q=>z (Tr.s.inj q)];exact(beq_eq_false_iff_ne.mpr z).symm
  rw[hd];exact EqAt.str_str a t b g
 |n+1,A,hu,.s b,.t h,u,v,c,d=>by
  obtain⟨ad,f,rfl,p,_⟩:=d;obtain⟨t,rfl⟩:=c;rw[decide_eq_false (fun z=>nomatch z)];exact EqAt.str_tuple b t p (by omega)
 |n+1,A,hu,.t h,.i a,u,v,c,d=>by
  obtain⟨ad,f,rfl,p,_⟩:=c;rw[decide_eq_false (fun z=>nomatch z)]
  rcases d with⟨t,rfl⟩|⟨q,rfl,rfl⟩
  ·exact EqAt.tuple_int a t p (by omega)
  ·exact EqAt.tuple_bool q p (by omega)
 |n+1,A,hu,.t h,.s b,u,v,c,d=>by
  obtain⟨ad,f,rfl,p,_⟩:=c;obtain⟨t,rfl⟩:=d;rw[decide_eq_false (fun z=>nomatch z)];exact EqAt.tuple_str b t p (by omega)
 | n+1,A,hu,.t h,.t l,u,v,c,d=>by
  obtain⟨ad,f,rfl,p,q⟩:=id c;obtain⟨S,m,rfl,J,F⟩:=id d
  by_cases B:ad=S
  ·subst B;have:=GX _ _ _ c d;rw[this,decide_eq_true rfl];exact EqAt.same _
  ·refine EqAt.of_refs B ?_;have P:=Qm5 (s:=s) n A.in1 (by show A.units+1+n<cLine;omega)
   have I:=RcAt.tuples (A:=A) (s:=s) (e:=fun j=>match h[j]?,l[j]? with|some x,some y=>decide (x=y)|_,_=>false) p J (by omega) (fun j D C=>by
    have M:=EM q;have L:=EM F;have O:j<h.length:=by rw[M];exact D
    have N:j<l.length:=by rw[L];exact C
    obtain⟨x,c⟩:∃x,h[j]?=some x:=⟨h[j],Ni O⟩
    obtain⟨y,d⟩:∃y,l[j]?=some y:=⟨l[j],Ni N⟩
    obtain⟨u,o,G⟩:=KA q c;obtain⟨t,r,H⟩:=KA F d;rw[c,d]
    have R:f[j]=u:=by
     rw[Eo,NU D]at o;exact N1 o
    have Q:m[j]=t:=by
     rw[Eo,NU C]at r;exact N1 r
    rw[R,Q]
    exact P x y u t G H)
   have:=QgH (e:=fun j=>match h[j]?,l[j]? with|some x,some y=>decide (x=y)|_,_=>false) q F (fun j x y D C=>by simp only[D,C]);rw[ND,ND]at this;rw[this]at I;exact I
theorem QcO{A:Around}{s:Shared}:∀(n m:Nat) (k:Tr) (v:Value) (Q:Bool->Shared->Prop),IsT s.heap n k v->n<=m->Q true s->wpAny (model prog w) A (eqIsQuiet m v) Q E s
 |0,_,_,_,_,x,_,_=>x.elim
 |n+1,m,.i k,v,Q,x,_,h=>by
  rcases x with⟨t,rfl⟩|⟨b,rfl,rfl⟩
  ·rw[Ig _ rfl];exact Nh h
  ·rw[Ig _ rfl];exact Nh h
 |n+1,m,.s k,v,Q,x,_,h=>by
  obtain⟨t,rfl⟩:=x;rw[Ig _ rfl];exact Nh h
 |n+1,0,.t f,v,Q,x,z,h=>by omega
 | n+1,m+1,.t f,v,Q,x,z,h=>by
  obtain⟨a,e,rfl,⟨o,g,B,l,hd⟩,q⟩:=x;have j:s.TypeIs (.ref a) "tuple":=⟨o,g,B⟩
  unfold eqIsQuiet;refine Na (DT j F.slot_tuple_eq.lookup ?_);show wpAny _ _ (isInstance (.ref a) (.type "tuple")>>=_) _ _ s;refine Na (FA j isSubtype_tuple_tuple ?_);simp only[OY,D1,if_false];refine Na (Ff g hd ?_);refine Na ?_;show wpAny _ _ (forIn e _ _) _ _ s;rw[<-LX];refine wpAny_forIn_list _ (fun rest r d=>r.1=none/\d=s/\∃c,Paired (IsT s.heap n) c rest) _ ?_ ?_ _ _ ⟨rfl,rfl,f,q⟩
  ·rintro v rest r d ⟨hr,rfl,c,y⟩
   cases y with
   |cons u p=>
    refine Na (QcO n m _ _ _ u (by omega) ?_);simp only[OY,D1,if_false];exact Nh ⟨rfl,rfl,_,p⟩
  ·rintro⟨D,C⟩ d ⟨hr,rfl,_⟩
   simp only at hr;subst hr;exact Nh h
end
noncomputable def Qes(prog:Program)(w:World):HeapKind prog w Tr where
 is:=fun h k a=>IsT h 8 k (.ref a)
 hash:=hN w 8
 draws:=dN 8
 room:=fun A=>A.units+8<cLine
 inj:=fun c b=>GX _ _ _ c b
 keeps:=fun x f hd e=>Ui f hd e _ _ x
 pyHash:=fun hu d h=>QfJ 8 _ hu _ _ _ _ d h
 eqBool:=fun hu c b h=>Qm5 8 _ hu _ _ _ _ c b _ _ _ _ h
 quiet:=fun d h=>QcO 8 8 _ _ _ d (Nt _) h
noncomputable def kV:Key->V
 |.inl i=>.int i
 |.inr x=>.str x
inductive HO where
 /-- a list -/
 |lst (xs:List V)
 /-- a tuple (never changes) -/
 |tup (xs:List V)
 /-- a dict whose keys are ints and texts;one whose keys are tuples of ints and texts (the empty one is both) -/
 |dK (kvs:List (Key×V))|dT (kvs:List (Tr×Addr×V))
 /-- a set of ints: its members,its size -/
 |set (S:Int->Bool) (n:Nat)
 /-- an instance of the class at C,its dict at dx,its attributes -/
 |ins (C dx:Addr) (fs:List (Str×V))
 /-- the dict of the instance at x -/
 |own (x:Addr)
 /-- the dict of an exception -/
 |xd (fs:List (Str×V))
 /-- a bound method,f of x -/
 |met (f x:Addr)
 /-- a range object lo,lo+1,.. below hi -/
 |rng (lo hi:Int)
 /-- a thing that is known to the object (the script;a dict while a loop walks it): read,never written while it is so -/
 |frz (o:Obj) (u:HO)
 /-- a code object's table -/
 |tbl (ps:Array Value)
 /-- any other thing,by what is true of its one object (a def of one's own: SetO a S n:=HO.ext fun h=>..) -/
 |ext (φ:Heap->Prop)
noncomputable abbrev Hp:=Addr->Option HO
noncomputable def upd(H:Hp)(a:Addr)(o:HO):Hp:=fun b=>if b=a then some o else H b
theorem Ju{H:Hp}{a:Addr}{o:HO}:upd H a o a=some o:=by unfold upd;rw[if_pos rfl]
theorem Qr{H:Hp}{a b:Addr}{o:HO}(h:b≠a):upd H a o b=H b:=by unfold upd;rw[if_neg h]
theorem JE{H:Hp}{a b:Addr}{o:HO}(h:H a=some o)(h':H b=none):a≠b:=by
 intro e;subst e;rw[h]at h';cases h'
section
variable(P:Program)(w:World)
noncomputable def ObjOk(H:Hp)(h:Heap)(a:Addr):HO->Prop
 |.lst xs=>xs.length<=sizeLine/\∃(b:List Value) (n:Nat),Vals xs b/\h.get? a=some { cls:=.type "list",data:=.seq b.toArray n }
 |.tup xs=>xs.length<=sizeLine/\∃b:List Value,Vals xs b/\IsTup h a b.toArray
 |.dK kvs=>kvs.length<=sizeLine/\(a==sysModules)=false/\∃vs,KV kvs vs/\h.DictOf (VX P w) a vs
 | .dT kvs=>kvs.length<=sizeLine/\(a==sysModules)=false/\∃xs:List (Tr×Addr×Value),
   Paired (fun(p:Tr×Addr×V) (q:Tr×Addr×Value)=>p.1=q.1/\p.2.1=q.2.1/\RelV p.2.2 q.2.2) kvs xs /\
   ∃o es j,h.get? a=some o/\o.ExactDict/\o.data=.dict es j/\es.toList=xs.map (entryOfKey (Qes P w))/\(xs.map (·.1)).Nodup/\j=es.size
 |.set S n=>h.SetOf (intKind P w) a S n
 | .ins C d fs=>H d=some (.own a)/\fs.length<=1000/\d≠a/\h.get? a=some (IP C d) /\
   ∃c,h.Ns1 d c/\(∀f,RelO (fs.lookup f) (c f))/\O5 c (fs.map (·.1))
 |.own _=>∃o,h.get? a=some o
 |.xd fs=>∃c,h.Ns1 a c/\∀f,RelO (fs.lookup f) (c f)
 |.rng lo l=>∃t u v,h.get? a=some { cls:=.type "range",data:=.fields #[.int lo t,.int l u,.int 1 v] }
 |.frz o u=>h.get? a=some o/\ObjOk H h a u
 |.tbl ps=>h.get? a=some { cls:=.none,data:=.fields ps }
 |.met f x=>h.get? a=some (Ih (.ref f) (.ref x))
 |.ext e=>e h/\(∃o,h.get? a=some o)/\∀i g:Heap,e i->(∀o,i.get? a=some o->g.get? a=some o)->e g
def HOk(H:Hp)(h:Heap):Prop:=∀a o,H a=some o->ObjOk P w H h a o
end
section
variable{P:Program}{w:World}{H H':Hp}{h h':Heap}{a:Addr}{o:HO}
theorem ObjOk.lt(x:ObjOk P w H h a o):a<h.objs.size:=by
 cases o with
 |lst b=>obtain⟨_,_,_,_,e⟩:=x;exact Nv e
 |tup b=>obtain⟨_,_,_,p⟩:=x;exact p.lt
 |dK kvs=>obtain⟨_,_,_,_,o,_,_,e,_⟩:=x;exact Nv e
 |dT kvs=>obtain⟨_,_,_,_,o,_,_,e,_⟩:=x;exact Nv e
 |set S n=>obtain⟨o,_,_,_,e,_⟩:=x;exact Nv e
 |ins C g fs=>obtain⟨_,_,_,e,_⟩:=x;exact Nv e
 |own y=>obtain⟨_,e⟩:=x;exact Nv e
 |xd fs=>obtain⟨_,⟨_,_,_,e,_⟩,_⟩:=x;exact Nv e
 |rng lo d=>obtain⟨_,_,_,e⟩:=x;exact Nv e
 |frz ob u=>obtain⟨e,_⟩:=x;exact Nv e
 |tbl ps=>exact Nv (show h.get? a=some _ from x)
 |met f y=>exact Nv (show h.get? a=some _ from x)
 |ext c=>obtain⟨_,⟨_,e⟩,_⟩:=x;exact Nv e
theorem Paired.mapP{g e:Type}{F G:g->e->Prop}:∀{d:List g} {c:List e},Paired F d c->(∀a b,F a b->G a b)->Paired G d c
 |_,_,.nil,_=>.nil
 |_,_,.cons r t,f=>.cons (f _ _ r) (Paired.mapP t f)
theorem ObjOk.stay(x:ObjOk P w H h a o)(k:∀b u,(b=a\/H b=some (.own a))->h.get? b=some u->h'.get? b=some u)
  (B:∀b,H b=some (.own a)->H' b=some (.own a)) (F:∀b xs,H b=some (.tup xs)->H' b=some (.tup xs)):ObjOk P w H' h' a o:=by
 induction o with
 |lst xs=>obtain⟨z,j,n,r,e⟩:=x;exact⟨z,j,n,r,k _ _ (.inl rfl) e⟩
 |tup xs=>obtain⟨z,j,r,ob,e,c⟩:=x;exact⟨z,j,r,ob,k _ _ (.inl rfl) e,c⟩
 |dK kvs=>obtain⟨z,y,s,r,ob,g,i,e,c⟩:=x;exact⟨z,y,s,r,ob,g,i,k _ _ (.inl rfl) e,c⟩
 |dT kvs=>
  obtain⟨z,y,xs,r,ob,g,i,e,c⟩:=x;exact⟨z,y,xs,r,ob,g,i,k _ _ (.inl rfl) e,c⟩
 |set S n=>obtain⟨ob,g,i,t,e,c⟩:=x;exact⟨ob,g,i,t,k _ _ (.inl rfl) e,c⟩
 |ins C I fs=>
  obtain⟨d,z,ne,e,m,⟨l,g,i,D,c⟩,r⟩:=x;exact⟨B _ d,z,ne,k _ _ (.inl rfl) e,m,⟨l,g,i,k _ _ (.inr d) D,c⟩,r⟩
 |own y=>obtain⟨ob,e⟩:=x;exact⟨ob,k _ _ (.inl rfl) e⟩
 |xd fs=>obtain⟨m,⟨l,g,i,e,c⟩,r⟩:=x;exact⟨m,⟨l,g,i,k _ _ (.inl rfl) e,c⟩,r⟩
 |rng lo G=>obtain⟨t,u,v,e⟩:=x;exact⟨t,u,v,k _ _ (.inl rfl) e⟩
 |frz ob u A=>obtain⟨e,q⟩:=x;exact⟨k _ _ (.inl rfl) e,A q⟩
 |tbl ps=>
  have e:h.get? a=some { cls:=.none,data:=.fields ps }:=x;show h'.get? a=some { cls:=.none,data:=.fields ps };exact k a _ (.inl rfl) e
 |met f y=>
  have e:h.get? a=some (Ih (.ref f) (.ref y)):=x;show h'.get? a=some (Ih (.ref f) (.ref y));exact k a _ (.inl rfl) e
 |ext E=>obtain⟨p,⟨o,e⟩,st⟩:=x;exact⟨st _ _ p fun o q=>k _ _ (.inl rfl) q,⟨o,k _ _ (.inl rfl) e⟩,st⟩
theorem HOk.lt(x:HOk P w H h)(e:H a=some o):a<h.objs.size:=(x a o e).lt
theorem HOk.fresh(x:HOk P w H h)(e:h.objs.size<=a):H a=none:=by
 cases q:H a with
 |none=>rfl
 |some u=>exact absurd (Nl (x.lt q) e) (Ex _)
theorem HOk.kept(x:HOk P w H h)(k:∀b u,h.get? b=some u->h'.get? b=some u):HOk P w H h':=fun a o e=>
 (x a o e).stay (fun b u _ q=>k b u q) (fun _ q=>q) fun _ _ q=>q
theorem HOk.laid(x:HOk P w H h)(k:∀b u,h.get? b=some u->h'.get? b=some u)(g:h.objs.size<=a)(new:ObjOk P w (upd H a o) h' a o):HOk P w (upd H a o) h':=fun b u e=>by
 have d:=x.fresh g
 by_cases f:b=a
 ·subst f;rw[Ju]at e;cases e;exact new
 ·rw[Qr f]at e;exact(x b u e).stay (fun c v _ q=>k c v q) (fun c q=>by rw[Qr (JE q d)];exact q) fun c i q=>by rw[Qr (JE q d)];exact q
end
def Rd(H:Hp)(a:Addr)(u:HO):Prop:=H a=some u\/∃o,H a=some (.frz o u)
theorem Rd.ok{P:Program}{w:World}{H:Hp}{h:Heap}{a:Addr}{u:HO}(r:Rd H a u)(x:HOk P w H h):ObjOk P w H h a u:=by
 rcases r with r|⟨o,r⟩
 ·exact x a u r
 ·obtain⟨_,q⟩:=x a _ r;exact q
noncomputable def Mut:Option HO->Prop
 |some (.lst _)=>True
 |some (.dK _)=>True
 |some (.dT _)=>True
 |some (.set _ _)=>True
 |some (.ins _ _ _)=>True
 |some (.ext _)=>True
 |_=>False
section
variable{P:Program}{w:World}{H:Hp}{h h':Heap}{x e:Addr}{o':HO}
theorem HOk.write(ok:HOk P w H h)(i:Mut (H x))(o:e=x\/H e=some (.own x))(k:∀b u,b≠e->h.get? b=some u->h'.get? b=some u)(m:∃u,h'.get? e=some u)
  (new:ObjOk P w (upd H x o') h' x o'):HOk P w (upd H x o') h':=fun b u q=>by
 have d:∀c y,H c=some (.own y)->c≠x:=fun c y r z=>by subst z;rw[r]at i;exact i
 have f:∀c g,H c=some (.tup g)->c≠x:=fun c g r z=>by subst z;rw[r]at i;exact i
 by_cases l:b=x
 ·subst l;rw[Ju]at q;cases q;exact new
 ·rw[Qr l]at q
  by_cases a:b=e
  ·have n:H b=some (.own x):=by
    rcases o with z|z
    ·exact absurd (a.trans z) l
    ·rw[a];exact z
   rw[q]at n;cases n;obtain⟨v,p⟩:=m;exact⟨v,by rw[a];exact p⟩
  ·refine(ok b u q).stay (fun c v j r=>k c v ?_ r) (fun c r=>by rw[Qr (d c b r)];exact r) fun c g r=>by rw[Qr (f c g r)];exact r
   rcases j with rfl|j
   ·exact a
   ·rintro rfl
    rcases o with z|z
    ·exact d c b j z
    ·rw[j]at z;cases z;exact l rfl
end
structure Un(fs ex:List Addr)(H H':Hp)(h h':Heap):Prop where
 keep:∀b o,h.get? b=some o->H b=none->b∉fs->b∉ex->h'.get? b=some o
 slot:∀b o,h.get? b=some o->H b=none->b∈fs->b∉ex->∃sl,h'.get? b=some { o with slots:=sl }
 free:∀b o,h.get? b=some o->H b=none->b∉ex->H' b=none
 there:∀b o,h.get? b=some o->b∉ex->∃o',h'.get? b=some o'
 tups:∀b xs,H b=some (.tup xs)->H' b=some (.tup xs)
 frzs:∀b o u,H b=some (.frz o u)->H' b=some (.frz o u)
 tbls:∀b ps,H b=some (.tbl ps)->∃more,H' b=some (.tbl (ps++more))
section
variable{fs fs' ex ex':List Addr}{H H1 H2:Hp}{h h1 h2 h':Heap}{a x e:Addr}{o:HO}
theorem Un.any(u:Un fs ex H H1 h h1){b:Addr}{ob:Obj}(q:h.get? b=some ob)(n:H b=none)(c:b∉ex):∃f,h1.get? b=some { ob with slots:=f }:=by
 by_cases d:b∈fs
 ·exact u.slot b ob q n d c
 ·exact⟨ob.slots,u.keep b ob q n d c⟩
theorem Un.kept(k:∀b u,h.get? b=some u->h'.get? b=some u):Un fs ex H H h h':=
 ⟨fun b ob q _ _ _=>k b ob q,fun b ob q _ _ _=>⟨ob.slots,k b ob q⟩,fun _ _ _ n _=>n,fun b ob q _=>⟨ob,k b ob q⟩,fun _ _ q=>q,fun _ _ _ q=>q,fun _ ps q=>⟨#[],by rw[q];simp⟩⟩
theorem Un.refl:Un fs ex H H h h:=Un.kept fun _ _ q=>q
theorem Un.laid(k:∀b u,h.get? b=some u->h'.get? b=some u)(f:h.objs.size<=a)(c:H a=none):Un fs ex H (upd H a o) h h' where
 keep:=fun b u q _ _ _=>k b u q
 slot:=fun b u q _ _ _=>⟨u.slots,k b u q⟩
 free:=fun b u q n _=>by rw[Qr (NP (Nl (Nv q) f))];exact n
 there:=fun b u q _=>⟨u,k b u q⟩
 tups:=fun b d q=>by rw[Qr (JE q c)];exact q
 frzs:=fun b u d q=>by rw[Qr (JE q c)];exact q
 tbls:=fun b ps q=>⟨#[],by rw[Qr (JE q c),q];simp⟩
theorem Un.write(d:Mut (H x))(m:e=x\/H e=some (.own x))(k:∀b u,b≠e->h.get? b=some u->h'.get? b=some u)(g:∃u,h'.get? e=some u):Un fs ex H (upd H x o) h h':=by
 have i:∀b,H b=none->b≠x:=fun b n z=>by subst z;rw[n]at d;exact d
 have j:∀b,H b=none->b≠e:=fun b n z=>by
  subst z
  rcases m with r|r
  ·exact i b n r
  ·rw[n]at r;cases r
 have f:∀b u,H b=some u->¬Mut (some u)->b≠x:=fun b u q nm z=>by subst z;rw[q]at d;exact nm d
 refine⟨fun b u q n _ _=>k b u (j b n) q,fun b u q n _ _=>⟨u.slots,k b u (j b n) q⟩,fun b u q n _=>by rw[Qr (i b n)];exact n,fun b u q _=>?_,
  fun b l q=>by rw[Qr (f b _ q fun z=>z)];exact q,fun b u l q=>by rw[Qr (f b _ q fun z=>z)];exact q,fun b ps q=>⟨#[],by rw[Qr (f b _ q fun z=>z),q];simp⟩⟩
 by_cases c:b=e
 ·subst c;exact g
 ·exact⟨u,k b u c q⟩
end
noncomputable def trk(h:Heap)(H:Hp):List Addr:=(List.range h.objs.size).filter fun a=>(H a).isSome
noncomputable def Qfj(h:Heap)(H:Hp):Heap:=PySem.W.hideAll h (trk h H)
theorem Qb5(h:Heap)(H:Hp):(Qfj h H).objs.size=h.objs.size:=PySem.W.hideAll_size _ _
theorem Qfd{h:Heap}{H:Hp}{b:Addr}{o:Obj}(e:h.get? b=some o)(n:H b=none):(Qfj h H).get? b=some o:=
 PySem.W.hideAll_get _ e fun a=>by
  have q:(H b).isSome=true:=(DU.mp a).2;rw[n]at q;simp at q
theorem QgN{h:Heap}{H:Hp}{b:Addr}{o:Obj}(e:(Qfj h H).get? b=some o):h.get? b=some o/\H b=none:=by
 have a:h.get? b=some o:=PySem.W.of_hideAll (trk h H) e;refine⟨a,?_⟩;cases q:H b with
 |none=>rfl
 |some x=>
  have c:b∈trk h H:=DU.mpr ⟨NY.mpr (Nv a),by simp[q]⟩;have z:(Qfj h H).get? b=none:=PySem.W.hideAll_none (trk h H) c;rw[z]at e;cases e
structure Mod(K:Nd)(mg:Str->Option Value)(base:Heap):Prop where
 kin:K.In base
 glob:base.Ns mainGlobals mg
 blt:∃mb,base.Ns builtinsNs mb/\∀x:Str,x≠"__name__"->mb x=bootBuiltins x
 nolimit:base.NoLimit
structure Cx where
 prog:Program
 w:World
 K:Nd
 mg:Str->Option Value
 base:Heap
 A:Around
 N:List Str
 s₀:Shared
 H₀:Hp
 env:Env
 outer:List Env
 stack:List Env
 ex:List Addr
 fn:Str->Bool
 calm:Bool
 pn:List (Addr×Obj)
 xe:Value->Shared->Prop
noncomputable def frs(l:List Env):List Addr:=l.filterMap (·.frame)
noncomputable abbrev Cx.fs(X:Cx):List Addr:=frs X.outer
def Vis(a:Scope)(x:Str):Prop:=a.names.lookup x=some .local\/a.names.lookup x=some .cell\/a.names.lookup x=some .free
def Loc(a:Scope)(x:Str):Prop:=a.names.lookup x=some .local\/a.names.lookup x=some .cell
def QnQ(env:Env)(h:Heap)(m:Str->Option Value)(x:Str)(u:Value):Prop:=
 (env.kindOf x=some .local/\m x=some u)\/((env.kindOf x=some .cell\/env.kindOf x=some .free)/\∃c,env.cells.lookup x=some c/\h.IsCell c (some u))
structure Cx.Ok(X:Cx):Prop where
 mod:Mod X.K X.mg X.base
 kind:X.env.scope.kind=.function
 glob:X.env.globals=mainGlobals
 blt:X.env.builtins=builtinsNs
 above:X.s₀.heap.objs.size<=X.env.locals
 inj:∀x y c,X.env.cells.lookup x=some c->X.env.cells.lookup y=some c->x=y
 has:∀x,(X.env.kindOf x=some .cell\/X.env.kindOf x=some .free)->∃c,X.env.cells.lookup x=some c
 cab:∀x c,X.fn x=true->X.env.cells.lookup x=some c->X.s₀.heap.objs.size<=c
 hd:X.calm=true->X.A.handled=none
 frames:X.A.frames=some X.stack
 stk:X.stack=X.outer\/(X.stack=X.env::X.outer/\X.env.frame=some X.env.locals)
 exf:∀b∈X.ex,b≠X.env.locals/\∀x c,X.env.cells.lookup x=some c->c≠b
 bs:∀b o,X.base.get? b=some o->X.s₀.heap.get? b=some o/\X.H₀ b=none
 bsz:X.base.objs.size<=X.s₀.heap.objs.size
 noex:∀b o,X.base.get? b=some o->b∉X.ex
 exfs:∀b∈X.ex,b∉X.fs
 funs:X.s₀.heap.FunFrames X.base X.outer
 frf:∀b∈X.fs,X.H₀ b=none
structure Inv(X:Cx)(pins:List (Addr×Obj))(σ:List (Option V))(H:Hp)(s:Shared):Prop where
 ok:X.Ok
 os:s.os=X.s₀.os
 bare:AllBare s.gens
 base:Un X.fs X.ex X.H₀ H X.s₀.heap s.heap
 loc:∃m,s.heap.Ns X.env.locals m/\∀(i:Nat) (x:Str) (v:V),X.N[i]?=some x->σ[i]?=some (some v)->Vis X.env.scope x->∃u,RelV v u/\QnQ X.env s.heap m x u
 cell:∀x c,X.env.cells.lookup x=some c->∃v,s.heap.IsCell c v
 free:H X.env.locals=none
 freeC:∀x c,X.env.cells.lookup x=some c->H c=none
 pin:∀p∈X.pn++pins,s.heap.get? p.1=some p.2/\H p.1=none/\p.1≠X.env.locals/\p.1∉X.fs/\∀v,p.2.data≠.cell v
 hok:HOk X.prog X.w H s.heap
 len:σ.length=X.N.length
section
variable{X:Cx}{pins:List (Addr×Obj)}{σ:List (Option V)}{H H':Hp}{s:Shared}{h':Heap}
theorem Cx.Ok.nofr(ok:X.Ok){b:Addr}{o:Obj}(e:X.base.get? b=some o):b∉X.fs:=fun a=>by
 have:=(ok.funs.mem a).1;rw[e]at this;cases this
theorem Inv.bs(I:Inv X pins σ H s):∀b o,X.base.get? b=some o->s.heap.get? b=some o/\H b=none:=fun b o e=>
 ⟨I.base.keep b o (I.ok.bs b o e).1 (I.ok.bs b o e).2 (I.ok.nofr e) (I.ok.noex b o e),I.base.free b o (I.ok.bs b o e).1 (I.ok.bs b o e).2 (I.ok.noex b o e)⟩
theorem Inv.bk(I:Inv X pins σ H s):∀b o,X.base.get? b=some o->s.heap.get? b=some o:=fun b o e=>(I.bs b o e).1
theorem Inv.mod(I:Inv X pins σ H s):Mod X.K X.mg X.base:=I.ok.mod
theorem Inv.kIn(I:Inv X pins σ H s):X.K.In s.heap:=I.ok.mod.kin.keeps I.bk
theorem Inv.lt(I:Inv X pins σ H s):X.env.locals<s.heap.objs.size:=let⟨_,a,_⟩:=I.loc;a.lt
theorem Inv.sz(I:Inv X pins σ H s):X.s₀.heap.objs.size<=s.heap.objs.size:=Nr I.ok.above (NE I.lt)
theorem Inv.nofs(I:Inv X pins σ H s){a:Addr}(h:s.heap.objs.size<=a):a∉X.fs:=fun c=>by
 obtain⟨_,o,b,_⟩:=I.ok.funs.mem c;exact absurd (Nl (Nv b) (Nr I.sz h)) (Ex _)
theorem Inv.cne(I:Inv X pins σ H s):∀x c,X.env.cells.lookup x=some c->c≠X.env.locals:=fun x c e z=>by
 obtain⟨v,o,d,hd⟩:=I.cell x c e;obtain⟨m,⟨f,g,h,a,b,_⟩,_⟩:=I.loc;rw[z,a]at d;cases d;rw[b]at hd;cases hd
theorem Inv.funs(I:Inv X pins σ H s):s.heap.FunFrames X.base X.outer:=by
 have all:∀(l:List Env),(∀b∈frs l,b∈X.fs)->X.s₀.heap.FunFrames X.base l->s.heap.FunFrames X.base l:=by
  intro l
  induction l with
  |nil=>intro _ _;trivial
  |cons n r g=>
   intro f j;obtain⟨m,⟨L,o,a,i,h,hd⟩,hr⟩:=j;have d:L∈X.fs:=f L (by unfold frs;rw[Dx,a];exact Nx);obtain⟨p,e⟩:=I.base.slot L o h (I.ok.frf L d) d fun z=>I.ok.exfs L z d;exact⟨m,⟨L,_,a,i,e,hd⟩,g (fun b c=>f b (by unfold frs;rw[Dx,a];exact No _ c)) hr⟩
 exact all X.outer (fun _ c=>c) I.ok.funs
theorem Inv.stack(I:Inv X pins σ H s):s.heap.FunFrames X.base X.stack:=by
 rcases I.ok.stk with e|⟨e,b⟩
 ·rw[e];exact I.funs
 ·rw[e];obtain⟨m,a,_⟩:=I.loc;refine .cons (by rw[I.ok.kind];decide) b a ?_ I.funs;exact Heap.get?_none_of_le (Nr I.ok.bsz I.ok.above)
theorem Inv.stkSub(I:Inv X pins σ H s):∀b∈frs X.stack,b∈X.env.locals::X.fs:=fun b a=>by
 rcases I.ok.stk with e|⟨e,c⟩
 ·rw[e]at a;exact No _ a
 ·rw[e]at a;unfold frs at a;rw[Dx,c]at a;exact a
theorem Inv.stkFree(I:Inv X pins σ H s):∀b∈frs X.stack,H b=none:=fun b a=>by
 rcases NB.mp (I.stkSub b a)with e|a
 ·rw[e];exact I.free
 ·obtain⟨_,o,c,_⟩:=I.ok.funs.mem a;exact I.base.free b o c (I.ok.frf b a) fun z=>I.ok.exfs b z a
theorem Inv.step{g':Array GenState}{t':Nat}{d':Drawn}{ch:List Addr}(I:Inv X pins σ H s)
  (g:∀b∈ch,(b∈X.ex\/X.s₀.heap.objs.size<=b)/\b≠X.env.locals/\(∀x c,X.env.cells.lookup x=some c->c≠b)/\∀p∈X.pn++pins,p.1≠b)
  (keep:∀b o,b≠X.env.locals->b∉X.fs->b∉ch->s.heap.get? b=some o->H b=none->h'.get? b=some o)
  (slot:∀b o,b≠X.env.locals->b∈X.fs->b∉ch->s.heap.get? b=some o->H b=none->∃J,h'.get? b=some { o with slots:=J }) (free:∀b o,b∉ch->s.heap.get? b=some o->H b=none->H' b=none)
  (there:∀b o,b∉ch->s.heap.get? b=some o->∃o',h'.get? b=some o')
  (B:∀b xs,H b=some (.tup xs)->H' b=some (.tup xs)) (E:∀b o u,H b=some (.frz o u)->H' b=some (.frz o u)) (C:∀b ps,H b=some (.tbl ps)->∃more,H' b=some (.tbl (ps++more)))
  (ns:∀m,s.heap.Ns X.env.locals m->h'.Ns X.env.locals m) (L:HOk X.prog X.w H' h') (T:AllBare g') :
  Inv X pins σ H' { s with heap:=h',gens:=g',drawn:=d',toks:=t' }:=by
 have D:∀b o,X.s₀.heap.get? b=some o->b≠X.env.locals:=fun b o e=>NP (Nl (Nv e) I.ok.above)
 have j:∀b o,X.s₀.heap.get? b=some o->b∉X.ex->b∉ch:=fun b o e a y=>by
  rcases(g b y).1 with z|z
  ·exact a z
  ·exact absurd (Nl (Nv e) z) (Ex _)
 have h:∀x c,X.env.cells.lookup x=some c->∀v,s.heap.IsCell c v->h'.IsCell c v:=fun x c e v ⟨o,A,hd⟩=>by
  have f:c∉ch:=fun z=>(g c z).2.2.1 x c e rfl
  by_cases O:c∈X.fs
  ·obtain⟨J,q⟩:=slot c o (I.cne x c e) O f A (I.freeC x c e);exact⟨_,q,hd⟩
  ·exact⟨o,keep c o (I.cne x c e) O f A (I.freeC x c e),hd⟩
 refine⟨I.ok,I.os,T,⟨fun b o e n y a=>?_,fun b o e n y a=>?_,fun b o e n a=>?_,fun b o e a=>?_,fun b xs e=>B b xs (I.base.tups b xs e),fun b o xs e=>E b o xs (I.base.frzs b o xs e),fun b ps e=>?_⟩,?_,fun x c e=>?_,?_,fun x c e=>?_,fun p N=>?_,L,I.len⟩
 ·exact keep b o (D b o e) y (j b o e a) (I.base.keep b o e n y a) (I.base.free b o e n a)
 ·obtain⟨J,t⟩:=I.base.slot b o e n y a;obtain⟨G,F⟩:=slot b _ (D b o e) y (j b o e a) t (I.base.free b o e n a);exact⟨G,F⟩
 ·obtain⟨o',t⟩:=I.base.there b o e a;exact free b o' (j b o e a) t (I.base.free b o e n a)
 ·obtain⟨o',t⟩:=I.base.there b o e a;exact there b o' (j b o e a) t
 ·obtain⟨Q,t⟩:=I.base.tbls b ps e;obtain⟨P,F⟩:=C b _ t;exact⟨Q++P,by rw[F,Array.append_assoc]⟩
 ·obtain⟨m,R,S⟩:=I.loc;refine⟨m,ns m R,fun i x v t F U=>?_⟩;obtain⟨u,r,l⟩:=S i x v t F U;refine⟨u,r,?_⟩
  rcases l with l|⟨k,c,e,z⟩
  ·exact .inl l
  ·exact .inr ⟨k,c,e,h x c e _ z⟩
 ·obtain⟨v,z⟩:=I.cell x c e;exact⟨v,h x c e v z⟩
 ·obtain⟨m,⟨o,_,_,A,_⟩,_⟩:=I.loc;exact free _ o (fun z=>(g _ z).2.1 rfl) A I.free
 ·obtain⟨v,o,A,hd⟩:=I.cell x c e;exact free c o (fun z=>(g c z).2.2.1 x c e rfl) A (I.freeC x c e)
 ·obtain⟨e,n,ne,M,d⟩:=I.pin p N;have f:p.1∉ch:=fun z=>(g p.1 z).2.2.2 p N rfl;exact⟨keep p.1 p.2 ne M f e n,free p.1 p.2 f e n,ne,M,d⟩
theorem Inv.un{t':Nat}(I:Inv X pins σ H s)(u:Un X.fs [] H H' s.heap h')(c:HOk X.prog X.w H' h'):Inv X pins σ H' { s with heap:=h',toks:=t' }:=by
 obtain⟨m,⟨o,y,A,h,r⟩,_⟩:=id I.loc;obtain⟨p,l⟩:=u.any h I.free (by simp)
 exact I.step (g':=s.gens) (d':=s.drawn) (ch:=[]) (fun _ z=>nomatch z) (fun b o _ d _ e n=>u.keep b o e n d (by simp)) (fun b o _ d _ e n=>u.slot b o e n d (by simp)) (fun b o _ e n=>u.free b o e n (by simp)) (fun b o _ e=>u.there b o e (by simp)) u.tups u.frzs u.tbls (fun v j=>by
  obtain⟨t,f,g,a,i⟩:=j;rw[h]at a;cases a
  exact⟨_,f,g,l,i⟩) c I.bare
theorem Inv.call{g':Array GenState}{t':Nat}{d':Drawn}{ch:List Addr}(I:Inv X pins σ H s)(u:Un (frs X.stack) ch H H' s.heap h')(g:HOk X.prog X.w H' h')(y:AllBare g')
  (f:∀b∈ch,(b∈X.ex\/X.s₀.heap.objs.size<=b)/\b≠X.env.locals/\(∀x c,X.env.cells.lookup x=some c->c≠b)/\∀p∈X.pn++pins,p.1≠b) :
  Inv X pins σ H' { s with heap:=h',gens:=g',drawn:=d',toks:=t' }:=by
 obtain⟨m,⟨o,E,F,l,r⟩,_⟩:=id I.loc;obtain⟨B,h⟩:=u.any l I.free fun z=>(f _ z).2.1 rfl
 exact I.step (ch:=ch) f (fun b o h A a e n=>u.keep b o e n (fun z=>(NB.mp (I.stkSub b z)).elim h A) a) (fun b o _ _ a e n=>u.any e n a) (fun b o a e n=>u.free b o e n a) (fun b o a e=>u.there b o e a) u.tups u.frzs u.tbls (fun D v=>by
  obtain⟨C,i,j,d,t⟩:=v;rw[l]at d;cases d
  exact⟨_,i,j,h,t⟩) g y
theorem Inv.turned{t':Nat}{it:Addr}(I:Inv X pins σ H s)(k:∀b o,b≠it->s.heap.get? b=some o->h'.get? b=some o)(h:H it=none)(f:it≠X.env.locals)
  (w:it∈X.ex\/X.s₀.heap.objs.size<=it) (t:∀x c,X.env.cells.lookup x=some c->c≠it) (l:∀p∈X.pn++pins,p.1≠it):Inv X pins σ H { s with heap:=h',toks:=t' }:=by
 have d:∀b u,H b=some u->b≠it:=fun b u e z=>by rw[z,h]at e;cases e
 refine I.step (g':=s.gens) (d':=s.drawn) (ch:=[it]) (fun b j=>?_) (fun b o _ _ a e _=>k b o (fun z=>a (by simp[z])) e) (fun b o _ _ a e _=>⟨o.slots,k b o (fun z=>a (by simp[z])) e⟩) (fun _ _ _ _ n=>n)
  (fun b o a e=>⟨o,k b o (fun z=>a (by simp[z])) e⟩) (fun _ _ e=>e) (fun _ _ _ e=>e) (fun b ps e=>⟨#[],by rw[e];simp⟩) (fun m i=>?_) (fun b u e=>?_) I.bare
 ·have e:b=it:=by simpa using j
  subst e;exact⟨w,f,t,l⟩
 ·obtain⟨o,y,A,g,r⟩:=i;exact⟨o,y,A,k _ o (Da f) g,r⟩
 ·refine(I.hok b u e).stay (fun c v a q=>k c v ?_ q) (fun _ q=>q) fun _ _ q=>q
  rcases a with z|z
  ·rw[z];exact d b u e
  ·exact d c _ z
theorem Inv.tok(I:Inv X pins σ H s)(t:Nat):Inv X pins σ H { s with toks:=t }:=I.un (h':=s.heap) (t':=t) Un.refl I.hok
theorem Inv.kept{t':Nat}(I:Inv X pins σ H s)(k:∀b u,s.heap.get? b=some u->h'.get? b=some u):Inv X pins σ H { s with heap:=h',toks:=t' }:=I.un (Un.kept k) (I.hok.kept k)
theorem Inv.laid{a:Addr}{o:HO}{t':Nat}(I:Inv X pins σ H s)(k:∀b u,s.heap.get? b=some u->h'.get? b=some u)(c:s.heap.objs.size<=a)(new:ObjOk X.prog X.w (upd H a o) h' a o) :
  Inv X pins σ (upd H a o) { s with heap:=h',toks:=t' }:=I.un (Un.laid k c (I.hok.fresh c)) (I.hok.laid k c new)
theorem Inv.write{x e:Addr}{o:HO}{t':Nat}(I:Inv X pins σ H s)(c:Mut (H x))(d:e=x\/H e=some (.own x))(k:∀b u,b≠e->s.heap.get? b=some u->h'.get? b=some u)(a:∃u,h'.get? e=some u)
  (new:ObjOk X.prog X.w (upd H x o) h' x o):Inv X pins σ (upd H x o) { s with heap:=h',toks:=t' }:=I.un (Un.write c d k a) (I.hok.write c d k a new)
theorem Inv.pins_of{pins':List (Addr×Obj)}(I:Inv X pins σ H s)(h:∀p∈pins',s.heap.get? p.1=some p.2/\H p.1=none/\p.1≠X.env.locals/\p.1∉X.fs/\∀v,p.2.data≠.cell v):Inv X pins' σ H s:=
 ⟨I.ok,I.os,I.bare,I.base,I.loc,I.cell,I.free,I.freeC,fun p a=>(NQ.mp a).elim (fun z=>I.pin p (N2 _ z)) (h p),I.hok,I.len⟩
theorem QaU{N:List Str}(hN:N.Nodup){i j:Nat}{x:Str}(a:N[i]?=some x)(b:N[j]?=some x):i=j:=by
 obtain⟨f,d⟩:=Ng.mp a;obtain⟨e,c⟩:=Ng.mp b;exact(Iz hN).mp (d.trans c.symm)
theorem UV{M:Model}{A:Around}{E:Value->Shared->Prop}{i:Nat}{x:Str}{v:V}{u:Value}{Q:Unit->Shared->Prop}(I:Inv X pins σ H s)(hN:X.N.Nodup)(S:X.N[i]?=some x)(B:Loc X.env.scope x)(r:RelV v u)
  (h:∀s',Inv X pins (σ.set i (some v)) H s'->(∃a,Heap.SameBut a s.heap s'.heap/\(a=X.env.locals\/X.env.cells.lookup x=some a))->Q () s') (hf:X.fn x=true\/X.env.scope.names.lookup x=some .local:=by first|exact .inl rfl|exact .inr rfl|assumption):wpAny M A (storeName X.env x u) Q E s:=by
 obtain⟨m,hn,hl⟩:=id I.loc;have T:(X.env.scope.kind==.class ||(X.env.scope.kind==.module&&X.env.locals != X.env.globals))=false:=by rw[I.ok.kind];rfl
 have G:i<σ.length:=by rw[I.len];exact(Ng.mp S).1
 have cne:=I.cne
 have g:∀{a:Addr} {h':Heap},(∃o,s.heap.get? a=some o/\H a=none)->Heap.SameBut a s.heap h'->HOk X.prog X.w H h':=fun {a h'} ha f b ob e=>by
  obtain⟨_,_,C⟩:=ha;refine(I.hok b ob e).stay (fun c Z t q=>(f.2 c ?_).trans q) (fun _ q=>q) fun _ _ q=>q
  rintro rfl
  rcases t with rfl|t
  ·rw[C]at e;cases e
  ·rw[C]at t;cases t
 rcases B with F|F
 ·refine wpAny_storeName_local F hn (fun h' ab f=>?_) T;obtain⟨oL,_,_,aa,_⟩:=id hn;refine h _ ⟨I.ok,I.os,I.bare,⟨fun b o e n O B=>?_,fun b o e n O B=>?_,I.base.free,fun b o e B=>?_,I.base.tups,I.base.frzs,I.base.tbls⟩,⟨_,ab,fun j y v' l D e3=>?_⟩,fun y c e=>?_,I.free,I.freeC,fun p hp=>?_,g ⟨oL,aa,I.free⟩ f,by simpa using I.len⟩ ⟨_,f,.inl rfl⟩
  ·exact(f.2 b (NP (Nl (Nv e) I.ok.above))).trans (I.base.keep b o e n O B)
  ·obtain⟨sl,l⟩:=I.base.slot b o e n O B;exact⟨sl,(f.2 b (NP (Nl (Nv e) I.ok.above))).trans l⟩
  ·obtain⟨o',l⟩:=I.base.there b o e B;exact⟨o',(f.2 b (NP (Nl (Nv e) I.ok.above))).trans l⟩
  ·by_cases J:j=i
   ·subst J;rw[S]at l;cases l;rw[Ez G]at D;cases D;exact⟨u,r,.inl ⟨F,by simp⟩⟩
   ·rw[Dr (Da J)]at D;obtain⟨u',r',q⟩:=hl j y v' l D e3;refine⟨u',r',?_⟩
    rcases q with⟨k,e⟩|⟨k,c,e,z⟩
    ·refine .inl ⟨k,?_⟩;have:y≠x:=fun e=>J (QaU hN l (e▸S));simp[this,e]
    ·exact .inr ⟨k,c,e,z.sameBut f (cne y c e)⟩
  ·obtain⟨Z,z⟩:=I.cell y c e;exact⟨Z,z.sameBut f (cne y c e)⟩
  ·obtain⟨e,n,ne,nf,d⟩:=I.pin p hp;exact⟨(f.2 p.1 ne).trans e,n,ne,nf,d⟩
 ·have L:X.fn x=true:=by
   rcases hf with z|z
   ·exact z
   ·rw[z]at F;cases F
  obtain⟨c,t⟩:=I.ok.has x (.inl F);obtain⟨Z,z⟩:=I.cell x c t;refine wpAny_storeName_cell I.ok.kind F t z (fun h' Y f=>?_);obtain⟨oc,R,P⟩:=id z;refine h { s with heap:=h' } ⟨I.ok,I.os,I.bare,⟨fun b o e n O B=>?_,fun b o e n O B=>?_,I.base.free,fun b o e B=>?_,I.base.tups,I.base.frzs,I.base.tbls⟩,⟨m,hn.sameBut f (Da (cne x c t)),fun j y v' l D e3=>?_⟩,fun y c' e=>?_,I.free,I.freeC,fun p hp=>?_,g ⟨oc,R,I.freeC x c t⟩ f,by simpa using I.len⟩ ⟨c,f,.inr t⟩
  ·exact(f.2 b (NP (Nl (Nv e) (I.ok.cab x c L t)))).trans (I.base.keep b o e n O B)
  ·obtain⟨sl,l⟩:=I.base.slot b o e n O B;exact⟨sl,(f.2 b (NP (Nl (Nv e) (I.ok.cab x c L t)))).trans l⟩
  ·obtain⟨o',l⟩:=I.base.there b o e B;exact⟨o',(f.2 b (NP (Nl (Nv e) (I.ok.cab x c L t)))).trans l⟩
  ·by_cases J:j=i
   ·subst J;rw[S]at l;cases l;rw[Ez G]at D;cases D;exact⟨u,r,.inr ⟨.inl F,c,t,Y⟩⟩
   ·rw[Dr (Da J)]at D;obtain⟨u',r',q⟩:=hl j y v' l D e3;refine⟨u',r',?_⟩
    rcases q with q|⟨k,c',e,z'⟩
    ·exact .inl q
    ·refine .inr ⟨k,c',e,z'.sameBut f ?_⟩
     rintro rfl
     exact J (QaU hN l (I.ok.inj _ _ _ e t▸S))
  ·by_cases U:c'=c
   ·subst U;exact⟨_,Y⟩
   ·obtain⟨w2,z2⟩:=I.cell y c' e;exact⟨w2,z2.sameBut f U⟩
  ·obtain⟨e,n,ne,nf,d⟩:=I.pin p hp;refine⟨(f.2 p.1 ?_).trans e,n,ne,nf,d⟩;intro q;rw[q,R]at e;have q':oc=p.2:=N1 e;exact d Z (by rw[<-q'];exact P)
theorem W7{M:Model}{A:Around}{E:Value->Shared->Prop}{i:Nat}{x:Str}{v:V}{u:Value}{Q:Unit->Shared->Prop}(I:Inv X pins σ H s)(hN:X.N.Nodup)(c:X.N[i]?=some x)(b:Loc X.env.scope x)(r:RelV v u)
  (h:∀a,Inv X pins (σ.set i (some v)) H a->Q () a) (d:X.fn x=true\/X.env.scope.names.lookup x=some .local:=by first|exact .inl rfl|exact .inr rfl|assumption):wpAny M A (storeName X.env x u) Q E s:=
 UV I hN c b r (fun a e _=>h a e) d
theorem Inv.call'{a:Shared}{ch:List Addr}(I:Inv X pins σ H s)(l:a.os=s.os)(u:Un (frs X.stack) ch H H' s.heap a.heap)(d:HOk X.prog X.w H' a.heap)(m:AllBare a.gens)
  (f:∀b∈ch,(b∈X.ex\/X.s₀.heap.objs.size<=b)/\b≠X.env.locals/\(∀x c,X.env.cells.lookup x=some c->c≠b)/\∀p∈X.pn++pins,p.1≠b):Inv X pins σ H' a:=by
 obtain⟨h',h,i,g,j⟩:=a;have e:j=s.os:=l;subst e;exact I.call (g':=h) (t':=g) (d':=i) u d m f
end
noncomputable abbrev XK:=Value->Option Addr->Hp->Prop
noncomputable abbrev St:=List (Option V)
noncomputable abbrev VK:=V->Hp->Prop
noncomputable abbrev TE:=St->Hp->VK->Prop
noncomputable abbrev TT:=St->Hp->(Bool->Hp->Prop)->Prop
noncomputable abbrev TA:=St->Hp->(List V->Hp->Prop)->Prop
structure Ends where
 nx:St->Hp->Prop
 rt:VK
 bk:St->Hp->Prop:=fun _ _=>False
 ct:St->Hp->Prop:=fun _ _=>False
noncomputable abbrev TS:=Ends->St->Hp->Prop
def EP(X:Cx)(a:List (Addr×Obj))(σ:St)(Q:VK)(u:Value)(c:Shared):Prop:=∃v b,Inv X a σ b c/\RelV v u/\Q v b
def TP(X:Cx)(a:List (Addr×Obj))(σ:St)(Q:Bool->Hp->Prop)(b:Bool)(d:Shared):Prop:=∃c,Inv X a σ c d/\Q b c
def AP(X:Cx)(a:List (Addr×Obj))(σ:St)(Q:List V->Hp->Prop)(us:List Value)(d:Shared):Prop:=∃b c,Inv X a σ c d/\Vals b us/\Q b c
def SP(X:Cx)(b:List (Addr×Obj))(D:Ends)(f:Flow)(d:Shared):Prop:=
 match f with
 |.next=>∃a c,Inv X b a c d/\D.nx a c
 |.brk=>∃a c,Inv X b a c d/\D.bk a c
 |.cont=>∃a c,Inv X b a c d/\D.ct a c
 |.ret u=>∃v a c,Inv X b a c d/\RelV v u/\D.rt v c
def PE(X:Cx)(e:Expr)(t:TE):Prop:=
 ∀(a:List (Addr×Obj)) (s:Shared) (b:St) (H:Hp) (Q:VK),Inv X a b H s->t b H Q->wpAny (model X.prog X.w) X.A (eval e X.env) (EP X a b Q) X.xe s
def PT(X:Cx)(e:Expr)(t:TT):Prop:=
 ∀(a:List (Addr×Obj)) (s:Shared) (b:St) (H:Hp) (Q:Bool->Hp->Prop),Inv X a b H s->t b H Q->wpAny (model X.prog X.w) X.A (isTrue e X.env (eval e X.env)) (TP X a b Q) X.xe s
def PW(X:Cx)(e:Expr)(t:TT):Prop:=
 ∀(whole:Sem Value) (a:List (Addr×Obj)) (s:Shared) (b:St) (H:Hp) (Q:Bool->Hp->Prop),Inv X a b H s->t b H Q->wpAny (model X.prog X.w) X.A (isTrue e X.env whole) (TP X a b Q) X.xe s
theorem PW.pt{X:Cx}{e:Expr}{t:TT}(h:PW X e t):PT X e t:=h _
def PA(X:Cx)(es:List Expr)(t:TA):Prop:=
 ∀(pos:Pos) (a:List (Addr×Obj)) (s:Shared) (b:St) (H:Hp) (Q:List V->Hp->Prop),Inv X a b H s->t b H Q->wpAny (model X.prog X.w) X.A (spliced (backTo pos (starEach es X.env))) (AP X a b Q) X.xe s
def PS(X:Cx)(st:Stmt)(t:TS):Prop:=
 ∀(a:List (Addr×Obj)) (s:Shared) (b:St) (H:Hp) (D:Ends),Inv X a b H s->t D b H->wpAny (model X.prog X.w) X.A (exec st X.env) (SP X a D) X.xe s
def PSs(X:Cx)(st:List Stmt)(t:TS):Prop:=
 ∀(a:List (Addr×Obj)) (s:Shared) (b:St) (H:Hp) (D:Ends),Inv X a b H s->t D b H->wpAny (model X.prog X.w) X.A (execs st X.env) (SP X a D) X.xe s
theorem thn{b:Type}{t:Sem b}{Q Q':b->Shared->Prop}{M:Model}{A:Around}{E:Value->Shared->Prop}{s:Shared}(h:wpAny M A t Q E s)(c:∀a s,Q a s->Q' a s):wpAny M A t Q' E s:=NZ h c fun _ _ x=>x
section
variable{X:Cx}
theorem bin{a b:Expr}{n m:TE}(D:PE X a n)(C:PE X b m){c:List (Addr×Obj)}{s:Shared}{σ:St}{H:Hp}{R:V->V->Hp->Prop}(I:Inv X c σ H s)(h:n σ H fun x j=>m σ j fun y d=>R x y d)
  {l:Type} {Q:l->Shared->Prop} {f:Value->Value->Sem l}
  (B:∀v u i x y d,Inv X c σ d i->RelV x v->RelV y u->R x y d->wpAny (model X.prog X.w) X.A (f v u) Q X.xe i) :
  wpAny (model X.prog X.w) X.A (eval a X.env) (fun v g=>wpAny (model X.prog X.w) X.A (eval b X.env) (fun u e=>wpAny (model X.prog X.w) X.A (f v u) Q X.xe e) X.xe g) X.xe s:=by
 refine thn (D c s σ H _ I h) fun v o ⟨x,j,I1,r,z⟩=>?_;refine thn (C c o σ j _ I1 z) fun u i ⟨y,d,I2,p,t⟩=>?_;exact B v u i x y d I2 r p t
noncomputable def Qok(i:Nat):TE:=fun a H Q=>∃v,a[i]?=some (some v)/\Q v H
noncomputable def tC(v:V):TE:=fun _ H Q=>Q v H
theorem QjK{i:Nat}{x:Str}{pos:Pos}(hN:X.N[i]?=some x)(n:Vis X.env.scope x)(hd:(x==("__debug__":Str))=false:=by decide)(f:(x==("__classdict__":Str))=false:=by decide):PE X (.Name x pos) (Qok i):=by
 intro d s j H Q I h;obtain⟨v,e,h⟩:=h;obtain⟨m,o,t⟩:=I.loc;obtain⟨u,r,l⟩:=t i x v hN e n;have fin:EP X d j Q u s:=⟨v,H,I,r,h⟩
 rcases l with⟨b,p⟩|⟨b,c,g,a⟩
 ·exact OI (Lw I.ok.kind b o p fin) hd
 ·rcases b with b|b
  ·exact OI (LL I.ok.kind b g a fin) hd
  ·exact OI (wpAny_loadName_free I.ok.kind b g a fin f) hd
theorem Qi9{i j pos}:PE X (.Constant (.int i) j pos) (tC (.int i)):=fun _ _ _ H _ I h=>wpAny_Constant_int ⟨.int i,H,I.tok _,⟨_,rfl⟩,h⟩
theorem Qmo{b j pos}:PE X (.Constant (.bool b) j pos) (tC (.bl b)):=fun _ _ _ H _ I h=>Constant_bool ⟨.bl b,H,I,rfl,h⟩
theorem Qjs{j pos}:PE X (.Constant .none j pos) (tC .non):=fun _ _ _ H _ I h=>Constant_none ⟨.non,H,I,rfl,h⟩
theorem QkK{x j pos}:PE X (.Constant (.str x) j pos) (tC (.str x)):=fun _ _ _ H _ I h=>Calls.Constant_str ⟨.str x,H,I.tok _,⟨_,rfl⟩,h⟩
def Gl(X:Cx)(x:Str):Prop:=X.env.kindOf x=some .globalImplicit
theorem QbY{E:Value->Shared->Prop}{a:List (Addr×Obj)}{s:Shared}{σ:St}{H:Hp}{x:Str}{u:Value}{pos:Pos}{Q:Value->Shared->Prop}(I:Inv X a σ H s)(c:Gl X x)(b:X.mg x=some u)(h:Q u s)
  (hd:(x==("__debug__":Str))=false:=by decide):wpAny (model X.prog X.w) X.A (eval (.Name x pos) X.env) Q E s:=
 F8 I.ok.kind c (Calls.loadGlobal_global (by rw[I.ok.glob];exact I.mod.glob.keeps I.bk) b h) hd
theorem J1{E:Value->Shared->Prop}{a:List (Addr×Obj)}{s:Shared}{σ:St}{H:Hp}{x:Str}{u:Value}{pos:Pos}{Q:Value->Shared->Prop}(I:Inv X a σ H s)(e:Gl X x)(d:X.mg x=none)(b:bootBuiltins x=some u)(h:Q u s)
  (c:x≠"__name__":=by decide) (hd:(x==("__debug__":Str))=false:=by decide):wpAny (model X.prog X.w) X.A (eval (.Name x pos) X.env) Q E s:=by
 obtain⟨i,g,f⟩:=I.mod.blt;exact F8 I.ok.kind e (Calls.loadGlobal_builtin (by rw[I.ok.glob];exact I.mod.glob.keeps I.bk) d (by rw[I.ok.blt];exact g.keeps I.bk) ((f x c).trans b) h) hd
theorem Go{x:Str}{v:V}{u:Value}{pos:Pos}(b:Gl X x)(a:X.mg x=some u)(r:RelV v u)(hd:(x==("__debug__":Str))=false:=by decide):PE X (.Name x pos) (tC v):=
 fun _ _ _ H _ I h=>QbY I b a ⟨v,H,I,r,h⟩ hd
theorem Qgy{x:Str}{v:V}{u:Value}{pos:Pos}(d:Gl X x)(c:X.mg x=none)(a:bootBuiltins x=some u)(r:RelV v u)(b:x≠"__name__":=by decide)(hd:(x==("__debug__":Str))=false:=by decide):PE X (.Name x pos) (tC v):=
 fun _ _ _ H _ I h=>J1 I d c a ⟨v,H,I,r,h⟩ b hd
variable{a b:Expr}{ta tb:TE}{pos:Pos}
variable{tA tB':TT}{rest:List Expr}
noncomputable def Qm3(t u:TT):TT:=fun d H Q=>t d H fun c e=>if c=true then u d e Q else Q false e
noncomputable def tOr(t u:TT):TT:=fun d H Q=>t d H fun c e=>if c=true then Q true e else u d e Q
noncomputable def Qop(t:TT):TT:=fun d H Q=>t d H fun c e=>Q (!c) e
theorem Qh7(g:PT X a tA):PW X (.BoolOp .And [a] pos) tA:=by
 intro i d s f H Q I h;refine isTrue_and (thn (g d s f H Q I h) fun c j e=>?_);cases c with
 |true=>exact isTrue_and_nil e
 |false=>exact e
theorem Qi7(g:PT X a tA):PW X (.BoolOp .Or [a] pos) tA:=by
 intro i d s f H Q I h;refine isTrue_or (thn (g d s f H Q I h) fun c j e=>?_);cases c with
 |false=>exact isTrue_or_nil e
 |true=>exact e
theorem Qki(m:PT X a tA)(l:PW X (.BoolOp .And (b::rest) pos) tB'):PW X (.BoolOp .And (a::b::rest) pos) (Qm3 tA tB'):=by
 intro i d s e H Q I h;refine isTrue_and (thn (m d s e H _ I h) fun c j ⟨g,I1,f⟩=>?_);cases c with
 |true=>exact l i d j e g Q I1 f
 |false=>exact⟨g,I1,f⟩
theorem Qly(m:PT X a tA)(l:PW X (.BoolOp .Or (b::rest) pos) tB'):PW X (.BoolOp .Or (a::b::rest) pos) (tOr tA tB'):=by
 intro i d s e H Q I h;refine isTrue_or (thn (m d s e H _ I h) fun c j ⟨g,I1,f⟩=>?_);cases c with
 |true=>exact⟨g,I1,f⟩
 |false=>exact l i d j e g Q I1 f
theorem Qkz(f:PT X a tA):PT X (.UnaryOp .Not a pos) (Qop tA):=by
 intro d s e H Q I h;exact isTrue_not (f d s e H (fun c g=>Q (!c) g) I h)
noncomputable def QlR(ta tb:TE):TE:=fun d H Q=>ta d H fun x e=>∃c,x=.bl c/\if c=true then tb d e Q else Q (.bl false) e
theorem Qj9{op}{t:TE}(h:PE X a t):PE X (.BoolOp op [a] pos) t:=fun c s d H Q I hw=>BoolOp_one (h c s d H Q I hw)
theorem QkO(m:PE X a ta)(l:PE X (.BoolOp .And (b::rest) pos) tb):PE X (.BoolOp .And (a::b::rest) pos) (QlR ta tb):=by
 intro d s f H Q I h;refine BoolOp_and (thn (m d s f H _ I h) fun v i ⟨x,g,I1,j,e⟩=>?_);obtain⟨c,rfl,e⟩:=e;cases j;refine EY ?_;cases c with
 |true=>exact l d i f g Q I1 e
 |false=>exact⟨.bl false,g,I1,rfl,e⟩
noncomputable def tIf(t:TT)(ta tb:TE):TE:=fun d H Q=>t d H fun c e=>if c=true then ta d e Q else tb d e Q
theorem Qem{c:Expr}(l:PT X c tA)(n:PE X a ta)(m:PE X b tb):PE X (.IfExp c a b pos) (tIf tA ta tb):=by
 intro e s f H Q I h;refine wpAny_IfExp (thn (l e s f H _ I h) fun d g ⟨j,I1,i⟩=>?_);cases d with
 |true=>exact n e g f j Q I1 i
 |false=>exact m e g f j Q I1 i
end
def SqL(K:Nd)(H:Hp)(a:Addr)(xs:List V):Prop:=
 Rd H a (.lst xs) \/
  ∃(o:Obj) (b:Array Value) (n:Nat),K.lookup a=some o/\o.cls=.type "list"/\o.dict=none/\o.data=.seq b n/\b.size<=sizeLine/\Vals xs b.toList
def SqT(K:Nd)(H:Hp)(a:Addr)(xs:List V):Prop:=
 Rd H a (.tup xs) \/
  ∃(o:Obj) (b:Array Value) (n:Nat),K.lookup a=some o/\o.cls=.type "tuple"/\o.data=.seq b n/\b.size<=sizeLine/\Vals xs b.toList
noncomputable def QnN:Value->Option V
 |.none=>some .non
 |.bool b=>some (.bl b)
 |.int i _=>some (.int i)
 |.str x _=>some (.str x)
 |.bytes b _=>some (.byt b)
 |.float b _=>some (.flt b)
 |.ref a=>some (.ref a)
 |.type n=>some (.ty n)
 |_=>none
theorem RelV.abs{x:V}{u:Value}(r:RelV x u):QnN u=some x:=by
 cases x with
 |non=>cases r;rfl
 |bl _=>cases r;rfl
 |int _=>obtain⟨t,rfl⟩:=r;rfl
 |str _=>obtain⟨t,rfl⟩:=r;rfl
 |byt _=>obtain⟨t,rfl⟩:=r;rfl
 |flt _=>obtain⟨t,rfl⟩:=r;rfl
 |ref _=>cases r;rfl
 |ty _=>cases r;rfl
theorem RelV.inj{x y:V}{u:Value}(r:RelV x u)(q:RelV y u):x=y:=N1 (r.abs.symm.trans q.abs)
theorem Vals.inj:∀{xs ys:List V} {us:List Value},Vals xs us->Vals ys us->xs=ys
 |_,_,_,.nil,.nil=>rfl
 |_,_,_,.cons r t,.cons a t'=>by rw[r.inj a,Vals.inj t t']
section
variable{X:Cx}{pins:List (Addr×Obj)}{σ:St}{H:Hp}{s:Shared}{a:Addr}{xs ys:List V}
theorem SqL.of{K:Nd}(h:H a=some (.lst xs)):SqL K H a xs:=.inl (.inl h)
theorem SqT.of{K:Nd}(h:H a=some (.tup xs)):SqT K H a xs:=.inl (.inl h)
theorem Inv.list(I:Inv X pins σ H s)(h:SqL X.K H a xs):∃b:List Value,Vals xs b/\PlainL s.heap a b.toArray/\xs.length<=sizeLine:=by
 rcases h with h|⟨o,b,n,d,f,hd,c,g,r⟩
 ·obtain⟨z,b,n,r,e⟩:=h.ok I.hok;exact⟨b,r,⟨_,n,e,rfl,rfl,rfl⟩,z⟩
 ·refine⟨b.toList,r,⟨o,n,I.kIn a o d,f,hd,by simpa using c⟩,?_⟩;have e:=r.length;simp only[ND]at e;omega
theorem Inv.tuple(I:Inv X pins σ H s)(h:SqT X.K H a xs):∃b:List Value,Vals xs b/\IsTup s.heap a b.toArray/\xs.length<=sizeLine:=by
 rcases h with h|⟨o,b,n,d,f,c,g,r⟩
 ·obtain⟨z,b,r,p⟩:=h.ok I.hok;exact⟨b,r,p,z⟩
 ·refine⟨b.toList,r,⟨o,I.kIn a o d,f,n,by simpa using c⟩,?_⟩;have e:=r.length;simp only[ND]at e;omega
theorem Inv.list_inj(I:Inv X pins σ H s)(h:SqL X.K H a xs)(h':SqL X.K H a ys):xs=ys:=by
 obtain⟨c,r,⟨o,n,e,_,_,d⟩,_⟩:=I.list h;obtain⟨b,i,⟨l,m,f,_,_,g⟩,_⟩:=I.list h';rw[e]at f;cases f;rw[d]at g;injection g with j _
 have:c=b:=by simpa using congrArg Array.toList j
 subst this;exact r.inj i
theorem Inv.tuple_inj(I:Inv X pins σ H s)(h:SqT X.K H a xs)(h':SqT X.K H a ys):xs=ys:=by
 obtain⟨c,r,⟨o,e,_,n,d⟩,_⟩:=I.tuple h;obtain⟨b,i,⟨l,f,_,m,g⟩,_⟩:=I.tuple h';rw[e]at f;cases f;rw[d]at g;injection g with j _
 have:c=b:=by simpa using congrArg Array.toList j
 subst this;exact r.inj i
end
noncomputable abbrev Cx.wish(X:Cx)(E:Value->Shared->Prop):Cx:={ X with xe:=E }
noncomputable abbrev Cx.nox(X:Cx):Cx:=X.wish fun _ _=>False
theorem Cx.Ok.wish{X:Cx}(ok:X.Ok)(E:Value->Shared->Prop):(X.wish E).Ok:=
 ⟨ok.mod,ok.kind,ok.glob,ok.blt,ok.above,ok.inj,ok.has,ok.cab,ok.hd,ok.frames,ok.stk,ok.exf,ok.bs,ok.bsz,ok.noex,ok.exfs,ok.funs,ok.frf⟩
theorem Cx.Ok.unwish{X:Cx}{E:Value->Shared->Prop}(ok:(X.wish E).Ok):X.Ok:=
 ⟨ok.mod,ok.kind,ok.glob,ok.blt,ok.above,ok.inj,ok.has,ok.cab,ok.hd,ok.frames,ok.stk,ok.exf,ok.bs,ok.bsz,ok.noex,ok.exfs,ok.funs,ok.frf⟩
section
variable{X:Cx}{pins:List (Addr×Obj)}{σ:St}{H:Hp}{s:Shared}{E:Value->Shared->Prop}
theorem Inv.wish(I:Inv X pins σ H s)(E:Value->Shared->Prop):Inv (X.wish E) pins σ H s:=⟨I.ok.wish E,I.os,I.bare,I.base,I.loc,I.cell,I.free,I.freeC,I.pin,I.hok,I.len⟩
theorem Inv.unwish(I:Inv (X.wish E) pins σ H s):Inv X pins σ H s:=⟨I.ok.unwish,I.os,I.bare,I.base,I.loc,I.cell,I.free,I.freeC,I.pin,I.hok,I.len⟩
theorem SP.unwish{D:Ends}{f:Flow}{c:Shared}(h:SP (X.wish E) pins D f c):SP X pins D f c:=by
 cases f with
 |next=>obtain⟨a,b,I,q⟩:=h;exact⟨a,b,I.unwish,q⟩
 |brk=>obtain⟨a,b,I,q⟩:=h;exact⟨a,b,I.unwish,q⟩
 |cont=>obtain⟨a,b,I,q⟩:=h;exact⟨a,b,I.unwish,q⟩
 |ret u=>obtain⟨v,a,b,I,r,q⟩:=h;exact⟨v,a,b,I.unwish,r,q⟩
theorem PSs.nox{st:List Stmt}{t:TS}(h:PSs X.nox st t):PSs X st t:=fun pins s σ H D I hw=>
 NZ (h pins s σ H D (I.wish _) hw) (fun _ _ q=>q.unwish) fun _ _ z=>False.elim z
end
section
variable{X:Cx}{st:Stmt}{rest:List Stmt}{t u:TS}{e:Expr}{te:TE}{pos:Pos}
noncomputable def QlU:TS:=fun D a H=>D.nx a H
noncomputable def QmM(t u:TS):TS:=fun D a H=>t { D with nx:=u D } a H
theorem Qim:PSs X [] QlU:=fun _ _ a H _ I h=>IQ ⟨a,H,I,h⟩
theorem Qef(i:PS X st t)(g:PSs X rest u):PSs X (st::rest) (QmM t u):=by
 intro a s c H D I h;refine wpAny_execs_cons (thn (i a s c H { D with nx:=u D } I h) fun f d q=>?_);cases f with
 |next=>
  obtain⟨b,l,j,q⟩:=q;exact g a d b l D j q
 |ret v=>exact q
 |brk=>exact q
 |cont=>exact q
theorem Qhi(c:PS X st t):PSs X [st] t:=by
 intro a s b H D I h;refine wpAny_execs_cons (thn (c a s b H D I h) fun f d q=>?_);cases f with
 |next=>exact IQ q
 |ret v=>exact q
 |brk=>exact q
 |cont=>exact q
theorem Inv.quiet{a:List (Addr×Obj)}{σ:St}{H:Hp}{s:Shared}(I:Inv X a σ H s):interactive X.env=false:=by simp[interactive,I.ok.kind]
noncomputable def Qmv(te:TE):TS:=fun D a H=>te a H fun _ b=>D.nx a b
theorem Qhd(f:PE X e te)(d:swapsWith e none pos.line X.env=pure false:=by rfl):PS X (.Expr e pos) (Qmv te):=by
 intro a s b H D I h;exact wpAny_Expr_any (thn (f a s b H _ I h) fun v i ⟨x,g,I1,j,c⟩=>⟨b,g,I1,c⟩) I.quiet d
noncomputable def Qo5(te:TE):TS:=fun D a H=>te a H D.rt
theorem QiM(f:PE X e te):PS X (.Return (some e) pos) (Qo5 te):=by
 intro a s b H D I h;exact wpAny_Return_some (thn (f a s b H _ I h) fun v i ⟨x,g,I1,c,d⟩=>⟨x,b,g,I1,c,d⟩)
noncomputable def QnR(c:TT)(t u:TS):TS:=fun D a H=>c a H fun b d=>if b=true then t D a d else u D a d
theorem Qms{c:Expr}{a b:List Stmt}{i:TT}(n:PT X c i)(p:PSs X a t)(o:PSs X b u):PS X (.If c a b pos) (QnR i t u):=by
 intro f s g H D I h;refine wpAny_If (thn (n f s g H _ I h) fun d j ⟨m,I1,l⟩=>?_);cases d with
 |true=>exact p f j g m D I1 l
 |false=>exact o f j g m D I1 l
end
noncomputable abbrev TG:=V->St->Hp->(St->Hp->Prop)->Prop
noncomputable abbrev TGs:=List V->St->Hp->(St->Hp->Prop)->Prop
def PG(X:Cx)(target:Expr)(t:TG):Prop:=
 ∀(a:List (Addr×Obj)) (s:Shared) (c:St) (H:Hp) (v:V) (u:Value) (Q:St->Hp->Prop),Inv X a c H s->RelV v u->t v c H Q ->
  wpAny (model X.prog X.w) X.A (assign target X.env u) (fun _ e=>∃b d,Inv X a b d e/\Q b d) X.xe s
def PGs(X:Cx)(g:List Expr)(t:TGs):Prop:=
 ∀(a:List (Addr×Obj)) (s:Shared) (c:St) (H:Hp) (d:List V) (e:List Value) (Q:St->Hp->Prop),Inv X a c H s->Vals d e->t d c H Q ->
  wpAny (model X.prog X.w) X.A (assignInOrder ((assignEach g X.env).map (·.2)) e) (fun _ h=>∃b f,Inv X a b f h/\Q b f) X.xe s
noncomputable abbrev Qmn:=V->V->V->Hp->(Hp->Prop)->Prop
def Qni(X:Cx)(t:Qmn):Prop:=
 ∀(a:List (Addr×Obj)) (s:Shared) (b:St) (H:Hp) (o i v:V) (c d u:Value) (Q:Hp->Prop),Inv X a b H s->RelV o c->RelV i d->RelV v u->t o i v H Q ->
  wpAny (model X.prog X.w) X.A (setItem c d u) (fun _ f=>∃e,Inv X a b e f/\Q e) X.xe s
noncomputable abbrev TIp:=V->V->Hp->VK->Prop
def PIp(X:Cx)(op:Operator)(t:TIp):Prop:=
 ∀(a:List (Addr×Obj)) (s:Shared) (b:St) (H:Hp) (x y:V) (v u:Value) (Q:VK),Inv X a b H s->RelV x v->RelV y u->t x y H Q ->
  wpAny (model X.prog X.w) X.A (inplaceOp op v u) (EP X a b Q) X.xe s
section
variable{X:Cx}{pos:Pos}
noncomputable def QbX(i:Nat):TG:=fun v a H Q=>Q (a.set i (some v)) H
theorem Qdu{i:Nat}{x:Str}(hN:X.N.Nodup)(c:X.N[i]?=some x)(b:Loc X.env.scope x)(d:X.fn x=true\/X.env.scope.names.lookup x=some .local:=by first|exact .inl rfl|exact .inr rfl|assumption):PG X (.Name x pos) (QbX i):=by
 intro a s f H v u Q I r h;exact L9 (W7 I hN c b r (fun g e=>⟨_,H,e,h⟩) d)
noncomputable def Qne:TGs:=fun b a H Q=>b=[]/\Q a H
noncomputable def Qjz(t:TG)(u:TGs):TGs:=fun c b H Q=>∃v r,c=v::r/\t v b H fun a d=>u r a d Q
theorem QgU:PGs X [] Qne:=by
 intro a s b H c d Q I r h;obtain⟨e,h⟩:=h;subst e;cases r;exact assignInOrder_nil ⟨b,H,I,h⟩
theorem QeO{e:Expr}{es:List Expr}{t:TG}{u:TGs}(l:PG X e t)(j:PGs X es u)
  (i:(assignEach (e::es) X.env).map (·.2)=assign e X.env::(assignEach es X.env).map (·.2):=by rfl):PGs X (e::es) (Qjz t u):=by
 intro a s c H o w Q I r h;obtain⟨v,p,m,h⟩:=h;subst m;cases r with
 |cons r f=>
  rw[i];refine assignInOrder_cons (thn (l a s c H _ _ _ I r h) fun _ d ⟨b,n,I1,g⟩=>?_);exact j a d b n _ _ Q I1 f g
noncomputable def QoJ(K:Nd)(n:Nat)(t:TGs):TG:=fun v c H Q=>∃a b,v=.ref a/\SqT K H a b/\b.length=n/\t b c H Q
theorem Qja{es:List Expr}{k:Nat}{t:TGs}{n:Nat}(y:X.calm=true)(h:PGs X es t)
  (w:(assignEach es X.env).length=n:=by rfl) (d:(assignEach es X.env).findIdx? (·.1)=none:=by rfl):PG X (.Tuple es k pos) (QoJ X.K n t):=by
 intro c s f H v u Q I r hw;obtain⟨a,i,A,p,x,hw⟩:=hw;subst A;cases r;obtain⟨j,g,m,C⟩:=I.tuple p;refine assign_Tuple_tuple (I.ok.hd y) m (by simp[w,<-x,g.length]) d fun z l=>?_;have I1:Inv X c f H { s with heap:=z }:=I.kept (t':=s.toks) fun b o e=>l b o (NP (Nv e)) e;exact h c _ f H i _ Q I1 (by simpa using g) hw
noncomputable def QmK(b c:TE)(t:Qmn):TG:=fun v a H Q=>b a H fun o f=>c a f fun i e=>t o i v e fun d=>Q a d
theorem QkL{o i:Expr}{e f:TE}{t:Qmn}(A:PE X o e)(B:PE X i f)(z:Qni X t)
  (C:∀v,assign (.Subscript o i pos) X.env v=(do
   let b <-holding [v] (eval o X.env)
   let c <-holding [v,b] (eval i X.env)
   standAt pos
   holding [v,b,c] (setItem b c v)
   release [v,b,c] []):=by intro _;rfl):PG X (.Subscript o i pos) (QmK e f t):=by
 intro a s d H v u Q I r h;rw[C];refine Na (Ey (thn (A a s d H _ I h) fun b j ⟨x,F,I1,m,w⟩=>?_));refine Na (Ey (thn (B a j d F _ I1 w) fun c g ⟨y,E,I2,l,p⟩=>?_));refine Na (LG (Na (Ey (thn (z a g d E x y v b c u _ I2 m l r p) fun _ G ⟨D,I3,n⟩=>?_))));exact wpAny_release ⟨d,D,I3,n⟩
noncomputable def QkX(te:TE)(g:TG):TS:=fun D a H=>te a H fun x b=>g x a b D.nx
theorem QjL{b e:Expr}{te:TE}{g:TG}(m:PE X e te)(l:PG X b g)(j:swapsWithSole [b] e pos.line X.env=pure false:=by rfl)(hw:swappedStores [b] e X.env=pure none:=by rfl)
  (n:(assignEach [b] X.env).map (·.2)=[assign b X.env]:=by rfl):PS X (.Assign [b] e pos) (QkX te g):=by
 intro a s c H D I h;refine wpAny_Assign_stores (thn (m a s c H _ I h) fun v d ⟨x,o,I1,f,i⟩=>?_) j hw;rw[n];exact thn (l a d c o x v _ I1 f i) fun _ p q=>q
theorem QjI{i:Nat}{x:Str}{e:Expr}{te:TE}{a:Pos}(hN:X.N.Nodup)(l:X.N[i]?=some x)(g:Loc X.env.scope x)(n:PE X e te)(j:swapsWith e (some (.Name x a)) pos.line X.env=pure false:=by rfl)(m:X.fn x=true\/X.env.scope.names.lookup x=some .local:=by first|exact .inl rfl|exact .inr rfl|assumption) :
  PS X (.Assign [.Name x a] e pos) (QkX te (QbX i)):=by
 intro b s c H D I h;refine wpAny_Assign_Name (thn (n b s c H _ I h) fun v r ⟨y,o,I1,d,f⟩=>?_) j;exact W7 I1 hN l g d (fun p I2=>⟨_,o,I2,f⟩) m
noncomputable def QoG(i:Nat)(te:TE)(b:TIp):TS:=fun D a H=>∃x,a[i]?=some (some x)/\te a H fun y d=>b x y d fun z c=>D.nx (a.set i (some z)) c
theorem QiI{i:Nat}{x:Str}{e:Expr}{te:TE}{op:Operator}{t:TIp}{j:Pos}(hN:X.N.Nodup)(B:X.N[i]?=some x)(o:Loc X.env.scope x)(R:PE X e te)(L:PIp X op t)(Q:X.fn x=true\/X.env.scope.names.lookup x=some .local:=by first|exact .inl rfl|exact .inr rfl|assumption) :
  PS X (.AugAssign (.Name x j) op e pos) (QoG i te t):=by
 intro a s p H D I h;obtain⟨v,T,h⟩:=h;obtain⟨m,M,P⟩:=I.loc;have n:Vis X.env.scope x:=by rcases o with k|k;exact .inl k;exact .inr (.inl k)
 obtain⟨u,r,l⟩:=P i x v B T n;refine wpAny_AugAssign_Name ?_
 have go:wpAny (model X.prog X.w) X.A (eval e X.env) (fun w g=>wpAny (model X.prog X.w) X.A (inplaceOp op u w) (fun r f=>wpAny (model X.prog X.w) X.A (storeName X.env x r) (fun _=>SP X a D .next) X.xe f) X.xe g) X.xe s:=by
  refine thn (R a s p H _ I h) fun w C ⟨y,Y,I1,F,J⟩=>?_;refine thn (L a C p Y v y u w _ I1 r F J) fun z s2 ⟨Z,U,I2,E,G⟩=>?_;exact W7 I2 hN B o E (fun s3 I3=>⟨_,U,I3,G⟩) Q
 rcases l with⟨b,O⟩|⟨b,c,S,d⟩
 ·exact Lw I.ok.kind b M O go
 ·rcases b with b|b
  ·exact LL I.ok.kind b S d go
  ·rcases o with k|k
   ·have:X.env.scope.names.lookup x=some .free:=b;rw[k]at this;cases this
   ·have:X.env.scope.names.lookup x=some .free:=b;rw[k]at this;cases this
end
structure It where
 go:Nat->Hp->Prop
 yld:Nat->Hp->V->Hp->Prop
 stop:Nat->Hp->Prop
def QbN(X:Cx)(a:List (Addr×Obj))(H:Hp)(b:Addr):Prop:=
 H b=none/\b≠X.env.locals/\b∉X.fs/\(b∈X.ex\/X.s₀.heap.objs.size<=b)/\(∀x c,X.env.cells.lookup x=some c->c≠b)/\∀p∈X.pn++a,p.1≠b
theorem Inv.fpOk{X:Cx}{a:List (Addr×Obj)}{σ:St}{H f:Hp}{s:Shared}{b:Addr}(I:Inv X a σ H s)(d:s.heap.objs.size<=b)(h:f b=none):QbN X a f b:=by
 refine⟨h,D2 (Nl I.lt d),I.nofs d,.inr (Nr I.sz d),fun x c e z=>?_,fun p g z=>?_⟩
 ·obtain⟨v,q⟩:=I.cell x c e;exact absurd (Nl q.lt (by rw[z];exact d)) (Ex _)
 ·exact absurd (Nl (Nv (I.pin p g).1) (by rw[z];exact d)) (Ex _)
structure Turn(P:Program)(w:World)(K:Nd)(tg:Expr)(J:It)(fp:List Addr)(it:Addr)(tn:Nat->Heap->Prop):Prop where
 mem:it∈fp
 obj:∀i h,tn i h->∀b∈fp,∃o,h.get? b=some o/\∀v,o.data≠.cell v
 keep:∀i h h',tn i h->(∀b∈fp,∀o,h.get? b=some o->h'.get? b=some o)->tn i h'
 item:∀(X:Cx),X.prog=P->X.w=w->X.K=K->X.calm=true->∀(i:Nat) (pins:List (Addr×Obj)) (s:Shared) (σ:St) (H:Hp) (E:Value->Shared->Prop),Inv X pins σ H s->(∀b∈fp,QbN X pins H b)->tn i s.heap->J.go i H ->
  wpAny (model P w) X.A (pyNext (.ref it)) (fun r s1=>∃u,r=some u /\
   wpAny (model P w) X.A (letOwnedTupleGo tg (.ref it) u) (fun _ s2=>∃x H',Inv X pins σ H' s2/\RelV x u/\J.yld i H x H'/\tn (i+1) s2.heap/\∀b∈fp,H' b=none) E s1) E s
 done:∀(X:Cx),X.prog=P->X.w=w->X.K=K->X.calm=true->∀(i:Nat) (pins:List (Addr×Obj)) (s:Shared) (σ:St) (H:Hp) (E:Value->Shared->Prop),Inv X pins σ H s->(∀b∈fp,QbN X pins H b)->tn i s.heap->J.stop i H ->
  wpAny (model P w) X.A (pyNext (.ref it)) (fun r s1=>r=none/\Inv X pins σ H s1) E s
 self:∀(A:Around) (i:Nat) (s:Shared) (Q:Value->Shared->Prop) (E:Value->Shared->Prop),tn i s.heap->Q (.ref it) s->wpAny (model P w) A (pyIter (.ref it)) Q E s
noncomputable abbrev TI:=St->Hp->(It->Hp->Prop)->Prop
def PIE(X:Cx)(a:List (Addr×Obj))(σ:St)(i:Expr)(R:It->Hp->Prop)(c:Value)(f:Shared):Prop:=
 ∃(g:Addr) (h:List Addr) (e:Nat->Heap->Prop) (J:It) (d:Hp),c=.ref g/\Inv X a σ d f/\Turn X.prog X.w X.K i J h g e/\e 0 f.heap/\(∀b∈h,QbN X a d b)/\R J d
def PI(X:Cx)(d iter:Expr)(c:TI):Prop:=
 ∀(a:List (Addr×Obj)) (s:Shared) (b:St) (H:Hp) (R:It->Hp->Prop),Inv X a b H s->c b H R ->
  wpAny (model X.prog X.w) X.A (eval iter X.env) (fun v e=>wpAny (model X.prog X.w) X.A (pyIter v) (PIE X a b d R) X.xe e) X.xe s
theorem QbA {M:Model} {A:Around} {E:Value->Shared->Prop} {s:Shared} {b:Expr} {it:Addr} {u:Value} {o:Obj} {n:String} {vs:Array Value} {Q:Unit->Shared->Prop} (c:s.heap.get? it=some o) (e:o.cls=.type n) (hd:o.data=.fields vs)
    (d:["enumerate","zip","dict_itemiterator","dict_reverseitemiterator","odict_iterator","itertools.zip_longest","itertools.pairwise"].contains n=false) (a:Q () s):wpAny M A (letOwnedTupleGo b (.ref it) u) Q E s:=by
  unfold letOwnedTupleGo
  cases b<;>first
    |exact Nh a
    |(cases u<;>first
        |exact Nh a
        | (refine Na (wpAny_load c ?_)
           rw[e,hd];show wpAny M A (if(["enumerate","zip","dict_itemiterator","dict_reverseitemiterator","odict_iterator","itertools.zip_longest","itertools.pairwise"].contains n&&vs[0]?==some (rawInt _))=true then _ else _) Q E s;rw[if_neg (by intro h;rw[d,Bool.false_and]at h;cases h)]
           exact Nh a))
noncomputable def Itl(K:Nd)(a:Addr):It:=
 ⟨fun i H=>∃b x,SqL K H a b/\b[i]?=some x,fun i H x c=>c=H/\∀b,SqL K H a b->b[i]?=some x,fun i H=>∃b,SqL K H a b/\b.length<=i⟩
noncomputable def Itt(K:Nd)(a:Addr):It:=
 ⟨fun i H=>∃b x,SqT K H a b/\b[i]?=some x,fun i H x c=>c=H/\∀b,SqT K H a b->b[i]?=some x,fun i H=>∃b,SqT K H a b/\b.length<=i⟩
noncomputable def Itr(lo:Int)(n:Nat):It:=⟨fun i _=>i<n,fun i H x a=>a=H/\x=.int (lo+i),fun i _=>n<=i⟩
theorem QcU{P:Program}{w:World}{K:Nd}{O:Expr}(a it:Addr):Turn P w K O (Itl K a) [it] it (fun i h=>h.IsListIter it a i) where
 mem:=by simp
 obj:=fun i h st b g=>by
  have e:b=it:=by simpa using g
  subst e;obtain⟨o,e,c,d⟩:=st;exact⟨o,e,fun v z=>by rw[d]at z;cases z⟩
 keep:=fun i h n st k=>st.at fun o e=>k it (by simp) o e
 item:=by
  intro X B hw C M i f s L H E I m st A;subst B hw C;obtain⟨N,x,l,y⟩:=A;obtain⟨t,r,p,T⟩:=I.list l;obtain⟨u,hu,S⟩:=r.get y;obtain⟨J,f1,f2,G,F,D⟩:=m it (by simp);refine wpAny_pyNext_list_item st p.isList (x:=u) (by simpa using hu) fun n j R=>?_;have I1:Inv X f L H { s with heap:=n }:=I.turned (t':=s.toks) (fun b o g e=>(R.2 b g).trans e) J f1 G F D;obtain⟨o,e,c,d⟩:=id j;exact⟨u,rfl,QbA (s:={ s with heap:=n }) e c d (by decide) ⟨x,H,I1,S,⟨rfl,fun Z U=>by rw[I.list_inj U l];exact y⟩,j,fun b g=>(m b g).1⟩⟩
 done:=by
  intro X B hw C M i f s L H E I m st A;subst B hw C;obtain⟨N,l,y⟩:=A;obtain⟨t,r,p,T⟩:=I.list l;obtain⟨J,f1,f2,G,F,D⟩:=m it (by simp);have hl:=r.length;exact wpAny_pyNext_list_end (I.ok.hd M) st p.isList (by simp;omega) fun n Y=>⟨rfl,I.turned (t':=s.toks) (fun b o g e=>Y b o g e) J f1 G F D⟩
 self:=fun _ _ _ _ _ st h=>wpAny_pyIter_listiter st h
theorem Qbq{P:Program}{w:World}{K:Nd}{O:Expr}(a it:Addr):Turn P w K O (Itt K a) [it] it (fun i h=>h.IsTupleIter it a i) where
 mem:=by simp
 obj:=fun i h st b j=>by
  have e:b=it:=by simpa using j
  subst e;obtain⟨o,e,c,d⟩:=st;exact⟨o,e,fun v z=>by rw[d]at z;cases z⟩
 keep:=fun i h r st k=>st.at fun o e=>k it (by simp) o e
 item:=by
  intro X B hw C M i f s L H E I n st A;subst B hw C;obtain⟨N,x,m,y⟩:=A;obtain⟨g,t,p,T⟩:=I.tuple m;obtain⟨u,hu,S⟩:=t.get y;obtain⟨J,f1,f2,G,F,D⟩:=n it (by simp);refine wpAny_pyNext_tuple_item st (show s.heap.IsTuple a g.toArray from p) (x:=u) (by simpa using hu) fun r l R=>?_;have I1:Inv X f L H { s with heap:=r }:=I.turned (t':=s.toks) (fun b o j e=>(R.2 b j).trans e) J f1 G F D;obtain⟨o,e,c,d⟩:=id l;exact⟨u,rfl,QbA (s:={ s with heap:=r }) e c d (by decide) ⟨x,H,I1,S,⟨rfl,fun Z U=>by rw[I.tuple_inj U m];exact y⟩,l,fun b j=>(n b j).1⟩⟩
 done:=by
  intro X B hw C M i f s L H E I n st A;subst B hw C;obtain⟨N,m,y⟩:=A;obtain⟨g,t,p,T⟩:=I.tuple m;obtain⟨J,f1,f2,G,F,D⟩:=n it (by simp);have hl:=t.length;exact wpAny_pyNext_tuple_end (I.ok.hd M) st (show s.heap.IsTuple a g.toArray from p) (by simp;omega) fun r Y=>⟨rfl,I.turned (t':=s.toks) (fun b o j e=>Y b o j e) J f1 G F D⟩
 self:=fun _ _ _ _ _ st h=>wpAny_pyIter_tupleiter st h
theorem Qbn{P:Program}{w:World}{K:Nd}{F:Expr}(it:Addr)(lo:Int)(n:Nat):Turn P w K F (Itr lo n) [it] it (fun i h=>IsRangeIter h it (lo+(i:Nat)*1) ((n:Int)-(i:Nat)) 1) where
 mem:=by simp
 obj:=fun i h st b c=>by
  have e:b=it:=by simpa using c
  subst e
  exact⟨_,st,fun v z=>by
   have D:Data.fields _=Data.cell v:=z
   cases D⟩
 keep:=fun i h g st k=>k it (by simp) _ st
 item:=by
  intro X m hw p l i a s A H E I f st j;subst m hw p;obtain⟨y,f1,f2,x,u,r⟩:=f it (by simp);have W:=Walks.range (prog:=X.prog) (w:=X.w) (I.ok.hd l) it lo 1 n;refine W.item i s _ _ j st fun v g B J d G=>?_;obtain⟨t,rfl⟩:=J;have I1:Inv X a A H { s with heap:=g,toks:=B }:=I.turned (fun b o c e=>G b o (by simpa using c) e) y f1 x u r;refine⟨_,rfl,QbA (s:={ s with heap:=g,toks:=B }) (n:="range_iterator") d rfl rfl (by decide) ⟨.int (lo+i),H,I1,⟨t,?_⟩,⟨rfl,rfl⟩,d,fun b c=>(f b c).1⟩⟩;rw[Int.mul_one]
 done:=by
  intro X m hw p l i a s A H E I f st j;subst m hw p;obtain⟨y,f1,f2,x,u,r⟩:=f it (by simp);exact wpAny_pyNext_range_end (I.ok.hd l) st (by have:n<=i:=j;omega) fun g L=>⟨rfl,I.turned (t':=s.toks) (fun b o c e=>L b o c e) y f1 x u r⟩
 self:=fun _ _ _ _ _ st h=>wpAny_pyIter_rangeiter st h
section
variable{X:Cx}{tg:Expr}
theorem QeK{c:List (Addr×Obj)}{σ:St}{H:Hp}{s:Shared}{R:It->Hp->Prop}{E:Value->Shared->Prop}{lo a:Int}{t u v:Tok}{tk:Nat}(I:Inv X c σ H s)(i:-(2^62)<=lo)(h:lo<2^62)(g:-(2^62)<=a)(f:a<2^62)
  (q:R (Itr lo (a-lo).toNat) H):wpAny (model X.prog X.w) X.A (pyIter (.ref s.heap.objs.size)) (PIE X c σ tg R) E { s with heap:=s.heap.push { cls:=.type "range",data:=.fields #[.int lo t,.int a u,.int 1 v] },toks:=tk }:=by
 refine wpAny_pyIter_range (IsRange.new ..) (small_one i h g f) ?_;have I1:Inv X c σ H { s with heap:=s.heap.push { cls:=.type "range",data:=.fields #[.int lo t,.int a u,.int 1 v] },toks:=tk }:=I.kept fun b o e=>Nn _ e
 refine⟨(s.heap.push { cls:=.type "range",data:=.fields #[.int lo t,.int a u,.int 1 v] }).objs.size,[(s.heap.push { cls:=.type "range",data:=.fields #[.int lo t,.int a u,.int 1 v] }).objs.size],_,_,H,rfl,
  I1.kept (t':=tk) fun b o e=>Nn _ e,Qbn _ lo (a-lo).toNat,?_,fun b d=>?_,q⟩
 ·have l:lo+((0:Nat):Int)*1=lo:=by simp
  have j:(((a-lo).toNat:Nat):Int)-((0:Nat):Int)=Builtin.Range.rangeSize lo a 1:=by rw[rangeSize_one];split<;>omega
  show IsRangeIter _ _ (lo+((0:Nat):Int)*1) ((((a-lo).toNat:Nat):Int)-((0:Nat):Int)) 1;rw[l,j];exact Nw _ rfl
 ·have e:b=(s.heap.push { cls:=.type "range",data:=.fields #[.int lo t,.int a u,.int 1 v] }).objs.size:=by simpa using d
  subst e;exact I1.fpOk (Nt _) (I1.hok.fresh (Nt _))
noncomputable def Ql5(c:TA):TI:=fun a H R=>c a H fun b d=>∃j:Int,b=[.int j]/\-(2^62)<=j/\j<2^62/\R (Itr 0 j.toNat) d
theorem Qc0{a:Expr}{d:TA}{p pos:Pos}(o:Gl X "range")(n:X.mg "range"=none)(u:PA X [a] d)(m:starEach [a] X.env=[(false,eval a X.env)]:=by rfl):PI X tg (.Call (.Name "range" p) [a] [] pos) (Ql5 d):=by
 intro b s f H R I h;refine OJ (J1 I o n boot_range (N0 (thn (u pos b s f H _ I h) fun w x ⟨v,y,I1,i,c⟩=>?_) m rfl));obtain⟨j,e,c,l,q⟩:=c;subst e;cases i with
 |cons r g=>
  cases g;obtain⟨t,rfl⟩:=r;exact call_range_1 (QeK I1 (by omega) (by omega) c l (by simpa using q))
noncomputable def Qm8(f:TI)(g:TG)(h:TS):TS:=fun D a H=>f a H fun J l=>∃W:Nat->Nat->St->Hp->Prop,(∃m,W 0 m a l)/\∀i m a H,W i m a H ->
 (J.stop i H/\D.nx a H)\/(J.go i H/\∃N:St->Hp->Prop,(∀b c,N b c->∃e,e<m/\W (i+1) e b c)/\∀x c,J.yld i H x c->g x a c fun d j=>h { D with nx:=N,ct:=N,bk:=D.nx } d j)
noncomputable def Ul(a:List Addr)(h:Heap):List (Addr×Obj):=a.filterMap fun b=>(h.get? b).map fun o=>(b,o)
theorem Xo{a:List Addr}{h:Heap}{b:Addr}{o:Obj}(c:b∈a)(e:h.get? b=some o):(b,o)∈Ul a h:=F4.mpr ⟨b,c,by rw[e];rfl⟩
theorem Qb1{a:List Addr}{h:Heap}{p:Addr×Obj}(c:p∈Ul a h):p.1∈a/\h.get? p.1=some p.2:=by
 obtain⟨b,d,e⟩:=F4.mp c;cases q:h.get? b with
 |none=>rw[q]at e;cases e
 |some o=>
  rw[q]at e;have f:(b,o)=p:=N1 e;subst f;exact⟨d,q⟩
theorem Inv.pinned{a:List (Addr×Obj)}{σ:St}{H:Hp}{s:Shared}{c:List Addr}(I:Inv X a σ H s)(j:∀b∈c,QbN X a H b)(i:∀b∈c,∃o,s.heap.get? b=some o/\∀v,o.data≠.cell v):Inv X (a++Ul c s.heap) σ H s:=
 I.pins_of fun p h=>(NQ.mp h).elim (fun z=>I.pin p (NF _ z)) fun z=>by
  obtain⟨f,e⟩:=Qb1 z;obtain⟨l,f1,f2,_⟩:=j p.1 f;obtain⟨o,g,d⟩:=i p.1 f;rw[e]at g;cases g;exact⟨e,l,f1,f2,d⟩
theorem Inv.unpinned{a b:List (Addr×Obj)}{σ:St}{H:Hp}{s:Shared}(I:Inv X (a++b) σ H s):Inv X a σ H s:=I.pins_of fun p c=>I.pin p (NF _ (N2 _ c))
theorem QjE{iter:Expr}{body:List Stmt}{wi:TI}{g:TG}{tb:TS}{pos:Pos}(L:PassesOwn (model X.prog X.w) X.A X.env X.xe)(hc:X.calm=true)(hi:PI X tg iter wi)(hg:PG X tg g)(t:PSs X body tb)
  (hs:∀x,foldedSetIterable iter X.env x=pure x:=by intro _;rfl):PS X (.For tg iter body [] pos) (Qm8 wi g tb):=by
 intro c s Z H D I h;refine wpAny_For (thn (hi c s Z H _ I h) fun v s1 h1=>thn h1 fun aa s2 h2=>?_) hs;obtain⟨it,O,tn,J,H2,e,I2,T,R,f2,W,⟨m0,w0⟩,E⟩:=h2;subst e;have p:∀{z:Hp},(∀b∈O,z b=none)->∀b∈O,QbN X c z b:=fun hn b t=>⟨hn b t,(f2 b t).2⟩
 refine codeAny_forLoop_any (fun n s'=>∃i l z,Inv X c l z s'/\tn i s'.heap/\(∀b∈O,z b=none)/\W i n l z) ?_ m0 ⟨0,Z,H2,I2,R,fun b t=>(f2 b t).1,w0⟩
 rintro n s3 ⟨i,j,P,I3,F,M,w3⟩
 rcases E i n j P w3 with⟨stop,qn⟩|⟨go,N,hN,step⟩
 ·refine DV L (thn (T.done X rfl rfl rfl hc i c s3 j P X.xe I3 (p M) F stop) fun r s4 ⟨hr,I4⟩=>?_);subst hr;exact IQ ⟨j,P,I4,qn⟩
 ·refine DV L (thn (T.item X rfl rfl rfl hc i c s3 j P X.xe I3 (p M) F go) fun r s4 ⟨u,hr,h4⟩=>?_);subst hr;refine DV L (thn h4 fun _ s5 ⟨x,H5,I5,r5,y5,C,U⟩=>?_);have Y:=I5.pinned (p U) (T.obj _ _ C);refine DV L (thn (hg _ s5 j H5 x u _ Y r5 (step x H5 y5)) fun _ s6 ⟨Q,H6,I6,q6⟩=>?_);refine DV L (thn (t _ s6 Q H6 _ I6 q6) fun f S B=>?_)
  have again:∀{a:St} {y:Hp},Inv X (c++Ul O s5.heap) a y S->N a y->∃m,m<n/\∃i l z,Inv X c l z S/\tn i S.heap/\(∀b∈O,z b=none)/\W i m l z:=fun {a y} I7 G=>by
   obtain⟨m',hm,w7⟩:=hN a y G;refine⟨m',hm,i+1,a,y,I7.unpinned,T.keep _ _ _ C fun b t o e=>(I7.pin (b,o) (NF _ (NF _ (Xo t e)))).1,fun b t=>?_,w7⟩;obtain⟨o,e,d⟩:=T.obj _ _ C b t;exact(I7.pin (b,o) (NF _ (NF _ (Xo t e)))).2.1
  cases f with
  |next=>obtain⟨a,y,I7,G⟩:=B;exact again I7 G
  |cont=>obtain⟨a,y,I7,G⟩:=B;exact again I7 G
  |brk=>obtain⟨a,y,I7,B⟩:=B;exact⟨a,y,I7.unpinned,B⟩
  |ret v=>obtain⟨x7,a,y,I7,r7,B⟩:=B;exact⟨x7,a,y,I7.unpinned,r7,B⟩
end
noncomputable abbrev R2:=V->V->Hp->VK->Prop
def OpR(X:Cx)(f:Value->Value->Sem Value)(r:R2):Prop:=
 ∀(a:List (Addr×Obj)) (s:Shared) (b:St) (H:Hp) (x y:V) (v u:Value) (Q:VK),Inv X a b H s->RelV x v->RelV y u->r x y H Q ->
  wpAny (model X.prog X.w) X.A (f v u) (EP X a b Q) X.xe s
def UnR(X:Cx)(f:Value->Sem Value)(r:V->Hp->VK->Prop):Prop:=
 ∀(a:List (Addr×Obj)) (s:Shared) (b:St) (H:Hp) (x:V) (v:Value) (Q:VK),Inv X a b H s->RelV x v->r x H Q ->
  wpAny (model X.prog X.w) X.A (f v) (EP X a b Q) X.xe s
def CallR(X:Cx)(f:Value)(r:List V->Hp->VK->Prop):Prop:=
 ∀(a:List (Addr×Obj)) (s:Shared) (b:St) (H:Hp) (c:List V) (d:List Value) (Q:VK),Inv X a b H s->Vals c d->r c H Q ->
  wpAny (model X.prog X.w) X.A (call f d) (EP X a b Q) X.xe s
def Qoa(X:Cx)(r:V->Hp->(Bool->Hp->Prop)->Prop):Prop:=
 ∀(a:List (Addr×Obj)) (s:Shared) (b:St) (H:Hp) (x:V) (v:Value) (Q:Bool->Hp->Prop),Inv X a b H s->RelV x v->r x H Q ->
  wpAny (model X.prog X.w) X.A (truthy v) (TP X a b Q) X.xe s
noncomputable def tOp(r:R2)(c b:TE):TE:=fun a H Q=>c a H fun x e=>b a e fun y d=>r x y d Q
noncomputable def tUn(r:V->Hp->VK->Prop)(b:TE):TE:=fun a H Q=>b a H fun x c=>r x c Q
noncomputable def rI(C:Int->Int->Prop)(g:Int->Int->V):R2:=fun x y H Q=>∃i j,x=.int i/\y=.int j/\C i j/\Q (g i j) H
noncomputable def rI0(g:Int->Int->V):R2:=fun x y H Q=>∃i j,x=.int i/\y=.int j/\Q (g i j) H
noncomputable def rU(g:Int->V):V->Hp->VK->Prop:=fun x H Q=>∃i,x=.int i/\Q (g i) H
section
variable{X:Cx}{a b c:Expr}{ta tb tc:TE}{pos:Pos}
theorem QlM(B:PE X a ta)(z:PE X b tb){d:List (Addr×Obj)}{s:Shared}{σ:St}{H:Hp}{R:V->V->Hp->Prop}(I:Inv X d σ H s)
  (h:ta σ H fun x l=>tb σ l fun y e=>R x y e) {Q:Value->Shared->Prop} {f:Value->Value->Sem Value}
  (t:∀v u j x y e,Inv X d σ e j->RelV x v->RelV y u->R x y e->wpAny (model X.prog X.w) X.A (f v u) Q X.xe j) :
  wpAny (model X.prog X.w) X.A (eval a X.env) (fun v i=>wpAny (model X.prog X.w) X.A (eval b X.env) (fun u g=>wpAny (model X.prog X.w) X.A (f v u) Q X.xe g) X.xe i) X.xe s:=by
 refine thn (B d s σ H _ I h) fun v m ⟨x,l,I1,o,r⟩=>?_;refine thn (z d m σ l _ I1 r) fun u j ⟨y,e,I2,n,p⟩=>?_;exact t v u j x y e I2 o n p
theorem Qlv{op:Operator}{r:R2}(j:OpR X (binaryOp op) r)(m:PE X a ta)(l:PE X b tb):PE X (.BinOp a op b pos) (tOp r ta tb):=by
 intro d s e H Q I h;exact wpAny_BinOp (QlM m l I h fun v u f x y n I2 i g q=>j d f e n x y v u Q I2 i g q)
theorem Qme{op:UnaryOp}{r:V->Hp->VK->Prop}(j:UnR X (unaryOp op) r)(l:PE X a ta):PE X (.UnaryOp op a pos) (tUn r ta):=by
 intro d s e H Q I h;exact UnaryOp_ (thn (l d s e H _ I h) fun v f ⟨x,m,I1,g,i⟩=>j d f e m x v Q I1 g i)
theorem opI{f:Value->Value->Sem Value}{C:Int->Int->Prop}{g:Int->Int->Int}
  (rule:∀(i j:Int) (t u:Tok) (s:Shared) (Q:Value->Shared->Prop) (E:Value->Shared->Prop),C i j->Q (.int (g i j) s.toks) { s with toks:=s.toks+1 }->wpAny (model X.prog X.w) X.A (f (.int i t) (.int j u)) Q E s) :
  OpR X f (rI C fun i j=>.int (g i j)):=by
 intro d s o H x y v u Q I m l h;obtain⟨i,j,rfl,rfl,n,q⟩:=h;obtain⟨t,rfl⟩:=m;obtain⟨e,rfl⟩:=l;exact rule i j t e s _ _ n ⟨.int (g i j),H,I.tok _,⟨_,rfl⟩,q⟩
theorem Qml{f:Value->Value->Sem Value}{g:Int->Int->Int}
  (rule:∀(i j:Int) (t u:Tok) (s:Shared) (Q:Value->Shared->Prop) (E:Value->Shared->Prop),Q (.int (g i j) s.toks) { s with toks:=s.toks+1 }->wpAny (model X.prog X.w) X.A (f (.int i t) (.int j u)) Q E s) :
  OpR X f (rI0 fun i j=>.int (g i j)):=by
 intro d s n H x y v u Q I m l h;obtain⟨i,j,rfl,rfl,q⟩:=h;obtain⟨t,rfl⟩:=m;obtain⟨e,rfl⟩:=l;exact rule i j t e s _ _ ⟨.int (g i j),H,I.tok _,⟨_,rfl⟩,q⟩
theorem Ql6{f:Value->Value->Sem Value}{g:Int->Int->Bool}
  (rule:∀(i j:Int) (t u:Tok) (s:Shared) (Q:Value->Shared->Prop) (E:Value->Shared->Prop),Q (.bool (g i j)) s->wpAny (model X.prog X.w) X.A (f (.int i t) (.int j u)) Q E s) :
  OpR X f (rI0 fun i j=>.bl (g i j)):=by
 intro d s n H x y v u Q I m l h;obtain⟨i,j,rfl,rfl,q⟩:=h;obtain⟨t,rfl⟩:=m;obtain⟨e,rfl⟩:=l;exact rule i j t e s _ _ ⟨.bl (g i j),H,I,rfl,q⟩
def QoB(i j:Int):Prop:=0<j/\j<1073741824
def CMul(i j:Int):Prop:=(-(2^64)<i/\i<2^64)\/(-(2^64)<j/\j<2^64)
theorem CMul.ok{i j:Int}(h:CMul i j):IntMulOk i j:=by
 rcases h with⟨e,d⟩|⟨e,d⟩
 ·exact .of_left (intBits_le_64 e d)
 ·exact .of_right (intBits_le_64 e d)
theorem op_add:OpR X (binaryOp .Add) (rI0 fun i j=>.int (i+j)):=Qml fun _ _ _ _ _ _ _ q=>add_int q
theorem QjH:OpR X (binaryOp .Sub) (rI0 fun i j=>.int (i-j)):=Qml fun _ _ _ _ _ _ _ q=>sub_int q
theorem Qjy:OpR X (binaryOp .Mult) (rI CMul fun i j=>.int (i*j)):=opI fun _ _ _ _ _ _ _ d q=>mul_int q d.ok
theorem Qg3:OpR X (binaryOp .FloorDiv) (rI QoB fun i j=>.int (i/j)):=opI fun i j _ _ _ _ _ d q=>by
 have f:(0:Int)<j:=d.1;have e:j<1073741824:=d.2;exact floordiv_int (by omega) (by rw[Int.fdiv_eq_ediv_of_nonneg i (by omega)];exact q) (.inl (PyProof.noPylong_small (by omega)))
theorem QiS:OpR X (binaryOp .Mod) (rI (fun _ j=>0<j) fun i j=>.int (i%j)):=opI fun i j _ _ _ _ _ d q=>by
 have e:(0:Int)<j:=d;exact mod_int' (by omega) (by rw[Int.fmod_eq_emod_of_nonneg i (by omega)];exact q)
theorem QgI:OpR X (inplaceOp .Add) (rI0 fun i j=>.int (i+j)):=Qml fun _ _ _ _ _ _ _ q=>iadd_int q
theorem unI{f:Value->Sem Value}{g:Int->Int}
  (rule:∀(i:Int) (t:Tok) (s:Shared) (Q:Value->Shared->Prop) (E:Value->Shared->Prop),Q (.int (g i) s.toks) { s with toks:=s.toks+1 }->wpAny (model X.prog X.w) X.A (f (.int i t)) Q E s) :
  UnR X f (rU fun i=>.int (g i)):=by
 intro d s j H x v Q I e h;obtain⟨i,rfl,q⟩:=h;obtain⟨t,rfl⟩:=e;exact rule i t s _ _ ⟨.int (g i),H,I.tok _,⟨_,rfl⟩,q⟩
theorem Qjj:UnR X (unaryOp .USub) (rU fun i=>.int (-i)):=unI fun _ _ _ _ _ q=>neg_int q
end
section
variable{X:Cx}{a b c:Expr}{ta tb tc:TE}{pos:Pos}
theorem Qgi{d:List (Addr×Obj)}{σ:St}{H:Hp}{s:Shared}{Q:VK}{k f:Bool}(I:Inv X d σ H s)(q:Q (.bl k) H)(e:k=f):EP X d σ Q (.bool f) s:=by
 subst e;exact⟨.bl k,H,I,rfl,q⟩
theorem op_lt:OpR X (compareOp .Lt) (rI0 fun i j=>.bl (decide (i<j))):=Ql6 fun _ _ _ _ _ _ _ q=>lt_int q
theorem op_le:OpR X (compareOp .LtE) (rI0 fun i j=>.bl (decide (i<=j))):=Ql6 fun _ _ _ _ _ _ _ q=>le_int q
theorem Qmj:OpR X (compareOp .Gt) (rI0 fun i j=>.bl (decide (j<i))):=Ql6 fun _ _ _ _ _ _ _ q=>gt_int q
theorem Qdr:OpR X (compareOp .Lt) (fun x y H Q=>∃i j,x=.str i/\y=.str j/\Q (.bl (decide (i.cps.toList<j.cps.toList))) H):=by
 intro d s g H x y v u Q I f e h;obtain⟨i,j,rfl,rfl,q⟩:=h;obtain⟨t,rfl⟩:=f;obtain⟨l,rfl⟩:=e;exact lt_str (Qgi I q rfl)
theorem op_isN:OpR X (compareOp .Is) (fun x y H Q=>y=.non/\Q (.bl (decide (x=.non))) H):=by
 intro e s g H x y v u Q I d f h;obtain⟨rfl,q⟩:=h;cases f;refine is_none_gen (Qgi I q ?_)
 cases x<;>first
  |(cases d;rfl)
  |(obtain⟨t,rfl⟩:=d;rfl)
theorem OpR.or{f:Value->Value->Sem Value}{r j:R2}(h:OpR X f r)(h':OpR X f j):OpR X f (fun x y H Q=>r x y H Q\/j x y H Q):=by
 intro d s e H x y v u Q I i g q
 rcases q with q|q
 ·exact h d s e H x y v u Q I i g q
 ·exact h' d s e H x y v u Q I i g q
theorem QhR{op:CmpOp}{r:R2}(j:OpR X (compareOp op) r)(n:PE X a ta)(m:PE X b tb)(l:behindInMarks op b=false):PE X (.Compare a [op] [b] pos) (tOp r ta tb):=by
 intro d s e H Q I h;exact wpAny_Compare1 (QlM n m I h fun v u f x y o I2 i g q=>j d f e o x y v u Q I2 i g q) l
noncomputable def QiY(t:TE):TT:=fun d H Q=>t d H fun x e=>∃k,x=.bl k/\Q k e
theorem Qci{op:CmpOp}{r:R2}(t:OpR X (compareOp op) r)(B:PE X a ta)(A:PE X b tb)(w:behindInMarks op b=false):PT X (.Compare a [op] [b] pos) (QiY (tOp r ta tb)):=by
 intro d s f H Q I h
 refine wpAny_isTrue_Compare1 (thn (B d s f H _ I h) fun v i ⟨x,E,I1,m,p⟩=>thn (A d i f E _ I1 p) fun u g ⟨y,D,I2,l,o⟩=>
  thn (t d g f D x y v u _ I2 m l o) fun c F ⟨z,C,I3,j,k,e,n⟩=>?_) w
 subst e;cases j;exact EY ⟨C,I3,n⟩
noncomputable def QcG(r g:R2)(ta tb tc:TE):TE:=fun d H Q=>ta d H fun x j=>tb d j fun y i=>r x y i fun z e=>∃k,z=.bl k /\
 (if k=true then tc d e fun f h=>g y f h Q else Q (.bl false) e)
theorem Qen{op g:CmpOp}{r m:R2}(M:OpR X (compareOp op) r)(j:OpR X (compareOp g) m)(R:PE X a ta)(P:PE X b tb)(O:PE X c tc)
  (N:lastMarks [op,g] [b,c]=false:=by with_unfolding_all rfl):PE X (.Compare a [op,g] [b,c] pos) (QcG r m ta tb tc):=by
 intro f s i H Q I h
 refine Compare_chain (thn (R f s i H _ I h) fun v C ⟨x,U,I1,F,L⟩=>chain_link (thn (P f C i U _ I1 L) fun u B ⟨y,T,I2,l,J⟩=>
  thn (M f B i T x y v u _ I2 F l J) fun d A ⟨z,o,I3,E,k,e,n⟩=>?_)) N
 subst e;cases E;refine EY ?_;cases k with
 |false=>exact ite_ff ⟨.bl false,o,I3,rfl,n⟩
 |true=>exact ite_tt (chain_last (thn (O f A i o _ I3 n) fun t w ⟨p,S,I4,D,G⟩=>j f w i S y p u t Q I4 l D G))
theorem QeJ{op g:CmpOp}{r m:R2}(P:OpR X (compareOp op) r)(j:OpR X (compareOp g) m)(U:PE X a ta)(T:PE X b tb)(S:PE X c tc)
  (R:lastMarks [op,g] [b,c]=false:=by with_unfolding_all rfl):PT X (.Compare a [op,g] [b,c] pos) (QiY (QcG r m ta tb tc)):=by
 intro f s i H Q I h
 refine isTrue_chain (thn (U f s i H _ I h) fun v C ⟨x,H1,I1,G,N⟩=>test_link (thn (T f C i H1 _ I1 N) fun u B ⟨y,H2,I2,l,M⟩=>
  thn (P f B i H2 x y v u _ I2 G l M) fun d A ⟨z,o,I3,F,k,e,n⟩=>?_)) R
 subst e;cases F;refine EY ?_;cases k with
 |false=>
  obtain⟨k',Z,O⟩:=n;cases Z;exact ite_ff ⟨o,I3,O⟩
 |true=>
  refine ite_tt (test_last (thn (S f A i o _ I3 n) fun t w ⟨p,H4,I4,E,L⟩=>thn (j f w i H4 y p u t _ I4 l E L) fun d' s5 ⟨z2,H5,I5,D,k2,Y,J⟩=>?_));subst Y;cases D;exact EY ⟨H5,I5,J⟩
def QlK(K:Nd)(x:V)(H:Hp)(k:Bool):Prop:=
 match x with
 |.non=>k=false
 |.bl b=>k=b
 |.int i=>k=(i != 0)
 |.str y=>y.length<=sizeLine/\k=((y.length:Int) != 0)
 |.byt y=>y.size<=sizeLine/\k=((y.size:Int) != 0)
 |.ref p=>(∃d,SqL K H p d/\k=!d.isEmpty)\/(∃d,SqT K H p d/\k=!d.isEmpty)\/∃kvs,H p=some (.dK kvs)/\k=!kvs.isEmpty
 |_=>False
theorem Qbb{κ:Type}{kvs:List (κ×V)}{vs:List (κ×Value)}(r:KV kvs vs):(!vs.isEmpty)=!kvs.isEmpty:=by
 cases r<;>rfl
theorem Wb{xs:List V}{d:List Value}(r:Vals xs d):(!d.toArray.isEmpty)=!xs.isEmpty:=by
 cases r<;>simp
theorem YD:(sizeLine:Nat)<2^63:=by rw[EU];decide
theorem Qkt:Qoa X (fun x H Q=>∃k,QlK X.K x H k/\Q k H):=by
 intro z s D H x v Q I j h;obtain⟨k,e,q⟩:=h;have F:=YD;have E:sizeLine=16777216:=EU;cases x with
 |non=>
  cases j;have d:k=false:=e;subst d;exact truthy_none ⟨H,I,q⟩
 |bl b=>
  cases j;have d:k=b:=e;subst d;exact EY ⟨H,I,q⟩
 |int i=>
  obtain⟨t,rfl⟩:=j;have d:k=(i != 0):=e;subst d;exact PySem.P.truthy_int ⟨H,I,q⟩
 |str y=>
  obtain⟨t,rfl⟩:=j;obtain⟨B,d⟩:y.length<=sizeLine/\k=((y.length:Int) != 0):=e;subst d;exact PySem.P.truthy_str (by omega) ⟨H,I.tok _,q⟩
 |byt y=>
  obtain⟨t,rfl⟩:=j;obtain⟨B,d⟩:y.size<=sizeLine/\k=((y.size:Int) != 0):=e;subst d;exact PySem.W.truthy_bytes (by omega) ⟨H,I.tok _,q⟩
 |ref p=>
  cases j;have d:(∃g,SqL X.K H p g/\k=!g.isEmpty)\/(∃g,SqT X.K H p g/\k=!g.isEmpty)\/∃kvs,H p=some (.dK kvs)/\k=!kvs.isEmpty:=e
  rcases d with⟨g,l,d⟩|⟨g,l,d⟩|⟨kvs,l,d⟩
  ·subst d;obtain⟨u,r,o,A⟩:=I.list l;have f:=r.length;exact wpAny_truthy_list o.isList (by simp only[Nj];omega) ⟨H,I.tok _,by rw[Wb r];exact q⟩
  ·subst d;obtain⟨u,r,o,A⟩:=I.tuple l;have f:=r.length;exact truthy_tuple o (by simp only[Nj];omega) ⟨H,I.tok _,by rw[Wb r];exact q⟩
  ·subst d;obtain⟨A,C,n,r,m⟩:kvs.length<=sizeLine/\(p==sysModules)=false/\∃n,KV kvs n/\s.heap.DictOf (VX X.prog X.w) p n:=I.hok p _ l;have f:kvs.length=n.length:=EM r;exact wpAny_truthy_dict C m (by omega) ⟨H,I.tok _,by rw[Qbb r];exact q⟩
 |_=>exact(show False from e).elim
theorem Qfu(l:PE X a ta)(j:∀whole,isTrue a X.env whole=(do let v <-whole;standAt a.pos;holding [v] (truthy v))) :
  PT X a (fun σ H Q=>ta σ H fun x e=>∃k,QlK X.K x e k/\Q k e):=by
 intro d s σ H Q I h;exact isTrue_plain (thn (l d s σ H _ I h) fun v f ⟨x,m,I1,g,i⟩=>Qkt d f σ m x v Q I1 g i) (j _)
theorem op_add_str:OpR X (binaryOp .Add) (fun x y H Q=>∃i j,x=.str i/\y=.str j/\i.length+j.length<=sizeLine/\Q (.str (i++j)) H):=by
 intro d s m H x y v u Q I g f h;obtain⟨i,j,rfl,rfl,l,q⟩:=h;obtain⟨t,rfl⟩:=g;obtain⟨e,rfl⟩:=f;exact add_str (fun e n=>⟨.str (i++j),H,I.tok _,⟨_,rfl⟩,q⟩) l
theorem XW{x:V}{us:List Value}(r:Vals [x] us):∃u,us=[u]/\RelV x u:=by
 cases r with
 |cons e d=>cases d;exact⟨_,rfl,e⟩
theorem Qc8{x y:V}{us:List Value}(r:Vals [x,y] us):∃u w',us=[u,w']/\RelV x u/\RelV y w':=by
 cases r with
 |cons g f=>
  cases f with
  |cons e d=>cases d;exact⟨_,_,rfl,g,e⟩
theorem Qdw(f:X.calm=true):CallR X (.builtin "max") (fun xs H Q=>∃i j,xs=[.int i,.int j]/\Q (.int (if j>i then j else i)) H):=by
 intro e s g H xs m Q I r h;obtain⟨i,j,rfl,q⟩:=h;obtain⟨u,l,rfl,⟨t,rfl⟩,⟨o,rfl⟩⟩:=Qc8 r;refine max_two_ints (I.ok.hd f) fun p n k=>⟨_,H,I.kept k,?_,q⟩
 by_cases d:j>i
 ·rw[if_pos d,if_pos d];exact⟨_,rfl⟩
 ·rw[if_neg d,if_neg d];exact⟨_,rfl⟩
theorem Qdb(f:X.calm=true):CallR X (.builtin "min") (fun xs H Q=>∃i j,xs=[.int i,.int j]/\Q (.int (if j<i then j else i)) H):=by
 intro e s g H xs m Q I r h;obtain⟨i,j,rfl,q⟩:=h;obtain⟨u,l,rfl,⟨t,rfl⟩,⟨o,rfl⟩⟩:=Qc8 r;refine min_two_ints (I.ok.hd f) fun p n k=>⟨_,H,I.kept k,?_,q⟩
 by_cases d:j<i
 ·rw[if_pos d,if_pos d];exact⟨_,rfl⟩
 ·rw[if_neg d,if_neg d];exact⟨_,rfl⟩
theorem Qdd:CallR X (.type "int") (fun xs H Q=>(∃i,xs=[.int i]/\Q (.int i) H)\/∃k,xs=[.bl k]/\Q (.int (if k then 1 else 0)) H):=by
 intro d s f H xs g Q I r h
 rcases h with⟨i,rfl,q⟩|⟨k,rfl,q⟩
 ·obtain⟨u,rfl,t,rfl⟩:=XW r;exact call_int_int ⟨.int i,H,I,⟨_,rfl⟩,q⟩
 ·obtain⟨u,rfl,e⟩:=XW r;cases e;exact call_int_bool ⟨.int (if k then 1 else 0),H,I.tok _,⟨_,rfl⟩,q⟩
end
structure ObjM(h:Heap)(x dx C:Addr)(mA:Str->Option Value):Prop where
 obj:h.get? x=some (IP C dx)
 ns:h.Ns1 dx mA
 ne:dx≠x
theorem Qdj{h:Heap}{g:Addr}{d:Str->Option Value}(n:h.Ns1 g d):∃c,h.get? g=some c/\∀name,Lf name c=some (d name):=by
 obtain⟨o,f,r,j,hd,m,_,l⟩:=n;refine⟨o,j,fun name=>?_⟩;have e:=l name;unfold nsFind findBy at e;rw[<-Array.find?_toList]at e;unfold Lf;rw[hd];dsimp only;split
 ·rename_i y q;rw[q]at e;exact congrArg some e
 ·rename_i q;rw[q]at e
  have a:f.toList.any (·.refKey)=false:=by
   rw[Oa];intro y i;obtain⟨z,t,b⟩:=m y (Array.mem_toList_iff.mp i);simp[DictEntry.refKey,b]
  have p:¬f.toList.any (·.refKey)=true:=by rw[a];exact Ea
  rw[if_neg p];exact congrArg some e
theorem ObjM.look{h:Heap}{x c C:Addr}{b:Str->Option Value}(I:ObjM h x c C b):∃a,PySem.W.InstAt h x (IP C c) C (some a)/\∀name,Lf name a=some (b name):=
 let⟨a,d,e⟩:=Qdj I.ns
 ⟨a,⟨I.obj,rfl,rfl,d⟩,e⟩
theorem RelO.some_of{v:V}{o:Option Value}(r:RelO (some v) o):∃u,o=some u/\RelV v u:=by
 cases o with
 |none=>exact(show False from r).elim
 |some u=>exact⟨u,rfl,r⟩
section
variable{P:Program}{w:World}{H H':Hp}{h h':Heap}{a C dx:Addr}{fs fs':List (Str×V)}
theorem Qhs(c:HOk P w H h)(e:H a=some (.ins C dx fs)):∃b,ObjM h a dx C b/\(∀f,RelO (fs.lookup f) (b f))/\O5 b (fs.map (·.1))/\fs.length<=1000/\H dx=some (.own a):=by
 obtain⟨d,z,ne,ob,b,n,r,q⟩:=(show ObjOk P w H h a (.ins C dx fs)from c a _ e)
 exact⟨b,⟨ob,n,ne⟩,r,q,z,d⟩
end
structure Cls(K:Nd)(C:Addr):Prop where
 pg:Ou K C Str.empty=true
 hd:PySem.W.hasDictIn K C=true
 po:PySem.W.plainOver K C=true
 sa:Lg K (.ref C) "__setattr__"=some (some (.builtin "object.__setattr__"))
theorem Cls.get{K:Nd}{C:Addr}(c:Cls K C)(f:Str):Ou K C f=true:=c.pg
def Qm7(K:Nd)(C:Addr)(f:Str):Prop:=Lg K (.ref C) f=some none
section
variable{X:Cx}{pins:List (Addr×Obj)}{σ:St}{H:Hp}{s:Shared}{A:Around}{E:Value->Shared->Prop}{Q:Value->Shared->Prop}{c:Value}{b:Bool}
inductive TyOf(K:Nd)(H:Hp):V->Value->Prop where
 |non:TyOf K H .non (.type "NoneType")
 |bl (x:Bool):TyOf K H (.bl x) (.type "bool")
 |int (i:Int):TyOf K H (.int i) (.type "int")
 |str (x:Str):TyOf K H (.str x) (.type "str")
 |flt (x:UInt64):TyOf K H (.flt x) (.type "float")
 |lst {a:Addr} {xs:List V} (e:H a=some (.lst xs)):TyOf K H (.ref a) (.type "list")
 |frz {a:Addr} {o:Obj} {xs:List V} (e:H a=some (.frz o (.lst xs))):TyOf K H (.ref a) (.type "list")
 |tup {a:Addr} {xs:List V} (e:H a=some (.tup xs)):TyOf K H (.ref a) (.type "tuple")
 |dK {a:Addr} {kvs:List (Key×V)} (e:H a=some (.dK kvs)):TyOf K H (.ref a) (.type "dict")
 |dT {a:Addr} {kvs:List (Tr×Addr×V)} (e:H a=some (.dT kvs)):TyOf K H (.ref a) (.type "dict")
 | ins {a C dx:Addr} {fs:List (Str×V)} (e:H a=some (.ins C dx fs)) (cl:Cls K C) (ha:Lg K (.ref C) "__class__"=some (some (.builtin "object.__class__")))
   (hn:PySem.W.specialIn K (.builtin "object.__class__") "__get__"=some (some (.builtin "getset_descriptor.__get__"))) (htk:PySem.W.takesIn K (.builtin "object.__class__")=some true)
   (hm:PySem.W.mroIn K C (.type "object")=some true):TyOf K H (.ref a) (.ref C)
theorem QdZ{x:V}{u t:Value}(I:Inv X pins σ H s)(d:RelV x u)(ty:TyOf X.K H x t)(e:OU X.K t c=some b)(h:∀tk,Q (.bool b) { s with toks:=tk }) :
  wpAny (model X.prog X.w) A (call (.builtin "isinstance") [u,c]) Q E s:=by
 cases ty with
 |non=>cases(show u=Value.none from d);exact Ek PySem.W.kitx_none I.kIn True.intro e (fun z=>nomatch z) h
 |bl y=>cases(show u=Value.bool y from d);exact Ek PySem.W.kitx_bool I.kIn True.intro e (fun z=>nomatch z) h
 |int i=>obtain⟨t,q⟩:=(show∃t,u=Value.int i t from d);cases q;exact Ek PySem.W.kitx_int I.kIn True.intro e (fun z=>nomatch z) h
 |str y=>obtain⟨t,q⟩:=(show∃t,u=Value.str y t from d);cases q;exact Ek PySem.W.kitx_str I.kIn True.intro e (fun z=>nomatch z) h
 |flt y=>obtain⟨t,q⟩:=(show∃t,u=Value.float y t from d);cases q;exact Ek PySem.W.kitx_float I.kIn True.intro e (fun z=>nomatch z) h
 |@lst a j f=>
  cases(show u=Value.ref a from d);obtain⟨_,_,n,_,g⟩:=(show ObjOk X.prog X.w H s.heap a (.lst j)from I.hok a _ f)
  exact Ek Ii I.kIn ⟨_,g,rfl⟩ e (fun z=>nomatch z) h
 |@frz a ob j f=>
  cases(show u=Value.ref a from d);obtain⟨_,_,_,n,_,g⟩:=(show ObjOk X.prog X.w H s.heap a (.frz ob (.lst j))from I.hok a _ f)
  exact Ek Ii I.kIn ⟨_,g,rfl⟩ e (fun z=>nomatch z) h
 |@tup a j f=>
  cases(show u=Value.ref a from d);obtain⟨_,_,_,p⟩:=(show ObjOk X.prog X.w H s.heap a (.tup j)from I.hok a _ f)
  obtain⟨o,g,l,_⟩:=p;exact Ek LY I.kIn ⟨o,g,l⟩ e (fun z=>nomatch z) h
 |@dK a kvs f=>
  cases(show u=Value.ref a from d);obtain⟨_,_,L,_,p⟩:=(show ObjOk X.prog X.w H s.heap a (.dK kvs)from I.hok a _ f)
  obtain⟨o,F,G,g,l,_⟩:=p;exact Ek Ob I.kIn ⟨o,g,l.1⟩ e (fun z=>nomatch z) h
 |@dT a kvs f=>
  cases(show u=Value.ref a from d);obtain⟨_,_,j,_,o,F,G,g,l,_⟩:=(show ObjOk X.prog X.w H s.heap a (.dT kvs)from I.hok a _ f)
  exact Ek Ob I.kIn ⟨o,g,l.1⟩ e (fun z=>nomatch z) h
 |@ins a C P fs f r D v m B=>
  cases(show u=Value.ref a from d);obtain⟨N,O,_⟩:=Qhs I.hok f;obtain⟨M,J,_⟩:=O.look;exact Ek (PySem.W.kitx_own (r.get _) r.hd D v m B) I.kIn J e (fun z=>nomatch z) h
end
structure Room(k:Nat)(A:Around):Prop where
 hd:A.handled=none
 dp:A.depth+3*k+5<recursionLimit
 un:A.units+16*k+200<cLine
theorem Room.mono{j k:Nat}{A:Around}(r:Room k A)(h:j<=k):Room j A:=⟨r.hd,by have:=r.dp;omega,by have:=r.un;omega⟩
theorem Room.deeper{k:Nat}{A:Around}(r:Room (k+1) A)(env:Env):Room k (A.deeper env):=
 ⟨r.hd,by have:=r.dp;show A.depth+1+3*k+5<_;omega,by have:=r.un;show A.units+3+16*k+200<_;omega⟩
theorem Room.depth{k:Nat}{A:Around}(r:Room k A):A.depth<recursionLimit:=by have:=r.dp;omega
theorem Room.units{k:Nat}{A:Around}(r:Room k A):A.units+64<cLine:=by have:=r.un;omega
noncomputable def Qoi:TA:=fun _ H Q=>Q [] H
noncomputable def Qmh(d:TE)(c:TA):TA:=fun a H Q=>d a H fun x f=>c a f fun b e=>Q (x::b) e
section
variable{X:Cx}{e:Expr}{es:List Expr}{te:TE}{t:TA}{pos:Pos}
theorem Qjt:PA X [] Qoi:=fun _ _ _ _ H Q I h=>Dp ⟨[],H,I,.nil,h⟩
theorem Qh9(m:PE X e te)(hr:PA X es t)(l:starEach (e::es) X.env=(false,eval e X.env)::starEach es X.env:=by rfl):PA X (e::es) (Qmh te t):=by
 intro pos a s b H Q I h;rw[l];show wpAny _ _ (spliced ((false,eval e X.env)::backTo pos (starEach es X.env))) _ _ s;refine Df (thn (m a s b H _ I h) fun u d ⟨x,o,I1,g,j⟩=>?_);exact thn (hr pos a d b o _ I1 j) fun p r ⟨c,n,I2,f,i⟩=>⟨x::c,n,I2,.cons g f,i⟩
noncomputable def QoP(t:TA):TE:=fun c H Q=>t c H fun a b=>a.length<=sizeLine/\∀p,b p=none->Q (.ref p) (upd b p (.tup a))
noncomputable def QoT(t:TA):TE:=fun c H Q=>t c H fun a b=>a.length<=sizeLine/\∀p,b p=none->Q (.ref p) (upd b p (.lst a))
theorem Qj6{i}(h:PA X es t):PE X (.Tuple es i pos) (QoP t):=by
 intro a s f H Q I l;refine wpAny_Tuple_spliced (thn (h pos a s f H _ I l) fun j c ⟨g,d,I1,r,z,q⟩=>⟨by rw[<-r.length];exact z,?_⟩);have m:d c.heap.objs.size=none:=I1.hok.fresh (Nt _);refine⟨.ref c.heap.objs.size,upd d c.heap.objs.size (.tup g),I1.laid (t':=c.toks) (fun b u e=>Nn _ e) (Nt _) ?_,rfl,q _ m⟩;exact⟨z,j,r,⟨_,Nw _ rfl,rfl,_,rfl⟩⟩
theorem QfP(h:PA X es t):PE X (.List es pos) (QoT t):=by
 intro a s f H Q I j;refine wpAny_List_spliced (thn (h pos a s f H _ I j) fun i c ⟨g,d,I1,r,z,q⟩=>⟨by rw[<-r.length];exact z,?_⟩);have l:d c.heap.objs.size=none:=I1.hok.fresh (Nt _);refine⟨.ref c.heap.objs.size,upd d c.heap.objs.size (.lst g),I1.laid (t':=c.toks) (fun b u e=>Nn _ e) (Nt _) ?_,rfl,q _ l⟩;exact⟨z,i,0,r,Nw _ rfl⟩
end
noncomputable abbrev Sp:=List V->Hp->VK->XK->Prop
noncomputable abbrev CXT:=List Env->Hp->Shared->XK->Value->Shared->Prop
structure Env0(P:Program)(w:World)(K:Nd)(mg:Str->Option Value)(base:Heap)(A:Around)(outer:List Env)(s:Shared)(H:Hp):Prop where
 frames:A.frames=some outer
 mod:Mod K mg base
 bs:∀b o,base.get? b=some o->s.heap.get? b=some o/\H b=none
 bsz:base.objs.size<=s.heap.objs.size
 funs:s.heap.FunFrames base outer
 frf:∀b∈frs outer,H b=none
 hok:HOk P w H s.heap
 bare:AllBare s.gens
def CE(a:List Env)(P:Program)(w:World)(H:Hp)(s:Shared)(Q:VK)(u:Value)(b:Shared):Prop:=
 ∃v c,b.os=s.os/\AllBare b.gens/\Un (frs a) [] H c s.heap b.heap/\HOk P w c b.heap/\RelV v u/\Q v c
def CR(CX:CXT)(a:List Env)(P:Program)(w:World)(H:Hp)(s:Shared)(Q:VK)(E:XK)(r:Result)(b:Shared):Prop:=
 match r with
 |.ok (.ret u)=>CE a P w H s Q u b
 |.ok _=>False
 |.error e=>CX a H s E e b
structure FnOk(P:Program)(w:World)(K:Nd)(mg:Str->Option Value)(base:Heap)(CX:CXT)(k:Nat)(f:Addr)(fd:FuncData)(ps:List Str)(sp:Sp):Prop where
 len:∀vs H Q E,sp vs H Q E->vs.length=ps.length
 run:∀(A:Around) (outer:List Env) (s:Shared) (H:Hp) (args:Args) (us:List Value) (vs:List V) (Q:VK) (E:XK),Room k A->Env0 P w K mg base A outer s H->BindsTo s fd args (ps.zip us)->Vals vs us->sp vs H Q E ->
  codeAny (model P w) A (.call (.ref f) args) (CR CX outer P w H s Q E) s
theorem FnOk.imp{P:Program}{w:World}{K:Nd}{c:Str->Option Value}{base:Heap}{CX:CXT}{k:Nat}{f:Addr}{fd:FuncData}{ps:List Str}{sp b:Sp}(F:FnOk P w K c base CX k f fd ps sp)
  (h:∀vs H Q E,b vs H Q E->sp vs H Q E):FnOk P w K c base CX k f fd ps b:=
 ⟨fun vs H Q E q=>F.len vs H Q E (h _ _ _ _ q),fun A a s H args d vs Q E hr i j e g=>F.run A a s H args d vs Q E hr i j e (h _ _ _ _ g)⟩
section
variable{X:Cx}{pins:List (Addr×Obj)}{σ:St}{H:Hp}{s s':Shared}
theorem Inv.env0(I:Inv X pins σ H s):Env0 X.prog X.w X.K X.mg X.base X.A X.stack s H:=
 ⟨I.ok.frames,I.ok.mod,I.bs,Nr I.ok.bsz I.sz,I.stack,I.stkFree,I.hok,I.bare⟩
theorem Inv.after{Q:VK}{u:Value}(I:Inv X pins σ H s)(h:CE X.stack X.prog X.w H s Q u s'):EP X pins σ Q u s':=by
 obtain⟨v,f,os,bare,un,c,r,q⟩:=h;obtain⟨e,g,d,t,a⟩:=s';obtain rfl:a=s.os:=os;exact⟨v,f,I.call (h':=e) (g':=g) (d':=d) (t':=t) (ch:=[]) un c bare (fun b z=>absurd z (by simp)),r,q⟩
end
noncomputable def Qkm(sp:Sp)(a:List V)(E:XK)(t:TA):TE:=fun b H Q=>t b H fun c d=>sp (c++a) d Q E
def Binds(K:Nd)(fd:FuncData)(ps:List Str)(b:List Value):Prop:=
 ∀(s:Shared) (a:List Value),K.In s.heap->(a++b).length=ps.length->BindsTo s fd ⟨a,[]⟩ (ps.zip (a++b))
theorem Binds.all{K:Nd}{fd:FuncData}{ps:List Str}(h:∀us:List Value,us.length=ps.length->bindArgs fd ⟨us,[]⟩=pure (ps.zip us)):Binds K fd ps []:=fun s us _ a=>by
 rw[Dj]at a ⊢;exact .of_eq (h us a)
def QaB(CX:CXT)(X:Cx)(E:XK):Prop:=∀(a:List (Addr×Obj)) (c:St) (H:Hp) (s:Shared) (e:Value) (b:Shared),Inv X a c H s->CX X.stack H s E e b->X.xe e b
section
variable{X:Cx}{CX:CXT}{k:Nat}{f C:Addr}{fd:FuncData}{ps:List Str}{sp:Sp}{dvs:List V}{ds:List Value}{E:XK}{x m:Str}{p pos apos:Pos}{e o:Expr}{es:List Expr}{ta:TE}{t:TA}
theorem Qji{a:List (Addr×Obj)}{σ:St}{H:Hp}{s:Shared}{Q:VK}{us:List Value}{vs:List V}(F:FnOk X.prog X.w X.K X.mg X.base CX k f fd ps sp)(hr:Room k X.A)(j:Binds X.K fd ps ds)(hd:Vals dvs ds)(g:QaB CX X E)
  (I:Inv X a σ H s) (r:Vals vs us) (h:sp (vs++dvs) H Q E):wpAny (model X.prog X.w) X.A (call (.ref f) us) (EP X a σ Q) X.xe s:=by
 have c:Vals (vs++dvs) (us++ds):=r.append hd;have i:(us++ds).length=ps.length:=by rw[<-c.length];exact F.len _ _ _ _ h
 refine wpAny_call (D3 (F.run X.A X.stack s H ⟨us,[]⟩ (us++ds) (vs++dvs) Q E hr I.env0 (j s us I.kIn i) c h) fun r d b=>?_);cases r with
 |error e=>exact g a σ H s e d I b
 |ok l=>
  cases l with
  |ret u=>exact I.after b
  |next=>exact False.elim b
  |brk=>exact False.elim b
  |cont=>exact False.elim b
theorem QgX(F:FnOk X.prog X.w X.K X.mg X.base CX k f fd ps sp)(hr:Room k X.A)(n:Gl X x)(j:X.mg x=some (.ref f))(l:DJ X.K (.ref f)=true)(v:Binds X.K fd ps ds)(hd:Vals dvs ds)(i:QaB CX X E)
  (y:PA X (e::es) t) (c:(x==("__debug__":Str))=false:=by decide) (u:starEach (e::es) X.env=(false,eval e X.env)::starEach es X.env:=by rfl) (b:(backTo pos (starEach es X.env)).any (·.1)=false:=by rfl) :
  PE X (.Call (.Name x p) (e::es) [] pos) (Qkm sp dvs E t):=by
 intro a s g H Q I h;refine EC (QbY I n j ?_ c);refine PySem.W.callWith_K (h₀:=X.base) I.ok.mod.kin l (thn (y pos a s g H _ I h) fun B D ⟨z,G,I1,r,q⟩=>⟨I1.kIn,?_⟩) u b;exact Qji F hr v hd i I1 r q
end
structure FnScope(N P:List Str)(sc:Scope):Prop where
 kind:sc.kind=.function
 co:sc.isCoroutine=false
 gen:sc.isGenerator=false
 nd:N.Nodup
 pre:N.take P.length=P
 par:∀x∈P,sc.names.lookup x=some .local\/sc.names.lookup x=some .cell
 nofree:∀y∈sc.names,y.2≠.free
theorem UX{kindOf:Str->Option NameKind}{x:Str}:∀{binds:List (Str×Value)} {m:Str->Option Value},(∀v,(x,v)∉binds)->bindL kindOf binds m x=m x
 |[],_,_=>rfl
 | (n,v)::r,m,h=>by
  unfold bindL;rw[UX fun w hw=>h w (No _ hw)];split
  ·have:x≠n:=by rintro rfl;exact h v Nx
   simp[this]
  ·rfl
theorem U3{kindOf:Str->Option NameKind}{x:Str}:∀{binds:List (Str×Value)} {m:Str->Option Value},(∀v,(x,v)∉binds)->bindC kindOf binds m x=m x
 |[],_,_=>rfl
 | (n,v)::r,m,h=>by
  unfold bindC;rw[U3 fun w hw=>h w (No _ hw)];split
  ·rfl
  ·have:x≠n:=by rintro rfl;exact h v Nx
   simp[this]
theorem U2{kindOf:Str->Option NameKind}{x:Str}{v:Value}:∀{P:List Str} {vs:List Value} {i:Nat} {m:Str->Option Value},P.Nodup->P[i]?=some x->vs[i]?=some v->kindOf x=some .local ->
  bindL kindOf (P.zip vs) m x=some v
 |[],_,_,_,_,h,_,_=>by simp at h
 |_::_,[],_,_,_,_,h,_=>by simp at h
 |p::P,w::vs,0,m,c,b,a,d=>by
  simp at b a;subst b;subst a;show bindL kindOf ((p,w)::P.zip vs) m p=_;unfold bindL;rw[UX fun v e=>(Er.mp c).1 (IR e).1,if_pos d];simp
 |p::P,w::vs,i+1,m,c,b,a,d=>by
  show bindL kindOf ((p,w)::P.zip vs) m x=_;unfold bindL;exact U2 (i:=i) (Er.mp c).2 (by simpa using b) (by simpa using a) d
theorem UM{kindOf:Str->Option NameKind}{x:Str}{v:Value}:∀{P:List Str} {vs:List Value} {i:Nat} {m:Str->Option Value},P.Nodup->P[i]?=some x->vs[i]?=some v->kindOf x≠some .local ->
  bindC kindOf (P.zip vs) m x=some v
 |[],_,_,_,_,h,_,_=>by simp at h
 |_::_,[],_,_,_,_,h,_=>by simp at h
 |p::P,w::vs,0,m,c,b,a,d=>by
  simp at b a;subst b;subst a;show bindC kindOf ((p,w)::P.zip vs) m p=_;unfold bindC;rw[U3 fun v e=>(Er.mp c).1 (IR e).1,if_neg d];simp
 |p::P,w::vs,i+1,m,c,b,a,d=>by
  show bindC kindOf ((p,w)::P.zip vs) m x=_;unfold bindC;exact UM (i:=i) (Er.mp c).2 (by simpa using b) (by simpa using a) d
noncomputable def start(N:List Str)(vs:List V):St:=vs.map some++List.replicate (N.length-vs.length) none
noncomputable def Qf7(CX:CXT)(P:Program)(w:World)(K:Nd)(mg:Str->Option Value)(base:Heap)(N:List Str)(b:Str)(a:Scope)(f:Addr)(cd:Value)(A:Around)(outer:List Env)(s:Shared)(H:Hp)(E:XK):Cx where
 prog:=P
 w:=w
 K:=K
 mg:=mg
 base:=base
 A:=A.deeper (envOfC b a s.heap.objs.size f cd)
 N:=N
 s₀:=s
 H₀:=H
 env:=envOfC b a s.heap.objs.size f cd
 outer:=outer
 stack:=envOfC b a s.heap.objs.size f cd::outer
 ex:=[]
 calm:=true
 fn:=fun _=>true
 pn:=[]
 xe:=fun e d=>wpAny (model P w) (A.deeper (envOfC b a s.heap.objs.size f cd)) (leaving (envOfC b a s.heap.objs.size f cd) e) (fun _ c=>CX outer H s E e c) (fun g c=>CX outer H s E g c) d
theorem Qai{a:Scope}{n:Nat}{x:Str}(h:a.names.lookup x=some .cell):∃c,(cellsFrom n a.names []).lookup x=some c:=by
 have q:=IX a.names n [] (.inl h);exact IA.mp q
theorem QcW{CX:CXT}{P:Program}{w:World}{K:Nd}{G:Str->Option Value}{base:Heap}{N ps:List Str}{j:Str}{d:Scope}{f:Addr}{cd:Value}{A:Around}{g:List Env}{s I:Shared}{H:Hp}{E:XK}{us:List Value}{vs:List V}
  (S:FnScope N ps d) (hd:A.handled=none) (m:Env0 P w K G base A g s H) (R:vs.length=ps.length) (r:Vals vs us)
  (x:InCallC s s.heap.objs.size (bindL (envOfC j d s.heap.objs.size f cd).kindOf (ps.zip us) fun _=>none) (cellsFrom (s.heap.objs.size+1) d.names []) (bindC (envOfC j d s.heap.objs.size f cd).kindOf (ps.zip us) fun _=>none) I) :
  Inv (Qf7 CX P w K G base N j d f cd A g s H E) [] (start N vs) H I:=by
 have M:ps.length<=N.length:=by have:=congrArg List.length S.pre;rw[ED]at this;omega
 obtain⟨F,Q,rfl,J⟩:=x.done;have o:∀b:Addr,b∉(Qf7 CX P w K G base N j d f cd A g s H E).ex:=fun b z=>absurd (show b∈([]:List Addr)from z) (by simp)
 refine⟨⟨m.mod,S.kind,rfl,rfl,Nt _,fun y z c F l=>?_,fun y t=>?_,fun y c _ h=>?_,fun _=>hd,Around.frames_deeper m.frames,.inr ⟨rfl,rfl⟩,fun b z=>absurd z (o b),m.bs,m.bsz,fun b _ _=>o b,fun b z=>absurd z (o b),m.funs,m.frf⟩,
  rfl,m.bare,Un.kept J,⟨_,x.toInCall.ns,fun i y v F l T=>?_⟩,fun y c h=>⟨_,x.cell y c h⟩,m.hok.fresh (Nt _),fun y c h=>?_,fun p C=>absurd (show p∈([]:List (Addr×Obj))from C) (by simp),m.hok.kept J,?_⟩
 ·exact name_of_addr x.apart (Dy F) (Dy l)
 ·have t:d.names.lookup y=some .cell\/d.names.lookup y=some .free:=t
  rcases t with t|t
  ·exact Qai t
  ·exact absurd rfl (S.nofree _ (Dy t))
 ·exact NE (x.above y c (Dy h))
 ·have D:i<vs.length:=by
   unfold start at l
   by_cases D:i<vs.length
   ·exact D
   ·rw[EN (by simpa using D)]at l;rw[IG]at l;split at l<;>cases l
  have O:vs[i]?=some v:=by
   unfold start at l;rw[Ei (by simpa using D),Nq]at l;cases e:vs[i]? with
   |none=>rw[e]at l;cases l
   |some a=>rw[e]at l;cases l;rfl
  obtain⟨u,hu,L⟩:=r.get O
  have C:ps[i]?=some y:=by
   rw[<-S.pre,List.getElem?_take_of_lt (by omega)];exact F
  have B:ps.Nodup:=by rw[<-S.pre];exact S.nd.sublist (List.take_sublist _ _)
  refine⟨u,L,?_⟩
  rcases S.par y (NL C)with k|k
  ·exact .inl ⟨k,U2 B C hu k⟩
  ·obtain⟨c,e⟩:=Qai (n:=s.heap.objs.size+1) k;refine .inr ⟨.inl k,c,e,?_⟩;have q:=x.cell y c e;rw[UM B C hu (by show d.names.lookup y≠_;rw[k];decide)]at q;exact q
 ·exact m.hok.fresh (NE (x.above y c (Dy h)))
 ·unfold start;show _=N.length;rw[Np,Nu,List.length_replicate];omega
theorem QlO{CX:CXT}{P:Program}{w:World}{K:Nd}{D:Str->Option Value}{base:Heap}{k:Nat}{f:Addr}{name d:Str}{h:Arguments}{body:List Stmt}{a:Scope}{T kV C pm g ct oc:Value}{U Z:Option Addr}
  {L:Array (Option Value)} {N ps:List Str} {sp:Sp} (lk:K.lookup f=some ⟨oc,Z,.func (Dg name d h body a T kV C pm U g ct),L⟩) (O:FW K g d=true) (S:FnScope N ps a)
  (len:∀vs H Q E,sp vs H Q E->vs.length=ps.length)
  (m:∀(A:Around) (c:List Env) (s:Shared) (H:Hp) (vs:List V) (Q:VK) (E:XK),Room k (A.deeper (envOfC d a s.heap.objs.size f g))->sp vs H Q E ->
   ∃t,PSs (Qf7 CX P w K D base N d a f g A c s H E) body t/\t { nx:=fun _ j=>Q .non j,rt:=Q } (start N vs) H) :
  FnOk P w K D base CX (k+1) f (Dg name d h body a T kV C pm U g ct) ps sp:=by
 refine⟨len,fun A c s H args Y vs Q E hr B hb r z=>?_⟩;have hl:=len _ _ _ _ z;have X:K.In s.heap:=B.mod.kin.keeps fun b o e=>(B.bs b o e).1;have M:s.heap.NoLimit:=B.mod.nolimit.keeps fun b o e=>(B.bs b o e).1
 have l:∀y∈ps.zip Y,a.names.lookup y.1=some .local\/(a.names.lookup y.1=some .cell/\((cellsFrom (s.heap.objs.size+1) a.names []).lookup y.1).isSome=true):=fun⟨n,v⟩ hy=>by
  rcases S.par n (IR hy).1 with q|q
  ·exact .inl q
  ·exact .inr ⟨q,IX _ _ _ (.inl q)⟩
 refine codeAny_call_function hr.depth (X _ _ lk) rfl S.co S.gen rfl (PySem.W.codeRec_of X O) (hb _ _ _ _ ?_);refine wpAny_newFunctionEnv_cells S.kind l fun aa he R x=>?_;subst he;refine⟨M.keeps x.toInCall.keep,codeAny_func ?_⟩;obtain⟨t,ht,hq⟩:=m A c s H vs Q E (hr.deeper _) z;have I:Inv (Qf7 CX P w K D base N d a f g A c s H E) [] (start N vs) H R:=QcW S hr.hd B hl r x;refine NZ (ht [] R (start N vs) H _ I hq) (fun fl F p=>?_) fun e F p=>p
 have fin:∀{i:St} {j:Hp} {v:V} {u:Value},Inv (Qf7 CX P w K D base N d a f g A c s H E) [] i j F->RelV v u->Q v j->CE c P w H s Q u F:=
  fun {i j v u} J G q=>⟨v,j,J.os,J.bare,J.base,J.hok,G,q⟩
 cases fl with
 |ret u=>
  obtain⟨v,i,j,J,G,q⟩:=p;exact fin J G q
 |next=>
  obtain⟨i,j,J,q⟩:=p;exact fin (v:=V.non) (u:=Value.none) J rfl q
 |brk=>
  obtain⟨_,_,_,q⟩:=p;exact False.elim q
 |cont=>
  obtain⟨_,_,_,q⟩:=p;exact False.elim q
section
variable{X:Cx}{x:Str}{p pos:Pos}{e:Expr}{es:List Expr}{t:TA}{id T:String}{r:List V->Hp->VK->Prop}
noncomputable def tCB(r:List V->Hp->VK->Prop)(t:TA):TE:=fun a H Q=>t a H fun b c=>r b c Q
theorem Qeq(w:CallR X (.builtin id) r)(u:Gl X x)(o:X.mg x=none)(m:bootBuiltins x=some (.builtin id))(y:PA X (e::es) t)(n:x≠"__name__":=by decide)(c:(x==("__debug__":Str))=false:=by decide)
  (v:starEach (e::es) X.env=(false,eval e X.env)::starEach es X.env:=by rfl) (b:(backTo pos (starEach es X.env)).any (·.1)=false:=by rfl):PE X (.Call (.Name x p) (e::es) [] pos) (tCB r t):=by
 intro a s d H Q I h;refine EC (J1 I u o m ?_ n c);exact EW (thn (y pos a s d H _ I h) fun g i ⟨f,z,I1,j,l⟩=>w a i d z f g Q I1 j l) v b
theorem Qb6(w:CallR X (.type T) r)(u:Gl X x)(o:X.mg x=none)(m:bootBuiltins x=some (.type T))(y:PA X (e::es) t)(n:x≠"__name__":=by decide)(c:(x==("__debug__":Str))=false:=by decide)
  (v:starEach (e::es) X.env=(false,eval e X.env)::starEach es X.env:=by rfl) (b:(backTo pos (starEach es X.env)).any (·.1)=false:=by rfl):PE X (.Call (.Name x p) (e::es) [] pos) (tCB r t):=by
 intro a s d H Q I h;refine EC (J1 I u o m ?_ n c);exact N0 (thn (y pos a s d H _ I h) fun g i ⟨f,z,I1,j,l⟩=>w a i d z f g Q I1 j l) v b
end
end L2
namespace HT
open PySem PyProof.Rows
section
variable{prog:Program}{w:World}{A:Around}{E:Value->Shared->Prop}{s:Shared}
theorem cat_tup{t b:Addr}{vs ws:List Value}{Q:Value->Shared->Prop}(r:IsTup s.heap t vs.toArray)(u:IsTup s.heap b ws.toArray)(l:vs≠[])
  (x:ws=[]->Q (.ref t) s) (v:ws≠[]->Q (.ref s.heap.objs.size) { s with heap:=s.heap.push { cls:=.type "tuple",data:=.seq (vs++ws).toArray } })
  (hsz:vs.length+ws.length<=sizeLine):wpAny (model prog w) A (binaryOp .Add (.ref t) (.ref b)) Q E s:=by
 obtain⟨⟨cls,o,data,i⟩,h,m,n,hd⟩:=id r;obtain⟨⟨p,g,data2,c⟩,a,f,j,d⟩:=id u;simp only at m hd f d;subst m hd f d;have e:vs.toArray++ws.toArray=(vs++ws).toArray:=by simp
 by_cases hw:ws=[]
 ·exact LZ ⟨_,h,rfl⟩ ⟨_,a,rfl⟩ IB LH Ft Fh (D4 _ _)
   (tuple_addW1 t b vs.toArray ws.toArray n j o g i c (by simpa using l) (by simp[hw])) ⟨h,a,x hw⟩
 ·refine LZ ⟨_,h,rfl⟩ ⟨_,a,rfl⟩ IB LH Ft Fh (D4 _ _)
   (tuple_addW2 t b vs.toArray ws.toArray n j o g i c (by simpa using l) (by simpa using hw) (by rw[Nj,Nj];exact hsz)) ⟨h,a,?_⟩
  rw[e];exact v hw
noncomputable def sIx(n d:Nat):Option Int->Nat
 |none=>d
 |some v=>if v<0 then(v+(n:Int)).toNat else min v.toNat n
theorem sIx_none(n d:Nat):sIx n d none=d:=rfl
theorem sIx_nat(n d k:Nat):sIx n d (some (k:Int))=min k n:=by
 show(if(k:Int)<0 then((k:Int)+(n:Int)).toNat else min (k:Int).toNat n)=min k n;rw[if_neg (by omega),Es]
theorem QjJ(n d:Nat)(hd:d<=n)(o:Option Int):sIx n d o<=n:=by
 cases o with
 |none=>exact hd
 |some v=>
  show(if v<0 then(v+(n:Int)).toNat else min v.toNat n)<=n
  by_cases a:v<0
  ·rw[if_pos a];omega
  ·rw[if_neg a];exact Ov _ _
theorem QcQ(v:Int)(n d:Nat):(if v<0 then max (v+(n:Int)) 0 else min v (n:Int))=((sIx n d (some v):Nat):Int):=by
 show(if v<0 then max (v+(n:Int)) 0 else min v (n:Int))=(((if v<0 then(v+(n:Int)).toNat else min v.toNat n):Nat):Int)
 by_cases a:v<0
 ·simp only[if_pos a];omega
 ·simp only[if_neg a];omega
theorem Qbp(lo a:Option Int)(n:Nat):Builtin.Slice.sliceAdjust lo a 1 (n:Int)=(((sIx n 0 lo:Nat):Int),((sIx n n a:Nat):Int)):=by
 have b:¬((1:Int)<0):=by omega
 unfold Builtin.Slice.sliceAdjust;simp only[b,if_false];refine Prod.ext ?_ ?_
 ·cases lo with
  |none=>rfl
  |some v=>exact QcQ v n 0
 ·cases a with
  |none=>rfl
  |some v=>exact QcQ v n n
theorem Qbr(i j:Nat):Builtin.Slice.slicePlaces (i:Int) (j:Int) 1=j-i:=by
 unfold Builtin.Slice.slicePlaces;have a:(1:Int)>0:=by omega
 simp only[a,if_true,Int.ediv_one];split<;>omega
theorem Y6{v:Value}{o:Option Int}{Q:Option Int->Shared->Prop}(p:IsPart v o)(h:Q o s):wpAny (model prog w) A (Builtin.Slice.slicePartIndex v) Q E s:=by
 cases p with
 |none=>exact slicePart_none h
 |int i t=>exact slicePart_int h
theorem sliceApplied_gen{f:Addr}{e d:Value}{lo b:Option Int}{n:Nat}{Q:Int×Int×Nat->Shared->Prop}(j:s.heap.IsSliceOf f e d .none)(i:IsPart e lo)(g:IsPart d b)
  (h:Q (((sIx n 0 lo:Nat):Int),1,sIx n n b-sIx n 0 lo) s):wpAny (model prog w) A (Builtin.Slice.sliceApplied (.ref f) (pure (n:Int))) Q E s:=by
 obtain⟨os,a,l,c⟩:=id j;unfold Builtin.Slice.sliceApplied Builtin.Slice.sliceFields;refine Na (Na (EJ a c (x:=e) rfl (Na (EJ a c (x:=d) rfl (Na (EJ a c (x:=.none) rfl (Nh ?_)))))));refine Na (slicePart_none ?_);show wpAny _ _ (if((1:Int)==0)=true then _ else _) _ _ s;rw[if_neg (by decide)];refine Na (Y6 i (Na (Y6 g (Na (Nh ?_)))));show wpAny _ _ (match Builtin.Slice.sliceAdjust lo b 1 (n:Int)with|(lo,b)=>pure (lo,(1:Int),Builtin.Slice.slicePlaces lo b 1)) _ _ s;rw[Qbp lo b n];show wpAny _ _ (pure (((sIx n 0 lo:Nat):Int),(1:Int),Builtin.Slice.slicePlaces ((sIx n 0 lo:Nat):Int) ((sIx n n b:Nat):Int) 1)) _ _ s;rw[Qbr];exact Nh h
theorem Qfb(xs:Array Value)(i k:Nat):((List.range k).filterMap fun(m:Nat)=>xs[((i:Int)+(m:Int)*1).toNat]?).toArray=((xs.toList.drop i).take k).toArray:=by
 have e:(fun(m:Nat)=>xs[((i:Int)+(m:Int)*1).toNat]?)=fun m=>xs[i+m]?:=by
  funext m;have:((i:Int)+(m:Int)*1).toNat=i+m:=by omega
  rw[this]
 rw[e];have:=pick_run xs i k;rw[List.filterMap_map]at this;have a:((fun x=>xs[x]?)∘fun x=>i+x)=fun m=>xs[i+m]?:=rfl;rw[a]at this;rw[this]
theorem getItem_tuple_cut{t d:Addr}{items:Array Value}{l j:Value}{lo b:Option Int}{Q:Value->Shared->Prop}(c:IsTup s.heap t items)(n:s.heap.IsSliceOf d l j .none)(p:IsPart l lo)(o:IsPart j b)
  (hw:¬(sIx items.size 0 lo=0/\sIx items.size items.size b=items.size))
  (h:Q (.ref s.heap.objs.size) { s with heap:=s.heap.push { cls:=.type "tuple",data:=.seq ((items.toList.drop (sIx items.size 0 lo)).take (sIx items.size items.size b-sIx items.size 0 lo)).toArray } })
  (hsz:items.size<=sizeLine):wpAny (model prog w) A (getItem (.ref t) (.ref d)) Q E s:=by
 have a:sizeOk (.seq ((items.toList.drop (sIx items.size 0 lo)).take (sIx items.size items.size b-sIx items.size 0 lo)).toArray):=by
  show((items.toList.drop (sIx items.size 0 lo)).take (sIx items.size items.size b-sIx items.size 0 lo)).toArray.size<=sizeLine;rw[Nj,ED,FB,ND];omega
 have x:sIx items.size items.size b<=items.size:=QjJ _ _ (Nt _) b;obtain⟨os,e,g,r⟩:=id n;have i:s.TypeIs (.ref d) "slice":=⟨os,e,g⟩
 unfold getItem
 try with_reducible refine Ey ?_
 first|refine Na (Nh ?_)|skip
 refine Na (Oc c.typeIs (by decide) ?_)
 refine Na (Ep (name:=Str.ofString "__getitem__") c.typeIs N3
  (Ee N3 c.typeIs LM ?_ (L0 _ _)))
 show wpAny _ _ (Builtin.Tuple.tupleItemsOf (.ref t)>>=_) _ _ s;refine Na (tupleItemsOf_ c ?_);refine Na (FG i ?_);rw[if_pos (by decide)];refine Na (sliceApplied_gen n p o ?_)
 have f:¬((((sIx items.size 0 lo:Nat):Int)==0&&(1:Int)==1&&(sIx items.size items.size b-sIx items.size 0 lo)==items.size)=true):=by
  intro q;rw[NJ,NJ]at q;have v:((sIx items.size 0 lo:Nat):Int)=0:=E1 q.1.1;have u:sIx items.size items.size b-sIx items.size 0 lo=items.size:=E1 q.2;exact hw ⟨by omega,by omega⟩
 show wpAny _ _ (if(((sIx items.size 0 lo:Nat):Int)==0&&(1:Int)==1&&(sIx items.size items.size b-sIx items.size 0 lo)==items.size)=true then _ else _) _ _ s;rw[if_neg f,Qfb]
 first
  |exact Na (m:=Builtin.Tuple.tupleExact _) (NX (Nh ⟨_,rfl,Nh h⟩) a)
  |exact Na (m:=Builtin.Tuple.tupleExact _) (NX (Na (Nh (Nh ⟨_,rfl,Nh h⟩))) a)
  |exact Na (Na (m:=Builtin.Tuple.tupleExact _) (NX (Nh (Nh ⟨_,rfl,Nh h⟩)) a))
  |exact Na (Na (m:=Builtin.Tuple.tupleExact _) (NX (Nh ⟨_,rfl,Nh h⟩) a))
end
end HT
namespace L2
noncomputable abbrev TO:=St->Hp->(Option Int->Hp->Prop)->Prop
def PO(X:Cx)(e:Option Expr)(t:TO):Prop:=
 ∀(a:List (Addr×Obj)) (s:Shared) (b:St) (H:Hp) (Q:Option Int->Hp->Prop),Inv X a b H s->t b H Q ->
  wpAny (model X.prog X.w) X.A (evalPart e X.env) (fun u d=>∃o c,Inv X a b c d/\IsPart u o/\Q o c) X.xe s
noncomputable def Qis:TO:=fun _ H Q=>Q none H
noncomputable def QlA(t:TE):TO:=fun a H Q=>t a H fun x b=>∃i,x=.int i/\Q (some i) b
section
variable{X:Cx}{e:Expr}{te:TE}{lo hi:Option Expr}{tl th:TO}{pos p2:Pos}
theorem Qg8:PO X none Qis:=by
 intro a s b H Q I h;rw[evalPart_none];exact Nh ⟨none,H,I,.none,h⟩
theorem Qgv(h:PE X e te):PO X (some e) (QlA te):=by
 intro a s b H Q I hw;rw[evalPart_some];refine thn (h a s b H _ I hw) fun u g ⟨x,f,I1,c,d⟩=>?_;obtain⟨i,rfl,q⟩:=d;obtain⟨t,rfl⟩:=c;exact⟨some i,f,I1,.int i t,q⟩
def SlR(X:Cx)(r:V->Option Int->Option Int->Hp->VK->Prop):Prop:=
 ∀(a:List (Addr×Obj)) (s:Shared) (b:St) (H:Hp) (x:V) (v d c:Value) (lo hi:Option Int) (f:Addr) (Q:VK),Inv X a b H s->RelV x v->s.heap.IsSliceOf f d c .none->IsPart d lo->IsPart c hi->r x lo hi H Q ->
  ∃T id,typeLookup (.type T) "__getitem__"=pure (some (.builtin id))/\s.TypeIs v T/\wpAny (model X.prog X.w) X.A (getItem v (.ref f)) (EP X a b Q) X.xe s
theorem SlR.or{r i:V->Option Int->Option Int->Hp->VK->Prop}(h:SlR X r)(h':SlR X i):SlR X (fun x lo hi H Q=>r x lo hi H Q\/i x lo hi H Q):=by
 intro a s b H x v d c lo hi f Q I g m l j q
 rcases q with q|q
 ·exact h a s b H x v d c lo hi f Q I g m l j q
 ·exact h' a s b H x v d c lo hi f Q I g m l j q
noncomputable def tSl(r:V->Option Int->Option Int->Hp->VK->Prop)(te:TE)(tl th:TO):TE:=fun a H Q=>te a H fun x d=>tl a d fun l c=>th a c fun u b=>r x l u b Q
theorem QeG{r:V->Option Int->Option Int->Hp->VK->Prop}(hr:SlR X r)(E:PE X e te)(C:PO X lo tl)(hu:PO X hi th):PE X (.Subscript e (.Slice lo hi none p2) pos) (tSl r te tl th):=by
 intro a s d H Q I h;refine OK (thn (E a s d H _ I h) fun v j ⟨x,J,I1,m,p⟩=>?_);refine wpAny_Slice (thn (C a j d J _ I1 p) fun f i ⟨l,G,I2,y,o⟩=>thn (hu a i d G _ I2 o) fun vu c ⟨u,g,I3,t,n⟩=>?_);rw[evalPart_none];refine Nh ?_;have I4:Inv X a d g { c with heap:=c.heap.push { cls:=.type "slice",data:=.fields #[f,vu,.none] } }:=I3.kept (t':=c.toks) fun b ob q=>Nn _ q;obtain⟨T,id,F,B,D⟩:=hr a { c with heap:=c.heap.push { cls:=.type "slice",data:=.fields #[f,vu,.none] } } d g x v f vu l u c.heap.objs.size Q I4 m (Qq ..) y t n;show wpAny (model X.prog X.w) X.A (subscriptTail e (.Slice lo hi none p2) v (.ref c.heap.objs.size)) (EP X a d Q) X.xe { c with heap:=c.heap.push { cls:=.type "slice",data:=.fields #[f,vu,.none] } };exact tail_any (ops:=[.ref c.heap.objs.size,v]) B F D (by with_unfolding_all rfl)
noncomputable def Qep(xs:List V)(lo hi:Option Int):List V:=(xs.drop (HT.sIx xs.length 0 lo)).take (HT.sIx xs.length xs.length hi-HT.sIx xs.length 0 lo)
theorem Yl(xs:List V)(lo hi:Option Int):(Qep xs lo hi).length<=xs.length:=by
 unfold Qep;rw[ED,FB];omega
noncomputable def Qoy(K:Nd):V->Option Int->Option Int->Hp->VK->Prop:=fun x lo hi H Q=>∃a b,x=.ref a/\SqT K H a b /\
 ¬(HT.sIx b.length 0 lo=0/\HT.sIx b.length b.length hi=b.length)/\∀p,H p=none->Q (.ref p) (upd H p (.tup (Qep b lo hi)))
theorem Qjv:SlR X (Qoy X.K):=by
 intro g s u H x v y w lo hi A Q I l t n m h;obtain⟨a,d,rfl,p,hw,q⟩:=h;cases l;obtain⟨f,r,j,i⟩:=I.tuple p;have c:f.toArray.size=d.length:=by rw[Nj];exact r.length.symm
 refine⟨"tuple",_,N3.lookup,j.typeIs,?_⟩;refine HT.getItem_tuple_cut j t n m (by rw[c];exact hw) ?_ (by rw[c];exact i);rw[c];refine⟨.ref s.heap.objs.size,_,I.laid (t':=s.toks) (o:=.tup (Qep d lo hi)) (fun b ob q=>Nn _ q) (Nt _) ?_,rfl,q _ (I.hok.fresh (Nt _))⟩;exact⟨Nr (Yl d lo hi) i,_,(r.drop (HT.sIx d.length 0 lo)).take (HT.sIx d.length d.length hi-HT.sIx d.length 0 lo),OW _ _⟩
noncomputable def Qlq(K:Nd):R2:=fun x y H Q=>∃a b d c,x=.ref a/\y=.ref b/\SqT K H a d/\SqT K H b c/\d≠[]/\d.length+c.length<=sizeLine /\
 (c=[]->Q (.ref a) H)/\(c≠[]->∀p,H p=none->Q (.ref p) (upd H p (.tup (d++c))))
theorem Vals.nil_iff{xs:List V}{us:List Value}(r:Vals xs us):us=[]↔xs=[]:=by
 cases r with
 |nil=>simp
 |cons _ _=>simp
theorem Qhb:OpR X (binaryOp .Add) (Qlq X.K):=by
 intro f s E H x y v u Q I n m h;obtain⟨a,b,l,j,rfl,rfl,D,C,B,i,r,p⟩:=h;cases n;cases m;obtain⟨A,d,t,_⟩:=I.tuple D;obtain⟨g,c,p2,_⟩:=I.tuple C;refine HT.cat_tup t p2 (fun z=>B (d.nil_iff.mp z)) (fun z=>⟨.ref a,H,I,rfl,r (c.nil_iff.mp z)⟩) (fun z=>?_) (by rw[<-d.length,<-c.length];exact i);refine⟨.ref s.heap.objs.size,_,I.laid (t':=s.toks) (o:=.tup (l++j)) (fun b ob q=>Nn _ q) (Nt _) ?_,rfl,p (fun w=>z (c.nil_iff.mpr w)) _ (I.hok.fresh (Nt _))⟩;exact⟨by rw[Np];exact i,_,d.append c,OW _ _⟩
end
noncomputable def ixN(n:Nat)(i:Int):Option Nat:=if 0<=i then(if i<n then some i.toNat else none)else if -(n:Int)<=i then some (i+n).toNat else none
noncomputable def atI{a:Type}(xs:List a)(i:Int):Option a:=(ixN xs.length i).bind fun j=>xs[j]?
theorem Qdg{n:Nat}{i:Int}{j:Nat}(h:ixN n i=some j):seqIndex? i n=some j/\j<n/\-(n:Int)<=i/\i<n:=by
 unfold ixN at h
 by_cases b:0<=i
 ·rw[if_pos b]at h
  by_cases a:i<n
  ·rw[if_pos a]at h;have e:i.toNat=j:=N1 h;exact⟨by rw[Oq b a,e],by omega,by omega,a⟩
  ·rw[if_neg a]at h;cases h
 ·rw[if_neg b]at h
  by_cases a:-(n:Int)<=i
  ·rw[if_pos a]at h;have e:(i+n).toNat=j:=N1 h;exact⟨by rw[L1 (by omega) a,e],by omega,a,by omega⟩
  ·rw[if_neg a]at h;cases h
theorem Gj{a:Type}{xs:List a}{i:Int}{v:a}(h:atI xs i=some v):∃j,seqIndex? i xs.length=some j/\xs[j]?=some v/\j<xs.length/\-(xs.length:Int)<=i/\i<xs.length:=by
 unfold atI at h;cases e:ixN xs.length i with
 |none=>rw[e]at h;cases h
 |some j=>
  rw[e]at h;obtain⟨f,d,c,b⟩:=Qdg e;exact⟨j,f,h,d,c,b⟩
theorem QdI{a:Type}{xs:List a}{j:Nat}{v:a}(h:xs[j]?=some v):atI xs (j:Int)=some v:=by
 have b:j<xs.length:=(Ng.mp h).1
 have e:ixN xs.length (j:Int)=some j:=by
  unfold ixN;rw[if_pos (by omega),if_pos (by omega)];simp
 unfold atI;rw[e];exact h
def Wt(b:Expr):Prop:=∀o i,subscripted b false o i=operate [o,i] (getItem o i)
def IxR(X:Cx)(r:R2):Prop:=
 ∀(value slice:Expr) (a:List (Addr×Obj)) (s:Shared) (b:St) (H:Hp) (x y:V) (v u:Value) (Q:VK),Inv X a b H s->RelV x v->RelV y u->r x y H Q ->
  subscripted slice false v u=operate [v,u] (getItem v u)->wpAny (model X.prog X.w) X.A (subscriptTail value slice v u) (EP X a b Q) X.xe s
def MtR(X:Cx)(id:String)(r:V->List V->Hp->VK->Prop):Prop:=
 ∀(a:List (Addr×Obj)) (s:Shared) (b:St) (H:Hp) (x:V) (c:List V) (v:Value) (d:List Value) (Q:VK),Inv X a b H s->RelV x v->Vals c d->r x c H Q ->
  wpAny (model X.prog X.w) X.A (call (.builtin id) (v::d)) (EP X a b Q) X.xe s
section
variable{X:Cx}{a b:Expr}{ta tb:TE}{pos:Pos}
theorem IxR.or{r g:R2}(h:IxR X r)(h':IxR X g):IxR X (fun x y H Q=>r x y H Q\/g x y H Q):=by
 intro value slice c s d H x y v u Q I f e q i
 rcases q with q|q
 ·exact h value slice c s d H x y v u Q I f e q i
 ·exact h' value slice c s d H x y v u Q I f e q i
theorem QjY{r:R2}(hr:IxR X r)(l:PE X a ta)(j:PE X b tb)(i:Wt b):PE X (.Subscript a b pos) (tOp r ta tb):=by
 intro c s d H Q I h;exact OK (QlM l j I h fun v u e x y m I2 g f q=>hr a b c e d m x y v u Q I2 g f q (i _ _))
noncomputable def QnK(K:Nd):R2:=fun x y H Q=>∃p c i v,x=.ref p/\y=.int i/\SqL K H p c/\atI c i=some v/\Q v H
noncomputable def QnE(K:Nd):R2:=fun x y H Q=>∃p c i v,x=.ref p/\y=.int i/\SqT K H p c/\atI c i=some v/\Q v H
noncomputable def Qno:R2:=fun x y H Q=>∃z i c,x=.str z/\y=.int i/\z.length<=sizeLine/\atI z.cps.toList i=some c/\Q (.str ⟨#[c]⟩) H
theorem ix_list:IxR X (QnK X.K):=by
 intro value slice c s m H x y v u Q I D C h n;obtain⟨p,N,i,z,rfl,rfl,E,G,q⟩:=h;cases D;obtain⟨t,rfl⟩:=C;obtain⟨g,r,f,O⟩:=I.list E;obtain⟨j,d,M,R,L,J⟩:=Gj G;obtain⟨w,A,e⟩:=r.get M;have F:=r.length;have P:=YD;have fin:EP X c m Q w s:=⟨z,H,I,e,q⟩
 by_cases o:0<=i
 ·have l:i.toNat=j:=by
   rw[Oq o J]at d;exact N1 d
  exact item_listR f.isList o (by omega) (by rw[l];simpa using A) fin n
 ·have l:(i+(g.toArray.size:Int)).toNat=j:=by
   rw[L1 (by omega) L]at d;rw[Nj,<-F];exact N1 d
  exact IY (x:=w) f.isList.typeIs Od.lookup
   (wpAny_getItem_list_neg (Q:=fun r B=>r=w/\EP X c m Q r B) f.isList (by omega) (by rw[Nj]<;>omega) (by omega) (by rw[l];simpa using A) ⟨rfl,fin⟩) n
theorem ix_tup:IxR X (QnE X.K):=by
 intro value slice c s e H x y v u Q I m l h o;obtain⟨p,G,i,z,rfl,rfl,A,C,q⟩:=h;cases m;obtain⟨t,rfl⟩:=l;obtain⟨n,r,f,J⟩:=I.tuple A;obtain⟨j,E,D,O,N,M⟩:=Gj C;obtain⟨w,F,d⟩:=r.get D;have B:=r.length;have L:=YD;have fin:EP X c e Q w s:=⟨z,H,I,d,q⟩
 exact IY (x:=w) f.typeIs N3.lookup
  (getItem_tuple (j:=j) (Q:=fun r g=>r=w/\EP X c e Q r g) f (by omega) (by omega) (by rw[Nj,<-B];exact E) (by simpa using F) ⟨rfl,fin⟩) o
theorem QjZ:IxR X Qno:=by
 intro value slice d s B H x y v u Q I g f h l;obtain⟨z,i,c,rfl,rfl,D,n,q⟩:=h;obtain⟨t,rfl⟩:=g;obtain⟨C,rfl⟩:=f;obtain⟨j,e,r,F,p,o⟩:=Gj n;have m:z.cps.toList.length=z.length:=by simp[Str.length]
 rw[m]at e p o;have E:=YD
 exact tail_any (FH s z t) slot_str_getitem.lookup (getItem_str (c:=c) (by
  have A:decide (i < -(2^63:Int))=false:=decide_eq_false (by omega);have w:decide (i >= 2^63)=false:=decide_eq_false (by omega)
  rw[A,w,LI]) (by rw[e];simpa using r) ⟨.str ⟨#[c]⟩,H,I.tok _,⟨_,rfl⟩,q⟩) l
noncomputable def rIx(K:Nd):R2:=fun x y H Q=>QnK K x y H Q\/QnE K x y H Q\/Qno x y H Q
theorem Qkr:IxR X (rIx X.K):=ix_list.or (ix_tup.or QjZ)
theorem Qbx(c:List Value)(n j:Nat)(u:Value):Obj.mapSeq (·.setIfInBounds j u) { cls:=.type "list",data:=.seq c.toArray n }={ cls:=.type "list",data:=.seq (c.set j u).toArray n }:=by
 simp[Obj.mapSeq]
theorem Inv.lst{d:List (Addr×Obj)}{σ:St}{H:Hp}{s:Shared}{p:Addr}{xs:List V}(I:Inv X d σ H s)(h:H p=some (.lst xs)) :
  ∃(c:List Value) (n:Nat),Vals xs c/\s.heap.get? p=some { cls:=.type "list",data:=.seq c.toArray n }/\xs.length<=sizeLine:=by
 obtain⟨z,c,n,r,e⟩:=I.hok p _ h;exact⟨c,n,r,e,z⟩
theorem Inv.lstUpd{c:List (Addr×Obj)}{σ:St}{H:Hp}{s:Shared}{p:Addr}{xs ys:List V}{d its':List Value}{n g:Nat}{f:Obj->Obj}(I:Inv X c σ H s)(h:H p=some (.lst xs))
  (j:s.heap.get? p=some { cls:=.type "list",data:=.seq d.toArray n }) (i:f { cls:=.type "list",data:=.seq d.toArray n }={ cls:=.type "list",data:=.seq its'.toArray g }) (r:Vals ys its') (hz:ys.length<=sizeLine) (t:Nat) :
  Inv X c σ (upd H p (.lst ys)) { s with heap:=s.heap.update p f,toks:=t }:=by
 have e:(s.heap.update p f).get? p=some { cls:=.type "list",data:=.seq its'.toArray g }:=by
  rw[Eb f j (by rw[i]<;>rfl),i]
 refine I.write (x:=p) (e:=p) (by rw[h];trivial) (.inl rfl) (fun b u l q=>(EK _ _ (Da l)).trans q) ⟨_,e⟩ ?_;exact⟨hz,its',g,r,e⟩
noncomputable def QkP:V->V->V->Hp->(Hp->Prop)->Prop:=fun o i v H Q=>∃p c k j,o=.ref p/\i=.int k/\H p=some (.lst c)/\ixN c.length k=some j/\Q (upd H p (.lst (c.set j v)))
theorem set_list:Qni X QkP:=by
 intro c s A H o i v J L u Q I D E C h;obtain⟨p,B,k,j,rfl,rfl,m,G,q⟩:=h;cases D;obtain⟨t,rfl⟩:=E;obtain⟨d,n,r,f,F⟩:=I.lst m;obtain⟨e,N,x,w⟩:=Qdg G;have g:=r.length;have M:=YD
 have z:Inv X c A (upd H p (.lst (B.set j v))) { s with heap:=s.heap.update p (Obj.mapSeq (·.setIfInBounds j u)) }:=
  I.lstUpd m f (Qbx d n j u) (r.set C j) (by rw[Dk];exact F) s.toks
 by_cases y:0<=k
 ·have l:k.toNat=j:=by
   rw[Oq y w]at e;exact N1 e
  exact PySem.W.ki_setAt f y (by omega) (by rw[Nj,<-g];exact w) (by rw[l];exact⟨_,z,q⟩)
 ·have l:(k+(d.toArray.size:Int)).toNat=j:=by
   rw[L1 (by omega) x]at e;rw[Nj,<-g];exact N1 e
  exact PySem.W.ki_setBack f (by omega) (by rw[Nj,<-g];exact x) (by omega) (by rw[l];exact⟨_,z,q⟩)
theorem U9(lo c:Option Int)(n:Nat):(sliceBounds lo c none n).1=((HT.sIx n 0 lo:Nat):Int)/\(sliceBounds lo c none n).2.1=((HT.sIx n n c:Nat):Int)/\(sliceBounds lo c none n).2.2=1:=by
 refine⟨?_,?_,rfl⟩
 ·cases lo with
  |none=>simp[sliceBounds,HT.sIx]
  |some i=>
   simp only[sliceBounds,HT.sIx,Ox,show(1:Int)>0 by decide,if_true]
   by_cases h:i<0
   ·simp only[h,if_true]<;>omega
   ·simp only[h,if_false]<;>omega
 ·cases c with
  |none=>simp[sliceBounds,HT.sIx]
  |some i=>
   simp only[sliceBounds,HT.sIx,Ox,show(1:Int)>0 by decide,if_true]
   by_cases h:i<0
   ·simp only[h,if_true]<;>omega
   ·simp only[h,if_false]<;>omega
theorem WX(c:List Value)(lo d:Option Int):slicePick c.toArray lo d none=((c.drop (HT.sIx c.length 0 lo)).take (HT.sIx c.length c.length d-HT.sIx c.length 0 lo)).toArray:=by
 obtain⟨g,f,e⟩:=U9 lo d c.toArray.size;unfold slicePick;rw[g,f,e];simp only[sliceRange_one,pick_run,Nj]<;>rfl
noncomputable def Qou(K:Nd):V->Option Int->Option Int->Hp->VK->Prop:=fun x lo d H Q=>∃a c,x=.ref a/\SqL K H a c/\∀p,H p=none->Q (.ref p) (upd H p (.lst (Qep c lo d)))
theorem sl_list:SlR X (Qou X.K):=by
 intro f s u H x v y w lo e A Q I i t l j h;obtain⟨a,c,rfl,p,q⟩:=h;cases i;obtain⟨m,r,g,n⟩:=I.list p;have d:=r.length;refine⟨"list",_,Od.lookup,g.isList.typeIs,?_⟩;refine wpAny_getItem_list_slice g.isList t l j .none (by simp) ?_ (by rw[Nj]<;>omega);rw[WX,<-d];refine⟨.ref s.heap.objs.size,_,I.laid (t':=s.toks) (o:=.lst (Qep c lo e)) (fun b ob q=>Nn _ q) (Nt _) ?_,rfl,q _ (I.hok.fresh (Nt _))⟩;exact⟨Nr (Yl c lo e) n,_,0,(r.drop (HT.sIx c.length 0 lo)).take (HT.sIx c.length c.length e-HT.sIx c.length 0 lo),Nw _ rfl⟩
noncomputable def Qih:V->Bool
 |.non=>true
 |.bl _=>true
 |.int _=>true
 |.str _=>true
 |_=>false
noncomputable def eqV:V->V->Bool
 |.non,.non=>true
 |.bl a,.bl b=>a==b
 |.bl a,.int b=>(if a then 1 else 0)==b
 |.int a,.bl b=>a==(if b then 1 else 0)
 |.int a,.int b=>a==b
 |.str a,.str b=>a==b
 |_,_=>false
theorem Qi3{A:Around}{s:Shared}{y x:V}{u v:Value}(e:RelV y u)(c:RelV x v)(g:Qih y=true)(f:Qih x=true):SeqAt.EqAt A s u v (eqV y x):=by
 cases y with
 |non=>
  cases e;cases x with
  |non=>cases c;exact SeqAt.EqAt.same _
  |bl b=>cases c;exact SeqAt.EqAt.none_bool b
  |int b=>obtain⟨t,rfl⟩:=c;exact SeqAt.EqAt.none_int b t
  |str b=>obtain⟨t,rfl⟩:=c;exact SeqAt.EqAt.none_str b t
  |_=>exact absurd (show false=true from f) Ea
 |bl a=>
  cases e;cases x with
  |non=>cases c;exact SeqAt.EqAt.bool_none a
  |bl b=>cases c;exact SeqAt.EqAt.bool_bool a b
  |int b=>obtain⟨t,rfl⟩:=c;exact SeqAt.EqAt.bool_int a b t
  |str b=>obtain⟨t,rfl⟩:=c;exact SeqAt.EqAt.bool_str a b t
  |_=>exact absurd (show false=true from f) Ea
 |int a=>
  obtain⟨d,rfl⟩:=e;cases x with
  |non=>cases c;exact SeqAt.EqAt.int_none a d
  |bl b=>cases c;exact SeqAt.EqAt.int_bool a d b
  |int b=>obtain⟨t,rfl⟩:=c;exact SeqAt.EqAt.int_int a d b t
  |str b=>obtain⟨t,rfl⟩:=c;exact LU a d b t
  |_=>exact absurd (show false=true from f) Ea
 |str a=>
  obtain⟨d,rfl⟩:=e;cases x with
  |non=>cases c;exact SeqAt.EqAt.str_none a d
  |bl b=>cases c;exact SeqAt.EqAt.str_bool a d b
  |int b=>obtain⟨t,rfl⟩:=c;exact LV a d b t
  |str b=>obtain⟨t,rfl⟩:=c;exact SeqAt.EqAt.str_str a d b t
  |_=>exact absurd (show false=true from f) Ea
 |_=>exact absurd (show false=true from g) Ea
theorem call_len_seq:CallR X (.builtin "len") (fun xs H Q=>∃p ys,xs=[.ref p]/\(SqL X.K H p ys\/SqT X.K H p ys)/\Q (.int ys.length) H):=by
 intro i s m H xs n Q I r h;obtain⟨p,ys,rfl,d,q⟩:=h;obtain⟨u,rfl,j⟩:=XW r;cases j;have o:=YD
 rcases d with d|d
 ·obtain⟨g,e,f,l⟩:=I.list d;have c:=e.length;exact Calls.call_len_list f.isList (by simp only[Nj]<;>omega) ⟨.int ys.length,H,I.tok _,⟨s.toks+1,by rw[Nj,c]⟩,q⟩
 ·obtain⟨g,e,f,l⟩:=I.tuple d;have c:=e.length;exact len_tuple f (by simp only[Nj]<;>omega) ⟨.int ys.length,H,I.tok _,⟨s.toks+1,by rw[Nj,c]⟩,q⟩
theorem UJ:CallR X (.builtin "len") (fun xs H Q=>∃z,xs=[.str z]/\z.length<=sizeLine/\Q (.int z.length) H):=by
 intro c s d H xs e Q I r h;obtain⟨z,rfl,f,q⟩:=h;obtain⟨u,rfl,t,rfl⟩:=XW r;have g:=YD;exact len_str (by omega) ⟨.int z.length,H,I.tok _,⟨_,rfl⟩,q⟩
theorem CallR.or{f:Value}{r i:List V->Hp->VK->Prop}(h:CallR X f r)(h':CallR X f i):CallR X f (fun xs H Q=>r xs H Q\/i xs H Q):=by
 intro c s d H xs e Q I g q
 rcases q with q|q
 ·exact h c s d H xs e Q I g q
 ·exact h' c s d H xs e Q I g q
theorem Ga:CallR X (.type "list") (fun xs H Q=>∃p ys,xs=[.ref p]/\(SqL X.K H p ys\/SqT X.K H p ys)/\∀l,H l=none->Q (.ref l) (upd H l (.lst ys))):=by
 intro i s B H xs D Q I r h;obtain⟨p,ys,rfl,t,q⟩:=h;obtain⟨u,rfl,C⟩:=XW r;cases C
 have fin:∀(c:List Value),Vals ys c->ys.length<=sizeLine->∀(d:Heap) (g:Nat),(∀b A,s.heap.get? b=some A->d.get? b=some A) ->
   d.get? s.heap.objs.size=some { cls:=.type "list",dict:=none,data:=.seq c.toArray g,slots:=#[] }->EP X i B Q (.ref s.heap.objs.size) { s with heap:=d }:=fun c f m d g j e=>
  ⟨.ref s.heap.objs.size,_,I.laid (t':=s.toks) j (Nt _) (show ObjOk X.prog X.w _ d _ (.lst ys)from⟨m,c,g,f,e⟩),rfl,q _ (I.hok.fresh (Nt _))⟩
 rcases t with t|t
 ·obtain⟨c,f,x,m⟩:=I.list t;have v:=f.length;obtain⟨o,y,z,n,hd⟩:=x.isList;exact call_list_seq p (.inl rfl) y z hd (fun d g j e=>fin c f m d g j e) (by simp only[Nj]<;>omega)
 ·obtain⟨c,f,x,m⟩:=I.tuple t;have v:=f.length;obtain⟨o,y,z,n,hd⟩:=x;exact call_list_seq p (.inr rfl) y z hd (fun d g j e=>fin c f m d g j e) (by simp only[Nj]<;>omega)
theorem WL:CallR X (.type "tuple") (fun xs H Q=>∃p ys,xs=[.ref p]/\((SqL X.K H p ys/\∀l,H l=none->Q (.ref l) (upd H l (.tup ys)))\/(SqT X.K H p ys/\Q (.ref p) H))):=by
 intro c s m H xs z Q I r h;obtain⟨p,ys,rfl,h⟩:=h;obtain⟨u,rfl,x⟩:=XW r;cases x
 rcases h with⟨j,q⟩|⟨j,q⟩
 ·obtain⟨d,g,i,n⟩:=I.list j;have t:=g.length;refine call_tuple_list i.isList (fun f y=>?_) (by simp only[Nj]<;>omega);have I1:Inv X c m H { s with heap:=f }:=I.kept (t':=s.toks) y
  have I2:Inv X c m (upd H f.objs.size (.tup ys)) { s with heap:=f.push { cls:=.type "tuple",data:=.seq d.toArray } }:=
   I1.laid (t':=s.toks) (fun b o e=>Nn _ e) (Nt _) (show ObjOk X.prog X.w _ _ _ (.tup ys)from⟨n,d,g,OW _ _⟩)
  exact⟨.ref f.objs.size,_,I2,rfl,q _ (I1.hok.fresh (Nt _))⟩
 ·obtain⟨d,g,i,n⟩:=I.tuple j;exact call_tuple_same i ⟨.ref p,H,I,rfl,q⟩
def tyV(K:Nd)(T:String)(x:V)(H:Hp):Prop:=match x with
 |.str _=>T="str"
 |.int _=>T="int"
 | .ref p=>(T="list"/\∃c,SqL K H p c)\/(T="tuple"/\∃o,K.lookup p=some o/\o.cls=.type "tuple"/\o.dict=none) \/
   (T="dict"/\((∃kvs,H p=some (.dK kvs))\/∃kvs,H p=some (.dT kvs)))\/(T="set"/\∃S n,H p=some (.set S n))
 |_=>False
theorem Qgl{g:List (Addr×Obj)}{σ:St}{H:Hp}{s:Shared}{T:String}{x:V}{v:Value}(I:Inv X g σ H s)(r:RelV x v)(ty:tyV X.K T x H) :
  s.TypeIs v T/\∀a,v=.ref a->∃ob,s.heap.get? a=some ob/\ob.dict=none:=by
 cases x with
 |str z=>
  obtain⟨t,rfl⟩:=r;cases(show T="str"from ty);exact⟨FH s z t,fun _ e=>nomatch e⟩
 |int i=>
  obtain⟨t,rfl⟩:=r;cases(show T="int"from ty);exact⟨OL s i t,fun _ e=>nomatch e⟩
 | ref p=>
  cases r
  rcases ty with⟨rfl,w,m⟩|⟨rfl,o,d,u,hd⟩|⟨rfl,d⟩|⟨rfl,S,n,d⟩
  ·obtain⟨l,_,j,_⟩:=I.list m;refine⟨j.isList.typeIs,fun a e=>?_⟩;cases e;obtain⟨o,n,e,c,hd,_⟩:=j;exact⟨o,e,hd⟩
  ·refine⟨⟨o,I.kIn p o d,u⟩,fun a e=>?_⟩;cases e;exact⟨o,I.kIn _ o d,hd⟩
  ·have z:∃o,s.heap.get? p=some o/\o.ExactDict:=by
    rcases d with⟨kvs,d⟩|⟨kvs,d⟩
    ·obtain⟨_,_,_,_,o,_,_,e,f,_⟩:=I.hok p _ d;exact⟨o,e,f⟩
    ·obtain⟨_,_,_,_,o,_,_,e,f,_⟩:=I.hok p _ d;exact⟨o,e,f⟩
   obtain⟨o,e,f⟩:=z;refine⟨⟨o,e,f.1⟩,fun a h=>?_⟩;cases h;exact⟨o,e,f.2.1⟩
  ·obtain⟨o,_,_,_,e,f,_⟩:=I.hok p _ d;refine⟨⟨o,e,f.1⟩,fun a h=>?_⟩;cases h;exact⟨o,e,f.2.1⟩
 |_=>exact False.elim ty
noncomputable def QoC(K:Nd)(T:String)(r:V->List V->Hp->VK->Prop)(e:TE):TE:=fun d H Q=>e d H fun x c=>tyV K T x c/\r x [] c Q
noncomputable def tBM(K:Nd)(T:String)(r:V->List V->Hp->VK->Prop)(f:TE)(t:TA):TE:=fun c H Q=>f c H fun x d=>tyV K T x d/\t c d fun e g=>r x e g Q
variable{o e:Expr}{es:List Expr}{to:TE}{t:TA}{name:Str}{apos cpos:Pos}{T id:String}{r:V->List V->Hp->VK->Prop}
theorem QjF(n:PlainAttrs T)(slot:Slot T name id)(g:typeOf (.builtin id)=pure (.type "method_descriptor"))(u:MtR X id r)(p:PE X o to)
  (f:attributeBase o name X.env (eval o X.env)=eval o X.env:=by rfl) (d:(apos.endLine==cpos.line)=true:=by rfl):PE X (.Call (.Attribute o name apos) [] [] cpos) (QoC X.K T r to):=by
 intro c s i H Q I h;refine wpAny_Call_method0_late f d (thn (p c s i H _ I h) fun v l ⟨x,z,I1,j,ty,m⟩=>?_);obtain⟨y,w⟩:=Qgl I1 j ty;exact⟨T,id,n,slot,g,y,w,IZ rfl (PySem.evalArgs_none (u c l i z x [] v [] Q I1 j .nil m))⟩
theorem Qmz(C:PlainAttrs T)(slot:Slot T name id)(l:typeOf (.builtin id)=pure (.type "method_descriptor"))(F:MtR X id r)(E:PE X o to)(G:PA X (e::es) t)
  (g:attributeBase o name X.env (eval o X.env)=eval o X.env:=by rfl)
  (i:((backTo cpos (starEach (e::es) X.env)).all (fun x=>!x.1)&&(backToKw cpos (keywordEach [] X.env)).all (fun x=>x.1.isSome)
   && decide ((e::es).length+([]:List Keyword).length+(if([]:List Keyword).isEmpty then 0 else 1)<30))=true:=by rfl)
  (f:(apos.endLine==cpos.line)=true:=by rfl) (D:starEach (e::es) X.env=(false,eval e X.env)::starEach es X.env:=by rfl) (d:(backTo cpos (starEach es X.env)).any (·.1)=false:=by rfl) :
  PE X (.Call (.Attribute o name apos) (e::es) [] cpos) (tBM X.K T r to t):=by
 intro c s j H Q I h;refine wpAny_Call_method_late g i f rfl (thn (E c s j H _ I h) fun v y ⟨x,N,I1,m,ty,B⟩=>?_);obtain⟨L,J⟩:=Qgl I1 m ty;refine⟨T,id,C,slot,l,L,J,?_⟩;have n:=G cpos c y j N _ I1 B;rw[D]at n ⊢;refine IZ (by show(false ||(backTo cpos (starEach es X.env)).any (·.1))=false;rw[d]<;>rfl) (Calls.evalArgs_plain ?_);exact thn n fun u w ⟨p,M,I2,z,A⟩=>F c w j M x p v u Q I2 m z A
end
def MtM(X:Cx)(id:String)(r:V->List V->Hp->VK->Prop):Prop:=
 ∀(a:List (Addr×Obj)) (s:Shared) (b:St) (H:Hp) (x:V) (c:List V) (v:Value) (d:List Value) (Q:VK),Inv X a b H s->RelV x v->Vals c d->r x c H Q ->
  wpAny (model X.prog X.w) X.A (call (.builtin id) (v::d)) (EP X a b Q) X.xe s
theorem Vals.one:∀{x:V} {us:List Value},Vals [x] us->∃u,us=[u]/\RelV x u
 |_,_,.cons r .nil=>⟨_,rfl,r⟩
theorem Vals.zero:∀{us:List Value},Vals [] us->us=[]
 |_,.nil=>rfl
theorem Vals.dropLast{xs:List V}{us:List Value}(h:Vals xs us):Vals xs.dropLast us.dropLast:=by
 induction h with
 |nil=>exact .nil
 |cons r t a=>
  cases t with
  |nil=>exact .nil
  |cons q b=>exact .cons r a
theorem Vals.eraseIdx:∀{xs:List V} {us:List Value} (i:Nat),Vals xs us->Vals (xs.eraseIdx i) (us.eraseIdx i)
 |_,_,_,.nil=>.nil
 |_,_,0,.cons _ t=>t
 |_,_,i+1,.cons r t=>.cons r (Vals.eraseIdx i t)
theorem Vals.reverse{xs:List V}{us:List Value}(h:Vals xs us):Vals xs.reverse us.reverse:=by
 induction h with
 |nil=>exact .nil
 |cons r t a=>rw[Ij,Ij];exact Vals.append a (.cons r .nil)
theorem QbB{c:Type}(l:List c):l.eraseIdx (l.length-1)=l.dropLast:=by
 induction l with
 |nil=>rfl
 | cons a r d=>
  cases r with
  |nil=>rfl
  | cons b r=>
   have e:(a::b::r).length-1=((b::r).length-1)+1:=by
    have g:(a::b::r).length=r.length+2:=rfl;have f:(b::r).length=r.length+1:=rfl;omega
   rw[e,List.eraseIdx_cons_succ,d]
   all_goals rfl
section
variable{X:Cx}{pins:List (Addr×Obj)}{σ:St}{H:Hp}{s:Shared}{l b:Addr}{xs ys zs:List V}
theorem Inv.lset{a its':List Value}{n:Nat}{f:Array Value->Array Value}{t':Nat}(I:Inv X pins σ H s)(h:H l=some (.lst xs))
  (e:s.heap.get? l=some { cls:=.type "list",data:=.seq a.toArray n }) (d:f a.toArray=its'.toArray) (c:Vals ys its') (hz:ys.length<=sizeLine) :
  Inv X pins σ (upd H l (.lst ys)) { s with heap:=s.heap.update l (Obj.mapSeq f),toks:=t' }:=by
 have q:=Oy e f;rw[d]at q;refine I.write (x:=l) (e:=l) (by rw[h];exact trivial) (.inl rfl) (fun i u g hu=>(EK s.heap (Obj.mapSeq f) (Da g)).trans hu) ⟨_,q⟩ ?_;exact⟨hz,its',_,c,q⟩
theorem Inv.lnew{a:List Value}{t':Nat}(I:Inv X pins σ H s)(c:Vals ys a)(hz:ys.length<=sizeLine) :
  Inv X pins σ (upd H s.heap.objs.size (.lst ys)) { s with heap:=s.heap.push { cls:=.type "list",data:=.seq a.toArray },toks:=t' }:=
 I.laid (fun _ _ q=>Nn _ q) (Nt _) ⟨hz,a,0,c,Nw _ rfl⟩
theorem Inv.fresh(I:Inv X pins σ H s):H s.heap.objs.size=none:=I.hok.fresh (Nt _)
theorem Inv.lstM(I:Inv X pins σ H s)(c:H l=some (.lst xs)):xs.length<=sizeLine/\∃(a:List Value) (n:Nat),Vals xs a/\xs.length=a.length/\s.heap.get? l=some { cls:=.type "list",data:=.seq a.toArray n }:=by
 obtain⟨z,a,n,r,e⟩:=I.hok l _ c;exact⟨z,a,n,r,r.length,e⟩
theorem Qao{n:Nat}(h:n<=sizeLine):Builtin.List.listTooLong n=false:=by
 unfold Builtin.List.listTooLong;exact decide_eq_false (by omega)
end
section
variable{X:Cx}
noncomputable def QgJ:V->List V->Hp->VK->Prop:=fun x b H Q=>∃l a y,x=.ref l/\b=[y]/\H l=some (.lst a)/\a.length<sizeLine/\Q .non (upd H l (.lst (a++[y])))
theorem Qdm:MtM X "list.append" QgJ:=by
 intro b s j H x o v p Q I f g h;obtain⟨l,m,y,rfl,rfl,d,t,q⟩:=h;cases f;obtain⟨u,rfl,i⟩:=g.one;obtain⟨z,a,n,r,w,e⟩:=I.lstM d;refine Dd FI ⟨_,e,rfl⟩ LN (Lx _ _) (Oe l a.toArray n u (by rw[Nj];omega)) ⟨e,?_⟩;refine⟨.non,_,I.lset (its':=a++[u]) d e (by simp) (r.append (.cons i .nil)) ?_,rfl,q⟩;rw[Np,NK];omega
noncomputable def Qgs:V->List V->Hp->VK->Prop:=fun x d H Q=>∃l b c a,x=.ref l/\d=[.ref b]/\H l=some (.lst c)/\H b=some (.lst a)/\c.length+a.length<=sizeLine/\Q .non (upd H l (.lst (c++a)))
theorem Qc2:MtM X "list.extend" Qgs:=by
 intro g s C H x G v J Q I m o h;obtain⟨l,b,F,D,rfl,rfl,j,A,L,q⟩:=h;cases m;obtain⟨u,rfl,p⟩:=o.one;cases p;obtain⟨z,c,n,r,M,e⟩:=I.lstM j;obtain⟨E,a,w,t,y,B⟩:=I.lstM A;have f:c.toArray.size+a.toArray.size<=sizeLine:=by rw[Nj,Nj];omega
 have d:¬(!c.toArray.isEmpty&&Builtin.List.listTooLong (c.toArray.size+a.toArray.size))=true:=by
  rw[Qao f,E9];exact Ea
 refine Dd Dh ⟨_,e,rfl⟩ LO (Ly _ _)
  (AutoSeq1.list_extend_list_list_0 l c.toArray n b a.toArray w d (by rw[Nj];omega) (by omega)) ⟨e,B,?_⟩
 refine⟨.non,_,I.lset (its':=c++a) j e (by simp) (r.append t) ?_,rfl,q⟩;rw[Np];omega
noncomputable def Qn6:V->List V->Hp->VK->Prop:=fun x b H Q=>∃l a y,x=.ref l/\b=[]/\H l=some (.lst a)/\a[a.length-1]?=some y/\Q y (upd H l (.lst a.dropLast))
theorem QiR:MtM X "list.pop" Qn6:=by
 intro d s t H x A v B Q I i j h;obtain⟨l,w,y,rfl,rfl,g,o,q⟩:=h;cases i;have c:=j.zero;subst c;obtain⟨z,a,n,r,p,e⟩:=I.lstM g;obtain⟨u,hu,m⟩:=r.get o
 have b:a.toArray[a.toArray.size-1]?=some u:=by
  show a.toArray[a.length-1]?=some u;rw[<-Eo,<-p];exact hu
 refine Dd FQ ⟨_,e,rfl⟩ F.entry_list_pop (F.args_list_pop_1 _) (MeetsSeq.list_pop_last l a.toArray n u b (by rw[Nj];omega)) ⟨e,?_⟩;refine⟨y,_,I.lset (its':=a.dropLast) g e ?_ r.dropLast ?_,m,q⟩
 ·show a.toArray.eraseIdxIfInBounds (a.toArray.size-1)=a.dropLast.toArray;rw[Nj,List.eraseIdxIfInBounds_toArray,QbB]
 ·rw[Lz];omega
noncomputable def QoW:R2:=fun x y H Q=>∃l b c a,x=.ref l/\y=.ref b/\H l=some (.lst c)/\H b=some (.lst a)/\c.length+a.length<=sizeLine/\∀p,H p=none->Q (.ref p) (upd H p (.lst (c++a)))
theorem QjA:OpR X (binaryOp .Add) QoW:=by
 intro d s w H x y v u Q I g f h;obtain⟨l,b,C,A,rfl,rfl,m,o,F,q⟩:=h;cases g;cases f;obtain⟨z,c,n,r,G,e⟩:=I.lstM m;obtain⟨B,a,E,i,j,t⟩:=I.lstM o;refine PySem.P.add_list e t ?_ (by rw[Nj,Nj];omega);have p:c.toArray++a.toArray=(c++a).toArray:=by simp
 rw[p];exact⟨.ref _,_,I.lnew (t':=s.toks) (r.append i) (by rw[Np];omega),rfl,q _ I.fresh⟩
end
end L2
namespace Att
open PySem PySem.W PySem.Calls PyProof.Rows
theorem Yr{P:Params}{h:Heap}:∀(ns:List Int) (vs:List Value),WellAll P h vs (ns.map WData.int)->IntsAre vs ns:=by
 intro ns
 induction ns with
 |nil=>
  intro vs w;rw[IC]at w;cases w;exact .nil
 | cons n ns c=>
  intro vs w;rw[Nz]at w;cases w with
  |cons a b=>
   cases a;exact .cons _ _ (c _ b)
theorem Qdo{l:OpenLaw}{n:Nat}(u:l.most=some n){P:Params}{h:Heap}{args:List WData}{vals:List Value}
  (b:l.row.toRowW.claim.pre args=true) (i:WellAll P h vals args) :
  ∃a vs ns,vals=[Value.ref a]/\args=[WData.list (ns.map WData.int)]/\h.get? a=some { cls:=.type "list",data:=.seq vs.toArray }/\IntsAre vs ns/\ns.length<=n:=by
 have j:WShape.hasAll [] args [.list .int]=true:=(pre_splitW b).1;have m:l.pre.holds [] { args:=args }=true:=(pre_splitW b).2;obtain⟨d,r,rfl,x,w⟩:=hasAllW_cons j;obtain rfl:=hasAllW_nil w;obtain⟨y,rfl,v⟩:=hasW_list x;obtain⟨ns,rfl⟩:=items_int v
 have c:ns.length<=n:=by
  unfold OpenLaw.pre at m
  have g:(WTm.not (.lt (.lit (.int (n:Int))) (.len (.arg 0)))).holds [] { args:=[.list (ns.map .int)] }=true:=by
   have g:=(holds_andW m).1;rw[u]at g;exact g
  have f:=condW_of g (w_not (w_lt w_lit (w_len_list (w_arg rfl))));rw[Nu]at f;refine Nat.le_of_not_lt fun q=>?_;have s:(n:Int)<((ns.length:Nat):Int):=by omega
  first
   |(rw[decide_eq_true s]at f;exact absurd f (by decide))
   |(simp at f;omega)
 cases i with
 |cons p o=>
  cases o;cases p with
  |list t e=>exact⟨_,_,ns,rfl,rfl,t,Yr ns _ e,c⟩
theorem QbZ(l:OpenLaw)(args:List WData):l.row.toRowW.claim.post args (.bool true) args=true:=
 postW_of (r:=l.row.toRowW) (X:=(true==true))
  (show WShape.has [] (.bool true) .bool=true by first|rfl|decide|simp[WShape.has,WShape.arms,WShape.armsAll])
  (show(WTm.eq .res (.lit (.bool true))).value [] { args:=args,res:=some (.bool true),after:=args }=some (.bool (true==true))from w_eq_bool (w_res rfl) w_lit) rfl
theorem attach_call{l:OpenLaw}{n:Nat}{q:Program}{e:List Str}{D:(Str->Option Value)->Heap->Prop}{C:World->Heap->Prop}{d:DefRec}
  (I:l.most=some n) (y:d.params.defaults=[])
  (call:∀(w:World) (c b:Shared) (t u:Str->Option Value) (p:Addr) (o:Obj) (pm cd h:Value) (a:Addr) (vs:List Value) (ns:List Int),
   Ground q e [] D w c t u b.heap->C w b.heap ->
   b.heap.get? p=some o->o.data=.func (docDef d.name d.params d.body d.scope pm cd h)->b.heap.CodeRec cd d.name->t d.name=some (.ref p) ->
   b.heap.get? a=some { cls:=.type "list",data:=.seq vs.toArray }->IntsAre vs ns->ns.length<=n->b.gens=#[] ->
   codeAny (model l.prog w) callerA (.call (.ref p) ⟨[.ref a],[]⟩) (fun r s=>r=.ok (.ret (.bool true))/\OldK b.heap s.heap/\s.os=b.os/\AllBare s.gens) b) :
  WalkO q e D C l.row.toRowW d [] (fun f vs=>OM f vs):=by
 intro w c b t u G Y p o pm cd h Q kV H hd z B x M args vals as i A E v L;obtain rfl:Q=.none:=Dflts.none B y;obtain rfl:kV=.none:=Dflts.noKw B;obtain⟨a,vs,ns,rfl,rfl,j,g,m⟩:=Qdo I i v;refine enter_call (D3 (call w c b t u p o pm cd h a vs ns G Y H (fd_plain hd) z x j g m M) fun r s F=>?_);obtain⟨rfl,P,O,N⟩:=F;exact⟨.inl ⟨.bool true,.bool true,[],rfl,fun _=>rfl,.bool true,QbZ l _,fun _=>⟨List.Pairwise.nil,fun _ J=>(nomatch J)⟩⟩,P,O,N⟩
end Att
namespace L2
theorem US:∀{vs:List Value} {ns:List Int},IntsAre vs ns->Vals (ns.map V.int) vs
 |_,_,.nil=>.nil
 |_,_,.cons n t h=>.cons ⟨t,rfl⟩ (US h)
def QlB(H:Hp):Prop:=∀b,H b=none\/∃o a,H b=some (.frz o (.lst a))
theorem Qel{P:Program}{w:World}{K:Nd}{t M:Str->Option Value}{CX:CXT}{k:Nat}{S a:Addr}{fd:FuncData}{x:Str}{sp:Sp}{c:Shared}{vs:List Value}{ns:List Int}
  (KX:K.In c.heap) (C:c.heap.Ns mainGlobals t) (g:c.heap.Ns builtinsNs M) (Q:∀x:Str,x≠"__name__"->M x=bootBuiltins x) (D:c.heap.NoLimit) (hg:c.gens=#[])
  (J:c.heap.get? a=some { cls:=.type "list",data:=.seq vs.toArray }) (Y:IntsAre vs ns) (X:ns.length<=sizeLine) (hr:Room k callerA)
  (F:∀base:Heap,K.In base->base.Ns mainGlobals t->FnOk P w K t base CX k S fd [x] sp) (l:∀(s:Shared) (u:Value),BindsTo s fd ⟨[u],[]⟩ [(x,u)])
  (N:∀H:Hp,QlB H->SqL K H a (ns.map V.int)->sp [.ref a] H (fun v _=>v=.bl true) fun _ _ _=>False)
  (R:∀H e i,CX [] H c (fun _ _ _=>False) e i->False) :
  codeAny (model P w) callerA (.call (.ref S) ⟨[.ref a],[]⟩) (fun r i=>r=.ok (.ret (.bool true))/\OldK c.heap i.heap/\i.os=c.os/\AllBare i.gens) c:=by
 have U:=US Y;have y:=Y.length
 have core:∀H:Hp,QlB H->SqL K H a (ns.map V.int)->HOk P w H c.heap->(∀b,H b≠none->b=a)->(H a≠none->K.lookup a=none) ->
   codeAny (model P w) callerA (.call (.ref S) ⟨[.ref a],[]⟩) (fun r i=>r=.ok (.ret (.bool true))/\OldK c.heap i.heap/\i.os=c.os/\AllBare i.gens) c:=by
  intro H Z hS B hA hK;have f:∀{b:Addr} {o:Obj},c.heap.get? b=some o->H b=none->(Qfj c.heap H).get? b=some o:=fun e n=>Qfd e n
  have L:∀{b:Addr} {o:Obj} {G:Array DictEntry} {I:Nat},c.heap.get? b=some o->o.data=.dict G I->H b=none:=fun {b o G I} e d=>by
   cases q:H b with
   |none=>rfl
   |some u=>
    have T:b=a:=hA b (by rw[q];simp);subst T;rw[J]at e;cases e;have d':Data.seq vs.toArray _=Data.dict G I:=d;cases d'
  have j:∀{b:Addr} {m:Str->Option Value},c.heap.Ns b m->(Qfj c.heap H).Ns b m:=fun {b m} ⟨o,G,I,e,d,r⟩=>⟨o,G,I,f e (L e d),d,r⟩
  have E:K.In (Qfj c.heap H):=fun b o e=>f (KX b o e) (by
   cases q:H b with
   |none=>rfl
   |some u=>
    have T:b=a:=hA b (by rw[q];simp);subst T
    rw[hK (by rw[q];simp)]at e;cases e)
  have hM:Mod K t (Qfj c.heap H):=⟨E,j C,⟨M,j g,Q⟩,let⟨mc,h1,h2⟩:=D;⟨mc,j h1,h2⟩⟩
  have e0:Env0 P w K t (Qfj c.heap H) callerA [] c H:=⟨rfl,hM,fun b o e=>QgN e,NA (Qb5 _ _),trivial,fun b g=>absurd (show b∈([]:List Addr)from g) (by simp),B,.of_eq hg⟩
  refine D3 ((F _ E (j C)).run callerA [] c H ⟨[.ref a],[]⟩ [.ref a] [.ref a] _ _ hr e0 (l c (.ref a)) (.cons rfl .nil) (N H Z hS)) fun r i h=>?_;cases r with
  |error e=>exact(R H e i h).elim
  | ok fl=>
   cases fl with
   |next=>exact False.elim h
   |brk=>exact False.elim h
   |cont=>exact False.elim h
   | ret u=>
    obtain⟨v,H',os,bare,un,A,r',q⟩:=h;have q':v=.bl true:=q;subst q';obtain rfl:u=Value.bool true:=r';refine⟨rfl,OldK.of_keep fun b o e=>?_,os,bare⟩;cases q:H b with
    |none=>exact un.keep b o e q (by intro z;exact absurd (show b∈([]:List Addr)from z) (by simp)) (by simp)
    |some u=>
     rcases Z b with z|⟨ob,xs,z⟩
     ·rw[q]at z;cases z
     ·have z2:=un.frzs b ob _ z;obtain⟨e1,_⟩:=B b _ z;obtain⟨e2,_⟩:=A b _ z2;rw[e]at e1;cases e1;exact e2
 cases O:K.lookup a with
 |some o=>
  have e:=KX a o O;rw[J]at e;cases e;refine core (fun _=>none) (fun _=>.inl rfl) (.inr ⟨_,vs.toArray,_,O,rfl,rfl,rfl,by rw[Nj,y];exact X,by simpa using U⟩) (fun b u z=>by have p:(none:Option HO)=some u:=z;cases p) (fun b z=>absurd rfl z) fun z=>absurd rfl z
 | none=>
  refine core (fun b=>if b=a then some (.frz { cls:=.type "list",data:=.seq vs.toArray } (.lst (ns.map V.int)))else none) (fun b=>?_) (.inl (.inr ⟨{ cls:=.type "list",data:=.seq vs.toArray },if_pos rfl⟩)) (fun b u z=>?_) (fun b z=>?_) fun _=>O
  ·by_cases g:b=a
   ·exact .inr ⟨_,_,if_pos g⟩
   ·exact .inl (if_neg g)
  ·by_cases g:b=a
   ·have p:=(if_pos g).symm.trans z;cases p;subst g;exact⟨J,by rw[Nu];exact X,vs,_,U,J⟩
   ·have p:=(if_neg g).symm.trans z;cases p
  ·by_cases g:b=a
   ·exact g
   ·exact absurd (if_neg g) z
noncomputable abbrev KOf{K:Nd}{h:Heap}(_:K.In h):Nd:=K
theorem Qh1{l:PySem.W.OpenLaw}{n k:Nat}{q:Program}{i:List Str}{X:(Str->Option Value)->Heap->Prop}{I:World->Heap->Prop}{d:DefRec}{K:Params->Nd}{CX:World->CXT}{sp:World->Sp}{x:Str}
  (L:l.most=some n) (A:n<=sizeLine) (C:d.params.defaults=[]) (hr:Room k callerA)
  (P:∀(w:World) (h:Heap),I w h->(K w.params).In h)
  (F:∀(w:World) (m:Str->Option Value) (t:Addr) (h:Heap),(K w.params).In h->h.Ns mainGlobals m->m d.name=some (.ref t) ->
   ∃fd:FuncData,(∀(s:Shared) (u:Value),BindsTo s fd ⟨[u],[]⟩ [(x,u)]) /\
    ∀base:Heap,(K w.params).In base->base.Ns mainGlobals m->FnOk l.prog w (K w.params) m base (CX w) k t fd [x] (sp w))
  (z:∀(w:World) (H:Hp) (a:Addr) (ns:List Int),ns.length<=n->QlB H->SqL (K w.params) H a (ns.map V.int)->sp w [.ref a] H (fun v _=>v=.bl true) fun _ _ _=>False)
  (D:∀(w:World) (H:Hp) (s:Shared) (e:Value) (y:Shared),CX w [] H s (fun _ _ _=>False) e y->False) :
  OZ q i X I l.row.toRowW d [] (fun f vs=>OM f vs):=by
 refine Att.attach_call L C fun w E p m Z t o pm cd U a vs ns G Y ho hd N B r j c M=>?_;have J:=P w _ Y;obtain⟨fd,O,S⟩:=F w m t _ J G.T.g B;exact Qel J G.T.g G.T.b G.T.builtins G.T.nolimit M r j (Nr c A) hr S O (fun H R Q=>z w H a ns c R Q) fun H e y=>D w H p e y
noncomputable def XQ(s:Stmt):Arguments:=match s with
 |.FunctionDef _ a _ _ _ _ _ _ _ _=>a
 |_=>{ posonlyargs:=[],args:=[],vararg:=none,kwonlyargs:=[],kw_defaults:=[],kwarg:=none,defaults:=[] }
noncomputable def Vi(s:Stmt):List Stmt:=match s with
 |.FunctionDef _ _ b _ _ _ _ _ _ _=>b
 |_=>[]
noncomputable def Qe(s:Stmt):Scope:=match s with
 |.FunctionDef _ _ _ _ _ _ a _ _ _=>a
 |_=>{ kind:=.function,names:=[],isGenerator:=false,isCoroutine:=false }
noncomputable abbrev CX0:CXT:=fun _ _ _ _ _ _=>False
noncomputable abbrev E0:XK:=fun _ _ _=>False
theorem QlC{X:Cx}:QaB CX0 X E0:=fun _ _ _ _ _ _ _ h=>h.elim
structure Fun(K:Nd)(x qual:Str)(st:Stmt)(f:Addr)(fd:FuncData):Prop where
 ex:∃(oc:Value) (od:Option Addr) (kV doc pm:Value) (an:Option Addr) (cdv ct:Value) (osl:Array (Option Value)),
  fd=Dg x qual (XQ st) (Vi st) (Qe st) .none kV doc pm an cdv ct/\K.lookup f=some ⟨oc,od,.func fd,osl⟩/\FW K cdv qual=true
 kp:DJ K (.ref f)=true
section
variable{P:Program}{w:World}{K:Nd}{mg:Str->Option Value}{base:Heap}
theorem Fun.ok{x b:Str}{st:Stmt}{f:Addr}{fd:FuncData}{N ps:List Str}{k:Nat}{sp:Sp}(F:Fun K x b st f fd)(S:FnScope N ps (Qe st))(len:∀vs H Q E,sp vs H Q E->vs.length=ps.length)
  (d:∀(c:Value) (A:Around) (a:List Env) (s:Shared) (H:Hp) (vs:List V) (Q:VK) (E:XK),Room k (A.deeper (envOfC b (Qe st) s.heap.objs.size f c))->sp vs H Q E ->
   ∃t,PSs (Qf7 CX0 P w K mg base N b (Qe st) f c A a s H E).nox (Vi st) t/\t { nx:=fun _ l=>Q .non l,rt:=Q } (start N vs) H):FnOk P w K mg base CX0 (k+1) f fd ps sp:=by
 obtain⟨n,m,kV,j,pm,o,c,ct,i,rfl,lk,g⟩:=F.ex;refine QlO lk g S len fun A a s H vs Q E hr e=>?_;obtain⟨t,h,q⟩:=d c A a s H vs Q E hr e;exact⟨t,h.nox,q⟩
theorem Fun.binds{x a:Str}{st:Stmt}{f:Addr}{fd:FuncData}{ps:List Str}(F:Fun K x a st f fd)
  (h:∀(kV b pm:Value) (d:Option Addr) (c ct:Value) (us:List Value),us.length=ps.length->bindArgs (Dg x a (XQ st) (Vi st) (Qe st) .none kV b pm d c ct) ⟨us,[]⟩=pure (ps.zip us)):Binds K fd ps []:=by
 obtain⟨j,i,kV,b,pm,d,c,ct,e,rfl,lk,g⟩:=F.ex;exact .all (h kV b pm d c ct)
theorem QfL{x a:Str}{st:Stmt}{f:Addr}{i:Value}{h g:Option Addr}{e:Array (Option Value)}{kV d pm b ct:Value}(l:K.lookup f=some ⟨i,h,.func (Dg x a (XQ st) (Vi st) (Qe st) .none kV d pm g b ct),e⟩)
  (c:FW K b a=true) (k:DJ K (.ref f)=true):Fun K x a st f (Dg x a (XQ st) (Vi st) (Qe st) .none kV d pm g b ct):=⟨⟨i,h,kV,d,pm,g,b,ct,e,rfl,l,c⟩,k⟩
end
theorem Qir{A B:Prop}(h:B):if false=true then A else B:=by
 rw[if_neg Ea];exact h
theorem Qia{A B:Prop}(h:A):if true=true then A else B:=by
 rw[if_pos rfl];exact h
section
variable{κ:Type}[DecidableEq κ]
noncomputable def QaA(kvs:List (κ×V))(k:κ):Option V:=(kvs.find? fun a=>decide (a.1=k)).map (·.2)
noncomputable def QeD(kvs:List (κ×V))(k:κ)(v:V):List (κ×V):=
 if(kvs.any fun a=>decide (a.1=k))=true then kvs.map (fun a=>if a.1=k then(a.1,v)else a)else kvs++[(k,v)]
theorem Qey{p:κ×V}{r:List (κ×V)}{k:κ}(e:p.1=k):QaA (p::r) k=some p.2:=by simp[QaA,Et,e]
theorem Qec{p:κ×V}{r:List (κ×V)}{k:κ}(e:¬p.1=k):QaA (p::r) k=QaA r k:=by simp[QaA,Et,e]
theorem G1(kvs:List (κ×V))(k:κ)(v:V):(QeD kvs k v).length<=kvs.length+1:=by
 unfold QeD;split
 ·rw[Nu];omega
 ·rw[Np,NW,FJ];omega
theorem RelO.getD{o:Option V}{u:Option Value}{d:V}{d':Value}(r:RelO o u)(a:RelV d d'):RelV (o.getD d) (u.getD d'):=by
 cases o with
 |none=>cases u with
  |none=>exact a
  |some _=>exact(show False from r).elim
 |some _=>cases u with
  |none=>exact(show False from r).elim
  |some _=>exact r
theorem KV.val{kvs:List (κ×V)}{vs:List (κ×Value)}(r:KV kvs vs)(k:κ):RelO (QaA kvs k) (valueAt vs k):=by
 unfold KV at r
 induction r with
 |nil=>exact True.intro
 | @cons p q ps a h t f=>
  obtain⟨d,g⟩:=h
  by_cases e:p.1=k
  ·have c:q.1=k:=d.symm.trans e;have b:valueAt (q::a) k=some q.2:=by simp[valueAt,Et,c]
   rw[Qey e,b];exact g
  ·have c:¬q.1=k:=fun z=>e (d.trans z);have b:valueAt (q::a) k=valueAt a k:=by simp[valueAt,Et,c]
   rw[Qec e,b];exact f
theorem KV.any{kvs:List (κ×V)}{vs:List (κ×Value)}(r:KV kvs vs)(k:κ):(kvs.any fun a=>decide (a.1=k))=vs.any fun a=>decide (a.1=k):=by
 unfold KV at r
 induction r with
 |nil=>rfl
 |cons h t b=>rw[EF,EF,b,h.1]
theorem KV.repl{kvs:List (κ×V)}{vs:List (κ×Value)}(r:KV kvs vs)(k:κ){y:V}{u:Value}(c:RelV y u) :
  KV (kvs.map fun a=>if a.1=k then(a.1,y)else a) (vs.map fun a=>if a.1=k then(a.1,u)else a):=by
 unfold KV at r ⊢
 induction r with
 |nil=>exact .nil
 |@cons p q ps g h t d=>
  rw[Nz,Nz];refine .cons ?_ d;obtain⟨b,f⟩:=h
  by_cases e:p.1=k
  ·rw[if_pos e,if_pos (b.symm.trans e)];exact⟨b,c⟩
  ·rw[if_neg e,if_neg (fun z=>e (b.trans z))];exact⟨b,f⟩
theorem KV.put{kvs:List (κ×V)}{vs:List (κ×Value)}(r:KV kvs vs)(k:κ){y:V}{u:Value}(a:RelV y u):KV (QeD kvs k y) (stored vs k u):=by
 unfold QeD stored;rw[r.any k]
 by_cases e:(vs.any fun b=>decide (b.1=k))=true
 ·rw[if_pos e,if_pos e];exact r.repl k a
 ·rw[if_neg e,if_neg e];exact O8 r ⟨rfl,a⟩
theorem KV.length{kvs:List (κ×V)}{vs:List (κ×Value)}(r:KV kvs vs):kvs.length=vs.length:=EM r
end
theorem Qhv{P:Program}{w:World}{k:Key}{u:Value}(r:RelV (kV k) u):(VX P w).is k u=true:=by
 cases k with
 |inl i=>obtain⟨t,e⟩:=(show∃t,u=Value.int i t from r);subst e;exact GD P w i t
 |inr x=>obtain⟨t,e⟩:=(show∃t,u=Value.str x t from r);subst e;exact GU P w x t
section
variable{P:Program}{w:World}{H:Hp}{h:Heap}{a:Addr}
theorem Qll{u:HO}(ok:HOk P w H h)(e:Rd H a u):ObjOk P w H h a u:=e.ok ok
theorem Qex{kvs:List (Key×V)}(ok:HOk P w H h)(e:Rd H a (.dK kvs)):kvs.length<=sizeLine/\(a==sysModules)=false/\∃vs,KV kvs vs/\h.DictOf (VX P w) a vs:=
 show ObjOk P w H h a (.dK kvs)from Qll ok e
theorem Ql3{kvs:List (Key×V)}(ok:HOk P w H h)(e:H a=some (.dK kvs)):kvs.length<=sizeLine/\(a==sysModules)=false/\∃vs,KV kvs vs/\h.DictOf (VX P w) a vs:=Qex ok (.inl e)
end
def DGet(H:Hp)(a:Addr)(y:V)(r:Option V):Prop:=∃kvs k,Rd H a (.dK kvs)/\y=kV k/\r=QaA kvs k
def DPut(H:Hp)(a:Addr)(y v:V)(b:Hp):Prop:=∃kvs k,H a=some (.dK kvs)/\y=kV k/\kvs.length<sizeLine/\b=upd H a (.dK (QeD kvs k v))
theorem DGet.k{H:Hp}{a:Addr}{kvs:List (Key×V)}{k:Key}(e:H a=some (.dK kvs)):DGet H a (kV k) (QaA kvs k):=⟨kvs,k,.inl e,rfl,rfl⟩
theorem DPut.k{H:Hp}{a:Addr}{kvs:List (Key×V)}{k:Key}{v:V}(e:H a=some (.dK kvs))(b:kvs.length<sizeLine):DPut H a (kV k) v (upd H a (.dK (QeD kvs k v))):=⟨kvs,k,e,rfl,b,rfl⟩
section
variable{X:Cx}{pins:List (Addr×Obj)}{σ:St}{H:Hp}{s:Shared}{a:Addr}{y v:V}{u r:Value}{o:Option V}{A:Around}{E:Value->Shared->Prop}
theorem Inv.big(I:Inv X pins σ H s):sysModules<s.heap.objs.size:=by
 have h:mainGlobals<s.heap.objs.size:=(I.mod.glob.keeps I.bk).lt;exact El (by decide) h
theorem QcH{Q:Value->Shared->Prop}(hu:A.units+1<cLine)(I:Inv X pins σ H s)(g:DGet H a y (some v))(f:RelV y u)(h:∀w' c,Inv X pins σ H c->RelV v w'->Q w' c) :
  wpAny (model X.prog X.w) A (getItem (.ref a) u) Q E s:=by
 obtain⟨kvs,k,e,i,l⟩:=g;subst i;obtain⟨z,hd,d,rel,j⟩:=Qex I.hok e;obtain⟨w',hw,b⟩:=RelO.some_of (v:=v) (o:=valueAt d k) (by rw[l];exact rel.val k);exact wpAny_getItem_of (Qhv f) j.mapOf hw (h w' _ (I.tok _) b)
theorem QhV{h':Heap}{t':Nat}{ob:HO}(I:Inv X pins σ H s)(c:Mut (H a))(d:Heap.SameBut a s.heap h')(f:∃q,h'.get? a=some q)(new:ObjOk X.prog X.w (upd H a ob) h' a ob) :
  Inv X pins σ (upd H a ob) { s with heap:=h',toks:=t' }:=
 I.write (x:=a) (e:=a) c (.inl rfl) (fun b q g z=>(d.2 b g).trans z) f new
theorem Qko{P:Program}{w:World}{c:Hp}{h':Heap}{kvs:List (Key×V)}{vs:List (Key×Value)}(z:kvs.length<=sizeLine)(hd:(a==sysModules)=false)(rel:KV kvs vs)(b:h'.DictOf (VX P w) a vs) :
  ObjOk P w c h' a (.dK kvs):=⟨z,hd,vs,rel,b⟩
theorem Qdx{d:Hp}{Q:Unit->Shared->Prop}(hu:A.units+1<cLine)(I:Inv X pins σ H s)(g:DPut H a y v d)(i:RelV y u)(j:RelV v r)(h:∀c,Inv X pins σ d c->Q () c) :
  wpAny (model X.prog X.w) A (setItem (.ref a) u r) Q E s:=by
 obtain⟨kvs,k,e,D,l,F⟩:=g;subst D F;obtain⟨z,hd,f,rel,G⟩:=Ql3 I.hok e;have m:f.length<=sizeLine:=by rw[<-rel.length];exact z
 have x:(QeD kvs k v).length<=sizeLine:=by have:=G1 kvs k v;omega
 refine wpAny_setItem_pairs (hsz:=m) (Qhv i) G fun C b p=>h _ ?_;have B:∃q,C.get? a=some q:=let⟨q,_,_,t,_⟩:=b;⟨q,t⟩
 exact QhV I (by rw[e];exact True.intro) p B (Qko x hd (rel.put k j) b)
end
def QmH(i:Expr):Prop:=∀a b,subscripted i false a b=operate [a,b] (getItem a b)
theorem QhT{prog:Program}{w:World}{A:Around}{E:Value->Shared->Prop}{s:Shared}{env:Env}{value slice:Expr}{pos:Pos}{T id:String}{Q:Value->Shared->Prop}
  (l:typeLookup (.type T) "__getitem__"=pure (some (.builtin id))) (j:QmH slice)
  (h:wpAny (model prog w) A (eval value env) (fun o d=>wpAny (model prog w) A (eval slice env) (fun i a=>a.TypeIs o T/\wpAny (model prog w) A (getItem o i) Q E a) E d) E s) :
  wpAny (model prog w) A (eval (.Subscript value slice pos) env) Q E s:=by
 refine OK (NZ h (fun o d f=>NZ f (fun i a b=>?_) fun _ _ x=>x) fun _ _ x=>x);obtain⟨g,b⟩:=b;unfold subscriptTail;refine Na ?_;rw[getitemInPython_of_ne g.not_modules];refine Na (DT g l ?_)
 have fin:wpAny (model prog w) A (subscripted slice false o i) (fun r c=>wpAny (model prog w) A (letTemporaryGo value o r>>=fun _=>pure r) Q E c) E a:=by
  rw[j o i];exact wpAny_operating (NZ b (fun r c e=>Na (wpAny_letTemporaryGo (Nh e))) fun _ _ x=>x)
 first
  |exact Nh (Na fin)
  |exact Na (Nh (Na fin))
  |exact Na fin
theorem Gp{X:Cx}{b:List (Addr×Obj)}{σ:St}{H:Hp}{s:Shared}{a:Addr}{y:V}{o:Option V}(I:Inv X b σ H s)(g:DGet H a y o):s.TypeIs (.ref a) "dict":=by
 obtain⟨kvs,k,e,_,_⟩:=g;obtain⟨_,_,d,_,c⟩:=Qex I.hok e;exact c.typeIs
noncomputable def QlX(d ty:TE):TE:=fun b H Q=>d b H fun x e=>ty b e fun y c=>∃a v,x=.ref a/\DGet c a y (some v)/\Q v c
noncomputable def Qi1(e ty d:TE):TS:=fun D b H=>d b H fun v h=>e b h fun x g=>ty b g fun y f=>∃a c,x=.ref a/\DPut f a y v c/\D.nx b c
section
variable{X:Cx}{o i e value:Expr}{pos pos' tpos:Pos}{td ty tv:TE}
theorem QgG(hu:X.A.units+1<cLine)(r:PE X o td)(t:PE X i ty)(p:QmH i):PE X (.Subscript o i pos) (QlX td ty):=by
 intro b s d H Q I h;refine QhT Ir.lookup p (thn (r b s d H _ I h) fun u f ⟨x,B,I1,l,n⟩=>thn (t b f d B _ I1 n) fun F E ⟨y,z,I2,j,a,v,w,g,m⟩=>?_);subst w;obtain rfl:u=Value.ref a:=l;exact⟨Gp I2 g,QcH hu I2 g j fun C D I3 c=>⟨v,z,I3,c,m⟩⟩
theorem Qha(hu:X.A.units+1<cLine)(B:PE X o td)(C:PE X i ty)(w:PE X value tv)(z:swapsWith value (some (.Subscript o i pos')) pos.line X.env=pure false) :
  PS X (.Assign [.Subscript o i pos'] value pos) (Qi1 td ty tv):=by
 intro b s c H D I h;refine wpAny_Assign_Subscript (thn (w b s c H _ I h) fun r f ⟨v,J,I1,m,t⟩=>thn (B b f c J _ I1 t) fun u d ⟨x,G,I2,l,p⟩=>thn (C b d c G _ I2 p) fun N M ⟨y,O,I3,j,a,F,E,g,n⟩=>?_) z;subst E;obtain rfl:u=Value.ref a:=l;exact Qdx hu I3 g j m fun L I4=>⟨c,F,I4,n⟩
end
theorem Qee{P:Program}{w:World}{H:Hp}(h:Heap)(a:sysModules<h.objs.size):ObjOk P w H (h.push { cls:=.type "dict",data:=.dict #[] }) h.objs.size (.dK []):=
 ⟨N6 _,beq_eq_false_iff_ne.mpr (Da (NP a)),[],.nil,Heap.DictOf.new h⟩
noncomputable def Qjp:TE:=fun _ H Q=>∀p,H p=none->Q (.ref p) (upd H p (.dK []))
section
variable{X:Cx}{pos:Pos}
theorem QeL:PE X (.Dict [] [] pos) Qjp:=fun b s c H Q I h=>
 wpAny_Dict_empty ⟨.ref s.heap.objs.size,_,I.laid (a:=s.heap.objs.size) (o:=.dK []) (t':=s.toks) (fun _ _ q=>Nn _ q) (Nt _) (Qee s.heap I.big),rfl,h _ (I.hok.fresh (Nt _))⟩
end
section
variable{X:Cx}{pins:List (Addr×Obj)}{σ:St}{H:Hp}{s:Shared}{a:Addr}{y d:V}{u r:Value}{o:Option V}{A:Around}{E:Value->Shared->Prop}
theorem Qkk{Q:Value->Shared->Prop}(hu:A.units+1<cLine)(I:Inv X pins σ H s)(g:DGet H a y o)(f:RelV y u)(i:RelV d r)(h:∀w' b,Inv X pins σ H b->RelV (o.getD d) w'->Q w' b) :
  wpAny (model X.prog X.w) A (call (.builtin "dict.get") [.ref a,u,r]) Q E s:=by
 obtain⟨kvs,k,e,j,l⟩:=g;subst j;obtain⟨z,hd,m,rel,c⟩:=Qex I.hok e;refine call_meetsIn Lh c.typeIs PySem.F.entry_dict_get (PySem.F.args_dict_get_3 _ _ _) (meets_dict_get_default (VX X.prog X.w) a (Qhv f) hd r) ⟨_,c.mapOf,h _ _ (I.tok _) ?_⟩;rw[l];exact(rel.val k).getD i
end
end L2
namespace Mi
open L2
inductive W where
 |non|bl (b:Bool)|int (i:Int)|str (x:Str)|tup (ws:List W)|lst (ws:List W)|frz (ws:List W)|ref (n:Nat)|ty (n:String)
inductive MO where
 |lst (ws:List W)
 |dic (kvs:List (Key×W))
 |dct (kvs:List (W×W))
 |ins (C:Addr) (fs:List (Str×W))
noncomputable abbrev MH:=List MO
noncomputable abbrev MSt:=List (Option W)
structure Rn where
 ρ:Nat->Addr
 N:Nat
 F:Hp
 G:Hp
structure Ext(R R':Rn):Prop where
 n:R.N<=R'.N
 ρ:∀n,n<R.N->R'.ρ n=R.ρ n
 f:∀a o,R.F a=some o->R'.F a=some o
 g:R'.G=R.G
theorem Ext.refl(R:Rn):Ext R R:=⟨Nt _,fun _ _=>rfl,fun _ _ h=>h,rfl⟩
theorem Ext.trans{R R1 R2:Rn}(a:Ext R R1)(b:Ext R1 R2):Ext R R2:=
 ⟨Nr a.n b.n,fun n h=>(b.ρ n (Nl h a.n)).trans (a.ρ n h),fun x o h=>b.f x o (a.f x o h),b.g.trans a.g⟩
theorem Q9{K:Nd}(e:∀a o,F a=some o->b a=some o)(h:SqT K F a xs):SqT K b a xs:=by
 rcases h with(h|⟨o,h⟩)|h
 ·exact .inl (.inl (e _ _ h))
 ·exact .inl (.inr ⟨o,e _ _ h⟩)
 ·exact .inr h
theorem QG{K:Nd}(e:∀a o,F a=some o->b a=some o)(h:SqL K F a xs):SqL K b a xs:=by
 rcases h with(h|⟨o,h⟩)|h
 ·exact .inl (.inl (e _ _ h))
 ·exact .inl (.inr ⟨o,e _ _ h⟩)
 ·exact .inr h
section
variable(K:Nd)
mutual
noncomputable def Rw(R:Rn):W->V->Prop
 |.non,v=>v=.non
 |.bl b,v=>v=.bl b
 |.int i,v=>v=.int i
 |.str x,v=>v=.str x
 |.tup ws,v=>∃a xs,v=.ref a/\SqT K R.F a xs/\Rws R ws xs
 |.lst ws,v=>∃a xs,v=.ref a/\R.F a=some (.lst xs)/\Rws R ws xs
 |.frz ws,v=>∃a xs,v=.ref a/\SqL K R.F a xs/\Rws R ws xs
 |.ref n,v=>n<R.N/\v=.ref (R.ρ n)
 |.ty n,v=>v=.ty n
noncomputable def Rws(R:Rn):List W->List V->Prop
 |[],vs=>vs=[]
 |w::ws,vs=>∃v a,vs=v::a/\Rw R w v/\Rws R ws a
end
end
section
variable{K:Nd}{R R':Rn}
mutual
theorem Rw.mono(e:Ext R R'):∀(w:W) (v:V),Rw K R w v->Rw K R' w v
 |.non,_,h=>by unfold Rw at h ⊢;exact h
 |.bl _,_,h=>by unfold Rw at h ⊢;exact h
 |.int _,_,h=>by unfold Rw at h ⊢;exact h
 |.str _,_,h=>by unfold Rw at h ⊢;exact h
 |.ty _,_,h=>by unfold Rw at h ⊢;exact h
 |.tup ws,_,h=>by
  unfold Rw at h ⊢;obtain⟨a,xs,b,c,d⟩:=h;exact⟨a,xs,b,Q9 e.f c,Rws.mono e ws xs d⟩
 |.lst ws,_,h=>by
  unfold Rw at h ⊢;obtain⟨a,xs,b,c,d⟩:=h;exact⟨a,xs,b,e.f a _ c,Rws.mono e ws xs d⟩
 |.frz ws,_,h=>by
  unfold Rw at h ⊢;obtain⟨a,xs,b,c,d⟩:=h;exact⟨a,xs,b,QG e.f c,Rws.mono e ws xs d⟩
 |.ref n,_,h=>by
  unfold Rw at h ⊢;obtain⟨b,c⟩:=h;exact⟨Nl b e.n,by rw[e.ρ n b];exact c⟩
theorem Rws.mono(e:Ext R R'):∀(ws:List W) (vs:List V),Rws K R ws vs->Rws K R' ws vs
 |[],_,h=>by unfold Rws at h ⊢;exact h
 |w::ws,_,h=>by
  unfold Rws at h ⊢;obtain⟨v,a,d,c,b⟩:=h;exact⟨v,a,d,Rw.mono e w v c,Rws.mono e ws a b⟩
end
theorem Rws.nil_iff:Rws K R [] vs↔vs=[]:=by unfold Rws;exact Iff.rfl
theorem Rws.cons_iff:Rws K R (w::ws) vs↔∃v a,vs=v::a/\Rw K R w v/\Rws K R ws a:=by
 constructor
 ·intro h;unfold Rws at h;exact h
 ·intro h;unfold Rws;exact h
theorem Rws.nil:Rws K R [] []:=Rws.nil_iff.mpr rfl
theorem Rws.cons(a:Rw K R w v)(b:Rws K R ws vs):Rws K R (w::ws) (v::vs):=Rws.cons_iff.mpr ⟨v,vs,rfl,a,b⟩
theorem Rws.paired:∀{ws:List W} {vs:List V},Rws K R ws vs->Paired (Rw K R) ws vs
 |[],vs,h=>by rw[Rws.nil_iff]at h;subst h;exact .nil
 |w::ws,vs,h=>by
  rw[Rws.cons_iff]at h;obtain⟨v,c,rfl,a,b⟩:=h;exact .cons a (Rws.paired b)
theorem Rws.of:∀{ws:List W} {vs:List V},Paired (Rw K R) ws vs->Rws K R ws vs
 |_,_,.nil=>Rws.nil
 |_,_,.cons a b=>Rws.cons a (Rws.of b)
theorem Rws.length(h:Rws K R ws vs):ws.length=vs.length:=EM h.paired
theorem Rws.get:∀{ws:List W} {vs:List V} {i:Nat} {w:W},Rws K R ws vs->ws[i]?=some w->∃v,vs[i]?=some v/\Rw K R w v
 |[],_,_,_,_,e=>by simp at e
 |w::ws,vs,0,x,h,e=>by
  rw[Rws.cons_iff]at h;obtain⟨v,c,rfl,a,b⟩:=h;simp at e;subst e;exact⟨v,by simp,a⟩
 |w::ws,vs,i+1,x,h,e=>by
  rw[Rws.cons_iff]at h;obtain⟨v,c,rfl,a,b⟩:=h;obtain⟨y,f,d⟩:=Rws.get (i:=i) b (by simpa using e);exact⟨y,by simpa using f,d⟩
theorem Rws.append:∀{ws us:List W} {vs xs:List V},Rws K R ws vs->Rws K R us xs->Rws K R (ws++us) (vs++xs)
 |[],us,vs,xs,h,q=>by rw[Rws.nil_iff]at h;subst h;exact q
 |w::ws,us,vs,xs,h,q=>by
  rw[Rws.cons_iff]at h;obtain⟨v,c,rfl,a,b⟩:=h;exact Rws.cons a (Rws.append b q)
theorem Rws.take:∀{ws:List W} {vs:List V} (n:Nat),Rws K R ws vs->Rws K R (ws.take n) (vs.take n)
 |_,_,0,_=>by simp;exact Rws.nil
 |[],vs,n+1,h=>by rw[Rws.nil_iff]at h;subst h;simp;exact Rws.nil
 |w::ws,vs,n+1,h=>by
  rw[Rws.cons_iff]at h;obtain⟨v,c,rfl,a,b⟩:=h;exact Rws.cons a (Rws.take n b)
theorem Rws.drop:∀{ws:List W} {vs:List V} (n:Nat),Rws K R ws vs->Rws K R (ws.drop n) (vs.drop n)
 |_,_,0,h=>by simpa using h
 |[],vs,n+1,h=>by rw[Rws.nil_iff]at h;subst h;simp;exact Rws.nil
 |w::ws,vs,n+1,h=>by
  rw[Rws.cons_iff]at h;obtain⟨v,c,rfl,a,b⟩:=h;exact Rws.drop n b
theorem Rws.set:∀{ws:List W} {vs:List V} {w:W} {v:V} (n:Nat),Rws K R ws vs->Rw K R w v->Rws K R (ws.set n w) (vs.set n v)
 |[],vs,_,_,n,h,_=>by rw[Rws.nil_iff]at h;subst h;simp;exact Rws.nil
 |x::ws,vs,w,v,0,h,q=>by
  rw[Rws.cons_iff]at h;obtain⟨y,c,rfl,a,b⟩:=h;exact Rws.cons q b
 |x::ws,vs,w,v,n+1,h,q=>by
  rw[Rws.cons_iff]at h;obtain⟨y,c,rfl,a,b⟩:=h;exact Rws.cons a (Rws.set n b q)
end
noncomputable def Qgh:Nat->W->Option Tr
 |0,_=>none
 |_+1,.int i=>some (.i i)
 |_+1,.bl b=>some (.i (if b then 1 else 0))
 |_+1,.str x=>some (.s x)
 |n+1,.tup ws=>(ws.mapM (Qgh n)).map .t
 |_+1,_=>none
noncomputable def nrm:W->Option Tr
 |.tup ws=>Qgh 8 (.tup ws)
 |_=>none
section
variable(K:Nd)
noncomputable def Ro(R:Rn):MO->Option HO->Prop
 |.lst ws,o=>∃xs,o=some (.lst xs)/\Rws K R ws xs
 |.dic kvs,o=>∃a:List (Key×V),o=some (.dK a)/\Paired (fun p q=>p.1=q.1/\Rw K R p.2 q.2) kvs a
 |.dct kvs,o=>∃a:List (Tr×Addr×V),o=some (.dT a)/\Paired (fun p q=>Rw K R p.1 (.ref q.2.1)/\nrm p.1=some q.1/\Rw K R p.2 q.2.2) kvs a
 |.ins C fs,o=>∃(c:Addr) (b:List (Str×V)),o=some (.ins C c b)/\Paired (fun p q=>p.1=q.1/\Rw K R p.2 q.2) fs b
structure Rh(R:Rn)(h:MH)(H:Hp):Prop where
 len:R.N=h.length
 sub:∀a o,R.F a=some o->H a=some o
 sep:∀n,n<R.N->R.F (R.ρ n)=none
 inj:∀m n,m<R.N->n<R.N->R.ρ m=R.ρ n->m=n
 obj:∀n o,h[n]?=some o->Ro K R o (H (R.ρ n))
 gsub:∀a o,R.G a=some o->H a=some o
 gsep:∀n,n<R.N->R.G (R.ρ n)=none
 gf:∀a o,R.G a=some o->R.F a=none
def Rst(R:Rn)(a:MSt)(σ:L2.St):Prop:=a.length=σ.length/\∀(i:Nat) (w:W),a[i]?=some (some w)->∃v,σ[i]?=some (some v)/\Rw K R w v
end
section
variable{K:Nd}{R R':Rn}{h:MH}{H:Hp}{σi:MSt}{σ:L2.St}
theorem Ro.mono(e:Ext R R')(q:Ro K R o u):Ro K R' o u:=by
 cases o with
 |lst i=>obtain⟨g,d,c⟩:=q;exact⟨g,d,Rws.mono e i g c⟩
 |dic kvs=>obtain⟨f,d,c⟩:=q;exact⟨f,d,Paired.mapP c fun a b z=>⟨z.1,Rw.mono e _ _ z.2⟩⟩
 |dct kvs=>obtain⟨f,d,c⟩:=q;exact⟨f,d,Paired.mapP c fun a b z=>⟨Rw.mono e _ _ z.1,z.2.1,Rw.mono e _ _ z.2.2⟩⟩
 |ins C fs=>obtain⟨l,j,d,c⟩:=q;exact⟨l,j,d,Paired.mapP c fun a b z=>⟨z.1,Rw.mono e _ _ z.2⟩⟩
theorem Ro.some(q:Ro K R o u):∃x,u=some x:=by
 cases o with
 |lst e=>obtain⟨d,a,b⟩:=q;exact⟨_,a⟩
 |dic kvs=>obtain⟨c,a,b⟩:=q;exact⟨_,a⟩
 |dct kvs=>obtain⟨c,a,b⟩:=q;exact⟨_,a⟩
 |ins C fs=>obtain⟨g,f,a,b⟩:=q;exact⟨_,a⟩
theorem Rst.mono(e:Ext R R')(q:Rst K R σi σ):Rst K R' σi σ:=⟨q.1,fun i w h=>by
 obtain⟨v,b,a⟩:=q.2 i w h
 exact⟨v,b,Rw.mono e _ _ a⟩⟩
theorem Rst.set(q:Rst K R σi σ)(r:Rw K R w v):Rst K R (σi.set i (some w)) (σ.set i (some v)):=by
 refine⟨by rw[Dk,Dk];exact q.1,fun j u e=>?_⟩;rw[List.getElem?_set]at e ⊢
 by_cases a:i=j
 ·subst a;rw[if_pos rfl]at e ⊢
  by_cases b:i<σi.length
  ·rw[if_pos b]at e;rw[if_pos (q.1▸b)];cases e;exact⟨v,rfl,r⟩
  ·rw[if_neg b]at e;cases e
 ·rw[if_neg a]at e ⊢;exact q.2 j u e
theorem Rh.there(q:Rh K R h H)(b:n<R.N):∃o u,h[n]?=some o/\H (R.ρ n)=some u:=by
 have a:n<h.length:=q.len▸b;obtain⟨u,hu⟩:=(q.obj n h[n] (Ni a)).some;exact⟨h[n],u,Ni a,hu⟩
theorem Rh.ne(q:Rh K R h H)(a:H p=none)(b:n<R.N):R.ρ n≠p:=fun e=>by
 obtain⟨o,u,_,hu⟩:=q.there b;rw[e,a]at hu;cases hu
theorem Rh.fix(q:Rh K R h H)(c:H p=none) :
  Ext R { R with F:=upd R.F p o }/\Rh K { R with F:=upd R.F p o } h (upd H p o):=by
 have g:R.F p=none:=by
  cases e:R.F p with
  |none=>rfl
  |some u=>have:=q.sub p u e;rw[c]at this;cases this
 have x:Ext R { R with F:=upd R.F p o }:=⟨Nt _,fun _ _=>rfl,fun a u e=>by
  show upd R.F p o a=some u
  rw[Qr (fun z=>by rw[z,g]at e;cases e)];exact e,rfl⟩
 have f:∀a u,R.G a=some u->a≠p:=fun a u e z=>by have:=q.gsub a u e;rw[z,c]at this;cases this
 refine⟨x,q.len,fun a u e=>?_,fun n d=>?_,q.inj,fun n u e=>?_,fun a u e=>?_,q.gsep,fun a u e=>?_⟩
 rotate_right 2
 ·rw[Qr (f a u e)];exact q.gsub a u e
 ·show upd R.F p o a=none;rw[Qr (f a u e)];exact q.gf a u e
 ·by_cases z:a=p
  ·subst z;have b:upd R.F a o a=some u:=e;rw[Ju]at b ⊢;exact b
  ·have b:upd R.F p o a=some u:=e;rw[Qr z]at b ⊢;exact q.sub a u b
 ·show upd R.F p o (R.ρ n)=none;rw[Qr (q.ne c d)];exact q.sep n d
 ·have d:n<R.N:=by rw[q.len];exact(Ng.mp e).1
  show Ro K _ u (upd H p o (R.ρ n));rw[Qr (q.ne c d)];exact(q.obj n u e).mono x
theorem Rh.tup(q:Rh K R h H)(a:H p=none)(r:Rws K R ws xs) :
  ∃R',Ext R R'/\Rh K R' h (upd H p (.tup xs))/\Rw K R' (.tup ws) (.ref p):=by
 obtain⟨x,y⟩:=q.fix (o:=.tup xs) a;refine⟨_,x,y,?_⟩;unfold Rw;exact⟨p,xs,rfl,SqT.of Ju,Rws.mono x _ _ r⟩
theorem Rh.lstI(q:Rh K R h H)(a:H p=none)(r:Rws K R ws xs) :
  ∃R',Ext R R'/\Rh K R' h (upd H p (.lst xs))/\Rw K R' (.lst ws) (.ref p):=by
 obtain⟨x,y⟩:=q.fix (o:=.lst xs) a;refine⟨_,x,y,?_⟩;unfold Rw;exact⟨p,xs,rfl,Ju,Rws.mono x _ _ r⟩
theorem Rh.new(q:Rh K R h H)(f:H p=none)(r:∀R',Ext R R'->Ro K R' mo (some o)) :
  ∃R',Ext R R'/\Rh K R' (h++[mo]) (upd H p o)/\Rw K R' (.ref h.length) (.ref p):=by
 let R':Rn:={ ρ:=fun n=>if n=R.N then p else R.ρ n,N:=R.N+1,F:=R.F,G:=R.G }
 have hr:∀n,n<R.N->R'.ρ n=R.ρ n:=fun n b=>if_neg (NP b);have d:R'.ρ R.N=p:=if_pos rfl;have x:Ext R R':=⟨Os _,hr,fun _ _ e=>e,rfl⟩
 have i:∀a u,R.G a=some u->a≠p:=fun a u e z=>by have:=q.gsub a u e;rw[z,f]at this;cases this
 have j:R.F p=none:=by
  cases e:R.F p with
  |none=>rfl
  |some u=>have:=q.sub p u e;rw[f]at this;cases this
 have below:∀n,n<R.N+1->n<R.N\/n=R.N:=fun n b=>Nat.lt_or_eq_of_le (Fk b)
 have g:∀n,n<R.N+1->R.G (R'.ρ n)=none:=fun n b=>by
  rcases below n b with b|b
  ·rw[hr n b];exact q.gsep n b
  ·subst b;rw[d];cases e:R.G p with
   |none=>rfl
   |some u=>exact absurd rfl (i p u e)
 refine⟨R',x,⟨?_,fun a u e=>?_,fun n b=>?_,fun m n c b e=>?_,fun n u e=>?_,fun a u e=>by rw[Qr (i a u e)];exact q.gsub a u e,g,q.gf⟩,?_⟩
 ·show R.N+1=_;rw[Np,q.len];rfl
 ·have z:a≠p:=fun z=>by have l:R.F a=some u:=e;rw[z,j]at l;cases l
  rw[Qr z];exact q.sub a u e
 ·rcases below n b with b|b
  ·rw[hr n b];exact q.sep n b
  ·subst b;rw[d];exact j
 ·rcases below m c with c|c<;>rcases below n b with b|b
  ·rw[hr m c,hr n b]at e;exact q.inj m n c b e
  ·subst b;rw[hr m c,d]at e;exact absurd e (q.ne f c)
  ·subst c;rw[hr n b,d]at e;exact absurd e.symm (q.ne f b)
  ·rw[c,b]
 ·have b:n<R.N+1:=by
   have:=(Ng.mp e).1;rw[Np,<-q.len]at this;exact this
  rcases below n b with b|b
  ·rw[hr n b,Qr (q.ne f b)];rw[Ei (by rw[<-q.len];exact b)]at e;exact(q.obj n u e).mono x
  ·subst b;rw[d,Ju];rw[EN (by rw[q.len];exact Nt _),q.len,Nat.sub_self]at e;cases e;exact r R' x
 ·unfold Rw;refine⟨by rw[<-q.len];exact EO _,?_⟩;rw[<-q.len,d]
theorem Rh.put(q:Rh K R h H)(b:n<R.N)(r:Ro K R mo (some o)):Rh K R (h.set n mo) (upd H (R.ρ n) o):=by
 refine⟨by rw[Dk];exact q.len,fun a u e=>?_,q.sep,q.inj,fun m u e=>?_,fun a u e=>?_,q.gsep,q.gf⟩
 rotate_right
 ·have z:a≠R.ρ n:=fun z=>by rw[z,q.gsep n b]at e;cases e
  rw[Qr z];exact q.gsub a u e
 ·have z:a≠R.ρ n:=fun z=>by rw[z,q.sep n b]at e;cases e
  rw[Qr z];exact q.sub a u e
 ·by_cases z:n=m
  ·subst z;rw[Ju];rw[Ez (by rw[<-q.len];exact b)]at e;cases e;exact r
  ·have c:m<R.N:=by
    have:=(Ng.mp e).1;rw[Dk,<-q.len]at this;exact this
   rw[Dr z]at e;rw[Qr (fun w=>z (q.inj m n c b w).symm)];exact q.obj m u e
theorem Rh.tupAt(q:Rh K R h H)(r:Rw K R (.tup ws) v):∃a xs,v=.ref a/\SqT K H a xs/\Rws K R ws xs:=by
 unfold Rw at r;obtain⟨a,xs,d,c,b⟩:=r;exact⟨a,xs,d,Q9 q.sub c,b⟩
theorem Rh.lstAt(q:Rh K R h H)(r:Rw K R (.lst ws) v):∃a xs,v=.ref a/\H a=some (.lst xs)/\Rws K R ws xs:=by
 unfold Rw at r;obtain⟨a,xs,d,c,b⟩:=r;exact⟨a,xs,d,q.sub a _ c,b⟩
theorem Rh.frzAt(q:Rh K R h H)(r:Rw K R (.frz ws) v):∃a xs,v=.ref a/\SqL K H a xs/\Rws K R ws xs:=by
 unfold Rw at r;obtain⟨a,xs,d,c,b⟩:=r;exact⟨a,xs,d,QG q.sub c,b⟩
noncomputable def lsW(h:MH):W->Option (List W)
 |.lst ws=>some ws
 |.frz ws=>some ws
 |.ref n=>match h[n]? with|some (.lst ws)=>some ws|_=>none
 |_=>none
noncomputable def loW(h:MH):W->Option (List W)
 |.lst ws=>some ws
 |.ref n=>match h[n]? with|some (.lst ws)=>some ws|_=>none
 |_=>none
theorem Rh.loAt(q:Rh K R h H)(r:Rw K R w v)(e:loW h w=some ws):∃a xs,v=.ref a/\H a=some (.lst xs)/\Rws K R ws xs:=by
 cases w with
 |lst b=>cases e;exact q.lstAt r
 |ref n=>
  simp only[loW]at e;split at e
  ·rename_i b c;cases e;unfold Rw at r;obtain⟨xs,f,d⟩:=q.obj n _ c;exact⟨_,xs,r.2,f,d⟩
  ·cases e
 |_=>cases e
theorem Rh.lsAt(q:Rh K R h H)(r:Rw K R w v)(e:lsW h w=some ws):∃a xs,v=.ref a/\SqL K H a xs/\Rws K R ws xs:=by
 cases w with
 |lst b=>cases e;obtain⟨a,xs,j,i,g⟩:=q.lstAt r;exact⟨a,xs,j,SqL.of i,g⟩
 |frz b=>cases e;exact q.frzAt r
 |ref n=>
  simp only[lsW]at e;split at e
  ·rename_i b c;cases e;unfold Rw at r;obtain⟨xs,f,d⟩:=q.obj n _ c;exact⟨_,xs,r.2,SqL.of f,d⟩
  ·cases e
 |_=>cases e
theorem Rh.refAt(q:Rh K R h H)(r:Rw K R (.ref n) v)(e:h[n]?=some (.lst ws)) :
  n<R.N/\v=.ref (R.ρ n)/\∃xs,H (R.ρ n)=some (.lst xs)/\Rws K R ws xs:=by
 unfold Rw at r;exact⟨r.1,r.2,q.obj n _ e⟩
end
theorem Rw.non_eq{K:Nd}(r:Rw K R .non v):v=.non:=by unfold Rw at r;exact r
theorem Rw.bl_eq{K:Nd}(r:Rw K R (.bl b) v):v=.bl b:=by unfold Rw at r;exact r
theorem Rw.int_eq{K:Nd}(r:Rw K R (.int i) v):v=.int i:=by unfold Rw at r;exact r
theorem Rw.str_eq{K:Nd}(r:Rw K R (.str x) v):v=.str x:=by unfold Rw at r;exact r
theorem Rw.ty_eq{K:Nd}(r:Rw K R (.ty n) v):v=.ty n:=by unfold Rw at r;exact r
theorem Rw.ty{K:Nd}(n:String):Rw K R (.ty n) (.ty n):=by unfold Rw;rfl
theorem Rw.non{K:Nd}:Rw K R .non .non:=by unfold Rw;rfl
theorem Rw.bl{K:Nd}(b:Bool):Rw K R (.bl b) (.bl b):=by unfold Rw;rfl
theorem Rw.int{K:Nd}(i:Int):Rw K R (.int i) (.int i):=by unfold Rw;rfl
theorem Rw.str{K:Nd}(x:Str):Rw K R (.str x) (.str x):=by unfold Rw;rfl
end Mi
namespace Mi
open L2
noncomputable abbrev ME:=MSt->MH->Option (W×MH)
noncomputable abbrev MT:=MSt->MH->Option (Bool×MH)
noncomputable abbrev MA:=MSt->MH->Option (List W×MH)
inductive MF where
 |nx (σ:MSt) (h:MH)|rt (w:W) (h:MH)|bk (σ:MSt) (h:MH)|ct (σ:MSt) (h:MH)
noncomputable abbrev SM:=MSt->MH->Option MF
noncomputable abbrev FM:=List W->MH->Option (W×MH)
section
variable(K:Nd)
def After(R:Rn)(w:W)(h':MH)(Q:VK):Prop:=∀a b v,Ext R a->Rh K a h' b->Rw K a w v->Q v b
noncomputable def tI(m:ME):TE:=fun c H Q=>∃R a h w b,Rh K R h H/\Rst K R a c/\m a h=some (w,b)/\After K R w b Q
noncomputable def tIT(m:MT):TT:=fun f H Q=>∃R a h b c,Rh K R h H/\Rst K R a f/\m a h=some (b,c)/\∀d e,Ext R d->Rh K d c e->Q b e
noncomputable def tIA(m:MA):TA:=fun g H Q=>∃R a h c e,Rh K R h H/\Rst K R a g/\m a h=some (c,e)/\∀b f d,Ext R b->Rh K b e f->Rws K b c d->Q d f
noncomputable def Ends(R:Rn)(D:L2.Ends):MF->Prop
 |.nx a h=>∀R' b σ,Ext R R'->Rh K R' h b->Rst K R' a σ->D.nx σ b
 |.bk a h=>∀R' b σ,Ext R R'->Rh K R' h b->Rst K R' a σ->D.bk σ b
 |.ct a h=>∀R' b σ,Ext R R'->Rh K R' h b->Rst K R' a σ->D.ct σ b
 |.rt w h=>After K R w h D.rt
noncomputable def tS(m:SM):TS:=fun D b H=>∃R a h r,Rh K R h H/\Rst K R a b/\m a h=some r/\Ends K R D r
noncomputable def spM(n:Nat)(m:FM):Sp:=fun c H Q _=>∃R a h w b,a.length=n/\Rh K R h H/\Rws K R a c/\m a h=some (w,b)/\After K R w b Q
end
def PM(X:Cx)(e:Expr)(m:ME):Prop:=PE X e (tI X.K m)
def PMT(X:Cx)(e:Expr)(m:MT):Prop:=PT X e (tIT X.K m)
def PMA(X:Cx)(es:List Expr)(m:MA):Prop:=PA X es (tIA X.K m)
def PMS(X:Cx)(st:Stmt)(m:SM):Prop:=PS X st (tS X.K m)
def Qd8(X:Cx)(st:List Stmt)(m:SM):Prop:=PSs X st (tS X.K m)
section
variable{K:Nd}{R R1 R2:Rn}
theorem After.ext(a:After K R w h' Q)(x:Ext R R1):After K R1 w h' Q:=fun b c v e=>a b c v (x.trans e)
theorem Ends.ext(a:Ends K R D r)(x:Ext R R1):Ends K R1 D r:=by
 cases r with
 |nx d h=>exact fun b c v e=>a b c v (x.trans e)
 |bk d h=>exact fun b c v e=>a b c v (x.trans e)
 |ct d h=>exact fun b c v e=>a b c v (x.trans e)
 |rt w h=>exact After.ext a x
end
theorem QR(h:PE X e t)(i:∀σ H Q,t' σ H Q->t σ H Q):PE X e t':=fun a s σ H Q I q=>h a s σ H Q I (i _ _ _ q)
theorem UR(h:PT X e t)(i:∀σ H Q,t' σ H Q->t σ H Q):PT X e t':=fun a s σ H Q I q=>h a s σ H Q I (i _ _ _ q)
theorem Qf0(h:PW X e t)(i:∀σ H Q,t' σ H Q->t σ H Q):PW X e t':=fun b a s σ H Q I q=>h b a s σ H Q I (i _ _ _ q)
theorem Qgb(h:PA X es t)(i:∀σ H Q,t' σ H Q->t σ H Q):PA X es t':=fun pos a s σ H Q I q=>h pos a s σ H Q I (i _ _ _ q)
theorem XA{st:Stmt}(h:PS X st t)(i:∀D σ H,t' D σ H->t D σ H):PS X st t':=fun a s σ H D I q=>h a s σ H D I (i _ _ _ q)
theorem QdM{st:List Stmt}(h:PSs X st t)(i:∀D σ H,t' D σ H->t D σ H):PSs X st t':=fun a s σ H D I q=>h a s σ H D I (i _ _ _ q)
noncomputable def Qb(i:Nat):ME:=fun a h=>match a[i]? with|some (some w)=>some (w,h)|_=>none
noncomputable def mC(w:W):ME:=fun _ h=>some (w,h)
section
variable{X:Cx}
theorem Qj8(i:Nat)(hN:X.N[i]?=some x:=by rfl)(d:Vis X.env.scope x:=by first|exact Or.inl rfl|exact Or.inr (Or.inl rfl)|exact Or.inr (Or.inr rfl))(hd:(x==("__debug__":Str))=false:=by decide)
  (a:(x==("__classdict__":Str))=false:=by decide):PM X (.Name x pos) (Qb i):=QR (QjK hN d hd a) <|by
 rintro l H Q ⟨R,b,h,w,n,c,st,e,k⟩
 unfold Qb at e;split at e
 ·rename_i m j;cases e;obtain⟨v,g,f⟩:=st.2 i _ j;exact⟨v,g,k R H v (Ext.refl _) c f⟩
 ·cases e
theorem Qbi(r:∀R,Rw X.K R w v)(q:tI X.K (mC w) σ H Q):tC v σ H Q:=by
 obtain⟨R,a,h,c,d,b,st,e,k⟩:=q;cases e;exact k R H v (Ext.refl _) b (r R)
theorem Qjr{i j pos}:PM X (.Constant (.int i) j pos) (mC (.int i)):=QR Qi9 fun _ _ _=>Qbi fun _=>Rw.int _
theorem Qlt{b j pos}:PM X (.Constant (.bool b) j pos) (mC (.bl b)):=QR Qmo fun _ _ _=>Qbi fun _=>Rw.bl _
theorem Wg{j pos}:PM X (.Constant .none j pos) (mC .non):=QR Qjs fun _ _ _=>Qbi fun _=>Rw.non
theorem Qiu(d:Gl X x)(c:X.mg x=none)(a:bootBuiltins x=some u)(r:RelV v u)(rw:∀R,Rw X.K R w v)(b:x≠"__name__":=by decide)(hd:(x==("__debug__":Str))=false:=by decide):PM X (.Name x pos) (mC w):=
 QR (Qgy d c a r b hd) fun _ _ _=>Qbi rw
theorem QiN{x j pos}:PM X (.Constant (.str x) j pos) (mC (.str x)):=QR QkK fun _ _ _=>Qbi fun _=>Rw.str _
theorem Qg6(b:Gl X x)(a:X.mg x=some u)(r:RelV v u)(rw:∀R,Rw X.K R w v)(hd:(x==("__debug__":Str))=false:=by decide):PM X (.Name x pos) (mC w):=
 QR (Go b a r hd) fun _ _ _=>Qbi rw
end
noncomputable def Qc(f:W->W->MH->Option (W×MH))(c b:ME):ME:=fun a h=>(c a h).bind fun p=>(b a p.2).bind fun q=>f p.1 q.1 q.2
def F1(K:Nd)(f:W->MH->Option (W×MH))(x:V)(H:Hp)(Q:VK):Prop:=∃R h a w b,Rh K R h H/\Rw K R a x/\f a h=some (w,b)/\After K R w b Q
def F2(K:Nd)(f:W->W->MH->Option (W×MH))(x y:V)(H:Hp)(Q:VK):Prop:=∃R h a b w c,Rh K R h H/\Rw K R a x/\Rw K R b y/\f a b h=some (w,c)/\After K R w c Q
def Fs(K:Nd)(f:List W->MH->Option (W×MH))(xs:List V)(H:Hp)(Q:VK):Prop:=∃R h a w b,Rh K R h H/\Rws K R a xs/\f a h=some (w,b)/\After K R w b Q
noncomputable def mUn(f:W->MH->Option (W×MH))(b:ME):ME:=fun a h=>(b a h).bind fun p=>f p.1 p.2
noncomputable def mFn(f:List W->MH->Option (W×MH))(b:MA):ME:=fun a h=>(b a h).bind fun p=>f p.1 p.2
section
variable{K:Nd}{σ:L2.St}{H:Hp}{Q:VK}
theorem un1(q:tI K (mUn f m) σ H Q):tI K m σ H fun x g=>F1 K f x g Q:=by
 obtain⟨R,b,h,w,n,l,st,e,k⟩:=q;obtain⟨⟨a,d⟩,o,p⟩:=Nc.mp e;exact⟨R,b,h,a,d,l,st,o,fun R1 g x i c j=>⟨R1,d,a,w,n,c,j,p,k.ext i⟩⟩
theorem Qjn(q:tI K (Qc f u t) σ H Q):tI K u σ H fun x o=>tI K t σ o fun y n=>F2 K f x y n Q:=by
 obtain⟨R,c,h,w,v,s,st,e,k⟩:=q;obtain⟨⟨a,m⟩,A,C⟩:=Nc.mp e;obtain⟨⟨b,l⟩,z,B⟩:=Nc.mp C
 exact⟨R,c,h,a,m,s,st,A,fun R1 o x j g r=>⟨R1,c,m,b,l,g,st.mono j,z,fun R2 n y i d p=>
  ⟨R2,l,a,b,w,v,d,Rw.mono i _ _ r,p,B,k.ext (j.trans i)⟩⟩⟩
theorem Qbw(q:tI K (mFn f m) σ H Q):tIA K m σ H fun xs g=>Fs K f xs g Q:=by
 obtain⟨R,b,h,w,n,l,st,e,k⟩:=q;obtain⟨⟨a,d⟩,o,p⟩:=Nc.mp e;exact⟨R,b,h,a,d,l,st,o,fun R1 g x i c j=>⟨R1,d,a,w,n,c,j,p,k.ext i⟩⟩
end
noncomputable def JI:Expr->Bool
 |.Starred ..=>true
 |_=>false
noncomputable def XG(es:List Expr):Bool:=es.all fun e=>!JI e
theorem QL(h:JI e=false):starEach (e::es) env=(false,eval e env)::starEach es env:=by
 cases e<;>first|rfl|cases h
theorem Z6(h:XG es=true):(backTo pos (starEach es env)).any (·.1)=false:=by
 induction es with
 |nil=>rfl
 |cons e es a=>
  unfold XG at h a;rw[Fy,NJ]at h;have b:JI e=false:=by simpa using h.1
  rw[QL b];have:=a h.2;unfold backTo at this ⊢;rw[Nz,EF,this];rfl
theorem Qe8(h:XG es=true):(backTo pos (starEach es env)).all (fun x=>!x.1)=true:=by
 have:=Z6 (env:=env) (pos:=pos) h;rw[List.all_eq_not_any_not];simp only[Bool.not_not];rw[this];rfl
noncomputable def Qd:MA:=fun _ h=>some ([],h)
noncomputable def Qa(c:ME)(b:MA):MA:=fun a h=>(c a h).bind fun p=>(b a p.2).bind fun q=>some (p.1::q.1,q.2)
section
variable{X:Cx}{e:Expr}{es:List Expr}{m:ME}{ms:MA}{pos:Pos}
theorem Qhk:PMA X [] Qd:=Qgb Qjt <|by
 rintro c H Q ⟨R,a,h,d,f,b,st,e,k⟩
 cases e;exact k R H [] (Ext.refl _) b Rws.nil
theorem Qeu(t:PM X e m)(hr:PMA X es ms)(s:JI e=false:=by rfl):PMA X (e::es) (Qa m ms):=
 Qgb (Qh9 t hr (QL s)) fun B H Q l=>by
  obtain⟨R,c,h,C,D,r,st,e,k⟩:=l;obtain⟨⟨a,j⟩,w,z⟩:=Nc.mp e;obtain⟨⟨b,u⟩,v,y⟩:=Nc.mp z;cases y
  exact⟨R,c,h,a,j,r,st,w,fun R1 E x i f p=>⟨R1,c,j,b,u,f,st.mono i,v,fun R2 A n g d o=>
   k R2 A (x::n) (i.trans g) d (Rws.cons (Rw.mono g _ _ p) o)⟩⟩
noncomputable def Jp(ws:List W)(h:MH):Option (W×MH):=if ws.length<=sizeLine then some (.tup ws,h)else none
noncomputable def X4(ws:List W)(h:MH):Option (W×MH):=if ws.length<=sizeLine then some (.lst ws,h)else none
noncomputable def Ud(ws:List W)(h:MH):Option (W×MH):=if ws.length<=sizeLine then some (.ref h.length,h++[.lst ws])else none
theorem Qjm{d}(h:PMA X es ms):PM X (.Tuple es d pos) (mFn Jp ms):=QR (Qj6 h) fun C H Q q=>by
 obtain⟨R,c,z,o,y,t,st,e,k⟩:=Qbw q;refine⟨R,c,z,o,y,t,st,e,fun R1 B r d j s=>?_⟩;obtain⟨R2,E,n,w,D,i,a,b,u⟩:=k R1 B r d j s;unfold Jp at b;split at b
 ·rename_i x;cases b;refine⟨by rw[<-a.length];exact x,fun p v=>?_⟩;obtain⟨A,l,g,f⟩:=i.tup v a;exact u A _ _ l g f
 ·cases b
theorem QiX(h:PMA X es ms):PM X (.List es pos) (mFn X4 ms):=QR (QfP h) fun C H Q q=>by
 obtain⟨R,c,z,o,y,t,st,e,k⟩:=Qbw q;refine⟨R,c,z,o,y,t,st,e,fun R1 B r l i s=>?_⟩;obtain⟨R2,E,n,w,D,g,a,b,u⟩:=k R1 B r l i s;unfold X4 at b;split at b
 ·rename_i x;cases b;refine⟨by rw[<-a.length];exact x,fun p v=>?_⟩;obtain⟨A,j,f,d⟩:=g.lstI v a;exact u A _ _ j f d
 ·cases b
theorem Qi6(h:PMA X es ms):PM X (.List es pos) (mFn Ud ms):=QR (QfP h) fun E H Q q=>by
 obtain⟨R,c,B,t,A,v,st,e,k⟩:=Qbw q;refine⟨R,c,B,t,A,v,st,e,fun R1 D f r l u=>?_⟩;obtain⟨R2,I,d,w,G,j,a,b,x⟩:=k R1 D f r l u;unfold Ud at b;split at b
 ·rename_i z;cases b;refine⟨by rw[<-a.length];exact z,fun p y=>?_⟩;obtain⟨C,n,i,g⟩:=j.new (mo:=.lst d) (o:=.lst f) y fun J s=>⟨f,rfl,Rws.mono s _ _ a⟩
  exact x C _ _ n i g
 ·cases b
end
def OpM(K:Nd)(r:R2)(f:W->W->MH->Option (W×MH)):Prop:=∀x y H Q,F2 K f x y H Q->r x y H Q
def Qhw(K:Nd)(r:List V->Hp->VK->Prop)(f:List W->MH->Option (W×MH)):Prop:=∀a H Q,Fs K f a H Q->r a H Q
section
variable{X:Cx}{a b c:Expr}{ma mb mc:ME}{pos:Pos}
theorem ZC{K:Nd}(h:tI K m σ H Q)(i:∀v H,Q v H->Q' v H):tI K m σ H Q':=by
 obtain⟨R,d,h,w,g,f,st,e,k⟩:=h;exact⟨R,d,h,w,g,f,st,e,fun j l v a b c=>i _ _ (k j l v a b c)⟩
theorem W2{K:Nd}(h:tIA K m σ H Q)(i:∀v H,Q v H->Q' v H):tIA K m σ H Q':=by
 obtain⟨R,d,h,w,g,f,st,e,k⟩:=h;exact⟨R,d,h,w,g,f,st,e,fun j l v a b c=>i _ _ (k j l v a b c)⟩
theorem Gn(g:OpR X (binaryOp op) r)(h:OpM X.K r f)(j:PM X a ma)(i:PM X b mb):PM X (.BinOp a op b pos) (Qc f ma mb):=
 QR (Qlv g j i) fun _ _ _ q=>ZC (Qjn q) fun _ _ e=>ZC e fun _ _ d=>h _ _ _ _ d
theorem VA(g:OpR X (compareOp op) r)(i:OpM X.K r f)(l:PM X a ma)(j:PM X b mb)(h:behindInMarks op b=false:=by rfl):PM X (.Compare a [op] [b] pos) (Qc f ma mb):=
 QR (QhR g l j h) fun _ _ _ q=>ZC (Qjn q) fun _ _ e=>ZC e fun _ _ d=>i _ _ _ _ d
noncomputable def Qg(m:ME):MT:=fun d h=>(m d h).bind fun p=>match p.1 with|.bl b=>some (b,p.2)|_=>none
theorem Wv{K:Nd}(q:tIT K (Qg m) σ H Q):tI K m σ H fun x i=>∃k,x=.bl k/\Q k i:=by
 obtain⟨R,d,h,b,r,l,st,e,k⟩:=q;obtain⟨⟨w,p⟩,n,g⟩:=Nc.mp e;cases w<;>simp only at g<;>first|(cases g;exact⟨R,d,h,_,_,l,st,n,fun o i v x f j=>⟨_,j.bl_eq,k o i x f⟩⟩)|(cases g)
theorem JQ(g:OpR X (compareOp op) r)(i:OpM X.K r f)(l:PM X a ma)(j:PM X b mb)(h:behindInMarks op b=false:=by rfl):PMT X (.Compare a [op] [b] pos) (Qg (Qc f ma mb)):=
 UR (Qci g l j h) fun _ _ _ q=>ZC (Qjn (Wv q)) fun _ _ e=>ZC e fun _ _ d=>i _ _ _ _ d
noncomputable def Vz(f e:W->W->MH->Option (W×MH))(ma mb mc:ME):ME:=fun d h=>(ma d h).bind fun p=>(mb d p.2).bind fun q=>(f p.1 q.1 q.2).bind fun z=>match z.1 with
 |.bl true=>(mc d z.2).bind fun y=>e q.1 y.1 y.2
 |.bl false=>some (.bl false,z.2)
 |_=>none
theorem Qa3{K:Nd}(N:OpM K r f)(u:OpM K M P)(q:tI K (Vz f P ma mb mc) σ H Q):QcG r M (tI K ma) (tI K mb) (tI K mc) σ H Q:=by
 obtain⟨R,g,h,w,O,L,st,e,k⟩:=q;obtain⟨⟨a,F⟩,Y,e2⟩:=Nc.mp e;obtain⟨⟨b,E⟩,U,e3⟩:=Nc.mp e2;obtain⟨⟨z,D⟩,S,d⟩:=Nc.mp e3;refine⟨R,g,h,a,F,L,st,Y,fun R1 H1 x m s I=>⟨R1,g,F,b,E,s,st.mono m,U,fun R2 H2 y l p B=>?_⟩⟩;refine N _ _ _ _ ⟨R2,E,a,b,z,D,p,Rw.mono l _ _ I,B,S,fun G H3 v j i J=>?_⟩;cases z with
 | bl t=>
  refine⟨t,J.bl_eq,?_⟩;cases t with
  |true=>
   obtain⟨⟨c,C⟩,T,Z⟩:=Nc.mp d;refine Qia ⟨G,g,D,c,C,i,st.mono (m.trans (l.trans j)),T,fun R4 H4 y' A o n=>?_⟩;exact u _ _ _ _ ⟨R4,C,b,c,w,O,o,Rw.mono (j.trans A) _ _ B,n,Z,k.ext (m.trans (l.trans (j.trans A)))⟩
  |false=>
   cases d;exact Qir (k G H3 _ (m.trans (l.trans j)) i (Rw.bl _))
 |non=>cases d
 |int _=>cases d
 |str _=>cases d
 |tup _=>cases d
 |lst _=>cases d
 |frz _=>cases d
 |ref _=>cases d
 |ty _=>cases d
theorem Qeo(i:OpR X (compareOp op) r)(l:OpM X.K r f)(e:OpR X (compareOp d) h)(g:OpM X.K h p)(o:PM X a ma)(n:PM X b mb)(m:PM X c mc)
  (j:lastMarks [op,d] [b,c]=false:=by with_unfolding_all rfl):PM X (.Compare a [op,d] [b,c] pos) (Vz f p ma mb mc):=QR (Qen i e o n m j) fun _ _ _ q=>Qa3 l g q
theorem Ur(i:OpR X (compareOp op) r)(l:OpM X.K r f)(e:OpR X (compareOp d) h)(g:OpM X.K h p)(o:PM X a ma)(n:PM X b mb)(m:PM X c mc)
  (j:lastMarks [op,d] [b,c]=false:=by with_unfolding_all rfl):PMT X (.Compare a [op,d] [b,c] pos) (Qg (Vz f p ma mb mc)):=UR (QeJ i e o n m j) fun _ _ _ q=>Qa3 l g (Wv q)
noncomputable def QbO(ma mb:ME):ME:=fun d h=>(ma d h).bind fun p=>match p.1 with|.bl true=>mb d p.2|.bl false=>some (.bl false,p.2)|_=>none
noncomputable def Kh(ma mb:MT):MT:=fun d h=>(ma d h).bind fun p=>match p.1 with|true=>mb d p.2|false=>some (false,p.2)
noncomputable def UT(ma mb:MT):MT:=fun d h=>(ma d h).bind fun p=>match p.1 with|true=>some (true,p.2)|false=>mb d p.2
noncomputable def VC(ma:MT):MT:=fun d h=>(ma d h).bind fun p=>some (!p.1,p.2)
noncomputable def mIf(t:MT)(ma mb:ME):ME:=fun d h=>(t d h).bind fun p=>match p.1 with|true=>ma d p.2|false=>mb d p.2
variable{rest:List Expr}{ta tb:MT}
theorem Yw{op}(h:PM X a ma):PM X (.BoolOp op [a] pos) ma:=Qj9 h
theorem XE(o:PM X a ma)(n:PM X (.BoolOp .And (b::rest) pos) mb):PM X (.BoolOp .And (a::b::rest) pos) (QbO ma mb):=QR (QkO o n) <|by
 rintro u H Q ⟨R,f,h,w,p,m,st,e,k⟩
 obtain⟨⟨a,j⟩,r,d⟩:=Nc.mp e;refine⟨R,f,h,a,j,m,st,r,fun R1 s x i g l=>?_⟩;cases a with
 |bl t=>
  refine⟨t,l.bl_eq,?_⟩;cases t with
  |true=>exact Qia ⟨R1,f,j,w,p,g,st.mono i,d,k.ext i⟩
  |false=>cases d;exact Qir (k R1 s _ i g (Rw.bl _))
 |non=>cases d
 |int _=>cases d
 |str _=>cases d
 |tup _=>cases d
 |lst _=>cases d
 |frz _=>cases d
 |ref _=>cases d
 |ty _=>cases d
def PMW(X:Cx)(e:Expr)(m:MT):Prop:=PW X e (tIT X.K m)
theorem PMW.pt(h:PMW X e m):PMT X e m:=PW.pt h
theorem Qgx{K:Nd}(q:tIT K (Kh ta tb) σ H Q):Qm3 (tIT K ta) (tIT K tb) σ H Q:=by
 obtain⟨R,d,h,w,n,m,st,e,k⟩:=q;obtain⟨⟨a,i⟩,o,j⟩:=Nc.mp e;refine⟨R,d,h,a,i,m,st,o,fun R1 r g f=>?_⟩;cases a with
 |true=>exact Qia ⟨R1,d,i,w,n,f,st.mono g,j,fun R2 p l=>k R2 p (g.trans l)⟩
 |false=>cases j;exact Qir (k R1 r g f)
theorem Qkn{K:Nd}(q:tIT K (UT ta tb) σ H Q):tOr (tIT K ta) (tIT K tb) σ H Q:=by
 obtain⟨R,d,h,w,n,m,st,e,k⟩:=q;obtain⟨⟨a,i⟩,o,j⟩:=Nc.mp e;refine⟨R,d,h,a,i,m,st,o,fun R1 r g f=>?_⟩;cases a with
 |true=>cases j;exact Qia (k R1 r g f)
 |false=>exact Qir ⟨R1,d,i,w,n,f,st.mono g,j,fun R2 p l=>k R2 p (g.trans l)⟩
theorem VM(d:PMT X a ta):PMW X (.BoolOp .And [a] pos) ta:=Qh7 d
theorem Jn(d:PMT X a ta):PMW X (.BoolOp .Or [a] pos) ta:=Qi7 d
theorem Vk(e:PMT X a ta)(d:PMW X (.BoolOp .And (b::rest) pos) tb):PMW X (.BoolOp .And (a::b::rest) pos) (Kh ta tb):=Qf0 (Qki e d) fun _ _ _=>Qgx
theorem QkR(e:PMT X a ta)(d:PMW X (.BoolOp .Or (b::rest) pos) tb):PMW X (.BoolOp .Or (a::b::rest) pos) (UT ta tb):=Qf0 (Qly e d) fun _ _ _=>Qkn
theorem QhF(j:PMT X a ta):PMT X (.UnaryOp .Not a pos) (VC ta):=UR (Qkz j) <|by
 rintro p H Q ⟨R,d,h,w,r,i,st,e,k⟩
 obtain⟨⟨a,l⟩,m,n⟩:=Nc.mp e;cases n;exact⟨R,d,h,a,l,i,st,m,fun R1 o g f=>k R1 o g f⟩
theorem Qa5(n:PMT X c ta)(p:PM X a ma)(o:PM X b mb):PM X (.IfExp c a b pos) (mIf ta ma mb):=QR (Qem n p o) <|by
 rintro s H Q ⟨R,d,h,w,j,m,st,e,k⟩
 obtain⟨⟨t,i⟩,r,l⟩:=Nc.mp e;refine⟨R,d,h,t,i,m,st,r,fun R1 u g f=>?_⟩;cases t with
 |true=>exact Qia ⟨R1,d,i,w,j,f,st.mono g,l,k.ext g⟩
 |false=>exact Qir ⟨R1,d,i,w,j,f,st.mono g,l,k.ext g⟩
noncomputable def Qf2(h:MH):W->Option Bool
 |.non=>some false
 |.bl b=>some b
 |.int i=>some (i != 0)
 |.str x=>if x.length<=sizeLine then some ((x.length:Int) != 0)else none
 |.tup ws=>some (!ws.isEmpty)
 |.lst ws=>some (!ws.isEmpty)
 |.frz ws=>some (!ws.isEmpty)
 |.ref n=>match h[n]? with|some (.lst ws)=>some (!ws.isEmpty)|some (.dic kvs)=>some (!kvs.isEmpty)|_=>none
 |.ty _=>none
noncomputable def Y9(m:ME):MT:=fun d h=>(m d h).bind fun p=>(Qf2 p.2 p.1).map fun b=>(b,p.2)
theorem Rws.isEmpty{K:Nd}(r:Rws K R ws vs):ws.isEmpty=vs.isEmpty:=by
 have:=r.length;cases ws<;>cases vs<;>simp at this ⊢
theorem QkJ{K:Nd}{v:V}{b:Bool}(j:Rh K R h H)(r:Rw K R w v)(e:Qf2 h w=some b):QlK K v H b:=by
 cases w with
 |non=>rw[r.non_eq];cases e;rfl
 |bl b=>rw[r.bl_eq];cases e;rfl
 |int i=>rw[r.int_eq];cases e;rfl
 |str x=>
  rw[r.str_eq];simp only[Qf2]at e;split at e
  ·rename_i p;cases e;exact⟨p,rfl⟩
  ·cases e
 |tup l=>
  obtain⟨a,g,rfl,f,d⟩:=j.tupAt r;cases e;exact .inr (.inl ⟨g,f,by rw[d.isEmpty]⟩)
 |lst l=>
  obtain⟨a,g,rfl,f,d⟩:=j.lstAt r;cases e;exact .inl ⟨g,SqL.of f,by rw[d.isEmpty]⟩
 |frz l=>
  obtain⟨a,g,rfl,f,d⟩:=j.frzAt r;cases e;exact .inl ⟨g,f,by rw[d.isEmpty]⟩
 |ref n=>
  simp only[Qf2]at e;split at e
  ·rename_i l m;cases e;obtain⟨_,rfl,g,f,d⟩:=j.refAt r m;exact .inl ⟨g,SqL.of f,by rw[d.isEmpty]⟩
  ·rename_i kvs m;cases e;unfold Rw at r;obtain⟨o,f,d⟩:=j.obj n _ m;rw[r.2];refine .inr (.inr ⟨o,f,?_⟩);have:=EM d;cases kvs<;>cases o<;>simp at this ⊢
  ·cases e
 |ty _=>cases e
theorem QhH(n:PM X a ma)(m:∀whole,isTrue a X.env whole=(do let v <-whole;standAt a.pos;holding [v] (truthy v)):=by intro _;rfl):PMT X a (Y9 ma):=
 UR (Qfu n m) fun u H Q g=>by
  obtain⟨R,f,h,w,z,l,st,e,k⟩:=g;obtain⟨⟨a,y⟩,p,s⟩:=Nc.mp e;obtain⟨b,o,r⟩:=Nf.mp s;cases r;exact⟨R,f,h,a,_,l,st,p,fun R1 t x i d j=>⟨_,QkJ d j o,k R1 t i d⟩⟩
end
noncomputable def U5:Expr->Bool
 |.ListComp ..=>true
 |.SetComp ..=>true
 |.DictComp ..=>true
 |_=>false
theorem K4(h:U5 e=false):swapsWith e t l env=pure false:=by
 cases e<;>first|rfl|cases h
noncomputable def QM:SM:=fun a h=>some (.nx a h)
noncomputable def Qk(a b:SM):SM:=fun d h=>(a d h).bind fun r=>match r with|.nx c e=>b c e|r=>some r
noncomputable def Q8(m:ME):SM:=fun a h=>(m a h).map fun p=>.rt p.1 p.2
noncomputable def ZX(t:MT)(a b:SM):SM:=fun c h=>(t c h).bind fun p=>match p.1 with|true=>a c p.2|false=>b c p.2
noncomputable def Jj(m:ME):SM:=fun a h=>(m a h).map fun p=>.nx a p.2
noncomputable def QW(i:Nat)(m:ME):SM:=fun a h=>(m a h).map fun p=>.nx (a.set i (some p.1)) p.2
noncomputable def QfT(i:Nat)(f:W->W->MH->Option (W×MH))(m:ME):SM:=fun a h=>match a[i]? with
 |some (some x)=>(m a h).bind fun p=>(f x p.1 p.2).map fun q=>.nx (a.set i (some q.1)) q.2
 |_=>none
section
variable{X:Cx}{st:Stmt}{rest:List Stmt}{a b:SM}{e:Expr}{m:ME}{pos:Pos}
theorem Qg7:Qd8 X [] QM:=QdM Qim <|by
 rintro D d H ⟨R,c,h,r,f,s,e,k⟩
 cases e;exact k R H d (Ext.refl _) f s
theorem Qkp{K:Nd}(q:tS K (Qk a b) D σ H):QmM (tS K a) (tS K b) D σ H:=by
 obtain⟨R,g,h,r,p,s,e,k⟩:=q;obtain⟨j,t,f⟩:=Nc.mp e;refine⟨R,g,h,j,p,s,t,?_⟩;cases j with
 |nx c d=>exact fun R1 u l n i o=>⟨R1,c,d,r,i,o,f,Ends.ext k n⟩
 |rt w d=>cases f;exact k
 |bk c d=>cases f;exact k
 |ct c d=>cases f;exact k
theorem Qeh(d:PMS X st a)(c:Qd8 X rest b):Qd8 X (st::rest) (Qk a b):=QdM (Qef d c) fun _ _ _=>Qkp
theorem Qh0(c:PMS X st a):Qd8 X [st] a:=Qhi c
theorem Qfm(l:PM X e m)(j:U5 e=false:=by rfl):PMS X (.Expr e pos) (Jj m):=XA (Qhd l (K4 j)) <|by
 rintro D g H ⟨R,c,h,r,i,s,e,k⟩
 obtain⟨⟨w,n⟩,p,o⟩:=Nf.mp e;cases o;exact⟨R,c,h,w,n,i,s,p,fun R1 t v f d _=>k R1 t g f d (s.mono f)⟩
theorem QhZ(f:PM X e m):PMS X (.Return (some e) pos) (Q8 m):=XA (QiM f) <|by
 rintro D l H ⟨R,c,h,r,d,s,e,k⟩
 obtain⟨⟨w,g⟩,j,i⟩:=Nf.mp e;cases i;exact⟨R,c,h,w,g,d,s,j,k⟩
theorem QkF(p:PMT X c t)(v:Qd8 X n a)(u:Qd8 X l b):PMS X (.If c n l pos) (ZX t a b):=XA (Qms p v u) <|by
 rintro D x H ⟨R,d,h,r,o,s,e,k⟩
 obtain⟨⟨z,i⟩,w,j⟩:=Nc.mp e;refine⟨R,d,h,z,i,o,s,w,fun R1 y g f=>?_⟩;cases z with
 |true=>exact Qia ⟨R1,d,i,r,f,s.mono g,j,Ends.ext k g⟩
 |false=>exact Qir ⟨R1,d,i,r,f,s.mono g,j,Ends.ext k g⟩
theorem Qij(hN:X.N.Nodup)(p:X.N[i]?=some x)(n:Loc X.env.scope x)(u:PM X e m)(o:U5 e=false:=by rfl)(t:X.fn x=true\/X.env.scope.names.lookup x=some .local:=by first|exact .inl rfl|exact .inr rfl|assumption) :
  PMS X (.Assign [.Name x g] e pos) (QW i m):=XA (QjI hN p n u (K4 o) t) <|by
 rintro D C H ⟨R,c,h,r,l,s,e,k⟩
 obtain⟨⟨w,y⟩,A,z⟩:=Nf.mp e;cases z;exact⟨R,c,h,w,y,l,s,A,fun R1 B v f d j=>k R1 B _ f d ((s.mono f).set j)⟩
theorem Qj0(c:OpR X (inplaceOp op) r):PIp X op r:=c
theorem W3(hN:X.N.Nodup)(L:X.N[i]?=some x)(I:Loc X.env.scope x)(J:OpR X (inplaceOp op) r)(M:OpM X.K r f)(O:PM X e m)
  (p:X.fn x=true\/X.env.scope.names.lookup x=some .local:=by first|exact .inl rfl|exact .inr rfl|assumption):PMS X (.AugAssign (.Name x u) op e pos) (QfT i f m):=
 XA (QiI hN L I O (Qj0 J) p) fun D Z H B=>by
  obtain⟨R,c,h,r,G,s,e,k⟩:=B;unfold QfT at e;split at e
  ·rename_i C n;obtain⟨⟨w,A⟩,U,T⟩:=Nc.mp e;obtain⟨⟨z,P⟩,S,Q⟩:=Nf.mp T;cases Q;obtain⟨v0,o,g⟩:=s.2 i _ n;refine⟨v0,o,R,c,h,w,A,G,s,U,fun R1 H1 v d l F=>?_⟩;exact M _ _ _ _ ⟨R1,A,C,w,z,P,l,Rw.mono d _ _ g,F,S,fun R2 Y y t j E=>k R2 Y _ (d.trans t) j ((s.mono (d.trans t)).set E)⟩
  ·cases e
end
noncomputable def QiB(r:Option MF):Option (W×MH):=match r with|some (.rt w h)=>some (w,h)|some (.nx _ h)=>some (.non,h)|_=>none
noncomputable def Qn(more:Nat)(m:SM):FM:=fun a h=>QiB (m (a.map some++List.replicate more none) h)
theorem Rst.start{K:Nd}(r:Rws K R ws vs)(k:Nat)(d:N.length=ws.length+k):Rst K R (ws.map some++List.replicate k none) (start N vs):=by
 have c:=r.length;unfold L2.start;refine⟨by simp[d,c],fun i w e=>?_⟩
 by_cases b:i<ws.length
 ·rw[Ei (by simpa using b)]at e;rw[Ei (by simpa[<-c]using b)];rw[Nq]at e ⊢;obtain⟨j,a,h⟩:=Nf.mp e;cases h;obtain⟨v,g,f⟩:=r.get a;exact⟨v,by rw[g];rfl,f⟩
 ·rw[EN (by simpa using b)]at e;rw[IG]at e;split at e<;>cases e
section
variable{P:Program}{w:World}{K:Nd}{mg:Str->Option Value}{base:Heap}
theorem Qlg{st:Stmt}{N ps:List Str}{m:SM}(F:Fun K x c st f fd)(S:FnScope N ps (Qe st))(hN:N.length=ps.length+more)
  (g:∀(b:Value) (A:Around) (a:List Env) (s:Shared) (H:Hp) (E:XK),Room k (A.deeper (envOfC c (Qe st) s.heap.objs.size f b))->Qd8 (Qf7 CX0 P w K mg base N c (Qe st) f b A a s H E).nox (Vi st) m) :
  FnOk P w K mg base CX0 (k+1) f fd ps (spM K ps.length (Qn more m)):=by
 refine F.ok S (fun v H Q E q=>?_) (fun b A a s H v Q E hr q=>?_)
 ·obtain⟨R,u,h,w,z,l,j,d,_⟩:=q;rw[<-d.length];exact l
 ·refine⟨_,g b A a s H E hr,?_⟩;obtain⟨R,u,h,w,z,l,j,d,e,o⟩:=q;have st:=Rst.start (N:=N) d more (by rw[hN,l]);unfold Qn QiB at e;split at e
  ·rename_i C y n;cases e;exact⟨R,_,h,_,j,st,n,o⟩
  ·rename_i p y n;cases e;exact⟨R,_,h,_,j,st,n,fun R1 B r t i _=>o R1 B .non t i Rw.non⟩
  ·cases e
end
section
variable{X:Cx}{CX:CXT}{k:Nat}{f:Addr}{fd:FuncData}{ps:List Str}{g:FM}{E:XK}{x:Str}{p pos:Pos}{e:Expr}{es:List Expr}{ms:MA}
noncomputable def Qi(n:Nat)(g:FM)(ms:MA):ME:=mFn (fun a h=>if a.length=n then g a h else none) ms
theorem Qhg{K:Nd}(q:tI K (Qi n g ms) σ H Q):Qkm (spM K n g) [] E (tIA K ms) σ H Q:=by
 refine W2 (Qbw q) fun l m b=>?_;obtain⟨R,h,c,w,j,d,a,e,k⟩:=b;dsimp only at e;split at e
 ·rename_i i;exact⟨R,c,h,w,j,i,d,by rw[Dj];exact a,e,k⟩
 ·cases e
theorem Qhn(F:FnOk X.prog X.w X.K X.mg X.base CX k f fd ps (spM X.K ps.length g))(hr:Room k X.A)(i:Gl X x)(d:X.mg x=some (.ref f))(h:DJ X.K (.ref f)=true)(l:Binds X.K fd ps [])(c:QaB CX X E)
  (m:PMA X (e::es) ms) (b:(x==("__debug__":Str))=false:=by decide) (j:JI e=false:=by rfl) (a:XG es=true:=by rfl) :
  PM X (.Call (.Name x p) (e::es) [] pos) (Qi ps.length g ms):=QR (QgX F hr i d h l .nil c m b (QL j) (Z6 a)) fun _ _ _=>Qhg
end
section
variable{X:Cx}{x:Str}{p pos:Pos}{e:Expr}{es:List Expr}{ms:MA}{id T:String}{r:List V->Hp->VK->Prop}{f:List W->MH->Option (W×MH)}
theorem Xv(m:CallR X (.builtin id) r)(j:Qhw X.K r f)(i:Gl X x)(h:X.mg x=none)(d:bootBuiltins x=some (.builtin id))(n:PMA X (e::es) ms)(g:x≠"__name__":=by decide)(b:(x==("__debug__":Str))=false:=by decide)
  (l:JI e=false:=by rfl) (a:XG es=true:=by rfl):PM X (.Call (.Name x p) (e::es) [] pos) (mFn f ms):=
 QR (Qeq m i h d n g b (QL l) (Z6 a)) fun _ _ _ q=>W2 (Qbw q) fun _ _ c=>j _ _ _ c
theorem V4(m:CallR X (.type T) r)(j:Qhw X.K r f)(i:Gl X x)(h:X.mg x=none)(d:bootBuiltins x=some (.type T))(n:PMA X (e::es) ms)(g:x≠"__name__":=by decide)(b:(x==("__debug__":Str))=false:=by decide)
  (l:JI e=false:=by rfl) (a:XG es=true:=by rfl):PM X (.Call (.Name x p) (e::es) [] pos) (mFn f ms):=
 QR (Qb6 m i h d n g b (QL l) (Z6 a)) fun _ _ _ q=>W2 (Qbw q) fun _ _ c=>j _ _ _ c
end
inductive Src where
 |l (n:Nat)
 |d (n:Nat)
 |r (n:Nat)
 |v (n:Nat)
 |i (n:Nat)
 |z (n m a b:Nat)
noncomputable def Src.ok(items:List W)(h:MH):Src->Prop
 |.l n=>h[n]?=some (.lst items)
 |.d n=>∃kvs,h[n]?=some (.dct kvs)/\kvs.map (·.1)=items
 |.r n=>h[n]?=some (.lst items.reverse)
 |.v n=>∃kvs,h[n]?=some (.dct kvs)/\kvs.map (·.2)=items
 |.i n=>∃kvs,h[n]?=some (.dct kvs)/\kvs.map (fun p=>.tup [p.1,p.2])=items
 |.z n m a b=>∃as bs,h[n]?=some (.lst as)/\h[m]?=some (.lst bs)/\(as.zip bs).map (fun q=>.tup [q.1,q.2])=items/\as.length=a/\bs.length=b
def live(src:Option Src)(items:List W)(h:MH):Prop:=∀n,src=some n->n.ok items h
noncomputable abbrev MI:=MSt->MH->Option (List W×Option Src×MH)
structure ItOk(K:Nd)(R:Rn)(J:It)(items:List W)(src:Option Src):Prop where
 go:∀i w R' h H,Ext R R'->Rh K R' h H->live src items h->items[i]?=some w->J.go i H
 yld:∀i w R' h H x H',Ext R R'->Rh K R' h H->live src items h->items[i]?=some w->J.yld i H x H'->∃R'',Ext R' R''/\Rh K R'' h H'/\Rw K R'' w x
 stop:∀i R' h H,Ext R R'->Rh K R' h H->live src items h->items.length<=i->J.stop i H
noncomputable def tII(K:Nd)(m:MI):TI:=fun f H C=>∃R a h items b d,Rh K R h H/\Rst K R a f/\m a h=some (items,b,d)/\∀c e J,Ext R c->Rh K c d e->ItOk K c J items b->C J e
def PMI(X:Cx)(a iter:Expr)(m:MI):Prop:=PI X a iter (tII X.K m)
theorem Y3(h:PI X b iter t)(i:∀σ H C,t' σ H C->t σ H C):PI X b iter t':=fun a s σ H C I q=>h a s σ H C I (i _ _ _ q)
noncomputable abbrev MG:=W->MSt->MH->Option MSt
noncomputable def tIG(K:Nd)(b:MG):TG:=fun v g H C=>∃R a h w c,Rh K R h H/\Rst K R a g/\Rw K R w v/\b w a h=some c/\∀e f d,Ext R e->Rh K e h f->Rst K e c d->C d f
def PMG(X:Cx)(a:Expr)(b:MG):Prop:=PG X a (tIG X.K b)
theorem Qgg(h:PG X b t)(i:∀v σ H C,t' v σ H C->t v σ H C):PG X b t':=fun a s σ H v u C I r q=>h a s σ H v u C I r (i _ _ _ _ q)
noncomputable def Q2(i:Nat):MG:=fun w a _=>some (a.set i (some w))
theorem Ww(hN:X.N.Nodup)(f:X.N[i]?=some x)(d:Loc X.env.scope x)(g:X.fn x=true\/X.env.scope.names.lookup x=some .local:=by first|exact .inl rfl|exact .inr rfl|assumption) :
  PMG X (.Name x pos) (Q2 i):=Qgg (Qdu hN f d g) <|by
 rintro v j H C ⟨R,a,h,w,b,c,st,rw,e,k⟩
 cases e;exact k R H _ (Ext.refl _) c (st.set rw)
open Classical in
noncomputable def X6(items:List W)(src:Option Src)(b:MG)(body:SM):List W->SM
 |[],σ,h=>if live src items h then some (.nx σ h)else none
 | w::r,σ,h=>if live src items h then(b w σ h).bind fun d=>(body d h).bind fun z=>match z with
   |.nx a c=>X6 items src b body r a c
   |.ct a c=>X6 items src b body r a c
   |.bk a c=>some (.nx a c)
   |.rt v c=>some (.rt v c)
  else none
noncomputable def ZY(mi:MI)(b:MG)(body:SM):SM:=fun a h=>(mi a h).bind fun p=>X6 p.1 p.2.1 b body p.1 a p.2.2
section
variable{X:Cx}{tg iter:Expr}{body:List Stmt}{mi:MI}{b:MG}{m:SM}{pos:Pos}
theorem Qjf{K:Nd}(q:tS K (ZY mi b m) D σ H):Qm8 (tII K mi) (tIG K b) (tS K m) D σ H:=by
 obtain⟨R,A,h,r,rh,s,e,k⟩:=q;obtain⟨⟨items,t,h1⟩,e1,e2⟩:=Nc.mp e;refine⟨R,A,h,items,t,h1,rh,s,e1,fun R1 H1 J x1 aa it=>?_⟩;refine⟨fun i n σ H=>i+n=items.length/\∃R2 g l,Ext R1 R2/\Rh K R2 l H/\Rst K R2 g σ/\∃r,X6 items t b m (items.drop i) g l=some r/\Ends K R2 D r,⟨items.length,by simp,R1,A,h1,Ext.refl _,aa,s.mono x1,r,by simpa using e2,Ends.ext k x1⟩,?_⟩
 rintro i n E S ⟨ae,R2,g,l,G,j,s2,r2,d,L⟩
 by_cases M:i<items.length
 ·obtain⟨w,hw⟩:∃w,items[i]?=some w:=⟨items[i],Ni M⟩
  have hd:items.drop i=w::items.drop (i+1):=by
   rw[ET M];rw[Ni M]at hw;cases hw;rfl
  rw[hd]at d;unfold X6 at d;split at d
  ·rename_i P;obtain⟨C,e4,e5⟩:=Nc.mp d;obtain⟨z,e6,Q⟩:=Nc.mp e5;refine .inr ⟨it.go i w R2 l S G j P hw,fun F T=>∃y B h4,Ext R1 y/\Rh K y h4 T/\Rst K y B F/\∃r,X6 items t b m (items.drop (i+1)) B h4=some r/\Ends K y D r,fun F T hn=>⟨n-1,by omega,by omega,hn⟩,fun x T hy=>?_⟩;obtain⟨y,p,Z,U⟩:=it.yld i w R2 l S x T G j P hw hy;refine⟨y,g,l,w,C,Z,s2.mono p,U,e4,fun R4 H4 ab u Y s4=>?_⟩;refine⟨R4,C,l,z,Y,s4,e6,?_⟩;cases z with
   |nx f N=>exact fun O H5 a o c I=>⟨O,f,N,G.trans (p.trans (u.trans o)),c,I,r2,Q,Ends.ext L (p.trans (u.trans o))⟩
   |ct f N=>exact fun O H5 a o c I=>⟨O,f,N,G.trans (p.trans (u.trans o)),c,I,r2,Q,Ends.ext L (p.trans (u.trans o))⟩
   |bk f N=>cases Q;exact fun O H5 a o c I=>L O H5 a (p.trans (u.trans o)) c I
   |rt v N=>cases Q;exact After.ext L (p.trans u)
  ·cases d
 ·have hd:items.drop i=[]:=DG (Ec.mp M);rw[hd]at d;unfold X6 at d;split at d
  ·rename_i P;cases d;exact .inl ⟨it.stop i R2 l S G j P (Ec.mp M),L R2 S E (Ext.refl _) j s2⟩
  ·cases d
theorem Qip(c:PassesOwn (model X.prog X.w) X.A X.env X.xe)(f:X.calm=true)(d:PMI X tg iter mi)(e:PMG X tg b)(g:Qd8 X body m)
  (a:∀x,foldedSetIterable iter X.env x=pure x:=by intro _;rfl):PMS X (.For tg iter body [] pos) (ZY mi b m):=XA (QjE c f d e g a) fun _ _ _=>Qjf
end
section
variable{prog:Program}{w:World}{A:Around}{E:Value->Shared->Prop}{R:Result->Shared->Prop}{s:Shared}
theorem Gu(I:Nat->Shared->Prop)
  (t:∀n s,I n s->wpAny (model prog w) A (pyNext it) (fun r d=>match r with
   |none=>R (.ok .next) d
   | some v=>wpAny (model prog w) A (letOwnedTupleGo target it v) (fun _ b=>wpAny (model prog w) A (assign target env v) (fun _ i=>
     wpAny (model prog w) A (forIn u true fun c r=>if r=true then do let ok <-isTrue c env (eval c env);pure (ForInStep.yield ok)else pure (ForInStep.yield r)) (fun ok a=>
      if ok=true then wpAny (model prog w) A (eval C env) (fun x g=>
       wpAny (model prog w) A (call (.builtin "list.append") [D,x]) (fun _ f=>∃m,m<n/\I m f) (fun _ _=>False) g) (fun _ _=>False) a
      else∃m,m<n/\I m a) (fun _ _=>False) i) (fun _ _=>False) b) (fun _ _=>False) d) (fun _ _=>False) s)
  (n:Nat) (h:I n s) :
  codeAny (model prog w) A (.compLoop (.ListComp C [⟨target,iter,u,0⟩] o pos) 0 it D env) R s:=by
 refine codeAny_loop rfl I (fun n s F=>?_) n h;show wpAny _ A ((compTurn (.ListComp C [⟨target,iter,u,0⟩] o pos) 0 it D env).onRaise (fun x=>do noteFrame x env;theTreesLotGoes x)) _ _ s;refine wpAny_noted ?_;rw[compTurn_list];refine Na (LG (Na (NZ (t n s F) (fun r d l=>?_) fun _ _ e=>e.elim)));cases r with
 |none=>exact Nh l
 | some v=>
  refine Na (NZ l (fun _ b p=>?_) fun _ _ e=>e.elim);refine Na (NZ p (fun _ i B=>Na (NZ B (fun ok a j=>?_) fun _ _ e=>e.elim)) fun _ _ e=>e.elim);cases ok with
  |false=>exact Nh ⟨rfl,j⟩
  |true=>
   exact Na (Na (NZ j (fun x g z=>Na (NZ z (fun _ f y=>Nh (Nh ⟨rfl,y⟩)) fun _ _ e=>e.elim)) fun _ _ e=>e.elim))
end
theorem sz{h:Heap}(e:h.get? b=some o)(a:h.objs.size<=n):¬b=n:=fun z=>by
 have c:@LT.lt Nat instLTNat b h.objs.size:=Nv e;subst z;exact Ex _ (Nl c a)
noncomputable abbrev blk(X:Cx)(a:Scope)(b:List (Str×Addr))(Nb:List Str)(s₀:Shared)(H₀:Hp)(C:Addr)(ex:List Addr)(pn:List (Addr×Obj)):Cx:=
 { X with N:=Nb,s₀:=s₀,H₀:=H₀,env:=compEnvC a b C X.env,outer:=X.stack,stack:=X.stack,ex:=ex,fn:=fun _=>false,pn:=pn,xe:=fun _ _=>False }
structure BlkOk(X:Cx)(scope:Scope)(cl:List (Str×Addr))(Nb:List Str)(cp:List (Option Nat)):Prop where
 clos:closureFor scope X.env=pure cl
 cell:∀y∈scope.names,y.2≠.cell
 kind:scope.kind=.function
 names:∀y∈scope.names,y.2=.local->scope.names.lookup y.1=some .local
 sub:∀x c,cl.lookup x=some c->X.env.cells.lookup x=some c
 has:∀x,((relabel scope X.env).names.lookup x=some .cell\/(relabel scope X.env).names.lookup x=some .free)->∃c,cl.lookup x=some c
 len:cp.length=Nb.length
 cap:∀(i j:Nat) (x:Str),cp[i]?=some (some j)->Nb[i]?=some x->X.N[j]?=some x/\Vis X.env.scope x/\(X.env.kindOf x=some .cell\/X.env.kindOf x=some .free)/\((relabel scope X.env).names.lookup x=some .cell\/(relabel scope X.env).names.lookup x=some .free)
noncomputable def Gd(cp:List (Option Nat))(σ:L2.St):L2.St:=cp.map fun o=>match o with|none=>none|some j=>match σ[j]? with|some v=>v|none=>none
noncomputable def Qfw(l:TI)(cp:List (Option Nat))(g:TG)(tt:TT)(te:TE):TE:=fun f H Q=>l f H fun J p=>∃W:Nat->Nat->List V->L2.St->Hp->Prop,(∃m,W 0 m [] (Gd cp f) p)/\∀i m a e H,W i m a e H ->
 (J.stop i H/\∀D,H D=none->Q (.ref D) (upd H D (.lst a))) \/
 (J.go i H/\∀x j,J.yld i H x j->g x e j fun c o=>tt c o fun b h=>if b=true then te c h fun v n=>a.length<sizeLine/\∃d,d<m/\W (i+1) d (a++[v]) c n else∃d,d<m/\W (i+1) d a c h)
theorem Inv.track(I:Inv X d σ H s)(g:H D=none)(m:X.s₀.heap.objs.size<=D)(l:X.env.locals≠D)(j:∀x c,X.env.cells.lookup x=some c->c≠D)
  (i:∀p∈X.pn++d,p.1≠D) (ob:ObjOk X.prog X.w (upd H D o) s.heap D o):Inv X d σ (upd H D o) s where
 ok:=I.ok
 os:=I.os
 bare:=I.bare
 base:={
  keep:=I.base.keep
  slot:=I.base.slot
  free:=fun b q e n nx=>by
   have:b≠D:=sz e m;rw[Qr this];exact I.base.free b q e n nx
  there:=I.base.there
  tups:=fun b h e=>by
   have q:=I.base.tups b h e;rw[Qr (fun z=>by rw[z,g]at q;cases q)];exact q
  frzs:=fun b q u e=>by
   have z:=I.base.frzs b q u e;rw[Qr (fun y=>by rw[y,g]at z;cases z)];exact z
  tbls:=fun b ps e=>by
   obtain⟨more,q⟩:=I.base.tbls b ps e
   exact⟨more,by rw[Qr (fun z=>by rw[z,g]at q;cases q)];exact q⟩ }
 loc:=I.loc
 cell:=I.cell
 free:=by rw[Qr l];exact I.free
 freeC:=fun x c e=>by rw[Qr (j x c e)];exact I.freeC x c e
 pin:=fun p f=>by
  obtain⟨a,b,c⟩:=I.pin p f;exact⟨a,by rw[Qr (i p f)];exact b,c⟩
 hok:=fun a u e=>by
  by_cases z:a=D
  ·subst z;rw[Ju]at e;cases e;exact ob
  ·rw[Qr z]at e;refine(I.hok a u e).stay (fun _ _ _ q=>q) (fun b q=>?_) (fun b h q=>?_)
   ·rw[Qr (fun y=>by rw[y,g]at q;cases q)];exact q
   ·rw[Qr (fun y=>by rw[y,g]at q;cases q)];exact q
 len:=I.len
section
variable{X:Cx}{elt tg iter:Expr}{ifs:List Expr}{scope:Scope}{pos:Pos}{cl:List (Str×Addr)}{Nb:List Str}{cp:List (Option Nat)}{wi:TI}{g:TG}{tt:TT}{te:TE}
theorem Cx.Ok.blk(B:BlkOk X scope cl Nb cp)(I:Inv X d σ H s)(f:∀b∈l,QbN X d H b)(i:∀b∈l,b<s.heap.objs.size)(j:s.heap.objs.size<=C) :
  (blk X scope cl Nb s H C l p).Ok where
 mod:=I.ok.mod
 kind:=B.kind
 glob:=I.ok.glob
 blt:=I.ok.blt
 above:=j
 inj:=fun x y c n m=>I.ok.inj x y c (B.sub x c n) (B.sub y c m)
 has:=fun x h=>B.has x h
 cab:=fun x c h=>absurd h (by simp)
 hd:=I.ok.hd
 frames:=I.ok.frames
 stk:=.inl rfl
 exf:=fun b a=>⟨fun z=>by have:=i b a;rw[z]at this;exact absurd j (FK.mpr this),fun x c e=>(f b a).2.2.2.2.1 x c (B.sub x c e)⟩
 bs:=I.bs
 bsz:=Nr I.ok.bsz I.sz
 noex:=fun b o e a=>by
  rcases(f b a).2.2.2.1 with z|z
  ·exact I.ok.noex b o e z
  ·exact sz e (Nr I.ok.bsz z) rfl
 exfs:=fun b a z=>by
  have:=I.stkSub b z
  rcases NB.mp this with q|q
  ·exact(f b a).2.1 q
  ·exact(f b a).2.2.1 q
 funs:=I.stack
 frf:=fun b a=>I.stkFree b a
theorem QdP{cp:List (Option Nat)}{σ:L2.St}{i:Nat}{v:V}(e:(Gd cp σ)[i]?=some (some v)):∃j,cp[i]?=some (some j)/\σ[j]?=some (some v):=by
 unfold Gd at e;rw[Nq]at e;obtain⟨o,b,a⟩:=Nf.mp e;cases o with
 |none=>cases a
 |some j=>
  refine⟨j,b,?_⟩;simp only at a;split at a
  ·rename_i u hu;rw[hu,a]
  ·cases a
theorem Inv.blk{H:Hp}{C:Addr}{M:List Addr}{tk:Nat}(B:BlkOk X scope cl Nb cp)(I:Inv X f σ H s)(O:∀b∈M,QbN X f H b)(F:∀b∈M,b<s.heap.objs.size)
  (G:s.heap.objs.size<=C) (D:h'.Ns C m) (y:∀b o,s.heap.get? b=some o->h'.get? b=some o):Inv (Mi.blk X scope cl Nb s H C M (X.pn++f)) [] (Gd cp σ) H { s with heap:=h',toks:=tk } where
 ok:=Cx.Ok.blk B I O F G
 os:=rfl
 bare:=I.bare
 base:=Un.kept y
 loc:=by
  refine⟨m,D,fun i x v hN e Z=>?_⟩;obtain⟨j,S,R⟩:=QdP e;obtain⟨Q,t,E,w⟩:=B.cap i j x S hN;obtain⟨Y,U,lk⟩:=I.loc;obtain⟨u,r,l⟩:=lk j x v Q R t;refine⟨u,r,?_⟩
  rcases l with⟨h,_⟩|⟨_,c,P,n⟩
  ·rcases E with z|z<;>rw[z]at h<;>cases h
  ·refine .inr ⟨w,?_⟩;obtain⟨T,A⟩:=B.has x w;have:=B.sub x T A;rw[P]at this;cases this
   exact⟨c,A,by
    obtain⟨o,L,J⟩:=n
    exact⟨o,y _ _ L,J⟩⟩
 cell:=fun x c e=>by
  obtain⟨v,o,L,J⟩:=I.cell x c (B.sub x c e);exact⟨v,o,y _ _ L,J⟩
 free:=I.hok.fresh G
 freeC:=fun x c e=>I.freeC x c (B.sub x c e)
 pin:=fun p N=>by
  rw[Dj]at N;obtain⟨a,b,c,d,e⟩:=I.pin p N;refine⟨y _ _ a,b,fun z=>?_,fun z=>?_,e⟩
  ·have:=Nv a;rw[z]at this;exact absurd G (FK.mpr this)
  ·rcases NB.mp (I.stkSub _ z)with q|q
   ·exact c q
   ·exact d q
 hok:=I.hok.kept y
 len:=by unfold Gd;rw[Nu];exact B.len
def Qma(X:Cx)(a:List (Addr×Obj))(σ:L2.St)(use:Option (Value->Sem Unit))(Q:VK)(Q':Value->Shared->Prop):Prop:=
 ∀(D C:Addr) (d:Hp) (b:Shared) (m:Str->Option Value),Inv X a σ d b->b.heap.Ns C m->d C=none->¬C=X.env.locals->X.s₀.heap.objs.size<=C->(∀x c,X.env.cells.lookup x=some c->c≠C)->(∀p∈X.pn++a,p.1≠C)->Q (.ref D) d ->
  compPost (model X.prog X.w) X.A X.xe use Q' (.ref D) C (.ok .next) b
theorem QaY(hc:X.calm=true)(B:BlkOk X scope cl Nb cp)(hi:PI X tg iter wi)(hg:∀O R C ex pn,PG (Mi.blk X scope cl Nb O R C ex pn) tg g)
  (ht:∀O R C ex pn,∀(j:List (Addr×Obj)) (s:Shared) (Z:L2.St) (H:Hp) (Q:Bool->Hp->Prop),Inv (Mi.blk X scope cl Nb O R C ex pn) j Z H s->tt Z H Q ->
   wpAny (model X.prog X.w) X.A (forIn ifs true fun c r=>if r=true then do let ok <-isTrue c (compEnvC scope cl C X.env) (eval c (compEnvC scope cl C X.env));pure (ForInStep.yield ok)else pure (ForInStep.yield r)) (TP (Mi.blk X scope cl Nb O R C ex pn) j Z Q) (fun _ _=>False) s)
  (he:∀O R C ex pn,PE (Mi.blk X scope cl Nb O R C ex pn) elt te) (hs:∀x,foldedSetIterable iter X.env x=pure x)
  (I:Inv X j σ H s) (h:Qfw wi cp g tt te σ H Q) (a4:Qma X j σ use Q Q') :
  wpAny (model X.prog X.w) X.A (comprehension (.ListComp elt [⟨tg,iter,ifs,0⟩] scope pos) scope X.env bn (newList []) false (eval iter X.env) use) Q' X.xe s:=by
 refine wpAny_comprehension_free (use:=use) rfl hs B.clos B.kind B.names (NZ (hi j s σ H _ I h) (fun xv bm U=>NZ U (fun bo f a1=>?_) fun _ _ e=>e) fun _ _ e=>e);obtain⟨it,fp,tn,J,Y,rfl,I2,T,ar,f2,W,⟨m0,w0⟩,ay⟩:=a1
 have au:∀b∈fp,b<f.heap.objs.size:=fun b E=>by
  obtain⟨o,e,_⟩:=T.obj _ _ ar b E;exact Nv e
 refine NX (wpAny_newFunctionEnv B.cell (by intro y hy;simp at hy) (fun U M F=>?_) B.kind);dsimp only at M F ⊢;generalize av:f.heap.push { cls:=.type "list",dict:=none,data:=.seq ([]:List Value).toArray }=G2 at M F ⊢;have al:G2.objs.size=f.heap.objs.size+1:=by rw[<-av,FX]
 generalize be:G2.objs.size=C at M F ⊢;rw[be]at al;have ab:f.heap.objs.size<=C:=by exact Nr (N4 _ _) (NA al.symm)
 have ai:f.heap.objs.size≠C:=by exact NP (Nl (EO _) (NA al.symm))
 have old:∀b o,f.heap.get? b=some o->U.get? b=some o:=fun b o e=>F.extBut b o (sz e ab) (Nn _ (av▸Nn _ e));have an:U.get? f.heap.objs.size=some { cls:=.type "list",data:=.seq ([]:List Value).toArray }:=F.extBut _ _ ai (Nn _ (av▸Nw _ rfl));generalize hD:f.heap.objs.size=D at an ai ab al ⊢;have m:f.heap.objs.size<=D:=NA hD;have N:f.heap.objs.size<=C:=Nr m ab;have I3:=Inv.blk (tk:=f.toks+([]:List (Str×Value)).length) B I2 f2 au (C:=C) (Nr (NA hD) ab) M old;have ao:D∉fp:=fun z=>Ex _ (Nl (au D z) m);have a5:C∉fp:=fun z=>Ex _ (Nl (au C z) N)
 have ax:∀x c,cl.lookup x=some c->c≠D:=fun x c e z=>by
  obtain⟨v,o,h3,_⟩:=I2.cell x c (B.sub x c e);exact sz h3 m z
 have ap:∀p∈X.pn++j,p.1≠D:=fun p P z=>sz (I2.pin p P).1 m z;have a7:∀p∈X.pn++j,p.1≠C:=fun p P z=>sz (I2.pin p P).1 N z
 have bg:D∉frs X.stack:=fun z=>by
  rcases NB.mp (I2.stkSub _ z)with q|q
  ·exact Ex _ (Nl (q▸I2.lt:D<f.heap.objs.size) m)
  ·exact I2.nofs m q
 have aj:∀{t:Hp} {pl:List (Addr×Obj)},(∀b∈fp,t b=none)->(∀p∈pl,p.1=D)->∀b∈fp,QbN (Mi.blk X scope cl Nb f Y C fp (X.pn++j)) pl t b:=fun {t pl} hn bb b E=>
  ⟨hn b E,fun(z:b=C)=>a5 (z▸E),fun z=>by
   rcases NB.mp (I2.stkSub _ z)with q|q
   ·exact(f2 b E).2.1 q
   ·exact(f2 b E).2.2.1 q,.inl E,fun x c e=>(f2 b E).2.2.2.2.1 x c (B.sub x c e),fun p P z=>by
   rcases NQ.mp P with q|q
   ·exact(f2 b E).2.2.2.2.2 p q z
   ·rw[bb p q]at z;exact ao (z▸E)⟩
 have bp:∀{t:Hp},(∀b∈fp,t b=none)->∀b∈fp,QbN X j t b:=fun hn b E=>⟨hn b E,(f2 b E).2⟩
 have fin:∀{Z:L2.St} {t:Hp} {L:Shared} {G:List V} {l:List Value} {n:Nat} {mC:Str->Option Value},Inv (Mi.blk X scope cl Nb f Y C fp (X.pn++j)) [] Z t L->t D=none->L.heap.get? D=some { cls:=.type "list",data:=.seq l.toArray n }->Vals G l->G.length<=sizeLine->L.heap.Ns C mC ->
   (∀D,t D=none->Q (.ref D) (upd t D (.lst G)))->compPost (model X.prog X.w) X.A X.xe use Q' (.ref D) C (.ok .next) L:=by
  intro Z t L G l n mC Ib ak aw r hz bc q;have Ie:Inv X j σ t L:=I2.call' (ch:=fp) (Ib.os) Ib.base Ib.hok Ib.bare fun b E=>⟨(f2 b E).2.2.2.1,(f2 b E).2.1,(f2 b E).2.2.2.2.1,(f2 b E).2.2.2.2.2⟩
  have a2:X.s₀.heap.objs.size<=f.heap.objs.size:=I2.sz
  have It:Inv X j σ (upd t D (.lst G)) L:=Inv.track Ie ak (Nr a2 m) (fun z=>Ex _ (Nl (z▸I2.lt:D<f.heap.objs.size) m)) (fun x c e z=>by
   obtain⟨v,o,h3,_⟩:=I2.cell x c e
   exact sz h3 m z) ap ⟨hz,l,n,r,aw⟩
  exact a4 D C _ L mC It bc (by rw[Qr (Da ai)];exact Ib.free) (fun z=>Ex _ (Nl (z▸I2.lt:C<f.heap.objs.size) N)) (Nr a2 N) (fun x c e z=>by
   obtain⟨v,o,h3,_⟩:=I2.cell x c e
   exact sz h3 N z) a7 (q D ak)
 have am:∀af:Shared,af={ f with heap:=U,toks:=f.toks+([]:List (Str×Value)).length } ->
   codeAny (model X.prog X.w) X.A (.compLoop (.ListComp elt [⟨tg,iter,ifs,0⟩] scope pos) 0 (.ref it) (.ref D) (compEnvC scope cl C X.env))
    (compPost (model X.prog X.w) X.A X.xe use Q' (.ref D) C) af:=by
  rintro af rfl
  refine Gu (fun n L=>∃i Z t G l k,Inv (Mi.blk X scope cl Nb f Y C fp (X.pn++j)) [] Z t L/\tn i L.heap/\(∀b∈fp,t b=none)/\t D=none/\L.heap.get? D=some { cls:=.type "list",data:=.seq (l:List Value).toArray k }/\Vals G l/\G.length<=sizeLine/\W i n G Z t) ?_ m0
   ⟨0,Gd cp σ,Y,[],[],_,I3,T.keep _ _ _ ar (fun b E o e=>old b o e),fun b E=>(f2 b E).1,I2.hok.fresh m,an,.nil,N6 _,w0⟩
  rintro n s3 ⟨i,Z,H3,G,l,k,Ib,az,a6,ak,aw,r3,as,w3⟩
  have a0:∀{S:L2.St} {t:Hp} {L:Shared},Inv (Mi.blk X scope cl Nb f Y C fp (X.pn++j)) [] S t L->t D=none->L.heap.get? D=some { cls:=.type "list",data:=.seq l.toArray k } ->
    Inv (Mi.blk X scope cl Nb f Y C fp (X.pn++j)) [(D,{ cls:=.type "list",data:=.seq l.toArray k })] S t L:=fun {S t L} I' hn ho=>I'.pins_of fun p P=>by
   rw[NH]at P;subst P;exact⟨ho,hn,ai,bg,by intro v;simp⟩
  have a8:=a0 Ib ak aw;have aa:∀p∈[(D,({ cls:=.type "list",data:=.seq l.toArray k }:Obj))],p.1=D:=fun p P=>by rw[NH]at P;subst P;rfl
  have a9:∀{S:L2.St} {t:Hp} {L:Shared},Inv (Mi.blk X scope cl Nb f Y C fp (X.pn++j)) [(D,{ cls:=.type "list",data:=.seq l.toArray k })] S t L->L.heap.get? D=some { cls:=.type "list",data:=.seq l.toArray k }/\t D=none:=fun I'=>by
   obtain⟨a,b,_⟩:=I'.pin (D,_) (NF _ (NH.mpr rfl));exact⟨a,b⟩
  rcases ay i n G Z H3 w3 with⟨stop,qn⟩|⟨go,step⟩
  ·refine NZ (T.done (Mi.blk X scope cl Nb f Y C fp (X.pn++j)) rfl rfl rfl hc i _ s3 Z H3 (fun _ _=>False) a8 (aj a6 aa) az stop) (fun r s4 ⟨hr,I4⟩=>?_) fun _ _ z=>z.elim;subst hr;obtain⟨o4,n4⟩:=a9 I4;obtain⟨m4,ba,_⟩:=I4.loc;have bj:Inv (Mi.blk X scope cl Nb f Y C fp (X.pn++j)) [] Z H3 s4:=I4.pins_of fun p P=>by cases P
   exact fin bj n4 o4 r3 as ba qn
  ·refine NZ (T.item (Mi.blk X scope cl Nb f Y C fp (X.pn++j)) rfl rfl rfl hc i _ s3 Z H3 (fun _ _=>False) a8 (aj a6 aa) az go) (fun r s4 ⟨u,hr,h4⟩=>?_) fun _ _ z=>z.elim;subst hr;refine NZ h4 (fun _ s5 z1=>?_) fun _ _ z=>z.elim;obtain⟨x,H5,I5,r5,y5,aq,bf⟩:=z1;have bi:=I5.pinned (aj bf aa) (T.obj _ _ aq);refine NZ (hg f Y C fp (X.pn++j) _ s5 Z H5 x u _ bi r5 (step x H5 y5)) (fun _ s6 ⟨ae,H6,I6,q6⟩=>?_) fun _ _ z=>z.elim;refine NZ (ht f Y C fp (X.pn++j) _ s6 ae H6 _ I6 q6) (fun ok s7 ⟨H7,I7,q7⟩=>?_) fun _ _ z=>z.elim
   have ah:∀{S:L2.St} {t:Hp} {L:Shared},Inv (Mi.blk X scope cl Nb f Y C fp (X.pn++j)) ([(D,{ cls:=.type "list",data:=.seq l.toArray k })]++Ul fp s5.heap) S t L->tn (i+1) L.heap/\(∀b∈fp,t b=none)/\L.heap.get? D=some { cls:=.type "list",data:=.seq l.toArray k }/\t D=none:=fun {S t L} I'=>by
    refine⟨T.keep _ _ _ aq fun b E o e=>(I'.pin (b,o) (NF _ (NF _ (Xo E e)))).1,fun b E=>?_,?_⟩
    ·obtain⟨o,e,d⟩:=T.obj _ _ aq b E;exact(I'.pin (b,o) (NF _ (NF _ (Xo E e)))).2.1
    ·obtain⟨a,b,_⟩:=I'.pin (D,{ cls:=.type "list",data:=.seq l.toArray k }) (NF _ (N2 _ (NH.mpr rfl)));exact⟨a,b⟩
   cases ok with
   |false=>
    rw[if_neg Ea]at q7 ⊢;obtain⟨m',hm,w7⟩:=q7;obtain⟨t7,f7,o7,n7⟩:=ah I7;exact⟨m',hm,i+1,ae,H7,G,l,k,I7.pins_of (fun p P=>by cases P),t7,f7,n7,o7,r3,as,w7⟩
   | true=>
    rw[if_pos rfl]at q7 ⊢;refine NZ (he f Y C fp (X.pn++j) _ s7 ae H7 _ I7 q7) (fun y s8 z1=>?_) fun _ _ z=>z.elim;obtain⟨v8,H8,I8,r8,bd,m',hm,w8⟩:=z1;obtain⟨t8,f8,o8,n8⟩:=ah I8;have a3:=r3.length;refine Dd FI ⟨_,o8,rfl⟩ LN (Lx _ _) (Oe D l.toArray k y (by rw[Nj];exact Nr (NA a3.symm) as)) ⟨o8,?_⟩;have q:=Oy o8 (·.push y);have hf:l.toArray.push y=(l++[y]).toArray:=by simp
    rw[hf]at q;have bh:Inv (Mi.blk X scope cl Nb f Y C fp (X.pn++j)) [] ae H8 s8:=I8.pins_of fun p P=>by cases P
    have I9:Inv (Mi.blk X scope cl Nb f Y C fp (X.pn++j)) [] ae H8 { s8 with heap:=s8.heap.update D (Obj.mapSeq (·.push y)),toks:=s8.toks }:=
     bh.turned (it:=D) (fun b o E e=>(EK s8.heap (Obj.mapSeq (·.push y)) (Da E)).trans e) n8 ai (.inr m) (fun x c e=>ax x c e) fun p P=>by
      rw[Dj]at P;exact ap p P
    refine⟨m',hm,i+1,ae,H8,G++[v8],l++[y],_,I9,T.keep _ _ _ t8 (fun b E o e=>(EK s8.heap (Obj.mapSeq (·.push y)) (fun(z:D=b)=>ao (z▸E))).trans e),f8,n8,q,r3.append (.cons r8 .nil),by rw[Np,NK];exact bd,w8⟩
 exact codeAny_compStart_list (am _ rfl) (T.self _ 0 _ _ _ (T.keep _ _ _ ar (fun b E o e=>old b o e)) (am _ rfl))
theorem Qcn(L:X.calm=true)(B:BlkOk X scope cl Nb cp)(F:PI X tg iter wi)(G:∀a d C l j,PG (Mi.blk X scope cl Nb a d C l j) tg g)
  (v:∀a d C l j,∀(f:List (Addr×Obj)) (s:Shared) (n:L2.St) (H:Hp) (Q:Bool->Hp->Prop),Inv (Mi.blk X scope cl Nb a d C l j) f n H s->tt n H Q ->
   wpAny (model X.prog X.w) X.A (forIn ifs true fun c r=>if r=true then do let ok <-isTrue c (compEnvC scope cl C X.env) (eval c (compEnvC scope cl C X.env));pure (ForInStep.yield ok)else pure (ForInStep.yield r)) (TP (Mi.blk X scope cl Nb a d C l j) f n Q) (fun _ _=>False) s)
  (J:∀a d C l j,PE (Mi.blk X scope cl Nb a d C l j) elt te) (y:∀x,foldedSetIterable iter X.env x=pure x:=by intro _;rfl) :
  PE X (.ListComp elt [⟨tg,iter,ifs,0⟩] scope pos) (Qfw wi cp g tt te):=by
 intro f s T H Q I h;rw[eval_ListComp];refine QaY L B F G v J y I h fun D C S u m R p E N O i z q=>⟨m,p,fun P t=>?_⟩
 exact⟨.ref D,S,R.turned (t':=u.toks) (it:=C) (fun b o M e=>t.extBut b o M e) E N (.inr O) i z,rfl,q⟩
theorem Qb0(hN:X.N.Nodup)(O:X.N[i]?=some x)(U:Loc X.env.scope x)(hf:X.fn x=true\/X.env.scope.names.lookup x=some .local)(J:swapsWith (.ListComp elt [⟨tg,iter,ifs,0⟩] scope pos) (some (.Name x j)) u.line X.env=pure true)
  (hc:X.calm=true) (B:BlkOk X scope cl Nb cp) (hi:PI X tg iter wi) (hg:∀d f C t p,PG (Mi.blk X scope cl Nb d f C t p) tg g)
  (Y:∀d f C t p,∀(l:List (Addr×Obj)) (s:Shared) (F:L2.St) (H:Hp) (Q:Bool->Hp->Prop),Inv (Mi.blk X scope cl Nb d f C t p) l F H s->tt F H Q ->
   wpAny (model X.prog X.w) X.A (forIn ifs true fun c r=>if r=true then do let ok <-isTrue c (compEnvC scope cl C X.env) (eval c (compEnvC scope cl C X.env));pure (ForInStep.yield ok)else pure (ForInStep.yield r)) (TP (Mi.blk X scope cl Nb d f C t p) l F Q) (fun _ _=>False) s)
  (he:∀d f C t p,PE (Mi.blk X scope cl Nb d f C t p) elt te) (Z:∀x,foldedSetIterable iter X.env x=pure x:=by intro _;rfl) :
  PS X (.Assign [.Name x j] (.ListComp elt [⟨tg,iter,ifs,0⟩] scope pos) u) (QkX (Qfw wi cp g tt te) (QbX i)):=by
 intro l s σ H D I h;rw[exec_Assign_Name_used _ _ _ _ J];refine Na (LG (Na ?_));show wpAny _ X.A (do let _ <-comprehension (.ListComp elt [⟨tg,iter,ifs,0⟩] scope pos) scope X.env _ (newList []) false (eval iter X.env) (some (assign (.Name x j) X.env))) _ _ s;refine Na (NZ (QaY (use:=some (assign (.Name x j) X.env)) (Q':=fun _ E=>SP X l D .next E) hc B hi hg Y he Z I h fun R C H' E m I' L hn P h0 n hp q=>?_) (fun _ E hq=>Nh (Nh hq)) fun _ _ e=>e);show wpAny _ X.A (assign (.Name x j) X.env (.ref R)) _ _ E;refine L9 (UV (v:=.ref R) I' hN O U rfl (fun T I5 ⟨a,S,y⟩=>?_) hf)
 have M:C≠a:=fun z=>by
  rcases y with y|y
  ·exact P (z.trans y)
  ·exact n x a y z.symm
 exact⟨m,L.sameBut S M,fun aa G=>⟨_,H',I5.turned (t':=T.toks) (it:=C) (fun b o hb e=>G.extBut b o hb e) hn P (.inr h0) n hp,q⟩⟩
end
def IterR(X:Cx)(c:Expr)(r:V->Hp->(It->Hp->Prop)->Prop):Prop:=
 ∀(a:List (Addr×Obj)) (s:Shared) (b:L2.St) (H:Hp) (x:V) (v:Value) (C:It->Hp->Prop),Inv X a b H s->RelV x v->r x H C->wpAny (model X.prog X.w) X.A (pyIter v) (PIE X a b c C) X.xe s
section
variable{X:Cx}{tg:Expr}
theorem IterR.or(h:IterR X tg r)(h':IterR X tg d):IterR X tg (fun x H C=>r x H C\/d x H C):=fun a s b H x v C I c q=>by
 rcases q with q|q
 ·exact h a s b H x v C I c q
 ·exact h' a s b H x v C I c q
theorem it_list:IterR X tg (fun x H C=>∃a,x=.ref a/\(∃xs,SqL X.K H a xs)/\C (Itl X.K a) H):=by
 intro d c m l x v C I1 f g;obtain⟨a,e,⟨xs,i⟩,q⟩:=g;subst e;cases f;obtain⟨h,r,p,s⟩:=I1.list i;refine Ik p.isList ?_;refine⟨c.heap.objs.size,[c.heap.objs.size],_,_,l,rfl,I1.kept (t':=c.toks) fun b o e=>Nn _ e,QcU a _,⟨_,Nw _ rfl,rfl,rfl⟩,fun b j=>?_,q⟩;have e:b=c.heap.objs.size:=by simpa using j
 subst e;exact I1.fpOk (Nt _) (I1.hok.fresh (Nt _))
theorem Qi8:IterR X tg (fun x H C=>∃a,x=.ref a/\(∃xs,SqT X.K H a xs)/\C (Itt X.K a) H):=by
 intro f c m l x v C I1 g h;obtain⟨a,e,⟨xs,i⟩,q⟩:=h;subst e;cases g;obtain⟨d,r,p,s⟩:=I1.tuple i;refine D5 (show c.heap.IsTuple a d.toArray from p) ?_;refine⟨c.heap.objs.size,[c.heap.objs.size],_,_,l,rfl,I1.kept (t':=c.toks) fun b o e=>Nn _ e,Qbq a _,⟨_,Nw _ rfl,rfl,rfl⟩,fun b j=>?_,q⟩;have e:b=c.heap.objs.size:=by simpa using j
 subst e;exact I1.fpOk (Nt _) (I1.hok.fresh (Nt _))
noncomputable def Its(x:Str):It:=⟨fun i _=>i<x.cps.size,fun i H v a=>a=H/\∃c,x.cps[i]?=some c/\v=.str ⟨#[c]⟩,fun i _=>x.cps.size<=i⟩
noncomputable def Kk(x:Str):List W:=x.cps.toList.map fun c=>.str ⟨#[c]⟩
theorem QeS{P:Program}{w:World}{K:Nd}{tg:Expr}(it:Addr)(x:Str)(ty:String)(t:Tok)(f:ty="str_ascii_iterator"\/ty="str_iterator") :
  Turn P w K tg (Its x) [it] it (fun i h=>i<=x.cps.size/\h.IsStrIter it ty x t i) where
 mem:=by simp
 obj:=fun i h st b j=>by
  have e:b=it:=by simpa using j
  subst e;obtain⟨_,o,e,c,d⟩:=st;exact⟨o,e,fun v z=>by rw[d]at z;cases z⟩
 keep:=fun i h l st k=>⟨st.1,let⟨o,U,r⟩:=st.2;⟨o,k it (by simp) o U,r⟩⟩
 item:=by
  intro X M hw N L i a s J H E I B st p;subst M hw N;obtain⟨Y,st⟩:=st;obtain⟨G,f1,f2,F,D,C⟩:=B it (by simp);have g:i<x.cps.size:=p;have m:x.cps[i]?=some (x.cps[i]'g):=NU g
  have fin:∀l:Heap,l.IsStrIter it ty x t (i+1)->Heap.SameBut it s.heap l->∃u,some (Value.str ⟨#[x.cps[i]'g]⟩ s.toks)=some u/\wpAny (model X.prog X.w) X.A (letOwnedTupleGo tg (.ref it) u) (fun _ R=>∃y Q,Inv X a J Q R/\RelV y u/\(Its x).yld i H y Q/\(i+1<=x.cps.size/\R.heap.IsStrIter it ty x t (i+1))/\∀b∈[it],Q b=none) E { s with heap:=l,toks:=s.toks+1 }:=fun l n T=>by
   have I1:Inv X a J H { s with heap:=l,toks:=s.toks+1 }:=I.turned (fun b o j e=>(T.2 b j).trans e) G f1 F D C;obtain⟨o,e,c,d⟩:=id n;refine⟨_,rfl,QbA (s:={ s with heap:=l,toks:=s.toks+1 }) e c d (by rcases f with z|z<;>rw[z]<;>decide) ⟨.str ⟨#[x.cps[i]'g]⟩,H,I1,⟨_,rfl⟩,⟨rfl,_,m,rfl⟩,⟨p,n⟩,fun b j=>(B b j).1⟩⟩
  rcases f with z|z
  ·subst z;exact wpAny_pyNext_ascii_item st m fin
  ·subst z;exact wpAny_pyNext_wide_item st m fin
 done:=by
  intro X M hw N L i a s J H E I B st p;subst M hw N;obtain⟨Y,st⟩:=st;obtain⟨G,f1,f2,F,D,C⟩:=B it (by simp);have m:x.cps[i]?=none:=by have:x.cps.size<=i:=p;simp;exact this
  rcases f with z|z
  ·subst z;exact wpAny_pyNext_ascii_end (I.ok.hd L) st m fun l O=>⟨rfl,I.turned (t':=s.toks) (fun b o j e=>O b o j e) G f1 F D C⟩
  ·subst z;exact wpAny_pyNext_wide_end (I.ok.hd L) st m fun l O=>⟨rfl,I.turned (t':=s.toks) (fun b o j e=>O b o j e) G f1 F D C⟩
 self:=fun _ _ _ _ _ st h=>by
  rcases f with z|z
  ·subst z;exact wpAny_pyIter_striter_ascii st.2 h
  ·subst z;exact wpAny_pyIter_striter_wide st.2 h
theorem Qjd:IterR X tg (fun x H C=>∃y,x=.str y/\C (Its y) H):=by
 intro c a g l x v C I1 h i;obtain⟨y,rfl,q⟩:=i;obtain⟨t,rfl⟩:=h
 have fin:∀ty,(ty="str_ascii_iterator"\/ty="str_iterator")->PIE X c g tg C (.ref a.heap.objs.size) { a with heap:=a.heap.push { cls:=.type ty,data:=.fields #[.str y t,.int 0 0] } }:=fun ty d=>by
  refine⟨a.heap.objs.size,[a.heap.objs.size],_,_,l,rfl,I1.kept (t':=a.toks) fun b o e=>Nn _ e,QeS _ y ty t d,⟨N6 _,_,Nw _ rfl,rfl,rfl⟩,fun b j=>?_,q⟩;have e:b=a.heap.objs.size:=by simpa using j
  subst e;exact I1.fpOk (Nt _) (I1.hok.fresh (Nt _))
 cases f:y.cps.all (·<128)
 ·exact wpAny_pyIter_wide f (fin _ (.inr rfl))
 ·exact wpAny_pyIter_ascii f (fin _ (.inl rfl))
end
noncomputable def Qgc(h:MH):W->Option (List W×Option Src)
 |.tup ws=>some (ws,none)
 |.lst ws=>some (ws,none)
 |.frz ws=>some (ws,none)
 |.str x=>some (Kk x,none)
 |.ref n=>match h[n]? with|some (.lst ws)=>some (ws,some (.l n))|_=>none
 |_=>none
noncomputable def Qo(m:ME):MI:=fun a h=>(m a h).bind fun p=>(Qgc p.2 p.1).map fun q=>(q.1,q.2,p.2)
section
variable{K:Nd}{R:Rn}
theorem U7(d:SqL K R.F a xs)(r:Rws K R ws xs):ItOk K R (Itl K a) ws none where
 go:=fun i w j h H x c _ e=>by
  obtain⟨v,g,_⟩:=r.get e;exact⟨xs,v,QG (fun b o z=>c.sub b o (x.f b o z)) d,g⟩
 yld:=fun i w j h H x t e c _ s l=>by
  obtain⟨rfl,m⟩:=l;obtain⟨v,g,p⟩:=r.get s;have:=m xs (QG (fun b o z=>c.sub b o (e.f b o z)) d);rw[g]at this;cases this;exact⟨j,Ext.refl _,c,Rw.mono e _ _ p⟩
 stop:=fun i j h H x c _ n=>⟨xs,QG (fun b o z=>c.sub b o (x.f b o z)) d,by rw[<-r.length];exact n⟩
theorem Qez(d:SqT K R.F a xs)(r:Rws K R ws xs):ItOk K R (Itt K a) ws none where
 go:=fun i w j h H x c _ e=>by
  obtain⟨v,g,_⟩:=r.get e;exact⟨xs,v,Q9 (fun b o z=>c.sub b o (x.f b o z)) d,g⟩
 yld:=fun i w j h H x t e c _ s l=>by
  obtain⟨rfl,m⟩:=l;obtain⟨v,g,p⟩:=r.get s;have:=m xs (Q9 (fun b o z=>c.sub b o (e.f b o z)) d);rw[g]at this;cases this;exact⟨j,Ext.refl _,c,Rw.mono e _ _ p⟩
 stop:=fun i j h H x c _ n=>⟨xs,Q9 (fun b o z=>c.sub b o (x.f b o z)) d,by rw[<-r.length];exact n⟩
theorem Qfg(g:n<R.N):ItOk K R (Itl K (R.ρ n)) ws (some (.l n)) where
 go:=fun i w o h H x b d e=>by
  obtain⟨c,a,f⟩:=b.obj n _ (d (.l n) rfl);obtain⟨v,m,_⟩:=f.get e;rw[x.ρ n g]at a;exact⟨c,v,SqL.of a,m⟩
 yld:=fun i w o h H x u e b d t p=>by
  obtain⟨rfl,r⟩:=p;obtain⟨c,a,f⟩:=b.obj n _ (d (.l n) rfl);obtain⟨v,m,s⟩:=f.get t;rw[e.ρ n g]at a;have:=r c (SqL.of a);rw[m]at this;cases this;exact⟨o,Ext.refl _,b,s⟩
 stop:=fun i o h H x b d j=>by
  obtain⟨c,a,f⟩:=b.obj n _ (d (.l n) rfl);rw[x.ρ n g]at a;exact⟨c,SqL.of a,by rw[<-f.length];exact j⟩
theorem QeY:ItOk K R (Its x) (Kk x) none where
 go:=fun i w b h H _ _ _ e=>by
  have:=(Ng.mp e).1;show i<x.cps.size;simpa[Kk]using this
 yld:=fun i w b h H v l e d _ a f=>by
  obtain⟨rfl,c,j,rfl⟩:=f;unfold Kk at a;rw[Nq,Eo,j]at a;cases a;exact⟨b,Ext.refl _,d,Rw.str _⟩
 stop:=fun i b h H _ _ _ g=>by
  show x.cps.size<=i;simpa[Kk]using g
theorem Qbs{lo:Int}:ItOk K R (Itr lo n) ((List.range n).map fun(i:Nat)=>W.int (lo+(i:Int))) none where
 go:=fun i w b h H _ _ _ e=>by
  have:=(Ng.mp e).1;show i<n;simpa using this
 yld:=fun i w b h H v m e d _ c f=>by
  obtain⟨rfl,rfl⟩:=f;rw[Nq]at c;obtain⟨j,a,l⟩:=Nf.mp c;rw[EB (by have:=(Ng.mp a).1;simpa using this)]at a;cases a;cases l;exact⟨b,Ext.refl _,d,Rw.int _⟩
 stop:=fun i b h H _ _ _ g=>by
  show n<=i;simpa using g
end
section
variable{X:Cx}{tg a b c:Expr}{ma:ME}{ms:MA}{pos p:Pos}
theorem Qg5(P:PM X a ma):PMI X tg a (Qo ma):=by
 intro j s E H C I q;obtain⟨R,u,h,items,F,h',J,st,e,k⟩:=q;obtain⟨⟨w,S⟩,Z,Y⟩:=Nc.mp e;obtain⟨⟨N,sr⟩,i,U⟩:=Nf.mp Y;cases U;refine thn (P j s E H _ I ⟨R,u,h,w,S,J,st,Z,fun R1 m v o d g=>?_⟩) fun v G ⟨x,m,I1,L,M⟩=>((it_list.or Qi8).or Qjd) j G E m x v C I1 L M;cases w with
 |tup A=>
  cases i;obtain⟨ad,z,rfl,D,Q⟩:=d.tupAt g;unfold Rw at g;obtain⟨t,f,T,l,r⟩:=g;cases T;exact .inl (.inr ⟨_,rfl,⟨z,D⟩,k R1 m _ o d (Qez l r)⟩)
 |lst A=>
  cases i;unfold Rw at g;obtain⟨t,f,rfl,l,r⟩:=g;exact .inl (.inl ⟨_,rfl,⟨f,SqL.of (d.sub _ _ l)⟩,k R1 m _ o d (U7 (SqL.of l) r)⟩)
 |frz A=>
  cases i;unfold Rw at g;obtain⟨t,f,rfl,l,r⟩:=g;exact .inl (.inl ⟨_,rfl,⟨f,QG d.sub l⟩,k R1 m _ o d (U7 l r)⟩)
 |str y=>
  cases i;rw[g.str_eq];exact .inr ⟨y,rfl,k R1 m _ o d QeY⟩
 |ref n=>
  simp only[Qgc]at i;split at i
  ·rename_i A O;cases i;obtain⟨B,rfl,z,D,Q⟩:=d.refAt g O;exact .inl (.inl ⟨_,rfl,⟨z,SqL.of D⟩,k R1 m _ o d (Qfg B)⟩)
  ·cases i
 |_=>cases i
noncomputable def QN(lo:Int)(n:Nat):List W:=(List.range n).map fun(i:Nat)=>W.int (lo+(i:Int))
noncomputable def Xx(ms:MA):MI:=fun d h=>(ms d h).bind fun p=>match p.1 with
 |[.int j]=>if -(2^62)<=j/\j<2^62 then some (QN 0 j.toNat,none,p.2)else none
 |_=>none
theorem Kj(A:Gl X "range")(z:X.mg "range"=none)(B:PMA X [a] ms)(y:starEach [a] X.env=[(false,eval a X.env)]:=by rfl):PMI X tg (.Call (.Name "range" p) [a] [] pos) (Xx ms):=
 Y3 (Qc0 A z B y) fun G H C o=>by
  obtain⟨R,f,h,items,u,J,w,st,e,k⟩:=o;obtain⟨⟨s,D⟩,E,d⟩:=Nc.mp e;refine⟨R,f,h,s,D,w,st,E,fun R1 F I r g i=>?_⟩;split at d
  ·rename_i j m;simp only at m;subst m;split at d
   ·rename_i n;cases d;rw[Rws.cons_iff]at i;obtain⟨v,t,rfl,x,l⟩:=i;rw[Rws.nil_iff]at l;subst l;rw[x.int_eq];exact⟨j,rfl,n.1,n.2,k R1 F _ r g Qbs⟩
   ·cases d
  ·cases d
end
noncomputable def QbK(cp:List (Option Nat))(σ:MSt):MSt:=cp.map fun o=>match o with|none=>none|some j=>match σ[j]? with|some v=>v|none=>none
theorem Rst.cap{K:Nd}(s:Rst K R b σ)(cp:List (Option Nat)):Rst K R (QbK cp b) (Gd cp σ):=by
 unfold QbK Gd;refine⟨by simp,fun i w e=>?_⟩;rw[Nq]at e ⊢;obtain⟨o,f,a⟩:=Nf.mp e;rw[f];cases o with
 |none=>cases a
 |some j=>
  simp only at a;split at a
  ·rename_i u hu;subst a;obtain⟨v,d,c⟩:=s.2 j w hu;exact⟨v,by simp[d],c⟩
  ·cases a
open Classical in
noncomputable def JN(fin:List W->MH->Option (W×MH))(items:List W)(src:Option Src)(b:MG)(mt:MT)(me:ME):List W->List W->MSt->MH->Option (W×MH)
 |[],a,_,h=>if live src items h then fin a h else none
 | w::r,a,d,h=>if live src items h then(b w d h).bind fun c=>(mt c h).bind fun q=>match q.1 with
   |true=>(me c q.2).bind fun v=>if a.length<sizeLine then JN fin items src b mt me r (a++[v.1]) c v.2 else none
   |false=>JN fin items src b mt me r a c q.2
  else none
noncomputable def QC(fin:List W->MH->Option (W×MH))(mi:MI)(cp:List (Option Nat))(b:MG)(mt:MT)(me:ME):ME:=fun a h=>(mi a h).bind fun p=>JN fin p.1 p.2.1 b mt me p.1 [] (QbK cp a) p.2.2
noncomputable def V3:MT:=fun _ h=>some (true,h)
noncomputable def Zq(a:List W)(h:MH):Option (W×MH):=some (.lst a,h)
def Qbf(K:Nd)(fin:List W->MH->Option (W×MH)):Prop:=∀R h H b a w d D,Rh K R h H->Rws K R b a->fin b h=some (w,d)->H D=none->∃c,Ext R c/\Rh K c d (upd H D (.lst a))/\Rw K c w (.ref D)
theorem Zg{K:Nd}:Qbf K Zq:=fun R h H d a w f D b r e c=>by
 cases e;exact b.lstI c r
section
variable{X:Cx}{elt tg iter c:Expr}{scope:Scope}{pos:Pos}{cl:List (Str×Addr)}{Nb:List Str}{cp:List (Option Nat)}{mi:MI}{b:MG}{mt:MT}{me:ME}{fin:List W->MH->Option (W×MH)}
theorem Wx{K:Nd}(hf:Qbf K fin)(q:tI K (QC fin mi cp b mt me) σ H Q):Qfw (tII K mi) cp (tIG K b) (tIT K mt) (tI K me) σ H Q:=by
 obtain⟨R,B,h,w,h',rh,s,e,k⟩:=q;obtain⟨⟨items,E,h1⟩,e1,e2⟩:=Nc.mp e;refine⟨R,B,h,items,E,h1,rh,s,e1,fun R1 H1 J x1 Y it=>?_⟩;refine⟨fun i n z τ H=>i+n=items.length/\∃R2 g o a,Ext R1 R2/\Rh K R2 o H/\Rst K R2 g τ/\Rws K R2 a z/\JN fin items E b mt me (items.drop i) a g o=some (w,h')/\After K R2 w h' Q,⟨items.length,by simp,R1,QbK cp B,h1,[],Ext.refl _,Y,(s.mono x1).cap cp,Rws.nil,by simpa using e2,k.ext x1⟩,?_⟩
 rintro i n z τ S ⟨ae,R2,g,o,a,C,m,s2,M,f,Z⟩
 by_cases G:i<items.length
 ·obtain⟨y,N⟩:∃y,items[i]?=some y:=⟨items[i],Ni G⟩
  have hd:items.drop i=y::items.drop (i+1):=by
   rw[ET G];rw[Ni G]at N;cases N;rfl
  rw[hd]at f;unfold JN at f;split at f
  ·rename_i O;obtain⟨d,e4,e5⟩:=Nc.mp f;obtain⟨⟨t,h3⟩,e6,e7⟩:=Nc.mp e5;refine .inr ⟨it.go i y R2 o S C m O N,fun x H' aa=>?_⟩;obtain⟨R3,l,r,p⟩:=it.yld i y R2 o S x H' C m O N aa;refine⟨R3,g,o,y,d,r,s2.mono l,p,e4,fun R4 H4 ab A U L=>?_⟩;refine⟨R4,d,o,t,h3,U,L,e6,fun R5 H5 j F=>?_⟩;cases t with
   |true=>
    obtain⟨⟨v,h4⟩,e8,P⟩:=Nc.mp e7;dsimp only at P;split at P
    ·rename_i hz;refine Qia ⟨R5,d,h3,v,h4,F,L.mono j,e8,fun R6 H6 u I T rv=>⟨by rw[<-M.length];exact hz,n-1,by lia,by lia,R6,d,h4,a++[v],C.trans (l.trans (A.trans (j.trans I))),T,L.mono (j.trans I),?_,P,Z.ext (l.trans (A.trans (j.trans I)))⟩⟩;exact Rws.append (Rws.mono (l.trans (A.trans (j.trans I))) _ _ M) (Rws.cons rv Rws.nil)
    ·cases P
   |false=>
    exact Qir ⟨n-1,by lia,by lia,R5,d,h3,a,C.trans (l.trans (A.trans j)),F,L.mono j,Rws.mono (l.trans (A.trans j)) _ _ M,e7,Z.ext (l.trans (A.trans j))⟩
  ·cases f
 ·have hd:items.drop i=[]:=DG (Ec.mp G);rw[hd]at f;unfold JN at f;split at f
  ·rename_i O;refine .inl ⟨it.stop i R2 o S C m O (Ec.mp G),fun D hD=>?_⟩;obtain⟨R3,l,r,p⟩:=hf R2 o S a z w h' D m M f hD;exact Z R3 _ _ l r p
  ·cases f
theorem JB(r:Qbf X.K fin)(v:X.calm=true)(B:BlkOk X scope cl Nb cp)(o:PMI X tg iter mi)(p:∀a d C i f,PMG (Mi.blk X scope cl Nb a d C i f) tg b)
  (u:∀a d C i f,PM (Mi.blk X scope cl Nb a d C i f) elt me) (n:∀x,foldedSetIterable iter X.env x=pure x:=by intro _;rfl) :
  PM X (.ListComp elt [⟨tg,iter,[],0⟩] scope pos) (QC fin mi cp b V3 me):=
 QR (Qcn (g:=tIG X.K b) (te:=tI X.K me) (tt:=tIT X.K V3) v B o p (fun a d C i f j s w H Q I q=>wpAny_tests_nil (by
  obtain⟨R,l,h,t,A,m,st,e,k⟩:=q;cases e
  exact⟨H,I,k R H (Ext.refl _) m⟩)) u n) fun _ _ _ q=>Wx r q
theorem WT(o:Qbf X.K fin)(r:X.calm=true)(B:BlkOk X scope cl Nb cp)(m:PMI X tg iter mi)(n:∀a d C f e,PMG (Mi.blk X scope cl Nb a d C f e) tg b)
  (j:∀a d C f e,PMT (Mi.blk X scope cl Nb a d C f e) c mt)
  (p:∀a d C f e,PM (Mi.blk X scope cl Nb a d C f e) elt me) (l:∀x,foldedSetIterable iter X.env x=pure x:=by intro _;rfl) :
  PM X (.ListComp elt [⟨tg,iter,[c],0⟩] scope pos) (QC fin mi cp b mt me):=
 QR (Qcn (g:=tIG X.K b) (te:=tI X.K me) (tt:=tIT X.K mt) r B m n (fun a d C f e h s i H Q I q=>wpAny_tests_one (j a d C f e h s i H Q I q)) p l) fun _ _ _ q=>Wx o q
end
open PySem.SeqAt
mutual
noncomputable def eqW:W->W->Bool
 |.non,.non=>true
 |.bl a,.bl b=>a==b
 |.bl a,.int b=>(if a then 1 else 0)==b
 |.int a,.bl b=>a==(if b then 1 else 0)
 |.int a,.int b=>a==b
 |.str a,.str b=>a==b
 |.tup a,.tup b=>Kr a b
 |.lst a,.lst b=>Kr a b
 |_,_=>false
noncomputable def Kr:List W->List W->Bool
 |[],[]=>true
 |x::xs,y::ys=>eqW x y&&Kr xs ys
 |_,_=>false
end
noncomputable def Jg(f:b->Option a):List b->Option (List a)
 |[]=>some []
 |x::xs=>(f x).bind fun y=>(Jg f xs).map (y::·)
noncomputable def drf(h:MH):Nat->W->Option W
 |0,_=>none
 |n+1,w=>match w with
  |.tup ws=>(Jg (drf h n) ws).map .tup
  |.lst ws=>(Jg (drf h n) ws).map .lst
  |.frz ws=>(Jg (drf h n) ws).map .lst
  |.ref k=>match h[k]? with|some (.lst ws)=>(Jg (drf h n) ws).map .lst|_=>none
  |.ty _=>none
  |.non=>some .non
  |.bl b=>some (.bl b)
  |.int i=>some (.int i)
  |.str x=>some (.str x)
theorem QA:∀{xs:List o} {ys:List n},Jg f xs=some ys->xs.length=ys.length/\∀(i:Nat) x,xs[i]?=some x->∃y,ys[i]?=some y/\f x=some y
 |[],ys,e=>by cases e;exact⟨rfl,fun i x h=>by simp at h⟩
 |x::xs,ys,e=>by
  obtain⟨y,m,j⟩:=Nc.mp e;obtain⟨p,g,d⟩:=Nf.mp j;subst d;obtain⟨l,q⟩:=QA g;refine⟨by simp[l],fun i z a=>?_⟩;cases i with
  |zero=>simp at a;subst a;exact⟨y,by simp,m⟩
  |succ i=>simp at a;obtain⟨u,c,b⟩:=q i z a;exact⟨u,by simp[c],b⟩
theorem X8:∀{a b:List W},a.length≠b.length->Kr a b=false
 |[],[],h=>absurd rfl h
 |[],_::_,_=>by unfold Kr;rfl
 |_::_,[],_=>by unfold Kr;rfl
 |x::xs,y::ys,h=>by
  unfold Kr;rw[X8 (a:=xs) (b:=ys) (fun z=>h (by simp[z])),E9]
theorem Ka:∀{a b:List W},a.length=b.length->Kr a b=(List.range a.length).all fun j=>match a[j]?,b[j]? with|some x,some y=>eqW x y|_,_=>false
 |[],[],_=>by unfold Kr;rfl
 |x::xs,y::ys,h=>by
  have c:=Ka (a:=xs) (b:=ys) (by simpa using h);unfold Kr;rw[c,NW,La,Fy,O6];simp[Of]
inductive Kd(K:Nd)(R:Rn)(h:MH)(H:Hp)(n:Nat)(v:V):W->Prop where
 |flat {a:W} (f:Qih v=true) (e:(v=.non/\a=.non)\/(∃b,v=.bl b/\a=.bl b)\/(∃i,v=.int i/\a=.int i)\/∃x,v=.str x/\a=.str x):Kd K R h H n v a
 |lst {ad:Addr} {xs:List V} {ws as:List W} (e:v=.ref ad) (q:SqL K H ad xs) (r:Rws K R ws xs) (m:Jg (drf h n) ws=some as):Kd K R h H n v (.lst as)
 |tup {ad:Addr} {xs:List V} {ws as:List W} (e:v=.ref ad) (q:SqT K H ad xs) (r:Rws K R ws xs) (m:Jg (drf h n) ws=some as):Kd K R h H n v (.tup as)
theorem Xz{K:Nd}{v:V}(g:Rh K R h H)(r:Rw K R w v)(e:drf h (n+1) w=some a):Kd K R h H n v a:=by
 cases w with
 |non=>rw[r.non_eq];cases e;exact .flat rfl (.inl ⟨rfl,rfl⟩)
 |bl b=>rw[r.bl_eq];cases e;exact .flat rfl (.inr (.inl ⟨b,rfl,rfl⟩))
 |int i=>rw[r.int_eq];cases e;exact .flat rfl (.inr (.inr (.inl ⟨i,rfl,rfl⟩)))
 |str x=>rw[r.str_eq];cases e;exact .flat rfl (.inr (.inr (.inr ⟨x,rfl,rfl⟩)))
 |tup l=>
  obtain⟨ad,j,f,q,c⟩:=g.tupAt r;obtain⟨as,m,d⟩:=Nf.mp e;subst d;exact .tup f q c m
 |lst l=>
  obtain⟨ad,j,f,q,c⟩:=g.lstAt r;obtain⟨as,m,d⟩:=Nf.mp e;subst d;exact .lst f (SqL.of q) c m
 |frz l=>
  obtain⟨ad,j,f,q,c⟩:=g.frzAt r;obtain⟨as,m,d⟩:=Nf.mp e;subst d;exact .lst f q c m
 |ref k=>
  simp only[drf]at e;split at e
  ·rename_i l o;obtain⟨as,m,d⟩:=Nf.mp e;subst d;obtain⟨_,f,j,q,c⟩:=g.refAt r o;exact .lst f (SqL.of q) c m
  ·cases e
 |ty _=>cases e
section
variable{X:Cx}{pins:List (Addr×Obj)}{σ:L2.St}{H:Hp}{s:Shared}{R:Rn}{h:MH}
theorem YF{K:Nd}(t:∀r p v a b,Rw K R r v->Rw K R p v->drf h n r=some a->drf h n p=some b->a=b) :
  ∀{d c:List W} {xs:List V} {a b:List W},Rws K R d xs->Rws K R c xs->Jg (drf h n) d=some a->Jg (drf h n) c=some b->a=b
 |[],c,xs,a,b,f,e,i,g=>by
  rw[Rws.nil_iff]at f;subst f;cases c with
  |nil=>cases i;cases g;rfl
  |cons w ws=>rw[Rws.cons_iff]at e;obtain⟨_,_,z,_⟩:=e;cases z
 | w::d,c,xs,a,b,f,e,i,g=>by
  rw[Rws.cons_iff]at f;obtain⟨v,A,rfl,F,E⟩:=f;cases c with
  |nil=>rw[Rws.nil_iff]at e;cases e
  |cons B c=>
   rw[Rws.cons_iff]at e;obtain⟨_,_,z,D,C⟩:=e;cases z;obtain⟨y,L,J⟩:=Nc.mp i;obtain⟨M,I,G⟩:=Nf.mp J;obtain⟨x,o,m⟩:=Nc.mp g;obtain⟨u,l,j⟩:=Nf.mp m;subst G j;rw[t w B v y x F D L o,YF t E C I l]
theorem KF(I:Inv X pins σ H s)(q:SqL X.K H a xs)(e:SqT X.K H a ys):False:=by
 obtain⟨g,_,p,_⟩:=I.list q;obtain⟨d,_,f,_⟩:=I.tuple e;obtain⟨o,n,j,i,_⟩:=p;obtain⟨l,c,b,_⟩:=f;rw[j]at c;cases c;rw[i]at b;exact absurd b (by simp)
theorem KZ(I:Inv X pins σ H s)(g:Rh X.K R h H):∀(n:Nat) (l j:W) (v:V) (a b:W),Rw X.K R l v->Rw X.K R j v->drf h n l=some a->drf h n j=some b->a=b
 |0,_,_,_,_,_,_,_,e,_=>by cases e
 | n+1,l,j,v,a,b,y,o,A,u=>by
  have w:=KZ I g n;cases Xz g y A with
  | flat f z=>
   cases Xz g o u with
   |flat B x=>
    rcases z with⟨rfl,rfl⟩|⟨_,rfl,rfl⟩|⟨_,rfl,rfl⟩|⟨_,rfl,rfl⟩<;>rcases x with⟨i,rfl⟩|⟨_,i,rfl⟩|⟨_,i,rfl⟩|⟨_,i,rfl⟩<;>cases i<;>rfl
   |lst e=>subst e;cases f
   |tup e=>subst e;cases f
  |lst e q r m=>
   subst e;cases Xz g o u with
   |flat f=>cases f
   |lst d c p t=>cases d;have:=I.list_inj q c;subst this;rw[YF w r p m t]
   |tup d c=>cases d;exact(KF I q c).elim
  |tup e q r m=>
   subst e;cases Xz g o u with
   |flat f=>cases f
   |lst d c=>cases d;exact(KF I c q).elim
   |tup d c p t=>cases d;have:=I.tuple_inj q c;subst this;rw[YF w r p m t]
mutual
theorem Wy:∀(n:Nat) (w a:W),drf h n w=some a->eqW a a=true
 |0,_,_,e=>by cases e
 | n+1,w,a,e=>by
  cases w with
  |non=>cases e;unfold eqW;rfl
  |bl b=>cases e;unfold eqW;simp
  |int i=>cases e;unfold eqW;simp
  |str x=>cases e;unfold eqW;simp
  |tup ws=>obtain⟨as,m,c⟩:=Nf.mp e;subst c;unfold eqW;exact Xh n ws as m
  |lst ws=>obtain⟨as,m,c⟩:=Nf.mp e;subst c;unfold eqW;exact Xh n ws as m
  |frz ws=>obtain⟨as,m,c⟩:=Nf.mp e;subst c;unfold eqW;exact Xh n ws as m
  |ref k=>
   simp only[drf]at e;split at e
   ·rename_i ws d;obtain⟨as,m,c⟩:=Nf.mp e;subst c;unfold eqW;exact Xh n ws as m
   ·cases e
  |ty _=>cases e
theorem Xh:∀(n:Nat) (ws as:List W),Jg (drf h n) ws=some as->Kr as as=true
 |n,[],_,m=>by cases m;unfold Kr;rfl
 |n,w::ws,_,m=>by
  obtain⟨y,e,d⟩:=Nc.mp m;obtain⟨a,c,b⟩:=Nf.mp d;subst b;unfold Kr;rw[Wy n w y e,Xh n ws a c];rfl
end
theorem Xq(N:∀i g v1 l z v a b,Rw X.K R i v1->Rw X.K R g l->RelV v1 z->RelV l v->drf h n i=some a->drf h n g=some b->EqAt A s z v (eqW a b))
  (C:Rws X.K R e xs) (B:Rws X.K R d ys) (v1:Vals xs f) (l:Vals ys c) (H:Jg (drf h n) e=some as) (G:Jg (drf h n) d=some bs)
  (j:Nat) (r:j<f.toArray.size) (p:j<c.toArray.size):EqAt A s f.toArray[j] c.toArray[j] (match as[j]?,bs[j]? with|some x,some y=>eqW x y|_,_=>false):=by
 have M:=C.length;have L:=v1.length;have J:=B.length;have I:=l.length;rw[Nj]at r p;obtain⟨i,o⟩:∃w,e[j]?=some w:=⟨e[j]'(Nl (Nl r (NA L.symm)) (NA M.symm)),Ni _⟩
 obtain⟨g,m⟩:∃w,d[j]?=some w:=⟨d[j]'(Nl (Nl p (NA I.symm)) (NA J.symm)),Ni _⟩
 obtain⟨x,P,E⟩:=C.get o;obtain⟨y,O,D⟩:=B.get m;obtain⟨u,hu,F⟩:=v1.get P;obtain⟨t,Q,rt⟩:=l.get O;obtain⟨a,T,Y⟩:=(QA H).2 j i o;obtain⟨b,S,U⟩:=(QA G).2 j g m;rw[T,S]
 have e1:f.toArray[j]=u:=by
  have:=hu;rw[Ni r]at this;simpa using this
 have Z:c.toArray[j]=t:=by
  have:=Q;rw[Ni p]at this;simpa using this
 rw[e1,Z];exact N i g x y u t a b E D F rt Y U
theorem Qah(I:Inv X r σ H s)(hu:A.units<cLine)(D:∀i g v1 c m l a b,Rw X.K R i v1->Rw X.K R g c->RelV v1 m->RelV c l->drf h n i=some a->drf h n g=some b->EqAt A.in1 s m l (eqW a b))
  {ad z:Addr} (C:SqL X.K H ad xs) (B:SqL X.K H z ys) (p:Rws X.K R e xs) (o:Rws X.K R d ys) (w:Jg (drf h n) e=some as) (v:Jg (drf h n) d=some bs):RcAt A s (.ref ad) (.ref z) (Kr as bs):=by
 obtain⟨f,v1,u,_⟩:=I.list C;obtain⟨x,c,t,_⟩:=I.list B;have O:=p.length;have N:=v1.length;have M:=o.length;have L:=c.length;have J:=(QA w).1;have G:=(QA v).1
 by_cases y:as.length=bs.length
 ·rw[Ka y];have:=RcAt.lists (A:=A) u.isList t.isList (by rw[Nj,Nj];lia) hu (fun j F E=>Xq D p o v1 c w v j F E);rw[Nj]at this;rw[show as.length=f.length by lia];exact this
 ·rw[X8 y];exact RcAt.lists_lengths u.isList t.isList (by rw[Nj,Nj];simp;lia) hu
theorem QdS(I:Inv X u σ H s)(hu:A.units<cLine)(D:∀m l v1 e p o a b,Rw X.K R m v1->Rw X.K R l e->RelV v1 p->RelV e o->drf h n m=some a->drf h n l=some b->EqAt A.in1 s p o (eqW a b))
  {ad i:Addr} (z:SqT X.K H ad xs) (y:SqT X.K H i ys) (t:Rws X.K R g xs) (r:Rws X.K R f ys) (w:Jg (drf h n) g=some as) (v:Jg (drf h n) f=some bs):RcAt A s (.ref ad) (.ref i) (Kr as bs):=by
 obtain⟨d,v1,C,_⟩:=I.tuple z;obtain⟨c,e,B,_⟩:=I.tuple y;have O:=t.length;have N:=v1.length;have M:=r.length;have L:=e.length;have J:=(QA w).1;have G:=(QA v).1;have:=RcAt.tuples (A:=A) (show s.heap.IsTuple ad d.toArray from C) (show s.heap.IsTuple i c.toArray from B) hu (fun j F E=>Xq D t r v1 e w v j F E);rw[Nj,Nj]at this
 by_cases x:as.length=bs.length
 ·rw[Ka x];rw[show min d.length c.length=as.length by lia,show(d.length==c.length)=true by simp;omega,LF]at this;exact this
 ·rw[X8 x];rw[show(d.length==c.length)=false by simp;omega,E9]at this;exact this
theorem Qaz(I:Inv X Z σ H s)(o:Rh X.K R h H):∀(n:Nat) (A:Around),A.units+n<cLine->∀(E l:W) (v1 L:V) (N M:Value) (a b:W),Rw X.K R E v1->Rw X.K R l L->RelV v1 N->RelV L M->drf h n E=some a->drf h n l=some b->EqAt A s N M (eqW a b)
 |0,_,_,_,_,_,_,_,_,_,_,_,_,_,_,e,_=>by cases e
 | n+1,A,hu,E,l,v1,L,N,M,a,b,O,F,i,g,Y,x=>by
  have c:A.units<cLine:=by exact Ny (N4 _ _) hu
  have ih:=Qaz I o n A.in1 (by show A.units+1+n<cLine;lia)
  have w:∀{ad:Addr} {J:List V},SqL X.K H ad J->∃d:Array Value,s.heap.IsList ad d:=fun q=>by
   obtain⟨d,_,p,_⟩:=I.list q;exact⟨_,p.isList⟩
  have v:∀{ad:Addr} {J:List V},SqT X.K H ad J->∃d:Array Value,s.heap.IsTuple ad d:=fun q=>by
   obtain⟨d,_,p,_⟩:=I.tuple q;exact⟨_,p⟩
  cases Xz o O Y with
  | flat f z=>
   cases Xz o F x with
   |flat U D=>
    have:=Qi3 (A:=A) (s:=s) i g f U
    rcases z with⟨rfl,rfl⟩|⟨_,rfl,rfl⟩|⟨_,rfl,rfl⟩|⟨_,rfl,rfl⟩<;>rcases D with⟨rfl,rfl⟩|⟨_,rfl,rfl⟩|⟨_,rfl,rfl⟩|⟨_,rfl,rfl⟩<;>(unfold eqW;exact this)
   |lst e q=>
    subst e;cases g;obtain⟨d,p⟩:=w q
    rcases z with⟨rfl,rfl⟩|⟨_,rfl,rfl⟩|⟨_,rfl,rfl⟩|⟨_,rfl,rfl⟩
    ·cases i;unfold eqW;exact EqAt.none_list p c
    ·cases i;unfold eqW;exact EqAt.bool_list _ p c
    ·obtain⟨t,rfl⟩:=i;unfold eqW;exact EqAt.int_list _ t p c
    ·obtain⟨t,rfl⟩:=i;unfold eqW;exact EqAt.str_list _ t p c
   |tup e q=>
    subst e;cases g;obtain⟨d,p⟩:=v q
    rcases z with⟨rfl,rfl⟩|⟨_,rfl,rfl⟩|⟨_,rfl,rfl⟩|⟨_,rfl,rfl⟩
    ·cases i;unfold eqW;exact EqAt.none_tuple p c
    ·cases i;unfold eqW;exact EqAt.bool_tuple _ p c
    ·obtain⟨t,rfl⟩:=i;unfold eqW;exact EqAt.int_tuple _ t p c
    ·obtain⟨t,rfl⟩:=i;unfold eqW;exact EqAt.str_tuple _ t p c
  | @lst C _ _ _ e q r m=>
   subst e;cases i;obtain⟨d,p⟩:=w q;have T:=Xz o F x;cases T with
   |flat U D=>
    rcases D with⟨rfl,rfl⟩|⟨_,rfl,rfl⟩|⟨_,rfl,rfl⟩|⟨_,rfl,rfl⟩
    ·cases g;unfold eqW;exact EqAt.list_none p c
    ·cases g;unfold eqW;exact EqAt.list_bool _ p c
    ·obtain⟨t,rfl⟩:=g;unfold eqW;exact EqAt.list_int _ t p c
    ·obtain⟨t,rfl⟩:=g;unfold eqW;exact EqAt.list_str _ t p c
   |@lst B _ _ _ y u P S=>
    subst y;cases g
    by_cases j:C=B
    ·subst j;have:=KZ I o (n+1) E l _ _ _ O F Y x;rw[this,Wy (n+1) l _ x];exact EqAt.same _
    ·unfold eqW;exact EqAt.of_refs j (Qah I c ih q u r P m S)
   |tup y u=>
    subst y;cases g;obtain⟨G,Q⟩:=v u;unfold eqW;exact EqAt.list_tuple p Q c
  | @tup C _ _ _ e q r m=>
   subst e;cases i;obtain⟨d,p⟩:=v q;have T:=Xz o F x;cases T with
   |flat U D=>
    rcases D with⟨rfl,rfl⟩|⟨_,rfl,rfl⟩|⟨_,rfl,rfl⟩|⟨_,rfl,rfl⟩
    ·cases g;unfold eqW;exact EqAt.tuple_none p c
    ·cases g;unfold eqW;exact EqAt.tuple_bool _ p c
    ·obtain⟨t,rfl⟩:=g;unfold eqW;exact EqAt.tuple_int _ t p c
    ·obtain⟨t,rfl⟩:=g;unfold eqW;exact EqAt.tuple_str _ t p c
   |lst y u=>
    subst y;cases g;obtain⟨G,Q⟩:=w u;unfold eqW;exact EqAt.tuple_list p Q c
   |@tup B _ _ _ y u P S=>
    subst y;cases g
    by_cases j:C=B
    ·subst j;have:=KZ I o (n+1) E l _ _ _ O F Y x;rw[this,Wy (n+1) l _ x];exact EqAt.same _
    ·unfold eqW;exact EqAt.of_refs j (QdS I c ih q u r P m S)
end
end Mi
namespace Mi
open L2 PySem.SeqAt
section
variable{X:Cx}{pins:List (Addr×Obj)}{σ:L2.St}{H:Hp}{s:Shared}{R:Rn}{h:MH}
theorem QbH(I:Inv X pins σ H s)(hu:A.units<cLine)(C:∀i g v1 c m l a b,Rw X.K R i v1->Rw X.K R g c->RelV v1 m->RelV c l->drf h n i=some a->drf h n g=some b->EqAt A.in1 s m l (eqW a b))
  {ad y:Addr} (B:SqL X.K H ad xs) (z:SqL X.K H y ys) (p:Rws X.K R e xs) (o:Rws X.K R d ys) (v:Jg (drf h n) e=some as) (u:Jg (drf h n) d=some bs):RcNeAt A s (.ref ad) (.ref y) (!Kr as bs):=by
 obtain⟨f,v1,t,_⟩:=I.list B;obtain⟨w,c,r,_⟩:=I.list z;have N:=p.length;have M:=v1.length;have L:=o.length;have J:=c.length;have G:=(QA v).1;have F:=(QA u).1
 by_cases x:as.length=bs.length
 ·rw[Ka x];have:=RcNeAt.lists (A:=A) t.isList r.isList (by rw[Nj,Nj];lia) hu (fun j E D=>Xq C p o v1 c v u j E D);rw[Nj]at this;rw[show as.length=f.length by lia];exact this
 ·rw[X8 x];exact RcNeAt.lists_lengths t.isList r.isList (by rw[Nj,Nj];simp;lia) hu
theorem Qdv(I:Inv X pins σ H s)(hu:A.units<cLine)(C:∀m l v1 e p o a b,Rw X.K R m v1->Rw X.K R l e->RelV v1 p->RelV e o->drf h n m=some a->drf h n l=some b->EqAt A.in1 s p o (eqW a b))
  {ad i:Addr} (y:SqT X.K H ad xs) (x:SqT X.K H i ys) (t:Rws X.K R g xs) (r:Rws X.K R f ys) (v:Jg (drf h n) g=some as) (u:Jg (drf h n) f=some bs):RcNeAt A s (.ref ad) (.ref i) (!Kr as bs):=by
 obtain⟨d,v1,B,_⟩:=I.tuple y;obtain⟨c,e,z,_⟩:=I.tuple x;have N:=t.length;have M:=v1.length;have L:=r.length;have J:=e.length;have G:=(QA v).1;have F:=(QA u).1;have:=RcNeAt.tuples (A:=A) (show s.heap.IsTuple ad d.toArray from B) (show s.heap.IsTuple i c.toArray from z) hu (fun j E D=>Xq C t r v1 e v u j E D);rw[Nj,Nj]at this
 by_cases w:as.length=bs.length
 ·rw[Ka w];rw[show min d.length c.length=as.length by lia,show(d.length==c.length)=true by simp;omega,LF]at this;exact this
 ·rw[X8 w];rw[show(d.length==c.length)=false by simp;omega,E9]at this;exact this
theorem QkM(I:Inv X pins σ H s)(x:Rh X.K R h H)(n:Nat)(A:Around)(hu:A.units+n<cLine)(N M:W)(v1 O:V)(Q P:Value)(a b:W)(Z:Rw X.K R N v1)(C:Rw X.K R M O)(j:RelV v1 Q)(c:RelV O P)(U:drf h n N=some a)(J:drf h n M=some b):RcAt A s Q P (eqW a b):=by
 cases n with
 |zero=>cases U
 | succ n=>
  have d:A.units<cLine:=by exact Ny (N4 _ _) hu
  have S:=Qaz I x n A.in1 (by show A.units+1+n<cLine;lia)
  have u:∀{ad:Addr} {B:List V},SqL X.K H ad B->∃i:Array Value,s.heap.IsList ad i:=fun q=>by
   obtain⟨i,_,p,_⟩:=I.list q;exact⟨_,p.isList⟩
  have o:∀{ad:Addr} {B:List V},SqT X.K H ad B->∃i:Array Value,s.heap.IsTuple ad i:=fun q=>by
   obtain⟨i,_,p,_⟩:=I.tuple q;exact⟨_,p⟩
  cases Xz x Z U with
  | flat f z=>
   cases Xz x C J with
   | flat T w=>
    rcases z with⟨rfl,rfl⟩|⟨_,rfl,rfl⟩|⟨_,rfl,rfl⟩|⟨_,rfl,rfl⟩<;>rcases w with⟨rfl,rfl⟩|⟨_,rfl,rfl⟩|⟨_,rfl,rfl⟩|⟨_,rfl,rfl⟩<;>first|(obtain⟨Y,rfl⟩:=j)|cases j
    ·first|(obtain⟨g,rfl⟩:=c)|cases c
     unfold eqW;exact RcAt.none_none
    ·first|(obtain⟨g,rfl⟩:=c)|cases c
     unfold eqW;exact RcAt.none_bool _
    ·first|(obtain⟨g,rfl⟩:=c)|cases c
     unfold eqW;exact RcAt.none_int _ _
    ·first|(obtain⟨g,rfl⟩:=c)|cases c
     unfold eqW;exact RcAt.none_str _ _
    ·first|(obtain⟨g,rfl⟩:=c)|cases c
     unfold eqW;exact RcAt.bool_none _
    ·first|(obtain⟨g,rfl⟩:=c)|cases c
     unfold eqW;exact RcAt.bool_bool _ _
    ·first|(obtain⟨g,rfl⟩:=c)|cases c
     unfold eqW;exact RcAt.bool_int _ _ _
    ·first|(obtain⟨g,rfl⟩:=c)|cases c
     unfold eqW;exact RcAt.bool_str _ _ _
    ·first|(obtain⟨g,rfl⟩:=c)|cases c
     unfold eqW;exact RcAt.int_none _ _
    ·first|(obtain⟨g,rfl⟩:=c)|cases c
     unfold eqW;exact RcAt.int_bool _ _ _
    ·first|(obtain⟨g,rfl⟩:=c)|cases c
     unfold eqW;exact RcAt.int_int _ _ _ _
    ·first|(obtain⟨g,rfl⟩:=c)|cases c
     unfold eqW;exact RcAt.int_str _ _ _ _
    ·first|(obtain⟨g,rfl⟩:=c)|cases c
     unfold eqW;exact RcAt.str_none _ _
    ·first|(obtain⟨g,rfl⟩:=c)|cases c
     unfold eqW;exact RcAt.str_bool _ _ _
    ·first|(obtain⟨g,rfl⟩:=c)|cases c
     unfold eqW;exact RcAt.str_int _ _ _ _
    ·first|(obtain⟨g,rfl⟩:=c)|cases c
     unfold eqW;exact RcAt.str_str _ _ _ _
   |lst e q=>
    subst e;cases c;obtain⟨i,p⟩:=u q
    rcases z with⟨rfl,rfl⟩|⟨_,rfl,rfl⟩|⟨_,rfl,rfl⟩|⟨_,rfl,rfl⟩
    ·cases j;unfold eqW;exact RcAt.none_list p d
    ·cases j;unfold eqW;exact RcAt.bool_list _ p d
    ·obtain⟨t,rfl⟩:=j;unfold eqW;exact RcAt.int_list _ t p d
    ·obtain⟨t,rfl⟩:=j;unfold eqW;exact RcAt.str_list _ t p d
   |tup e q=>
    subst e;cases c;obtain⟨i,p⟩:=o q
    rcases z with⟨rfl,rfl⟩|⟨_,rfl,rfl⟩|⟨_,rfl,rfl⟩|⟨_,rfl,rfl⟩
    ·cases j;unfold eqW;exact RcAt.none_tuple p d
    ·cases j;unfold eqW;exact RcAt.bool_tuple _ p d
    ·obtain⟨t,rfl⟩:=j;unfold eqW;exact RcAt.int_tuple _ t p d
    ·obtain⟨t,rfl⟩:=j;unfold eqW;exact RcAt.str_tuple _ t p d
  | @lst L _ _ _ e q r m=>
   subst e;cases j;obtain⟨i,p⟩:=u q;have G:=Xz x C J;cases G with
   |flat T w=>
    rcases w with⟨rfl,rfl⟩|⟨_,rfl,rfl⟩|⟨_,rfl,rfl⟩|⟨_,rfl,rfl⟩
    ·cases c;unfold eqW;exact RcAt.list_none p d
    ·cases c;unfold eqW;exact RcAt.list_bool _ p d
    ·obtain⟨t,rfl⟩:=c;unfold eqW;exact RcAt.list_int _ t p d
    ·obtain⟨t,rfl⟩:=c;unfold eqW;exact RcAt.list_str _ t p d
   |tup v l=>
    subst v;cases c;obtain⟨y,E⟩:=o l;unfold eqW;exact RcAt.list_tuple p E d
   |lst v l D F=>
    subst v;cases c;unfold eqW;exact Qah I d S q l r D m F
  | @tup L _ _ _ e q r m=>
   subst e;cases j;obtain⟨i,p⟩:=o q;have G:=Xz x C J;cases G with
   |flat T w=>
    rcases w with⟨rfl,rfl⟩|⟨_,rfl,rfl⟩|⟨_,rfl,rfl⟩|⟨_,rfl,rfl⟩
    ·cases c;unfold eqW;exact RcAt.tuple_none p d
    ·cases c;unfold eqW;exact RcAt.tuple_bool _ p d
    ·obtain⟨t,rfl⟩:=c;unfold eqW;exact RcAt.tuple_int _ t p d
    ·obtain⟨t,rfl⟩:=c;unfold eqW;exact RcAt.tuple_str _ t p d
   |lst v l=>
    subst v;cases c;obtain⟨y,E⟩:=u l;unfold eqW;exact RcAt.tuple_list p E d
   |tup v l D F=>
    subst v;cases c;unfold eqW;exact QdS I d S q l r D m F
theorem QeT(I:Inv X pins σ H s)(x:Rh X.K R h H)(n:Nat)(A:Around)(hu:A.units+n<cLine)(N M:W)(v1 O:V)(Q P:Value)(a b:W)(Z:Rw X.K R N v1)(C:Rw X.K R M O)(j:RelV v1 Q)(c:RelV O P)(U:drf h n N=some a)(J:drf h n M=some b):RcNeAt A s Q P (!eqW a b):=by
 cases n with
 |zero=>cases U
 | succ n=>
  have d:A.units<cLine:=by exact Ny (N4 _ _) hu
  have S:=Qaz I x n A.in1 (by show A.units+1+n<cLine;omega)
  have u:∀{ad:Addr} {B:List V},SqL X.K H ad B->∃i:Array Value,s.heap.IsList ad i:=fun q=>by
   obtain⟨i,_,p,_⟩:=I.list q;exact⟨_,p.isList⟩
  have o:∀{ad:Addr} {B:List V},SqT X.K H ad B->∃i:Array Value,s.heap.IsTuple ad i:=fun q=>by
   obtain⟨i,_,p,_⟩:=I.tuple q;exact⟨_,p⟩
  cases Xz x Z U with
  | flat f z=>
   cases Xz x C J with
   | flat T w=>
    rcases z with⟨rfl,rfl⟩|⟨_,rfl,rfl⟩|⟨_,rfl,rfl⟩|⟨_,rfl,rfl⟩<;>rcases w with⟨rfl,rfl⟩|⟨_,rfl,rfl⟩|⟨_,rfl,rfl⟩|⟨_,rfl,rfl⟩<;>first|(obtain⟨Y,rfl⟩:=j)|cases j
    ·first|(obtain⟨g,rfl⟩:=c)|cases c
     unfold eqW;exact RcNeAt.none_none
    ·first|(obtain⟨g,rfl⟩:=c)|cases c
     unfold eqW;exact RcNeAt.none_bool _
    ·first|(obtain⟨g,rfl⟩:=c)|cases c
     unfold eqW;exact RcNeAt.none_int _ _
    ·first|(obtain⟨g,rfl⟩:=c)|cases c
     unfold eqW;exact RcNeAt.none_str _ _
    ·first|(obtain⟨g,rfl⟩:=c)|cases c
     unfold eqW;exact RcNeAt.bool_none _
    ·first|(obtain⟨g,rfl⟩:=c)|cases c
     unfold eqW;exact RcNeAt.bool_bool _ _
    ·first|(obtain⟨g,rfl⟩:=c)|cases c
     unfold eqW;exact RcNeAt.bool_int _ _ _
    ·first|(obtain⟨g,rfl⟩:=c)|cases c
     unfold eqW;exact RcNeAt.bool_str _ _ _
    ·first|(obtain⟨g,rfl⟩:=c)|cases c
     unfold eqW;exact RcNeAt.int_none _ _
    ·first|(obtain⟨g,rfl⟩:=c)|cases c
     unfold eqW;exact RcNeAt.int_bool _ _ _
    ·first|(obtain⟨g,rfl⟩:=c)|cases c
     unfold eqW;exact RcNeAt.int_int _ _ _ _
    ·first|(obtain⟨g,rfl⟩:=c)|cases c
     unfold eqW;exact RcNeAt.int_str _ _ _ _
    ·first|(obtain⟨g,rfl⟩:=c)|cases c
     unfold eqW;exact RcNeAt.str_none _ _
    ·first|(obtain⟨g,rfl⟩:=c)|cases c
     unfold eqW;exact RcNeAt.str_bool _ _ _
    ·first|(obtain⟨g,rfl⟩:=c)|cases c
     unfold eqW;exact RcNeAt.str_int _ _ _ _
    ·first|(obtain⟨g,rfl⟩:=c)|cases c
     unfold eqW;exact RcNeAt.str_str _ _ _ _
   |lst e q=>
    subst e;cases c;obtain⟨i,p⟩:=u q
    rcases z with⟨rfl,rfl⟩|⟨_,rfl,rfl⟩|⟨_,rfl,rfl⟩|⟨_,rfl,rfl⟩
    ·cases j;unfold eqW;exact RcNeAt.none_list p d
    ·cases j;unfold eqW;exact RcNeAt.bool_list _ p d
    ·obtain⟨t,rfl⟩:=j;unfold eqW;exact RcNeAt.int_list _ t p d
    ·obtain⟨t,rfl⟩:=j;unfold eqW;exact RcNeAt.str_list _ t p d
   |tup e q=>
    subst e;cases c;obtain⟨i,p⟩:=o q
    rcases z with⟨rfl,rfl⟩|⟨_,rfl,rfl⟩|⟨_,rfl,rfl⟩|⟨_,rfl,rfl⟩
    ·cases j;unfold eqW;exact RcNeAt.none_tuple p d
    ·cases j;unfold eqW;exact RcNeAt.bool_tuple _ p d
    ·obtain⟨t,rfl⟩:=j;unfold eqW;exact RcNeAt.int_tuple _ t p d
    ·obtain⟨t,rfl⟩:=j;unfold eqW;exact RcNeAt.str_tuple _ t p d
  | @lst L _ _ _ e q r m=>
   subst e;cases j;obtain⟨i,p⟩:=u q;have G:=Xz x C J;cases G with
   |flat T w=>
    rcases w with⟨rfl,rfl⟩|⟨_,rfl,rfl⟩|⟨_,rfl,rfl⟩|⟨_,rfl,rfl⟩
    ·cases c;unfold eqW;exact RcNeAt.list_none p d
    ·cases c;unfold eqW;exact RcNeAt.list_bool _ p d
    ·obtain⟨t,rfl⟩:=c;unfold eqW;exact RcNeAt.list_int _ t p d
    ·obtain⟨t,rfl⟩:=c;unfold eqW;exact RcNeAt.list_str _ t p d
   |tup v l=>
    subst v;cases c;obtain⟨y,E⟩:=o l;unfold eqW;exact RcNeAt.list_tuple p E d
   |lst v l D F=>
    subst v;cases c;unfold eqW;exact QbH I d S q l r D m F
  | @tup L _ _ _ e q r m=>
   subst e;cases j;obtain⟨i,p⟩:=o q;have G:=Xz x C J;cases G with
   |flat T w=>
    rcases w with⟨rfl,rfl⟩|⟨_,rfl,rfl⟩|⟨_,rfl,rfl⟩|⟨_,rfl,rfl⟩
    ·cases c;unfold eqW;exact RcNeAt.tuple_none p d
    ·cases c;unfold eqW;exact RcNeAt.tuple_bool _ p d
    ·obtain⟨t,rfl⟩:=c;unfold eqW;exact RcNeAt.tuple_int _ t p d
    ·obtain⟨t,rfl⟩:=c;unfold eqW;exact RcNeAt.tuple_str _ t p d
   |lst v l=>
    subst v;cases c;obtain⟨y,E⟩:=u l;unfold eqW;exact RcNeAt.tuple_list p E d
   |tup v l D F=>
    subst v;cases c;unfold eqW;exact Qdv I d S q l r D m F
end
noncomputable def wEq(a b:W)(h:MH):Option (W×MH):=(drf h 40 a).bind fun x=>(drf h 40 b).map fun y=>(.bl (eqW x y),h)
noncomputable def wNe(a b:W)(h:MH):Option (W×MH):=(drf h 40 a).bind fun x=>(drf h 40 b).map fun y=>(.bl (!eqW x y),h)
theorem Qt{K:Nd}:OpM K (F2 K f) f:=fun _ _ _ _ q=>q
section
variable{X:Cx}
theorem Ym(hu:X.A.units+64<cLine):OpR X (compareOp .Eq) (F2 X.K wEq):=by
 intro d s t H x y v u Q I g f q;obtain⟨R,h,a,b,w,z,c,j,i,e,k⟩:=q;obtain⟨r,o,n⟩:=Nc.mp e;obtain⟨p,m,l⟩:=Nf.mp n;cases l;exact QkM I c 40 X.A (El (E2 (by decide) _) hu) a b x y v u r p j i g f o m _ _ _ _ ⟨.bl _,H,I,rfl,k R H _ (Ext.refl _) c (Rw.bl _)⟩
theorem QkC(hu:X.A.units+64<cLine):OpR X (compareOp .NotEq) (F2 X.K wNe):=by
 intro d s t H x y v u Q I g f q;obtain⟨R,h,a,b,w,z,c,j,i,e,k⟩:=q;obtain⟨r,o,n⟩:=Nc.mp e;obtain⟨p,m,l⟩:=Nf.mp n;cases l;exact QeT I c 40 X.A (El (E2 (by decide) _) hu) a b x y v u r p j i g f o m _ _ _ _ ⟨.bl _,H,I,rfl,k R H _ (Ext.refl _) c (Rw.bl _)⟩
noncomputable def inW(x:W)(xs:List W):Bool:=xs.any fun y=>eqW y x
noncomputable def wIn(neg:Bool)(a b:W)(h:MH):Option (W×MH):=match b with
 |.tup d=>(drf h 40 a).bind fun x=>(Jg (drf h 40) d).map fun c=>(.bl (if neg then !inW x c else inW x c),h)
 |b=>(lsW h b).bind fun d=>(drf h 40 a).bind fun x=>(Jg (drf h 40) d).map fun c=>(.bl (if neg then !inW x c else inW x c),h)
open Classical in
noncomputable def QbL(K:Nd)(R:Rn)(h:MH)(x:W)(u:Value):Bool:=decide (∃w v a,Rw K R w v/\RelV v u/\drf h 40 w=some a/\eqW a x=true)
open Classical in
theorem Gy(I:Inv X c σ H s)(i:Rh X.K R h H)(r:Rw X.K R w v)(t:RelV v u)(e:drf h 40 w=some a):QbL X.K R h x u=eqW a x:=by
 unfold QbL
 by_cases q:eqW a x=true
 ·rw[q];exact decide_eq_true ⟨w,v,a,r,t,e,q⟩
 ·have b:eqW a x=false:=by simpa using q
  rw[b];refine decide_eq_false fun d=>?_;obtain⟨f,n,m,j,g,l,z⟩:=d;have:=t.inj g;subst this;rw[KZ I i 40 w f v a m r j e l,z]at b;cases b
theorem Gw(I:Inv X b σ H s)(a:Rh X.K R h H):∀{ws as:List W} {xs:List V} {us:List Value},Rws X.K R ws xs->Vals xs us->Jg (drf h 40) ws=some as->us.any (QbL X.K R h x)=inW x as
 |[],_,_,_,r,t,m=>by
  rw[Rws.nil_iff]at r;subst r;cases t;cases m;rfl
 | w::ws,_,_,_,r,t,m=>by
  rw[Rws.cons_iff]at r;obtain⟨v,d,rfl,i,g⟩:=r;cases t with
  |cons f e=>
   obtain⟨y,o,n⟩:=Nc.mp m;obtain⟨p,l,j⟩:=Nf.mp n;subst j;have c:=Gw I a (x:=x) g e l;unfold inW at c ⊢;rw[EF,EF,Gy I a i f o,c]
theorem Ko(I:Inv X j σ H s)(g:Rh X.K R h H)(hu:A.units+40<cLine)(z:Rw X.K R a v)(p:RelV v u)(F:drf h 40 a=some x) 
  (r:Rws X.K R ws xs) (t:Vals xs us) (m:Jg (drf h 40) ws=some as):∀y∈us,EqAt A s y u (QbL X.K R h x y):=by
 intro y D;obtain⟨i,l,e⟩:=List.mem_iff_getElem.mp D;have C:=r.length;have B:=t.length;obtain⟨w,hw⟩:∃w,ws[i]?=some w:=⟨ws[i]'(Nl (Nl l (NA B.symm)) (NA C.symm)),Ni _⟩
 obtain⟨o,E,d⟩:=r.get hw;obtain⟨G,c,f⟩:=t.get E;rw[Ni l,e]at c;cases c;obtain⟨b,J,n⟩:=(QA m).2 i w hw;rw[Gy I g d f n];exact Qaz I g 40 A hu w a o v y u b x d z f p n F
theorem QfK(hu:X.A.units+64<cLine):OpR X (compareOp .In) (F2 X.K (wIn false)):=by
 intro p s S H x y v u Q I N M q;obtain⟨R,h,a,b,w,L,l,P,O,e,k⟩:=q;have B:X.A.in1.units+40<cLine:=by show X.A.units+1+40<cLine;lia
 have main:∀g,((drf h 40 a).bind fun x=>(Jg (drf h 40) g).map fun c=>((W.bl (if false then !inW x c else inW x c),h):W×MH))=some (w,L)->∃d c,drf h 40 a=some d/\Jg (drf h 40) g=some c/\w=.bl (inW d c)/\L=h:=fun g e=>by
  obtain⟨d,j,U⟩:=Nc.mp e;obtain⟨c,i,T⟩:=Nf.mp U;cases T;exact⟨d,c,j,i,rfl,rfl⟩
 have fin:∀{d:W} {c E:List W} {m:List V} {f:List Value},Rws X.K R E m->Vals m f->drf h 40 a=some d->Jg (drf h 40) E=some c->w=.bl (inW d c)->L=h->EP X p S Q (.bool (f.toArray.any (QbL X.K R h d))) s:=fun {d c E m f} r t Z em C D=>by
  subst C D;rw[Oz,Gw I l r t em];exact⟨.bl _,H,I,rfl,k R H _ (Ext.refl _) l (Rw.bl _)⟩
 unfold wIn at e;split at e
 ·rename_i g;obtain⟨d,c,j,i,C,D⟩:=main g e;obtain⟨ad,m,rfl,F,o⟩:=l.tupAt O;cases M;obtain⟨f,n,G,_⟩:=I.tuple F;exact in_tupleAt (QbL X.K R h d) (show s.heap.IsTuple ad f.toArray from G) (fun z J=>Ko I l B P N j o n i z (by simpa using J)) (fin o n j i C D)
 ·obtain⟨g,Y,e⟩:=Nc.mp e;obtain⟨d,c,j,i,C,D⟩:=main g e;obtain⟨ad,m,rfl,F,o⟩:=l.lsAt O Y;cases M;obtain⟨f,n,G,_⟩:=I.list F;exact in_listAt (QbL X.K R h d) G.isList (fun z J=>Ko I l B P N j o n i z (by simpa using J)) (fin o n j i C D)
theorem QdC(hu:X.A.units+64<cLine):OpR X (compareOp .NotIn) (F2 X.K (wIn true)):=by
 intro p s S H x y v u Q I N M q;obtain⟨R,h,a,b,w,L,l,P,O,e,k⟩:=q;have B:X.A.in1.units+40<cLine:=by show X.A.units+1+40<cLine;omega
 have main:∀g,((drf h 40 a).bind fun x=>(Jg (drf h 40) g).map fun c=>((W.bl (if true then !inW x c else inW x c),h):W×MH))=some (w,L)->∃d c,drf h 40 a=some d/\Jg (drf h 40) g=some c/\w=.bl (!inW d c)/\L=h:=fun g e=>by
  obtain⟨d,j,U⟩:=Nc.mp e;obtain⟨c,i,T⟩:=Nf.mp U;cases T;exact⟨d,c,j,i,rfl,rfl⟩
 have fin:∀{d:W} {c E:List W} {m:List V} {f:List Value},Rws X.K R E m->Vals m f->drf h 40 a=some d->Jg (drf h 40) E=some c->w=.bl (!inW d c)->L=h->EP X p S Q (.bool (!f.toArray.any (QbL X.K R h d))) s:=fun {d c E m f} r t Z em C D=>by
  subst C D;rw[Oz,Gw I l r t em];exact⟨.bl _,H,I,rfl,k R H _ (Ext.refl _) l (Rw.bl _)⟩
 unfold wIn at e;split at e
 ·rename_i g;obtain⟨d,c,j,i,C,D⟩:=main g e;obtain⟨ad,m,rfl,F,o⟩:=l.tupAt O;cases M;obtain⟨f,n,G,_⟩:=I.tuple F;exact notIn_tupleAt (QbL X.K R h d) (show s.heap.IsTuple ad f.toArray from G) (fun z J=>Ko I l B P N j o n i z (by simpa using J)) (fin o n j i C D)
 ·obtain⟨g,Y,e⟩:=Nc.mp e;obtain⟨d,c,j,i,C,D⟩:=main g e;obtain⟨ad,m,rfl,F,o⟩:=l.lsAt O Y;cases M;obtain⟨f,n,G,_⟩:=I.list F;exact notIn_listAt (QbL X.K R h d) G.isList (fun z J=>Ko I l B P N j o n i z (by simpa using J)) (fin o n j i C D)
end
noncomputable def Q1(a b:W)(h:MH):Option (W×MH):=match a,b with
 |.int i,.int j=>some (.int (i+j),h)
 |.str x,.str y=>if x.length+y.length<=sizeLine then some (.str (x++y),h)else none
 |.tup d,.tup c=>if d.length+c.length<=sizeLine then some (.tup (d++c),h)else none
 |a,b=>(loW h a).bind fun d=>(loW h b).bind fun c=>if d.length+c.length<=sizeLine then some (.lst (d++c),h)else none
noncomputable def Qin(a b:W)(h:MH):Option (W×MH):=match a,b with|.int i,.int j=>some (.int (i-j),h)|_,_=>none
noncomputable def QiQ(a b:W)(h:MH):Option (W×MH):=match a,b with|.int i,.int j=>if(-(2^64)<i/\i<2^64)\/(-(2^64)<j/\j<2^64)then some (.int (i*j),h)else none|_,_=>none
noncomputable def Vt(a b:W)(h:MH):Option (W×MH):=match a,b with|.int i,.int j=>if 0<j/\j<1073741824 then some (.int (i/j),h)else none|_,_=>none
noncomputable def Js(a b:W)(h:MH):Option (W×MH):=match a,b with|.int i,.int j=>if 0<j then some (.int (i%j),h)else none|_,_=>none
noncomputable def wLt(a b:W)(h:MH):Option (W×MH):=match a,b with|.int i,.int j=>some (.bl (decide (i<j)),h)|.str x,.str y=>some (.bl (decide (x.cps.toList<y.cps.toList)),h)|_,_=>none
noncomputable def wLe(a b:W)(h:MH):Option (W×MH):=match a,b with|.int i,.int j=>some (.bl (decide (i<=j)),h)|.str x,.str y=>some (.bl (!decide (y.cps.toList<x.cps.toList)),h)|_,_=>none
noncomputable def wGt(a b:W)(h:MH):Option (W×MH):=match a,b with|.int i,.int j=>some (.bl (decide (j<i)),h)|_,_=>none
noncomputable def YZ:W->Bool
 |.non=>true
 |_=>false
noncomputable def wIs(a b:W)(h:MH):Option (W×MH):=match b with
 |.non=>some (.bl (YZ a),h)
 |.bl y=>match a with|.bl x=>some (.bl (x==y),h)|_=>none
 |_=>none
theorem Qkb{K:Nd}(r:Rw K R a v):decide (v=.non)=YZ a:=by
 cases a with
 |non=>rw[r.non_eq];rfl
 |bl _=>rw[r.bl_eq];rfl
 |int _=>rw[r.int_eq];rfl
 |str _=>rw[r.str_eq];rfl
 |ty _=>rw[r.ty_eq];rfl
 |tup _=>unfold Rw at r;obtain⟨_,_,rfl,_⟩:=r;rfl
 |lst _=>unfold Rw at r;obtain⟨_,_,rfl,_⟩:=r;rfl
 |frz _=>unfold Rw at r;obtain⟨_,_,rfl,_⟩:=r;rfl
 |ref _=>unfold Rw at r;obtain⟨_,rfl⟩:=r;rfl
section
variable{X:Cx}
noncomputable def Qlz(K:Nd):R2:=fun x y H Q=>∃a b c d,x=.ref a/\y=.ref b/\SqT K H a c/\SqT K H b d/\c.length+d.length<=sizeLine /\
 (c=[]->Q (.ref b) H)/\(c≠[]->d=[]->Q (.ref a) H)/\(c≠[]->d≠[]->∀p,H p=none->Q (.ref p) (upd H p (.tup (c++d))))
theorem op_catA:OpR X (binaryOp .Add) (Qlz X.K):=by
 intro c s B H x y v u Q I p o h;obtain⟨a,b,m,C,rfl,rfl,z,w,P,J,G,F⟩:=h
 by_cases i:m=[]
 ·subst i;cases p;cases o;obtain⟨O,E,M,_⟩:=I.tuple z;obtain⟨d,S,L,_⟩:=I.tuple w;cases E;obtain⟨⟨cls,R,data,D⟩,r,t,n,hd⟩:=id M;obtain⟨⟨A,l,data2,j⟩,e,g,N,f⟩:=id L;simp only at t hd g f;subst t hd g f
  exact LZ ⟨_,r,rfl⟩ ⟨_,e,rfl⟩ IB LH Ft Fh (D4 _ _)
   (tuple_addW0 a b #[] d.toArray n N R l D j (by simp)) ⟨r,e,⟨.ref b,H,I,rfl,J rfl⟩⟩
 ·exact Qhb c s B H _ _ v u Q I p o ⟨a,b,m,C,rfl,rfl,z,w,i,P,G i,F i⟩
theorem Qdt:OpR X (compareOp .LtE) (fun x y H Q=>∃i j,x=.str i/\y=.str j/\Q (.bl (!decide (j.cps.toList<i.cps.toList))) H):=by
 intro a s d H x y v u Q I c b h;obtain⟨i,j,rfl,rfl,q⟩:=h;obtain⟨t,rfl⟩:=c;obtain⟨e,rfl⟩:=b;exact PySem.P.le_str ⟨.bl _,H,I,rfl,q⟩
theorem QjW:OpR X (compareOp .Is) (fun x y H Q=>∃i j,x=.bl i/\y=.bl j/\Q (.bl (i==j)) H):=by
 intro a s d H x y v u Q I c b h;obtain⟨i,j,rfl,rfl,q⟩:=h;cases c;cases b;exact is_bool ⟨.bl _,H,I,rfl,q⟩
theorem QgO:OpR X (binaryOp .Add) (F2 X.K Q1):=by
 intro m s O H x y v u Q I S P q;refine(op_add.or (op_add_str.or (op_catA.or QjA))) m s O H x y v u Q I S P ?_;obtain⟨R,h,a,b,w,T,c,i,g,e,k⟩:=q;unfold Q1 at e;split at e
 ·cases e;exact .inl ⟨_,_,i.int_eq,g.int_eq,k R H _ (Ext.refl _) c (Rw.int _)⟩
 ·split at e
  ·rename_i E;cases e;exact .inr (.inl ⟨_,_,i.str_eq,g.str_eq,E,k R H _ (Ext.refl _) c (Rw.str _)⟩)
  ·cases e
 ·split at e
  ·rename_i L J E;cases e;obtain⟨ad,t,o,C,l⟩:=c.tupAt i;obtain⟨F,r,n,B,j⟩:=c.tupAt g;have N:=l.length;have M:=j.length;refine .inr (.inr (.inl ⟨ad,F,t,r,o,n,C,B,by lia,fun z=>?_,fun _ z=>?_,fun _ _ p D=>?_⟩))
   ·subst z;have:L=[]:=NO.mp N;subst this;exact k R H _ (Ext.refl _) c (n▸g)
   ·subst z;have:J=[]:=NO.mp M;subst this;rw[Dj]at k;exact k R H _ (Ext.refl _) c (o▸i)
   ·obtain⟨G,A,f,d⟩:=c.tup D (Rws.append l j);exact k G _ _ A f d
  ·cases e
 ·obtain⟨L,o,e⟩:=Nc.mp e;obtain⟨J,n,e⟩:=Nc.mp e;split at e
  ·rename_i E;cases e;obtain⟨ad,t,f1,C,l⟩:=c.loAt i o;obtain⟨F,r,f2,B,j⟩:=c.loAt g n;have N:=l.length;have M:=j.length;refine .inr (.inr (.inr ⟨ad,F,t,r,f1,f2,C,B,by omega,fun p D=>?_⟩));obtain⟨G,A,f,d⟩:=c.lstI D (Rws.append l j);exact k G _ _ A f d
  ·cases e
theorem QdD:OpR X (binaryOp .Sub) (F2 X.K Qin):=by
 intro c s d H x y v u Q I g f q;refine QjH c s d H x y v u Q I g f ?_;obtain⟨R,h,a,b,w,m,i,l,j,e,k⟩:=q;unfold Qin at e;split at e
 ·cases e;exact⟨_,_,l.int_eq,j.int_eq,k R H _ (Ext.refl _) i (Rw.int _)⟩
 ·cases e
theorem QhS:OpR X (binaryOp .Mult) (F2 X.K QiQ):=by
 intro c s d H x y v u Q I g f q;refine Qjy c s d H x y v u Q I g f ?_;obtain⟨R,h,a,b,w,n,i,l,j,e,k⟩:=q;unfold QiQ at e;split at e
 ·split at e
  ·rename_i m;cases e;exact⟨_,_,l.int_eq,j.int_eq,m,k R H _ (Ext.refl _) i (Rw.int _)⟩
  ·cases e
 ·cases e
theorem Qil:OpR X (binaryOp .FloorDiv) (F2 X.K Vt):=by
 intro c s d H x y v u Q I g f q;refine Qg3 c s d H x y v u Q I g f ?_;obtain⟨R,h,a,b,w,n,i,l,j,e,k⟩:=q;unfold Vt at e;split at e
 ·split at e
  ·rename_i m;cases e;exact⟨_,_,l.int_eq,j.int_eq,m,k R H _ (Ext.refl _) i (Rw.int _)⟩
  ·cases e
 ·cases e
theorem Qhr:OpR X (binaryOp .Mod) (F2 X.K Js):=by
 intro c s d H x y v u Q I g f q;refine QiS c s d H x y v u Q I g f ?_;obtain⟨R,h,a,b,w,n,i,l,j,e,k⟩:=q;unfold Js at e;split at e
 ·split at e
  ·rename_i m;cases e;exact⟨_,_,l.int_eq,j.int_eq,m,k R H _ (Ext.refl _) i (Rw.int _)⟩
  ·cases e
 ·cases e
theorem Uk:OpR X (compareOp .Lt) (F2 X.K wLt):=by
 intro c s i H x y v u Q I l j q;refine(op_lt.or Qdr) c s i H x y v u Q I l j ?_;obtain⟨R,h,a,b,w,m,d,g,f,e,k⟩:=q;unfold wLt at e;split at e
 ·cases e;exact .inl ⟨_,_,g.int_eq,f.int_eq,k R H _ (Ext.refl _) d (Rw.bl _)⟩
 ·cases e;exact .inr ⟨_,_,g.str_eq,f.str_eq,k R H _ (Ext.refl _) d (Rw.bl _)⟩
 ·cases e
theorem Kq:OpR X (compareOp .LtE) (F2 X.K wLe):=by
 intro c s i H x y v u Q I l j q;refine(op_le.or Qdt) c s i H x y v u Q I l j ?_;obtain⟨R,h,a,b,w,m,d,g,f,e,k⟩:=q;unfold wLe at e;split at e
 ·cases e;exact .inl ⟨_,_,g.int_eq,f.int_eq,k R H _ (Ext.refl _) d (Rw.bl _)⟩
 ·cases e;exact .inr ⟨_,_,g.str_eq,f.str_eq,k R H _ (Ext.refl _) d (Rw.bl _)⟩
 ·cases e
theorem QfO:OpR X (compareOp .Gt) (F2 X.K wGt):=by
 intro c s d H x y v u Q I g f q;refine Qmj c s d H x y v u Q I g f ?_;obtain⟨R,h,a,b,w,m,i,l,j,e,k⟩:=q;unfold wGt at e;split at e
 ·cases e;exact⟨_,_,l.int_eq,j.int_eq,k R H _ (Ext.refl _) i (Rw.bl _)⟩
 ·cases e
theorem Qb8:OpR X (compareOp .Is) (F2 X.K wIs):=by
 intro c s i H x y v u Q I l j q;refine(op_isN.or QjW) c s i H x y v u Q I l j ?_;obtain⟨R,h,a,b,w,m,d,g,f,e,k⟩:=q;unfold wIs at e;split at e
 ·cases e;exact .inl ⟨f.non_eq,by rw[Qkb g];exact k R H _ (Ext.refl _) d (Rw.bl _)⟩
 ·split at e
  ·cases e;exact .inr ⟨_,_,g.bl_eq,f.bl_eq,k R H _ (Ext.refl _) d (Rw.bl _)⟩
  ·cases e
 ·cases e
noncomputable def G4(a:W)(h:MH):Option (W×MH):=match a with|.int i=>some (.int (-i),h)|_=>none
theorem Ke(f:PM X a d):PM X (.UnaryOp .USub a pos) (mUn G4 d):=QR (Qme Qjj f) fun i H Q q=>ZC (un1 q) <|by
 rintro x g ⟨R,h,a,w,j,b,c,e,k⟩
 unfold G4 at e;split at e
 ·cases e;exact⟨_,c.int_eq,k R g _ (Ext.refl _) b (Rw.int _)⟩
 ·cases e
noncomputable def wIx(a b:W)(h:MH):Option (W×MH):=match b with
 |.int i=>match a with
  |.tup d=>(atI d i).map fun w=>(w,h)
  |.str x=>if x.length<=sizeLine then(atI x.cps.toList i).map fun c=>(.str ⟨#[c]⟩,h)else none
  |a=>(lsW h a).bind fun d=>(atI d i).map fun w=>(w,h)
 |_=>none
theorem Qdn{K:Nd}(r:Rws K R ws xs)(e:atI ws i=some w):∃v,atI xs i=some v/\Rw K R w v:=by
 unfold atI at e ⊢;rw[<-r.length];obtain⟨j,d,c⟩:=Nc.mp e;obtain⟨v,b,a⟩:=r.get c;exact⟨v,by rw[d];exact b,a⟩
theorem QgV:IxR X (F2 X.K wIx):=by
 intro value slice f s z H x y v u Q I D C q E;refine Qkr value slice f s z H x y v u Q I D C ?_ E;obtain⟨R,h,a,b,w,J,d,n,m,e,k⟩:=q;unfold wIx at e;split at e
 ·rename_i i;split at e
  ·rename_i A;obtain⟨B,j,g⟩:=Nf.mp e;cases g;obtain⟨ad,l,rfl,r,p⟩:=d.tupAt n;obtain⟨v1,t,o⟩:=Qdn p j;exact .inr (.inl ⟨ad,l,i,v1,rfl,m.int_eq,r,t,k R H _ (Ext.refl _) d o⟩)
  ·split at e
   ·rename_i F;obtain⟨c,j,g⟩:=Nf.mp e;cases g;exact .inr (.inr ⟨_,i,c,n.str_eq,m.int_eq,F,j,k R H _ (Ext.refl _) d (Rw.str _)⟩)
   ·cases e
  ·obtain⟨A,G,e⟩:=Nc.mp e;obtain⟨B,j,g⟩:=Nf.mp e;cases g;obtain⟨ad,l,rfl,r,p⟩:=d.lsAt n G;obtain⟨v1,t,o⟩:=Qdn p j;exact .inl ⟨ad,l,i,v1,rfl,m.int_eq,r,t,k R H _ (Ext.refl _) d o⟩
 ·cases e
theorem Ql1(i:PM X a f)(h:PM X b e)(g:Wt b:=by intro _ _;rfl):PM X (.Subscript a b pos) (Qc wIx f e):=
 QR (QjY QgV i h g) fun _ _ _ q=>ZC (Qjn q) fun _ _ d=>ZC d fun _ _ c=>c
noncomputable def JU(ws:List W)(h:MH):Option (W×MH):=match ws with
 |[.str x]=>if x.length<=sizeLine then some (.int x.length,h)else none
 |[.tup ws]=>some (.int ws.length,h)
 |[a]=>(lsW h a).map fun ws=>(.int ws.length,h)
 |_=>none
theorem ZM{K:Nd}:Qhw K (Fs K f) f:=fun _ _ _ q=>q
theorem Yk{K:Nd}(r:Rws K R [a] xs):∃v,xs=[v]/\Rw K R a v:=by
 rw[Rws.cons_iff]at r;obtain⟨v,d,rfl,c,b⟩:=r;rw[Rws.nil_iff]at b;subst b;exact⟨v,rfl,c⟩
theorem Qiy{K:Nd}(r:Rws K R [a,b] xs):∃v u,xs=[v,u]/\Rw K R a v/\Rw K R b u:=by
 rw[Rws.cons_iff]at r;obtain⟨v,f,rfl,e,d⟩:=r;obtain⟨u,rfl,c⟩:=Yk d;exact⟨v,u,rfl,e,c⟩
theorem QcS:CallR X (.builtin "len") (Fs X.K JU):=by
 intro d s i H a j Q I r q;refine(call_len_seq.or UJ) d s i H a j Q I r ?_;obtain⟨R,h,p,w,t,b,rw,e,k⟩:=q;unfold JU at e;split at e
 ·split at e
  ·rename_i l;cases e;obtain⟨v,rfl,c⟩:=Yk rw;exact .inr ⟨_,by rw[c.str_eq],l,k R H _ (Ext.refl _) b (Rw.int _)⟩
  ·cases e
 ·cases e;obtain⟨v,rfl,c⟩:=Yk rw;obtain⟨ad,a,rfl,g,f⟩:=b.tupAt c;exact .inl ⟨ad,a,rfl,.inr g,by rw[<-f.length];exact k R H _ (Ext.refl _) b (Rw.int _)⟩
 ·obtain⟨o,n,m⟩:=Nf.mp e;cases m;obtain⟨v,rfl,c⟩:=Yk rw;obtain⟨ad,a,rfl,g,f⟩:=b.lsAt c n;exact .inl ⟨ad,a,rfl,.inl g,by rw[<-f.length];exact k R H _ (Ext.refl _) b (Rw.int _)⟩
 ·cases e
noncomputable def ZZ(ws:List W)(h:MH):Option (W×MH):=match ws with
 |[.tup ws]=>some (.tup ws,h)
 |[a]=>(lsW h a).map fun ws=>(.tup ws,h)
 |_=>none
noncomputable def QeV(ws:List W)(h:MH):Option (W×MH):=match ws with
 |[.tup ws]=>some (.lst ws,h)
 |[a]=>(lsW h a).map fun ws=>(.lst ws,h)
 |_=>none
theorem G3:CallR X (.type "tuple") (Fs X.K ZZ):=by
 intro b s l H a n Q I r q;refine WL b s l H a n Q I r ?_;obtain⟨R,h,z,w,A,c,rw,e,k⟩:=q;unfold ZZ at e;split at e
 ·cases e;obtain⟨v,rfl,d⟩:=Yk rw;obtain⟨ad,a,rfl,i,j⟩:=c.tupAt d;exact⟨ad,a,rfl,.inr ⟨i,k R H _ (Ext.refl _) c d⟩⟩
 ·obtain⟨y,u,t⟩:=Nf.mp e;cases t;obtain⟨v,rfl,d⟩:=Yk rw;obtain⟨ad,a,rfl,i,j⟩:=c.lsAt d u;refine⟨ad,a,rfl,.inl ⟨i,fun p o=>?_⟩⟩;obtain⟨x,m,g,f⟩:=c.tup o j;exact k x _ _ m g f
 ·cases e
theorem QbJ:CallR X (.type "list") (Fs X.K QeV):=by
 intro d s o H c t Q I r q;refine Ga d s o H c t Q I r ?_;obtain⟨R,h,z,w,A,f,rw,e,k⟩:=q;unfold QeV at e;split at e
 ·cases e;obtain⟨v,rfl,j⟩:=Yk rw;obtain⟨ad,c,rfl,l,i⟩:=f.tupAt j;refine⟨ad,c,rfl,.inr l,fun p m=>?_⟩;obtain⟨n,g,b,a⟩:=f.lstI m i;exact k n _ _ g b a
 ·obtain⟨y,x,u⟩:=Nf.mp e;cases u;obtain⟨v,rfl,j⟩:=Yk rw;obtain⟨ad,c,rfl,l,i⟩:=f.lsAt j x;refine⟨ad,c,rfl,.inl l,fun p m=>?_⟩;obtain⟨n,g,b,a⟩:=f.lstI m i;exact k n _ _ g b a
 ·cases e
noncomputable def QfR:List W->Option (List Bool)
 |[]=>some []
 |.bl b::r=>(QfR r).map (b::·)
 |_=>none
noncomputable def Gg(ws:List W)(h:MH):Option (W×MH):=match ws with
 |[a]=>(lsW h a).bind fun ws=>(QfR ws).map fun bs=>(.bl (bs.all id),h)
 |_=>none
theorem QcF{K:Nd}:∀{ws:List W} {xs:List V} {bs:List Bool},Rws K R ws xs->QfR ws=some bs->xs=bs.map V.bl
 |[],xs,bs,r,e=>by rw[Rws.nil_iff]at r;subst r;cases e;rfl
 |w::ws,xs,bs,r,e=>by
  rw[Rws.cons_iff]at r;obtain⟨v,vs,rfl,b,a⟩:=r;cases w<;>simp only[QfR]at e<;>first|cases e|skip
  obtain⟨f,d,c⟩:=Nf.mp e;subst c;rw[b.bl_eq,QcF a d];rfl
theorem Qar:∀{bs:List Bool} {us:List Value},Vals (bs.map V.bl) us->us=bs.map Value.bool
 |[],us,r=>by cases r;rfl
 |b::bs,us,r=>by
  cases r with
  |cons c a=>cases c;rw[Qar a];rfl
theorem G9:∀bs:List Bool,(List.range bs.length).all (fun i=>bs.getD i false)=bs.all id
 |[]=>rfl
 |b::bs=>by rw[NW,La,Fy,O6,Fy,<-G9 bs];rfl
theorem Qch(U:X.calm=true):CallR X (.builtin "all") (Fs X.K Gg):=by
 intro y s σ H B us Q I r q;obtain⟨R,h,ws,w,g,t,rw,e,k⟩:=q;unfold Gg at e;split at e
 ·rename_i a;obtain⟨ys,e1,e⟩:=Nc.mp e;obtain⟨bs,e2,m⟩:=Nf.mp e;cases m;obtain⟨v,rfl,J⟩:=Yk rw;obtain⟨ad,B,rfl,L,G⟩:=t.lsAt J e1;obtain⟨u,rfl,F⟩:=XW r;cases F;obtain⟨M,D,j,hz⟩:=I.list L;have f:=QcF G e2;subst f;have T:=Qar D;subst T;refine call_all_walk (Ik j.isList ?_)
  have l:ad≠s.heap.objs.size:=fun z=>by
   obtain⟨o,n,Z,_⟩:=j;exact sz Z (Nt _) z
  refine⟨s.heap.objs.size,_,_,_,_,_,fun i=>bs.getD i false,rfl,Walks.list (A:=X.A.in1) (show X.A.in1.handled=none from I.ok.hd U) _ ad l (bs.map Value.bool).toArray,?_,?_,fun g C S=>?_⟩
  ·exact⟨⟨_,Nw _ rfl,rfl,rfl⟩,j.isList.at fun o e=>Nn _ e⟩
  ·intro i v s' Q' E' N O;have d:(bs.map Value.bool)[i]?=some v:=by simpa using N
   rw[Nq]at d;obtain⟨b,f,rfl⟩:=Nf.mp d;refine EY ?_;have:bs.getD i false=b:=by rw[Ef,f];rfl
   exact this▸O
  ·have m:(List.range (bs.map Value.bool).toArray.size).all (fun i=>bs.getD i false)=bs.all id:=by
    rw[Nj,Nu];exact G9 bs
   rw[m];have I0:=I.kept (t':=s.toks) (h':=s.heap.push { cls:=.type "list_iterator",data:=.fields #[.ref ad,.int 0 0] }) fun b o e=>Nn _ e
   have I':=I0.turned (t':=C) (h':=g) (it:=s.heap.objs.size) (fun b o f e=>S b o (by simpa using f) e) (I.hok.fresh (Nt _)) (fun z=>Ex _ (z▸I.lt:s.heap.objs.size<s.heap.objs.size)) (.inr I.sz) (fun x c e z=>by
    obtain⟨v,o,Y,_⟩:=I.cell x c e
    exact sz Y (Nt _) z) fun p P z=>sz (I.pin p P).1 (Nt _) z
   exact⟨.bl _,H,I',rfl,k R H _ (Ext.refl _) t (Rw.bl _)⟩
 ·cases e
end
section
variable{prog:Program}{w:World}{A:Around}{E:Value->Shared->Prop}{s:Shared}
theorem XS{lo b:Option Int}(a:IsTup s.heap t items)(i:s.heap.IsSliceOf g l j .none)(o:IsPart l lo)(n:IsPart j b)
  (hw:HT.sIx items.size 0 lo=0/\HT.sIx items.size items.size b=items.size) (h:Q (.ref t) s):wpAny (model prog w) A (getItem (.ref t) (.ref g)) Q E s:=by
 obtain⟨os,c,e,p⟩:=id i;have f:s.TypeIs (.ref g) "slice":=⟨os,c,e⟩
 unfold getItem
 try with_reducible refine Ey ?_
 first|refine Na (Nh ?_)|skip
 refine Na (Oc a.typeIs (by decide) ?_)
 refine Na (Ep (name:=Str.ofString "__getitem__") a.typeIs N3
  (Ee N3 a.typeIs LM ?_ (L0 _ _)))
 show wpAny _ _ (Builtin.Tuple.tupleItemsOf (.ref t)>>=_) _ _ s;refine Na (tupleItemsOf_ a ?_);refine Na (FG f ?_);rw[if_pos (by decide)];refine Na (HT.sliceApplied_gen i o n ?_)
 have d:((((HT.sIx items.size 0 lo:Nat):Int)==0&&(1:Int)==1&&(HT.sIx items.size items.size b-HT.sIx items.size 0 lo)==items.size)=true):=by
  rw[hw.1,hw.2];simp
 show wpAny _ _ (if(((HT.sIx items.size 0 lo:Nat):Int)==0&&(1:Int)==1&&(HT.sIx items.size items.size b-HT.sIx items.size 0 lo)==items.size)=true then _ else _) _ _ s;rw[if_pos d];refine Na (m:=Builtin.Tuple.tupleIsExact _) ?_;unfold Builtin.Tuple.tupleIsExact;refine Na (FG a.typeIs (Nh ?_));rw[if_pos (by decide)];exact Na (Fg (Nh ⟨_,rfl,Nh h⟩))
end
noncomputable def Uu(xs:List a)(lo b:Option Int):List a:=(xs.drop (HT.sIx xs.length 0 lo)).take (HT.sIx xs.length xs.length b-HT.sIx xs.length 0 lo)
noncomputable def wSl(a:W)(lo c:Option Int)(h:MH):Option (W×MH):=match a with
 |.tup b=>some (.tup (Uu b lo c),h)
 |.str x=>if x.length<=sizeLine then some (.str (Txt.slice x lo c),h)else none
 |a=>(lsW h a).map fun b=>(.lst (Uu b lo c),h)
theorem Qd0{K:Nd}{ws:List W}(r:Rws K R ws xs)(lo a:Option Int):Rws K R (Uu ws lo a) (Qep xs lo a):=by
 unfold Uu Qep;rw[r.length];exact(r.drop _).take _
theorem Qbe{xs:List b}{lo a:Option Int}(h:HT.sIx xs.length 0 lo=0/\HT.sIx xs.length xs.length a=xs.length):Uu xs lo a=xs:=by
 unfold Uu;rw[h.1,h.2];simp
noncomputable abbrev MOp:=MSt->MH->Option (Option Int×MH)
noncomputable def tIO(K:Nd)(m:MOp):TO:=fun e H Q=>∃R a h o b,Rh K R h H/\Rst K R a e/\m a h=some (o,b)/\∀c d,Ext R c->Rh K c b d->Q o d
def PMO(X:Cx)(e:Option Expr)(m:MOp):Prop:=PO X e (tIO X.K m)
noncomputable def VG:MOp:=fun _ h=>some (none,h)
noncomputable def VB(m:ME):MOp:=fun a h=>(m a h).bind fun p=>match p.1 with|.int i=>some (some i,p.2)|_=>none
noncomputable def mSl(d:ME)(b c:MOp):ME:=fun a h=>(d a h).bind fun p=>(b a p.2).bind fun q=>(c a q.2).bind fun r=>wSl p.1 q.1 r.1 r.2
section
variable{X:Cx}
theorem sl_tupA:SlR X (fun x lo b H Q=>∃a xs,x=.ref a/\SqT X.K H a xs/\((HT.sIx xs.length 0 lo=0/\HT.sIx xs.length xs.length b=xs.length)->Q (.ref a) H) /\
  (¬(HT.sIx xs.length 0 lo=0/\HT.sIx xs.length xs.length b=xs.length)->∀p,H p=none->Q (.ref p) (upd H p (.tup (Qep xs lo b))))):=by
 intro c s n H x v t o lo b u Q I f m i g h;obtain⟨a,xs,rfl,j,y,w⟩:=h
 by_cases hw:HT.sIx xs.length 0 lo=0/\HT.sIx xs.length xs.length b=xs.length
 ·cases f;obtain⟨e,r,l,z⟩:=I.tuple j;have d:e.toArray.size=xs.length:=by rw[Nj];exact r.length.symm
  refine⟨"tuple",_,N3.lookup,l.typeIs,?_⟩;exact XS l m i g (by rw[d];exact hw) ⟨.ref a,H,I,rfl,y hw⟩
 ·exact Qjv c s n H (.ref a) v t o lo b u Q I f m i g ⟨a,xs,rfl,j,hw,w hw⟩
theorem Qi2:SlR X (fun x lo f H Q=>∃z,x=.str z/\z.length<=sizeLine/\Q (.str (Txt.slice z lo f)) H):=by
 intro a s n H x v w r lo f y Q I o c p m h;obtain⟨z,rfl,b,q⟩:=h;obtain⟨t,rfl⟩:=o;refine⟨"str",_,PySem.F.slot_str_getitem.lookup,FH _ _ _,?_⟩;have fin:∀(e:Tok) (k:Nat),EP X a n Q (.str (Txt.slice z lo f) e) { s with toks:=k }:=fun e k=>⟨.str _,H,I.tok _,⟨e,rfl⟩,q⟩
 cases p with
 |none=>
  cases m with
  |none=>exact DB (l:=none) (u:=none) (st:=none) c rfl (FL ⟨Nr (D6 z _ _) b,fin⟩)
  |int j d=>exact DB (l:=none) (u:=some (j,d)) (st:=none) c rfl (FL ⟨Nr (D6 z _ _) b,fin⟩)
 |int i g=>
  cases m with
  |none=>exact DB (l:=some (i,g)) (u:=none) (st:=none) c rfl (FL ⟨Nr (D6 z _ _) b,fin⟩)
  |int j d=>exact DB (l:=some (i,g)) (u:=some (j,d)) (st:=none) c rfl (FL ⟨Nr (D6 z _ _) b,fin⟩)
theorem ZL:PMO X none VG:=fun a s c H Q I d=>by
 obtain⟨R,b,h,o,g,f,st,e,k⟩:=d;cases e;exact Qg8 a s c H Q I (k R H (Ext.refl _) f)
theorem ZH(n:PM X e m):PMO X (some e) (VB m):=fun a s f H Q I g=>by
 obtain⟨R,b,h,o,x,l,st,t,k⟩:=g;refine Qgv n a s f H Q I ?_;obtain⟨⟨w,p⟩,r,d⟩:=Nc.mp t;refine⟨R,b,h,w,p,l,st,r,fun R1 u v i c j=>?_⟩;cases w<;>simp only at d<;>first|(cases d;exact⟨_,j.int_eq,k R1 u i c⟩)|cases d
theorem Qfo{lo C:Option Expr}{pos M:Pos}(U:PM X a P)(T:PMO X lo N)(hh:PMO X C O):PM X (.Subscript a (.Slice lo C none M) pos) (mSl P N O):=
 QR (QeG (sl_list.or (sl_tupA.or Qi2)) U T hh) fun σ H Q I=>by
  obtain⟨R,f,h,w,h',L,st,e,k⟩:=I;obtain⟨⟨a,E⟩,ea,e2⟩:=Nc.mp e;obtain⟨⟨l,D⟩,el,e3⟩:=Nc.mp e2;obtain⟨⟨u,Y⟩,Z,d⟩:=Nc.mp e3;refine⟨R,f,h,a,E,L,st,ea,fun R1 H1 x s v J=>⟨R1,f,E,l,D,v,st.mono s,el,fun R2 H2 r t=>⟨R2,f,D,u,Y,t,st.mono (s.trans r),Z,fun F G B b=>?_⟩⟩⟩;have c:=Rw.mono (r.trans B) _ _ J;have j:=k.ext (s.trans (r.trans B));dsimp only at d;unfold wSl at d;split at d
  ·cases d;obtain⟨ad,n,rfl,y,m⟩:=b.tupAt c;refine .inr (.inl ⟨ad,n,rfl,y,fun hw=>?_,fun _ p z=>?_⟩)
   ·rw[Qbe (by rw[m.length];exact hw)]at j;exact j F G _ (Ext.refl _) b c
   ·obtain⟨A,o,i,g⟩:=b.tup z (Qd0 m l u);exact j A _ _ o i g
  ·split at d
   ·rename_i S;cases d;exact .inr (.inr ⟨_,c.str_eq,S,j F G _ (Ext.refl _) b (Rw.str _)⟩)
   ·cases d
  ·obtain⟨ys,e5,e6⟩:=Nf.mp d;cases e6;obtain⟨ad,n,rfl,y,m⟩:=b.lsAt c e5;refine .inl ⟨ad,n,rfl,y,fun p z=>?_⟩;obtain⟨A,o,i,g⟩:=b.lstI z (Qd0 m l u);exact j A _ _ o i g
end
def Qd9(X:Cx)(id:String)(f:W->List W->MH->Option (W×MH)):Prop:=
 MtR X id (fun x d H Q=>∃R h a b w c,Rh X.K R h H/\Rw X.K R a x/\Rws X.K R b d/\f a b h=some (w,c)/\After X.K R w c Q)
noncomputable def tyW(h:MH)(T:String):W->Bool
 |.str _=>T=="str"
 |.int _=>T=="int"
 |.lst _=>T=="list"
 |.frz _=>T=="list"
 |.ref n=>match h[n]? with|some (.lst _)=>T=="list"|some (.dic _)=>T=="dict"|some (.dct _)=>T=="dict"|_=>false
 |_=>false
noncomputable def mMt(T:String)(f:W->List W->MH->Option (W×MH))(mo:ME)(ms:MA):ME:=fun a h=>(mo a h).bind fun p=>if tyW p.2 T p.1=true then(ms a p.2).bind fun q=>f p.1 q.1 q.2 else none
theorem QfD{K:Nd}{x:V}(c:Rh K R h H)(r:Rw K R a x)(e:tyW h T a=true):tyV K T x H:=by
 cases a with
 |str _=>rw[r.str_eq];exact E1 e
 |int _=>rw[r.int_eq];exact E1 e
 |lst _=>
  obtain⟨ad,b,rfl,q,_⟩:=c.lstAt r;exact .inl ⟨E1 e,b,SqL.of q⟩
 |frz _=>
  obtain⟨ad,b,rfl,q,_⟩:=c.frzAt r;exact .inl ⟨E1 e,b,q⟩
 |ref n=>
  simp only[tyW]at e;split at e
  ·rename_i i d;obtain⟨_,rfl,b,f,_⟩:=c.refAt r d;exact .inl ⟨E1 e,b,SqL.of f⟩
  ·rename_i kvs d;unfold Rw at r;obtain⟨g,f,_⟩:=c.obj n _ d;rw[r.2];exact .inr (.inr (.inl ⟨E1 e,.inl ⟨g,f⟩⟩))
  ·rename_i kvs d;unfold Rw at r;obtain⟨g,f,_⟩:=c.obj n _ d;rw[r.2];exact .inr (.inr (.inl ⟨E1 e,.inr ⟨g,f⟩⟩))
  ·cases e
 |_=>cases e
section
variable{X:Cx}{o e:Expr}{es:List Expr}{mo:ME}{ms:MA}{name:Str}{apos cpos:Pos}{T id:String}{f:W->List W->MH->Option (W×MH)}
theorem QiO{X:Cx}{e:Expr}{es:List Expr}{cpos:Pos}(a:decide ((e::es).length<30)=true)(c:JI e=false)(b:XG es=true) :
  ((backTo cpos (starEach (e::es) X.env)).all (fun x=>!x.1)&&(backToKw cpos (keywordEach [] X.env)).all (fun x=>x.1.isSome)
   && decide ((e::es).length+([]:List Keyword).length+(if([]:List Keyword).isEmpty then 0 else 1)<30))=true:=by
 rw[Qe8 (by unfold XG at b ⊢;rw[Fy,c,b];rfl)];exact a
theorem WO(C:PlainAttrs T)(slot:Slot T name id)(p:typeOf (.builtin id)=pure (.type "method_descriptor"))(F:Qd9 X id f)(E:PM X o mo)(G:PMA X (e::es) ms)
  (d:attributeBase o name X.env (eval o X.env)=eval o X.env:=by rfl) (j:decide ((e::es).length<30)=true:=by rfl)
  (c:(apos.endLine==cpos.line)=true:=by rfl) (v:JI e=false:=by rfl) (b:XG es=true:=by rfl) :
  PM X (.Call (.Attribute o name apos) (e::es) [] cpos) (mMt T f mo ms):=
 QR (Qmz C slot p F E G d (QiO j v b) c (QL v) (Z6 b)) fun M H Q A=>by
  obtain⟨R,g,h,w,I,B,st,e,k⟩:=A;obtain⟨⟨a,z⟩,J,l⟩:=Nc.mp e;dsimp only at l;split at l
  ·rename_i D;obtain⟨⟨t,y⟩,es,L⟩:=Nc.mp l;exact⟨R,g,h,a,z,B,st,J,fun R1 P x s i u=>⟨QfD i u D,R1,g,z,t,y,i,st.mono s,es,fun R2 O N r n m=>⟨R2,y,a,t,w,I,n,Rw.mono r _ _ u,m,L,k.ext (s.trans r)⟩⟩⟩
  ·cases l
theorem Qf5(s:PlainAttrs T)(slot:Slot T name id)(j:typeOf (.builtin id)=pure (.type "method_descriptor"))(v:Qd9 X id f)(u:PM X o mo)
  (c:attributeBase o name X.env (eval o X.env)=eval o X.env:=by rfl) (b:(apos.endLine==cpos.line)=true:=by rfl):PM X (.Call (.Attribute o name apos) [] [] cpos) (mMt T f mo Qd):=
 QR (QjF s slot j v u c b) fun B H Q n=>by
  obtain⟨R,i,h,w,y,r,st,e,k⟩:=n;obtain⟨⟨a,m⟩,z,g⟩:=Nc.mp e;dsimp only at g;split at g
  ·rename_i t;obtain⟨⟨C,D⟩,es,A⟩:=Nc.mp g;cases es;exact⟨R,i,h,a,m,r,st,z,fun R1 E x p d l=>⟨QfD d l t,R1,m,a,[],w,y,d,l,Rws.nil,A,k.ext p⟩⟩
  ·cases g
end
noncomputable def QU(a:W)(ws:List W)(h:MH):Option (W×MH):=match a,ws with
 |.ref n,[w]=>match h[n]? with|some (.lst b)=>if b.length<sizeLine then some (.non,h.set n (.lst (b++[w])))else none|_=>none
 |_,_=>none
noncomputable def Yd(a:W)(ws:List W)(h:MH):Option (W×MH):=match a,ws with
 |.ref n,[w]=>match h[n]? with|some (.lst c)=>(loW h w).bind fun b=>if c.length+b.length<=sizeLine then some (.non,h.set n (.lst (c++b)))else none|_=>none
 |_,_=>none
noncomputable def QiP(a:W)(ws:List W)(h:MH):Option (W×MH):=match a,ws with
 |.ref n,[]=>match h[n]? with|some (.lst b)=>(b[b.length-1]?).map fun w=>(w,h.set n (.lst b.dropLast))|_=>none
 |_,_=>none
section
variable{X:Cx}
theorem Rws.dropLast{K:Nd}(r:Rws K R ws vs):Rws K R ws.dropLast vs.dropLast:=by
 rw[Li,Li,r.length];exact r.take _
theorem Qby:Qd9 X "list.append" QU:=by
 intro b s i H x l v m Q I p r q;refine Qdm b s i H x l v m Q I p r ?_;obtain⟨R,h,a,C,w,E,f,t,c,e,k⟩:=q;unfold QU at e;split at e
 ·rename_i n D;split at e
  ·rename_i B u;split at e
   ·rename_i z;cases e;obtain⟨d,rfl,j,A,g⟩:=f.refAt t u;obtain⟨y,rfl,o⟩:=Yk c;refine⟨_,j,y,rfl,rfl,A,by rw[<-g.length];exact z,?_⟩;exact k R _ _ (Ext.refl _) (f.put d ⟨_,rfl,Rws.append g (Rws.cons o Rws.nil)⟩) Rw.non
   ·cases e
  ·cases e
 ·cases e
theorem Y1:Qd9 X "list.extend" Yd:=by
 intro b s j H x o v p Q I t u q;refine Qc2 b s j H x o v p Q I t u ?_;obtain⟨R,h,a,L,w,N,d,z,c,e,k⟩:=q;unfold Yd at e;split at e
 ·rename_i n M;split at e
  ·rename_i J A;obtain⟨G,E,e⟩:=Nc.mp e;split at e
   ·rename_i B;cases e;obtain⟨f,rfl,m,D,i⟩:=d.refAt z A;obtain⟨y,rfl,r⟩:=Yk c;obtain⟨F,l,rfl,C,g⟩:=d.loAt r E;refine⟨_,F,m,l,rfl,rfl,D,C,by rw[<-i.length,<-g.length];exact B,?_⟩;exact k R _ _ (Ext.refl _) (d.put f ⟨_,rfl,Rws.append i g⟩) Rw.non
   ·cases e
  ·cases e
 ·cases e
theorem QdX:Qd9 X "list.pop" QiP:=by
 intro c s i H x l v m Q I p r q;refine QiR c s i H x l v m Q I p r ?_;obtain⟨R,h,a,E,w,G,g,t,b,e,k⟩:=q;unfold QiP at e;split at e
 ·rename_i n;split at e
  ·rename_i D u;obtain⟨F,C,B⟩:=Nf.mp e;cases B;obtain⟨f,rfl,j,z,d⟩:=g.refAt t u;rw[Rws.nil_iff]at b;subst b;obtain⟨y,A,o⟩:=d.get C;refine⟨_,j,y,rfl,rfl,z,by rw[<-d.length];exact A,?_⟩;exact k R _ _ (Ext.refl _) (g.put f ⟨_,rfl,d.dropLast⟩) o
  ·cases e
 ·cases e
noncomputable def K8:List W->Option (List Str)
 |[]=>some []
 |.str x::r=>(K8 r).map (x::·)
 |_=>none
theorem WY{K:Nd}:∀{ws:List W} {xs:List V} {ys:List Str},Rws K R ws xs->K8 ws=some ys->xs=ys.map V.str
 |[],xs,ys,r,e=>by rw[Rws.nil_iff]at r;subst r;cases e;rfl
 |w::ws,xs,ys,r,e=>by
  rw[Rws.cons_iff]at r;obtain⟨v,vs,rfl,b,a⟩:=r;cases w<;>simp only[K8]at e<;>first|cases e|skip
  obtain⟨f,d,c⟩:=Nf.mp e;subst c;rw[b.str_eq,WY a d];rfl
theorem Kv:∀{ys:List Str} {us:List Value},Vals (ys.map V.str) us->StrsAre us ys
 |[],us,r=>by cases r;exact .nil
 |y::ys,us,r=>by
  cases r with
  |cons b a=>obtain⟨t,rfl⟩:=b;exact .cons y t (Kv a)
noncomputable def V7(a:W)(ws:List W)(h:MH):Option (W×MH):=match a,ws with
 |.str x,[.tup d]=>(K8 d).bind fun c=>if(c.map (·.length)).sum+c.length*x.length<=16777216 then some (.str (Txt.join x c),h)else none
 |.str x,[b]=>(lsW h b).bind fun d=>(K8 d).bind fun c=>if(c.map (·.length)).sum+c.length*x.length<=16777216 then some (.str (Txt.join x c),h)else none
 |_,_=>none
theorem Qfy:Qd9 X "str.join" V7:=by
 intro C s M H x N v P Q I d A q;obtain⟨R,h,a,O,w,S,f,B,c,e,k⟩:=q;unfold V7 at e;split at e
 ·rename_i G F;obtain⟨D,z,e⟩:=Nc.mp e;split at e
  ·rename_i r;cases e;obtain⟨y,rfl,j⟩:=Yk c;obtain⟨ad,E,rfl,n,m⟩:=f.tupAt j;obtain⟨u,rfl,l⟩:=XW A;cases l;rw[B.str_eq]at d;obtain⟨t,rfl⟩:=d;obtain⟨p,g,o,_⟩:=I.tuple n;have:=WY m z;subst this;exact join_tuple o (by simpa using Kv g) r fun i J=>⟨.str _,H,I.tok _,⟨i,rfl⟩,k R H _ (Ext.refl _) f (Rw.str _)⟩
  ·cases e
 ·rename_i G b _;obtain⟨F,L,e⟩:=Nc.mp e;obtain⟨D,z,e⟩:=Nc.mp e;split at e
  ·rename_i r;cases e;obtain⟨y,rfl,j⟩:=Yk c;obtain⟨ad,E,rfl,n,m⟩:=f.lsAt j L;obtain⟨u,rfl,l⟩:=XW A;cases l;rw[B.str_eq]at d;obtain⟨t,rfl⟩:=d;obtain⟨p,g,o,_⟩:=I.list n;have:=WY m z;subst this;exact join_list o.isList (by simpa using Kv g) r fun i J=>⟨.str _,H,I.tok _,⟨i,rfl⟩,k R H _ (Ext.refl _) f (Rw.str _)⟩
  ·cases e
 ·cases e
end
noncomputable def QcE(h:MH):W->Option String
 |.non=>some "NoneType"
 |.bl _=>some "bool"
 |.int _=>some "int"
 |.str _=>some "str"
 |.tup _=>some "tuple"
 |.lst _=>some "list"
 |.frz _=>some "list"
 |.ref n=>match h[n]? with|some (.lst _)=>some "list"|some (.dic _)=>some "dict"|some (.dct _)=>some "dict"|_=>none
 |.ty _=>none
noncomputable def JJ(k T:String):Bool:=k==T ||(k=="bool"&&T=="int")
noncomputable def Y5(T:String):Bool:=T=="str" ||T=="int" ||T=="bool" ||T=="list" ||T=="tuple" ||T=="dict"
noncomputable def Gf(ws:List W)(h:MH):Option (W×MH):=match ws with
 |[a,.ty T]=>if Y5 T=true then(QcE h a).map fun k=>(.bl (JJ k T),h)else none
 |_=>none
theorem Ys{K:Nd}(c:k="NoneType"\/k="bool"\/k="int"\/k="str"\/k="tuple"\/k="list"\/k="dict")(b:Y5 T=true):OU K (.type k) (.type T)=some (JJ k T):=by
 have a:T="str"\/T="int"\/T="bool"\/T="list"\/T="tuple"\/T="dict":=by
  unfold Y5 at b;simp only[EH,beq_iff_eq]at b
  rcases b with((((h|h)|h)|h)|h)|h<;>simp[h]
 rcases c with rfl|rfl|rfl|rfl|rfl|rfl|rfl<;>rcases a with rfl|rfl|rfl|rfl|rfl|rfl<;>first|rfl|decide +kernel
section
variable{X:Cx}
theorem Qb7:CallR X (.builtin "isinstance") (Fs X.K Gf):=by
 intro g s L H Z us Q I r q;obtain⟨R,h,ws,w,h',j,D,e,k⟩:=q;unfold Gf at e;split at e
 ·rename_i a T;split at e
  ·rename_i G;obtain⟨N,c,Y⟩:=Nf.mp e;cases Y;obtain⟨x,y,rfl,d,O⟩:=Qiy D;obtain⟨u,u2,rfl,E,l⟩:=Qc8 r;rw[O.ty_eq]at l;cases l;have fin:∀M,EP X g L Q (.bool (JJ N T)) { s with toks:=M }:=fun M=>⟨.bl _,H,I.tok _,rfl,k R H _ (Ext.refl _) j (Rw.bl _)⟩
   have one:∀{t:String},TyOf X.K H x (.type t)->N=t->(t="NoneType"\/t="bool"\/t="int"\/t="str"\/t="tuple"\/t="list"\/t="dict")->wpAny (model X.prog X.w) X.A (call (.builtin "isinstance") [u,.type T]) (EP X g L Q) X.xe s:=fun {t} ty U S=>by
    subst U;exact QdZ I E ty (Ys S G) fin
   cases a with
   |non=>cases c;rw[d.non_eq]at one;exact one .non rfl (by simp)
   |bl b=>cases c;rw[d.bl_eq]at one;exact one (.bl b) rfl (by simp)
   |int i=>cases c;rw[d.int_eq]at one;exact one (.int i) rfl (by simp)
   |str z=>cases c;rw[d.str_eq]at one;exact one (.str z) rfl (by simp)
   |tup C=>
    cases c;obtain⟨ad,B,rfl,m,_⟩:=j.tupAt d;cases E;obtain⟨F,_,p,_⟩:=I.tuple m;obtain⟨o,f,J,_⟩:=p;exact Ek LY I.kIn ⟨o,f,J⟩ (Ys (by simp) G) (fun z=>nomatch z) fin
   |lst C=>
    cases c;obtain⟨ad,B,rfl,m,_⟩:=j.lstAt d;exact one (.lst m) rfl (by simp)
   |frz C=>
    cases c;obtain⟨ad,B,rfl,m,_⟩:=j.frzAt d;cases E;obtain⟨F,_,p,_⟩:=I.list m;obtain⟨o,n,f,J,_⟩:=p;exact Ek Ii I.kIn ⟨o,f,J⟩ (Ys (by simp) G) (fun z=>nomatch z) fin
   |ref n=>
    simp only[QcE]at c;split at c
    ·rename_i C v;cases c;obtain⟨_,rfl,B,f,_⟩:=j.refAt d v;exact one (.lst f) rfl (by simp)
    ·rename_i kvs v;cases c;unfold Rw at d;obtain⟨P,f,_⟩:=j.obj n _ v;rw[d.2]at one;exact one (.dK f) rfl (by simp)
    ·rename_i kvs v;cases c;unfold Rw at d;obtain⟨P,f,_⟩:=j.obj n _ v;rw[d.2]at one;exact one (.dT f) rfl (by simp)
    ·cases c
   |ty _=>cases c
  ·cases e
 ·cases e
end
structure Cal(P:Program)(w:World)(K:Nd)(mg:Str->Option Value)(base:Heap)(k:Nat)(x:Str)(ps:List Str)(g:FM):Prop where
 ex:∃(f:Addr) (fd:FuncData),FnOk P w K mg base CX0 k f fd ps (spM K ps.length g)/\mg x=some (.ref f)/\DJ K (.ref f)=true/\Binds K fd ps []/\∃(oc:Value) (od:Option Addr) (osl:Array (Option Value)),K.lookup f=some ⟨oc,od,.func fd,osl⟩
structure DefAt(K:Nd)(mg:Str->Option Value)(x:Str)(st:Stmt)(ps:List Str):Prop where
 ex:∃(f:Addr) (fd:FuncData),Fun K x x st f fd/\mg x=some (.ref f)/\Binds K fd ps []
theorem KW{K:Nd}{h:Heap}{x:Str}{st:Stmt}{f:Addr}{i:Value}{kV d pm cd ct:Value}(X:K.In h)(G:h.Ns mainGlobals j)
  (a:D7 K mainGlobals x=some (some (.ref f))) (l:K.lookup f=some ⟨i,n,.func (Dg x x (XQ st) (Vi st) (Qe st) .none kV d pm g cd ct),m⟩) (c:FW K cd x=true) (k:DJ K (.ref f)=true)
  (b:∀(kV d pm:Value) (g:Option Addr) (e ct:Value) (us:List Value),us.length=ps.length->bindArgs (Dg x x (XQ st) (Vi st) (Qe st) .none kV d pm g e ct) ⟨us,[]⟩=pure (ps.zip us)):DefAt K j x st ps:=
 ⟨f,_,QfL l c k,DR X G a,(QfL l c k).binds b⟩
structure Glob(K:Nd)(mg:Str->Option Value)(x:Str)(w:W):Prop where
 ex:∃(v:V) (u:Value),mg x=some u/\RelV v u/\∀R,Rw K R w v
theorem J9{K:Nd}(X:K.In h)(G:h.Ns mainGlobals b)(a:D7 K mainGlobals x=some (some (.int i t))):Glob K b x (.int i):=
 ⟨.int i,_,DR X G a,⟨t,rfl⟩,fun _=>Rw.int i⟩
noncomputable def Qbh:List Str->List W:=List.map W.str
theorem Qaj{K:Nd}:∀(ys:List Str),Rws K R (Qbh ys) (ys.map V.str)
 |[]=>Rws.nil
 |y::ys=>Rws.cons (Rw.str y) (Qaj ys)
theorem UN:∀{a:List Value} {ys:List Str},StrsAre a ys->Vals (ys.map V.str) a
 |_,_,.nil=>.nil
 |_,_,.cons y t r=>.cons ⟨t,rfl⟩ (UN r)
theorem Ug{K:Nd}{h:Heap}{x:Str}{c:Addr}{n:Nat}(X:K.In h)(G:h.Ns mainGlobals d)(a:D7 K mainGlobals x=some (some (.ref c)))
  (l:K.lookup c=some ⟨.type "tuple",g,.seq b n,f⟩) (hz:b.size<=sizeLine) (e:StrsAre b.toList ys):Glob K d x (.tup (Qbh ys)):=
 ⟨.ref c,_,DR X G a,rfl,fun R=>by
  unfold Rw
  exact⟨c,_,rfl,.inr ⟨_,b,n,l,rfl,rfl,hz,UN e⟩,Qaj ys⟩⟩
section
variable{X:Cx}{k n:Nat}{g:FM}{x:Str}{ps:List Str}{p pos:Pos}{e:Expr}{es:List Expr}{ms:MA}
theorem QeX(C:Cal X.prog X.w X.K X.mg X.base k x ps g)(hr:Room k X.A)(i:Gl X x)(m:PMA X (e::es) ms)(c:ps.length=n:=by rfl)
  (b:(x==("__debug__":Str))=false:=by decide) (j:JI e=false:=by rfl) (a:XG es=true:=by rfl) :
  PM X (.Call (.Name x p) (e::es) [] pos) (Qi n g ms):=by
 obtain⟨f,fd,F,d,h,l,_⟩:=C.ex;subst c;exact Qhn F hr i d h l QlC m b j a
theorem ZT(C:Glob X.K X.mg x w)(b:Gl X x)(hd:(x==("__debug__":Str))=false:=by decide):PM X (.Name x pos) (mC w):=by
 obtain⟨v,u,a,r,rw⟩:=C.ex;exact Qg6 b a r rw hd
theorem Ux(d:Gl X x)(c:X.mg x=none)(a:bootBuiltins x=some (.type T))(b:x≠"__name__":=by decide)(hd:(x==("__debug__":Str))=false:=by decide):PM X (.Name x pos) (mC (.ty T)):=
 Qiu d c a (v:=.ty T) rfl (fun _=>Rw.ty _) b hd
end
section
variable{P:Program}{w:World}{K:Nd}{mg:Str->Option Value}{base:Heap}
theorem Qy{st:Stmt}(d:DefAt K mg x st ps)(S:FnScope N ps (Qe st))(hN:N.length=ps.length+more)
  (c:∀(f:Addr) (b:Value) (A:Around) (a:List Env) (s:Shared) (H:Hp) (E:XK),Room k (A.deeper (envOfC x (Qe st) s.heap.objs.size f b))->Qd8 (Qf7 CX0 P w K mg base N x (Qe st) f b A a s H E).nox (Vi st) m) :
  Cal P w K mg base (k+1) x ps (Qn more m):=by
 obtain⟨f,fd,F,j,n⟩:=d.ex;obtain⟨i,h,kV,o,pm,p,b,ct,g,e,lk,l⟩:=F.ex;exact⟨f,fd,Qlg F S hN (fun b A a s H E hr=>c f b A a s H E hr),j,F.kp,n,i,h,g,lk⟩
theorem Cal.imp(C:Cal P w K mg base k x ps g)(h:∀vs H Q E,spM K ps.length g' vs H Q E->spM K ps.length g vs H Q E):Cal P w K mg base k x ps g':=by
 obtain⟨f,fd,F,r⟩:=C.ex;exact⟨f,fd,F.imp h,r⟩
theorem Cal.eq(C:Cal P w K mg base k x ps g)(h:∀ws a r,ws.length=ps.length->g' ws a=some r->g ws a=some r):Cal P w K mg base k x ps g':=
 C.imp fun _ _ _ _ z=>by
  obtain⟨R,ws,a,w,f,c,d,b,e,k⟩:=z;exact⟨R,ws,a,w,f,c,d,b,h ws a _ c e,k⟩
end
theorem WH{K:Nd}:∀(ns:List Int),Rws K R (ns.map W.int) (ns.map V.int)
 |[]=>Rws.nil
 |n::ns=>Rws.cons (Rw.int n) (WH ns)
theorem QlP{l:PySem.W.OpenLaw}{d:DefRec}{K:Params->Nd}{st:Stmt}{sem:FM}{k:Nat}(y:l.most=some 63)(B:d.params.defaults=[])(hr:Room k callerA)(A:d.name="law")
  (S:∀(w:World) (h:Heap),X w h->(K w.params).In h)
  (R:∀(kV c pm:Value) (C:Option Addr) (g ct:Value) (s:Shared) (u:Value),BindsTo s (Dg "law" "law" (XQ st) (Vi st) (Qe st) .none kV c pm C g ct) ⟨[u],[]⟩ [("script",u)])
  (F:∀(w:World) (i:Str->Option Value) (h:Heap),(K w.params).In h->h.Ns mainGlobals i ->
   DefAt (K w.params) i "law" st ["script"]/\∀base:Heap,(K w.params).In base->base.Ns mainGlobals i->Cal l.prog w (K w.params) i base k "law" ["script"] sem)
  (main:∀ns:List Int,ns.length<=63->∃h',sem [.frz (ns.map W.int)] []=some (.bl true,h')) :
  OZ q t XP X l.row.toRowW d [] (fun f vs=>OM f vs):=by
 refine L2.Qh1 (n:=63) (k:=k) (x:="script") (CX:=fun _=>CX0) (sp:=fun w=>spM (K w.params) 1 sem) y (by decide) B hr S ?_ ?_ fun _ _ _ _ _ z=>z
 ·intro w i fa h Y G b;obtain⟨D,Z⟩:=F w i h Y G;obtain⟨f,fd,Fu,r,_⟩:=D.ex;rw[A]at b;rw[r]at b;cases b;obtain⟨oc,od,kV,c,pm,C,g,ct,J,e,lk,Q⟩:=Fu.ex;refine⟨fd,fun s u=>?_,fun base O N=>?_⟩
  rotate_left
  ·obtain⟨f',U,F',p,_,_,M,L,E,j⟩:=(Z base O N).ex;rw[r]at p;cases p;rw[lk]at j;cases j;exact F'
  rw[e];exact R kV c pm C g ct s u
 ·intro w H a ns P hO T;obtain⟨h',e⟩:=main ns P;refine⟨⟨fun _=>0,0,H,fun _=>none⟩,[.frz (ns.map W.int)],[],.bl true,h',rfl,⟨rfl,fun _ _ z=>z,fun n y=>absurd y (DD _),fun m n r=>absurd r (DD _),(fun n o z=>by simp at z),(fun _ _ z=>by cases z),(fun _ _=>rfl),(fun _ _ z=>by cases z)⟩,?_,e,fun R' H' v _ _ I=>I.bl_eq⟩;refine Rws.cons ?_ Rws.nil;unfold Rw;exact⟨a,_,rfl,T,WH ns⟩
noncomputable def QdE(a:Scope):Bool:=a.names.all fun y=>y.2 != .cell&&(y.2 != .local ||a.names.lookup y.1==some .local)
noncomputable def Qlk(N:List Str)(xs a:Scope)(cp:List (Option Nat))(Nb:List Str):Bool:=(cp.zip Nb).all fun p=>match p.1 with
 |none=>true
 |some j=>N[j]?==some p.2&&(xs.names.lookup p.2==some .cell ||xs.names.lookup p.2==some .free)&&a.names.lookup p.2==some .free
noncomputable def QfX(a:Scope)(ks:List Str):Bool:=a.names.all fun y=>y.2 != .free ||ks.contains y.1
theorem JP{env:Env}:∀{names:List (Str×NameKind)} {x:Str},names.lookup x=some .free ->
  (names.map fun(n,k)=>if(k==NameKind.free&&env.scope.kind==.function&&env.kindOf n==some .cell)then(n,NameKind.cell)else(n,k)).lookup x=some .cell \/
  (names.map fun(n,k)=>if(k==NameKind.free&&env.scope.kind==.function&&env.kindOf n==some .cell)then(n,NameKind.cell)else(n,k)).lookup x=some .free
 |[],_,h=>by simp at h
 | (n,k)::r,x,h=>by
  have c:=@JP env r x;rw[Nz];dsimp only;cases a:x==n with
  |true=>
   simp only[Eg,a]at h;cases h
   by_cases b:(NameKind.free==NameKind.free&&env.scope.kind==.function&&env.kindOf n==some .cell)=true
   ·rw[if_pos b];exact .inl (by simp[Eg,a])
   ·rw[if_neg b];exact .inr (by simp[Eg,a])
  |false=>
   simp only[Eg,a]at h
   by_cases b:(k==NameKind.free&&env.scope.kind==.function&&env.kindOf n==some .cell)=true
   ·rw[if_pos b];simp only[Eg,a];exact c h
   ·rw[if_neg b];simp only[Eg,a];exact c h
theorem Zu{env:Env}:∀{names:List (Str×NameKind)} {x:Str} {b:NameKind},(∀y∈names,y.2≠.cell)->(b=.cell\/b=.free) ->
  (names.map fun(n,k)=>if(k==NameKind.free&&env.scope.kind==.function&&env.kindOf n==some .cell)then(n,NameKind.cell)else(n,k)).lookup x=some b->(x,NameKind.free)∈names
 |[],_,_,_,_,h=>by simp at h
 | (n,k)::r,x,b,d,e,h=>by
  rw[Nz]at h;dsimp only at h;have f:=@Zu env r x b (fun y g=>d y (No _ g)) e;cases c:x==n with
  | true=>
   have:x=n:=E1 c;subst this
   by_cases a:(k==NameKind.free&&env.scope.kind==.function&&env.kindOf x==some .cell)=true
   ·have:k=.free:=by
     simp only[NJ,beq_iff_eq]at a;exact a.1.1
    subst this;exact Nx
   ·rw[if_neg a]at h;simp[Eg]at h;subst h
    rcases e with z|z
    ·exact absurd z (d (x,k) Nx)
    ·subst z;exact Nx
  |false=>
   refine No _ (f ?_)
   by_cases a:(k==NameKind.free&&env.scope.kind==.function&&env.kindOf n==some .cell)=true
   ·rw[if_pos a]at h;simpa only[Eg,c]using h
   ·rw[if_neg a]at h;simpa only[Eg,c]using h
theorem Qbj{d:List (Str×Addr)}(h:d.lookup x=some c):(x,c)∈d:=by
 induction d with
 |nil=>simp at h
 | cons p r e=>
  obtain⟨n,a⟩:=p;cases b:x==n with
  |true=>
   simp only[Eg,b]at h;cases h;rw[E1 b];exact Nx
  |false=>
   simp only[Eg,b]at h;exact No _ (e h)
theorem WI{d:List (Str×Addr)}(h:x∈d.map (·.1)):∃c,d.lookup x=some c:=by
 induction d with
 |nil=>simp at h
 | cons p r e=>
  obtain⟨n,a⟩:=p;cases b:x==n with
  |true=>exact⟨a,by simp only[Eg,b]⟩
  |false=>
   rcases NB.mp h with z|z
   ·dsimp only at z;rw[z,beq_self_eq_true]at b;cases b
   ·obtain⟨c,f⟩:=e z;exact⟨c,by simp only[Eg,b];exact f⟩
theorem Y2(g:closureFor d X.env=pure o)(kind:d.kind=.function)(s:QdE d=true)(v:o.map (·.1)=ks)(n:QfX d ks=true)
  (f:∀p∈o,X.env.cells.lookup p.1=some p.2) (hN:X.N=N) (r:X.env.scope=xs) (m:cp.length=Nb.length) (w:Qlk N xs d cp Nb=true):BlkOk X d o Nb cp:=by
 have e:∀y∈d.names,y.2≠.cell:=fun y l=>by
  have:=NV.mp s y l;simp only[NJ,bne_iff_ne]at this;exact this.1
 refine⟨g,e,kind,fun y l m=>?_,fun x c h=>f _ (Qbj h),fun x h=>?_,m,fun i j x B A=>?_⟩
 ·have:=NV.mp s y l;simp only[NJ,EH,bne_iff_ne,beq_iff_eq]at this
  rcases this.2 with z|z
  ·exact absurd m z
  ·exact z
 ·have u:(x,NameKind.free)∈d.names:=by
   rcases h with h|h
   ·exact Zu e (.inl rfl) h
   ·exact Zu e (.inr rfl) h
  have:=NV.mp n _ u;simp only[EH,bne_iff_ne,ne_eq,not_true_eq_false,false_or,Lj]at this;exact WI (by rw[v];exact this)
 ·have t:(cp.zip Nb)[i]?=some (some j,x):=by rw[Ds];exact⟨B,A⟩
  have:=NV.mp w _ (NL t);simp only[NJ,EH,beq_iff_eq]at this;obtain⟨⟨a,b⟩,c⟩:=this;refine⟨by rw[hN];exact a,?_,?_,JP c⟩
  ·rw[r]
   rcases b with b|b
   ·exact .inr (.inl b)
   ·exact .inr (.inr b)
  ·unfold Env.kindOf;rw[r];exact b
theorem Zi(kind:a.kind=.function)(l:QdE a=true)(g:QfX a []=true)(f:cp.length=Nb.length)(n:cp.all (·.isNone)=true):BlkOk X a [] Nb cp:=by
 have d:∀y∈a.names,y.2≠.free:=fun y e z=>by
  have:=NV.mp g y e;simp[z]at this
 have b:∀y∈a.names,y.2≠.cell:=fun y e=>by
  have:=NV.mp l y e;simp only[NJ,bne_iff_ne]at this;exact this.1
 refine⟨closureFor_none d,b,kind,fun y e f=>?_,fun x c h=>by simp at h,fun x h=>?_,f,fun i j x o p=>?_⟩
 ·have:=NV.mp l y e;simp only[NJ,EH,bne_iff_ne,beq_iff_eq]at this
  rcases this.2 with z|z
  ·exact absurd f z
  ·exact z
 ·have m:(x,NameKind.free)∈a.names:=by
   rcases h with h|h
   ·exact Zu b (.inl rfl) h
   ·exact Zu b (.inr rfl) h
  exact absurd rfl (d _ m)
 ·have:=NV.mp n _ (NL o);simp at this
theorem Vu(items:List W)(h:MH):live none items h:=fun _ z=>by cases z
theorem Xr{mt:MT}{me:ME}{h:MH}:∀(rest a:List W) (o:Option W),
  (∀w∈rest,mt (some w::caps) h=some (p w,h))->(∀w∈rest,p w=true->me (some w::caps) h=some (f w,h))->a.length+rest.length<=sizeLine ->
  JN fin items none (Q2 0) mt me rest a (o::caps) h=fin (a++(rest.filter p).map f) h
 |[],a,o,_,_,_=>by
  unfold JN;rw[if_pos (Vu _ _)];simp
 | w::rest,a,o,d,e,i=>by
  unfold JN;rw[if_pos (Vu _ _)];have j:Q2 0 w (o::caps) h=some (some w::caps):=rfl;rw[j,Nk,d w Nx,Nk];have g:a.length+(rest.length+1)<=sizeLine:=by simpa using i
  cases c:p w with
  |true=>
   simp only[c];rw[e w Nx c,Nk,if_pos (by lia)];rw[Xr rest (a++[f w]) (some w) (fun x b=>d x (No _ b)) (fun x b=>e x (No _ b)) (by simp;lia)];simp[OA,c]
  |false=>
   simp only[c];rw[Xr rest a (some w) (fun x b=>d x (No _ b)) (fun x b=>e x (No _ b)) (by lia)];simp[OA,c]
theorem Gx(g:a->Bool):∀xs:List a,QfR (xs.map fun x=>W.bl (g x))=some (xs.map g)
 |[]=>rfl
 |x::xs=>by simp[QfR,Gx g xs]
theorem QeN:X6 items none b body [] σ h=some (.nx σ h):=by
 rw[X6,if_pos (Vu _ _)]
section
variable{σ σ1:MSt}{h h1 h2 h3:MH}{a b c w:W}{ws:List W}{ma mb mc:ME}{ms:MA}{mt mu:MT}{s1 s2:SM}{f f':W->W->MH->Option (W×MH)}{g:List W->MH->Option (W×MH)}{z:MF}
theorem QlI:Qd σ h=some ([],h):=rfl
theorem Qj1(e:ma σ h=some (a,h1))(d:ms σ h1=some (ws,h2)):Qa ma ms σ h=some (a::ws,h2):=by unfold Qa;rw[e,Nk,d];rfl
theorem GV(l:ma σ h=some (a,h))(j:mb σ h=some (b,h))(i:f a b h=some (.bl t,h))(e:mc σ h=some (c,h))(d:f' b c h=some (.bl u,h)):Vz f f' ma mb mc σ h=some (.bl (t&&u),h):=by
 unfold Vz;rw[l,Nk,j,Nk];simp only;rw[i,Nk];cases t<;>simp[e,d]
end
theorem QdG(c:(-(2^64)<i/\i<2^64)\/(-(2^64)<j/\j<2^64)):QiQ (.int i) (.int j) h=some (.int (i*j),h):=by unfold QiQ;exact if_pos c
theorem Qiw(c:0<j/\j<1073741824):Vt (.int i) (.int j) h=some (.int (i/j),h):=by unfold Vt;exact if_pos c
theorem Qhl(c:0<j):Js (.int i) (.int j) h=some (.int (i%j),h):=by unfold Js;exact if_pos c
theorem QgS(a:x.length<=sizeLine)(e:atI x.cps.toList i=some d):wIx (.str x) (.int i) h=some (.str ⟨#[d]⟩,h):=by
 unfold wIx;simp only;rw[if_pos a,e];rfl
theorem Qc3{lo a:Option Int}(b:x.length<=sizeLine):wSl (.str x) lo a h=some (.str (Txt.slice x lo a),h):=by unfold wSl;exact if_pos b
theorem QjO(c:0<=i)(b:i<xs.length):∃x∈xs,atI xs i=some x:=by
 have a:i.toNat<xs.length:=by lia
 refine⟨xs[i.toNat],DN a,?_⟩;obtain⟨n,rfl⟩:∃n:Nat,i=n:=⟨i.toNat,by exact(Dz ‹_›).symm⟩
 exact QdI (Ni a)
noncomputable def QiF(mo mi c:ME):SM:=fun a h=>(c a h).bind fun v=>(mo a v.2).bind fun o=>(mi a o.2).bind fun i=>match o.1,i.1 with
 |.ref n,.int k=>match i.2[n]? with
  |some (.lst b)=>(ixN b.length k).map fun j=>.nx a (i.2.set n (.lst (b.set j v.1)))
  |_=>none
 |_,_=>none
section
variable{X:Cx}{o i e:Expr}{mo mi mv:ME}{pos pos':Pos}
theorem Qj5{K:Nd}(q:tS K (QiF mo mi mv) D σ H):QkX (tI K mv) (QmK (tI K mo) (tI K mi) QkP) D σ H:=by
 obtain⟨R,a,h,r,F,s,e,k⟩:=q;obtain⟨⟨v,w⟩,Y,U⟩:=Nc.mp e;obtain⟨⟨ob,u⟩,T,S⟩:=Nc.mp U;obtain⟨⟨I,M⟩,Q,b⟩:=Nc.mp S;refine⟨R,a,h,v,w,F,s,Y,fun R1 H1 x g m E=>⟨R1,a,w,ob,u,m,s.mono g,T,fun R2 H2 y f l C=>⟨R2,a,u,I,M,l,s.mono (g.trans f),Q,fun Z H3 z d c B=>?_⟩⟩⟩;dsimp only at b;split at b
 ·rename_i n G;split at b
  ·rename_i xs J;obtain⟨j,P,O⟩:=Nf.mp b;cases O;obtain⟨p,N,A,L,t⟩:=c.refAt (Rw.mono d _ _ C) J;refine⟨_,A,G,j,N,B.int_eq,L,by rw[<-t.length];exact P,?_⟩;exact k Z _ σ (g.trans (f.trans d)) (c.put p ⟨_,rfl,t.set j (Rw.mono (f.trans d) _ _ E)⟩) (s.mono (g.trans (f.trans d)))
  ·cases b
 ·cases b
theorem GK(d:PM X o mo)(f:PM X i mi)(g:PM X e mv)
  (h:∀v,assign (.Subscript o i pos') X.env v=(do
   let a <-holding [v] (eval o X.env)
   let b <-holding [v,a] (eval i X.env)
   standAt pos'
   holding [v,a,b] (setItem a b v)
   release [v,a,b] []):=by intro _;rfl)
  (c:U5 e=false:=by rfl) (hw:swappedStores [.Subscript o i pos'] e X.env=pure none:=by rfl):PMS X (.Assign [.Subscript o i pos'] e pos) (QiF mo mi mv):=
 XA (QjL g (QkL d f set_list h) (show swapsWith e (some (.Subscript o i pos')) pos.line X.env=pure false from K4 c) hw rfl) fun _ _ _=>Qj5
end
noncomputable def GS(a b:W)(h:MH):Option (W×MH):=match a,b with|.int i,.int j=>some (.int (i+j),h)|_,_=>none
section
variable{X:Cx}{o i e:Expr}{mo mi mv:ME}{pos pos':Pos}
theorem K2:OpR X (inplaceOp .Add) (F2 X.K GS):=by
 intro c s d H x y v u Q I g f q;refine QgI c s d H x y v u Q I g f ?_;obtain⟨R,h,a,b,w,n,j,m,l,e,k⟩:=q;unfold GS at e;split at e
 ·cases e;exact⟨_,_,m.int_eq,l.int_eq,k R H _ (Ext.refl _) j (Rw.int _)⟩
 ·cases e
end
noncomputable def UP(a:W)(ws:List W)(h:MH):Option (W×MH):=match ws with
 |[w]=>(lsW h a).bind fun c=>(drf h 40 w).bind fun x=>(Jg (drf h 40) c).bind fun b=>(b.findIdx? fun y=>eqW y x).map fun j=>(.int (j:Nat),h)
 |_=>none
theorem Qcd(hu:X.A.units+64<cLine):Qd9 X "list.index" UP:=by
 intro U s σ H x xs v us Q I rx rv q;obtain⟨R,h,a,ws,w,h',p,ra,C,e,k⟩:=q;unfold UP at e;split at e
 ·rename_i w1;obtain⟨T,e1,e⟩:=Nc.mp e;obtain⟨r,e2,e⟩:=Nc.mp e;obtain⟨S,P,e⟩:=Nc.mp e;obtain⟨j,e4,e5⟩:=Nf.mp e;cases e5;obtain⟨y,rfl,ry⟩:=Yk C;obtain⟨u,rfl,ru⟩:=XW rv;obtain⟨ad,xv,rfl,q1,G⟩:=p.lsAt ra e1;cases rx;obtain⟨c,B,p1,hz⟩:=I.list q1;have N:X.A.in1.units+40<cLine:=by show X.A.units+1+40<cLine;lia
  have l1:=G.length;have l2:=B.length;have l3:=(QA P).1;obtain⟨hj,l,d⟩:=EL.mp e4
  have o:∀m (f:m<c.toArray.size),QbL X.K R h r c.toArray[m]=eqW (S[m]'(by rw[Nj]at f;lia)) r:=by
   intro m f;rw[Nj]at f;obtain⟨t,g⟩:∃t,T[m]?=some t:=⟨T[m]'(Nl (Nl f (NA l2.symm)) (NA l1.symm)),Ni _⟩
   obtain⟨v2,L,D⟩:=G.get g;obtain⟨u2,M,E⟩:=B.get L;obtain⟨b,hb,eb⟩:=(QA P).2 m t g;have eu:c.toArray[m]=u2:=by have:=M;rw[Ni f]at this;simpa using this
   have ez:S[m]'(by omega)=b:=by have:=hb;rw[Ni (by omega)]at this;simpa using this
   rw[eu,ez];exact Gy I p D E eb
  obtain⟨ob,n,Y,Z,ab,hd⟩:=p1;obtain⟨cls,dd,data,sl⟩:=ob;simp only at Z hd;subst Z hd;have i:j<c.toArray.size:=by rw[Nj];lia
  refine Dd IH ⟨_,Y,rfl⟩ PySem.F.entry_list_index (PySem.F.args_list_index_2 _ _)
   (list_indexAt ad c.toArray n dd sl u (QbL X.K R h r) j i ?_ ?_ ?_) ⟨Y,fun z J=>Ko I p N ry ru e2 G B P z (by simpa using J),?_⟩
  ·have:(sizeLine:Nat)<2^62:=by decide
   have aa:j<2^62:=by lia
   lia
  ·rw[o j i];exact l
  ·intro m f O;rw[o m f];simpa using d m O
  ·exact⟨.int j,H,I.tok _,⟨_,rfl⟩,k R H _ (Ext.refl _) p (Rw.int _)⟩
 ·cases e
inductive TabIs:List DictEntry->List (Str×Int)->Prop where
 |nil:TabIs [] []
 |cons {e:DictEntry} {x:Str} {i:Int} {t t':Tok} {es:List DictEntry} {tab:List (Str×Int)} (hk:e.key=.str x t) (hv:e.val=.int i t') (r:TabIs es tab):TabIs (e::es) ((x,i)::tab)
noncomputable def Yj(tab:List (Str×Int))(k:Str):Option Int:=(tab.find? fun p=>p.1==k).map (·.2)
noncomputable def QlS:Option Int->Option Value->Prop
 |none,u=>u=none
 |some i,u=>∃t,u=some (.int i t)
theorem Qay:∀{es:List DictEntry} {tab:List (Str×Int)} (k:Str),TabIs es tab->QlS (Yj tab k) ((es.find? fun e=>Value.isStrOf k e.key).map (·.val))
 |_,_,k,.nil=>rfl
 | _,_,k,.cons (x:=x) (i:=i) (t':=t') c b r=>by
  have a:=Qay k r;unfold Yj at a ⊢;rw[Et,Et,c];simp only[Value.isStrOf]
  by_cases e:(x==k)=true
  ·rw[e];exact⟨t',by simp[b]⟩
  ·have d:(x==k)=false:=by simpa using e
   rw[d];exact a
structure GTab(w:World)(K:Nd)(mg:Str->Option Value)(x:Str)(tab:List (Str×Int)):Prop where
 ex:∃(a:Addr) (es:List DictEntry) (n:Nat),mg x=some (.ref a)/\K.lookup a=some ⟨.type "dict",none,.dict es.toArray n,#[]⟩/\DW w.params es/\(a==sysModules)=false/\TabIs es tab
theorem Qht{K:Nd}{x:Str}{c:Addr}{n:Nat}(X:K.In h)(G:h.Ns mainGlobals b)(a:D7 K mainGlobals x=some (some (.ref c)))
  (l:K.lookup c=some ⟨.type "dict",none,.dict es.toArray n,#[]⟩) (k:DW w.params es) (s:(c==sysModules)=false) (t:TabIs es tab):GTab w K b x tab:=
 ⟨c,es,n,DR X G a,l,k,s,t⟩
noncomputable def QiC(neg:Bool)(tab:List (Str×Int))(a:W)(h:MH):Option (W×MH):=match a with
 |.str x=>some (.bl (if neg then !(Yj tab x).isSome else(Yj tab x).isSome),h)
 |_=>none
noncomputable def Qks(tab:List (Str×Int))(a:W)(h:MH):Option (W×MH):=match a with
 |.str x=>(Yj tab x).map fun i=>(.int i,h)
 |_=>none
theorem Qce(r:QlS o u):u.isSome=o.isSome:=by
 cases o with
 |none=>rw[show u=none from r];rfl
 |some i=>obtain⟨t,rfl⟩:=(show∃t,u=some (.int i t)from r);rfl
section
variable{X:Cx}{c:Addr}{es:List DictEntry}{n:Nat}{tab:List (Str×Int)}
theorem Qcm(b:X.K.lookup c=some ⟨.type "dict",none,.dict es.toArray n,#[]⟩)(d:DW X.w.params es)(I:Inv X a σ H s):s.heap.MapOf (strKind X.prog X.w) c (fun k=>findBy Value.isStrOf es.toArray k):=
 PySem.W.mapOf_K I.kIn b (by simpa using d)
theorem QdN(a:TabIs es tab)(k:Str):QlS (Yj tab k) (findBy Value.isStrOf es.toArray k):=by
 have:=Qay k a;unfold findBy;rw[List.find?_toArray];exact this
theorem QcB(g:X.K.lookup c=some ⟨.type "dict",none,.dict es.toArray n,#[]⟩)(i:DW X.w.params es)(f:(c==sysModules)=false)(e:TabIs es tab) :
  OpR X (compareOp .NotIn) (fun x y H Q=>∃k,x=.str k/\y=.ref c/\Q (.bl (!(Yj tab k).isSome)) H):=by
 intro a s j H x y v u Q I d b h;obtain⟨k,rfl,rfl,q⟩:=h;obtain⟨t,rfl⟩:=d;cases b;refine wpAny_notIn_of (strKind_is X.prog X.w k t) f (Qcm g i I) ?_;rw[Qce (QdN e k)];exact⟨.bl _,H,I.tok _,rfl,q⟩
theorem QoA(o:X.K.lookup c=some ⟨.type "dict",none,.dict es.toArray n,#[]⟩)(p:DW X.w.params es)(l:TabIs es tab) :
  IxR X (fun x y H Q=>∃k i,x=.ref c/\y=.str k/\Yj tab k=some i/\Q (.int i) H):=by
 intro value slice b s z H x y v u Q I j g h m;obtain⟨k,i,rfl,rfl,e,q⟩:=h;obtain⟨t,rfl⟩:=g;cases j;have d:=Qcm o p I;have r:=QdN l k;rw[e]at r;obtain⟨f,a⟩:=(show∃t,findBy Value.isStrOf es.toArray k=some (.int i t)from r)
 exact tail_any d.typeIs Ir.lookup (wpAny_getItem_of (strKind_is X.prog X.w k t) d a ⟨.int i,H,I.tok _,⟨f,rfl⟩,q⟩) m
variable{a:Expr}{ma:ME}{x:Str}{pos pos':Pos}
theorem QkE{K:Nd}(q:tI K (mUn (QiC neg tab) ma) σ H Q):tI K ma σ H fun v b=>∃k,v=.str k/\Q (.bl (if neg then !(Yj tab k).isSome else(Yj tab k).isSome)) b:=
 ZC (un1 q) fun v b d=>by
  obtain⟨R,h,w,i,j,g,f,e,k⟩:=d;unfold QiC at e;split at e
  ·cases e;exact⟨_,f.str_eq,k R b _ (Ext.refl _) g (Rw.bl _)⟩
  ·cases e
theorem Qbk(G:GTab X.w X.K X.mg x tab)(l:Gl X x)(m:PM X a ma)(hd:(x==("__debug__":Str))=false:=by decide)(h:behindInMarks .NotIn (.Name x pos')=false:=by rfl):PMT X (.Compare a [.NotIn] [.Name x pos'] pos) (Qg (mUn (QiC true tab) ma)):=by
 obtain⟨c,es,n,b,i,j,g,f⟩:=G.ex;exact UR (Qci (QcB i j g f) m (Go (v:=.ref c) l b rfl hd) h) fun o H Q q=>ZC (QkE (Wv q)) fun v p ⟨k,e,d⟩=>⟨k,e,rfl,d⟩
theorem QjM(G:GTab X.w X.K X.mg x tab)(p:Gl X x)(r:PM X a ma)(hd:(x==("__debug__":Str))=false:=by decide)(l:Wt a:=by intro _ _;rfl):PM X (.Subscript (.Name x pos') a pos) (mUn (Qks tab) ma):=by
 obtain⟨c,es,n,b,m,o,_,j⟩:=G.ex;refine QR (QjY (QoA m o j) (Go (v:=.ref c) p b rfl hd) r l) fun y H Q q=>?_
 exact ZC (un1 q) fun v u d=>by
  obtain⟨R,h,w,z,A,g,f,e,k⟩:=d;unfold Qks at e;split at e
  ·obtain⟨i,t,s⟩:=Nf.mp e;cases s;exact⟨_,i,rfl,f.str_eq,t,k R u _ (Ext.refl _) g (Rw.int _)⟩
  ·cases e
end
theorem Qn9(g:mo σ h=some (a,b))(c:tyW b T a=true)(e:ms σ b=some (ws,d)):mMt T f mo ms σ h=f a ws d:=by
 unfold mMt;rw[g,Nk];simp only;rw[if_pos c,e,Nk]
theorem Qgw(a b:Int)(h:MH):wEq (.int a) (.int b) h=some (.bl (a==b),h):=by unfold wEq;simp[drf,eqW]
theorem Qio(a b:Int)(h:MH):wNe (.int a) (.int b) h=some (.bl (!(a==b)),h):=by unfold wNe;simp[drf,eqW]
theorem QgC(a b:Str)(h:MH):wEq (.str a) (.str b) h=some (.bl (a==b),h):=by unfold wEq;simp[drf,eqW]
theorem QcR:(("":Str)).length=0:=by decide +kernel
theorem V5:∀zs:List Str,K8 (zs.map W.str)=some zs
 |[]=>rfl
 |z::zs=>by rw[Nz];unfold K8;rw[V5 zs];rfl
theorem QeI(b:(zs.map (·.length)).sum<=16777216):V7 (.str "") [.lst (zs.map W.str)] h=some (.str (Txt.join "" zs),h):=by
 show((lsW h (.lst (zs.map W.str))).bind fun a=>(K8 a).bind fun zs=>if(zs.map (·.length)).sum+zs.length*(("":Str)).length<=16777216 then some (W.str (Txt.join "" zs),h)else none)=_;rw[show lsW h (.lst (zs.map W.str))=some (zs.map W.str)from rfl,Nk,V5,Nk,if_pos (by rw[QcR];omega)]
noncomputable def QbP(kvs:List (Key×W))(k:Key):Option W:=(kvs.find? fun a=>decide (a.1=k)).map (·.2)
noncomputable def QgZ(kvs:List (Key×W))(k:Key)(v:W):List (Key×W):=
 if(kvs.any fun a=>decide (a.1=k))=true then kvs.map (fun a=>if a.1=k then(a.1,v)else a)else kvs++[(k,v)]
noncomputable def Qix:W->Option Key
 |.int i=>some (.inl i)
 |.str x=>some (.inr x)
 |_=>none
section
variable{K:Nd}{R:Rn}
noncomputable abbrev DicR(K:Nd)(R:Rn):List (Key×W)->List (Key×V)->Prop:=Paired fun p q=>p.1=q.1/\Rw K R p.2 q.2
theorem WM(r:Rw K R w v)(e:Qix w=some k):v=kV k:=by
 cases w with
 |int i=>cases e;exact r.int_eq
 |str x=>cases e;exact r.str_eq
 |_=>cases e
theorem GC:∀{kvs:List (Key×W)} {a:List (Key×V)},DicR K R kvs a->(QbP kvs k=none/\QaA a k=none)\/∃w v,QbP kvs k=some w/\QaA a k=some v/\Rw K R w v
 |_,_,.nil=>.inl ⟨rfl,rfl⟩
 | p::ps,q::c,.cons h t=>by
  by_cases e:p.1=k
  ·have b:q.1=k:=h.1▸e;exact .inr ⟨p.2,q.2,by simp[QbP,Et,e],by simp[QaA,Et,b],h.2⟩
  ·have b:¬q.1=k:=h.1▸e;have f:QbP (p::ps) k=QbP ps k:=by simp only[QbP,Et,e,decide_false]
   have d:QaA (q::c) k=QaA c k:=by simp only[QaA,Et,b,decide_false]
   rcases GC (k:=k) t with z|⟨w,v,j,i,g⟩
   ·exact .inl ⟨f.trans z.1,d.trans z.2⟩
   ·exact .inr ⟨w,v,f.trans j,d.trans i,g⟩
theorem QdK:∀{kvs:List (Key×W)} {d:List (Key×V)},DicR K R kvs d->(kvs.any fun c=>decide (c.1=k))=d.any fun c=>decide (c.1=k)
 |_,_,.nil=>rfl
 |_,_,.cons (a:=p) (b:=q) h t=>by
  rw[EF,EF,QdK t,h.1]
theorem QaW(r:Rw K R w v):∀{kvs:List (Key×W)} {d:List (Key×V)},DicR K R kvs d->DicR K R (kvs.map (fun c=>if c.1=k then(c.1,w)else c)) (d.map (fun c=>if c.1=k then(c.1,v)else c))
 |_,_,.nil=>.nil
 |_,_,.cons (a:=p) (b:=q) h t=>by
  rw[Nz,Nz];refine .cons ?_ (QaW r t)
  by_cases e:p.1=k
  ·rw[if_pos e,if_pos (h.1▸e)];exact⟨h.1,r⟩
  ·rw[if_neg e,if_neg (h.1▸e)];exact h
theorem Qib(d:DicR K R kvs a)(r:Rw K R w v):DicR K R (QgZ kvs k w) (QeD a k v):=by
 unfold QgZ QeD;rw[QdK d];split
 ·exact QaW r d
 ·exact O8 d ⟨rfl,r⟩
theorem Rh.dicAt(q:Rh K R h H)(r:Rw K R (.ref n) v)(e:h[n]?=some (.dic kvs)) :
  n<R.N/\v=.ref (R.ρ n)/\∃a,H (R.ρ n)=some (.dK a)/\DicR K R kvs a:=by
 unfold Rw at r;exact⟨r.1,r.2,q.obj n _ e⟩
end
noncomputable def Qek:ME:=fun _ h=>some (.ref h.length,h++[.dic []])
noncomputable def Qgr(h:MH):W->Option (List (Key×W))
 |.ref n=>match h[n]? with|some (.dic kvs)=>some kvs|_=>none
 |_=>none
theorem QaG(e:Qgr h a=some kvs):∃n,a=.ref n/\h[n]?=some (.dic kvs):=by
 cases a with
 |ref n=>
  simp only[Qgr]at e;split at e
  ·rename_i c b;cases e;exact⟨n,rfl,b⟩
  ·cases e
 |_=>cases e
noncomputable def QkY(a b:W)(h:MH):Option (W×MH):=(Qgr h a).bind fun kvs=>(Qix b).bind fun k=>(QbP kvs k).map fun v=>(v,h)
noncomputable def Qck(mo mi b:ME):SM:=fun a h=>(b a h).bind fun v=>(mo a v.2).bind fun o=>(mi a o.2).bind fun i=>(Qix i.1).bind fun k=>match o.1 with
 |.ref n=>match i.2[n]? with
  |some (.dic kvs)=>if kvs.length<sizeLine then some (.nx a (i.2.set n (.dic (QgZ kvs k v.1))))else none
  |_=>none
 |_=>none
section
variable{X:Cx}{o i e a b:Expr}{mo mi mv ma mb:ME}{pos pos':Pos}
theorem QcI:PM X (.Dict [] [] pos) Qek:=QR QeL fun n H Q q=>by
 obtain⟨R,f,h,w,s,j,st,e,k⟩:=q;cases e;intro p l;obtain⟨m,g,d,c⟩:=j.new (mo:=.dic []) (o:=.dK []) l fun t r=>⟨[],rfl,.nil⟩
 exact k m _ _ g d c
theorem QiL(hu:X.A.units+64<cLine)(E:PM X a ma)(D:PM X b mb)(B:Wt b:=by intro _ _;rfl):PM X (.Subscript a b pos) (Qc QkY ma mb):=
 QR (QgG (El (E2 (by decide) _) hu) E D B) fun S H Q q=>ZC (Qjn q) fun x Z s=>ZC s fun y P l=>by
  obtain⟨R,h,a,b,w,Y,d,r,p,e,k⟩:=l;unfold QkY at e;obtain⟨kvs,N,M⟩:=Nc.mp e;obtain⟨t,L,J⟩:=Nc.mp M;obtain⟨v,c,I⟩:=Nf.mp J;cases I;obtain⟨n,rfl,C⟩:=QaG N;obtain⟨_,F,U,u,O⟩:=d.dicAt r C;have G:=WM p L;subst G
  rcases GC (k:=t) O with z|⟨T,m,j,g,f⟩
  ·rw[z.1]at c;cases c
  ·rw[j]at c;cases c;exact⟨_,m,F,by rw[<-g];exact DGet.k u,k R P _ (Ext.refl _) d f⟩
theorem QgE{K:Nd}(q:tS K (Qck mo mi mv) D σ H):Qi1 (tI K mo) (tI K mi) (tI K mv) D σ H:=by
 obtain⟨R,d,h,r,G,s,e,k⟩:=q;obtain⟨⟨v,B⟩,Z,Y⟩:=Nc.mp e;obtain⟨⟨ob,A⟩,U,T⟩:=Nc.mp Y;obtain⟨⟨I,M⟩,S,Q⟩:=Nc.mp T;obtain⟨kk,P,c⟩:=Nc.mp Q;refine⟨R,d,h,v,B,G,s,Z,fun R1 H1 x m t F=>⟨R1,d,B,ob,A,t,s.mono m,U,fun R2 H2 y l p E=>⟨R2,d,A,I,M,p,s.mono (m.trans l),S,fun R3 H3 z j f C=>?_⟩⟩⟩;dsimp only at c;split at c
 ·rename_i n;split at c
  ·rename_i kvs J;split at c
   ·rename_i g;cases c;obtain⟨u,O,kx,L,w⟩:=f.dicAt (Rw.mono j _ _ E) J;have N:=WM C P;subst N;refine⟨_,_,O,DPut.k L (by rw[<-EM w];exact g),?_⟩;exact k R3 _ σ (m.trans (l.trans j)) (f.put u ⟨_,rfl,Qib w (Rw.mono (l.trans j) _ _ F)⟩) (s.mono (m.trans (l.trans j)))
   ·cases c
  ·cases c
 ·cases c
theorem Qfs(hu:X.A.units+64<cLine)(d:PM X o mo)(f:PM X i mi)(g:PM X e mv)(c:U5 e=false:=by rfl):PMS X (.Assign [.Subscript o i pos'] e pos) (Qck mo mi mv):=
 XA (Qha (El (E2 (by decide) _) hu) d f g (show swapsWith e (some (.Subscript o i pos')) pos.line X.env=pure false from K4 c)) fun _ _ _=>QgE
end
theorem Qej(xs:List a)(x:a):atI (xs++[x]) (-1)=some x:=by
 unfold atI ixN;rw[if_neg (by decide),if_pos (by simp;lia),Nk];have:((-1:Int)+((xs++[x]).length:Nat)).toNat=xs.length:=by simp;lia
 rw[this];simp
mutual
noncomputable def pur:W->Bool
 |.tup ws=>Z4 ws
 |.lst ws=>Z4 ws
 |.frz ws=>Z4 ws
 |.ref _=>false
 |_=>true
noncomputable def Z4:List W->Bool
 |[]=>true
 |w::ws=>pur w&&Z4 ws
end
noncomputable def QiE:MO->Bool
 |.lst ws=>Z4 ws
 |.dic kvs=>Z4 (kvs.map (·.2))
 |.dct kvs=>Z4 (kvs.map (·.2))
 |.ins _ _=>false
mutual
noncomputable def th(f:Nat->Option W):W->Option W
 |.tup ws=>(ths f ws).map .tup
 |.lst ws=>(ths f ws).map .lst
 |.frz ws=>(ths f ws).map .frz
 |.ref j=>f j
 |w=>some w
noncomputable def ths(f:Nat->Option W):List W->Option (List W)
 |[]=>some []
 |w::ws=>(th f w).bind fun x=>(ths f ws).map (x::·)
end
noncomputable def thO(f:Nat->Option W):MO->Option MO
 |.lst ws=>(ths f ws).map .lst
 |.dic kvs=>(ths f (kvs.map (·.2))).map fun vs=>.dic ((kvs.map (·.1)).zip vs)
 |.dct kvs=>(ths f (kvs.map (·.2))).map fun vs=>.dct ((kvs.map (·.1)).zip vs)
 |.ins _ _=>none
noncomputable def res(a:Nat->Option Nat)(g:MH):Nat->Nat->Option W
 |0,j=>(a j).map .ref
 | d+1,j=>match a j with
  |some n=>some (.ref n)
  |none=>match g[j]? with
   |some (.lst ws)=>(ths (res a g d) ws).map .lst
   |_=>none
noncomputable def W4(ns a:List Nat)(N j:Nat):Option Nat:=match ns[j]? with
 |some n=>some n
 |none=>(a.findIdx? (·==j)).map (N+·)
noncomputable def KR:Nat->List W->Option (List W×List Nat)
 |_,[]=>some ([],[])
 |k,.ref n::ws=>(KR (k+1) ws).map fun p=>(.ref k::p.1,n::p.2)
 |k,w::ws=>if pur w then(KR k ws).map fun p=>(w::p.1,p.2)else none
noncomputable def QX:List Nat->List MO->MH->MH
 |n::ns,o::os,h=>QX ns os (h.set n o)
 |_,_,h=>h
noncomputable def QhG(h:MH)(n:Nat):Option MO:=match h[n]? with|some o=>if QiE o then some o else none|none=>none
noncomputable def QiD(a:W->List Nat)(m:FM)(as:List W)(ns:List Nat)(h:MH):Option (W×MH):=
 if ns.Nodup then(Jg (QhG h) ns).bind fun c=>(m as c).bind fun p=>
  if(a p.1).Nodup/\(∀j∈a p.1,ns.length<=j)then
   (th (res (W4 ns (a p.1) h.length) p.2 3) p.1).bind fun w=>
   (Jg (fun j=>(p.2[j]?).bind (thO (res (W4 ns (a p.1) h.length) p.2 3))) (List.range ns.length)).bind fun os=>
   (Jg (fun j=>(p.2[j]?).bind (thO (res (W4 ns (a p.1) h.length) p.2 3))) (a p.1)).map fun b=>
   (w,QX ns os h++b)
  else none
 else none
noncomputable def box(c:W->List Nat)(m:FM):FM:=fun b h=>(KR 0 b).bind fun a=>QiD c m a.1 a.2 h
section
variable{K:Nd}{R R':Rn}
mutual
theorem Rw.pur_mono(b:∀a o,R.F a=some o->R'.F a=some o):∀(w:W) (v:V),pur w=true->Rw K R w v->Rw K R' w v
 |.non,_,_,h=>by unfold Rw at h ⊢;exact h
 |.bl _,_,_,h=>by unfold Rw at h ⊢;exact h
 |.int _,_,_,h=>by unfold Rw at h ⊢;exact h
 |.str _,_,_,h=>by unfold Rw at h ⊢;exact h
 |.ty _,_,_,h=>by unfold Rw at h ⊢;exact h
 |.tup ws,_,p,h=>by
  unfold Rw at h ⊢;obtain⟨a,xs,e,d,c⟩:=h;exact⟨a,xs,e,Q9 b d,Rws.pur_mono b ws xs (by unfold pur at p;exact p) c⟩
 |.lst ws,_,p,h=>by
  unfold Rw at h ⊢;obtain⟨a,xs,e,d,c⟩:=h;exact⟨a,xs,e,b a _ d,Rws.pur_mono b ws xs (by unfold pur at p;exact p) c⟩
 |.frz ws,_,p,h=>by
  unfold Rw at h ⊢;obtain⟨a,xs,e,d,c⟩:=h;exact⟨a,xs,e,QG b d,Rws.pur_mono b ws xs (by unfold pur at p;exact p) c⟩
 |.ref n,_,p,h=>by unfold pur at p;cases p
theorem Rws.pur_mono(c:∀a o,R.F a=some o->R'.F a=some o):∀(ws:List W) (vs:List V),Z4 ws=true->Rws K R ws vs->Rws K R' ws vs
 |[],_,_,h=>by unfold Rws at h ⊢;exact h
 |w::ws,_,p,h=>by
  unfold Rws at h ⊢;obtain⟨v,b,f,e,d⟩:=h;unfold Z4 at p;rw[NJ]at p;exact⟨v,b,f,Rw.pur_mono c w v p.1 e,Rws.pur_mono c ws b p.2 d⟩
end
mutual
theorem Rw.th_ok(c:∀a o,R.F a=some o->R'.F a=some o)(hr:∀j v w,Rw K R (.ref j) v->f j=some w->Rw K R' w v):∀(w:W) (v:V) (w':W),th f w=some w'->Rw K R w v->Rw K R' w' v
 |.non,_,_,e,h=>by unfold th at e;cases e;unfold Rw at h ⊢;exact h
 |.bl _,_,_,e,h=>by unfold th at e;cases e;unfold Rw at h ⊢;exact h
 |.int _,_,_,e,h=>by unfold th at e;cases e;unfold Rw at h ⊢;exact h
 |.str _,_,_,e,h=>by unfold th at e;cases e;unfold Rw at h ⊢;exact h
 |.ty _,_,_,e,h=>by unfold th at e;cases e;unfold Rw at h ⊢;exact h
 |.tup ws,_,_,e,h=>by
  unfold th at e;obtain⟨us,g,d⟩:=Nf.mp e;subst d;unfold Rw at h ⊢;obtain⟨a,b,m,l,i⟩:=h;exact⟨a,b,m,Q9 c l,Rws.th_ok c hr ws b us g i⟩
 |.lst ws,_,_,e,h=>by
  unfold th at e;obtain⟨us,g,d⟩:=Nf.mp e;subst d;unfold Rw at h ⊢;obtain⟨a,b,m,l,i⟩:=h;exact⟨a,b,m,c a _ l,Rws.th_ok c hr ws b us g i⟩
 |.frz ws,_,_,e,h=>by
  unfold th at e;obtain⟨us,g,d⟩:=Nf.mp e;subst d;unfold Rw at h ⊢;obtain⟨a,b,m,l,i⟩:=h;exact⟨a,b,m,QG c l,Rws.th_ok c hr ws b us g i⟩
 |.ref n,v,w',e,h=>by unfold th at e;exact hr n v w' h e
theorem Rws.th_ok(d:∀a o,R.F a=some o->R'.F a=some o)(hr:∀j v w,Rw K R (.ref j) v->f j=some w->Rw K R' w v):∀(ws:List W) (vs:List V) (b:List W),ths f ws=some b->Rws K R ws vs->Rws K R' b vs
 |[],_,_,e,h=>by unfold ths at e;cases e;unfold Rws at h ⊢;exact h
 |w::ws,_,_,e,h=>by
  unfold ths at e;obtain⟨x,n,m⟩:=Nc.mp e;obtain⟨g,l,i⟩:=Nf.mp m;subst i;unfold Rws at h;obtain⟨v,c,s,r,p⟩:=h;subst s;exact Rws.cons (Rw.th_ok d hr w v x n r) (Rws.th_ok d hr ws c g l p)
end
theorem DicR.vals:∀{kvs:List (Key×W)} {a:List (Key×V)},Paired (fun p q=>p.1=q.1/\Rw K R p.2 q.2) kvs a->Rws K R (kvs.map (·.2)) (a.map (·.2))/\kvs.map (·.1)=a.map (·.1):=by
 intro kvs a p
 induction p with
 |nil=>exact⟨Rws.nil,rfl⟩
 |cons h t b=>exact⟨Rws.cons h.2 b.1,by rw[Nz,Nz,b.2,h.1]⟩
theorem DicR.zip:∀{ks:List Key} {a:List (Key×V)} {us:List W},ks=a.map (·.1)->Rws K R us (a.map (·.2))->Paired (fun p q=>p.1=q.1/\Rw K R p.2 q.2) (ks.zip us) a
 |_,[],us,e,h=>by
  subst e;exact .nil
 | _,q::a,us,e,h=>by
  subst e;rw[Nz]at h;cases us with
  |nil=>rw[Rws.nil_iff]at h;cases h
  |cons u us=>
   rw[Rws.cons_iff]at h;obtain⟨v,vs,d,c,b⟩:=h;cases d;exact .cons ⟨rfl,c⟩ (DicR.zip rfl b)
theorem Qa2:∀(n:Nat) (w:W) (k:Tr),Qgh n w=some k->pur w=true
 |0,_,_,e=>by simp[Qgh]at e
 | n+1,w,k,e=>by
  cases w with
  | tup ws=>
   simp only[Qgh]at e;obtain⟨ks,b,f⟩:=Nf.mp e;unfold pur;clear e f
   induction ws generalizing ks with
   |nil=>rfl
   |cons x ws d=>
    rw[List.mapM_cons]at b;obtain⟨c,h,i⟩:=Nc.mp b;obtain⟨a,g,_⟩:=Nc.mp i;unfold Z4;rw[Qa2 n x c h,d a g];rfl
  |lst ws=>simp[Qgh]at e
  |frz ws=>simp[Qgh]at e
  |ref j=>simp[Qgh]at e
  |_=>rfl
theorem Qct(e:nrm w=some k):pur w=true:=by
 cases w with
 |tup a=>exact Qa2 8 _ k e
 |_=>cases e
theorem DctR.vals:∀{kvs:List (W×W)} {a:List (Tr×Addr×V)},Paired (fun p q=>Rw K R p.1 (.ref q.2.1)/\nrm p.1=some q.1/\Rw K R p.2 q.2.2) kvs a->Rws K R (kvs.map (·.2)) (a.map (·.2.2))/\Paired (fun p q=>Rw K R p (.ref q.2.1)/\nrm p=some q.1) (kvs.map (·.1)) a:=by
 intro kvs a p
 induction p with
 |nil=>exact⟨Rws.nil,.nil⟩
 |cons h t b=>exact⟨Rws.cons h.2.2 b.1,.cons ⟨h.1,h.2.1⟩ b.2⟩
theorem DctR.zip:∀{ks:List W} {a:List (Tr×Addr×V)} {us:List W},Paired (fun p q=>Rw K R p (.ref q.2.1)/\nrm p=some q.1) ks a->Rws K R us (a.map (·.2.2))->Paired (fun p q=>Rw K R p.1 (.ref q.2.1)/\nrm p.1=some q.1/\Rw K R p.2 q.2.2) (ks.zip us) a
 |_,[],us,.nil,h=>.nil
 | _,q::a,us,.cons e t,h=>by
  rw[Nz]at h;cases us with
  |nil=>rw[Rws.nil_iff]at h;cases h
  |cons u us=>
   rw[Rws.cons_iff]at h;obtain⟨v,vs,d,c,b⟩:=h;cases d;exact .cons ⟨e.1,e.2,c⟩ (DctR.zip t b)
theorem QaX(m:∀a o,R.F a=some o->R'.F a=some o)(hr:∀j v w,Rw K R (.ref j) v->f j=some w->Rw K R' w v)(e:thO f o=some o')(h:Ro K R o u):Ro K R' o' u:=by
 cases o with
 |lst s=>
  unfold thO at e;obtain⟨c,g,d⟩:=Nf.mp e;subst d;obtain⟨r,l,i⟩:=h;exact⟨r,l,Rws.th_ok m hr s r c g i⟩
 |dic kvs=>
  unfold thO at e;obtain⟨c,g,d⟩:=Nf.mp e;subst d;obtain⟨n,l,i⟩:=h;obtain⟨a,b⟩:=DicR.vals i;exact⟨n,l,DicR.zip b (Rws.th_ok m hr _ _ c g a)⟩
 |dct kvs=>
  unfold thO at e;obtain⟨c,g,d⟩:=Nf.mp e;subst d;obtain⟨n,l,i⟩:=h;obtain⟨a,b⟩:=DctR.vals i;exact⟨n,l,DctR.zip (Paired.mapP b fun p q z=>⟨Rw.pur_mono m _ _ (Qct z.2) z.1,z.2⟩) (Rws.th_ok m hr _ _ c g a)⟩
 |ins C fs=>cases e
theorem Gs(e:∀a o,R.F a=some o->R'.F a=some o)(p:QiE o=true)(h:Ro K R o u):Ro K R' o u:=by
 cases o with
 |lst j=>
  obtain⟨i,c,d⟩:=h;exact⟨i,c,Rws.pur_mono e j i p d⟩
 | dic kvs=>
  obtain⟨f,c,d⟩:=h;refine⟨f,c,?_⟩;have b:Z4 (kvs.map (·.2))=true:=p;clear p c;revert b
  induction d with
  |nil=>exact fun _=>.nil
  |cons h t g=>
   intro b;rw[Nz]at b;unfold Z4 at b;rw[NJ]at b;exact .cons ⟨h.1,Rw.pur_mono e _ _ b.1 h.2⟩ (g b.2)
 | dct kvs=>
  obtain⟨f,c,d⟩:=h;refine⟨f,c,?_⟩;have b:Z4 (kvs.map (·.2))=true:=p;clear p c;revert b
  induction d with
  |nil=>exact fun _=>.nil
  |cons h t g=>
   intro b;rw[Nz]at b;unfold Z4 at b;rw[NJ]at b;exact .cons ⟨Rw.pur_mono e _ _ (Qct h.2.1) h.1,h.2.1,Rw.pur_mono e _ _ b.1 h.2.2⟩ (g b.2)
 |ins C fs=>cases p
theorem GT(f:∀a o,R.F a=some o->R0.F a=some o)(b:∀(i n:Nat),all[i]?=some n->i<R0.N/\R0.ρ i=R.ρ n):∀{ws:List W} {vs:List V} {pre:List Nat} {as:List W} {ns:List Nat},KR pre.length ws=some (as,ns)->all=pre++ns->Rws K R ws vs->Rws K R0 as vs
 |[],vs,pre,as,ns,e,d,h=>by
  unfold KR at e;cases e;rw[Rws.nil_iff]at h;subst h;exact Rws.nil
 | w::ws,vs,pre,as,ns,e,d,h=>by
  rw[Rws.cons_iff]at h;obtain⟨v,x,rfl,g,s⟩:=h
  by_cases hw:∃n,w=.ref n
  ·obtain⟨n,rfl⟩:=hw;unfold KR at e;obtain⟨⟨r,c⟩,l,j⟩:=Nf.mp e;cases j;refine Rws.cons ?_ (GT f b (pre:=pre++[n]) (ns:=c) (by rw[Np];exact l) (by rw[d];simp) s);obtain⟨u,t⟩:=b pre.length n (by rw[d];simp);unfold Rw at g ⊢;exact⟨u,by rw[t];exact g.2⟩
  ·have m:(if pur w then(KR pre.length ws).map fun p=>(w::p.1,p.2)else none)=some (as,ns):=by
    rw[<-e];cases w<;>first|(exact absurd ⟨_,rfl⟩ hw)|(conv=>rhs;unfold KR)
   split at m
   ·rename_i y;obtain⟨⟨r,c⟩,l,j⟩:=Nf.mp m;cases j;exact Rws.cons (Rw.pur_mono f w v y g) (GT f b l d s)
   ·cases m
theorem Z3:∀(ns:List Nat) (os:List MO) (h:MH),(QX ns os h).length=h.length
 |[],_,h=>by unfold QX;rfl
 |_::_,[],h=>by unfold QX;rfl
 |n::ns,o::os,h=>by unfold QX;rw[Z3 ns os,Dk]
theorem X2:∀(ns:List Nat) (os:List MO) (h:MH) (n:Nat),n∉ns->(QX ns os h)[n]?=h[n]?
 |[],_,h,n,_=>by unfold QX;rfl
 |_::_,[],h,n,_=>by unfold QX;rfl
 |m::ns,o::os,h,n,a=>by
  unfold QX;rw[X2 ns os _ n (fun z=>a (No _ z)),Dr (fun z=>a (by rw[z];exact Nx))]
theorem Wi:∀(ns:List Nat) (os:List MO) (h:MH) (i n:Nat),ns.Nodup->ns.length=os.length->ns[i]?=some n->n<h.length->(QX ns os h)[n]?=os[i]?
 |[],_,h,i,n,_,_,e,_=>by simp at e
 |m::ns,[],h,i,n,_,a,_,_=>by simp at a
 |m::ns,o::os,h,0,n,hd,a,e,b=>by
  simp at e;subst e;unfold QX;rw[X2 ns os _ m (Er.mp hd).1,Ez b];rfl
 |m::ns,o::os,h,i+1,n,hd,a,e,b=>by
  unfold QX;rw[Wi ns os (h.set m o) i n (Er.mp hd).2 (by simpa using a) (by simpa using e) (by rw[Dk];exact b)];simp
end
end Mi
namespace Mi
open L2
theorem WK:∀{ws:List W} {k:Nat} {as:List W} {ns:List Nat},KR k ws=some (as,ns)->as.length=ws.length
  |[],k,as,ns,e=>by unfold KR at e;cases e;rfl
  | w::ws,k,as,ns,e=>by
    cases w<;>unfold KR at e<;>first
      | (obtain⟨⟨d,a⟩,c,b⟩:=Nf.mp e
         cases b
         simp[WK c])
      | (split at e
         · obtain⟨⟨d,a⟩,c,b⟩:=Nf.mp e;cases b;simp[WK c]
         · cases e)
theorem UK{a:List Nat}(e:a.findIdx? (·==j)=some i):a[i]?=some j:=by
 rw[EL]at e;obtain⟨h,b,_⟩:=e;rw[Ni h];simp at b;rw[b]
theorem UF{js:List Nat}(e:js.findIdx? (·==j)=none):j∉js:=by
 rw[Iu]at e;intro z;have:=e j z;simp at this
theorem Qb4(e:QhG h n=some o):h[n]?=some o/\QiE o=true:=by
 unfold QhG at e;split at e
 ·rename_i c b;split at e
  ·rename_i a;cases e;exact⟨b,a⟩
  ·cases e
 ·cases e
theorem UD{a:List Nat}(h:a.Nodup){i b j:Nat}(e:a[i]?=some j)(c:a[b]?=some j):i=b:=
 (List.getElem?_inj (Ng.mp e).1 h).mp (e.trans c.symm)
section
variable{K:Nd}
open Classical in
theorem QjC(q:spM K n (box fr m) vs H Q E):spM K n m vs H Q E:=by
 obtain⟨R,ws,h,wx,h2,hl,L,ax,e,k⟩:=q;unfold box at e;obtain⟨⟨as,A⟩,e1,e2⟩:=Nc.mp e;unfold QiD at e2;split at e2
 case isFalse=>cases e2
 rename_i hd;obtain⟨h0,e3,e4⟩:=Nc.mp e2;obtain⟨⟨w,g⟩,e5,e6⟩:=Nc.mp e4;dsimp only at e6;split at e6
 case isFalse=>cases e6
 rename_i hj;obtain⟨a4,a3⟩:=hj;obtain⟨wy,e7,e8⟩:=Nc.mp e6;obtain⟨os,e9,a8⟩:=Nc.mp e8;obtain⟨us,am,a7⟩:=Nf.mp a8;cases a7;generalize a9:fr w=js at *
 have X:∀(i x:Nat),A[i]?=some x->x<R.N/\∃o,h[x]?=some o/\h0[i]?=some o/\QiE o=true:=fun i x l=>by
  obtain⟨o,D,t⟩:=(QA e3).2 i x l;obtain⟨z3,z4⟩:=Qb4 t;exact⟨by rw[L.len];exact(Ng.mp z3).1,o,z3,D,z4⟩
 have af:∀x,x∈A->∃i:Nat,A[i]?=some x:=fun x l=>NS.mp l
 let R0:Rn:={ ρ:=fun i=>R.ρ (A.getD i 0),N:=A.length,F:=R.F,G:=fun a=>if∃x,x<R.N/\x∉A/\R.ρ x=a then H a else R.G a }
 have T:∀(i x:Nat),A[i]?=some x->i<R0.N/\R0.ρ i=R.ρ x:=fun i x l=>by
  refine⟨(Ng.mp l).1,?_⟩;show R.ρ (A.getD i 0)=_;rw[Ef,l];rfl
 have ah:∀i:Nat,i<A.length->∃x,A[i]?=some x:=fun i O=>⟨A[i],Ni O⟩
 have al:∀x,x<R.N->x∉A->R0.G (R.ρ x)=H (R.ρ x):=fun x l hn=>if_pos ⟨x,l,hn,rfl⟩
 have ak:∀a o,R.G a=some o->R0.G a=some o:=fun a o z=>by
  show(if∃x,x<R.N/\x∉A/\R.ρ x=a then H a else R.G a)=some o;split
  ·exact L.gsub a o z
  ·exact z
 have ay:Rh K R0 h0 H:=by
  refine⟨(QA e3).1,L.sub,fun i O=>?_,fun i j O hj ee=>?_,fun i o O=>?_,fun a o ha=>?_,fun i O=>?_,fun a o ha=>?_⟩
  ·obtain⟨x,l⟩:=ah i O;rw[(T i x l).2];exact L.sep x (X i x l).1
  ·obtain⟨x,l⟩:=ah i O;obtain⟨y,U⟩:=ah j hj;rw[(T i x l).2,(T j y U).2]at ee;have:=L.inj x y (X i x l).1 (X j y U).1 ee;subst this;exact UD hd l U
  ·have a6:i<A.length:=by rw[(QA e3).1];exact(Ng.mp O).1
   obtain⟨x,l⟩:=ah i a6;obtain⟨_,o',D,t,z3⟩:=X i x l;rw[O]at t;cases t;rw[(T i x l).2];exact Gs (R:=R) (R':=R0) (fun _ _ z=>z) z3 (L.obj x o D)
  ·have J:(if∃x,x<R.N/\x∉A/\R.ρ x=a then H a else R.G a)=some o:=ha;split at J
   ·exact J
   ·exact L.gsub a o J
  ·obtain⟨x,l⟩:=ah i O;rw[(T i x l).2];show(if∃y,y<R.N/\y∉A/\R.ρ y=R.ρ x then H (R.ρ x)else R.G (R.ρ x))=none;rw[if_neg]
   ·exact L.gsep x (X i x l).1
   ·rintro⟨y,U,az,ey⟩
    have:=L.inj y x U (X i x l).1 ey;subst this;exact az (NS.mpr ⟨i,l⟩)
  ·have J:(if∃x,x<R.N/\x∉A/\R.ρ x=a then H a else R.G a)=some o:=ha;split at J
   ·rename_i l;obtain⟨x,l,_,rfl⟩:=l;exact L.sep x l
   ·exact L.gf a o J
 refine⟨R0,as,h0,w,g,(WK e1).trans hl,ay,GT (R:=R) (R0:=R0) (pre:=[]) (fun _ _ z=>z) T e1 rfl ax,e5,fun R1 H1 v x1 s rv=>?_⟩;have ab:R1.G=R0.G:=x1.g
 have aa:∀(i x:Nat),A[i]?=some x->i<R1.N/\R1.ρ i=R.ρ x:=fun i x l=>by
  obtain⟨D,t⟩:=T i x l;exact⟨Nl D x1.n,(x1.ρ i D).trans t⟩
 have Y:∀(i j:Nat),js[i]?=some j->A.length<=j/\j<R1.N/\∃o u,us[i]?=some u/\g[j]?=some o/\thO (res (W4 A js h.length) g 3) o=some u:=fun i j p=>by
  obtain⟨u,D,t⟩:=(QA am).2 i j p;obtain⟨o,z3,z4⟩:=Nc.mp t;exact⟨a3 j (NS.mpr ⟨i,p⟩),by rw[s.len];exact(Ng.mp z3).1,o,u,D,z3,z4⟩
 have P:∀x,x<R.N->∀j,A.length<=j->j<R1.N->R1.ρ j≠R.ρ x:=fun x l j hj aq ee=>by
  by_cases hm:x∈A
  ·obtain⟨i,O⟩:=af x hm;obtain⟨D,t⟩:=aa i x O;have:=s.inj j i aq D (ee.trans t.symm);have:=(Ng.mp O).1;lia
  ·have z:=s.gsep j aq;rw[ab,ee,al x l hm]at z;obtain⟨_,u,_,hu⟩:=L.there l;rw[hu]at z;cases z
 let R2:Rn:={ ρ:=fun n=>if n<R.N then R.ρ n else R1.ρ (js.getD (n-R.N) 0),N:=R.N+js.length,F:=fun a=>match R1.F a with|some o=>some o|none=>if∃j,A.length<=j/\j<R1.N/\j∉js/\R1.ρ j=a then H1 a else none,G:=R.G }
 have C:∀x,x<R.N->R2.ρ x=R.ρ x:=fun x l=>if_pos l
 have I:∀(i j:Nat),js[i]?=some j->R2.ρ (R.N+i)=R1.ρ j:=fun i j p=>by
  show(if R.N+i<R.N then R.ρ (R.N+i)else R1.ρ (js.getD (R.N+i-R.N) 0))=_;rw[if_neg (Ec.mpr (N4 _ _)),II,Ef,p];rfl
 have f1:∀a o,R1.F a=some o->R2.F a=some o:=fun a o z=>by
  show(match R1.F a with|some o=>some o|none=>if∃j,A.length<=j/\j<R1.N/\j∉js/\R1.ρ j=a then H1 a else none)=some o;rw[z]
 have Z:∀a,R1.F a=none->(¬∃j,A.length<=j/\j<R1.N/\j∉js/\R1.ρ j=a)->R2.F a=none:=fun a D t=>by
  show(match R1.F a with|some o=>some o|none=>if∃j,A.length<=j/\j<R1.N/\j∉js/\R1.ρ j=a then H1 a else none)=none;rw[D];exact if_neg t
 have ar:∀j,A.length<=j->j<R1.N->j∉js->R2.F (R1.ρ j)=H1 (R1.ρ j):=fun j a b c=>by
  show(match R1.F (R1.ρ j)with|some o=>some o|none=>if∃j',A.length<=j'/\j'<R1.N/\j'∉js/\R1.ρ j'=R1.ρ j then H1 (R1.ρ j)else none)=_;rw[s.sep j b];exact if_pos ⟨j,a,b,c,rfl⟩
 have aj:Ext R R2:=⟨N4 _ _,fun x l=>C x l,fun a o z=>f1 a o (x1.f a o z),rfl⟩
 have B:∀x,x<R2.N->x<R.N\/∃i j:Nat,x=R.N+i/\js[i]?=some j:=fun x l=>by
  have ai:x<R.N+js.length:=l
  by_cases z:x<R.N
  ·exact .inl z
  ·exact .inr ⟨x-R.N,js[x-R.N]'(DX (Ec.mp z) ai),by lia,Ni (DX (Ec.mp z) ai)⟩
 have hr:∀d j v w,Rw K R1 (.ref j) v->res (W4 A js h.length) g d j=some w->Rw K R2 w v:=by
  have ae:∀j v x,Rw K R1 (.ref j) v->W4 A js h.length j=some x->Rw K R2 (.ref x) v:=fun j v x r z=>by
   unfold Rw at r ⊢;unfold W4 at z;split at z
   ·rename_i y U;cases z;obtain⟨D,t⟩:=aa j x U;have an:=(X j x U).1;exact⟨Nl an aj.n,by rw[C x an,<-t];exact r.2⟩
   ·obtain⟨i,D,t⟩:=Nf.mp z;have p:=UK D;subst t;rw[<-L.len,I i j p];exact⟨E2 (Ng.mp p).1 _,r.2⟩
  intro d
  induction d with
  |zero=>
   intro j v w r z;unfold res at z;obtain⟨x,D,t⟩:=Nf.mp z;subst t;exact ae j v x r D
  | succ d ih=>
   intro j v w r z;unfold res at z;split at z
   ·rename_i x l;cases z;exact ae j v x r l
   ·rename_i M;split at z
    ·rename_i av hg;obtain⟨aw,D,t⟩:=Nf.mp z;subst t;obtain⟨xs,o1,o2⟩:=s.obj j _ hg;have ao:j<R1.N/\v=.ref (R1.ρ j):=by unfold Rw at r;exact r
     unfold W4 at M;split at M
     ·cases M
     ·rename_i a2;have ap:j∉js:=UF (by simpa using M);unfold Rw;refine⟨R1.ρ j,xs,ao.2,?_,Rws.th_ok f1 ih av xs aw D o2⟩;rw[ar j (Iv.mp a2) ao.1 ap];exact o1
    ·cases z
 refine k R2 H1 v aj ⟨?_,fun a o ha=>?_,fun x l=>?_,fun x y l U ee=>?_,fun x o l=>?_,fun a o ha=>?_,fun x l=>?_,fun a o ha=>?_⟩ (Rw.th_ok f1 (hr 3) w v _ e7 rv)
 ·show R.N+js.length=_;rw[Np,Z3,<-(QA am).1,L.len]
 ·have J:(match R1.F a with|some o=>some o|none=>if∃j,A.length<=j/\j<R1.N/\j∉js/\R1.ρ j=a then H1 a else none)=some o:=ha;split at J
  ·rename_i o' a1;cases J;exact s.sub a _ a1
  ·split at J
   ·exact J
   ·cases J
 ·rcases B x l with l|⟨i,j,rfl,p⟩
  ·rw[C x l];refine Z _ ?_ (fun⟨j,a,b,_,c⟩=>P x l j a b c)
   by_cases hm:x∈A
   ·obtain⟨i,O⟩:=af x hm;obtain⟨D,t⟩:=aa i x O;rw[<-t];exact s.sep i D
   ·obtain⟨_,u,_,hu⟩:=L.there l;exact s.gf _ u (by rw[ab,al x l hm];exact hu)
  ·obtain⟨D,t,_⟩:=Y i j p;rw[I i j p];refine Z _ (s.sep j t) (fun⟨j',a,b,c,d⟩=>?_);have:=s.inj j' j b t d;subst this;exact c (NS.mpr ⟨i,p⟩)
 ·rcases B x l with l|⟨i,j,rfl,p⟩<;>rcases B y U with U|⟨i',j',rfl,S⟩
  ·rw[C x l,C y U]at ee;exact L.inj x y l U ee
  ·rw[C x l,I i' j' S]at ee;obtain⟨D,t,_⟩:=Y i' j' S;exact absurd ee.symm (P x l j' D t)
  ·rw[C y U,I i j p]at ee;obtain⟨D,t,_⟩:=Y i j p;exact absurd ee (P y U j D t)
  ·rw[I i j p,I i' j' S]at ee;obtain⟨_,t,_⟩:=Y i j p;obtain⟨_,au,_⟩:=Y i' j' S;have:=s.inj j j' t au ee;subst this;rw[UD a4 p S]
 ·have ai:x<R2.N:=by
   have:=(Ng.mp l).1;rw[Np,Z3,<-(QA am).1,<-L.len]at this;exact this
  rcases B x ai with hn|⟨i,j,rfl,p⟩
  ·rw[Ei (by rw[Z3,<-L.len];exact hn)]at l;rw[C x hn]
   by_cases hm:x∈A
   ·obtain⟨i,O⟩:=af x hm;obtain⟨D,t⟩:=aa i x O;have a5:=(Ng.mp O).1;rw[Wi A os h i x hd (by rw[<-(QA e9).1,Dq]) O (by rw[<-L.len];exact hn)]at l;obtain⟨u,y1,y2⟩:=(QA e9).2 i i (by rw[EB a5]);rw[l]at y1;cases y1;obtain⟨o',y3,y4⟩:=Nc.mp y2;rw[<-t];exact QaX f1 (hr 3) y4 (s.obj i o' y3)
   ·rw[X2 A os h x hm]at l;obtain⟨_,u,_,hu⟩:=L.there hn;have a0:H1 (R.ρ x)=some u:=s.gsub _ u (by rw[ab,al x hn hm];exact hu);have:=L.obj x o l;rw[hu]at this;rw[a0];exact this.mono aj
  ·obtain⟨D,t,o',u,y1,y2,y3⟩:=Y i j p;rw[EN (by rw[Z3,<-L.len];exact N4 _ _),Z3,<-L.len,II,y1]at l;cases l;rw[I i j p];exact QaX f1 (hr 3) y3 (s.obj j o' y2)
 ·exact s.gsub a o (by rw[ab];exact ak a o ha)
 ·rcases B x l with l|⟨i,j,rfl,p⟩
  ·rw[C x l];exact L.gsep x l
  ·rw[I i j p];obtain⟨_,t,_⟩:=Y i j p;cases z:R2.G (R1.ρ j)with
   |none=>rfl
   |some u=>
    have z3:=s.gsep j t;rw[ab,ak _ u z]at z3;cases z3
 ·have hg:R1.G a=some o:=by rw[ab];exact ak a o ha
  refine Z a (s.gf a o hg) (fun⟨j,_,b,_,d⟩=>?_);have z3:=s.gsep j b;rw[d,hg]at z3;cases z3
theorem Cal.box(b:W->List Nat)(C:Cal P w K a base k x ps g):Cal P w K a base k x ps (Mi.box b g):=
 C.imp fun _ _ _ _ q=>QjC q
end
noncomputable def frN:W->List Nat:=fun _=>[]
noncomputable def W6:List Nat->List W->MSt->Option MSt
 |[],[],σ=>some σ
 |i::is,w::ws,σ=>W6 is ws (σ.set i (some w))
 |_,_,_=>none
noncomputable def Zr(is:List Nat):MG:=fun w a _=>match w with|.tup b=>W6 is b a|_=>none
noncomputable def Qbl:List Nat->TGs
 |[]=>Qne
 |i::is=>Qjz (QbX i) (Qbl is)
theorem J4:PGs X [] (Qbl []):=QgU
theorem Uo(hN:X.N.Nodup)(b:X.N[i]?=some x)(a:Loc X.env.scope x)(h:PGs X es (Qbl is))(c:X.fn x=true\/X.env.scope.names.lookup x=some .local)
  : PGs X (.Name x pos::es) (Qbl (i::is)):=QeO (Qdu hN b a c) h
theorem G6{K:Nd}:∀{is:List Nat} {ws:List W} {xs:List V} {a b:MSt} {σ:L2.St},W6 is ws a=some b->Rws K R ws xs->Rst K R a σ->(∀c,Rst K R b c->C c H)->Qbl is xs σ H C
 |[],[],xs,a,b,σ,e,r,s,k=>by
  cases e;rw[Rws.nil_iff]at r;exact⟨r,k σ s⟩
 |i::is,w::ws,xs,a,b,σ,e,r,s,k=>by
  rw[Rws.cons_iff]at r;obtain⟨v,vs,rfl,f,d⟩:=r;exact⟨v,vs,rfl,G6 (is:=is) e d (s.set f) k⟩
 |[],_::_,_,_,_,_,e,_,_,_=>by cases e
 |_::_,[],_,_,_,_,e,_,_,_=>by cases e
theorem UY:∀{is:List Nat} {ws:List W} {σ a:MSt},W6 is ws σ=some a->ws.length=is.length
 |[],[],_,_,_=>rfl
 |i::is,w::ws,σ,a,e=>by
  have:=UY (is:=is) (ws:=ws) e;simp[this]
 |[],_::_,_,_,e=>by cases e
 |_::_,[],_,_,e=>by cases e
theorem Ve{is:List Nat}(o:X.calm=true)(h:PGs X es (Qbl is))(n:(assignEach es X.env).length=is.length)(m:(assignEach es X.env).findIdx? (·.1)=none):PMG X (.Tuple es k pos) (Zr is):=
 Qgg (Qja o h n m) fun v p H C g=>by
  obtain⟨R,d,h,w,f,b,st,rw,e,q⟩:=g;unfold Zr at e;split at e
  ·rename_i r;obtain⟨ad,i,rfl,l,c⟩:=b.tupAt rw;exact⟨ad,i,rfl,l,by rw[<-c.length];exact UY e,G6 e c st fun a j=>q R H a (Ext.refl _) b j⟩
  ·cases e
noncomputable def QgM(ws:List W)(h:MH):Option (W×MH):=match ws with
 |[.int i,.int j]=>some (.int (if j>i then j else i),h)
 |_=>none
noncomputable def QiA(ws:List W)(h:MH):Option (W×MH):=match ws with
 |[.int i,.int j]=>some (.int (if j<i then j else i),h)
 |_=>none
noncomputable def Qea(ws:List W)(h:MH):Option (W×MH):=match ws with
 |[.int i]=>some (.int i,h)
 |[.bl b]=>some (.int (if b then 1 else 0),h)
 |_=>none
section
variable{X:Cx}
theorem UZ(j:X.calm=true):CallR X (.builtin "max") (Fs X.K QgM):=by
 intro a s b H c d Q I r q;refine Qdw j a s b H c d Q I r ?_;obtain⟨R,h,l,w,m,f,rw,e,k⟩:=q;unfold QgM at e;split at e
 ·cases e;obtain⟨v,u,rfl,i,g⟩:=Qiy rw;exact⟨_,_,by rw[i.int_eq,g.int_eq],k R H _ (Ext.refl _) f (Rw.int _)⟩
 ·cases e
theorem Qb9(j:X.calm=true):CallR X (.builtin "min") (Fs X.K QiA):=by
 intro a s b H c d Q I r q;refine Qdb j a s b H c d Q I r ?_;obtain⟨R,h,l,w,m,f,rw,e,k⟩:=q;unfold QiA at e;split at e
 ·cases e;obtain⟨v,u,rfl,i,g⟩:=Qiy rw;exact⟨_,_,by rw[i.int_eq,g.int_eq],k R H _ (Ext.refl _) f (Rw.int _)⟩
 ·cases e
theorem YA:CallR X (.type "int") (Fs X.K Qea):=by
 intro a s d H f g Q I r q;refine Qdd a s d H f g Q I r ?_;obtain⟨R,h,i,w,j,c,rw,e,k⟩:=q;unfold Qea at e;split at e
 ·cases e;obtain⟨v,rfl,b⟩:=Yk rw;exact .inl ⟨_,by rw[b.int_eq],k R H _ (Ext.refl _) c (Rw.int _)⟩
 ·cases e;obtain⟨v,rfl,b⟩:=Yk rw;exact .inr ⟨_,by rw[b.bl_eq],k R H _ (Ext.refl _) c (Rw.int _)⟩
 ·cases e
noncomputable def rep(x:Str)(n:Int):Str:=⟨((List.replicate n.toNat x.cps.toList).flatten).toArray⟩
theorem Uz:∀(l:List (Array Nat)) (a:Array Nat),l.foldl (·++·) a=(a.toList++(l.map Array.toList).flatten).toArray
 |[],a=>by simp
 |b::l,a=>by rw[DY,Uz l];simp
theorem QfC(x:Str)(n:Int):(⟨(List.replicate n.toNat x.cps).foldl (·++·) #[]⟩:Str)=rep x n:=by
 unfold rep;rw[Uz];simp
theorem Qer(x:Str)(h:n<1):Str.empty=rep x n:=by
 unfold rep;rw[show n.toNat=0 by lia];rfl
theorem QgR(x:Str):x=rep x 1:=by
 unfold rep;simp
theorem QhC(n:Int)(h:(x.length==0)=true):x=rep x n:=by
 unfold rep
 have:x.cps=#[]:=by
  have:x.cps.size=0:=by simpa[Str.length]using h
  exact FN this
 obtain⟨c⟩:=x;simp at this;subst this;simp
noncomputable def ZU(a b:W)(h:MH):Option (W×MH):=match a,b with
 |.str x,.int n=>if n<1000/\-1000<n/\x.length<1000 then some (.str (rep x n),h)else none
 |a,b=>QiQ a b h
theorem QhO:OpR X (binaryOp .Mult) (fun x y H Q=>∃z n,x=.str z/\y=.int n/\(n<1000/\-1000<n/\z.length<1000)/\Q (.str (rep z n)) H):=by
  intro b s e H x y v u Q I i h ⟨z,n,p,o,⟨C,B,A⟩,q⟩;subst p o;obtain⟨t,rfl⟩:=i;obtain⟨w,rfl⟩:=h
  have j:z.length*n.toNat<1000000:=by
    calc z.length*n.toNat<=999*999:=Lk (by lia) (by lia)
      _<1000000:=by decide
  refine PySem.P.mul_str (by rw[decide_eq_false (by lia),decide_eq_false (by lia)];rfl) (fun a _=>?_) (fun a _=>?_) ?_
  · have:(2^63-1)/n >= 1000:=by
      rw[ge_iff_le,Int.le_ediv_iff_mul_le (by lia)];lia
    lia
  · unfold Builtin.Str.tooLong
    exact decide_eq_false (by show¬_;have:sizeLine=16777216:=by decide
                              lia)
  · have done:∀(y:Str) (f:Tok) (d:Shared),y=rep z n->Inv X b e H d->EP X b e Q (.str y f) d:=fun y f d m r=>⟨.str y,H,r,⟨_,rfl⟩,by rw[m];exact q⟩
    split
    · rename_i g;exact⟨by decide,done _ _ _ (Qer z g) (I.tok _)⟩
    · split
      · rename_i g c;rw[EH]at c;refine done _ _ _ ?_ I
        rcases c with c|c
        · have:n=1:=by simpa using c
          subst this;exact QgR z
        · exact QhC n c
      · refine⟨?_,done _ _ _ (QfC z n) (I.tok _)⟩;rw[QfC]
        have l:(rep z n).length=n.toNat*z.length:=by
          unfold rep Str.length;simp
        rw[l,Nat.mul_comm];have:sizeLine=16777216:=by decide
        exact NE (Nl (El j (by decide)) (NA this.symm))
theorem Qfe:OpR X (binaryOp .Mult) (F2 X.K ZU):=by
 intro c s d H x y v u Q I g f q;obtain⟨R,h,a,b,w,n,i,l,j,e,k⟩:=q;unfold ZU at e;split at e
 ·split at e
  ·rename_i m;cases e;exact QhO c s d H x y v u Q I g f ⟨_,_,l.str_eq,j.int_eq,m,k R H _ (Ext.refl _) i (Rw.str _)⟩
  ·cases e
 ·exact QhS c s d H x y v u Q I g f ⟨R,h,a,b,w,n,i,l,j,e,k⟩
end
section
variable{X:Cx}{elt tg iter c:Expr}{scope:Scope}{pos pos' spos:Pos}{cl:List (Str×Addr)}{Nb:List Str}{cp:List (Option Nat)}{mi:MI}{b:MG}{mt:MT}{me m:ME}{fin:List W->MH->Option (W×MH)}{i:Nat}{x:Str}{e:Expr}
theorem QcD{K:Nd}(q:tS K (QW i m) D σ H):tI K m σ H fun v f=>QbX i v σ f D.nx:=by
 obtain⟨R,a,h,r,l,s,e,k⟩:=q;obtain⟨⟨w,n⟩,p,o⟩:=Nf.mp e;cases o;exact⟨R,a,h,w,n,l,s,p,fun R1 f v g d j=>k R1 f _ g d ((s.mono g).set j)⟩
theorem YB(hN:X.N.Nodup)(n:X.N[i]?=some x)(v:Loc X.env.scope x)(o:X.fn x=true\/X.env.scope.names.lookup x=some .local)(A:Qbf X.K fin)(E:X.calm=true)(B:BlkOk X scope cl Nb cp)(y:PMI X tg iter mi)(z:∀a d C j f,PMG (Mi.blk X scope cl Nb a d C j f) tg b)
  (D:∀a d C j f,PM (Mi.blk X scope cl Nb a d C j f) elt me) (w:∀x,foldedSetIterable iter X.env x=pure x) (l:swapsWith (.ListComp elt [⟨tg,iter,[],0⟩] scope pos) (some (.Name x pos')) spos.line X.env=pure true) :
  PMS X (.Assign [.Name x pos'] (.ListComp elt [⟨tg,iter,[],0⟩] scope pos) spos) (QW i (QC fin mi cp b V3 me)):=
 XA (Qb0 (g:=tIG X.K b) (te:=tI X.K me) (tt:=tIT X.K V3) hN n v o l E B y z (fun a d C j f p s F H Q I q=>wpAny_tests_nil (by
  obtain⟨R,r,h,t,L,u,st,e,k⟩:=q;cases e
  exact⟨H,I,k R H (Ext.refl _) u⟩)) D w) fun _ _ _ q=>Wx A (QcD q)
theorem UW(hN:X.N.Nodup)(n:X.N[i]?=some x)(r:Loc X.env.scope x)(o:X.fn x=true\/X.env.scope.names.lookup x=some .local)(y:Qbf X.K fin)(A:X.calm=true)(B:BlkOk X scope cl Nb cp)(v:PMI X tg iter mi)(w:∀a d C h f,PMG (Mi.blk X scope cl Nb a d C h f) tg b)
  (t:∀a d C h f,PMT (Mi.blk X scope cl Nb a d C h f) c mt)
  (z:∀a d C h f,PM (Mi.blk X scope cl Nb a d C h f) elt me) (u:∀x,foldedSetIterable iter X.env x=pure x) (l:swapsWith (.ListComp elt [⟨tg,iter,[c],0⟩] scope pos) (some (.Name x pos')) spos.line X.env=pure true) :
  PMS X (.Assign [.Name x pos'] (.ListComp elt [⟨tg,iter,[c],0⟩] scope pos) spos) (QW i (QC fin mi cp b mt me)):=
 XA (Qb0 (g:=tIG X.K b) (te:=tI X.K me) (tt:=tIT X.K mt) hN n r o l A B v w (fun a d C h f j s p H Q I q=>wpAny_tests_one (t a d C h f j s p H Q I q)) z u) fun _ _ _ q=>Wx y (QcD q)
end
set_option checkBinderAnnotations false in
noncomputable def ob[f:b->Option a](x:Option b):Option a:=x.bind f
set_option checkBinderAnnotations false in
noncomputable def om[f:b->a](x:Option b):Option a:=x.map f
@[simp]theorem Qh6:@ob _ _ f (some a)=f a:=id rfl
@[simp]theorem QlJ:@om _ _ f (some a)=some (f a):=id rfl
noncomputable def Qmy(b:SM):MF->Option MF
 |.nx σ h=>b σ h
 |r=>some r
section
variable{σ σ':MSt}{h h':MH}{a b:SM}{m ma mb mc:ME}{t u:MT}{ms:MA}{w x y:W}{ws:List W}
@[simp]theorem Qmf:Qmy b (.nx σ h)=b σ h:=id rfl
@[simp]theorem Qmb:Qmy b (.rt w h)=some (.rt w h):=id rfl
@[simp]theorem QoE:Qk a b σ h=@ob _ _ (Qmy b) (a σ h):=by
 unfold Qk;refine congrArg (fun c=>@ob _ _ c (a σ h)) (funext fun r=>?_);cases r<;>rfl
@[simp]theorem QnB:QM σ h=some (.nx σ h):=id rfl
@[simp]theorem Qo2:Q8 m σ h=@om _ _ (fun p=>.rt p.1 p.2) (m σ h):=id rfl
noncomputable def onB(a b:SM)(σ:MSt)(p:Bool×MH):Option MF:=if p.1=true then a σ p.2 else b σ p.2
@[simp]theorem Qlu(c:Bool):onB a b σ (c,h)=if c=true then a σ h else b σ h:=id rfl
@[simp]theorem Qoq:ZX t a b σ h=@ob _ _ (onB a b σ) (t σ h):=by
 unfold ZX;refine congrArg (fun d=>@ob _ _ d (t σ h)) (funext fun p=>?_);obtain⟨c,h⟩:=p;cases c<;>rfl
@[simp]theorem Qnz:Jj m σ h=@om _ _ (fun p=>.nx σ p.2) (m σ h):=id rfl
@[simp 500]theorem Qo3:QW i m σ h=@om _ _ (fun p=>.nx (σ.set i (some p.1)) p.2) (m σ h):=id rfl
@[simp]theorem QoK:QfT i f m σ h=@ob _ _ (fun x=>@ob _ _ (fun p=>@om _ _ (fun q=>.nx (σ.set i (some q.1)) q.2) (f x.1 p.1 p.2)) (m σ h)) (Qb i σ h):=by
 unfold QfT Qb
 rcases σ[i]? with _|_|x<;>rfl
@[simp 1100]theorem Qoo{v0 x:Option W}{r:MSt}:List.set (v0::r) 0 x=x::r:=id rfl
@[simp 1100]theorem Qo6{v0 v1 x:Option W}{r:MSt}:List.set (v0::v1::r) 1 x=v0::x::r:=id rfl
@[simp 1100]theorem Qod{v0 v1 c x:Option W}{r:MSt}:List.set (v0::v1::c::r) 2 x=v0::v1::x::r:=id rfl
@[simp 1100]theorem Qn7{v0 v1 c d x:Option W}{r:MSt}:List.set (v0::v1::c::d::r) 3 x=v0::v1::c::x::r:=id rfl
@[simp 1100]theorem QoR{v0 v1 d c v4 x:Option W}{r:MSt}:List.set (v0::v1::d::c::v4::r) 4 x=v0::v1::d::c::x::r:=id rfl
@[simp 1100]theorem Qn2{v0 v1 d c v4 e x:Option W}{r:MSt}:List.set (v0::v1::d::c::v4::e::r) 5 x=v0::v1::d::c::v4::x::r:=id rfl
@[simp 1100]theorem QoX{v0 v1 e d v4 c v6 x:Option W}{r:MSt}:List.set (v0::v1::e::d::v4::c::v6::r) 6 x=v0::v1::e::d::v4::c::x::r:=id rfl
@[simp 1100]theorem Qow{v0 v1 e d v4 c v6 f x:Option W}{r:MSt}:List.set (v0::v1::e::d::v4::c::v6::f::r) 7 x=v0::v1::e::d::v4::c::v6::x::r:=id rfl
@[simp 1100]theorem Qpa{v0 v1 f e v4 d v6 c g x:Option W}{r:MSt}:List.set (v0::v1::f::e::v4::d::v6::c::g::r) 8 x=v0::v1::f::e::v4::d::v6::c::x::r:=id rfl
@[simp 1100]theorem QoQ{v0 v1 g f v4 e v6 d c i x:Option W}{r:MSt}:List.set (v0::v1::g::f::v4::e::v6::d::c::i::r) 9 x=v0::v1::g::f::v4::e::v6::d::c::x::r:=id rfl
@[simp]theorem Qku:Qb 0 (some o::r) h=some (o,h):=id rfl
@[simp]theorem Qnt:Qb 1 (v0::some o::r) h=some (o,h):=id rfl
@[simp]theorem Qnr:Qb 2 (v0::v1::some o::r) h=some (o,h):=id rfl
@[simp]theorem QmG:Qb 3 (v0::v1::c::some o::r) h=some (o,h):=id rfl
@[simp]theorem QmR:Qb 4 (v0::v1::d::c::some o::r) h=some (o,h):=id rfl
@[simp]theorem QmD:Qb 5 (v0::v1::d::c::v4::some o::r) h=some (o,h):=id rfl
@[simp]theorem QmE:Qb 6 (v0::v1::e::d::v4::c::some o::r) h=some (o,h):=id rfl
@[simp]theorem QmU:Qb 7 (v0::v1::e::d::v4::c::v6::some o::r) h=some (o,h):=id rfl
@[simp]theorem Qnj:Qb 8 (v0::v1::f::e::v4::d::v6::c::some o::r) h=some (o,h):=id rfl
@[simp]theorem QmI:Qb 9 (v0::v1::g::f::v4::e::v6::d::c::some o::r) h=some (o,h):=id rfl
@[simp 400]theorem Qm6:Qb (i+1) (o::r) h=Qb i r h:=by
 unfold Qb;rw[IJ]
@[simp]theorem s_c:mC w σ h=some (w,h):=id rfl
@[simp 500]theorem QlG:Qc f ma mb σ h=@ob _ _ (fun p=>@ob _ _ (fun q=>f p.1 q.1 q.2) (mb σ p.2)) (ma σ h):=id rfl
@[simp]theorem Qpr:mUn f ma σ h=@ob _ _ (fun p=>f p.1 p.2) (ma σ h):=id rfl
@[simp]theorem QoH:mFn f ms σ h=@ob _ _ (fun p=>f p.1 p.2) (ms σ h):=id rfl
@[simp]theorem Qnn:Qi n g ms σ h=@ob _ _ (fun p=>if p.1.length=n then g p.1 p.2 else none) (ms σ h):=id rfl
@[simp]theorem QlV:Qd σ h=some ([],h):=id rfl
@[simp 600]theorem Qnx:Qc f ma (mC w) σ h=@ob _ _ (fun p=>f p.1 w p.2) (ma σ h):=id rfl
@[simp 600]theorem Qlw:Qa (mC w) ms σ h=@ob _ _ (fun q=>some (w::q.1,q.2)) (ms σ h):=id rfl
@[simp 610]theorem QlF:Qa m Qd σ h=@ob _ _ (fun p=>some ([p.1],p.2)) (m σ h):=id rfl
@[simp 620]theorem Qle:Qa (mC w) Qd σ h=some ([w],h):=id rfl
@[simp 600]theorem Qm4:QW i (mC w) σ h=some (.nx (σ.set i (some w)) h):=id rfl
@[simp 500]theorem Qkj:Qa m ms σ h=@ob _ _ (fun p=>@ob _ _ (fun q=>some (p.1::q.1,q.2)) (ms σ p.2)) (m σ h):=id rfl
noncomputable def asB(p:W×MH):Option (Bool×MH):=match p.1 with|.bl b=>some (b,p.2)|_=>none
@[simp]theorem Qnw(c:Bool):asB (.bl c,h)=some (c,h):=id rfl
@[simp 500]theorem QmF:Qg m σ h=@ob _ _ asB (m σ h):=id rfl
@[simp]theorem QnC:VC t σ h=@om _ _ (fun p=>(!p.1,p.2)) (t σ h):=by
 unfold VC
 first|rfl|(cases t σ h<;>rfl)
noncomputable def QjD(u:MT)(σ:MSt)(p:Bool×MH):Option (Bool×MH):=if p.1=true then u σ p.2 else some (false,p.2)
noncomputable def Qm0(u:MT)(σ:MSt)(p:Bool×MH):Option (Bool×MH):=if p.1=true then some (true,p.2)else u σ p.2
@[simp]theorem Qj3(c:Bool):QjD u σ (c,h)=if c=true then u σ h else some (false,h):=id rfl
@[simp]theorem Qlc(c:Bool):Qm0 u σ (c,h)=if c=true then some (true,h)else u σ h:=id rfl
@[simp 500]theorem QnG:Kh t u σ h=@ob _ _ (QjD u σ) (t σ h):=by
 unfold Kh;refine congrArg (fun d=>@ob _ _ d (t σ h)) (funext fun p=>?_);obtain⟨c,h⟩:=p;cases c<;>rfl
@[simp 500]theorem Qob:UT t u σ h=@ob _ _ (Qm0 u σ) (t σ h):=by
 unfold UT;refine congrArg (fun d=>@ob _ _ d (t σ h)) (funext fun p=>?_);obtain⟨c,h⟩:=p;cases c<;>rfl
noncomputable def Qnl(ma mb:ME)(σ:MSt)(p:Bool×MH):Option (W×MH):=if p.1=true then ma σ p.2 else mb σ p.2
@[simp]theorem Qk3(c:Bool):Qnl ma mb σ (c,h)=if c=true then ma σ h else mb σ h:=id rfl
@[simp]theorem Qpq:mIf t ma mb σ h=@ob _ _ (Qnl ma mb σ) (t σ h):=by
 unfold mIf;refine congrArg (fun d=>@ob _ _ d (t σ h)) (funext fun p=>?_);obtain⟨c,h⟩:=p;cases c<;>rfl
@[simp]theorem Qn0:Y9 m σ h=@ob _ _ (fun p=>@om _ _ (fun b=>(b,p.2)) (Qf2 p.2 p.1)) (m σ h):=by
 unfold Y9;rfl
@[simp]theorem Qpg:mMt T f m ms σ h=@ob _ _ (fun p=>if tyW p.2 T p.1=true then@ob _ _ (fun q=>f p.1 q.1 q.2) (ms σ p.2)else none) (m σ h):=id rfl
end
section
variable{h:MH}{i j:Int}{x y:Str}{ws us:List W}{w:W}
@[simp]theorem QnM:Q1 (.int i) (.int j) h=some (.int (i+j),h):=id rfl
@[simp]theorem Qoj:Qin (.int i) (.int j) h=some (.int (i-j),h):=id rfl
@[simp]theorem Qpm:wLt (.int i) (.int j) h=some (.bl (decide (i<j)),h):=id rfl
@[simp]theorem Qpn:wLe (.int i) (.int j) h=some (.bl (decide (i<=j)),h):=id rfl
@[simp]theorem Qpf:wGt (.int i) (.int j) h=some (.bl (decide (j<i)),h):=id rfl
@[simp]theorem QnS:G4 (.int i) h=some (.int (-i),h):=id rfl
@[simp]theorem Qm9:GS (.int i) (.int j) h=some (.int (i+j),h):=id rfl
@[simp]theorem Qov(c:0<j):Js (.int i) (.int j) h=some (.int (i%j),h):=Qhl c
@[simp]theorem QoL(c:0<j)(a:j<1073741824):Vt (.int i) (.int j) h=some (.int (i/j),h):=Qiw ⟨c,a⟩
@[simp]theorem QnA(c:-18446744073709551616<j)(a:j<18446744073709551616):ZU (.int i) (.int j) h=some (.int (i*j),h):=QdG (.inr ⟨c,a⟩)
@[simp]theorem Qnp(c:-18446744073709551616<i)(a:i<18446744073709551616):ZU (.int i) (.int j) h=some (.int (i*j),h):=QdG (.inl ⟨c,a⟩)
theorem Qj4(c:j<1000/\-1000<j/\x.length<1000):ZU (.str x) (.int j) h=some (.str (rep x j),h):=if_pos c
@[simp]theorem QnO:QgM [.int i,.int j] h=some (.int (if j>i then j else i),h):=id rfl
@[simp]theorem Qon:QiA [.int i,.int j] h=some (.int (if j<i then j else i),h):=id rfl
@[simp]theorem QoI:Jp ws h=if ws.length<=sizeLine then some (.tup ws,h)else none:=id rfl
@[simp]theorem Qo4:X4 ws h=if ws.length<=sizeLine then some (.lst ws,h)else none:=id rfl
@[simp]theorem QoS:Ud ws h=if ws.length<=sizeLine then some (.ref h.length,h++[.lst ws])else none:=id rfl
@[simp]theorem QoV:wIx (.tup ws) (.int i) h=@om _ _ (fun w=>(w,h)) (atI ws i):=id rfl
@[simp]theorem Qn1:wIx (.lst ws) (.int i) h=@om _ _ (fun w=>(w,h)) (atI ws i):=id rfl
@[simp]theorem QnV:wIx (.frz ws) (.int i) h=@om _ _ (fun w=>(w,h)) (atI ws i):=id rfl
@[simp]theorem QoZ:wIx (.ref n) (.int i) h=@ob _ _ (fun(ws:List W)=>@om _ _ (fun w=>(w,h)) (atI ws i)) (match h[n]? with|some (.lst ws)=>some ws|_=>none):=id rfl
@[simp]theorem QnI:JU [.tup ws] h=some (.int ws.length,h):=id rfl
@[simp]theorem Qna:JU [.lst ws] h=some (.int ws.length,h):=id rfl
@[simp]theorem QnD:JU [.frz ws] h=some (.int ws.length,h):=id rfl
@[simp]theorem Qnb:JU [.ref n] h=@om _ _ (fun(ws:List W)=>(.int ws.length,h)) (match h[n]? with|some (.lst ws)=>some ws|_=>none):=id rfl
@[simp]theorem Qnm:JU [.str x] h=if x.length<=sizeLine then some (.int x.length,h)else none:=id rfl
theorem Zb{xs:List a}{n:Nat}:atI xs (n:Int)=xs[n]?:=by
 cases e:xs[n]? with
 |some x=>exact QdI e
 |none=>
  unfold atI ixN;have:xs.length<=n:=Iv.mp e;rw[if_pos (by lia)];rw[if_neg (by lia)];rfl
@[simp]theorem Qpd:atI xs 0=xs[0]?:=Zb (n:=0)
@[simp]theorem Qpb:atI xs 1=xs[1]?:=Zb (n:=1)
@[simp]theorem QnJ{a:Type}{xs:List a}{y:a}:atI (xs++[y]) (-1)=some y:=Qej xs y
@[simp]theorem Qnk:ixN (n+1) (-1)=some n:=by unfold ixN;rw[if_neg (by decide),if_pos (by lia)];congr 1;lia
noncomputable def Qju(o i v:W)(σ:MSt)(h:MH):Option MF:=match o,i with
 |.ref n,.int k=>match h[n]? with
  |some (.lst a)=>@om _ _ (fun j=>.nx σ (h.set n (.lst (a.set j v)))) (ixN a.length k)
  |_=>none
 |_,_=>none
@[simp]theorem Qos:QiF mo mi a σ h=@ob _ _ (fun v=>@ob _ _ (fun o=>@ob _ _ (fun i=>Qju o.1 i.1 v.1 σ i.2) (mi σ o.2)) (mo σ v.2)) (a σ h):=id rfl
@[simp]theorem Ql9:Qju (.ref n) (.int i) v σ h=match h[n]? with
  |some (.lst xs)=>@om _ _ (fun j=>.nx σ (h.set n (.lst (xs.set j v)))) (ixN xs.length i)
  |_=>none:=id rfl
@[simp]theorem QmZ{w:W}:QiB (some (.rt w h))=some (w,h):=id rfl
@[simp]theorem Qla{n:Nat}{w:W}:QU (.ref n) [w] h=match h[n]? with|some (.lst xs)=>if xs.length<sizeLine then some (.non,h.set n (.lst (xs++[w])))else none|_=>none:=id rfl
@[simp]theorem Qk6{n:Nat}{w:W}:Yd (.ref n) [w] h=match h[n]? with|some (.lst xs)=>@ob _ _ (fun ys=>if xs.length+ys.length<=sizeLine then some (.non,h.set n (.lst (xs++ys)))else none) (loW h w)|_=>none:=id rfl
@[simp]theorem Qn4:loW h (.lst ws)=some ws:=id rfl
@[simp]theorem Qn8:QiP (.ref n) [] h=match h[n]? with|some (.lst xs)=>@om _ _ (fun w=>(w,h.set n (.lst xs.dropLast))) (xs[xs.length-1]?)|_=>none:=id rfl
@[simp]theorem QnW:tyW h T (.ref n)=match h[n]? with|some (.lst _)=>T=="list"|some (.dic _)=>T=="dict"|some (.dct _)=>T=="dict"|_=>false:=id rfl
@[simp]theorem Qoz:tyW h T (.str x)=(T=="str"):=id rfl
@[simp]theorem Qny:Qf2 h (.ref n)=match h[n]? with|some (.lst ws)=>some (!ws.isEmpty)|some (.dic kvs)=>some (!kvs.isEmpty)|_=>none:=id rfl
@[simp]theorem QmW:Qf2 h (.bl b)=some b:=id rfl
@[simp]theorem QkT:ZZ [.lst ws] h=some (.tup ws,h):=id rfl
@[simp]theorem Qk4:ZZ [.ref n] h=@om _ _ (fun(ws:List W)=>(.tup ws,h)) (match h[n]? with|some (.lst ws)=>some ws|_=>none):=id rfl
@[simp]theorem Qpi:mSl c a b σ h=@ob _ _ (fun p=>@ob _ _ (fun q=>@ob _ _ (fun r=>wSl p.1 q.1 r.1 r.2) (b σ q.2)) (a σ p.2)) (c σ h):=id rfl
@[simp]theorem Qpc:VG σ h=some (none,h):=id rfl
noncomputable def asI(p:W×MH):Option (Option Int×MH):=match p.1 with|.int i=>some (some i,p.2)|_=>none
@[simp]theorem QlW:asI (.int i,h)=some (some i,h):=id rfl
@[simp]theorem Qpj:VB m σ h=@ob _ _ asI (m σ h):=id rfl
@[simp]theorem Qn3{lo a:Option Int}:wSl (.tup ws) lo a h=some (.tup (Uu ws lo a),h):=id rfl
@[simp]theorem Qoc{lo a:Option Int}:wSl (.lst ws) lo a h=some (.lst (Uu ws lo a),h):=id rfl
@[simp]theorem Qo7{lo a:Option Int}:wSl (.ref n) lo a h=@om _ _ (fun(ws:List W)=>(.lst (Uu ws lo a),h)) (match h[n]? with|some (.lst ws)=>some ws|_=>none):=id rfl
@[simp]theorem Qgj:Q1 (.tup ws) (.tup us) h=if ws.length+us.length<=sizeLine then some (.tup (ws++us),h)else none:=id rfl
@[simp]theorem QdF:Q1 (.str x) (.str y) h=if x.length+y.length<=sizeLine then some (.str (x++y),h)else none:=id rfl
@[simp]theorem QnY:wIs a .non h=some (.bl (YZ a),h):=id rfl
@[simp]theorem Qlf:YZ .non=true:=id rfl
@[simp]theorem QkU:YZ (.str x)=false:=id rfl
@[simp]theorem QnP:Gf [a,.ty T] h=if Y5 T=true then@om _ _ (fun k=>(.bl (JJ k T),h)) (QcE h a)else none:=id rfl
@[simp]theorem Qor:QcE h (.str x)=some "str":=id rfl
@[simp]theorem QnT:QcE h (.tup ws)=some "tuple":=id rfl
@[simp]theorem Qpo:Y5 "str"=true:=by decide
@[simp]theorem Qpp:Y5 "tuple"=true:=by decide
end
mutual
noncomputable def pln:W->Bool
 |.tup ws=>W5 ws
 |.lst ws=>W5 ws
 |.frz _=>false
 |.ref _=>false
 |.ty _=>false
 |_=>true
noncomputable def W5:List W->Bool
 |[]=>true
 |w::ws=>pln w&&W5 ws
end
mutual
noncomputable def dep:W->Nat
 |.tup ws=>UC ws+1
 |.lst ws=>UC ws+1
 |_=>1
noncomputable def UC:List W->Nat
 |[]=>0
 |w::ws=>max (dep w) (UC ws)
end
mutual
theorem Xn(h:MH):∀(w:W) (n:Nat),pln w=true->dep w<=n->drf h n w=some w
 |.non,n+1,_,_=>rfl
 |.bl _,n+1,_,_=>rfl
 |.int _,n+1,_,_=>rfl
 |.str _,n+1,_,_=>rfl
 |.tup ws,n+1,p,d=>by
  unfold pln at p;unfold dep at d;show(Jg (drf h n) ws).map W.tup=_;rw[VD h ws n p (by lia)];rfl
 |.lst ws,n+1,p,d=>by
  unfold pln at p;unfold dep at d;show(Jg (drf h n) ws).map W.lst=_;rw[VD h ws n p (by omega)];rfl
 |.frz _,_,p,_=>by unfold pln at p;cases p
 |.ref _,_,p,_=>by unfold pln at p;cases p
 |.ty _,_,p,_=>by unfold pln at p;cases p
 |.non,0,_,d=>by unfold dep at d;lia
 |.bl _,0,_,d=>by unfold dep at d;omega
 |.int _,0,_,d=>by unfold dep at d;omega
 |.str _,0,_,d=>by unfold dep at d;omega
 |.tup _,0,_,d=>by unfold dep at d;lia
 |.lst _,0,_,d=>by unfold dep at d;omega
theorem VD(h:MH):∀(ws:List W) (n:Nat),W5 ws=true->UC ws<=n->Jg (drf h n) ws=some ws
 |[],_,_,_=>rfl
 |w::ws,n,p,d=>by
  unfold W5 at p;unfold UC at d;rw[NJ]at p;rw[Jg,Xn h w n p.1 (Nr (Nat.le_max_left _ _) d),Nk,VD h ws n p.2 (Nr (Nat.le_max_right _ _) d)];rfl
end
mutual
theorem W8:∀(w:W),pln w=true->eqW w w=true
 |.non,_=>by unfold eqW;rfl
 |.bl _,_=>by unfold eqW;simp
 |.int _,_=>by unfold eqW;simp
 |.str _,_=>by unfold eqW;simp
 |.tup ws,p=>by unfold pln at p;unfold eqW;exact Ya ws p
 |.lst ws,p=>by unfold pln at p;unfold eqW;exact Ya ws p
 |.frz _,p=>by unfold pln at p;cases p
 |.ref _,p=>by unfold pln at p;cases p
 |.ty _,p=>by unfold pln at p;cases p
theorem Ya:∀(ws:List W),W5 ws=true->Kr ws ws=true
 |[],_=>by unfold Kr;rfl
 |w::ws,p=>by
  unfold W5 at p;rw[NJ]at p;unfold Kr;rw[W8 w p.1,Ya ws p.2];rfl
end
theorem Ql0(d:pln a=true)(c:pln b=true)(f:dep a<=40)(e:dep b<=40):wEq a b h=some (.bl (eqW a b),h):=by
 unfold wEq;rw[Xn h a 40 d f,Xn h b 40 c e];rfl
theorem QmY(d:pln a=true)(c:pln b=true)(f:dep a<=40)(e:dep b<=40):wNe a b h=some (.bl (!eqW a b),h):=by
 unfold wNe;rw[Xn h a 40 d f,Xn h b 40 c e];rfl
@[simp]theorem Qli:wEq (.int i) (.int j) h=some (.bl (i==j),h):=Qgw i j h
@[simp]theorem Qlj:wEq (.str x) (.str y) h=some (.bl (x==y),h):=QgC x y h
@[simp]theorem QnZ:wNe (.int i) (.int j) h=some (.bl (!(i==j)),h):=Qio i j h
@[simp]theorem QoN:wNe (.str x) (.str y) h=some (.bl (!(x==y)),h):=by unfold wNe;simp[drf,eqW]
mutual
theorem WR:∀(w:W),pln w=true->pur w=true
 |.non,_=>rfl
 |.bl _,_=>rfl
 |.int _,_=>rfl
 |.str _,_=>rfl
 |.tup ws,p=>by unfold pln at p;unfold pur;exact Vw ws p
 |.lst ws,p=>by unfold pln at p;unfold pur;exact Vw ws p
 |.frz _,p=>by unfold pln at p;cases p
 |.ref _,p=>by unfold pln at p;cases p
 |.ty _,p=>by unfold pln at p;cases p
theorem Vw:∀(ws:List W),W5 ws=true->Z4 ws=true
 |[],_=>rfl
 |w::ws,p=>by
  unfold W5 at p;rw[NJ]at p;unfold Z4;rw[WR w p.1,Vw ws p.2];rfl
end
mutual
theorem Qdp(f:Nat->Option W):∀(w:W),pur w=true->th f w=some w
 |.non,_=>rfl
 |.bl _,_=>rfl
 |.int _,_=>rfl
 |.str _,_=>rfl
 |.ty _,_=>rfl
 |.tup ws,p=>by unfold pur at p;unfold th;rw[VV f ws p];rfl
 |.lst ws,p=>by unfold pur at p;unfold th;rw[VV f ws p];rfl
 |.frz ws,p=>by unfold pur at p;unfold th;rw[VV f ws p];rfl
 |.ref _,p=>by unfold pur at p;cases p
theorem VV(f:Nat->Option W):∀(ws:List W),Z4 ws=true->ths f ws=some ws
 |[],_=>rfl
 |w::ws,p=>by
  unfold Z4 at p;rw[NJ]at p;unfold ths;rw[Qdp f w p.1,VV f ws p.2];rfl
end
theorem Qh(b:Z4 ws=true)(e:m ws []=some (w,g))(hw:pur w=true):box frN m ws h=some (w,h):=by
 have hr:KR 0 ws=some (ws,[]):=by
  generalize 0=k;clear e
  induction ws with
  |nil=>rfl
  |cons a r c=>
   unfold Z4 at b;rw[NJ]at b;have:=c b.2;cases a<;>first|(unfold pur at b;cases b.1;done)|(unfold KR;rw[if_pos b.1,this];rfl)
 unfold box;rw[hr,Nk];unfold QiD;rw[if_pos Db];simp only[Jg,Nk,e,frN,FJ,ON];rw[if_pos ⟨Db,by simp⟩,Qdp _ w hw];simp[QX]
theorem K1(b:Z4 ws=true)(e:m ws []=some (.ref j,g))(d:g[j]?=some (.lst us))(hu:Z4 us=true):box frN m ws h=some (.lst us,h):=by
 have hr:KR 0 ws=some (ws,[]):=by
  generalize 0=k;clear e
  induction ws with
  |nil=>rfl
  |cons a r c=>
   unfold Z4 at b;rw[NJ]at b;have:=c b.2;cases a<;>first|(unfold pur at b;cases b.1;done)|(unfold KR;rw[if_pos b.1,this];rfl)
 unfold box;rw[hr,Nk];unfold QiD;rw[if_pos Db];simp only[Jg,Nk,e,frN,FJ,ON];rw[if_pos ⟨Db,by simp⟩]
 have:th (res (W4 [] [] h.length) g 3) (.ref j)=some (.lst us):=by
  unfold th res;simp only[W4,Og,Oh,OO,d];rw[VV _ us hu];rfl
 rw[this];simp[QX]
theorem Qe3(b:Z4 ws=true)(t:h[n]?=some o)(s:QiE o=true)(e:m (.ref 0::ws) [o]=some (.ref (j+1),o'::g))(u:g[j]?=some (.lst vs))(p:Z4 vs=true)(i:∃us,o'=.lst us/\Z4 us=true):box frN m (.ref n::ws) h=some (.lst vs,h.set n o'):=by
 obtain⟨us,rfl,c⟩:=i
 have hr:∀k,KR k ws=some (ws,[]):=by
  clear e
  induction ws with
  |nil=>intro k;rfl
  |cons a r l=>
   intro k;unfold Z4 at b;rw[NJ]at b;have:=l b.2 k;cases a<;>first|(unfold pur at b;cases b.1;done)|(unfold KR;rw[if_pos b.1,this];rfl)
 unfold box
 have d:KR 0 (.ref n::ws)=some (.ref 0::ws,[n]):=by
  unfold KR;rw[hr];rfl
 rw[d,Nk];unfold QiD;rw[if_pos (by simp)];have f:QhG h n=some o:=by unfold QhG;rw[t];simp[s]
 simp only[Jg,f,Nk,DZ,e,frN,NK];rw[if_pos ⟨Db,by simp⟩]
 have:th (res (W4 [n] [] h.length) (.lst us::g) 3) (.ref (j+1))=some (.lst vs):=by
  unfold th res;simp only[W4,IJ,Og,Oh,OO,u];rw[VV _ vs p];rfl
 rw[this];simp[QX,IS,Jg,thO,VV _ us c]
theorem QbV{os os':List MO}(hr:KR 0 args=some (as,ns))(hd:ns.Nodup)(s:Jg (QhG h) ns=some os)(e:m as os=some (w,os'++g))(t:os'.length=ns.length)
  (c:∀o∈os',∃us,o=.lst us/\Z4 us=true) (hw:th (res (W4 ns [] h.length) (os'++g) 3) w=some w'):box frN m args h=some (w',QX ns os' h):=by
 unfold box;rw[hr,Nk];unfold QiD;rw[if_pos hd,s];simp only[Nk,e];rw[if_pos (show(frN w).Nodup/\∀j∈frN w,ns.length<=j from⟨Db,fun j u=>by simp[frN]at u⟩)];show(th (res (W4 ns [] h.length) (os'++g) 3) w).bind _=_;rw[hw,Nk];show(Jg (fun j=>((os'++g)[j]?).bind (thO (res (W4 ns [] h.length) (os'++g) 3))) (List.range ns.length)).bind (fun os=>(Jg (fun j=>((os'++g)[j]?).bind (thO (res (W4 ns [] h.length) (os'++g) 3))) []).map fun us=>(w',QX ns os h++us))=_
 have:Jg (fun j=>((os'++g)[j]?).bind (thO (res (W4 ns [] h.length) (os'++g) 3))) (List.range ns.length)=some os':=by
  rw[<-t]
  have key:∀(k:Nat) (a:List MO),(∀i o,a[i]?=some o->(os'++g)[k+i]?=some o)->(∀o∈a,∃us,o=.lst us/\Z4 us=true)->Jg (fun j=>((os'++g)[j]?).bind (thO (res (W4 ns [] h.length) (os'++g) 3))) (List.range' k a.length)=some a:=by
   intro k a
   induction a generalizing k with
   |nil=>intro _ _;rfl
   |cons x a n=>
    intro f d;obtain⟨us,hu,r⟩:=d x Nx;rw[NW,OB];unfold Jg;have l:=f 0 x rfl;rw[Nat.add_zero]at l;rw[l,Nk,n (k+1) (fun i o b=>by have:=f (i+1) o (by simpa using b);rw[show k+1+i=k+(i+1) by exact D8 _ _ _];exact this) fun o p=>d o (No _ p),hu];show((ths _ us).map MO.lst).bind _=_;rw[VV _ us r];rfl
  rw[List.range_eq_range'];exact key 0 os' (fun i o b=>by rw[NG,Ei (Ng.mp b).1];exact b) c
 rw[this];simp[Jg]
theorem Jw(f:W->W)(c:mi σ h=some (items,none,h))(a:∃o,QbK cp σ=o::caps)(d:∀w∈items,me (some w::caps) h=some (f w,h))(b:items.length<=sizeLine) :
  QC fin mi cp (Q2 0) V3 me σ h=fin (items.map f) h:=by
 obtain⟨o,a⟩:=a;unfold QC;rw[c,Nk];simp only[a];rw[Xr (p:=fun _=>true) (f:=f) items [] o (fun _ _=>rfl) (fun w hw _=>d w hw) (by simpa using b),LP.mpr (fun _ _=>rfl)];rfl
theorem YI{mt:MT}{me:ME}{h:MH}(f:W->W)(p:W->Bool)(d:mi σ h=some (items,none,h))(a:∃o,QbK cp σ=o::caps)(b:∀w∈items,mt (some w::caps) h=some (p w,h))(e:∀w∈items,p w=true->me (some w::caps) h=some (f w,h))(c:items.length<=sizeLine) :
  QC fin mi cp (Q2 0) mt me σ h=fin ((items.filter p).map f) h:=by
 obtain⟨o,a⟩:=a;unfold QC;rw[d,Nk];simp only[a];rw[Xr (p:=p) (f:=f) items [] o b e (by simpa using c)];simp
theorem Zh(P:Nat->MSt->MH->Prop):∀(r:List W) (n:Nat) (σ:MSt) (h:MH),P n σ h ->
  (∀(j:Nat) (w:W),r[j]?=some w->∀σ h,P (n+j) σ h->∃c,b w σ h=some c/\∃a f,(body c h=some (.nx a f)\/body c h=some (.ct a f))/\P (n+j+1) a f) ->
  ∃d h',X6 items none b body r σ h=some (.nx d h')/\P (n+r.length) d h'
 |[],n,σ,h,e,_=>⟨σ,h,QeN,e⟩
 | w::r,n,σ,h,e,i=>by
  obtain⟨c,s,a,f,g,m⟩:=i 0 w rfl σ h e
  obtain⟨d,h',p,l⟩:=Zh (items:=items) (b:=b) (body:=body) P r (n+1) a f m fun j x o σ h e=>by
   have:=i (j+1) x (by simpa using o) σ h (by rw[show n+(j+1)=n+1+j by lia];exact e);rw[show n+(j+1)+1=n+1+j+1 by exact D8 _ _ _]at this;exact this
  refine⟨d,h',?_,by rw[NW,show n+(r.length+1)=n+1+r.length by lia];exact l⟩;rw[X6,if_pos (Vu _ _),s,Nk]
  rcases g with g|g<;>rw[g]<;>exact p
noncomputable def eqS(y:Str)(p:W×MH):Option (Bool×MH):=@ob _ _ asB (wEq p.1 (.str y) p.2)
noncomputable def eqN(j:Int)(p:W×MH):Option (Bool×MH):=@ob _ _ asB (wEq p.1 (.int j) p.2)
@[simp 650]theorem QmO:Qg (Qc wEq a (mC (.str y))) σ h=@ob _ _ (eqS y) (a σ h):=by
 unfold Qg Qc mC eqS ob;cases a σ h<;>rfl
@[simp 650]theorem Qns:Qg (Qc wEq a (mC (.int j))) σ h=@ob _ _ (eqN j) (a σ h):=by
 unfold Qg Qc mC eqN ob;cases a σ h<;>rfl
@[simp]theorem QlN:eqS y (.str x,h)=some (x==y,h):=by unfold eqS;rw[Qlj];rfl
@[simp]theorem QmA:eqN j (.int i,h)=some (i==j,h):=by unfold eqN;rw[Qli];rfl
end Mi
namespace Mi
open L2
noncomputable def QmS(ws:List W)(h:MH):Option (W×MH):=match ws with
 |[.tup ws]=>some (.ref h.length,h++[.lst ws])
 |[a]=>(lsW h a).map fun ws=>(.ref h.length,h++[.lst ws])
 |_=>none
noncomputable def Qo8(a:W)(ws:List W)(h:MH):Option (W×MH):=match a,ws with
 |.ref n,[.int 0]=>match h[n]? with|some (.lst (x::b))=>some (x,h.set n (.lst b))|_=>none
 |_,_=>none
theorem QcY{st:List Stmt}:Qd8 X st fun _ _=>none:=fun a s c H D I q=>by
 obtain⟨R,b,h,r,d,st,e,k⟩:=q;cases e
section
open PySem.AutoSeq1
theorem Qa8(l:Addr)(c:Array Value)(n:Nat)(b:Addr)(a:Array Value)(t:Nat)(e:Obj)(v:e.cls=.type "tuple")(hd:e.data=.seq a t)(u:¬(!c.isEmpty&&Builtin.List.listTooLong (c.size+a.size))=true)(j:c.size<=sizeLine)(i:c.size+a.size<=sizeLine+1) :
  Meets (Builtin.«list.extend» ⟨[.ref l,.ref b],[]⟩) (fun _ R s=>s.heap.get? l=some { cls:=.type "list",dict:=none,data:=.seq c n,slots:=#[] }/\s.heap.get? b=some e /\
   R (.ok (.ret Value.none)) { s with heap:=s.heap.update l (Obj.mapSeq fun x=>x++a),toks:=s.toks }):=
 .of_wp fun m w A R s h=>by
  obtain⟨I,H,z,r⟩:=e;subst v hd;obtain⟨D,g,d,B,os⟩:=s;obtain⟨o,y,h⟩:=h;have f1:=idx_int;have f2:=AutoSeq1.sub_tuple_tuple;have G:=AutoSeq1.sub_list_list;have F:=AutoSeq1.sub_tuple_list;have E:=AutoSeq1.sub_list_tuple;have f:(c++a).size<=sizeLine+1:=by rw[Array.size_append];exact i
  wp_walk using(IT o rfl (hz:=j) (_hz':=f)),EX o,EX y
  exact⟨_,rfl,h⟩
end
section
variable{X:Cx}
theorem Qbt:MtM X "list.extend" (fun x vs H Q=>∃l b xs zs,x=.ref l/\vs=[.ref b]/\H l=some (.lst xs)/\SqT X.K H b zs/\xs.length+zs.length<=sizeLine/\Q .non (upd H l (.lst (xs++zs)))):=by
 intro i s J H x vs v L Q I p t h;obtain⟨l,b,xs,zs,rfl,rfl,o,F,B,q⟩:=h;cases p;obtain⟨u,rfl,w⟩:=t.one;cases w;obtain⟨z,c,n,r,D,e⟩:=I.lstM o;obtain⟨a,g,⟨y,G,E,A,hd⟩,C⟩:=I.tuple F;have m:=g.length;have f:c.toArray.size+a.toArray.size<=sizeLine:=by rw[Nj,Nj];lia
 have d:¬(!c.toArray.isEmpty&&Builtin.List.listTooLong (c.toArray.size+a.toArray.size))=true:=by
  rw[Qao f,E9];exact Ea
 refine Dd Dh ⟨_,e,rfl⟩ LO (Ly _ _)
  (Qa8 l c.toArray n b a.toArray A y E hd d (by rw[Nj];exact Nr (NA D.symm) z) (Nr f (N4 _ _))) ⟨e,G,?_⟩
 refine⟨.non,_,I.lset (its':=c++a) o e (by simp) (r.append g) ?_,rfl,q⟩;rw[Np];exact B
noncomputable def K3(a:W)(ws:List W)(h:MH):Option (W×MH):=match a,ws with
 |.ref n,[.tup b]=>match h[n]? with|some (.lst c)=>if c.length+b.length<=sizeLine then some (.non,h.set n (.lst (c++b)))else none|_=>none
 |_,_=>none
theorem Gh:Qd9 X "list.extend" K3:=by
 intro b s j H x o v p Q I t u q;refine Qbt b s j H x o v p Q I t u ?_;obtain⟨R,h,a,J,w,L,d,z,c,e,k⟩:=q;unfold K3 at e;split at e
 ·rename_i n F;split at e
  ·rename_i G A;split at e
   ·rename_i B;cases e;obtain⟨f,rfl,m,D,i⟩:=d.refAt z A;obtain⟨y,rfl,r⟩:=Yk c;obtain⟨E,l,rfl,C,g⟩:=d.tupAt r;refine⟨_,E,m,l,rfl,rfl,D,C,by rw[<-i.length,<-g.length];exact B,?_⟩;exact k R _ _ (Ext.refl _) (d.put f ⟨_,rfl,Rws.append i g⟩) Rw.non
   ·cases e
  ·cases e
 ·cases e
@[simp]theorem QkG:K3 (.ref n) [.tup ys] h=match h[n]? with|some (.lst xs)=>if xs.length+ys.length<=sizeLine then some (.non,h.set n (.lst (xs++ys)))else none|_=>none:=id rfl
end
end Mi
namespace L2
section
variable{X:Cx}{pins:List (Addr×Obj)}{σ:St}{H:Hp}{s:Shared}{h':Heap}{t':Nat}{ch:List Addr}
theorem Inv.turnedL(I:Inv X pins σ H s)(k:∀b o,b∉ch->s.heap.get? b=some o->h'.get? b=some o)(f:∀b∈ch,QbN X pins H b)(d:∀b u,H b=some u->i b=some u)(x:∀b o,s.heap.get? b=some o->H b=none->i b=none)
  (new:∀b u,H b=none->i b=some u->ObjOk X.prog X.w i h' b u):Inv X pins σ i { s with heap:=h',toks:=t' }:=by
 have g:∀b u,H b=some u->b∉ch:=fun b u e z=>by rw[(f b z).1]at e;cases e
 refine I.step (g':=s.gens) (d':=s.drawn) (ch:=ch) (fun b h=>⟨(f b h).2.2.2.1,(f b h).2.1,(f b h).2.2.2.2.1,(f b h).2.2.2.2.2⟩) (fun b o _ _ a e _=>k b o a e) (fun b o _ _ a e _=>⟨o.slots,k b o a e⟩) (fun b o _ e n=>x b o e n)
  (fun b o a e=>⟨o,k b o a e⟩) (fun b j e=>d b _ e) (fun b o u e=>d b _ e) (fun b ps e=>⟨#[],by rw[d b _ e];simp⟩) (fun m y=>?_) (fun b u e=>?_) I.bare
 ·obtain⟨o,A,B,t,r⟩:=y;exact⟨o,A,B,k _ o (fun z=>(f _ z).2.1 rfl) t,r⟩
 ·cases q:H b with
  |none=>exact new b u q e
  |some l=>
   rw[d b l q]at e;cases e;refine(I.hok b _ q).stay (fun c v a p=>k c v ?_ p) (fun c z=>d c _ z) fun c j z=>d c _ z
   rcases a with z|z
   ·rw[z];exact g b _ q
   ·exact g c _ z
theorem Inv.turnedN(I:Inv X pins σ H s)(k:∀b o,b∉ch->s.heap.get? b=some o->h'.get? b=some o)(d:∀b∈ch,QbN X pins H b)(a:s.heap.objs.size<=T)(new:ObjOk X.prog X.w (upd H T (.tup xs)) h' T (.tup xs)) :
  Inv X pins σ (upd H T (.tup xs)) { s with heap:=h',toks:=t' }:=by
 have c:=I.hok.fresh a;refine I.turnedL k d (fun b u e=>by rw[Qr (JE e c)];exact e) (fun b o e n=>by rw[Qr (fun z=>by rw[z]at e;exact absurd (Nv e) (Ec.mpr a))];exact n) fun b u n e=>?_
 by_cases z:b=T
 ·subst z;rw[Ju]at e;cases e;exact new
 ·rw[Qr z,n]at e;cases e
end
noncomputable def Itv(K:Nd)(a:Addr)(n:Nat):It:=⟨fun i H=>i<n/\∃b,SqL K H a b/\b.length=n,fun i H x c=>c=H/\∀b,SqL K H a b->b[n-1-i]?=some x,fun i _=>n<=i⟩
theorem QeH{K:Nd}(a it:Addr)(n:Nat):Turn P w K tg (Itv K a n) [it] it (fun i h=>i<=n/\h.IsRevIter it a ((n:Int)-1-(i:Int))) where
 mem:=by simp
 obj:=fun i h st b j=>by
  have e:b=it:=by simpa using j
  subst e;obtain⟨_,o,e,c,d⟩:=st;exact⟨o,e,fun v z=>by rw[d]at z;cases z⟩
 keep:=fun i h m st k=>⟨st.1,st.2.at fun o e=>k it (by simp) o e⟩
 item:=by
  intro X t hw y M i f s F H E I l st r;subst t hw y;obtain⟨Y,G,L,hl⟩:=r;obtain⟨S,Q,p,hz⟩:=I.list L;obtain⟨x,J⟩:∃x,G[n-1-i]?=some x:=⟨G[n-1-i]'(by omega),Ni _⟩
  obtain⟨u,hu,R⟩:=Q.get J;obtain⟨D,f1,f2,C,B,A⟩:=l it (by simp);have e:(n:Int)-1-(i:Int)=((n-1-i:Nat):Int):=by omega
  have hit:=st.2;rw[e]at hit;refine wpAny_pyNext_rev_item hit p.isList (x:=u) (by simpa using hu) fun m g O=>?_;have e2:((n-1-i:Nat):Int)-1=(n:Int)-1-((i+1:Nat):Int):=by lia
  rw[e2]at g;have I1:Inv X f F H { s with heap:=m }:=I.turned (t':=s.toks) (fun b o j e=>(O.2 b j).trans e) D f1 C B A;obtain⟨o,e,c,d⟩:=id g;exact⟨u,rfl,QbA (s:={ s with heap:=m }) e c d (by decide) ⟨x,H,I1,R,⟨rfl,fun ys T=>by rw[I.list_inj T L];exact J⟩,⟨Y,g⟩,fun b j=>(l b j).1⟩⟩
 done:=by
  intro X t hw y M i f s F H E I l st r;subst t hw y;obtain⟨D,f1,f2,C,B,A⟩:=l it (by simp);have U:n<=i:=r;have e:(n:Int)-1-(i:Int)=-1:=by have:=st.1;lia
  have hit:=st.2;rw[e]at hit;exact wpAny_pyNext_rev_end (I.ok.hd M) hit fun m Z=>⟨rfl,I.turned (t':=s.toks) (fun b o j e=>Z b o j e) D f1 C B A⟩
 self:=fun _ _ _ _ _ st h=>LA st.2 h
noncomputable def Qot(K:Nd)(f:TA):TI:=fun d H R=>f d H fun e c=>∃a b,e=[.ref a]/\SqL K c a b/\R (Itv K a b.length) c
theorem Qjh{n a:Expr}(D:Gl X "reversed")(B:X.mg "reversed"=none)(F:PA X [a] r)(z:starEach [a] X.env=[(false,eval a X.env)]:=by rfl):PI X n (.Call (.Name "reversed" p) [a] [] pos) (Qot X.K r):=by
 intro c s j H R I h;refine OJ (J1 I D B boot_reversed (N0 (thn (F pos c s j H _ I h) fun L f m=>?_) z rfl));obtain⟨J,G,I1,w,x⟩:=m;obtain⟨ad,g,e,A,q⟩:=x;subst e;obtain⟨u,rfl,v⟩:=XW w;cases v;obtain⟨d,t,y,N⟩:=I1.list A;have C:=t.length;refine call_reversed_list y.isList ?_;refine LA (l:=ad) (i:=(d.toArray.size:Int)-1) ⟨_,Nw _ rfl,rfl,rfl⟩ ?_;refine⟨f.heap.objs.size,[f.heap.objs.size],_,_,G,rfl,I1.kept (t':=f.toks) fun b o e=>Nn _ e,QeH ad _ g.length,⟨N6 _,?_⟩,fun b E=>?_,q⟩
 ·refine⟨_,Nw _ rfl,rfl,?_⟩;have:((d.toArray.size:Nat):Int)-1=(g.length:Int)-1-((0:Nat):Int):=by rw[Nj,C];simp
  rw[<-this];rfl
 ·have e:b=f.heap.objs.size:=by simpa using E
  subst e;exact I1.fpOk (Nt _) (I1.hok.fresh (Nt _))
noncomputable def Itz(K:Nd)(a b:Addr)(n m:Nat):It:=
  ⟨fun i H=>i<min n m/\∃d c,SqL K H a d/\SqL K H b c/\d.length=n/\c.length=m,
   fun i H v e=>∃T x y,v=.ref T/\H T=none/\e=upd H T (.tup [x,y])/\(∀d,SqL K H a d->d[i]?=some x)/\∀c,SqL K H b c->c[i]?=some y,
   fun i H=>min n m<=i/\∃d c,SqL K H a d/\SqL K H b c/\d.length=n/\c.length=m⟩
theorem Qfl{K:Nd}(Y U z TI TO l j:Addr)(n m:Nat)(D:ZipApart z TI TO l j Y U):Turn P w K (.Tuple af kk pos) (Itz K Y U n m) [z,TI,TO,l,j] z
  (fun i h=>i<=min n m/\IsZip h z TI TO .none/\IsPair h TI (.ref l) (.ref j)/\(∃a b,IsPair h TO a b)/\h.IsListIter l Y i/\h.IsListIter j U i) where
 mem:=by simp
 obj:=fun i h st b g=>by
  obtain⟨_,hz,Q,⟨a,c,r⟩,⟨o1,e1,c1,d1⟩,⟨o2,e2,c2,d2⟩⟩:=st;have O:b=z\/b=TI\/b=TO\/b=l\/b=j:=by simpa using g
  rcases O with rfl|rfl|rfl|rfl|rfl
  ·exact⟨_,hz,fun v q=>nomatch q⟩
  ·exact⟨_,Q,fun v q=>nomatch q⟩
  ·exact⟨_,r,fun v q=>nomatch q⟩
  ·exact⟨o1,e1,fun v q=>by rw[d1]at q;cases q⟩
  ·exact⟨o2,e2,fun v q=>by rw[d2]at q;cases q⟩
 keep:=fun i h h' st k=>by
  obtain⟨N,hz,Q,⟨a,c,r⟩,h1,h2⟩:=st;exact⟨N,k z (by simp) _ hz,k TI (by simp) _ Q,⟨a,c,k TO (by simp) _ r⟩,h1.at fun o e=>k l (by simp) o e,h2.at fun o e=>k j (by simp) o e⟩
 item:=by
  intro X hP hw hK hc i S s σ H E I hf st hg;subst hP hw hK;obtain⟨N,xs,ys,J,G,aa,Z⟩:=hg;obtain⟨f,F,p1,ai⟩:=I.list J;obtain⟨d,C,p2,ah⟩:=I.list G;have ao:=F.length;have an:=C.length;obtain⟨_,sz,B,A,s1,s2⟩:=st;have W:=O9 (prog:=X.prog) (w:=X.w) (I.ok.hd hc) z TI TO l j Y U D f.toArray d.toArray;have p:min f.toArray.size d.toArray.size=min n m:=by rw[Nj,Nj];lia
  refine W.item i s _ _ (by rw[p];exact N) ⟨sz,B,A,s1,s2,p1.isList,p2.isList⟩ fun T vals h' tk hP hT ae L hk=>?_;obtain⟨u1,u2,am,al,rfl⟩:=hP;refine⟨.ref T,rfl,W.go af kk pos i T _ _ _ L fun au t ab=>?_⟩;obtain⟨x,hx⟩:∃x,xs[i]?=some x:=⟨xs[i]'(Nl (Nl N (Nat.min_le_left _ _)) (NA aa.symm)),Ni _⟩
  obtain⟨y,hy⟩:∃y,ys[i]?=some y:=⟨ys[i]'(Nl (Nl N (Ov _ _)) (NA Z.symm)),Ni _⟩
  obtain⟨v1,ak,r1⟩:=F.get hx;obtain⟨v2,aj,r2⟩:=C.get hy;have e1:v1=u1:=by have:=am;rw[EQ,ak]at this;exact N1 this
  have e2:v2=u2:=by have:=al;rw[EQ,aj]at this;exact N1 this
  subst e1 e2;have aq:=W.apart i T _ L
  have ar:IsTup au T #[v1,v2]:=by
   obtain⟨o,ho,ap,q⟩:=ae;exact⟨o,ab T o aq ho,ap,q⟩
  have as:=I.hok.fresh hT
  refine⟨.ref T,_,I.turnedN (ch:=[z,TO,l,j]) (t':=tk) (xs:=[x,y]) (fun b o g e=>ab b o g (hk b o g e)) (fun b g=>hf b (by simp at g ⊢;rcases g with h|h|h|h<;>simp[h])) hT ⟨by simp[EU],[v1,v2],.cons r1 (.cons r2 .nil),ar⟩,rfl,
   ⟨T,x,y,rfl,as,rfl,fun zs M=>by rw[I.list_inj M J];exact hx,fun zs M=>by rw[I.list_inj M G];exact hy⟩,⟨N,t.1,t.2.1,t.2.2.1,t.2.2.2.1,t.2.2.2.2.1⟩,fun b g=>?_⟩
  rw[Qr (fun q=>?_)]
  ·exact(hf b g).1
  ·obtain⟨o,ho,_⟩:∃o,s.heap.get? b=some o/\True:=by
    obtain⟨a,c,r⟩:=A;obtain⟨o1,e1,_⟩:=s1;obtain⟨o2,e2,_⟩:=s2;have O:b=z\/b=TI\/b=TO\/b=l\/b=j:=by simpa using g
    rcases O with rfl|rfl|rfl|rfl|rfl
    ·exact⟨_,sz,trivial⟩
    ·exact⟨_,B,trivial⟩
    ·exact⟨_,r,trivial⟩
    ·exact⟨o1,e1,trivial⟩
    ·exact⟨o2,e2,trivial⟩
   rw[q]at ho;exact absurd (Nv ho) (Ec.mpr hT)
 done:=by
  intro X hP hw hK hc i S s σ H E I hf st hg;subst hP hw hK;obtain⟨N,xs,ys,J,G,aa,Z⟩:=hg;obtain⟨f,F,p1,ai⟩:=I.list J;obtain⟨d,C,p2,ah⟩:=I.list G;have ao:=F.length;have an:=C.length;obtain⟨av,sz,B,A,s1,s2⟩:=st;have W:=O9 (prog:=X.prog) (w:=X.w) (I.ok.hd hc) z TI TO l j Y U D f.toArray d.toArray;have p:min f.toArray.size d.toArray.size=i:=by rw[Nj,Nj];lia
  refine W.done s _ _ (by rw[p];exact⟨sz,B,A,s1,s2,p1.isList,p2.isList⟩) fun h' tk hk=>⟨rfl,?_⟩
  exact I.turnedL (ch:=[z,TO,l,j]) (fun b o g e=>hk b o g e) (fun b g=>hf b (by simp at g ⊢;rcases g with h|h|h|h<;>simp[h])) (fun _ _ e=>e) (fun _ _ _ n=>n) fun b u n e=>by rw[n]at e;cases e
 self:=fun _ _ _ _ _ st h=>wpAny_pyIter_zip st.2.1 h
noncomputable def Qol(K:Nd)(h:TA):TI:=fun f H R=>h f H fun g c=>∃a b e d,g=[.ref a,.ref b]/\SqL K c a e/\SqL K c b d/\R (Itz K a b e.length d.length) c
theorem Qjx{X:Cx}{l:List Expr}(hg:Gl X "zip")(hm:X.mg "zip"=none)(ha:PA X [a,b] N)(Z:starEach [a,b] X.env=[(false,eval a X.env),(false,eval b X.env)]:=by rfl)(f:starEach [b] X.env=[(false,eval b X.env)]:=by rfl) :
  PI X (.Tuple l kk y) (.Call (.Name "zip" p) [a,b] [] pos) (Qol X.K N):=by
 intro d s G H R I h;refine OJ (J1 I hg hm boot_zip (N0 (thn (ha pos d s G H _ I h) fun us c J=>?_) (by rw[Z,f]) (by rw[f];rfl)));obtain⟨vs,H1,I1,Q,S⟩:=J;obtain⟨ad,F,M,L,e,r,o,q⟩:=S;subst e;obtain⟨u1,u2,rfl,n,m⟩:=Qc8 Q;cases n;cases m;obtain⟨C,P,A,U⟩:=I1.list r;obtain⟨B,O,z,T⟩:=I1.list o;have i:ad<c.heap.objs.size:=let⟨_,t,_⟩:=A.isList;Nv t
 have g:F<c.heap.objs.size:=let⟨_,t,_⟩:=z.isList;Nv t
 refine call_zip_2 A.isList z.isList fun h' D x w v u Y hk=>wpAny_pyIter_zip D ?_;refine⟨c.heap.objs.size+4,[c.heap.objs.size+4,c.heap.objs.size+2,c.heap.objs.size+3,c.heap.objs.size,c.heap.objs.size+1],_,_,H1,rfl,I1.kept (t':=c.toks) hk,Qfl ad F _ _ _ _ _ M.length L.length (PySem.W.ktu_apart _ _ _ i g),⟨N6 _,D,x,⟨_,_,w⟩,v,u⟩,fun b E=>?_,q⟩
 have j:c.heap.objs.size<=b:=by
  simp at E
  rcases E with h|h|h|h|h<;>(rw[h];first|exact Nt _|exact N4 _ _)
 exact I1.fpOk j (I1.hok.fresh j)
end L2
namespace Mi
open L2
noncomputable def Qg0(ms:MA):MI:=fun b h=>(ms b h).bind fun p=>match p.1 with
 |[.lst a]=>some (a.reverse,none,p.2)
 |[.ref n]=>match p.2[n]? with|some (.lst a)=>some (a.reverse,some (.r n),p.2)|_=>none
 |_=>none
noncomputable def Qgp(as bs:List W):List W:=(as.zip bs).map fun q=>.tup [q.1,q.2]
noncomputable def Qd2(ms:MA):MI:=fun a h=>(ms a h).bind fun p=>match p.1 with
 |[.lst as,.lst bs]=>some (Qgp as bs,none,p.2)
 |[.ref n,.ref m]=>match p.2[n]?,p.2[m]? with|some (.lst as),some (.lst bs)=>some (Qgp as bs,some (.z n m as.length bs.length),p.2)|_,_=>none
 |_=>none
section
variable{K:Nd}{R:Rn}
theorem Qfx(l:SqL K R.F a xs)(r:Rws K R ws xs):ItOk K R (Itv K a xs.length) ws.reverse none where
 go:=fun i w j h H x d _ e=>by
  have c:=(Ng.mp e).1;rw[N7,r.length]at c;exact⟨c,xs,QG (fun b o z=>d.sub b o (x.f b o z)) l,rfl⟩
 yld:=fun i w j h H x t e d _ g m=>by
  obtain⟨rfl,n⟩:=m;have c:=(Ng.mp g).1;rw[N7]at c;rw[DK c]at g;obtain⟨v,s,p⟩:=r.get g;have:=n xs (QG (fun b o z=>d.sub b o (e.f b o z)) l);rw[<-r.length,s]at this;cases this;exact⟨j,Ext.refl _,d,Rw.mono e _ _ p⟩
 stop:=fun i j h H x d _ c=>by rw[N7,r.length]at c;exact c
theorem QcM{ws:List W}(o:n<R.N):ItOk K R (Itv K (R.ρ n) ws.length) ws.reverse (some (.r n)) where
 go:=fun i w m h H x b a e=>by
  have f:=(Ng.mp e).1;have j:=a (.r n) rfl;obtain⟨g,d,c⟩:=b.obj n _ j;rw[DO]at c;rw[x.ρ n o]at d;exact⟨by simpa using f,g,SqL.of d,c.length.symm⟩
 yld:=fun i w m h H x t e b a l p=>by
  obtain⟨rfl,s⟩:=p;have j:=a (.r n) rfl;obtain⟨g,d,c⟩:=b.obj n _ j;rw[DO]at c;rw[e.ρ n o]at d;have f:=(Ng.mp l).1;rw[N7]at f;rw[DK f]at l;obtain⟨v,g1,g2⟩:=c.get l;have:=s g (SqL.of d);rw[g1]at this;cases this;exact⟨m,Ext.refl _,b,g2⟩
 stop:=fun i m h H x b _ a=>by rw[N7]at a;exact a
theorem Qe0(g:SqL K R.F a xs)(d:SqL K R.F b ys)(m:Rws K R as xs)(l:Rws K R bs ys):ItOk K R (Itz K a b xs.length ys.length) (Qgp as bs) none where
 go:=fun i w u h H x c _ e=>by
  have j:=(Ng.mp e).1;have y:=m.length;have v:=l.length;unfold Qgp at j;rw[Nu,FO]at j;exact⟨by lia,xs,ys,QG (fun b o z=>c.sub b o (x.f b o z)) g,QG (fun b o z=>c.sub b o (x.f b o z)) d,rfl,rfl⟩
 yld:=fun i w u h H x L e c _ r n=>by
  obtain⟨T,E,D,rfl,B,rfl,A,n⟩:=n;unfold Qgp at r;rw[Nq]at r;obtain⟨⟨I,G⟩,p,rfl⟩:=Nf.mp r;rw[Ds]at p;obtain⟨v1,g1,g2⟩:=m.get p.1;obtain⟨J,g3,C⟩:=l.get p.2;have t:=A xs (QG (fun b o z=>c.sub b o (e.f b o z)) g);rw[g1]at t;cases t;have s:=n ys (QG (fun b o z=>c.sub b o (e.f b o z)) d);rw[g3]at s;cases s;exact c.tup B (Rws.cons (Rw.mono e _ _ g2) (Rws.cons (Rw.mono e _ _ C) Rws.nil))
 stop:=fun i u h H x c _ j=>by
  have y:=m.length;have v:=l.length;unfold Qgp at j;rw[Nu,FO]at j;exact⟨by lia,xs,ys,QG (fun b o z=>c.sub b o (x.f b o z)) g,QG (fun b o z=>c.sub b o (x.f b o z)) d,rfl,rfl⟩
theorem QbT(p:n<R.N)(r:m<R.N):ItOk K R (Itz K (R.ρ n) (R.ρ m) la l) items (some (.z n m la l)) where
 go:=fun i w C h H x a b e=>by
  obtain⟨as,bs,g,f,rfl,rfl,rfl⟩:=b (.z n m la l) rfl;obtain⟨d,g1,g2⟩:=a.obj n _ g;obtain⟨c,g3,j⟩:=a.obj m _ f;rw[x.ρ n p]at g1;rw[x.ρ m r]at g3;have b:=(Ng.mp e).1;rw[Nu,FO]at b;exact⟨b,d,c,SqL.of g1,SqL.of g3,g2.length.symm,j.length.symm⟩
 yld:=fun i w C h H x P e a b y o=>by
  obtain⟨T,J,I,rfl,G,rfl,F,o⟩:=o;obtain⟨as,bs,g,f,rfl,rfl,rfl⟩:=b (.z n m la l) rfl;obtain⟨d,u,E⟩:=a.obj n _ g;obtain⟨c,t,D⟩:=a.obj m _ f;rw[e.ρ n p]at u;rw[e.ρ m r]at t;rw[Nq]at y;obtain⟨⟨M,L⟩,s,rfl⟩:=Nf.mp y;rw[Ds]at s;obtain⟨v1,g1,g2⟩:=E.get s.1;obtain⟨O,g3,j⟩:=D.get s.2;have B:=F d (SqL.of u);rw[g1]at B;cases B;have A:=o c (SqL.of t);rw[g3]at A;cases A;exact a.tup G (Rws.cons g2 (Rws.cons j Rws.nil))
 stop:=fun i C h H x a b v=>by
  obtain⟨as,bs,g,f,rfl,rfl,rfl⟩:=b (.z n m la l) rfl;obtain⟨d,g1,g2⟩:=a.obj n _ g;obtain⟨c,g3,j⟩:=a.obj m _ f;rw[x.ρ n p]at g1;rw[x.ρ m r]at g3;rw[Nu,FO]at v;exact⟨v,d,c,SqL.of g1,SqL.of g3,g2.length.symm,j.length.symm⟩
end
section
variable{X:Cx}{tg a b:Expr}{ms:MA}{p pos tpos:Pos}{elts:List Expr}{kk:Nat}
theorem Qh4(F:Gl X "reversed")(E:X.mg "reversed"=none)(G:PMA X [a] ms)(B:starEach [a] X.env=[(false,eval a X.env)]:=by rfl):PMI X tg (.Call (.Name "reversed" p) [a] [] pos) (Qg0 ms):=
 Y3 (Qjh F E G B) fun N H C u=>by
  obtain⟨R,i,h,items,y,P,A,st,e,k⟩:=u;obtain⟨⟨w,L⟩,M,d⟩:=Nc.mp e;refine⟨R,i,h,w,L,A,st,M,fun R1 t O o c r=>?_⟩;split at d
  ·rename_i x g;simp only at g;subst g;cases d;obtain⟨v,rfl,l⟩:=Yk r;have f:=l;unfold Rw at f;obtain⟨ad,j,rfl,s,z⟩:=f;exact⟨ad,j,rfl,SqL.of (c.sub _ _ s),k R1 t _ o c (Qfx (SqL.of s) z)⟩
  ·rename_i n g;simp only at g;subst g;split at d
   ·rename_i x D;cases d;obtain⟨v,rfl,l⟩:=Yk r;obtain⟨m,rfl,j,J,I⟩:=c.refAt l D;refine⟨_,j,rfl,SqL.of J,?_⟩;rw[<-I.length];exact k R1 t _ o c (QcM m)
   ·cases d
  ·cases d
theorem QhP(P:Gl X "zip")(x:X.mg "zip"=none)(Q:PMA X [a,b] ms)(N:starEach [a,b] X.env=[(false,eval a X.env),(false,eval b X.env)]:=by rfl)(w:starEach [b] X.env=[(false,eval b X.env)]:=by rfl):PMI X (.Tuple elts kk tpos) (.Call (.Name "zip" p) [a,b] [] pos) (Qd2 ms):=
 Y3 (Qjx P x Q N w) fun σ H C E=>by
  obtain⟨R,o,h,items,J,h',M,st,e,k⟩:=E;obtain⟨⟨F,Z⟩,e1,d⟩:=Nc.mp e;refine⟨R,o,h,F,Z,M,st,e1,fun R1 D vs z c A=>?_⟩;split at d
  ·rename_i I t g;simp only at g;subst g;cases d;obtain⟨v,G,rfl,l,j⟩:=Qiy A;unfold Rw at l j;obtain⟨ad,s,rfl,B,L⟩:=l;obtain⟨bd,r,rfl,i,u⟩:=j;exact⟨ad,bd,s,r,rfl,SqL.of (c.sub _ _ B),SqL.of (c.sub _ _ i),k R1 D _ z c (Qe0 (SqL.of B) (SqL.of i) L u)⟩
  ·rename_i n m g;simp only at g;subst g;split at d
   ·rename_i I t O x;cases d;obtain⟨v,G,rfl,l,j⟩:=Qiy A;obtain⟨y,rfl,s,Y,U⟩:=c.refAt l O;obtain⟨f,rfl,r,T,S⟩:=c.refAt j x;refine⟨_,_,s,r,rfl,SqL.of Y,SqL.of T,?_⟩;rw[<-U.length,<-S.length];exact k R1 D _ z c (QbT y f)
   ·cases d
  ·cases d
end
end Mi
namespace St
theorem YX(t:SetTable)(n:Nat):(t.orStandIn n).led=t.led/\(t.plain=false->(t.orStandIn n).plain=false):=by
 unfold SetTable.orStandIn;split
 ·exact⟨rfl,id⟩
 ·exact⟨rfl,fun _=>rfl⟩
theorem GW(t:SetTable)(es:Array (Int×Value))(g:Int)(x:Value):(layNew t es g x).2.1.led=t.led/\(t.plain=false->(layNew t es g x).2.1.plain=false):=by
 unfold layNew;split
 ·exact YX _ _
 ·exact⟨rfl,fun _=>rfl⟩
theorem Qcx(e:SetTable.laid m f v l p b=some r):r.1.led=l/\r.1.plain=p:=by
 unfold SetTable.laid at e;obtain⟨o,_,a⟩:=Nc.mp e;cases a;exact⟨rfl,rfl⟩
theorem Wp(t:SetTable)(es:Array (Int×Value))(n:Nat):(relayAll t es n).2.1.led=t.led/\(t.plain=false->(relayAll t es n).2.1.plain=false):=by
 unfold relayAll;split
 ·rename_i c d e;have a:=Qcx e;dsimp only;split
  ·exact⟨a.1,fun b=>a.2.trans b⟩
  ·exact⟨rfl,fun _=>rfl⟩
 ·exact⟨rfl,fun _=>rfl⟩
section
variable{prog:Program}{w:World}{A:Around}{E:Value->Shared->Prop}{s:Shared}
def SetL(prog:Program)(w:World)(h:Heap)(a:Addr)(ks:List Str)(led:Bool):Prop:=
 ∃o b c t,h.get? a=some o/\o.ExactSet/\o.data=.set b c t/\ElemsOf (strKind prog w) b.toList/\b.size<scanBound/\t.fits b.size=true/\t.led=led/\(b.size=0\/t.plain=false)/\ks.Nodup/\b.size=ks.length/\∀k,k∈ks↔∃e∈b.toList,(strKind prog w).is k e.2=true
theorem SetL.at{h h':Heap}{a:Addr}{ks:List Str}{led:Bool}(x:SetL prog w h a ks led)(e:∀o,h.get? a=some o->h'.get? a=some o):SetL prog w h' a ks led:=by obtain⟨o,c,d,t,b,r⟩:=x;exact⟨o,c,d,t,e _ b,r⟩
theorem SetL.lt{h:Heap}{a:Addr}{ks:List Str}{led:Bool}(x:SetL prog w h a ks led):a<h.objs.size:=by obtain⟨_,_,_,_,b,_⟩:=x;exact Nv b
theorem SetL.typeIs{a:Addr}{ks:List Str}{led:Bool}(x:SetL prog w s.heap a ks led):s.TypeIs (.ref a) "set":=by obtain⟨o,_,_,_,c,b,_⟩:=x;exact⟨o,c,b.1⟩
theorem stored{h:Heap}{o:Obj}(f:h.get? a=some o)(d:o.ExactSet)(hd:o.data=.set es r t)(p:ElemsOf (strKind prog w) es'.toList)(n:es'.size<scanBound)(m:t'.fits es'.size=true)(l:es'.size=0\/t'.plain=false)(j:ks.Nodup)(i:es'.size=ks.length)(g:∀k,k∈ks↔∃e∈es'.toList,(strKind prog w).is k e.2=true) :
  (h.update a (Obj.putSet es' t')).get? a=some (Obj.putSet es' t' o)/\(Obj.putSet es' t' o).ExactSet/\(∃b,(Obj.putSet es' t' o).data=.set es' b t')/\SetL prog w (h.update a (Obj.putSet es' t')) a ks t'.led:=by
 have g1:(h.update a (Obj.putSet es' t')).get? a=some (Obj.putSet es' t' o):=Eb _ f (by rw[putSet_of es' t' hd];rfl);have g2:(Obj.putSet es' t' o).ExactSet:=by rw[putSet_of es' t' hd];exact d
 have g3:∃b,(Obj.putSet es' t' o).data=.set es' b t':=by rw[putSet_of es' t' hd];exact⟨_,rfl⟩
 obtain⟨b,c⟩:=g3;exact⟨g1,g2,⟨b,c⟩,_,es',b,t',g1,g2,c,p,n,m,rfl,l,j,i,g⟩
theorem Qal(x:Str)(c:Tok):(strKind prog w).is x (.str x c)=true:=by
 show Value.isStrOf x (.str x c)=true;simp[Value.isStrOf]
theorem Qeb{a:Addr}{ks:List Str}{led:Bool}{x:Str}{c:Tok}{Q:Bool->Shared->Prop}(hS:SetL prog w s.heap a ks led)(room:ks.length+1<scanBound)
  (h:∀b h',Heap.SameBut a s.heap h'->SetL prog w h' a (if x∈ks then ks else ks++[x]) led->Q b { s with heap:=h' }) :
  wpAny (model prog w) A (setAddHashed a (.str x c) ((strKind prog w).hash x)) Q E s:=by
 obtain⟨o,I,ep,t,P,hx,hd,y,hb,hf,m,aa,S,hn,i⟩:=hS;have Y:(strKind prog w).is x (.str x c)=true:=Qal x c;have G:(Value.str x c).scannable=true:=rfl;have quiet:∀(b:Bool) {B:Shared} {D:Unit->Shared->Prop},D () B->wpAny (model prog w) A (match b with|true=>rule "set.scan.the-table-gave-way"|false=>pure ()) D E B:=fun b _ _ q=>by cases b<;>first|exact Nh q|exact Fg q
 unfold setAddHashed setAddHashedIn;refine Ey (Na (NM P hd hf ?_));dsimp only;rw[byScan_of G hb y,if_pos rfl];unfold setAddByScan;refine Na (Na (Fg (Na (wpAny_setScan_of Y P hd hf y ?_))));cases hr:List.findIdx? (fun e=>(strKind prog w).is x e.2) I.toList with
 |some j=>
  obtain⟨hj,pj,_⟩:=EL.mp hr;have f:x∈ks:=(i x).mpr ⟨I.toList[j],DN hj,pj⟩;refine Nh (Nh ?_);have q:=h false s.heap (DH a s.heap) ⟨o,I,ep,t,P,hx,hd,y,hb,hf,m,aa,by rw[if_pos f];exact S,by rw[if_pos f];exact hn,by rw[if_pos f];exact i⟩;exact q
 | none=>
  have f:x∉ks:=fun f=>by
   obtain⟨e,z,p⟩:=(i x).mp f;have:=Iu.mp hr e z;rw[p]at this;cases this
  rw[if_neg f]at h;have pm:=layNew_perm t I ((strKind prog w).hash x) (.str x c);have Z:=layNew_fits t I ((strKind prog w).hash x) (.str x c);have X:=GW t I ((strKind prog w).hash x) (.str x c);dsimp only;generalize layNew t I ((strKind prog w).hash x) (.str x c)=L at pm Z X ⊢;obtain⟨d,t1,ab,gv⟩:=L;dsimp only at pm Z X ⊢;rw[Oi]at pm;have U:ElemsOf (strKind prog w) d.toList:=(y.push Y G).perm pm;have F:d.size=(ks++[x]).length:=by rw[<-ND,pm.length_eq,Np,ND,Np,hn];rfl
  have b1:d.size<scanBound:=by rw[F,Np,NK];exact room
  have O:(ks++[x]).Nodup:=by
   rw[Il];exact⟨S,by simp,fun u hu v hv e=>f (by rw[NH.mp hv]at e;rw[<-e];exact hu)⟩
  have C:∀k,k∈ks++[x]↔∃e∈d.toList,(strKind prog w).is k e.2=true:=fun k=>by
   rw[NQ,NH,i k];constructor
   ·rintro(⟨e,z,p⟩|rfl)
    ·exact⟨e,pm.mem_iff.mpr (N2 _ z),p⟩
    ·exact⟨_,pm.mem_iff.mpr (NF _ (NH.mpr rfl)),Y⟩
   ·rintro⟨e,z,p⟩
    rcases NQ.mp (pm.mem_iff.mp z)with q|q
    ·exact .inl ⟨e,q,p⟩
    ·rw[NH.mp q]at p;exact .inr ((strKind prog w).inj _ _ _ p Y)
  have fin:∀(g:SetTable),g.fits d.size=true->g.led=led->g.plain=false->wpAny (model prog w) A (do
    storeSet a d g
    if(!ab&&g.tooFull)=true then do
      (match (relayAll g d (SetTable.grown d.size)).2.2 with|true=>rule "set.scan.the-table-gave-way"|false=>pure ())
      storeSet a (relayAll g d (SetTable.grown d.size)).1 (relayAll g d (SetTable.grown d.size)).2.1
      pure (some true)
     else pure (some true)) (fun r M=>∃v,r=some v/\∃h',Heap.SameBut a s.heap h'/\SetL prog w h' a (ks++[x]) led/\M={ s with heap:=h' }) E s:=by
   intro g f2 l2 p2;refine Na (Fl P hd ?_ (Im b1));obtain⟨g1,g2,⟨af,g3⟩,g4⟩:=stored (prog:=prog) (w:=w) P hx hd U b1 f2 (.inr p2) O F C;rw[l2]at g4;have sb:=NT s.heap a (Obj.putSet d g);split
   ·have l:=relayAll_perm g d (SetTable.grown d.size);have H:=relayAll_fits g d (SetTable.grown d.size);have n:=Wp g d (SetTable.grown d.size);generalize relayAll g d (SetTable.grown d.size)=R at l H n ⊢;obtain⟨T,t3,ae⟩:=R;dsimp only at l H n ⊢;have sz2:T.size=d.size:=by rw[<-ND,l.length_eq,ND]
    have b2:T.size<scanBound:=by rw[sz2];exact b1
    refine Na (quiet _ (Na (Fl g1 g3 (Nh ⟨true,rfl,_,sb.trans (NT _ a _),?_,rfl⟩) (Im b2))));obtain⟨_,_,_,g5⟩:=stored (prog:=prog) (w:=w) (ks:=ks++[x]) g1 g2 g3 (U.perm l) b2 H (.inr (n.2 p2)) O (sz2.trans F) (fun k=>(C k).trans ⟨fun⟨e,z,q⟩=>⟨e,l.mem_iff.mpr z,q⟩,fun⟨e,z,q⟩=>⟨e,l.mem_iff.mp z,q⟩⟩);rw[n.1,l2]at g5;exact g5
   ·exact Nh ⟨true,rfl,_,sb,g4,rfl⟩
  have N:∀r M,(∃v,r=some v/\∃h',Heap.SameBut a s.heap h'/\SetL prog w h' a (ks++[x]) led/\M={ s with heap:=h' })->wpAny (model prog w) A (match r with|some J=>pure J|none=>setAddHashedIn a (.str x c) ((strKind prog w).hash x) 99999) Q E M:=by
   rintro r M ⟨v,rfl,h',q1,q2,rfl⟩
   exact Nh (h v h' q1 q2)
  refine Na (quiet _ ?_);cases hp:t1.plain with
  |true=>
   rw[if_pos rfl,hashByValue_scannable 8 G];refine Na (Nh ?_);exact NZ (fin { t1 with plain:=false } (SetTable.fits_plain_off Z) (X.1.trans m) rfl) N fun _ _ q=>q
  |false=>
   rw[if_neg (by simp)];refine Na (Nh ?_);exact NZ (fin t1 Z (X.1.trans m) hp) N fun _ _ q=>q
end
noncomputable def uniq(l:List Str):List Str:=l.foldl (fun u x=>if x∈u then u else u++[x]) []
theorem uniq_snoc(l:List Str)(x:Str):uniq (l++[x])=if x∈uniq l then uniq l else uniq l++[x]:=by unfold uniq;rw[Oj];rfl
theorem QeC:∀(n:Nat) (l:List Str),l.length=n->(uniq l).length<=n:=by
 intro n
 induction n with
 |zero=>intro l h;rw[NO.mp h];exact Nt _
 |succ n a=>
  intro l h;obtain⟨u,x,rfl⟩:∃u x,l=u++[x]:=⟨l.dropLast,l.getLast (fun z=>by rw[z]at h;cases h),(Ej _).symm⟩
  rw[uniq_snoc];have:=a u (by simp at h;exact h);split
  ·exact Nr this (N4 _ _)
  ·rw[Np,NK];exact Nat.add_le_add_right this _
theorem uniq_mem:∀(n:Nat) (l:List Str),l.length=n->∀y,y∈uniq l↔y∈l:=by
 intro n
 induction n with
 |zero=>intro l h y;rw[NO.mp h];exact Iff.rfl
 |succ n a=>
  intro l h y;obtain⟨u,x,rfl⟩:∃u x,l=u++[x]:=⟨l.dropLast,l.getLast (fun z=>by rw[z]at h;cases h),(Ej _).symm⟩
  have q:=a u (by simp at h;exact h);rw[uniq_snoc,NQ,NH];split
  ·rename_i b;rw[q y];exact⟨.inl,fun z=>z.elim id fun e=>by rw[e];exact(q x).mp b⟩
  ·rw[NQ,NH,q y]
section
variable{prog:Program}{w:World}{A:Around}{R:Result->Shared->Prop}{I:Addr}{fp wr:List Addr}{G:Array GenState->Array GenState->Prop}{n:Nat}{P:Nat->Value->Prop}{St':Nat->Shared->Prop}
theorem Ql2(W:WalksS prog w A.in1 I fp wr G n P St')(S:Addr)(f:S∉fp)(led:Bool)(l:List Str)(H:l.length=n)(F:∀i v,P i v->∃x c,l[i]?=some x/\v=.str x c)(O:n+1<scanBound) :
  ∀(k i:Nat) (s:Shared),n-i=k->i<=n->St' i s->SetL prog w s.heap S (uniq (l.take i)) led ->
   (∀a,Moved (S::wr) G s a->SetL prog w a.heap S (uniq l) led->R (.ok (.ret .none)) a) ->
   codeAny (model prog w) A (.builtin "set.update.loop" ⟨[.ref S,.ref I],[]⟩) R s:=by
 have C:S∉wr:=fun z=>f (W.sub _ z);have sub:∀b∈wr,b∈S::wr:=fun b z=>No _ z;intro k
 induction k with
 |zero=>
  intro i s J L st g u;obtain rfl:i=n:=by lia
  refine DE IK ?_;rw[DP Fi _];show wpAny _ A.in1 (pyNext (.ref I)>>=_) _ _ s;refine Na (W.done s _ _ st fun a d=>Nh (u a (d.mono sub) ?_));rw[De (NA H)]at g;exact g.at fun o e=>d.heap S _ C e
 | succ k D=>
  intro i s J L st g u;have lt:i<n:=by lia
  refine DE IK ?_;rw[DP Fi _];show wpAny _ A.in1 (pyNext (.ref I)>>=_) _ _ s;refine Na (W.item i s _ _ lt st fun v a M h d=>?_);obtain⟨x,c,E,rfl⟩:=F i v M;have t:SetL prog w a.heap S (uniq (l.take i)) led:=g.at fun o e=>d.heap S _ C e;show wpAny _ A.in1 (holding [Value.str x c] (setAdd S (.str x c))>>=_) _ _ a;refine Na (Ey ?_);unfold setAdd;refine Ey (Na ((strKind prog w).pyHash (k:=x) (Qal x c) ?_))
  have room:(uniq (l.take i)).length+1<scanBound:=by
   have:=QeC _ (l.take i) rfl;rw[ED]at this;lia
  refine Qeb (s:={ a with toks:=a.toks+1 }) t room fun b N B r=>?_
  have p:SetL prog w N S (uniq (l.take (i+1))) led:=by
   rw[Eh,E,Option.toList_some,uniq_snoc];exact r
  refine Nh ⟨F9 Fi _,D (i+1) _ (by lia) lt (W.frame _ a _ _ h (Os _) fun b z o e=>?_) p fun j m q=>?_⟩
  ·exact(B.2 b (fun y:b=S=>f (by rw[<-y];exact z))).trans e
  ·refine u j (Moved.trans W.gtrans ((d.mono sub).then_heap (Os _) fun b o z e=>?_) m) q;exact(B.2 b (fun y:b=S=>z (by rw[y];exact Nx))).trans e
end
section
variable{prog:Program}{w:World}{A:Around}{E:Value->Shared->Prop}{s:Shared}
noncomputable abbrev ledW(w:World):Bool:=!(w.params.followText "set-order")
noncomputable abbrev Qv(b:Bool):Obj:={ cls:=.type "set",dict:=none,data:=.set #[] 0 (.fresh 0 0 b) }
theorem Qoe(a:Value)(h:Q₁ (.ref s.heap.objs.size) { s with heap:=s.heap.push (Qv (ledW w)) }) :
  codeAny (model prog w) A (.call (.builtin "set.__new__") ⟨[.type "set",a],[]⟩) (wants Q₁ E) s:=by
 refine codeAny_of_tree (show wpAny _ A.in1 (do checkBuiltinCall "set.__new__" ⟨[.type "set",a],[]⟩;again (.builtin "set.__new__" ⟨[.type "set",a],[]⟩)) _ _ s from ?_);refine Na (EV (F.newCall_set_1 a) (Nh ⟨F9 OP _,DE (F.entry_set_new) ?_⟩));rw[DP OP _];unfold Builtin.«set.__new__» Builtin.Frozenset.newClass;have b:=L3;obtain⟨e,g,d,c,os⟩:=s;dsimp only
 wp_walk
 refine Ew (Nh ?_);dsimp only;simp only[newObj];exact Na (wpAny_alloc (Nh (Nh h)))
theorem We(e:h.get? a=some (Qv b)):SetL prog w h a [] b:=
 ⟨_,#[],0,_,e,⟨rfl,rfl,rfl⟩,rfl,fun x c=>by simp at c,by decide,rfl,rfl,.inl rfl,Db,rfl,fun k=>by simp⟩
theorem Ql7{Q:Value->Shared->Prop}(hh:A.handled=none)(P:s.heap.IsList l items)(G:StrsAre items.toList ss)(R:items.size+1<scanBound)
  (h:∀(h':Heap) (tk:Nat),SetL prog w h' s.heap.objs.size (uniq ss) (ledW w)->(∀b o,b<s.heap.objs.size->s.heap.get? b=some o->h'.get? b=some o)->Q (.ref s.heap.objs.size) { s with heap:=h',toks:=tk }) :
  wpAny (model prog w) A (Builtin.«set.__init__» ⟨[.ref s.heap.objs.size,.ref l],[]⟩) (fun fin y=>fin=.done (.ret .none)/\Q (.ref s.heap.objs.size) y) E { s with heap:=s.heap.push (Qv (ledW w)) }:=by
 have L:(s.heap.push (Qv (ledW w))).get? s.heap.objs.size=some (Qv (ledW w)):=Nw _ rfl;have hT:Shared.TypeIs { s with heap:=s.heap.push (Qv (ledW w)) } (.ref s.heap.objs.size) "set":=⟨_,L,rfl⟩
 obtain⟨ol,j,r,nl,p⟩:=P;obtain⟨J,f,B,a⟩:=ol;simp only at r p;subst r p;have g:(s.heap.push (Qv (ledW w))).get? l=some { cls:=.type "list",dict:=f,data:=.seq items nl,slots:=a }:=Nn _ j;have n:(s.heap.push (Qv (ledW w))).IsList l items:=⟨_,g,rfl,nl,rfl⟩
 have n1:=F.sub_list_set;have n2:=F.sub_list_frozenset;have Z:(Value.type "list"==Value.type "dict")=false:=by decide
 unfold Builtin.«set.__init__» noKeywords Builtin.Frozenset.updateFrom;generalize I:pyIter=PI
 wp_walk
 subst I;refine Ik n (Na (wpAny_runValue ?_));have m:l<s.heap.objs.size:=Nv j;have d:(s.heap.push (Qv (ledW w))).objs.size=s.heap.objs.size+1:=FX _ _;have C:l≠(s.heap.push (Qv (ledW w))).objs.size:=by rw[d];exact NP (DI m)
 have N:s.heap.objs.size∉[(s.heap.push (Qv (ledW w))).objs.size,l]:=by
  rw[d];simp only[NB,EE,or_false,not_or];exact⟨NP (EO _),D2 m⟩
 have D:ss.length=items.size:=by have:=FY G;rw[ND]at this;exact this.symm
 have O:∀(i:Nat) (v:Value),items[i]?=some v->∃x c,ss[i]?=some x/\v=.str x c:=fun i v e=>by
  have M:items.toList[i]?=some v:=by rw[Eo];exact e
  obtain⟨x,c,rfl⟩:=G.all v (NS.mpr ⟨i,M⟩);refine⟨x,c,?_,rfl⟩;rw[<-G.strs,Nq,M];rfl
 refine Ql2 ((Walks.list (show A.in1.handled=none by simp[hh]) _ l C items).toS) s.heap.objs.size N (ledW w) ss D O R (items.size-0) 0 _ rfl (N6 _) ⟨⟨_,Nw _ rfl,rfl,rfl⟩,n.push _⟩ (We (Nn _ L)) fun y t H=>?_;obtain⟨h',S,Y,u,z⟩:=y;have U:S=s.gens:=t.gens;have X:Y=s.drawn:=t.drawn;have T:z=s.os:=t.os;subst U X T;refine Nh (Nh ⟨rfl,h h' u H fun b o lt e=>?_⟩);refine t.heap b o ?_ (Nn _ (Nn _ e));simp only[NB,EE,or_false,not_or];exact⟨NP lt,by rw[d];exact NP (DI lt)⟩
theorem set_list(hh:A.handled=none)(t:s.heap.IsList l items)(u:StrsAre items.toList ss)(v:items.size+1<scanBound)
  (h:∀(h':Heap) (tk:Nat),SetL prog w h' s.heap.objs.size (uniq ss) (ledW w)->(∀b o,b<s.heap.objs.size->s.heap.get? b=some o->h'.get? b=some o)->Q (.ref s.heap.objs.size) { s with heap:=h',toks:=tk }) :
  wpAny (model prog w) A (call (.type "set") [.ref l]) Q E s:=by
 have body:∀(j:Around),j.handled=none->wpAny (model prog w) j (Builtin.«set.__init__» ⟨[.ref s.heap.objs.size,.ref l],[]⟩) (fun fin m=>fin=.done (.ret .none)/\Q (.ref s.heap.objs.size) m) E { s with heap:=s.heap.push (Qv (ledW w)) }:=by
  intro j z;exact Ql7 z t u v h
 obtain⟨c,C,n⟩:=Dt.mro;have M:=Dt.made;have L:=Dt.sub;refine wpAny_call (codeAny_of_tree (show wpAny _ _ (callAny (.type "set") _) _ _ _ from ?_));refine Nh ⟨L4 _ (by decide +kernel),DE (F.entry_type_call) ?_⟩;rw[Around.under_plain (weight_type_call_type "set" [Value.ref l] []) rfl];have J:=Dt.notType;have I:=Dt.canCreate;have H:=F.typeCall_set_1 (Value.ref l)
 repeat (any_goals (first|assumption|wp_step))
 refine D3 (Qoe (Value.ref l) (E:=E) (Q₁:=fun obj f=>obj=.ref s.heap.objs.size/\f={ s with heap:=s.heap.push (Qv (ledW w)) }) ⟨rfl,rfl⟩) fun r f hr=>?_;cases r with
 |error e=>exact hr
 | ok B=>
  cases B with
  | ret obj=>
   obtain⟨rfl,rfl⟩:=hr;have y:(s.heap.push (Qv (ledW w))).get? s.heap.objs.size=some (Qv (ledW w)):=Nw _ rfl;have x:Shared.TypeIs { s with heap:=s.heap.push (Qv (ledW w)) } (.ref s.heap.objs.size) "set":=⟨_,y,rfl⟩
   have G:=Dt.init.lookup;have D:=Dt.init.bind (.ref s.heap.objs.size)
   repeat (any_goals (first|assumption|wp_step))
   refine D3 (codeAny_call_builtin (R:=wants (fun r d=>r=.none/\Q (.ref s.heap.objs.size) d) E) Dt.init.plain F.entry_set_init (check_set_init_1 x (NZ (body _ (by simp[hh])) (fun fin m q=>?_) fun _ _ q=>q))) fun i d a=>?_
   ·obtain⟨rfl,q⟩:=q;exact⟨rfl,q⟩
   ·cases i with
    |error e=>exact a
    | ok g=>
     cases g with
     |ret r=>
      obtain⟨rfl,q⟩:=a
      repeat (any_goals (first|assumption|wp_step))
     |_=>exact a.elim
  |_=>exact hr.elim
end
theorem slotN:Slot "set_iterator" "__next__" "set_iterator.__next__":=.of (owner:="set_iterator") (n:="__next__") (by rw[DF,ER];kernel_rfl) (by decide +kernel) (by decide +kernel) (by decide +kernel) (by first|exact .inl (by decide +kernel)|exact .inr (by decide +kernel)) (by rw[Dc];kernel_rfl)
theorem QfH:entryFor table "set_iterator.__next__"=some Builtin.«set_iterator.__next__»:=entryFor_of_tree (by kernel_rfl)
theorem QjT(a:Value):argsOk "set_iterator.__next__" ⟨[a],[]⟩:=by unfold argsOk;kernel_rfl
theorem QiU:entryFor table "set.__iter__"=some Builtin.«frozenset.__iter__»:=FZ (id':="frozenset.__iter__") (by kernel_rfl) rfl (by decide +kernel) (by kernel_rfl)
theorem YY(lt:j<l.length):List.Perm (l[j]::l.eraseIdx j) l:=by
 rw[List.eraseIdx_eq_take_drop_succ];have e:l=l.take j++l[j]::l.drop (j+1):=by rw[<-ET lt,Dl]
 conv=>rhs;rw[e]
 exact List.perm_middle.symm
theorem QcK(nx:Nat->Nat):∀(f k:Nat) (l:List a) (o:Array a),f=l.length->List.Perm (pickOrder.go nx f k l o).toList (o.toList++l)
 |0,k,l,o,h=>by
  rw[NO.mp h.symm,Dj];exact .rfl
 |f+1,k,l,o,h=>by
  unfold pickOrder.go;have lt:nx k%l.length<l.length:=Iw _ (Nl (DL _) (NA h));generalize nx k%l.length=j at lt;rw[Ni lt];refine(QcK nx f (k+1) (l.eraseIdx j) (o.push l[j]) (by rw[Ia lt];lia)).trans ?_;rw[Oi,Fm,List.singleton_append];exact List.Perm.append_left _ (YY lt)
theorem UE(nx:Nat->Nat)(xs:Array a):List.Perm (pickOrder nx xs).toList xs.toList:=by
 have:=QcK nx xs.size 0 xs.toList #[] (by simp);simpa[pickOrder]using this
section
variable{prog:Program}{w:World}{A:Around}{E:Value->Shared->Prop}{s:Shared}
theorem Qkh(a:n≠0)(h:∀j d,j<n->Q j { s with drawn:=d }):wpAny M A (choose src n) Q E s:=fun b p _=>by
 show Sem.wp M b (.choose src n fun i=>pure i) _ _ p s;rw[Sem.wp_choose];exact⟨a,h _ _ (Iw _ (L5 a))⟩
theorem Yg:∀(n:Nat) (xs:List b) (s:Shared) (Q:List b->Shared->Prop),n=xs.length->(∀ys d,List.Perm ys xs->Q ys { s with drawn:=d })->wpAny (model prog w) A (drawOrder n xs) Q E s
 |0,xs,s,Q,a,h=>by
  have e:=NO.mp a.symm;subst e;exact Nh (h [] s.drawn .rfl)
 |n+1,[],s,Q,a,h=>by cases a
 |n+1,x::xs,s,Q,a,h=>by
  unfold drawOrder;refine Na (Qkh (by simp) fun j c lt=>?_);rw[Ni lt];refine Na (Yg n _ _ _ (by rw[Ia lt];simp at a ⊢;exact a) fun ys d p=>Nh (h _ d ?_));exact(p.cons _).trans (YY lt)
end
end St
namespace Sb
open PySem SetTable
noncomputable abbrev At(xs:Array Nat)(i:Nat):Nat:=xs.getD i 0
def Up(xs:Array Nat):Prop:=∀i j,i<j->j<xs.size->At xs i<At xs j
theorem Wk(up:Up xs):∀(f lo c:Nat),c-lo<=f->lo<=c->c<=xs.size->(∀i,i<lo->At xs i<j)->(∀i,c<=i->i<xs.size->j<=At xs i) ->
  below.go xs j f lo c<=xs.size/\(∀i,i<below.go xs j f lo c->At xs i<j)/\∀i,below.go xs j f lo c<=i->i<xs.size->j<=At xs i
 |0,lo,c,t,r,m,l,h=>by
  have:lo=c:=by lia
  subst this;exact⟨m,l,h⟩
 | f+1,lo,c,t,r,m,l,h=>by
  unfold below.go
  by_cases d:lo<c
  ·rw[if_pos d];have p:(lo+c)/2<xs.size:=by lia
   have e:xs.getD ((lo+c)/2) j=At xs ((lo+c)/2):=by simp[Array.getD,p]
   have rel:∀a b,a<=b->b<xs.size->At xs a<=At xs b:=fun a b o n=>by
    rcases Du a b with z|z
    ·exact NE (up a b z n)
    ·rw[show a=b by exact IU o z];exact Nt _
   dsimp only;rw[e]
   by_cases g:At xs ((lo+c)/2)<j
   ·rw[if_pos g];exact Wk up f _ c (by omega) (by lia) m (fun i s=>Ny (rel i _ (by lia) p) g) h
   ·rw[if_neg g];exact Wk up f lo _ (by omega) (by lia) (NE p) l (fun i o n=>Nr (Ec.mp g) (rel _ i o n))
  ·rw[if_neg d];have:lo=c:=by exact IU r (Ec.mp d)
   subst this;exact⟨m,l,h⟩
theorem Qak(up:Up xs)(j:Nat):below xs j<=xs.size/\(∀i,i<below xs j->At xs i<j)/\∀i,below xs j<=i->i<xs.size->j<=At xs i:=
 Wk up xs.size 0 xs.size (Nat.sub_le _ _) (N6 _) (Nt _) (fun i h=>absurd h (DD _)) (fun i b a=>by omega)
theorem below_next(up:Up xs)(a:i<xs.size):below xs (At xs i+1)=i+1:=by
 obtain⟨d,c,b⟩:=Qak up (At xs i+1)
 rcases Nat.lt_trichotomy (below xs (At xs i+1)) (i+1)with z|z|z
 ·have:=b i (by omega) a;lia
 ·exact z
 ·have:=c (i+1) z;have:=up i (i+1) (EO _) (Nl z d);omega
theorem below_zero(up:Up xs):below xs 0=0:=by
 obtain⟨c,a,b⟩:=Qak up 0
 rcases Nat.eq_zero_or_pos (below xs 0)with z|z
 ·exact z
 ·exact absurd (a 0 z) (DD _)
theorem at_get(a:i<xs.size):xs[i]?=some (At xs i):=by simp[Array.getD,a]
noncomputable def adv(m:Nat)(p:Probe):Probe:=
 if p.more>0 then { p with j:=p.j+1,more:=p.more-1 }else
 let(i,perturb):=leap m p.i p.perturb
 { p with j:=i,more:=runEnd m i-i,i,perturb }
noncomputable def sq(m:Nat)(h:Int):Nat->Probe
 |0=>{ j:=bits h%(m+1),more:=runEnd m (bits h%(m+1))-bits h%(m+1),i:=bits h%(m+1),perturb:=bits h,dummy:=none }
 |n+1=>adv m (sq m h n)
noncomputable abbrev sj(m:Nat)(h:Int)(n:Nat):Nat:=(sq m h n).j
noncomputable def bk(m:Nat)(h:Int):Nat->Nat×Nat
 |0=>(bits h%(m+1),bits h)
 |k+1=>leap m (bk m h k).1 (bk m h k).2
noncomputable def ps(m:Nat)(h:Int):Nat->Nat
 |0=>0
 |k+1=>ps m h k+(runEnd m (bk m h k).1-(bk m h k).1)+1
theorem Qcr(m:Nat)(h:Int)(n i a:Nat)(e:sq m h n={ j:=i,more:=runEnd m i-i,i:=i,perturb:=a,dummy:=none }):∀c,c<=runEnd m i-i->sq m h (n+c)={ j:=i+c,more:=runEnd m i-i-c,i:=i,perturb:=a,dummy:=none }
 |0,_=>e
 |c+1,b=>by
  rw[show n+(c+1)=(n+c)+1 from rfl];show adv m (sq m h (n+c))=_;rw[Qcr m h n i a e c (NE b)];unfold adv;rw[if_pos (by show runEnd m i-i-c>0;omega)];rfl
theorem QjU(m:Nat)(h:Int):∀k,sq m h (ps m h k)={ j:=(bk m h k).1,more:=runEnd m (bk m h k).1-(bk m h k).1,i:=(bk m h k).1,perturb:=(bk m h k).2,dummy:=none }
 |0=>rfl
 |k+1=>by
  show adv m (sq m h (ps m h k+(runEnd m (bk m h k).1-(bk m h k).1)))=_;rw[Qcr m h _ _ _ (QjU m h k) _ (Nt _)];unfold adv;rw[if_neg (by show¬(runEnd m (bk m h k).1-(bk m h k).1-(runEnd m (bk m h k).1-(bk m h k).1)>0);lia)];rfl
theorem Qhh(m:Nat)(h:Int)(k c:Nat)(a:c<=runEnd m (bk m h k).1-(bk m h k).1):sj m h (ps m h k+c)=(bk m h k).1+c:=by
 show(sq m h (ps m h k+c)).j=_;rw[Qcr m h _ _ _ (QjU m h k) c a]
theorem QaE(m i:Nat):i<=runEnd m i:=by unfold runEnd;split<;>lia
theorem Qcb(a:i<=m):runEnd m i<=m:=by unfold runEnd;split<;>omega
theorem Qg4(m:Nat)(h:Int):∀k,(bk m h k).1<=m
 |0=>Fk (Iw _ (DL _))
 |k+1=>Fk (Iw _ (DL _))
theorem Qkl(m:Nat)(h:Int):∀k,(bk m h k).2=bits h/32^k
 |0=>(Nat.div_one _).symm
 |k+1=>by
  show(bk m h k).2/32=_;rw[Qkl m h k,Nat.div_div_eq_div_mul,Nat.pow_succ]
theorem Qh3(h:Int):bits h<2^64:=by
 unfold bits;have:=NI h (show(0:Int)<2^64 by decide);have:=NR h (show((2:Int)^64)≠0 by decide);lia
theorem Qkx(m:Nat)(h:Int)(a:13<=k):(bk m h k).2=0:=by
 rw[Qkl];apply Nat.div_eq_of_lt;have:=Qh3 h;have c:32^13<=32^k:=Nat.pow_le_pow_right (by decide) a;have b:(2:Nat)^64<=32^13:=by decide
 exact Nl (Nl this b) c
noncomputable def lcg(m:Nat):Nat->Nat->Nat
 |0,i=>i
 |r+1,i=>(lcg m r i*5+1)%(m+1)
theorem QfI(m:Nat)(h:Int):∀r,(bk m h (12+r)).1=lcg m r (bk m h 12).1
 |0=>rfl
 |r+1=>by
  show((bk m h (12+r)).1*5+1+(bk m h (12+r)).2/32)%(m+1)=_;rw[QfI m h r];have:(bk m h (12+r)).2/32=0:=Qkx m h (k:=12+r+1) (by lia);rw[this];rfl
theorem Yn(m:Nat)(a i:Nat):∀b,lcg m (a+b) i=lcg m b (lcg m a i)
 |0=>rfl
 |b+1=>by
  show(lcg m (a+b) i*5+1)%(m+1)=_;rw[Yn m a i b];rfl
noncomputable def orb(m:Nat):Nat->Nat->List Nat
 |0,_=>[]
 |r+1,i=>i::orb m r ((i*5+1)%(m+1))
theorem QgY(m i:Nat):lcg m 1 i=(i*5+1)%(m+1):=rfl
theorem QdL(m:Nat):∀(r i x:Nat),x∈orb m r i->∃b,b<r/\lcg m b i=x
 |0,_,_,h=>nomatch h
 |r+1,i,x,h=>by
  rcases NB.mp h with rfl|h
  ·exact⟨0,by exact DL _,rfl⟩
  ·obtain⟨b,a,e⟩:=QdL m r _ x h;refine⟨1+b,by lia,?_⟩;rw[Yn,QgY];exact e
def Full(m:Nat):Prop:=(List.range (m+1)).all (fun x=>(orb m (m+1) 0).contains x)=true/\lcg m (m+1) 0=0
theorem full7:Full 7:=by unfold Full;decide +kernel
theorem full31:Full 31:=by unfold Full;decide +kernel
theorem QaJ(F:Full m)(a:x<=m):∃b,b<m+1/\lcg m b 0=x:=by
 have:=NV.mp F.1 x (NY.mpr (Ny a (EO _)));rw[Lj]at this;exact QdL m _ _ _ this
theorem QgA(F:Full m)(d:i<=m)(c:x<=m):∃r,r<m+1/\lcg m r i=x:=by
 obtain⟨a,f,rfl⟩:=QaJ F d;obtain⟨b,e,rfl⟩:=QaJ F c
 by_cases h:a<=b
 ·exact⟨b-a,by exact Ny (Nat.sub_le _ _) e,by rw[<-Yn];congr 1;exact FR h⟩
 ·refine⟨m+1-a+b,by lia,?_⟩;rw[<-Yn,show a+(m+1-a+b)=(m+1)+b by lia,Yn,F.2]
theorem Qgt(F:Full m)(h:Int)(a:x<=m):∃k,k<=m+12/\(bk m h k).1=x:=by
 obtain⟨r,hr,e⟩:=QgA F (Qg4 m h 12) a;exact⟨12+r,by lia,(QfI m h r).trans e⟩
theorem QcN[BEq b][LawfulBEq b]:∀(l k:List b),l.Nodup->(∀x∈l,x∈k)->l.length<=k.length
 |[],_,_,_=>N6 _
 |x::l,k,a,c=>by
  rw[Er]at a;have e:=c x Nx;have:=QcN l (k.erase x) a.2 fun y d=>(FP (fun z=>a.1 (by rw[<-z];exact d))).mpr (c y (No _ d));rw[D9 e]at this;have:0<k.length:=Fv e;simp only[NW];lia
theorem QjN{l:List Nat}(b:l.length<=m):∃x,x<=m/\x∉l:=by
 refine ES fun z=>?_;have:=QcN (List.range (m+1)) l OC fun x a=>ES fun y=>z ⟨x,by have:=NY.mp a;lia,y⟩;rw[Dq]at this;exact Dv b this
end Sb
namespace St
theorem Qge:Slot "set_iterator" "__iter__" "set_iterator.__iter__":=.of (owner:="set_iterator") (n:="__iter__") (by rw[DF,ER];kernel_rfl) (by decide +kernel) (by decide +kernel) (by decide +kernel) (by first|exact .inl (by decide +kernel)|exact .inr (by decide +kernel)) (by rw[Dc];kernel_rfl)
theorem QgP:entryFor table "set_iterator.__iter__"=some Builtin.«dict_keyiterator.__iter__»:=FZ (id':="dict_keyiterator.__iter__") (by kernel_rfl) rfl (by decide +kernel) (by kernel_rfl)
theorem QjP(a:Value):argsOk "set_iterator.__iter__" ⟨[a],[]⟩:=by unfold argsOk;kernel_rfl
section
variable{prog:Program}{w:World}{A:Around}{E:Value->Shared->Prop}{s:Shared}
noncomputable abbrev Qff(f:Value)(i:Nat)(S:Addr)(n a:Nat):Obj:={ cls:=.type "set_iterator",data:=.fields #[f,.int i 0,.ref S,.int n 0,.int a 0] }
inductive How(w:World)(S T:Addr)(h:Heap)(es:Array (Int×Value))(ep:Nat)(t:SetTable)(vs:List Value):Nat->Value->Prop where
 |tup {i:Nat} {ps:List Nat} (hT:h.get? T=some { cls:=.type "tuple",data:=.seq (ps.map fun(p:Nat)=>rawInt p).toArray 0 }) (hl:ps.length=vs.length) (hp:∀(j p:Nat),ps[j]?=some p->∃e,es[p]?=some e/\vs[j]?=some e.2):How w S T h es ep t vs i (.ref T)
 |text {i:Nat} (c:Nat) (hb:w.params.followText "set-order"=true) (hv:vs=(pickOrder (w.params.setOrder S ep) es).toList.map (·.2)):How w S T h es ep t vs i (.int c 0)
 |slots {i:Nat} (c:Nat) (hb:w.params.followText "set-order"=false) (hled:t.led=true) (hs:t.plain=true\/es.size<=1) (hv:vs=es.toList.map (·.2)) (hc:SetTable.below t.place c=i):How w S T h es ep t vs i (.int c 0)
def ItT(w:World)(I S T:Addr)(vs:List Value)(i:Nat)(h:Heap):Prop:=
 ∃f o a b t,h.get? I=some (Qff f i S vs.length b)/\h.get? S=some o/\o.data=.set a b t/\t.fits a.size=true/\(t.plain=true\/a.size<=1->Sb.Up t.place)/\a.size=vs.length/\How w S T h a b t vs i f
theorem Qaq{t:SetTable}(a:t.fits n=true):t.place.size=n:=by
 simp only[SetTable.fits,NJ,beq_iff_eq]at a;exact a.1
theorem How.keep(x:How w S T h es n t vs i f)(k:∀o,h.get? T=some o->h'.get? T=some o):How w S T h' es n t vs i f:=by
 cases x with
 |tup m j g=>exact .tup (k _ m) j g
 |text c d b=>exact .text c d b
 |slots c d a e b l=>exact .slots c d a e b l
theorem QhQ(k:Nat):rawInt (k:Int)=Value.int k 0:=rfl
theorem Qo0:(#[f,a,b,c,d]:Array Value).setIfInBounds 0 x=#[x,a,b,c,d]:=by rfl
theorem Qn5:(#[f,a,b,c,d]:Array Value).setIfInBounds 1 x=#[f,x,b,c,d]:=by rfl
theorem QaI{h:Heap}(e:h.get? I=some (Qff f i S n a))(k:Nat)(x:Value):(h.update I (Obj.mapFields (·.setIfInBounds k x))).get? I=some { cls:=.type "set_iterator",data:=.fields ((#[f,.int i 0,.ref S,.int n 0,.int a 0]:Array Value).setIfInBounds k x) }:=Eb _ e rfl
theorem QoD{h:Heap}(e:h.get? I=some (Qff f i S n a)):((h.update I (Obj.mapFields (·.setIfInBounds 0 x))).update I (Obj.mapFields (·.setIfInBounds 1 y))).get? I=some { cls:=.type "set_iterator",data:=.fields #[x,y,.ref S,.int n 0,.int a 0] }:=by
 have g1:=QaI e 0 x;rw[Qo0]at g1;exact Eb (Obj.mapFields (·.setIfInBounds 1 y)) g1 rfl
theorem KJ(g:s.heap.get? S=some o)(f:o.data=.set es d t)(b:t.fits es.size=true)(a:w.params.followText "set-order"=true)
  (h:Q (((pickOrder (w.params.setOrder S d) es)[i]?).map fun e=>(e.2,c)) s):wpAny (model prog w) A (setNext S c i d) Q E s:=by
 unfold setNext;refine Na (NM g f b ?_);dsimp only;unfold setsByText;refine Na (Na (Ew (Nh ?_)));show wpAny _ _ (if(w.params.followText "set-order")=true then _ else _) _ _ _;rw[if_pos a];rw[if_neg (by simp)];refine Na ?_;unfold setWalk;refine Na (NM g f b ?_);dsimp only;unfold setsByText;refine Na (Na (Ew (Nh ?_)));show wpAny _ _ (if(w.params.followText "set-order")=true then _ else _) _ _ _;rw[if_pos a];refine Na (Ew (Nh ?_));exact Nh h
theorem Wn(f:s.heap.get? S=some o)(d:o.data=.set es c t)(b:t.fits es.size=true)(a:es[p]?=some e)(h:Q e.2 s):wpAny (model prog w) A (setNextDrawn S p c) Q E s:=by
 unfold setNextDrawn;refine Na (NM f d b ?_);dsimp only;rw[if_neg (by simp),a];exact Nh h
theorem Kl(l:s.heap.get? S=some o)(g:o.data=.set es f t)(e:t.fits es.size=true)(d:w.params.followText "set-order"=false)(a:t.led=true)(b:t.plain=true\/es.size<=1)
  (h:Q (match es[SetTable.below t.place c]?,t.place[SetTable.below t.place c]? with|some (_,x),some j=>some (x,j+1)|_,_=>none) s):wpAny (model prog w) A (setNext S c i f) Q E s:=by
 unfold setNext;refine Na (NM l g e ?_);dsimp only;unfold setsByText;refine Na (Na (Ew (Nh ?_)));show wpAny _ _ (if(w.params.followText "set-order")=true then _ else _) _ _ _;rw[if_neg (by rw[d];simp)];show wpAny _ _ (if(!t.plain&&decide (es.size>1))=true then _ else _) _ _ _
 rw[if_neg (by
  rcases b with z|z
  ·rw[z];simp
  ·have:¬es.size>1:=by exact Ec.mpr z
   simp[this])]
 show wpAny _ _ ((if(!t.led&&!es.isEmpty)=true then unsupported "set:maker-not-led"else pure ())>>=_) _ _ _;rw[if_neg (by rw[a];simp)];exact Na (Nh (Nh h))
theorem next_item{i:Nat}(G:S≠I)(F:T≠I)(st:ItT w I S T vs i s.heap)(N:i<vs.length)
  (Y:∀v h',vs[i]?=some v->ItT w I S T vs (i+1) h'->Heap.SameBut I s.heap h'->Q (some v) { s with heap:=h' }):wpAny (model prog w) A (pyNext (.ref I)) Q E s:=by
 obtain⟨f,o,n,H,t,m,u,r,l,up,h,hw⟩:=st;have X:s.TypeIs (.ref I) "set_iterator":=⟨_,m,rfl⟩
 unfold pyNext;refine Na (Fz (Ep (name:=Str.ofString "__next__") X slotN (Ee slotN X QfH ?_ (QjT _))));unfold Builtin.«set_iterator.__next__»;refine Na (Nh (Na (wpAny_fieldsOf m rfl ?_)));dsimp only;refine Na (FS u r l ?_);rw[if_neg (by simp[h])];have d:∀(x y:Value),Heap.SameBut I s.heap ((s.heap.update I (Obj.mapFields (·.setIfInBounds 0 x))).update I (Obj.mapFields (·.setIfInBounds 1 y))):=fun x y=>(NT ..).trans (NT ..)
 have P:∀(x:Value) (nx:Nat),vs[i]?=some x->How w S T s.heap n H t vs (i+1) (.int nx 0)->wpAny (model prog w) A.in1 (do
   setField (Value.ref I) 0 (rawInt (nx:Int))
   setField (Value.ref I) 1 (rawInt ((i:Int)+1))
   ret x) (fun fin J=>∃v,fin=Fin.done (Flow.ret v)/\wpAny (model prog w) A (pure (some v)) Q E J) (fun e J=>wpAny (model prog w) A (do if(<-isInstance e (Value.type "StopIteration"))=true then pure none else throw e) Q E J) s:=by
  intro x nx hx L;refine Na (EA m rfl (by simp) (Na (EA (QaI m 0 _) rfl (by simp) (Nh ⟨x,rfl,Nh (Y x _ hx ?_ (d _ _))⟩))));refine⟨.int nx 0,o,n,H,t,QoD m,?_,r,l,up,h,L.keep fun Z e=>?_⟩
  ·rw[(d _ _).2 S G];exact u
  ·rw[(d _ _).2 T F];exact e
 cases hw with
 |@tup ps D U R=>
  simp only[Es];refine Na (Ff D rfl ?_);dsimp only;have j:ps[i]?=some ps[i]:=Ni (Nl N (NA U.symm));generalize ps[i]=q at j;obtain⟨e,he,z⟩:=R i q j;have:((ps.map fun(p:Nat)=>rawInt p).toArray)[i]?=some (Value.int (q:Int) 0):=by simp[j,QhQ]
  rw[this];dsimp only;refine Na (Wn u r l (p:=q) he (Na (EA m rfl (by simp) (Nh ⟨e.2,rfl,Nh (Y e.2 _ z ?_ (NT ..))⟩))));have O:Heap.SameBut I s.heap (s.heap.update I (Obj.mapFields (·.setIfInBounds 1 (rawInt ((i:Int)+1))))):=NT ..;refine⟨.ref T,o,n,H,t,?_,by rw[O.2 S G];exact u,r,l,up,h,How.keep (.tup D U R) fun Z e=>by rw[O.2 T F];exact e⟩;have g:=QaI m 1 (rawInt ((i:Int)+1));rw[Qn5]at g;exact g
 |text c C z=>
  simp only[Es];refine Na (KJ u r l (i:=i) (c:=c) C ?_);subst z;have a:i<(pickOrder (w.params.setOrder S H) n).size:=by simpa using N
  rw[NU a];exact P _ c (by rw[Nq,Eo,NU a];rfl) (.text c C rfl)
 |slots c C b M z hc=>
  simp only[Es];refine Na (Kl u r l (i:=i) (c:=c) C b M ?_);subst z;have a:i<n.size:=by simpa using N
  have B:i<t.place.size:=by rw[Qaq l];exact a
  rw[hc,NU a,Sb.at_get B];exact P n[i].2 (Sb.At t.place i+1) (by rw[Nq,Eo,NU a];rfl) (.slots _ C b M rfl (Sb.below_next (up M) B))
theorem Qa0(hh:B.handled=none)(d:∀h',(∀b o,s.heap.get? b=some o->h'.get? b=some o)->Q none { s with heap:=h' }) :
  wpAny (model prog w) B (newExc (.type "StopIteration") []>>=raiseNew) (fun(fin:Fin) c=>∃v,fin=Fin.done (Flow.ret v)/\wpAny (model prog w) A (pure (some v)) Q E c) (fun e c=>wpAny (model prog w) A (do if(<-isInstance e (Value.type "StopIteration"))=true then pure none else throw e) Q E c) s:=by
 refine Na ?_;simp only[newExc,newTuple];refine Na (NX ?_ (by size_fits));refine Na (m:=firstArgMember _ _) (EV (a:=Value.none) (by first|rfl|(simp only[firstArgMember];rfl)) (NX ?_ (by size_fits)));simp only[raiseNew];refine Na (LJ ?_);rw[hh];refine Na (Nh (Ot ?_));refine Na (FA (T:="StopIteration") (b:=true) ⟨_,Nw _ rfl,rfl⟩ isSubtype_stop ?_);refine Nh (d _ ?_);exact fun b o e=>Nn _ (Nn _ e)
theorem next_end(hh:A.handled=none)(J:S≠I)(H:T≠I)(st:ItT w I S T vs vs.length s.heap)
  (z:∀h',Heap.ExtBut I s.heap h'->Q none { s with heap:=h' }):wpAny (model prog w) A (pyNext (.ref I)) Q E s:=by
 obtain⟨f,o,C,L,t,h,u,r,n,up,d,hw⟩:=st;have y:s.TypeIs (.ref I) "set_iterator":=⟨_,h,rfl⟩
 unfold pyNext;refine Na (Fz (Ep (name:=Str.ofString "__next__") y slotN (Ee slotN y QfH ?_ (QjT _))));unfold Builtin.«set_iterator.__next__»;refine Na (Nh (Na (wpAny_fieldsOf h rfl ?_)));dsimp only;refine Na (FS u r n ?_);rw[if_neg (by simp[d])];have B:A.in1.handled=none:=hh
 have one:wpAny (model prog w) A.in1 (do
   setField (Value.ref I) 2 Value.none
   raiseNew (<-newExc (Value.type "StopIteration") [])) (fun(fin:Fin) j=>∃v,fin=Fin.done (Flow.ret v)/\wpAny (model prog w) A (pure (some v)) Q E j) (fun e j=>wpAny (model prog w) A (do if(<-isInstance e (Value.type "StopIteration"))=true then pure none else throw e) Q E j) s:=by
  refine Na (EA h rfl (by simp) (Qa0 B fun h' k=>z h' fun b l a e=>k b l ?_));rw[(NT ..).2 b a];exact e
 cases hw with
 |@tup ps m F M=>
  simp only[Es];refine Na (Ff m rfl ?_);dsimp only;rw[show((ps.map fun(p:Nat)=>rawInt p).toArray)[vs.length]?=none by simp[F]];refine Na (EA h rfl (by simp) (Na (EA (QaI h 0 _) rfl (by simp) (Qa0 B fun h' k=>z h' fun b l a e=>k b l ?_))));rw[((NT s.heap I _).trans (NT ..)).2 b a];exact e
 |text c a x=>
  simp only[Es];refine Na (KJ u r n (i:=vs.length) (c:=c) a ?_);rw[show(pickOrder (w.params.setOrder S L) C)[vs.length]?=none by rw[x];simp];exact one
 |slots c a g D x G=>
  simp only[Es];refine Na (Kl u r n (i:=vs.length) (c:=c) a g D ?_);rw[G,show C[vs.length]?=none from Lb (NA d)];exact one
theorem Qlh(st:ItT w I S T vs i s.heap)(h:Q (.ref I) s):wpAny (model prog w) A (pyIter (.ref I)) Q E s:=by
 obtain⟨f,o,c,d,t,b,_⟩:=st;have a:s.TypeIs (.ref I) "set_iterator":=⟨_,b,rfl⟩
 refine Io a Qge (Ee Qge a QgP ?_ (QjP _));exact Nh ⟨_,rfl,"set_iterator",_,a,slotN.lookup,h⟩
theorem Qgf(hh:A.handled=none)(I S T:Addr)(d:S≠I)(c:T≠I)(vs:List Value) :
  Walks prog w A I [I,S,T] [I] vs.length (fun i v=>vs[i]?=some v) (fun i h=>ItT w I S T vs i h) where
 sub:=fun b a=>by simp at a;simp[a]
 frame:=fun i h g z k=>by
  obtain⟨f,o,y,B,t,F,D,C,u,up,l,hw⟩:=z;exact⟨f,o,y,B,t,k I (by simp) _ F,k S (by simp) _ D,C,u,up,l,hw.keep fun o e=>k T (by simp) o e⟩
 item:=fun i s Q E r st m=>next_item d c st r fun v g p j n=>m v g s.toks p j fun b o a e=>by rw[n.2 b (fun z=>a (by simp[z]))];exact e
 done:=fun s Q E st m=>next_end hh d c st fun g x=>m g s.toks fun b o a e=>x b o (fun z=>a (by simp[z])) e
 self:=fun i s Q E st q=>Qlh st q
noncomputable abbrev atP(es:Array (Int×Value))(i:Nat):Value:=(es.getD i (0,.none)).2
theorem QbI{ps:List Nat}(p:ps.Perm (List.range es.size)):(ps.map (atP es)).Perm (es.toList.map (·.2))/\∀(j q:Nat),ps[j]?=some q->∃e,es[q]?=some e/\(ps.map (atP es))[j]?=some e.2:=by
 constructor
 ·refine(p.map _).trans ?_
  have:(List.range es.size).map (atP es)=es.toList.map (·.2):=by
   apply Dn;intro j;rw[Nq,Nq]
   by_cases lt:j<es.size
   ·simp[atP,Array.getD,lt]
   ·rw[N5 (by simpa using lt),N5 (by simpa using lt)];rfl
  rw[this]
 ·intro j q a;have lt:q<es.size:=NY.mp (p.mem_iff.mp (NS.mpr ⟨j,a⟩));refine⟨es[q],NU lt,?_⟩;rw[Nq,a];simp[atP,Array.getD,lt]
theorem Qmc{es:Array (Int×Value)}(f:s.heap.get? S=some o)(O:o.ExactSet)(x:o.data=.set es B t)(u:t.fits es.size=true)(up:t.plain=true\/es.size<=1->Sb.Up t.place)(y:t.led=ledW w)(hz:es.size<=sizeLine)
  (h:∀h' d I T (vs:List Value),(∀b o,s.heap.get? b=some o->h'.get? b=some o)->s.heap.objs.size<=I->(T=S\/s.heap.objs.size<=T)->S≠I->T≠I->vs.Perm (es.toList.map (·.2))->vs.length=es.size->ItT w I S T vs 0 h'->Q (.ref I) { s with heap:=h',drawn:=d }) :
  wpAny (model prog w) A (pyIter (.ref S)) Q E s:=by
 have H:s.TypeIs (.ref S) "set":=⟨o,f,O.1⟩
 have l:=Nv f;refine Io H OQ (Ee OQ H QiU ?_ (F.args_set_iter_1 _));unfold Builtin.«frozenset.__iter__» Builtin.Frozenset.slot0;refine Na (Na (Nh (Nh ?_)));unfold Builtin.Frozenset.sizeOf;refine Na (Na (FS f x u (Nh ?_)));refine Na (Na (NM f x u ?_));dsimp only;unfold setsByText;refine Na (Na (Ew (Nh (Nh ?_))));show wpAny _ _ (if(!(w.params.followText "set-order")&&(!t.plain&&decide (es.size>1)))=true then _ else _) _ _ _
 have made:∀(c:Int) (vs:List Value),c=0->vs.Perm (es.toList.map (·.2))->How w S S (s.heap.push (Qff (.int (0:Nat) 0) 0 S es.size B)) es B t vs 0 (.int (0:Nat) 0)->wpAny (model prog w) A.in1 (do
   let first <-pure (rawInt c)
   ret (<-newFields "set_iterator" [first,rawInt 0,Value.ref S,rawInt (es.size:Int),rawInt ((<-setEpoch S):Int)])) (fun fin G=>∃v,fin=Fin.done (Flow.ret v)/\∃J r,G.TypeIs v J/\typeLookup (Value.type J) (Str.ofString "__next__")=pure (some r)/\Q v G) E s:=by
  intro c vs R p hw;subst R;refine Na (Nh (Na (Ol f x u (Na (NX (Nh ⟨_,rfl,"set_iterator",_,⟨_,Nw _ rfl,rfl⟩,slotN.lookup,?_⟩))))));have a:es.size=vs.length:=by rw[p.length_eq,Nu,ND]
  refine h _ s.drawn s.heap.objs.size S vs (fun b N e=>Nn _ e) (Nt _) (.inl rfl) (NP l) (NP l) p a.symm ?_;exact⟨.int (0:Nat) 0,o,es,B,t,by rw[<-a];exact Nw _ rfl,Nn _ f,x,u,up,a,hw⟩
 cases n:w.params.followText "set-order"with
 |true=>
  rw[if_neg (by simp)];exact made 0 ((pickOrder (w.params.setOrder S B) es).toList.map (·.2)) rfl ((UE _ es).map _) (.text 0 n rfl)
 | false=>
  have m:t.led=true:=by rw[y];simp[ledW,n]
  by_cases D:t.plain=false/\es.size>1
  ·rw[if_pos (by simp[D.1,D.2])];refine Na (Yg es.size (List.range es.size) s _ (by simp) fun ps d p=>?_);have C:ps.length=es.size:=by rw[p.length_eq,Dq]
   refine Na (wpAny_newTuple ?_ (by rw[Nu,C];exact hz));refine Na (Ol (s:={ s with drawn:=d,heap:=s.heap.push { cls:=.type "tuple",data:=.seq (ps.map fun(i:Nat)=>rawInt i).toArray } }) (Nn _ f) x u ?_);refine Na (NX (Nh ⟨_,rfl,"set_iterator",_,⟨_,Nw _ rfl,rfl⟩,slotN.lookup,?_⟩));obtain⟨M,L⟩:=QbI p;have a:es.size=(ps.map (atP es)).length:=by rw[Nu,C]
   have g:(s.heap.push { cls:=.type "tuple",data:=.seq (ps.map fun(i:Nat)=>rawInt i).toArray }).objs.size=s.heap.objs.size+1:=FX _ _;refine h _ d _ s.heap.objs.size (ps.map (atP es)) (fun b N e=>Nn _ (Nn _ e)) (by show s.heap.objs.size<=(s.heap.push _).objs.size;rw[g];exact N4 _ _) (.inr (Nt _)) (by show S≠(s.heap.push _).objs.size;rw[g];exact NP (DI l)) (by show s.heap.objs.size≠(s.heap.push _).objs.size;rw[g];exact NP (EO _)) M a.symm ?_;refine⟨.ref s.heap.objs.size,o,es,B,t,by rw[<-a];exact Nw _ rfl,Nn _ (Nn _ f),x,u,up,a,.tup (ps:=ps) (Nn _ (Nw _ rfl)) (by rw[<-a,C]) L⟩
  ·have j:t.plain=true\/es.size<=1:=by
    cases P:t.plain with
    |true=>exact .inl rfl
    |false=>
     right
     rcases Du 1 es.size with z|z
     ·exact absurd ⟨P,z⟩ D
     ·exact z
   rw[if_neg (by
    rcases j with z|z
    ·rw[z];simp
    ·have:¬es.size>1:=by exact Ec.mpr z
     simp[this])]
   exact made 0 (es.toList.map (·.2)) rfl .rfl (.slots 0 n m j rfl (Sb.below_zero (up j)))
theorem Qmp(d:s.TypeIs (.ref S) "set")(h:Q false s):wpAny (model prog w) A (Builtin.List.listLengthHint (.ref S)) Q E s:=by
 unfold Builtin.List.listLengthHint;refine Na (DT d F.slot_set_len.lookup ?_);generalize a:("set.__len__":String)=c
 wp_delta
 rw[show splitId c=some ("set","__len__")from by subst a;decide +kernel];subst a;refine Na (FA (T:="set") (b:=true) d (by rw[Dc];kernel_rfl) ?_);refine IV (fun z=>absurd z (by decide)) (fun _=>IV (fun _=>?_) (fun z=>absurd (by decide +kernel) z));exact Na (FG d (Nh h))
noncomputable abbrev lsO(xs:Array Value)(c:Nat):Obj:={ cls:=.type "list",dict:=none,data:=.seq xs c,slots:=#[] }
theorem QhD(hh:A.handled=none)(Y:s.heap.get? S=some o)(H:o.ExactSet)(e3:o.data=.set es ep t)(ft:t.fits es.size=true)(up:t.plain=true\/es.size<=1->Sb.Up t.place)(y:t.led=ledW w)(m:N≠S)(res:Value)(i:Nat)(hN:s.heap.get? N=some (lsO #[] i))(hz:es.size<=sizeLine)
  (hR:∀h' d tk (vs:List Value) r,vs.Perm (es.toList.map (·.2))->(∀b o,b≠N->s.heap.get? b=some o->h'.get? b=some o)->h'.get? N=some (lsO vs.toArray r)->R (.ok (.ret res)) { s with heap:=h',drawn:=d,toks:=tk }) :
  wpAny (model prog w) A.in1 (Builtin.List.listExtendWith (.ref N) (.ref S) res) (fun fin l=>match fin with|.done f=>R (.ok f) l|.again r=>r.quiet=true/\codeAny (model prog w) A r R l) (fun e l=>R (.error e) l) s:=by
 unfold Builtin.List.listExtendWith;refine Na (FG (T:="set") ⟨o,Y,H.1⟩ ?_);have n1:Builtin.List.listSameRef (.ref N) (.ref S)=false:=by simp[Builtin.List.listSameRef,m]
 have n2:(Value.type "set"==Value.type "list")=false:=by decide
 have n3:(Value.type "set"==Value.type "tuple")=false:=by decide
 simp only[n1,n2,n3,LI,D1,if_false];refine Na (Qmc Y H e3 ft up y hz fun X d I T vs D hI L O M str J st=>?_);have n:=D _ _ hN;have v:N<s.heap.objs.size:=Nv hN;have Q:N≠I:=fun z=>absurd hI (by rw[<-z];exact FK.mpr v)
 have P:N≠T:=by
  rcases L with z|z
  ·rw[z];exact m
  ·exact fun e=>absurd z (by rw[<-e];exact FK.mpr v)
 have Z:N∉[I,S,T]:=by
  simp only[NB,EE,or_false,not_or];exact⟨Q,m,P⟩
 have W:=Qgf (prog:=prog) (w:=w) (A:=A.in1.in1) (by simp[hh]) I S T O M vs
 have key:∀(C:Heap) (a:Nat),ItT w I S T vs 0 C->(∀b o,b≠N->s.heap.get? b=some o->C.get? b=some o)->C.get? N=some (lsO #[] a)->codeAny (model prog w) A (.builtin "list.extend.loop" ⟨[.ref N,.ref I,res],[]⟩) R { s with heap:=C,drawn:=d }:=by
  intro C a G k2 g;refine codeAny_extend_loopS (Walks.of_in1 W).toS (by rw[J];exact hz) N Z res vs.length 0 _ #[] a rfl (N6 _) G g (ItemsOf.nil _) fun l p r hm B h=>?_;rw[Moved.eq_with hm]
  have ea:p=vs.toArray:=by
   apply Array.ext_getElem?;intro j
   by_cases F:j<p.size
   ·have q:=h.2 j p[j] (NU F);rw[NU F,EQ,q]
   ·rw[Lb (Ec.mp F),EQ,N5 (by have:=h.1;exact Nr (NA this.symm) (Ec.mp F))]
  rw[ea]at B;refine hR l.heap d l.toks vs r str (fun b o c e=>hm.heap b o (fun x=>?_) (k2 b o c e)) B
  rcases NB.mp x with z|z
  ·exact c z
  ·rw[NH.mp z]at e;exact absurd (Nv e) (Ec.mpr hI)
 refine Na (Ey (Qmp ⟨o,D _ _ Y,H.1⟩ ?_));refine IV (fun _=>?_) (fun _=>Nh ⟨F9 LQ _,key X i st (fun b o _ e=>D b o e) n⟩);refine Na (Fg (Na ?_));show wpAny _ _ (updateSeq N (·.push .none)>>=fun _=>updateSeq N (·.pop)) _ _ _;refine Na (IT n rfl ?_);have g:=Eb (Obj.mapSeq (·.push Value.none)) n rfl;refine IT (hz:=by seq_fits) g rfl ?_;have U:=Eb (Obj.mapSeq (·.pop)) g rfl;have u:∀b o,b≠N->X.get? b=some o->((X.update N (Obj.mapSeq (·.push Value.none))).update N (Obj.mapSeq (·.pop))).get? b=some o:=fun b o c e=>(EK _ _ (Da c)).trans ((EK _ _ (Da c)).trans e);refine Nh ⟨F9 LQ _,key _ _ (W.frame 0 _ _ st fun b c o e=>u b o (fun z=>Z (by rw[<-z];exact c)) e) (fun b o c e=>u b o c (D b o e)) U⟩
theorem Qeg(hh:A.handled=none)(m:s.heap.get? S=some o)(p:o.ExactSet)(x:o.data=.set es y t)(u:t.fits es.size=true)(up:t.plain=true\/es.size<=1->Sb.Up t.place)(j:t.led=ledW w)(hz:es.size<=sizeLine)
  (h:∀h' d tk (vs:List Value),vs.Perm (es.toList.map (·.2))->(∀b o,s.heap.get? b=some o->h'.get? b=some o)->s.heap.objs.size<=h'.objs.size->Q vs { s with heap:=h',drawn:=d,toks:=tk }):wpAny (model prog w) A (collect (.ref S)) Q E s:=by
 unfold collect;refine Na (wpAny_runValue (DE entry_proto_collect' (show wpAny _ _ (do again (.builtin "list.__iadd__" ⟨[<-newList [],.ref S],[]⟩)) _ _ s from ?_)));refine Na (wpAny_newList (Nh ⟨L4 _ (by decide +kernel),DE (entry_list_iadd') ?_⟩));have l:=Nv m;rw[DP F.plain_list_iadd _]
 have fin:∀(r:Result) (c:Shared),(r=.ok (.ret (.ref s.heap.objs.size))/\∃h' d tk,∃vs:List Value,∃g,vs.Perm (es.toList.map (·.2))/\(∀b o,s.heap.get? b=some o->h'.get? b=some o)/\h'.get? s.heap.objs.size=some (lsO vs.toArray g)/\c={ s with heap:=h',drawn:=d,toks:=tk })->(match r with
   | .ok (.ret v)=>wpAny (model prog w) A (match v with
    |.ref a=>do
     match (<-load a).data with
     |.seq n _=>pure n.toList
     |_=>unsupported "internal:collect"
    |_=>unsupported "internal:collect") Q E c
   |.ok _=>False
   |.error e=>E e c):=by
  rintro r c ⟨rfl,h',d,tk,vs,g,str,k,hN,rfl⟩
  refine Na (wpAny_load hN ?_);show wpAny _ _ (pure vs.toArray.toList) Q E _;rw[EI];exact Nh (h h' d tk vs str k (NE (Nv hN)))
 refine NZ (QhD (A:=A) (s:={ s with heap:=s.heap.push (lsO #[] 0) }) (R:=fun r c=>r=.ok (.ret (.ref s.heap.objs.size))/\∃h' d tk,∃vs:List Value,∃g,vs.Perm (es.toList.map (·.2))/\(∀b o,s.heap.get? b=some o->h'.get? b=some o)/\h'.get? s.heap.objs.size=some (lsO vs.toArray g)/\c={ s with heap:=h',drawn:=d,toks:=tk }) hh (Nn _ m) p x u up j (D2 l) (.ref s.heap.objs.size) 0 (Nw _ rfl) hz fun h' d tk vs g str k hN=>⟨rfl,h',d,tk,vs,g,str,fun b o e=>k b o (NP (Nv e)) (Nn _ e),hN,rfl⟩) ?_ ?_
 ·intro f c q;cases f with
  |done f=>exact fin _ _ q
  |again g=>exact⟨q.1,D3 q.2 fun r i hr=>fin r i hr⟩
 ·intro e c q;exact fin _ _ q
end
theorem Y0:∀(ks a:List Str),ks.Nodup->(∀k∈ks,k∈a)->a.length=ks.length->a.Perm ks
 |[],a,_,_,h=>by rw[NO.mp h]
 |k::r,a,b,c,h=>by
  have e:=c k Nx;rw[Er]at b;refine(LB e).trans (List.Perm.cons k (Y0 r (a.erase k) b.2 (fun x d=>?_) ?_))
  ·exact(FP (fun z=>b.1 (by rw[<-z];exact d))).mpr (c x (No _ d))
  ·rw[D9 e,h];rfl
section
variable{prog:Program}{w:World}{A:Around}{E:Value->Shared->Prop}{s:Shared}
theorem Qhz{h:Heap}{a:Addr}{led:Bool}{es:Array (Int×Value)}(n:ElemsOf (strKind prog w) es.toList)(m:ks.Nodup)(l:es.size=ks.length)(j:∀k,k∈ks↔∃e∈es.toList,(strKind prog w).is k e.2=true)(p:vs.Perm (es.toList.map (·.2))):∃ss,StrsAre vs ss/\ss.Perm ks:=by
 have b:∀v∈vs,∃x c,v=.str x c:=fun v b=>by
  obtain⟨e,g,rfl⟩:=NC.mp (p.mem_iff.mp b);obtain⟨⟨k,f,_⟩,_⟩:=n e g;obtain⟨c,i⟩:=Dw f;exact⟨k,c,i⟩
 refine⟨vs.map strOf,strsAre_map vs b,Y0 ks _ m (fun k f=>?_) ?_⟩
 ·obtain⟨e,g,d⟩:=(j k).mp f;obtain⟨c,i⟩:=Dw d;exact NC.mpr ⟨e.2,p.mem_iff.mpr (NC.mpr ⟨e,g,rfl⟩),by rw[i];rfl⟩
 ·rw[Nu,p.length_eq,Nu,ND,l]
theorem Qgd{t:SetTable}(b:t.fits n=true)(c:n<=1):Sb.Up t.place:=fun i j d a=>by
 rw[Qaq b]at a;omega
theorem Qev(hh:A.handled=none)(n:SetL prog w s.heap S ks (ledW w))(hz:ks.length<=sizeLine)
  (h:∀h' d tk vs,(∃ss,StrsAre vs ss/\ss.Perm ks)->(∀b o,s.heap.get? b=some o->h'.get? b=some o)->s.heap.objs.size<=h'.objs.size->Q vs { s with heap:=h',drawn:=d,toks:=tk }):wpAny (model prog w) A (collect (.ref S)) Q E s:=by
 obtain⟨o,x,B,t,u,m,r,i,v,j,e,f,g,l,c⟩:=n;refine Qeg hh u m r j (fun z=>?_) e (by rw[l];exact hz) fun h' d tk vs p=>h h' d tk vs (Qhz (h:=s.heap) (a:=S) (led:=true) i g l c p)
 rcases z with z|z
 ·rcases f with y|y
  ·exact Qgd j (NE (Ny (NA y) (by decide)))
  ·rw[z]at y;cases y
 ·exact Qgd j z
theorem sortedS'(hh:A.handled=none)(x:SetL prog w s.heap S ks (ledW w))(hz:ks.length<64)
  (h:∀(D:Addr) h' d tk (vs:List Value) (ss:List Str) c,StrsAre vs ss->ss.Perm ks->sortedS ss=true->(∀b o,s.heap.get? b=some o->h'.get? b=some o)->s.heap.objs.size<=D->h'.get? D=some (lsO vs.toArray c)->Q (.ref D) { s with heap:=h',drawn:=d,toks:=tk }) :
  wpAny (model prog w) A (call (.builtin "sorted") [.ref S]) Q E s:=by
 refine Calls.call_function_entry kind_sorted plain_sorted entry_sorted (args_sorted1 _) ?_;unfold Builtin.«sorted»;refine Na (m:=checkCount "sorted" 1 1 _) (Nh (Na (Qev (by simp[hh]) x (by rw[EU];exact NE (El hz (by decide))) fun l d tk vs str r j=>?_)));obtain⟨ss,st,pm⟩:=str;have g:vs.length<64:=by rw[FY st,pm.length_eq];exact hz
 refine Na (wpAny_newList ?_ (by rw[EU];exact NE (El g (by decide))));have a:(l.push (seqObj "list" vs.toArray 0)).get? l.objs.size=some (seqObj "list" vs.toArray 0):=Nw _ rfl;refine Na (Ey (Ee slot_list_sort ⟨_,a,rfl⟩ entry_list_sort (list_sort_treeK (κ:=PyProof.Rows.strKind) strKind_oneLt a st.keysOf (fun p n rest e=>keyKind_strs (by rw[<-e];exact st)) g fun f F C=>⟨_,rfl,?_⟩) (args_list_sort _)));obtain⟨i,B,z,y⟩:=sorted_out_str st F C;obtain⟨c,v⟩:=sortedHeap_at (out:=(arrOf f).map (·.2)) a;refine Nh ⟨_,rfl,h l.objs.size _ d tk ((arrOf f).map (·.2)).toList i c B (z.trans pm) y (fun b o e=>?_) j ?_⟩
 ·have t:=Nn (seqObj "list" vs.toArray 0) (r b o e);rw[sortedHeap_old (NP (Nv (r b o e))) (Nv t)];exact t
 ·rw[Array.toArray_toList];exact v
end
theorem le_of_lt{a b:Str}:ltCps b.cps.toList a.cps.toList=false↔a.cps.toList<=b.cps.toList:=by
 rw[ltCps_eq,decide_eq_false_iff_not];exact Iff.rfl
theorem KB:∀(x:Str) (r:List Str),risingS x r=true->∀z∈r,x.cps.toList<=z.cps.toList
 |x,[],_,z,hz=>by cases hz
 |x,y::r,h,z,hz=>by
  have h':(!ltCps y.cps.toList x.cps.toList&&risingS y r)=true:=h;rw[NJ,Om]at h';have a:=le_of_lt.mp h'.1
  rcases NB.mp hz with rfl|hz
  ·exact a
  ·exact O0 a (KB y r h'.2 z hz)
theorem Ye(h:sortedS (x::r)=true):sortedS r=true:=by
 cases r with
 |nil=>rfl
 |cons y r=>
  have a:(!ltCps y.cps.toList x.cps.toList&&risingS y r)=true:=h;rw[NJ]at a;exact a.2
theorem str_eq{a b:Str}(h:a.cps.toList=b.cps.toList):a=b:=by
 obtain⟨a⟩:=a;obtain⟨b⟩:=b;congr 1;exact Array.toList_inj.mp h
theorem Wa:∀(a b:List Str),a.Perm b->sortedS a=true->sortedS b=true->a=b
 |[],b,p,_,_=>(List.nil_perm.mp p).symm
 |x::r,[],p,_,_=>by cases List.perm_nil.mp p
 | x::r,y::t,p,d,c=>by
  have e:x=y:=by
   have g:y∈x::r:=p.mem_iff.mpr Nx;have f:x∈y::t:=p.mem_iff.mp Nx
   rcases NB.mp g with z|z
   ·exact z.symm
   ·rcases NB.mp f with q|q
    ·exact q
    ·exact str_eq (List.le_antisymm (KB x r d y z) (KB y t c x q))
  subst e;rw[Wa r t (List.Perm.cons_inv p) (Ye d) (Ye c)]
open Classical in
noncomputable def srt(ks:List Str):List Str:=if h:∃a:List Str,a.Perm ks/\sortedS a=true then h.choose else[]
theorem srt_eq(p:ss.Perm ks)(h:sortedS ss=true):srt ks=ss:=by
 have a:∃ss:List Str,ss.Perm ks/\sortedS ss=true:=⟨ss,p,h⟩
 unfold srt;rw[dif_pos a];exact Wa _ _ (a.choose_spec.1.trans p.symm) a.choose_spec.2 h
end St
namespace Mi
open L2
noncomputable def txW:List W->Option (List Str)
 |[]=>some []
 |.str x::r=>(txW r).map (x::·)
 |_=>none
@[simp]theorem Gm(l:List Str):txW (l.map .str)=some l:=by
 induction l with
 |nil=>rfl
 |cons x l a=>rw[Nz,txW,a];rfl
theorem Qcc:∀{ws:List W} {ss:List Str},txW ws=some ss->ws=ss.map .str
 |[],ss,e=>by cases e;rfl
 |.str x::r,ss,e=>by
  obtain⟨t,b,a⟩:=Nf.mp e;subst a;rw[Qcc b];rfl
theorem QdB{K:Nd}:∀{ss:List Str} {xs:List V} {us:List Value},Rws K R (ss.map .str) xs->Vals xs us->StrsAre us ss
 |[],xs,us,r,v=>by
  rw[IC,Rws.nil_iff]at r;subst r;cases v;exact .nil
 | x::ss,xs,us,r,v=>by
  rw[Nz]at r;unfold Rws at r;obtain⟨y,ys,rfl,a,b⟩:=r;unfold Rw at a;subst a;cases v with
  |cons h t=>
   obtain⟨c,rfl⟩:=h;exact .cons x c (QdB b t)
theorem Gi{K:Nd}:∀{ss:List Str} {us:List Value},StrsAre us ss->Vals (ss.map V.str) us/\Rws K R (ss.map W.str) (ss.map V.str)
 |[],_,.nil=>⟨.nil,by unfold Rws;rfl⟩
 |_::_,_,.cons x c h=>by
  obtain⟨a,b⟩:=Gi (K:=K) (R:=R) h;refine⟨.cons ⟨c,rfl⟩ a,?_⟩;rw[Nz,Nz];unfold Rws;exact⟨_,_,rfl,by unfold Rw;rfl,b⟩
noncomputable def QoY(ws:List W)(h:MH):Option (W×MH):=match ws with
 |[a]=>(lsW h a).bind fun c=>(txW c).bind fun b=>if b.length<64 then some (.lst ((St.srt b).map .str),h)else none
 |_=>none
noncomputable def Vv(ws:List W)(h:MH):Option (W×MH):=match ws with
 |[a]=>(lsW h a).bind fun c=>(txW c).bind fun b=>if b.length<4000/\(St.uniq b).length<64 then some (.ref h.length,h++[.lst ((St.srt (St.uniq b)).map .str)])else none
 |_=>none
section
variable{X:Cx}
theorem Inv.drew(I:Inv X a σ H s)(d:Drawn):Inv X a σ H { s with drawn:=d }:=⟨I.ok,I.os,I.bare,I.base,I.loc,I.cell,I.free,I.freeC,I.pin,I.hok,I.len⟩
theorem Xg{p1 N l g:Pos}(T:X.calm=true)(hg:Gl X "sorted")(hm:X.mg "sorted"=none)(F:Gl X "set")(B:X.mg "set"=none)(he:PM X e me)(S:JI e=false:=by rfl) :
  PM X (.Call (.Name "sorted" p1) [.Call (.Name "set" N) [e] [] g] [] l) (mFn Vv (Qa me Qd)):=by
 intro m s σ H Q I ⟨R,p,h,w,h',rh,st,e1,O⟩;obtain⟨⟨as,h2⟩,e2,e3⟩:=Nc.mp e1;obtain⟨⟨a,Y⟩,e4,e5⟩:=Nc.mp e2;obtain⟨⟨bs,h3⟩,e6,e7⟩:=Nc.mp e5;cases e6;cases e7;refine EC (J1 I hg hm boot_sorted (EW ?_ (QL rfl) (Z6 rfl)) (by decide) (by decide));rw[QL (e:=.Call (.Name "set" N) [e] [] g) rfl];refine Df (EC (J1 I F B boot_set (N0 ?_ (QL S) (Z6 rfl)) (by decide) (by decide)));rw[QL S];refine Df (thn (he m s σ H (fun v H2=>∃R2,Ext R R2/\Rh X.K R2 Y H2/\Rw X.K R2 a v) I ⟨R,p,h,a,Y,rh,st,e4,fun R2 H2 v x f A=>⟨R2,x,f,A⟩⟩) fun u L ⟨v,H1,I1,ru,R2,x2,f,A⟩=>Dp ?_);obtain⟨ys,e8,e9⟩:=Nc.mp e3;obtain⟨ss,G,j⟩:=Nc.mp e9;split at j
 ·rename_i P;cases j;obtain⟨ad,xs,rfl,q1,M⟩:=f.lsAt A e8;cases ru;rw[Qcc G]at M;obtain⟨aa,rv,pl,hl⟩:=I1.list q1;have U:=QdB M rv;have C:=FY U;refine St.set_list (I1.ok.hd T) pl.isList (by rw[EI];exact U) (by rw[Nj,C];show ss.length+1<4096;lia) fun g1 t i k1=>Dp ?_;refine St.sortedS' (s:={ L with heap:=g1,toks:=t }) (I1.ok.hd T) i P.2 fun D g2 d r vs J c b1 Z b3 k2 E hD=>?_;obtain⟨v1,v2⟩:=Gi (K:=X.K) (R:=R2) b1;have n:L.heap.objs.size<=D:=Nr (NE i.lt) E;have hp:=I1.hok.fresh n;have eq:=St.srt_eq Z b3;obtain⟨R3,x3,z,y⟩:=f.new (mo:=.lst (J.map .str)) (o:=.lst (J.map V.str)) hp fun R' x'=>⟨_,rfl,(Gi (K:=X.K) (R:=R') b1).2⟩
  rw[eq]at O;refine⟨.ref D,_,Inv.drew (I1.laid (t':=r) (fun b o e=>k2 b o (k1 b o (Nv e) e)) n (show ObjOk X.prog X.w _ _ _ (.lst _)from⟨?_,vs,c,v1,hD⟩)) d,rfl,O R3 _ _ (x2.trans x3) z y⟩;rw[Nu,Z.length_eq,EU];exact NE (El P.2 (by decide))
 ·cases j
end
end Mi
namespace St
open AutoSeq1 (wpAny_loadPart')
theorem Qet(l:Addr)(items:Array Value)(n:Nat)(dct:Option Addr)(j:Array (Option Value)) :
  Meets (Builtin.«enumerate.__new__» ⟨[.type "enumerate",.ref l],[]⟩) (fun _ R s=>s.heap.get? l=some { cls:=.type "tuple",dict:=dct,data:=.seq items n,slots:=j } /\
   R (.ok (.ret (.ref (s.heap.push { cls:=.type "tuple_iterator",data:=.fields #[.ref l,.int 0 0] }).objs.size)))
    { s with heap:=(s.heap.push { cls:=.type "tuple_iterator",data:=.fields #[.ref l,.int 0 0] }).push { cls:=.type "enumerate",data:=.fields #[.none,.bool false,.ref s.heap.objs.size,rawInt 0,.none,.none] } }):=
 .of_wp fun e w A R s h=>by
  obtain⟨m,g,d,i,os⟩:=s;obtain⟨a,h⟩:=h;have f:=sub_enumerate;have b:Heap.IsTuple (Shared.heap ⟨m,g,d,i,os⟩) l items:=⟨_,a,rfl,n,rfl⟩
  wp_walk using EX a
  refine wpAny_stack_any fun st=>Nh ?_;split
  ·rename_i c _ _ _ _ _;cases(c==Value.type "enumerate")
   ·wp_walk using EX a,D5 b
    exact⟨_,rfl,h⟩
   ·wp_walk using EX a,D5 b
    exact⟨_,rfl,h⟩
  ·wp_walk using EX a,D5 b
   exact⟨_,rfl,h⟩
section
variable{prog:Program}{w:World}{A:Around}{E:Value->Shared->Prop}{s:Shared}
theorem enumT(i:s.heap.IsTuple l items)
  (h:∀h',IsEnum h' (s.heap.objs.size+1) s.heap.objs.size 0 .none->h'.IsTupleIter s.heap.objs.size l 0->(∀b o,s.heap.get? b=some o->h'.get? b=some o)->Q (.ref (s.heap.objs.size+1)) { s with heap:=h' }) :
  wpAny (model prog w) A (call (.type "enumerate") [.ref l]) Q E s:=by
 obtain⟨⟨c,dct,j,f⟩,g,e,n,hd⟩:=i;simp only at e hd;subst e hd;refine callType_new F.called_enumerate (by decide) (F.typeCall_enumerate_1 _) (F.newCall_enumerate_1 _) (fun obj=>LC obj _) F.entry_enumerate_new (Qet l items n dct f) ⟨g,?_⟩;have a:(s.heap.push { cls:=.type "tuple_iterator",data:=.fields #[.ref l,.int 0 0] }).objs.size=s.heap.objs.size+1:=FX ..;show _/\_;rw[a]
 have d:IsEnum ((s.heap.push { cls:=.type "tuple_iterator",data:=.fields #[.ref l,.int 0 0] }).push { cls:=.type "enumerate",data:=.fields #[.none,.bool false,.ref s.heap.objs.size,rawInt 0,.none,.none] }) (s.heap.objs.size+1) s.heap.objs.size 0 .none:=by
  rw[<-a];exact Nw _ rfl
 exact⟨⟨_,d,rfl⟩,h _ d ⟨_,Nn _ (Nw _ rfl),rfl,rfl⟩ fun b o x=>Nn _ (Nn _ x)⟩
theorem Qbv(hit:s.heap.IsTupleIter it l i)(e:s.heap.IsTuple l items)(d:items[i]?=some x)
  (g:∀h',h'.IsTupleIter it l (i+1)->Heap.SameBut it s.heap h'->Q x { s with heap:=h' }):wpAny (model prog w) A (Builtin.SmallTypes.nextOf (.ref it)) Q E s:=by
 obtain⟨o,a,f,hd⟩:=id hit;obtain⟨ol,b,_,nl,c⟩:=e;unfold Builtin.SmallTypes.nextOf;refine Na (Ep (name:=Str.ofString "__next__") hit.typeIs Dm (Ee Dm hit.typeIs F5 ?_ (F0 _)));refine(show wpAny _ _ (field (.ref it) 0>>=_) _ _ s from Na (EJ a hd (x:=.ref l) rfl (show wpAny _ _ (if(Value.ref l==Value.none)=true then _ else _) _ _ s from ?_)));rw[if_neg (show¬((Value.ref l==Value.none)=true)from Ea)];refine(show wpAny _ _ (field (.ref it) 1>>=_) _ _ s from Na (EJ a hd (x:=.int i 0) rfl ?_));refine(show wpAny _ _ (seqItems? (.ref l)>>=_) _ _ s from Na (Ff b c ?_));simp only[Es,d];refine Na (EA a hd (by simp) (Nh ⟨x,rfl,Nh (g _ ⟨_,Eb _ a (FC (Di hd _)),(On ..).trans f,by rw[Di hd];simp[rawInt]⟩ (NT ..))⟩))
theorem Qcl(hh:A.handled=none)(hit:s.heap.IsTupleIter it l i)(g:s.heap.IsTuple l items)(f:items[i]?=none)
  (h:∀h' e,Heap.ExtBut it s.heap h'->(∃o,h'.get? e=some o/\o.cls=.type "StopIteration")->E (.ref e) { s with heap:=h' }):wpAny (model prog w) A (Builtin.SmallTypes.nextOf (.ref it)) Q E s:=by
 obtain⟨o,c,j,hd⟩:=id hit;obtain⟨ol,b,_,nl,d⟩:=g;unfold Builtin.SmallTypes.nextOf;refine Na (Ep (name:=Str.ofString "__next__") hit.typeIs Dm (Ee Dm hit.typeIs F5 ?_ (F0 _)));refine(show wpAny _ _ (field (.ref it) 0>>=_) _ _ s from Na (EJ c hd (x:=.ref l) rfl (show wpAny _ _ (if(Value.ref l==Value.none)=true then _ else _) _ _ s from ?_)));rw[if_neg (show¬((Value.ref l==Value.none)=true)from Ea)];refine(show wpAny _ _ (field (.ref it) 1>>=_) _ _ s from Na (EJ c hd (x:=.int i 0) rfl ?_));refine(show wpAny _ _ (seqItems? (.ref l)>>=_) _ _ s from Na (Ff b d ?_));simp only[Es,f];refine Na (Fg (Na (EA c hd (by simp) (Na ?_))));simp only[newExc,newTuple];refine Na (NX ?_ (by size_fits));refine Na (m:=firstArgMember _ _) (EV (a:=Value.none) (by first|rfl|(simp only[firstArgMember];rfl)) (NX ?_ (by size_fits)));simp only[raiseNew];refine Na (LJ ?_)
 first|rw[show A.in1.handled=none from hh]|rw[hh]
 exact Na (Nh (Ot (h _ _ (((NT ..).extBut.push _).push _) ⟨_,Nw _ rfl,rfl⟩)))
theorem tit_at{h h':Heap}(x:h.IsTupleIter a t i)(e:∀o,h.get? a=some o->h'.get? a=some o):h'.IsTupleIter a t i:=by obtain⟨o,b,r⟩:=x;exact⟨o,e _ b,r⟩
theorem QaV{h h':Heap}(x:h.IsTuple a items)(e:∀o,h.get? a=some o->h'.get? a=some o):h'.IsTuple a items:=by obtain⟨o,b,r⟩:=x;exact⟨o,e _ b,r⟩
theorem drawsT(hh:A.handled=none)(it l:Addr)(b:l≠it)(items:Array Value):Draws prog w A it [it,l] items.size (fun i v=>items[i]?=some v) (fun i h=>h.IsTupleIter it l i/\h.IsTuple l items) where
 live:=fun _ _ x=>let⟨o,h,_⟩:=x.1;⟨o,h⟩
 frame:=fun _ _ _ st d=>⟨tit_at st.1 fun o e=>d it (by simp) o e,QaV st.2 fun o e=>d l (by simp) o e⟩
 item:=fun i s Q E f st g=>Qbv st.1 st.2 (x:=items[i]) (by simp[f]) fun m a c=>g _ m s.toks (by simp[f]) ⟨a,st.2.extBut c.extBut b⟩ c
 done:=fun s Q E st j=>Qcl hh st.1 st.2 (by simp) j
end
end St
namespace L2
noncomputable def Ite(K:Nd)(a:Addr)(n:Nat):It:=
  ⟨fun i H=>i<n/\∃b,SqT K H a b/\b.length=n,
   fun i H v c=>∃T x,v=.ref T/\H T=none/\c=upd H T (.tup [.int i,x])/\∀b,SqT K H a b->b[i]?=some x,
   fun i H=>n<=i/\∃b,SqT K H a b/\b.length=n⟩
theorem QcZ{K:Nd}(l e it:Addr)(n:Nat)(c:e≠it)(C:l≠e)(B:l≠it):Turn P w K (.Tuple L kk pos) (Ite K l n) [e,it] e (fun i h=>i<=n/\(∃old,IsEnum h e it i old)/\h.IsTupleIter it l i) where
 mem:=by simp
 obj:=fun i h st b d=>by
  obtain⟨_,⟨old,g⟩,⟨Z,M,c1,d1⟩⟩:=st;have j:b=e\/b=it:=by simpa using d
  rcases j with rfl|rfl
  ·exact⟨_,g,fun v q=>nomatch q⟩
  ·exact⟨Z,M,fun v q=>by rw[d1]at q;cases q⟩
 keep:=fun i h h' st k=>by
  obtain⟨m,⟨old,g⟩,h1⟩:=st;exact⟨m,⟨old,k e (by simp) _ g⟩,St.tit_at h1 fun o x=>k it (by simp) o x⟩
 item:=by
  intro X J hw hK hc i z s σ H E I Y st hg;subst J hw hK;obtain⟨m,N,S,hn⟩:=hg;obtain⟨a,R,p,hz⟩:=I.tuple S;have hl:=R.length;obtain⟨_,O,Q⟩:=st;have W:=Fo (prog:=X.prog) (w:=X.w) (St.drawsT (A:=X.A.in1) (I.ok.hd hc) it l B a.toArray) e c (by simp[c,Da C]) (by simp);refine W.item i s _ _ (by rw[Nj];exact Nl (Nl m (NA hn.symm)) (NA hl)) ⟨O,Q,p⟩ fun T vals h' tk J hT F f hk=>?_;obtain⟨t,u,hu,rfl⟩:=J;refine⟨.ref T,rfl,W.go L kk pos i T _ _ _ f fun ai G D=>?_⟩;obtain⟨x,hx⟩:∃x,N[i]?=some x:=⟨N[i]'(Nl m (NA hn.symm)),Ni _⟩
  obtain⟨v,hv,r⟩:=R.get hx;have M:v=u:=by have:=hu;rw[EQ,hv]at this;exact N1 this
  subst M;have ae:=W.apart i T _ f
  have af:IsTup ai T #[.int i t,v]:=by
   obtain⟨o,U,ab,q⟩:=F;exact⟨o,D T o ae U,ab,q⟩
  have ah:=I.hok.fresh hT;refine⟨.ref T,_,I.turnedN (ch:=[e,it]) (t':=tk) (xs:=[.int i,x]) (fun b o d e=>D b o d (hk b o d e)) Y hT ⟨by simp[EU],[.int i t,v],.cons ⟨t,rfl⟩ (.cons r .nil),af⟩,rfl,⟨T,x,rfl,ah,rfl,fun ys hy=>by rw[I.tuple_inj hy S];exact hx⟩,⟨m,G.1,G.2.1⟩,fun b d=>?_⟩;rw[Qr (fun q=>?_)]
  ·exact(Y b d).1
  ·obtain⟨o,U,_⟩:∃o,s.heap.get? b=some o/\True:=by
    obtain⟨old,g⟩:=O;obtain⟨Z,M,_⟩:=Q;have j:b=e\/b=it:=by simpa using d
    rcases j with rfl|rfl
    ·exact⟨_,g,trivial⟩
    ·exact⟨Z,M,trivial⟩
   rw[q]at U;exact absurd (Nv U) (Ec.mpr hT)
 done:=by
  intro X J hw hK hc i z s σ H E I Y st hg;subst J hw hK;obtain⟨m,N,S,hn⟩:=hg;obtain⟨a,R,p,hz⟩:=I.tuple S;have hl:=R.length;obtain⟨aj,O,Q⟩:=st;have W:=Fo (prog:=X.prog) (w:=X.w) (St.drawsT (A:=X.A.in1) (I.ok.hd hc) it l B a.toArray) e c (by simp[c,Da C]) (by simp);have aa:a.toArray.size=i:=by rw[Nj];lia
  refine W.done s _ _ (by rw[aa];exact⟨O,Q,p⟩) fun h' tk hk=>⟨rfl,?_⟩
  exact I.turnedL (ch:=[e,it]) (fun b o d e=>hk b o d e) Y (fun _ _ e=>e) (fun _ _ _ n=>n) fun b u n e=>by rw[n]at e;cases e
 self:=fun _ _ _ _ _ st h=>let⟨_,g⟩:=st.2.1;Fp g h
noncomputable def Ql4(K:Nd)(f:TA):TI:=fun d H R=>f d H fun e c=>∃a b,e=[.ref a]/\SqT K c a b/\R (Ite K a b.length) c
theorem Qik{X:Cx}{i:List Expr}(F:Gl X "enumerate")(D:X.mg "enumerate"=none)(G:PA X [a] v)(A:starEach [a] X.env=[(false,eval a X.env)]:=by rfl) :
  PI X (.Tuple i P j) (.Call (.Name "enumerate" p) [a] [] pos) (Ql4 X.K v):=by
 intro d s o H R I h;refine OJ (J1 I F D boot_enumerate (N0 (thn (G pos d s o H _ I h) fun M c r=>?_) A rfl));obtain⟨L,J,I1,x,y⟩:=r;obtain⟨ad,t,e,B,q⟩:=y;subst e;obtain⟨u,rfl,w⟩:=XW x;cases w;obtain⟨z,O,l,Q⟩:=I1.tuple B;have f:ad<c.heap.objs.size:=let⟨_,C,_⟩:=l;Nv C
 refine St.enumT l fun S m hit E=>Fp m ?_;refine⟨c.heap.objs.size+1,[c.heap.objs.size+1,c.heap.objs.size],_,_,J,rfl,I1.kept (t':=c.toks) E,QcZ ad _ _ t.length (OD _) (NP (DI f)) (NP f),⟨N6 _,⟨_,m⟩,hit⟩,fun b n=>?_,q⟩
 have g:c.heap.objs.size<=b:=by
  simp at n
  rcases n with h|h<;>(rw[h];first|exact Nt _|exact N4 _ _)
 exact I1.fpOk g (I1.hok.fresh g)
end L2
namespace Mi
open L2
noncomputable def JV(ws:List W):List W:=ws.zipIdx.map fun q=>.tup [.int q.2,q.1]
noncomputable def QaZ(ms:MA):MI:=fun a h=>(ms a h).bind fun p=>match p.1 with
 |[.tup b]=>some (JV b,none,p.2)
 |_=>none
section
variable{K:Nd}{R:Rn}
theorem QcA(l:SqT K R.F a xs)(r:Rws K R ws xs):ItOk K R (Ite K a xs.length) (JV ws) none where
 go:=fun i w p h H x d _ e=>by
  have c:=(Ng.mp e).1;have g:=r.length;unfold JV at c;rw[Nu,Fa]at c;exact⟨by exact Nl c (NA g),xs,Q9 (fun b o z=>d.sub b o (x.f b o z)) l,rfl⟩
 yld:=fun i w p h H x G e d _ m s=>by
  obtain⟨T,C,rfl,u,rfl,t⟩:=s;unfold JV at m;rw[Nq,DQ]at m;obtain⟨⟨E,j⟩,B,rfl⟩:=Nf.mp m;obtain⟨D,A,y⟩:=Nf.mp B;cases y;obtain⟨v,g1,g2⟩:=r.get A;have n:=t xs (Q9 (fun b o z=>d.sub b o (e.f b o z)) l);rw[g1]at n;cases n;rw[NG];exact d.tup u (Rws.cons (by unfold Rw;rfl) (Rws.cons (Rw.mono e _ _ g2) Rws.nil))
 stop:=fun i p h H x d _ c=>by
  have g:=r.length;unfold JV at c;rw[Nu,Fa]at c;exact⟨by exact Nr (NA g.symm) c,xs,Q9 (fun b o z=>d.sub b o (x.f b o z)) l,rfl⟩
end
section
variable{X:Cx}{tg a:Expr}{ms:MA}{p pos tpos:Pos}{elts:List Expr}{kk:Nat}
theorem QeA(x:Gl X "enumerate")(w:X.mg "enumerate"=none)(y:PMA X [a] ms)(u:starEach [a] X.env=[(false,eval a X.env)]:=by rfl):PMI X (.Tuple elts kk tpos) (.Call (.Name "enumerate" p) [a] [] pos) (QaZ ms):=
 Y3 (Qik x w y u) fun D H C j=>by
  obtain⟨R,c,h,items,o,G,t,st,e,k⟩:=j;obtain⟨⟨n,z⟩,A,d⟩:=Nc.mp e;refine⟨R,c,h,n,z,t,st,A,fun R1 B E m b r=>?_⟩;split at d
  ·rename_i F g;simp only at g;subst g;cases d;obtain⟨v,rfl,f⟩:=Yk r;unfold Rw at f;obtain⟨ad,l,rfl,i,s⟩:=f;exact⟨ad,l,rfl,Q9 b.sub i,k R1 B _ m b (QcA i s)⟩
  ·cases d
end
theorem Qk1{K:Nd}(X:K.In h)(G:h.Ns mainGlobals b)(a:D7 K mainGlobals x=some (some (.str y t))):Glob K b x (.str y):=
 ⟨.str y,_,DR X G a,⟨t,rfl⟩,fun _=>Rw.str y⟩
noncomputable def frD:W->List Nat
 |.tup (.ref j::_)=>[j]
 |_=>[]
@[simp]theorem QmT:Qgr h (.ref n)=match h[n]? with|some (.dic kvs)=>some kvs|_=>none:=id rfl
@[simp]theorem Qo9:QkY a (.str x) h=@ob _ _ (fun kvs=>@om _ _ (fun v=>(v,h)) (QbP kvs (.inr x))) (Qgr h a):=id rfl
noncomputable def Qdh(o:W)(k:Key)(v:W)(σ:MSt)(h:MH):Option MF:=match o with
 |.ref n=>match h[n]? with
  |some (.dic kvs)=>if kvs.length<sizeLine then some (.nx σ (h.set n (.dic (QgZ kvs k v))))else none
  |_=>none
 |_=>none
@[simp]theorem QnF:Qck mo mi a σ h=@ob _ _ (fun v=>@ob _ _ (fun o=>@ob _ _ (fun i=>@ob _ _ (fun k=>Qdh o.1 k v.1 σ i.2) (Qix i.1)) (mi σ o.2)) (mo σ v.2)) (a σ h):=by
 unfold Qck ob Qdh;rfl
@[simp]theorem Qnq:Qix (.str x)=some (.inr x):=id rfl
@[simp]theorem Qlb:Qdh (.ref n) k v σ h=match h[n]? with
  |some (.dic kvs)=>if kvs.length<sizeLine then some (.nx σ (h.set n (.dic (QgZ kvs k v))))else none
  |_=>none:=id rfl
@[simp]theorem QmJ:Qek σ h=some (.ref h.length,h++[.dic []]):=id rfl
noncomputable def Qe6(a:W)(ws:List W)(h:MH):Option (W×MH):=match ws with
 |[b,v]=>(Qgr h a).bind fun kvs=>(Qix b).map fun k=>((QbP kvs k).getD v,h)
 |_=>none
section
variable{X:Cx}
theorem Qft(hu:X.A.units+64<cLine):Qd9 X "dict.get" Qe6:=by
 intro g s T H x U v us Q I u B q;obtain⟨R,h,a,Y,w,h',f,E,d,e,k⟩:=q;unfold Qe6 at e;split at e
 ·rename_i b dv;obtain⟨kvs,P,O⟩:=Nc.mp e;obtain⟨i,N,M⟩:=Nf.mp O;cases M;obtain⟨n,rfl,G⟩:=QaG P;obtain⟨y,z,rfl,D,C⟩:=Qiy d;obtain⟨uy,uz,rfl,t,r⟩:=Qc8 B;obtain⟨_,J,kx,F,S⟩:=f.dicAt E G;have L:=WM D N;subst L J;obtain rfl:v=Value.ref (R.ρ n):=u;refine Qkk (El (E2 (by decide) _) hu) I (DGet.k (k:=i) F) t r fun p s' j c=>?_
  rcases GC (k:=i) S with z|⟨p,Z,o,m,l⟩
  ·rw[z.2]at c;rw[z.1]at k;exact⟨_,H,j,c,k R H _ (Ext.refl _) f C⟩
  ·rw[m]at c;rw[o]at k;exact⟨_,H,j,c,k R H _ (Ext.refl _) f l⟩
 ·cases e
@[simp]theorem QmL:Qe6 a [.str x,v] h=@ob _ _ (fun kvs=>some ((QbP kvs (.inr x)).getD v,h)) (Qgr h a):=id rfl
end
end Mi
namespace L2
noncomputable def ItE(K:Nd)(a:Addr)(n:Nat):It:=
  ⟨fun i H=>i<n/\∃b,SqL K H a b/\b.length=n,
   fun i H v c=>∃T x,v=.ref T/\H T=none/\c=upd H T (.tup [.int i,x])/\∀b,SqL K H a b->b[i]?=some x,
   fun i H=>n<=i/\∃b,SqL K H a b/\b.length=n⟩
theorem Qbo{K:Nd}(l e it:Addr)(n:Nat)(c:e≠it)(C:l≠e)(B:l≠it):Turn P w K (.Tuple L kk pos) (ItE K l n) [e,it] e (fun i h=>i<=n/\(∃old,IsEnum h e it i old)/\h.IsListIter it l i) where
 mem:=by simp
 obj:=fun i h st b d=>by
  obtain⟨_,⟨old,g⟩,⟨Z,M,c1,d1⟩⟩:=st;have j:b=e\/b=it:=by simpa using d
  rcases j with rfl|rfl
  ·exact⟨_,g,fun v q=>nomatch q⟩
  ·exact⟨Z,M,fun v q=>by rw[d1]at q;cases q⟩
 keep:=fun i h h' st k=>by
  obtain⟨m,⟨old,g⟩,h1⟩:=st;exact⟨m,⟨old,k e (by simp) _ g⟩,h1.at fun o x=>k it (by simp) o x⟩
 item:=by
  intro X J hw hK hc i z s σ H E I Y st hg;subst J hw hK;obtain⟨m,N,S,hn⟩:=hg;obtain⟨a,R,p,hz⟩:=I.list S;have hl:=R.length;obtain⟨_,O,Q⟩:=st;have W:=Fo (prog:=X.prog) (w:=X.w) (Draws.list (A:=X.A.in1) (I.ok.hd hc) it l B a.toArray) e c (by simp[c,Da C]) (by simp);refine W.item i s _ _ (by rw[Nj];exact Nl (Nl m (NA hn.symm)) (NA hl)) ⟨O,Q,p.isList⟩ fun T vals h' tk J hT F f hk=>?_;obtain⟨t,u,hu,rfl⟩:=J;refine⟨.ref T,rfl,W.go L kk pos i T _ _ _ f fun ai G D=>?_⟩;obtain⟨x,hx⟩:∃x,N[i]?=some x:=⟨N[i]'(Nl m (NA hn.symm)),Ni _⟩
  obtain⟨v,hv,r⟩:=R.get hx;have M:v=u:=by have:=hu;rw[EQ,hv]at this;exact N1 this
  subst M;have ae:=W.apart i T _ f
  have af:IsTup ai T #[.int i t,v]:=by
   obtain⟨o,U,ab,q⟩:=F;exact⟨o,D T o ae U,ab,q⟩
  have ah:=I.hok.fresh hT;refine⟨.ref T,_,I.turnedN (ch:=[e,it]) (t':=tk) (xs:=[.int i,x]) (fun b o d e=>D b o d (hk b o d e)) Y hT ⟨by simp[EU],[.int i t,v],.cons ⟨t,rfl⟩ (.cons r .nil),af⟩,rfl,⟨T,x,rfl,ah,rfl,fun ys hy=>by rw[I.list_inj hy S];exact hx⟩,⟨m,G.1,G.2.1⟩,fun b d=>?_⟩;rw[Qr (fun q=>?_)]
  ·exact(Y b d).1
  ·obtain⟨o,U,_⟩:∃o,s.heap.get? b=some o/\True:=by
    obtain⟨old,g⟩:=O;obtain⟨Z,M,_⟩:=Q;have j:b=e\/b=it:=by simpa using d
    rcases j with rfl|rfl
    ·exact⟨_,g,trivial⟩
    ·exact⟨Z,M,trivial⟩
   rw[q]at U;exact absurd (Nv U) (Ec.mpr hT)
 done:=by
  intro X J hw hK hc i z s σ H E I Y st hg;subst J hw hK;obtain⟨m,N,S,hn⟩:=hg;obtain⟨a,R,p,hz⟩:=I.list S;have hl:=R.length;obtain⟨aj,O,Q⟩:=st;have W:=Fo (prog:=X.prog) (w:=X.w) (Draws.list (A:=X.A.in1) (I.ok.hd hc) it l B a.toArray) e c (by simp[c,Da C]) (by simp);have aa:a.toArray.size=i:=by rw[Nj];lia
  refine W.done s _ _ (by rw[aa];exact⟨O,Q,p.isList⟩) fun h' tk hk=>⟨rfl,?_⟩
  exact I.turnedL (ch:=[e,it]) (fun b o d e=>hk b o d e) Y (fun _ _ e=>e) (fun _ _ _ n=>n) fun b u n e=>by rw[n]at e;cases e
 self:=fun _ _ _ _ _ st h=>let⟨_,g⟩:=st.2.1;Fp g h
noncomputable def QiK(K:Nd)(f:TA):TI:=fun d H R=>f d H fun e c=>∃a b,e=[.ref a]/\SqL K c a b/\R (ItE K a b.length) c
theorem Qfc{X:Cx}{i:List Expr}(F:Gl X "enumerate")(D:X.mg "enumerate"=none)(G:PA X [a] v)(A:starEach [a] X.env=[(false,eval a X.env)]:=by rfl) :
  PI X (.Tuple i P j) (.Call (.Name "enumerate" p) [a] [] pos) (QiK X.K v):=by
 intro d s o H R I h;refine OJ (J1 I F D boot_enumerate (N0 (thn (G pos d s o H _ I h) fun M c r=>?_) A rfl));obtain⟨L,J,I1,x,y⟩:=r;obtain⟨ad,t,e,B,q⟩:=y;subst e;obtain⟨u,rfl,w⟩:=XW x;cases w;obtain⟨z,O,l,Q⟩:=I1.list B;have f:ad<c.heap.objs.size:=let⟨_,C,_⟩:=l.isList;Nv C
 refine call_enumerate_list l.isList fun S m hit _ E=>Fp m ?_;refine⟨c.heap.objs.size+1,[c.heap.objs.size+1,c.heap.objs.size],_,_,J,rfl,I1.kept (t':=c.toks) E,Qbo ad _ _ t.length (OD _) (NP (DI f)) (NP f),⟨N6 _,⟨_,m⟩,hit⟩,fun b n=>?_,q⟩
 have g:c.heap.objs.size<=b:=by
  simp at n
  rcases n with h|h<;>(rw[h];first|exact Nt _|exact N4 _ _)
 exact I1.fpOk g (I1.hok.fresh g)
end L2
namespace Mi
open L2
noncomputable def Ks(ms:MA):MI:=fun a h=>(ms a h).bind fun p=>match p.1 with
 |[.lst b]=>some (JV b,none,p.2)
 |_=>none
section
variable{K:Nd}{R:Rn}
theorem Qbd(l:SqL K R.F a xs)(r:Rws K R ws xs):ItOk K R (ItE K a xs.length) (JV ws) none where
 go:=fun i w p h H x d _ e=>by
  have c:=(Ng.mp e).1;have g:=r.length;unfold JV at c;rw[Nu,Fa]at c;exact⟨by exact Nl c (NA g),xs,QG (fun b o z=>d.sub b o (x.f b o z)) l,rfl⟩
 yld:=fun i w p h H x G e d _ m s=>by
  obtain⟨T,C,rfl,u,rfl,t⟩:=s;unfold JV at m;rw[Nq,DQ]at m;obtain⟨⟨E,j⟩,B,rfl⟩:=Nf.mp m;obtain⟨D,A,y⟩:=Nf.mp B;cases y;obtain⟨v,g1,g2⟩:=r.get A;have n:=t xs (QG (fun b o z=>d.sub b o (e.f b o z)) l);rw[g1]at n;cases n;rw[NG];exact d.tup u (Rws.cons (by unfold Rw;rfl) (Rws.cons (Rw.mono e _ _ g2) Rws.nil))
 stop:=fun i p h H x d _ c=>by
  have g:=r.length;unfold JV at c;rw[Nu,Fa]at c;exact⟨by exact Nr (NA g.symm) c,xs,QG (fun b o z=>d.sub b o (x.f b o z)) l,rfl⟩
end
section
variable{X:Cx}{tg a:Expr}{ms:MA}{p pos tpos:Pos}{elts:List Expr}{kk:Nat}
theorem QbR(x:Gl X "enumerate")(w:X.mg "enumerate"=none)(y:PMA X [a] ms)(u:starEach [a] X.env=[(false,eval a X.env)]:=by rfl):PMI X (.Tuple elts kk tpos) (.Call (.Name "enumerate" p) [a] [] pos) (Ks ms):=
 Y3 (Qfc x w y u) fun D H C j=>by
  obtain⟨R,c,h,items,o,G,t,st,e,k⟩:=j;obtain⟨⟨n,z⟩,A,d⟩:=Nc.mp e;refine⟨R,c,h,n,z,t,st,A,fun R1 B E m b r=>?_⟩;split at d
  ·rename_i F g;simp only at g;subst g;cases d;obtain⟨v,rfl,f⟩:=Yk r;unfold Rw at f;obtain⟨ad,l,rfl,i,s⟩:=f;exact⟨ad,l,rfl,QG b.sub (.inl (.inl i)),k R1 B _ m b (Qbd (.inl (.inl i)) s)⟩
  ·cases d
end
end Mi
namespace Sb
open PySem SetTable
noncomputable abbrev pz(t:SetTable)(es:Array (Int×Value)):List (Nat×(Int×Value)):=t.place.toList.zip es.toList
structure Tab(t:SetTable)(es:Array (Int×Value)):Prop where
 up:Up t.place
 dum:t.dummies=#[]
 len:t.place.size=es.size
 le:∀j∈t.place.toList,j<=t.mask
 own:∀q∈pz t es,∃n,sj t.mask q.2.1 n=q.1/\∀k,k<n->sj t.mask q.2.1 k∈t.place.toList
theorem Tab.fill(T:Tab t es):t.fill=es.size:=by
 unfold SetTable.fill;rw[T.dum,T.len];rfl
theorem Tab.fits(T:Tab t es)(h:es.size<=t.mask):t.fits es.size=true:=by
 unfold SetTable.fits;rw[T.fill,T.len];simp[h]
theorem Qif:Up xs↔xs.toList.Pairwise (·<·):=by
 rw[List.pairwise_iff_getElem];constructor
 ·intro up i j d c a;have b:j<xs.size:=by rwa[ND]at c
  have:=up i j a b;simpa[At,Array.getD,b,show i<xs.size by exact El a b]using this
 ·intro h i j a c;have:=h i j (by rw[ND];exact El a c) (by rw[ND];exact c) a;simpa[At,Array.getD,c,show i<xs.size by exact El a c]using this
theorem QhA(m:Nat)(h:Int):∀n,sj m h n<=m/\(sq m h n).j+(sq m h n).more<=m
 |0=>by
  have b:=Qg4 m h 0;have c:=Qcb b;have a:=QaE m (bk m h 0).1;exact⟨b,show(bk m h 0).1+(runEnd m (bk m h 0).1-(bk m h 0).1)<=m by lia⟩
 |n+1=>by
  obtain⟨b,c⟩:=QhA m h n;show(adv m (sq m h n)).j<=m/\(adv m (sq m h n)).j+(adv m (sq m h n)).more<=m;unfold adv;split
  ·rename_i d;exact⟨by show(sq m h n).j+1<=m;lia,by show(sq m h n).j+1+((sq m h n).more-1)<=m;lia⟩
  ·have a:(leap m (sq m h n).i (sq m h n).perturb).1<=m:=Fk (Iw _ (DL _));have f:=Qcb a;have e:=QaE m (leap m (sq m h n).i (sq m h n).perturb).1;exact⟨a,show(leap m (sq m h n).i (sq m h n).perturb).1+(runEnd m (leap m (sq m h n).i (sq m h n).perturb).1-(leap m (sq m h n).i (sq m h n).perturb).1)<=m by lia⟩
noncomputable abbrev Ow(o:Array (Option Nat))(j:Nat):Option Nat:=o.getD j none
structure Lay(m:Nat)(hs:List Int)(o:Array (Option Nat)):Prop where
 size:o.size=m+1
 own:∀j k,Ow o j=some k->∃h,hs[k]?=some h/\∃n,sj m h n=j/\∀i,i<n->(Ow o (sj m h i)).isSome=true
 all:∀k,k<hs.length->∃j,Ow o j=some k
 one:∀j j' k,Ow o j=some k->Ow o j'=some k->j=j'
theorem QlL(h:Ow o j=some k):j<o.size:=by
 rcases Du j o.size with z|z
 ·exact z
 ·simp[Ow,Array.getD,Ec.mpr z]at h
theorem Qh2(L:Lay m a o)(d:a.length<=m):∃x,x<=m/\Ow o x=none:=by
 obtain⟨x,b,c⟩:=QjN (m:=m) (l:=(List.range a.length).map fun k=>if h:k<a.length then Classical.choose (L.all k h)else 0) (by simp;exact d);refine⟨x,b,?_⟩;cases e:Ow o x with
 |none=>rfl
 |some k=>
  exfalso;obtain⟨h,f,_⟩:=L.own x k e;have lt:k<a.length:=(Ng.mp f).1;refine c (NC.mpr ⟨k,NY.mpr lt,?_⟩);rw[dif_pos lt];exact L.one _ _ k (Classical.choose_spec (L.all k lt)) e
theorem Qdk{m:Nat}(h:Int){o:Array (Option Nat)}(t:o.size=m+1){K:Nat}(j:Ow o (bk m h K).1=none):∀(f k:Nat),k<=K->K<k+f->(∀n,n<ps m h k->(Ow o (sj m h n)).isSome=true) ->
  ∃n,layClean.free m o f (bk m h k).1 (bk m h k).2=some (sj m h n)/\Ow o (sj m h n)=none/\∀i,i<n->(Ow o (sj m h i)).isSome=true
 |0,k,p,v,_=>by omega
 | f+1,k,p,v,l=>by
  unfold layClean.free
  have g:∀c,c<=runEnd m (bk m h k).1-(bk m h k).1->(bk m h k).1+c<o.size:=fun c a=>by
   have:=Qcb (Qg4 m h k);have:=QaE m (bk m h k).1;omega
  have get:∀c,c<=runEnd m (bk m h k).1-(bk m h k).1->o.getD ((bk m h k).1+c) (some 0)=Ow o (sj m h (ps m h k+c)):=fun c a=>by
   rw[Qhh m h k c a];simp[Ow,Array.getD,g c a]
  have hr:runEnd m (bk m h k).1+1-(bk m h k).1=runEnd m (bk m h k).1-(bk m h k).1+1:=by
   have:=QaE m (bk m h k).1;lia
  rw[hr];split
  ·rename_i c a;rw[List.find?_range_eq_some]at a;obtain⟨s,x,w⟩:=a;rw[NY]at x;rw[get c (by lia)]at s;refine⟨ps m h k+c,by rw[Qhh m h k c (by omega)],by simpa using s,fun i u=>?_⟩
   rcases Du i (ps m h k)with z|z
   ·exact l i z
   ·have r:=w (i-ps m h k) (DX z u);rw[get _ (by lia),show ps m h k+(i-ps m h k)=i by exact FR z]at r;revert r;cases Ow o (sj m h i)<;>simp
  ·rename_i a
   have b:∀n,n<ps m h (k+1)->(Ow o (sj m h n)).isSome=true:=by
    intro n y
    rcases Du n (ps m h k)with z|z
    ·exact l n z
    ·have e:ps m h (k+1)=ps m h k+(runEnd m (bk m h k).1-(bk m h k).1)+1:=rfl;rw[List.find?_eq_none]at a;have:=a (n-ps m h k) (NY.mpr (by lia));rw[get _ (by lia),show ps m h k+(n-ps m h k)=n by exact FR z]at this;revert this;cases Ow o (sj m h n)<;>simp
   have d:k<K:=by
    rcases Du k K with z|z
    ·exact z
    ·have:k=K:=by exact IU p z
     subst this;have:=b (ps m h k+0) (by show _<ps m h k+_+1;lia);rw[Qhh m h k 0 (N6 _),Nat.add_zero,j]at this;cases this
   exact Qdk h t j f (k+1) d (by lia) b
theorem Y8(a:j<o.size):Ow (o.setIfInBounds j (some k)) i=if i=j then some k else Ow o i:=by
 by_cases c:i=j
 ·subst c;simp[Ow,Array.getD,a]
 ·rw[if_neg c];unfold Ow;rw[DM,DM,Array.getElem?_setIfInBounds_ne (Da c)]
theorem Qh8(F:Full m)(L:Lay m p o)(H:p.length<=m)(h:Int) :
  ∃j,layClean.free m o (turns m) (bits h%(m+1)) (bits h)=some j/\Lay m (p++[h]) (o.setIfInBounds j (some p.length)):=by
 obtain⟨x,G,t⟩:=Qh2 L H;obtain⟨K,I,e⟩:=Qgt F h G;obtain⟨n,C,B,A⟩:=Qdk h L.size (K:=K) (by rw[e];exact t) (turns m) 0 (N6 _) (by unfold turns;lia) (fun n t=>absurd t (DD _))
 have f:sj m h n<o.size:=by
  have:=(QhA m h n).1;rw[L.size];exact Ny this (EO _)
 refine⟨sj m h n,C,?_,?_,?_,?_⟩
 ·rw[Array.size_setIfInBounds];exact L.size
 ·intro j k d;rw[Y8 f]at d;split at d
  ·rename_i z;cases d;refine⟨h,by simp,n,z.symm,fun i u=>?_⟩;rw[Y8 f];split
   ·rfl
   ·exact A i u
  ·obtain⟨v,s,D,y,w⟩:=L.own j k d;refine⟨v,?_,D,y,fun i u=>?_⟩
   ·rw[Ei (Ng.mp s).1];exact s
   ·rw[Y8 f];split
    ·rfl
    ·exact w i u
 ·intro k d;rw[Np,NK]at d
  rcases Du k p.length with z|z
  ·obtain⟨j,c⟩:=L.all k z;refine⟨j,?_⟩;rw[Y8 f,if_neg]
   ·exact c
   ·rintro rfl
    rw[B]at c;cases c
  ·refine⟨sj m h n,?_⟩;rw[Y8 f,if_pos rfl];congr 1;lia
 ·have l:∀j,Ow o j≠some p.length:=fun j z=>by
   obtain⟨v,s,_⟩:=L.own j _ z;have:=(Ng.mp s).1;exact Dv (NE this) this
  intro j E k r g;rw[Y8 f]at r g;split at r
  ·cases r;split at g
   ·rename_i a b;rw[a,b]
   ·exact absurd g (l _)
  ·split at g
   ·cases g;exact absurd r (l _)
   ·exact L.one j E k r g
theorem G8(F:Full m):∀(rest a:List Int) (o:Array (Option Nat)),Lay m a o->a.length+rest.length<=m ->
  ∃o',(rest.foldl (init:=some (o,a.length)) fun b h=>do
   let(owner,k) <-b
   let j <-layClean.free m owner (turns m) (bits h%(m+1)) (bits h)
   pure (owner.setIfInBounds j (some k),k+1))=some (o',a.length+rest.length)/\Lay m (a++rest) o'
 |[],a,o,L,_=>⟨o,by simp,by simpa using L⟩
 | h::rest,a,o,L,c=>by
  rw[NW]at c;obtain⟨j,i,g⟩:=Qh8 F L (Nr (N4 _ _) c) h;obtain⟨o',f,d⟩:=G8 F rest (a++[h]) _ g (by rw[Np,NK];lia);refine⟨o',?_,by simpa using d⟩;rw[DY]
  have e:((some (o,a.length):Option (Array (Option Nat)×Nat))>>=fun p=>layClean.free m p.1 (turns m) (bits h%(m+1)) (bits h)>>=fun j=>pure (p.1.setIfInBounds j (some p.2),p.2+1))=some (o.setIfInBounds j (some a.length),(a++[h]).length):=by
   show(layClean.free m o (turns m) (bits h%(m+1)) (bits h)>>=fun j=>pure (o.setIfInBounds j (some a.length),a.length+1))=_;rw[i,Np];rfl
  refine(congrArg (fun z=>List.foldl _ z rest) e).trans (f.trans ?_);simp;exact D8 _ _ _
theorem Qic(m:Nat):Lay m [] (Array.replicate (m+1) none):=by
 have e:∀j,Ow (Array.replicate (m+1) none) j=none:=fun j=>by
  unfold Ow;rw[DM,Array.getElem?_replicate];split<;>rfl
 refine⟨Array.size_replicate,fun j k h=>?_,fun k h=>absurd h (DD _),fun j a k h=>?_⟩
 ·rw[e]at h;cases h
 ·rw[e]at h;cases h
theorem GY(F:Full m)(a:Array Int)(b:a.size<=m):∃o,layClean m a=some o/\Lay m a.toList o:=by
 obtain⟨o,d,c⟩:=G8 F a.toList [] _ (Qic m) (by simpa using b);refine⟨o,?_,by simpa using c⟩;unfold layClean;rw[<-Array.foldl_toList];exact congrArg (fun z=>Option.map (·.1) z) d
theorem WQ(f:c->Option d):∀(l:List c),((l.filterMap fun j=>(f j).map (j,·)).map (·.1)).Sublist l
 |[]=>.slnil
 |a::l=>by
  rw[Dx];cases f a with
  |none=>exact(WQ f l).cons a
  |some b=>exact(WQ f l).cons_cons a
theorem Qe9{f:c->Option m}{l:List c}:p∈(l.filterMap fun j=>(f j).map (j,·))↔p.1∈l/\f p.1=some p.2:=by
 rw[F4];constructor
 ·rintro⟨a,g,e⟩
  obtain⟨b,d,rfl⟩:=Nf.mp e;exact⟨g,d⟩
 ·rintro⟨i,h⟩
  exact⟨p.1,i,by rw[h];rfl⟩
theorem Qd6(f:b->d)(g:b->c):∀l:List b,(l.map f).zip (l.map g)=l.map fun x=>(f x,g x)
 |[]=>rfl
 |a::l=>by simp[Qd6 f g l]
theorem Qf4:∀(l:List d),(∀a∈l,f a=some (g a))->l.filterMap f=l.map g
 |[],_=>rfl
 |a::l,h=>by
  rw[Dx,h a Nx,Nz,Qf4 l fun b c=>h b (No _ c)]
theorem Uh[BEq d][LawfulBEq d]:∀(l k:List d),l.Nodup->k.Nodup->(∀x,x∈l↔x∈k)->l.Perm k
 |[],k,_,_,h=>by
  have:k=[]:=List.eq_nil_iff_forall_not_mem.mpr fun x b=>nomatch (h x).mpr b
  rw[this]
 | a::l,k,c,e,h=>by
  have f:=(h a).mp Nx;rw[Er]at c;refine(List.Perm.cons a (Uh l (k.erase a) c.2 (e.erase a) fun x=>?_)).trans (LB f).symm;rw[e.mem_erase_iff];constructor
  ·exact fun b=>⟨fun z=>c.1 (by rw[<-z];exact b),(h x).mp (No _ b)⟩
  ·rintro⟨z,b⟩
   rcases NB.mp ((h x).mpr b)with y|y
   ·exact absurd y z
   ·exact y
theorem laid_ok(F:Full m)(es:Array (Int×Value))(O:es.size<=m)(D C:Nat)(led t:Bool) :
  ∃t' u,laid m D C led t (es.map (·.1))=some (t',u)/\t'.mask=m/\t'.led=led/\t'.plain=t/\Tab t' (u.filterMap (es[·]?))/\(u.filterMap (es[·]?)).toList.Perm es.toList:=by
 obtain⟨o,M,L⟩:=GY F (es.map (·.1)) (by simpa using O);have d:(es.map (·.1)).toList.length=es.size:=by simp
 let live:=(List.range (m+1)).filterMap fun j=>(o.getD j none).map (j,·)
 let g:Nat->Int×Value:=fun k=>es.getD k (0,.none)
 have e:∀p,p∈live↔p.1<m+1/\Ow o p.1=some p.2:=fun p=>by
  show p∈(List.range (m+1)).filterMap (fun j=>(o.getD j none).map (j,·))↔_;rw[Qe9 (f:=fun j=>o.getD j none),NY]
 have lk:∀p∈live,p.2<es.size:=fun p a=>by
  obtain⟨h,q,_⟩:=L.own p.1 p.2 ((e p).mp a).2;have:=(Ng.mp q).1;rwa[d]at this
 have lt:(live.map (·.1)).Pairwise (·<·):=List.Pairwise.sublist (WQ (fun j=>o.getD j none) (List.range (m+1))) Lc;have y:∀k,k<es.size->es[k]?=some (g k):=fun k b=>by simp[g,Array.getD,b]
 have A:(((live.map (·.2)).toArray).filterMap (es[·]?)).toList=live.map fun p=>g p.2:=by
  rw[Array.toList_filterMap,EI,Qf4 (f:=fun k=>es[k]?) (g:=g),N8]
  ·rfl
  ·intro k b;obtain⟨p,a,rfl⟩:=NC.mp b;exact y _ (lk p a)
 refine⟨{ mask:=m,place:=(live.map (·.1)).toArray,dummies:=#[],finger:=D,led:=led,moves:=C,plain:=t },(live.map (·.2)).toArray,?_,rfl,rfl,rfl,⟨?_,rfl,?_,?_,?_⟩,?_⟩
 ·unfold laid;rw[M];rfl
 ·rw[Qif];show((live.map (·.1)).toArray).toList.Pairwise _;rw[EI];exact lt
 ·have:=congrArg List.length A;rw[ND,Nu]at this;rw[this];simp
 ·intro j s;have x:j∈live.map (·.1):=by simpa using s
  obtain⟨p,a,rfl⟩:=NC.mp x;have:=((e p).mp a).1;show p.1<=m;lia
 ·intro q r;unfold pz at r;rw[A]at r;have l:q∈(live.map (·.1)).zip (live.map fun p=>g p.2):=by simpa using r
  rw[Qd6]at l;obtain⟨p,a,rfl⟩:=NC.mp l;obtain⟨h,B,n,H,G⟩:=L.own p.1 p.2 ((e p).mp a).2
  have E:(g p.2).1=h:=by
   have P:=y p.2 (lk p a);rw[Eo,Array.getElem?_map,P]at B;exact N1 B
  refine⟨n,?_,fun k b=>?_⟩
  ·show sj m (g p.2).1 n=p.1;rw[E];exact H
  ·show sj m (g p.2).1 k∈((live.map (·.1)).toArray).toList;rw[E,EI];have:=G k b;obtain⟨N,w⟩:=IA.mp this;exact NC.mpr ⟨(sj m h k,N),(e _).mpr ⟨by have:=(QhA m h k).1;show sj m h k<m+1;exact Ny this (EO _),w⟩,rfl⟩
 ·rw[A]
  have J:(live.map (·.2)).Perm (List.range es.size):=by
   refine Uh _ _ ?_ OC fun k=>?_
   ·unfold List.Nodup;rw[Ip];rw[Ip]at lt;refine ID ?_ lt;intro p q a r v z;have:=L.one p.1 q.1 p.2 ((e p).mp a).2 (by rw[z];exact((e q).mp r).2);exact Dv (NA this.symm) v
   ·rw[NY];constructor
    ·intro b;obtain⟨p,a,rfl⟩:=NC.mp b;exact lk p a
    ·intro b;obtain⟨j,s⟩:=L.all k (by rw[d];exact b);have:=QlL s;rw[L.size]at this;exact NC.mpr ⟨(j,k),(e _).mpr ⟨this,s⟩,rfl⟩
  have I:(live.map fun p=>g p.2).Perm ((List.range es.size).map g):=by
   have:=J.map g;rwa[N8]at this
  refine I.trans ?_
  have:(List.range es.size).map g=es.toList:=by
   apply Dn;intro i;rw[Nq]
   by_cases c:i<es.size
   ·rw[EB c];exact(y i c).symm.trans (Eo ..).symm
   ·rw[N5 (by simpa using c),N5 (by simpa using c)];rfl
  rw[this]
end Sb
namespace Mi
open L2
theorem KT:fillsNumberSlot (.type "tuple") "mul"=pure false:=PySem.fillsNumberSlot_seq (id:="tuple.__mul__") (r:=some (.builtin "tuple.__rmul__")) Fw.lookup (by decide +kernel) IL.lookup (by decide +kernel)
theorem Uq:seqRepeat? (.type "tuple")=pure (some (.builtin "tuple.__mul__")):=by
 unfold seqRepeat?;rw[OE (T:="tuple") (name:="__mul__") (id:="tuple.__mul__") Fw.lookup (by decide +kernel),OE (T:="tuple") (name:="__rmul__") (id:="tuple.__rmul__") IL.lookup (by decide +kernel)];rfl
theorem QaL(items:Array Value)(k:Nat):List.foldl (fun c b=>c++b) #[] (List.replicate k items)=(List.replicate k items.toList).flatten.toArray:=by
 have:∀(k:Nat) (a:Array Value),List.foldl (fun c b=>c++b) a (List.replicate k items)=(a.toList++(List.replicate k items.toList).flatten).toArray:=by
  intro k
  induction k with
  |zero=>intro a;simp
  |succ k d=>intro a;rw[N9,DY,d,N9,EZ];simp
 simpa using this k #[]
theorem K0{a:Type}(l:List a):∀k:Nat,(List.replicate k l).flatten.length=l.length*k
 |0=>rfl
 |k+1=>by rw[N9,EZ,Np,K0 l k,Nat.mul_succ];exact Nat.add_comm _ _
theorem Qa4(a:Int)(t:Tok)(l:Addr)(items:Array Value)(n:Nat)(e:Option Addr)(c:Array (Option Value)) :
  Meets (Builtin.«int.__rmul__» ⟨[.int a t,.ref l],[]⟩) (fun _ R s=>s.heap.get? l=some { cls:=.type "tuple",dict:=e,data:=.seq items n,slots:=c }/\R (.ok (.ret Value.notImplemented)) s):=
 .of_wp fun b w A R s h=>by obtain⟨i,g,d,f,os⟩:=s;obtain⟨j,h⟩:=h;wp_walk;exact⟨_,rfl,h⟩
theorem Qdl(l:Addr)(items:Array Value)(n:Nat)(p:Option Addr)(i:Array (Option Value))(x:Int)(u:Tok)(b:items.isEmpty=false)(D:2<=x)(o:x<=1000)(m:items.size<=1000) :
  Meets (Builtin.«tuple.__mul__» ⟨[.ref l,.int x u],[]⟩) (fun _ R s=>s.heap.get? l=some { cls:=.type "tuple",dict:=p,data:=.seq items n,slots:=i } /\
   R (.ok (.ret (.ref s.heap.objs.size))) { s with heap:=s.heap.push { cls:=.type "tuple",data:=.seq ((List.replicate x.toNat items).foldl (·++·) #[]) } }):=
 .of_wp fun a w A R s h=>by
  obtain⟨B,g,d,z,os⟩:=s;obtain⟨j,h⟩:=h;have f1:=AutoSeq1.idx_int
  have y:(decide (x < -(2^63:Int)) ||decide (x >= 2^63))=false:=by
   rw[decide_eq_false (by lia),decide_eq_false (by lia)];rfl
  have v:(items.isEmpty ||x==1)=false:=by
   rw[b];have:(x==1)=false:=beq_eq_false_iff_ne.mpr (by lia);rw[this];rfl
  have t:(decide (x<=0) ||items.isEmpty)=false:=by
   rw[b,decide_eq_false (by lia)];rfl
  have C:(items.size:Int)*x<=1000000:=by
   have:=Int.mul_le_mul (show(items.size:Int)<=1000 by lia) o (by lia) (by decide);exact Fb this (by decide)
  wp_walk
  rw[if_neg (by rw[y];simp)];refine Na (LW j rfl ?_);rw[if_neg (by rw[v];simp),if_neg (by rw[t];simp)];rw[if_neg (by lia)]
  have r:¬Builtin.Tuple.tupleTooMany ((items.size:Int)*x)=true:=by
   simp[Builtin.Tuple.tupleTooMany];have:sizeLine=16777216:=by decide
   lia
  rw[if_neg r];unfold Builtin.Tuple.tupleExact;refine Na (NX (Nh ⟨_,rfl,h⟩) ?_);show(List.foldl (fun f c=>f++c) #[] (List.replicate x.toNat items)).size<=sizeLine;rw[QaL,Nj,K0];have:items.toList.length*x.toNat<=1000*1000:=Lk (by rw[ND];exact m) (by lia);have e:sizeLine=16777216:=by decide
  lia
noncomputable def GM(a b:W)(h:MH):Option (W×MH):=match a,b with
 |.tup c,.int n=>if 2<=n/\n<=1000/\0<c.length/\c.length<=1000 then some (.tup (List.replicate n.toNat c).flatten,h)else none
 |_,_=>none
theorem Qcy{K:Nd}{R:Rn}{ws:List W}{xs:List V}(r:Rws K R ws xs):∀k:Nat,Rws K R (List.replicate k ws).flatten (List.replicate k xs).flatten
 |0=>by unfold Rws;rfl
 |k+1=>by
  rw[N9,N9,EZ,EZ];exact Rws.append r (Qcy r k)
theorem Qag{xs:List V}{us:List Value}(r:Vals xs us):∀k:Nat,Vals (List.replicate k xs).flatten (List.replicate k us).flatten
 |0=>.nil
 |k+1=>by
  rw[N9,N9,EZ,EZ];exact Vals.append r (Qag r k)
theorem Qfr{X:Cx}:OpR X (binaryOp .Mult) (F2 X.K GM):=by
 intro E s σ H x y v u Q I P O q;obtain⟨R,h,a,b,w,h',C,Y,S,e,k⟩:=q;unfold GM at e;split at e
 ·split at e
  ·rename_i ws n f;cases e;obtain⟨ad,L,rfl,Z,D⟩:=C.tupAt Y;have eb:=S.int_eq;subst eb;cases P;obtain⟨t,rfl⟩:=O;obtain⟨c,B,⟨⟨cls,J,data,A⟩,d,G,m,hd⟩,hz⟩:=I.tuple Z;simp only at G hd;subst G hd;have l:=D.length;have j:=B.length;have r:c≠[]:=fun z=>by rw[z,FJ]at j;exact Dv (Nr (NA l) (NA j)) f.2.2.1
   have p:c.toArray.size<=1000:=by rw[Nj];exact Nr (Nr (NA j.symm) (NA l.symm)) f.2.2.2
   refine wpAny_binaryOp_repeat_ref (T:="tuple") (U:="int") (by decide) ⟨_,d,rfl⟩ (fun N=>OL N n t) KT PySem.F.fills_int_mul Ll Uq PySem.F.slot_int_index.lookup
    (Dd Ll (OL s n t) PySem.F.entry_int_rmul (PySem.F.args_int_rmul_2 _ _) (Qa4 n t ad c.toArray m J A)
     ⟨d,rfl,⟨_,d,rfl⟩,Dd Fw ⟨_,d,rfl⟩ PySem.F.entry_tuple_mul (PySem.F.args_tuple_mul_2 _ _)
      (Qdl ad c.toArray m J A n t (by simp[r]) f.1 f.2.1 p) ⟨d,?_⟩⟩)
   rw[QaL,EI];have hp:=I.hok.fresh (Nt s.heap.objs.size);obtain⟨R3,M,i,g⟩:=C.tup hp (Qcy D n.toNat);refine⟨.ref s.heap.objs.size,_,I.laid (t':=s.toks) (fun b o e=>Nn _ e) (Nt _) (show ObjOk X.prog X.w _ _ _ (.tup _)from⟨?_,_,Qag B n.toNat,_,Nw _ rfl,rfl,0,rfl⟩),rfl,k R3 _ _ M i g⟩;rw[K0];have:L.length*n.toNat<=1000*1000:=Lk (Nr (NA l.symm) f.2.2.2) (by lia);have e:sizeLine=16777216:=by decide
   lia
  ·cases e
 ·cases e
end Mi
namespace St
open SetTable
theorem QiV:Sb.Full 15:=by unfold Sb.Full;decide +kernel
theorem QjX:Sb.Full 63:=by unfold Sb.Full;decide +kernel
theorem QaC(h:n<=62):∃m,sizeAbove n=m+1/\Sb.Full m/\n<=m/\m<=63:=by
 have key:∀k:Fin 63,(sizeAbove k.val=8/\k.val<=7)\/(sizeAbove k.val=16/\k.val<=15)\/(sizeAbove k.val=32/\k.val<=31)\/(sizeAbove k.val=64/\k.val<=63):=by decide
 rcases key ⟨n,Nat.lt_succ_of_le h⟩with z|z|z|z
 ·exact⟨7,z.1,Sb.full7,z.2,by decide⟩
 ·exact⟨15,z.1,QiV,z.2,by decide⟩
 ·exact⟨31,z.1,Sb.full31,z.2,by decide⟩
 ·exact⟨63,z.1,QjX,z.2,by decide⟩
section
variable{prog:Program}{w:World}{A:Around}{E:Value->Shared->Prop}{s:Shared}
theorem QbQ{a:Addr}{ks:List Str}{es es':Array (Int×Value)}{o:Obj}{x:Nat}{t t':SetTable}{i:Array (Int×Value)}{Q:Unit->Shared->Prop}(j:s.heap.get? a=some o)(m:o.ExactSet)(hd:o.data=.set i x t)
  (f:ElemsOf (strKind prog w) es.toList) (l:es.size<scanBound) (pm:es'.toList.Perm es.toList) (r:t'.fits es'.size=true) (c:es.size=0\/t'.plain=false) (d:ks.Nodup) (n:es.size=ks.length) (b:∀k,k∈ks↔∃e∈es.toList,(strKind prog w).is k e.2=true)
  (h:∀h',Heap.SameBut a s.heap h'->SetL prog w h' a ks t'.led->Q () { s with heap:=h' }):wpAny (model prog w) A (storeSet a es' t') Q E s:=by
 have sz:es'.size=es.size:=by rw[<-ND,pm.length_eq,ND]
 obtain⟨g1,g2,⟨v,g3⟩,u⟩:=stored (prog:=prog) (w:=w) (es':=es') (t':=t') (ks:=ks) j m hd (f.perm pm) (by rw[sz];exact l) r (by rw[sz];exact c) d (by rw[sz];exact n) fun k=>by
  rw[b k];exact⟨fun⟨e,g,p⟩=>⟨e,pm.mem_iff.mpr g,p⟩,fun⟨e,g,p⟩=>⟨e,pm.mem_iff.mp g,p⟩⟩
 exact Fl j hd (h _ (NT ..) u) (Im (by rw[sz];exact l))
theorem QjV{a:Addr}{ks:List Str}{led:Bool}{c:Nat}{Q:Unit->Shared->Prop}(L:SetL prog w s.heap a ks led)(hw:c<=62)(N:ks.length<=c)
  (h:∀h',Heap.SameBut a s.heap h'->SetL prog w h' a ks led->Q () { s with heap:=h' }):wpAny (model prog w) A (setRelay a c) Q E s:=by
 obtain⟨o,b,P,t,r,G,hd,l,J,I,f,i,j,H,e⟩:=L;obtain⟨m,u,F,O,M⟩:=QaC hw;unfold setRelay;refine Na (NM r hd I ?_);dsimp only;have big:¬sizeAbove c>sizeLine:=by rw[u,EU];exact Ec.mpr (Ny M (by decide))
 rw[if_neg big];obtain⟨n,g,D,C,B,y,x,p⟩:=Sb.laid_ok F b (by omega) t.finger (t.movedTo m) t.led t.plain
 have rel:t.relaid (b.map (·.1)) c=some (n,g):=by
  unfold relaid;rw[u];exact D
 rw[rel];refine Na ?_;have d:(g.filterMap (b[·]?)).size=b.size:=by rw[<-ND,p.length_eq,ND]
 show wpAny _ _ (do
  if(g.filterMap (b[·]?)).size != b.size then unsupported "internal:set-table-lost-an-element"
  pure (g.filterMap (b[·]?),n)) _ _ _
 rw[if_neg (by rw[d];simp)];refine Na (Nh (Nh ?_));dsimp only;refine QbQ (ks:=ks) r G hd l J p (x.fits (by rw[d,C];omega)) ?_ j H e fun h' v z=>h h' v (by rw[<-f,<-B];exact z)
 rcases i with z|z
 ·exact .inl z
 ·exact .inr (y.trans z)
end
section
variable{prog:Program}{w:World}{A:Around}{E:Value->Shared->Prop}{s:Shared}
def Emp(h:Heap)(a:Addr)(led:Bool)(n:Nat):Prop:=∃o b t,h.get? a=some o/\o.ExactSet/\o.data=.set #[] b t/\t.fill=0/\t.fits 0=true/\t.led=led/\Sb.Full t.mask/\n<=t.mask
theorem Qmr{r:Addr}{led:Bool}{n:Nat}{Q:Unit->Shared->Prop}(hr:s.heap.get? r=some (Qv led))(v:n<=31)
  (h:∀h',Heap.SameBut r s.heap h'->Emp h' r led n->Q () { s with heap:=h' }):wpAny (model prog w) A (setRoomFor r n) Q E s:=by
 unfold setRoomFor;refine Na (NM hr rfl (show(fresh 0 0 led).fits 0=true from rfl) ?_)
 have t:(fresh 0 0 led).roomFor n=if n*5 >= 21 then some (n*2)else none:=by
  show(if(0+n)*5 >= 7*3 then some ((0+n)*2)else none)=_;rw[NG]
 dsimp only;rw[t]
 by_cases g:n*5 >= 21
 ·rw[if_pos g];dsimp only;obtain⟨m,e,F,x,p⟩:=QaC (n:=n*2) (by omega);unfold setRelay;refine Na (NM hr rfl (show(fresh 0 0 led).fits 0=true from rfl) ?_);dsimp only;have big:¬sizeAbove (n*2)>sizeLine:=by rw[e,EU];exact Ec.mpr (Ny p (by decide))
  rw[if_neg big];obtain⟨a,b,o,l,j,u,d,i⟩:=Sb.laid_ok F #[] (N6 _) (fresh 0 0 led).finger ((fresh 0 0 led).movedTo m) (fresh 0 0 led).led (fresh 0 0 led).plain
  have rel:(fresh 0 0 led).relaid ((#[]:Array (Int×Value)).map (·.1)) (n*2)=some (a,b):=by
   unfold relaid;rw[e];exact o
  rw[rel];refine Na ?_;have c:(b.filterMap ((#[]:Array (Int×Value))[·]?)).size=0:=by rw[<-ND,i.length_eq];rfl
  have f:b.filterMap ((#[]:Array (Int×Value))[·]?)=#[]:=FN c
  show wpAny _ _ (do
   if(b.filterMap ((#[]:Array (Int×Value))[·]?)).size != (#[]:Array (Int×Value)).size then unsupported "internal:set-table-lost-an-element"
   pure (b.filterMap ((#[]:Array (Int×Value))[·]?),a)) _ _ _
  rw[if_neg (by rw[c];simp)];refine Na (Nh (Nh ?_));dsimp only;rw[f];rw[f]at d;refine Fl hr rfl (h _ (NT ..) ?_) (by decide);have g1:(s.heap.update r (Obj.putSet #[] a)).get? r=some (Obj.putSet #[] a (Qv led)):=Eb _ hr rfl;exact⟨_,_,a,g1,⟨rfl,rfl,rfl⟩,rfl,d.fill,d.fits (N6 _),j,by rw[l];exact F,by omega⟩
 ·rw[if_neg g];exact Nh (h s.heap (DH r s.heap) ⟨_,_,_,hr,⟨rfl,rfl,rfl⟩,rfl,rfl,rfl,rfl,Sb.full7,by show n<=7;omega⟩)
theorem QfE{r o:Addr}{ks:List Str}{led:Bool}{B:Sem Unit}{Q:Unit->Shared->Prop}(hr:s.heap.get? r=some (Qv led))(hS:SetL prog w s.heap o ks led)(H:r≠o)(hk:ks.length<=31)
  (h:∀h',Heap.SameBut r s.heap h'->SetL prog w h' r ks led->(ks=[]->h'=s.heap)->Q () { s with heap:=h' }):wpAny (model prog w) A (setMerge r o B) Q E s:=by
 obtain⟨ob,a,ep,t,ho,hx,hd,y,T,S,e,G,u,I,d⟩:=hS;unfold setMerge;rw[if_neg (by simpa using H)];refine Na (NM ho hd S ?_);dsimp only
 by_cases C:a.isEmpty=true
 ·rw[if_pos C];have O:a.size=0:=by simpa[Array.isEmpty]using C
  have J:ks=[]:=NO.mp (by omega);subst J;exact Nh (h s.heap (DH r s.heap) (We hr) fun _=>rfl)
 ·rw [if_neg C];have O:a.size≠0:=by simpa[Array.isEmpty]using C
  have f:ks≠[]:=fun z=>O (by rw[I,z];rfl);refine Na (Qmr hr (n:=a.size) (by omega) fun N l em=>?_);obtain⟨o1,aa,j,g,m,i,M,L,x,F1,v⟩:=em;have c:t.plain=false:=by rcases G with z|z;exact absurd z O;exact z
  refine Na (NM (s:={ s with heap:=N }) g i L ?_);dsimp only;unfold road;rw[if_neg (by rw[M];decide)];split
  ·rename_i b;split at b
   ·exact QbQ (s:={ s with heap:=N }) (ks:=ks) (es:=a) g m i y T (Lm _) S (.inr (by show(j.plain&&t.plain)=false;rw[c,E9])) u I d fun h' D z=>h h' (l.trans D) (by
     have:(j.led&&t.led)=led:=by rw[x,e,O1]
     rw[<-this];exact z) fun z=>absurd z f
   ·cases b
  ·rename_i b;obtain⟨P,F,l1,Z,Y,X,U,R⟩:=Sb.laid_ok F1 a v j.finger j.moves (j.led&&t.led) (j.plain&&t.plain);rw[l1];have p:(F.filterMap (a[·]?)).size=a.size:=by rw[<-ND,R.length_eq,ND]
   refine Na ?_
   show wpAny _ _ (do
    if(F.filterMap (a[·]?)).size != a.size then unsupported "internal:set-table-lost-an-element"
    pure (F.filterMap (a[·]?),P)) _ _ _
   rw[if_neg (by rw[p];simp)];refine Na (Nh (Nh ?_));dsimp only
   exact QbQ (s:={ s with heap:=N }) (ks:=ks) (es:=a) g m i y T R (U.fits (by rw[p,Z];exact v)) (.inr (by rw[X,c,E9])) u I d fun h' D z=>h h' (l.trans D) (by
     have:P.led=led:=by rw[Y,x,e,O1]
     rw[<-this];exact z) fun z=>absurd z f
  ·rename_i b;split at b<;>cases b
end
section
variable{prog:Program}{w:World}{A:Around}{E:Value->Shared->Prop}{s:Shared}
theorem Qmt{o:Addr}{ob:Obj}{es:Array (Int×Value)}{f:Nat}{t:SetTable}{Q:Array (Int×Value)->Shared->Prop}(c:s.heap.get? o=some ob)(hd:ob.data=.set es f t)(e:t.fits es.size=true)(a:es.size=0\/t.plain=false)
  (h:∀xs d,xs.toList.Perm es.toList->Q xs { s with drawn:=d }):wpAny (model prog w) A (setWalk o) Q E s:=by
 unfold setWalk;refine Na (NM c hd e ?_);dsimp only;unfold setsByText;refine Na (Na (Ew (Nh ?_)));dsimp only;split
 ·exact Na (Ew (Nh (h _ s.drawn (UE _ _))))
 ·show wpAny _ _ (if(!t.plain&&decide (es.size>1))=true then(do return(<-drawOrder es.size es.toList).toArray)else do
   (if(!t.led&&decide (es.size>1))=true then unsupported "set:maker-not-led"else pure ())
   return es) _ _ _
  split
  ·exact Na (Yg _ _ _ _ (ND).symm fun g d p=>Nh (h _ d (by simpa using p)))
  ·rename_i b
   have i:¬es.size>1:=fun z=>b (by
    rcases a with q|q
    ·omega
    ·rw[q];simpa using z)
   rw[if_neg (by simp;intro _;omega)];exact Na (Nh (Nh (h _ s.drawn (Lm _))))
theorem Qi0{es:List (Int×Value)}(a:ElemsOf (strKind prog w) es):∀e∈es,∃x c,e.2=.str x c:=fun e d=>by
 obtain⟨⟨k,b,_⟩,_⟩:=a e d;obtain⟨c,f⟩:=Dw b;exact⟨k,c,f⟩
end
section
variable{prog:Program}{w:World}{A:Around}{E:Value->Shared->Prop}{s:Shared}
theorem QbC{Q:Bool->Shared->Prop}{d:List Addr}(z:∀a∈d,∃ks led,SetL prog w s.heap a ks led)(h:Q true s):wpAny (model prog w) A (setsQuiet d) Q E s:=by
 unfold setsQuiet;refine Na (wpAny_forIn_list _ (fun l b j=>(∀a∈l,∃ks led,SetL prog w j.heap a ks led)/\b.1=none/\j=s) _ ?_ ?_ d _ ⟨z,rfl,rfl⟩)
 ·rintro a rest b j ⟨r,i,rfl⟩
  obtain⟨ks,led,o,H,J,t,B,I,hd,p,F,C,_⟩:=r a Nx;unfold setEntries;refine Na (Na (NM B hd C (Nh ?_)));dsimp only;refine Na (L6 _ (fun l b f=>(∀e∈l,∃x c,e.2=.str x c)/\b.1=none/\f=j) _ ?_ ?_ H _ ⟨Qi0 p,rfl,rfl⟩)
  ·rintro e n b f ⟨m,i,rfl⟩
   obtain⟨x,c,y⟩:=m e Nx;obtain⟨g,v⟩:=e;dsimp only at y;subst y;exact Nh ⟨fun e D=>m e (No _ D),rfl,rfl⟩
  ·rintro⟨b,u⟩ f ⟨_,i,rfl⟩
   dsimp only at i;subst i;exact Nh ⟨fun a G=>r a (No _ G),rfl,rfl⟩
 ·rintro⟨b,u⟩ j ⟨_,i,rfl⟩
  dsimp only at i;subst i;exact Nh h
theorem Qhm{o r:Addr}{ob:Obj}{es:Array (Int×Value)}{M:Nat}{t:SetTable}{c g:List Str}{led:Bool}{Q:Array (Int×Value)->Shared->Prop}(x:s.heap.get? o=some ob)(hd:ob.data=.set es M t)(B:t.fits es.size=true)(i:es.size=0\/t.plain=false)(f:t.led=led)
  (I:SetL prog w s.heap o g led) (hr:SetL prog w s.heap r c led) (m:c≠[])
  (h:∀xs d,xs.toList.Perm es.toList->Q xs { s with drawn:=d }):wpAny (model prog w) A (setWalkUnseen o [r] (some r)) Q E s:=by
 unfold setWalkUnseen;refine Na (NM x hd B ?_);dsimp only;unfold setsByText;refine Na (Na (Ew (Nh ?_)));dsimp only;split
 ·exact Qmt x hd B i h
 ·refine Na (QbC (fun a v=>?_) ?_)
  ·rcases NB.mp v with rfl|v
   ·exact⟨_,_,I⟩
   ·rw[NH.mp v];exact⟨_,_,hr⟩
  ·rw[if_neg (by decide)];refine Na (Fg ?_);obtain⟨N,J,L,D,l,F,u,C,H,p,b,e,y,G,n⟩:=hr
   have j:D.plain=false:=by
    rcases e with z|z
    ·exact absurd (NO.mp (by omega)) m
    ·exact z
   refine Na (NM l u p ?_);dsimp only;rw[if_neg (by rw[b,f,j];cases led<;>simp)];exact Nh (h es s.drawn (Lm _))
end
section
variable{prog:Program}{w:World}{A:Around}{E:Value->Shared->Prop}{s:Shared}
theorem Qmw{r:Addr}{ks:List Str}{led:Bool}{n:Nat}{Q:Unit->Shared->Prop}(hr:SetL prog w s.heap r ks led)(x:ks.length+n<=31)
  (h:∀h',Heap.SameBut r s.heap h'->SetL prog w h' r ks led->Q () { s with heap:=h' }):wpAny (model prog w) A (setRoomFor r n) Q E s:=by
 have b:=hr;obtain⟨o,p,z,t,j,v,hd,m,y,d,g,i,l,c,f⟩:=hr;unfold setRoomFor;refine Na (NM j hd d ?_)
 have e:t.place.size=p.size:=by
  unfold SetTable.fits at d;simp at d;exact d.1
 dsimp only;unfold roomFor;split
 ·rename_i u a;split at a
  ·cases a;exact QjV b (by rw[e,c];omega) (by rw[e,c];omega) h
  ·cases a
 ·exact Nh (h s.heap (DH r s.heap) b)
theorem Qkw{r o:Addr}{f a:List Str}{led:Bool}{id:String}{Q:Unit->Shared->Prop}(hr:SetL prog w s.heap r f led)(hS:SetL prog w s.heap o a led)(i:r≠o)(h1:f≠[])(hk:f.length+a.length<=31)
  (h:∀h' d us,Heap.SameBut r s.heap h'->SetL prog w h' r us led->(∀k,k∈us↔k∈f\/k∈a)->Q () { s with heap:=h',drawn:=d }):wpAny (model prog w) A (Builtin.Frozenset.merge id r o) Q E s:=by
 have ao:=hS;obtain⟨ob,es,ep,t,S,hx,hd,al,hb,N,M,aa,au,hn,L⟩:=hS;unfold Builtin.Frozenset.merge setEpoch;refine Na (Na (NM S hd N (Nh ?_)));dsimp only;unfold setMerge;rw[if_neg (by simpa using i)];refine Na (NM S hd N ?_);dsimp only
 by_cases X:es.isEmpty=true
 ·rw[if_pos X];have h0:es.size=0:=by simpa[Array.isEmpty]using X
  have ai:a=[]:=NO.mp (by omega);subst ai;exact Nh (h s.heap s.drawn f (DH r s.heap) hr fun k=>by simp)
 ·rw [if_neg X];refine Na (Qmw hr (n:=es.size) (by omega) fun j v H=>?_);have ab:j.get? o=some ob:=by rw[v.2 o i.symm];exact S
  have an:SetL prog w j o a led:=ao.at fun o' e=>by rw[v.2 o i.symm];exact e
  have u:=H;obtain⟨o1,ax,ay,t1,J,as,am,ar,aw,D,af,ap,aq,av,ae⟩:=H;refine Na (NM (s:={ s with heap:=j }) J am D ?_);dsimp only
  have C:t1.fill≠0:=by
   unfold SetTable.fits at D;simp at D;have:f.length≠0:=fun z=>h1 (NO.mp z);unfold SetTable.fill;omega
  have y:t1.road t=.oneByOne:=by
   unfold road;rw[if_pos (by simpa using C)]
  rw[y];dsimp only;refine Na (Qhm (s:={ s with heap:=j }) ab hd N aa M an u h1 fun R d pm=>?_)
  have hex:∀e∈R.toList,∃x c,e=((strKind prog w).hash x,Value.str x c):=fun e g=>by
   obtain⟨⟨k,ak,aj⟩,_⟩:=al e (pm.mem_iff.mp g);obtain⟨c,hc⟩:=Dw ak;exact⟨k,c,by rw[<-aj,<-hc]⟩
  have P:∀k,k∈a↔∃e∈R.toList,(strKind prog w).is k e.2=true:=fun k=>by
   rw[L k];exact⟨fun⟨e,g,p⟩=>⟨e,pm.mem_iff.mpr g,p⟩,fun⟨e,g,p⟩=>⟨e,pm.mem_iff.mp g,p⟩⟩
  have Y:R.toList.length=a.length:=by rw[pm.length_eq,ND,hn]
  refine Na (L6 _ (fun l _ U=>∃h' us,U={ s with heap:=h',drawn:=d }/\Heap.SameBut r s.heap h'/\SetL prog w h' r us led/\(∀e∈l,∃x c,e=((strKind prog w).hash x,Value.str x c))/\(∀k,(k∈us\/∃e∈l,(strKind prog w).is k e.2=true)↔k∈f\/k∈a)/\us.length+l.length<=62) _ ?_ ?_ R _ ⟨j,f,rfl,v,u,hex,fun k=>by rw[P k],by rw[Y];omega⟩)
  ·rintro e rest b U ⟨h2,us,rfl,m,hu,O,B,ah⟩
   obtain⟨x,c,rfl⟩:=O e Nx;rw[NW]at ah;dsimp only;refine Na (Ey (Qeb (s:={ s with heap:=h2,drawn:=d }) hu (by have:scanBound=4096:=rfl;omega) fun b' T F Z=>?_));have I:T.get? o=some ob:=by rw[F.2 o i.symm,m.2 o i.symm];exact S
   unfold Builtin.Frozenset.unchanged setEpoch;refine Na (Na (Na (NM (s:={ s with heap:=T,drawn:=d }) I hd N (Nh ?_))));rw[if_neg (by simp)];refine Nh (Na (NM (s:={ s with heap:=T,drawn:=d }) I hd N ?_));rw[if_neg (by simp)];refine Nh ⟨T,_,rfl,m.trans F,Z,fun e g=>O e (No _ g),fun k=>?_,?_⟩
   ·rw [<-B k];have G:(strKind prog w).is k (Value.str x c)=true↔k=x:=⟨fun z=>(strKind prog w).inj _ _ _ z (Qal x c),fun z=>by rw[z];exact Qal x c⟩
    constructor
    ·rintro(z|⟨e,g,p⟩)
     ·split at z
      ·exact .inl z
      ·rcases NQ.mp z with z|z
       ·exact .inl z
       ·exact .inr ⟨_,Nx,G.mpr (NH.mp z)⟩
     ·exact .inr ⟨e,No _ g,p⟩
    ·rintro(z|⟨e,g,p⟩)
     ·left;split
      ·exact z
      ·exact N2 _ z
     ·rcases NB.mp g with rfl|g
      ·left;have:=G.mp p;split
       ·rename_i q;rw[this];exact q
       ·rw[this];simp
      ·exact .inr ⟨e,g,p⟩
   ·split
    ·omega
    ·rw[Np,NK];omega
  ·rintro b U ⟨h2,us,rfl,m,hu,_,B,_⟩
   exact Nh (h h2 d us m hu fun k=>by simpa using B k)
end
theorem Qke:entryFor table "set.__or__"=some Builtin.«frozenset.__or__»:=FZ (id':="frozenset.__or__") (by kernel_rfl) rfl (by decide +kernel) (by kernel_rfl)
theorem QlY(a b:Value):argsOk "set.__or__" ⟨[a,b],[]⟩:=by unfold argsOk;kernel_rfl
section
variable{prog:Program}{w:World}{A:Around}{E:Value->Shared->Prop}{s:Shared}
theorem QlQ{S:Addr}{Q:Bool->Shared->Prop}(t:s.TypeIs (.ref S) "set")(h:Q true s):wpAny (model prog w) A (Builtin.Frozenset.isAnySet (.ref S)) Q E s:=by
 obtain⟨o,g,f⟩:=t;obtain⟨d,b,c,a⟩:=o;simp only at f;subst f;have e:=L3;unfold Builtin.Frozenset.isAnySet
 wp_walk
 exact h
end
section
variable{prog:Program}{w:World}{A:Around}{E:Value->Shared->Prop}{s:Shared}
theorem SetL.ty{h:Heap}{a:Addr}{ks:List Str}{led:Bool}(d:SetL prog w h a ks led){s:Shared}(e:s.heap=h):s.TypeIs (.ref a) "set":=by
 subst e;obtain⟨o,f,g,t,c,b,hr⟩:=d;exact⟨o,c,b.1⟩
theorem Qo1{r o:Addr}{a b:List Str}{id:String}{Q:Unit->Shared->Prop}(hr:SetL prog w s.heap r a (ledW w))(e:SetL prog w s.heap o b (ledW w))(c:r≠o)(z:a=[]->s.heap.get? r=some (Qv (ledW w)))(m:a.length+b.length<=31)
  (h:∀h' d us,Heap.SameBut r s.heap h'->SetL prog w h' r us (ledW w)->(∀k,k∈us↔k∈a\/k∈b)->Q () { s with heap:=h',drawn:=d }):wpAny (model prog w) A (Builtin.Frozenset.updateFrom id r (.ref o)) Q E s:=by
 unfold Builtin.Frozenset.updateFrom;refine Na (QlQ (e.ty rfl) ?_);rw[if_pos rfl];refine Na (Nh ?_)
 by_cases i:a=[]
 ·subst i;unfold Builtin.Frozenset.merge;have g:=e;obtain⟨ob,F,G,t,u,B,hd,y,D,x,l,p,v,C,j⟩:=e;unfold setEpoch;refine Na (Na (NM u hd x (Nh ?_)));exact QfE (z rfl) g c (by simpa using m) fun h' n f _=>h h' s.drawn b n f fun k=>by simp
 ·exact Qkw hr e c i m h
theorem unionL{a b:Addr}{g f:List Str}{Q:Value->Shared->Prop}(J:SetL prog w s.heap a g (ledW w))(I:SetL prog w s.heap b f (ledW w))(C:a≠b)(hk:g.length+f.length<=31)
  (h:∀h' d us,(∀c o,s.heap.get? c=some o->h'.get? c=some o)->SetL prog w h' s.heap.objs.size us (ledW w)->(∀k,k∈us↔k∈g\/k∈f)->Q (.ref s.heap.objs.size) { s with heap:=h',drawn:=d }) :
  wpAny (model prog w) A (binaryOp .BitOr (.ref a) (.ref b)) Q E s:=by
 have L:s.TypeIs (.ref a) "set":=J.ty rfl;have S:s.TypeIs (.ref b) "set":=I.ty rfl;refine wpAny_binaryOp_same (T:="set") L S F.fills_set_or F.slot_set_or ?_;refine Ee F.slot_set_or L Qke ?_ (QlY _ _);have u:=J;have t:=I;obtain⟨⟨c1,d1,q1,X⟩,ab,af,R,Z,⟨r,n,l⟩,r1⟩:=J;obtain⟨⟨c2,d2,q2,U⟩,aa,ae,P,Y,⟨p,m,j⟩,r2⟩:=I;simp only at r n l p m j;subst r n l p m j;have N:=L3;unfold Builtin.«frozenset.__or__»
 wp_walk
 refine Ew (Nh ?_);dsimp only;simp only[if_true,newObj];have O:(s.heap.push (Qv (ledW w))).get? s.heap.objs.size=some (Qv (ledW w)):=Nw _ rfl;have H:SetL prog w (s.heap.push (Qv (ledW w))) a g (ledW w):=u.at fun o e=>Nn _ e;have x:s.heap.objs.size≠a:=D2 u.lt;have i:s.heap.objs.size≠b:=D2 t.lt;refine Na (wpAny_alloc (Nh ?_))
 show wpAny _ _ (do
  setMerge s.heap.objs.size a
  pure (Value.ref s.heap.objs.size)) _ _ _
 refine Na (QfE (s:={ s with heap:=s.heap.push (Qv (ledW w)) }) O H x (by omega) fun h' M G he=>Nh ?_);dsimp only;have B:SetL prog w h' b f (ledW w):=t.at fun o e=>by rw[M.2 b i.symm];exact Nn _ e
 have y:((Value.ref b != Value.ref a)=true):=by simp[bne];exact fun z=>C z.symm
 simp only[D1,if_false];rw[if_pos y];refine Na (Nh ?_);refine Na (Ey (Qo1 (s:={ s with heap:=h' }) G B i (fun z=>by rw[he z];exact O) hk fun h3 d us v D hm=>Nh (Nh ?_)));refine⟨_,rfl,by simp,h h3 d us (fun c o e=>?_) D hm⟩;rw[v.2 c (NP (Nv e)),M.2 c (NP (Nv e))];exact Nn _ e
end
theorem uniq_nd:∀(n:Nat) (l:List PySem.Str),l.length=n->(uniq l).Nodup:=by
 intro n
 induction n with
 |zero=>intro l h;rw[NO.mp h];exact Db
 |succ n d=>
  intro l h;have c:l≠[]:=fun z=>by rw[z]at h;cases h
  rw[<-Ej c,uniq_snoc];have hd:=d l.dropLast (by rw[Lz,h];rfl);split
  ·exact hd
  ·rename_i q;exact Il.mpr ⟨hd,List.pairwise_singleton _ _,fun a f b e z=>q (by rw[NH.mp e]at z;rw[<-z];exact f)⟩
theorem nd_lenEq{a b:List PySem.Str}(d:a.Nodup)(c:b.Nodup)(h:∀k,k∈a↔k∈b):a.length=b.length:=((List.perm_ext_iff_of_nodup d c).mpr h).length_eq
end St
namespace Mi
open L2
noncomputable def Wz(ws:List W)(h:MH):Option (W×MH):=match ws with
 |[a]=>(lsW h a).bind fun c=>(txW c).bind fun b=>if b.length<4000 then some (.int (St.uniq b).length,h)else none
 |_=>none
noncomputable def Qan(ws:List W)(h:MH):Option (W×MH):=match ws with
 |[a,b]=>(lsW h a).bind fun f=>(txW f).bind fun d=>(lsW h b).bind fun e=>(txW e).bind fun c=>if d.length<4000/\c.length<4000/\(St.uniq d).length+(St.uniq c).length<=31 then some (.int (St.uniq (d++c)).length,h)else none
 |_=>none
section
variable{X:Cx}
theorem WN{e:Expr}{me:ME}{p2 i:Pos}{c:List (Addr×Obj)}{s:Shared}{σ:L2.St}{H:Hp}{R:Rn}{g:MSt}{h l:MH}{a:W}{ys:List W}{ss:List Str}(hc:X.calm=true)(C:Gl X "set")(y:X.mg "set"=none)(he:PM X e me)(F:JI e=false)
  (I:Inv X c σ H s) (Y:Rh X.K R h H) (st:Rst X.K R g σ) (e4:me g h=some (a,l)) (e8:lsW l a=some ys) (D:txW ys=some ss) (hz:ss.length<4000) {Q:Value->Shared->Prop}
  (k:∀S o m N R2,Inv X ((S,o)::c) σ N m->St.SetL X.prog X.w m.heap S (St.uniq ss) (St.ledW X.w)->m.heap.get? S=some o->Ext R R2->Rh X.K R2 l N->(∀p∈c,p.1≠S)->Q (.ref S) m) :
  wpAny (model X.prog X.w) X.A (eval (.Call (.Name "set" p2) [e] [] i) X.env) Q X.xe s:=by
 refine EC (J1 I C y boot_set (N0 ?_ (QL F) (Z6 rfl)) (by decide) (by decide));rw[QL F];refine Df (thn (he c s σ H (fun v L=>∃R2,Ext R R2/\Rh X.K R2 l L/\Rw X.K R2 a v) I ⟨R,g,h,a,l,Y,st,e4,fun R2 L v x d r=>⟨R2,x,d,r⟩⟩) fun u P ⟨v,M,I1,U,R2,O,d,r⟩=>Dp ?_);obtain⟨ad,xs,rfl,Z,E⟩:=d.lsAt r e8;cases U;rw[Qcc D]at E;obtain⟨aa,T,pl,hl⟩:=I1.list Z;have J:=QdB E T;have B:=FY J;refine St.set_list (I1.ok.hd hc) pl.isList (by rw[EI];exact J) (by rw[Nj,B];show ss.length+1<4096;lia) fun g1 n f k1=>?_;obtain⟨o,es,ep,t,G,hx,hd,hr⟩:=id f;have I2:Inv X c σ M { P with heap:=g1,toks:=n }:=I1.kept fun b u e=>k1 b u (Nv e) e;refine k _ o _ M R2 (I2.pins_of fun p j=>?_) f G O d fun p j=>NP (Nv (I1.pin p (NF _ j)).1)
 rcases NB.mp j with rfl|j
 ·exact⟨G,I1.fresh,D2 I1.lt,I1.nofs (Nt _),fun v z=>by rw[hd]at z;cases z⟩
 ·exact I2.pin p (NF _ j)
theorem Qaw{a pins':List (Addr×Obj)}{s:Shared}{σ:L2.St}{H:Hp}{S:Addr}{us:List Str}(I:Inv X a σ H s)(n:St.SetL X.prog X.w s.heap S us (St.ledW X.w)){Q:Value->Shared->Prop}(k:∀t b,Inv X a σ H b->Q (.int us.length t) b) :
  wpAny (model X.prog X.w) X.A (call (.builtin "len") [.ref S]) Q X.xe s:=by
 obtain⟨o,p,r,t,g,e,hd,l,m,j,d,f,h,i,c⟩:=n;refine call_len_set g e hd j (by have:scanBound=4096:=rfl;rw[this]at m;lia) ?_;rw[i];exact k _ _ (I.tok _)
theorem QcC{y n d b:Pos}(G:X.calm=true)(E:Gl X "len")(D:X.mg "len"=none)(j:Gl X "set")(i:X.mg "set"=none)(F:PM X e me)(B:JI e=false:=by rfl) :
  PM X (.Call (.Name "len" y) [.Call (.Name "set" n) [e] [] b] [] d) (mFn Wz (Qa me Qd)):=by
 intro m s σ H Q I ⟨R,r,h,w,h',x,st,Z,z⟩;obtain⟨⟨as,h2⟩,Y,U⟩:=Nc.mp Z;obtain⟨⟨a,h1⟩,T,P⟩:=Nc.mp Y;obtain⟨⟨bs,h3⟩,O,N⟩:=Nc.mp P;cases O;cases N;refine EC (J1 I E D Lo (EW ?_ (QL rfl) (Z6 rfl)) (by decide) (by decide));rw[QL (e:=.Call (.Name "set" n) [e] [] b) rfl];obtain⟨ys,M,L⟩:=Nc.mp U;obtain⟨v,l,c⟩:=Nc.mp L;split at c
 ·rename_i A;cases c;refine Df (WN G j i F B I x st T M l A fun S o s1 H1 R2 I1 J ho u f _=>Dp (Qaw (pins':=[]) I1 J fun t s2 I2=>?_));exact⟨.int (St.uniq v).length,H1,I2.pins_of fun p C=>I2.pin p (NF _ (No _ C)),⟨t,rfl⟩,z R2 _ _ u f (by unfold Rw;rfl)⟩
 ·cases c
theorem Qe7{p1 p2 p3 m j f c:Pos}{i:Nat}{e A:Expr}{me:ME}(hc:X.calm=true)(hg:Gl X "len")(L:X.mg "len"=none)(v:Gl X "set")(u:X.mg "set"=none)(he:PM X e me)(M:PM X A (Qb i))(hs:JI e=false:=by rfl)(F:JI A=false:=by rfl) :
  PM X (.Call (.Name "len" p1) [.BinOp (.Call (.Name "set" p2) [e] [] j) .BitOr (.Call (.Name "set" p3) [A] [] f) c] [] m) (mFn Qan (Qa me (Qa (Qb i) Qd))):=by
 intro n s σ H Q I ⟨R,aa,h,w,h',rh,st,e1,kk⟩;obtain⟨⟨as,h2⟩,e2,e3⟩:=Nc.mp e1;obtain⟨⟨a,h1⟩,e4,e5⟩:=Nc.mp e2;obtain⟨⟨bs,h3⟩,e6,e7⟩:=Nc.mp e5;cases e7;obtain⟨⟨b,h4⟩,x,f5⟩:=Nc.mp e6;cases f5
 have hh:h4=h1:=by
  unfold Qb at x;split at x
  ·cases x;rfl
  ·cases x
 subst hh;obtain⟨ys,e8,e9⟩:=Nc.mp e3;obtain⟨ss,Y,U⟩:=Nc.mp e9;obtain⟨zs,f8,f9⟩:=Nc.mp U;obtain⟨tt,P,l⟩:=Nc.mp f9;refine EC (J1 I hg L Lo (EW ?_ (QL rfl) (Z6 rfl)) (by decide) (by decide));rw[QL (e:=.BinOp (.Call (.Name "set" p2) [e] [] j) .BitOr (.Call (.Name "set" p3) [A] [] f) c) rfl];split at l
 ·rename_i E;cases l;refine Df (wpAny_BinOp (WN hc v u he hs I rh st e4 e8 Y E.1 fun S o s1 H1 R2 I1 hS ho Z C _=>?_));refine WN hc v u M F I1 C (st.mono Z) x f8 P E.2.1 fun T o2 y H2 R3 I2 hT ab x3 B r=>?_;have G:=I2.pin (S,o) (NF _ (No _ Nx));have O:St.SetL X.prog X.w y.heap S (St.uniq ss) (St.ledW X.w):=hS.at fun o' z=>by rw[ho]at z;cases z;exact G.1
  have N:S≠T:=r _ Nx;refine St.unionL O hT N E.2.2 fun g d us kp hU L=>Dp ?_;have I3:Inv X ((T,o2)::(S,o)::n) σ H2 { y with heap:=g,drawn:=d }:=Inv.drew (s:={ y with heap:=g }) (I2.kept (t':=y.toks) kp) d;refine Qaw (pins':=[]) I3 hU fun t s3 I4=>?_
  have hl:us.length=(St.uniq (ss++tt)).length:=by
   obtain⟨_,_,_,_,_,_,_,_,_,_,_,_,J,_⟩:=id hU;refine St.nd_lenEq J (St.uniq_nd _ _ rfl) fun k=>?_;rw[L k,St.uniq_mem _ _ rfl,St.uniq_mem _ _ rfl,St.uniq_mem _ _ rfl,NQ]
  rw[<-hl]at kk;exact⟨.int us.length,H2,I4.pins_of fun p hp=>I4.pin p (NF _ (No _ (No _ hp))),⟨t,rfl⟩,kk R3 _ _ (Z.trans x3) B (by unfold Rw;rfl)⟩
 ·cases l
end
theorem Qb2:∀{vs:List Value} {ys:List Int},IntsAre vs ys->Vals (ys.map V.int) vs
 |_,_,.nil=>.nil
 |_,_,.cons _ t h=>.cons ⟨t,rfl⟩ (Qb2 h)
theorem Qdy{K:Nd}{h:Heap}{x:Str}{c:Addr}{n:Nat}(X:K.In h)(G:h.Ns mainGlobals d)(a:D7 K mainGlobals x=some (some (.ref c)))
  (l:K.lookup c=some ⟨.type "tuple",g,.seq b n,f⟩) (hz:b.size<=sizeLine) (e:IntsAre b.toList ys):Glob K d x (.tup (ys.map .int)):=
 ⟨.ref c,_,DR X G a,rfl,fun R=>by
  unfold Rw
  exact⟨c,_,rfl,.inr ⟨_,b,n,l,rfl,rfl,hz,Qb2 e⟩,WH ys⟩⟩
end Mi
namespace Rv
theorem slot_rev_next:Slot "reversed" "__next__" "reversed.__next__":=.of (owner:="reversed") (n:="__next__") (by rw[DF,ER];kernel_rfl) (by decide +kernel) (by decide +kernel) (by decide +kernel) (by first|exact .inl (by decide +kernel)|exact .inr (by decide +kernel)) (by rw[Dc];kernel_rfl)
theorem X9:Slot "reversed" "__iter__" "reversed.__iter__":=.of (owner:="reversed") (n:="__iter__") (by rw[DF,ER];kernel_rfl) (by decide +kernel) (by decide +kernel) (by decide +kernel) (by first|exact .inl (by decide +kernel)|exact .inr (by decide +kernel)) (by rw[Dc];kernel_rfl)
theorem WU:Slot "reversed" "__init__" "object.__init__":=.of (owner:="object") (n:="__init__") (by rw[DF,ER];kernel_rfl) (by decide +kernel) (by decide +kernel) (by decide +kernel) (by first|exact .inl (by decide +kernel)|exact .inr (by decide +kernel)) (by rw[Dc];kernel_rfl)
theorem XF:entryFor table "reversed.__next__"=some Builtin.«reversed.__next__»:=entryFor_of_tree (by kernel_rfl)
theorem Kg(a:Value):argsOk "reversed.__next__" ⟨[a],[]⟩:=by unfold argsOk;kernel_rfl
theorem WE(a:Value):argsOk "reversed.__iter__" ⟨[a],[]⟩:=by unfold argsOk;kernel_rfl
theorem YS:entryFor table "reversed.__iter__"=some Builtin.«dict_keyiterator.__iter__»:=
 FZ (id':="dict_keyiterator.__iter__") (by kernel_rfl) (by first|rfl|decide +kernel|(unfold String.splitOn;simp +decide [String.splitOnAux])) (by decide +kernel) (by kernel_rfl)
theorem Qbu:TypeCalled "reversed" "reversed.__new__" "object.__init__":=
 ⟨by decide +kernel,by decide +kernel,⟨_,_,F.mro_reversed⟩,F.made_reversed,by decide +kernel,by rw[Dc];kernel_rfl,WU⟩
theorem Qkg:typeLookup (.type "tuple") "__reversed__"=pure none:=by rw[DF,ER];kernel_rfl
section
variable{prog:Program}{w:World}{A:Around}{E:Value->Shared->Prop}{s:Shared}
def IsRev(h:Heap)(a l:Addr)(i:Int):Prop:=∃o,h.get? a=some o/\o.cls=.type "reversed"/\o.data=.fields #[.ref l,rawInt i]
theorem IsRev.typeIs{a l:Addr}{i:Int}(x:IsRev s.heap a l i):s.TypeIs (.ref a) "reversed":=let⟨o,b,c,_⟩:=x;⟨o,b,c⟩
theorem IsRev.at{h h':Heap}{a l:Addr}{i:Int}(x:IsRev h a l i)(e:∀o,h.get? a=some o->h'.get? a=some o):IsRev h' a l i:=let⟨o,b,r⟩:=x;⟨o,e _ b,r⟩
theorem QdQ(l:Addr)(items:Array Value)(hz:(items.size:Int)<2^62):Meets (Builtin.«reversed.__new__» ⟨[.type "reversed",.ref l],[]⟩) (fun _ R s=>IsTup s.heap l items /\
      R (.ok (.ret (.ref s.heap.objs.size))) { s with heap:=s.heap.push { cls:=.type "reversed",data:=.fields #[.ref l,rawInt ((items.size:Int)-1)] },toks:=s.toks+1+1 }):=
  .of_wp fun prog w A R s h=>by
    obtain⟨f,h⟩:=h;have b:=f;obtain⟨⟨c,d,q,j⟩,i,g,n,hd⟩:=f;simp only at g hd;subst g hd;have e:isSubtype (.type "tuple") (.type "dict")=pure false:=by rw[Dc];kernel_rfl
    unfold Builtin.«reversed.__new__»;refine Na (EV (newClass_reversed _) ?_)
    try dsimp only
    refine Na (EV (a:=()) (by first|rfl|kernel_rfl) ?_);refine Na (EV (a:=()) (by first|rfl|kernel_rfl) ?_)
    try dsimp only
    refine Na (DT b.typeIs Qkg ?_)
    try dsimp only
    wp_walk using AutoSeq1.wpAny_loadPart' i
    refine EV (show typeLookup (.type "tuple") (Str.ofString "__getitem__")=pure (some (.builtin "tuple.__getitem__"))from N3.lookup) ?_;dsimp only;rw[if_pos (by decide +kernel)];refine Nh ?_;rw[if_neg (by simp)];refine Na (len_tuple b (by omega) ?_);refine Na (EV (a:=some (items.size:Int)) rfl ?_);dsimp only;refine Na ?_;unfold Builtin.SmallTypes.newRecord;dsimp only;refine NX ?_ (by size_fits);exact Nh ⟨_,rfl,h⟩
theorem call_rev{l:Addr}{items:Array Value}{Q:Value->Shared->Prop}(a:IsTup s.heap l items)(hz:(items.size:Int)<2^62)
  (h:Q (.ref s.heap.objs.size) { s with heap:=s.heap.push { cls:=.type "reversed",data:=.fields #[.ref l,rawInt ((items.size:Int)-1)] },toks:=s.toks+1+1 }):wpAny (model prog w) A (call (.type "reversed") [.ref l]) Q E s:=
 callType_new Qbu (by decide) (F.typeCall_reversed_1 _) (F.newCall_reversed_1 _) (fun obj=>LC obj _) F.entry_reversed_new (QdQ l items hz) ⟨a,⟨_,Nw _ rfl,rfl⟩,h⟩
theorem next_item{it l:Addr}{i:Nat}{items:Array Value}{x:Value}{Q:Option Value->Shared->Prop}(hit:IsRev s.heap it l (i:Int))(d:IsTup s.heap l items)(c:items[i]?=some x)(hz:(items.size:Int)<2^62)
  (f:∀h' tk,IsRev h' it l ((i:Int)-1)->Heap.SameBut it s.heap h'->Q (some x) { s with heap:=h',toks:=tk }):wpAny (model prog w) A (pyNext (.ref it)) Q E s:=by
 obtain⟨o,b,e,hd⟩:=id hit;have g:i<items.size:=(Array.getElem?_eq_some_iff.mp c).1;unfold pyNext
 refine Na (Fz (Ep (name:=Str.ofString "__next__") hit.typeIs slot_rev_next
  (Ee slot_rev_next hit.typeIs XF ?_ (Kg _))))
 unfold Builtin.«reversed.__next__»;refine Na (EV (a:=(Value.ref it,[])) rfl ?_)
 try dsimp only
 refine Na (EJ b hd (x:=.ref l) rfl ?_);refine Na (EJ b hd (x:=rawInt (i:Int)) rfl ?_);show wpAny _ _ (if(i:Int)<0 then _ else _) _ _ s;rw[if_neg (by omega)];refine Na (DT d.typeIs N3.lookup ?_);rw[if_neg (by simp)];refine Na (IW ?_);refine Na (Fz (getItem_tuple (s:={ s with toks:=s.toks+1 }) d (by omega) (by omega) (j:=i) (by unfold seqIndex?;simp;omega) c ?_));refine Na (EJ (s:={ s with toks:=s.toks+1 }) b hd (x:=rawInt (i:Int)) rfl ?_);refine Na (EA (s:={ s with toks:=s.toks+1 }) b hd (by simp) ?_);refine Nh ⟨x,rfl,Nh (f _ _ ?_ (NT ..))⟩
 exact⟨_,Eb _ b (FC (Di hd _)),(On ..).trans e,by
  rw[Di hd];simp⟩
theorem next_end{it l:Addr}{Q:Option Value->Shared->Prop}(hh:A.handled=none)(hit:IsRev s.heap it l (-1))
  (e:∀h' tk,Heap.ExtBut it s.heap h'->Q none { s with heap:=h',toks:=tk }):wpAny (model prog w) A (pyNext (.ref it)) Q E s:=by
 obtain⟨o,c,f,hd⟩:=id hit;unfold pyNext
 refine Na (Fz (Ep (name:=Str.ofString "__next__") hit.typeIs slot_rev_next
  (Ee slot_rev_next hit.typeIs XF ?_ (Kg _))))
 unfold Builtin.«reversed.__next__»;refine Na (EV (a:=(Value.ref it,[])) rfl ?_)
 try dsimp only
 refine Na (EJ c hd (x:=.ref l) rfl ?_);refine Na (EJ c hd (x:=rawInt (-1)) rfl ?_);show wpAny _ _ (if(-1:Int)<0 then _ else _) _ _ s;rw[if_pos (by decide)];refine Na (Fg ?_);refine Na (show wpAny _ _ (setField (.ref it) 1 (rawInt (-1))>>=fun _=>setField (.ref it) 0 .none) _ _ _ from ?_);refine Na (EA c hd (by simp) ?_);have d:(s.heap.update it (Obj.mapFields fun x=>x.setIfInBounds 1 (rawInt (-1)))).get? it=some (Obj.mapFields (fun x=>x.setIfInBounds 1 (rawInt (-1))) o):=Eb _ c (FC (Di hd _));refine EA (s:={ s with heap:=s.heap.update it (Obj.mapFields fun x=>x.setIfInBounds 1 (rawInt (-1))) }) d (Di hd _) (by simp) ?_
 first
 |show wpAny _ _ (newExc (.type "StopIteration") []>>=_) _ _ _
 |(refine Na ?_;show wpAny _ _ (newExc (.type "StopIteration") []>>=_) _ _ _)
 refine Na ?_;simp only[newExc,newTuple];refine Na (NX ?_ (by size_fits));refine Na (m:=firstArgMember _ _) (EV (a:=Value.none) (by first|rfl|(simp only[firstArgMember];rfl)) ?_);refine NX ?_ (by size_fits);simp only[raiseNew];refine Na (LJ ?_)
 first|rw[show A.in1.handled=none from hh]|rw[hh]
 refine Na (Nh (Ot ?_));refine Na (FA (T:="StopIteration") (b:=true) ⟨_,Nw _ rfl,rfl⟩ isSubtype_stop ?_);refine Nh (e _ _ ((OF (OF ?_ _) _)));exact(LR (NT ..)).trans (LR (NT ..))
theorem iter_self{it l:Addr}{i:Int}{Q:Value->Shared->Prop}(hit:IsRev s.heap it l i)(h:Q (.ref it) s):wpAny (model prog w) A (pyIter (.ref it)) Q E s:=by
 refine Io hit.typeIs X9 (Ee X9 hit.typeIs YS ?_ (WE _));show wpAny _ _ (ret (.ref it)) _ _ s;exact Nh ⟨_,rfl,"reversed",_,hit.typeIs,slot_rev_next.lookup,h⟩
end
theorem small{n:Nat}(h:n<=sizeLine):(n:Int)<2^62:=by rw[EU]at h;omega
theorem QaV{h h':Heap}{a:Addr}{items:Array Value}(x:IsTup h a items)(e:∀o,h.get? a=some o->h'.get? a=some o):IsTup h' a items:=let⟨o,b,r⟩:=x;⟨o,e _ b,r⟩
theorem Qgf{prog:Program}{w:World}{A:Around}(hh:A.handled=none)(I l:Addr)(m:l≠I)(items:Array Value)(hz:(items.size:Int)<2^62) :
  Walks prog w A I [I,l] [I] items.size (fun i v=>items[items.size-1-i]?=some v) (fun i h=>i<=items.size/\IsRev h I l ((items.size:Int)-1-(i:Int))/\IsTup h l items) where
 sub:=fun b c=>by simp at c;simp[c]
 frame:=fun _ _ _ x t=>⟨x.1,x.2.1.at fun o e=>t I (by simp) o e,QaV x.2.2 fun o e=>t l (by simp) o e⟩
 item:=fun i s Q E u x f=>by
  have e:(items.size:Int)-1-(i:Int)=((items.size-1-i:Nat):Int):=by omega
  have hit:=x.2.1;rw[e]at hit;have r:items[items.size-1-i]?=some (items[items.size-1-i]'(by omega)):=NU (by omega);refine next_item hit x.2.2 r hz fun p j a d=>?_;have y:((items.size-1-i:Nat):Int)-1=(items.size:Int)-1-((i+1:Nat):Int):=by omega
  rw[y]at a;exact f _ p j r ⟨u,a,QaV x.2.2 fun o g=>(d.2 l m).trans g⟩ fun b o c g=>d.extBut b o (fun h=>c (by simp[h])) g
 done:=fun s Q E x f=>by
  have e:(items.size:Int)-1-(items.size:Int)=-1:=by omega
  have hit:=x.2.1;rw[e]at hit;exact next_end hh hit fun p j n=>f p j fun b o c g=>n b o (fun h=>c (by simp[h])) g
 self:=fun _ _ _ _ x f=>iter_self x.2.1 f
end Rv
namespace L2
section
variable{X:Cx}
noncomputable def Qlr(K:Nd)(a:Addr)(n:Nat):It:=⟨fun i H=>i<n/\∃b,SqT K H a b/\b.length=n,fun i H x c=>c=H/\∀b,SqT K H a b->b[n-1-i]?=some x,fun i _=>n<=i⟩
theorem QhY{K:Nd}(a it:Addr)(n:Nat):Turn P w K tg (Qlr K a n) [it] it (fun i h=>i<=n/\Rv.IsRev h it a ((n:Int)-1-(i:Int))) where
 mem:=by simp
 obj:=fun i h st b j=>by
  have e:b=it:=by simpa using j
  subst e;obtain⟨_,o,e,c,d⟩:=st;exact⟨o,e,fun v z=>by rw[d]at z;cases z⟩
 keep:=fun i h r st k=>⟨st.1,st.2.at fun o e=>k it (by simp) o e⟩
 item:=by
  intro X y hw A O i f s G H E I m st t;subst y hw A;obtain⟨hi,J,N,hl⟩:=t;obtain⟨T,L,p,U⟩:=I.tuple N;obtain⟨x,M⟩:∃x,J[n-1-i]?=some x:=⟨J[n-1-i]'(by omega),Ni _⟩
  obtain⟨u,hu,S⟩:=L.get M;obtain⟨F,f1,f2,D,C,B⟩:=m it (by simp);have e:(n:Int)-1-(i:Int)=((n-1-i:Nat):Int):=by omega
  have hit:=st.2;rw[e]at hit;refine Rv.next_item hit p (x:=u) (by simpa using hu) (Rv.small (by rw[Nj,<-L.length];exact U)) fun r l g R=>?_;have e2:((n-1-i:Nat):Int)-1=(n:Int)-1-((i+1:Nat):Int):=by lia
  rw[e2]at g;have I1:Inv X f G H { s with heap:=r,toks:=l }:=I.turned (t':=l) (fun b o j e=>(R.2 b j).trans e) F f1 D C B;obtain⟨o,e,c,d⟩:=id g;exact⟨u,rfl,QbA (s:={ s with heap:=r,toks:=l }) e c d (by decide) ⟨x,H,I1,S,⟨rfl,fun ys Y=>by rw[I.tuple_inj Y N];exact M⟩,⟨hi,g⟩,fun b j=>(m b j).1⟩⟩
 done:=by
  intro X y hw A O i f s G H E I m st t;subst y hw A;obtain⟨F,f1,f2,D,C,B⟩:=m it (by simp);have Z:n<=i:=t;have e:(n:Int)-1-(i:Int)=-1:=by have:=st.1;lia
  have hit:=st.2;rw[e]at hit;exact Rv.next_end (I.ok.hd O) hit fun r l eb=>⟨rfl,I.turned (t':=l) (fun b o j e=>eb b o j e) F f1 D C B⟩
 self:=fun _ _ _ _ _ st h=>Rv.iter_self st.2 h
noncomputable def iRt(K:Nd)(f:TA):TI:=fun d H R=>f d H fun e c=>∃a b,e=[.ref a]/\SqT K c a b/\R (Qlr K a b.length) c
theorem Qlo{r a:Expr}(E:Gl X "reversed")(D:X.mg "reversed"=none)(G:PA X [a] t)(B:starEach [a] X.env=[(false,eval a X.env)]:=by rfl):PI X r (.Call (.Name "reversed" p) [a] [] pos) (iRt X.K t):=by
 intro c s m H R I h;refine OJ (J1 I E D boot_reversed (N0 (thn (G pos c s m H _ I h) fun M f n=>?_) B rfl));obtain⟨L,J,I1,x,y⟩:=n;obtain⟨ad,g,e,C,q⟩:=y;subst e;obtain⟨u,rfl,w⟩:=XW x;cases w;obtain⟨d,v,z,A⟩:=I1.tuple C;have j:=v.length;refine Rv.call_rev z (Rv.small (by rw[Nj,<-j];exact A)) ?_;refine Rv.iter_self (l:=ad) (i:=(d.toArray.size:Int)-1) ⟨_,Nw _ rfl,rfl,rfl⟩ ?_;refine⟨f.heap.objs.size,[f.heap.objs.size],_,_,J,rfl,I1.kept (t':=f.toks+1+1) fun b o e=>Nn _ e,QhY ad _ g.length,⟨N6 _,?_⟩,fun b F=>?_,q⟩
 ·refine⟨_,Nw _ rfl,rfl,?_⟩;have:((d.toArray.size:Nat):Int)-1=(g.length:Int)-1-((0:Nat):Int):=by rw[Nj,j];simp
  rw[<-this]
 ·have e:b=f.heap.objs.size:=by simpa using F
  subst e;exact I1.fpOk (Nt _) (I1.hok.fresh (Nt _))
end
end L2
namespace Mi
open L2
noncomputable def Qph(ws:List W)(h:MH):Option (W×MH):=match ws with
 |[.tup ws]=>some (.ref h.length,h++[.lst ws.reverse])
 |_=>none
noncomputable def Qld(ms:MA):MI:=fun a h=>(ms a h).bind fun p=>match p.1 with
 |[.tup b]=>some (b.reverse,none,p.2)
 |_=>none
section
variable{K:Nd}{R:Rn}
theorem QgQ(l:SqT K R.F a xs)(r:Rws K R ws xs):ItOk K R (Qlr K a xs.length) ws.reverse none where
 go:=fun i w j h H x d _ e=>by
  have c:=(Ng.mp e).1;rw[N7,r.length]at c;exact⟨c,xs,Q9 (fun b o z=>d.sub b o (x.f b o z)) l,rfl⟩
 yld:=fun i w j h H x t e d _ g m=>by
  obtain⟨rfl,n⟩:=m;have c:=(Ng.mp g).1;rw[N7]at c;rw[DK c]at g;obtain⟨v,s,p⟩:=r.get g;have:=n xs (Q9 (fun b o z=>d.sub b o (e.f b o z)) l);rw[<-r.length,s]at this;cases this;exact⟨j,Ext.refl _,d,Rw.mono e _ _ p⟩
 stop:=fun i j h H x d _ c=>by rw[N7,r.length]at c;exact c
end
section
variable{X:Cx}{tg a:Expr}{ms:MA}{p pos:Pos}
theorem Qje(x:Gl X "reversed")(w:X.mg "reversed"=none)(y:PMA X [a] ms)(u:starEach [a] X.env=[(false,eval a X.env)]:=by rfl):PMI X tg (.Call (.Name "reversed" p) [a] [] pos) (Qld ms):=
 Y3 (Qlo x w y u) fun D H C j=>by
  obtain⟨R,c,h,items,o,G,t,st,e,k⟩:=j;obtain⟨⟨n,z⟩,A,d⟩:=Nc.mp e;refine⟨R,c,h,n,z,t,st,A,fun R1 B E m b r=>?_⟩;split at d
  ·rename_i F g;simp only at g;subst g;cases d;obtain⟨v,rfl,f⟩:=Yk r;unfold Rw at f;obtain⟨ad,l,rfl,i,s⟩:=f;exact⟨ad,l,rfl,Q9 b.sub i,k R1 B _ m b (QgQ i s)⟩
  ·cases d
end
end Mi
namespace Sp
open PySem Builtin Builtin.Str StrLaws
theorem QdT(x:Str)(c:Nat)(b:Nat):∀(n i:Nat) (st:Array Nat×Nat),st.2<=i->st.1.size<=i->i+n<=b ->
  (forIn (List.range' i n) st (occBody x ⟨#[c]⟩ x.length b)).run.fst.toList=st.1.toList++(List.range' i n).filter fun j=>x.cps.toList[j]?==some c
 |0,i,st,_,_,_=>by simp
 |n+1,i,st,g,l,h=>by
  rw[OB,OH];unfold occBody
  by_cases e:x.cps.toList[i]?=some c
  ·have d:=(subAt_one x c i).mpr e;rw[if_pos ⟨⟨⟨by omega,g⟩,d.1⟩,d.2⟩];have f:=QdT x c b n (i+1) (st.1.push i,i+1) (Nt _) (by simp;omega) (by omega);rw[IM (p:=fun j=>x.cps.toList[j]?==some c) (a:=i) (beq_iff_eq.mpr e)];refine Eq.trans f ?_;simp
  ·have d:¬(i+(⟨#[c]⟩:Str).length<=x.length/\subAt x ⟨#[c]⟩ i=true):=fun z=>e ((subAt_one x c i).mp z);rw[if_neg (fun z=>d ⟨z.1.2,z.2⟩)];have f:=QdT x c b n (i+1) (st.1,st.2) (by show st.2<=i+1;omega) (by show st.1.size<=i+1;omega) (by omega);rw[IN (p:=fun j=>x.cps.toList[j]?==some c) (a:=i) (fun z=>e (beq_iff_eq.mp z))];exact f
theorem Qd1(x:Str)(c:Nat):occurrences x ⟨#[c]⟩ 0 x.length (x.length+1)=(List.range' 0 (x.length+1)).filter fun j=>x.cps.toList[j]?==some c:=by
 rw[occ_eq];refine(QdT x c _ _ 0 (#[],0) (Nt _) (Nt _) (by omega)).trans ?_;simp
def fre(c:Nat)(y:Str):Prop:=c∉y.cps.toList
theorem Qdq(x:Str)(i j p:Nat)(d:Nat)(h:(strSub x i j).cps.toList[p]?=some d):i+p<j/\x.cps.toList[i+p]?=some d:=by
 rw[strSub_toList,List.getElem?_take]at h;split at h
 ·rw[Fc]at h;exact⟨by omega,h⟩
 ·cases h
theorem QaO(x:Str)(c:Nat):∀(a:List Nat) (s:Nat),a.Pairwise (·<·)->(∀p∈a,s<=p)->(∀p,s<=p->x.cps.toList[p]?=some c->p∈a) ->
  ∀y∈((s::a.map (·+1)).zip (a++[x.length])).map (fun(q:Nat×Nat)=>strSub x q.1 q.2),fre c y
 |[],s,_,_,h,y,b=>by
  simp at b;subst b;intro i;obtain⟨p,d,e⟩:=FT i;obtain⟨_,f⟩:=Qdq x s x.length p c (by rw[Ni d,e]);simpa using h _ (by omega) f
 | k::a,s,d,l,h,y,b=>by
  have n:=l k (by simp);rw[List.pairwise_cons]at d;simp only[Nz,OG,List.zip_cons_cons,NB]at b
  rcases b with rfl|b
  ·intro i;obtain⟨p,g,e⟩:=FT i;obtain⟨m,f⟩:=Qdq x s k p c (by rw[Ni g,e])
   rcases NB.mp (h _ (by omega) f)with z|z
   ·omega
   ·have:=d.1 _ z;omega
  ·refine QaO x c a (k+1) d.2 (fun p z=>d.1 p z) (fun p z q=>?_) y b
   rcases NB.mp (h p (by omega) q)with j|j
   ·omega
   ·exact j
theorem GR(l:List Nat)(p:Nat->Bool)(h:l.Pairwise (·<·)):(l.filter p).Pairwise (·<·):=h.sublist List.filter_sublist
theorem Qdf(x:Str)(c:Nat):∀y∈partsBetween x (occurrences x ⟨#[c]⟩ 0 x.length (x.length+1)) 1,fre c y:=by
 rw[Qd1];refine QaO x c _ 0 (GR _ _ List.pairwise_lt_range') (fun _ _=>N6 _) fun p _ h=>?_;rw[DU];have a:p<x.cps.toList.length:=(Ng.mp h).1;have b:x.length=x.cps.toList.length:=by simp[Str.length]
 exact⟨by rw[OR];exact⟨p,by omega,by omega⟩,beq_iff_eq.mpr h⟩
noncomputable def sg(c:Nat):Str:=⟨#[c]⟩
theorem Qba(x:Str)(c:Nat)(l:c<256):Txt.split x (sg c)≠[]/\(∀y∈Txt.split x (sg c),fre c y)/\Str.join (sg c) (Txt.split x (sg c))=x:=by
 have none:∀h:c∉x.cps.toList,([x]:List Str)≠[]/\(∀y∈[x],fre c y)/\Str.join (sg c) [x]=x:=fun h=>
  ⟨by simp,fun y b=>by simp at b;subst b;exact h,rfl⟩
 unfold Txt.split;split
 ·rename_i h;refine none fun a=>?_;have d:(sg c).length=1:=rfl;have f:Str.strKind (sg c)=1:=by unfold Str.strKind sg;simp[l]
  have m:1<=Str.strKind x:=by unfold Str.strKind;split;exact Nt _;split<;>decide
  have j:x.length=x.cps.toList.length:=by simp[Str.length]
  have:0<x.cps.toList.length:=Fv a;rw[d,f]at h;simp at h;omega
 ·split
  ·rename_i h;refine none fun a=>?_;obtain⟨p,i,e⟩:=FT a
   have z:p∈occurrences x (sg c) 0 x.length (x.length+1):=by
    unfold sg;rw[Qd1,DU];have j:x.length=x.cps.toList.length:=by simp[Str.length]
    exact⟨by rw[OR];exact⟨p,by omega,by omega⟩,by rw[Ni i,e];simp⟩
   rw[List.isEmpty_iff.mp h]at z;cases z
  ·have g:=glued_between_self x (sg c) (x.length+1);rw[glued_eq_join]at g;refine⟨?_,Qdf x c,g⟩;unfold partsBetween;intro z;have:=congrArg List.length z;simp at this
theorem join_cons2(s a b:Str)(r:List Str):Str.join s (a::b::r)=a++s++Str.join s (b::r):=rfl
theorem app_cps(x y:Str):(x++y).cps.toList=x.cps.toList++y.cps.toList:=by
 show(x.cps++y.cps).toList=_;simp
theorem ext{x y:Str}(h:x.cps.toList=y.cps.toList):x=y:=by
 obtain⟨x⟩:=x;obtain⟨y⟩:=y;have:x=y:=Array.ext' h;rw[this]
theorem QbW{c:Nat}:∀{a b u v:List Nat},c∉a->c∉b->a++c::u=b++c::v->a=b/\u=v
 |[],[],_,_,_,_,h=>⟨rfl,by simpa using h⟩
 |[],d::b,_,_,_,f,h=>by simp at h;exact absurd h.1 (fun z=>f (by simp[z]))
 |d::a,[],_,_,g,_,h=>by simp at h;exact absurd h.1.symm (fun z=>g (by simp[z]))
 |d::a,e::b,u,v,g,f,h=>by
  simp at h;obtain⟨rfl,h⟩:=h;obtain⟨j,i⟩:=QbW (fun z=>g (by simp[z])) (fun z=>f (by simp[z])) h;exact⟨by rw[j],i⟩
theorem QaD(c:Nat):∀{ps f:List Str},ps≠[]->f≠[]->(∀y∈ps,fre c y)->(∀y∈f,fre c y)->Str.join (sg c) ps=Str.join (sg c) f->ps=f
 |[],_,h,_,_,_,_=>absurd rfl h
 |_,[],_,h,_,_,_=>absurd rfl h
 |[a],[b],_,_,_,_,h=>by rw[show a=b from h]
 |[a],b::d::r,_,_,i,_,h=>by
  rw[join_cons2]at h;have z:=congrArg (fun s=>s.cps.toList) (show a=_ from h);simp only[app_cps]at z;exact(i a (by simp) (by rw[z];simp[sg])).elim
 |a::d::r,[b],_,_,_,g,h=>by
  rw[join_cons2]at h;have z:=congrArg (fun s=>s.cps.toList) (show _=b from h);simp only[app_cps]at z;exact(g b (by simp) (by rw[<-z];simp[sg])).elim
 |a::d::r,b::e::q,_,_,i,g,h=>by
  rw[join_cons2,join_cons2]at h;have z:=congrArg (fun s=>s.cps.toList) h;simp only[app_cps]at z;obtain⟨m,l⟩:=QbW (c:=c) (u:=(Str.join (sg c) (d::r)).cps.toList) (v:=(Str.join (sg c) (e::q)).cps.toList) (i a (by simp)) (g b (by simp)) (by simpa[sg]using z);rw[ext m,QaD c (by simp) (by simp) (fun y j=>i y (No _ j)) (fun y j=>g y (No _ j)) (ext l)]
theorem Qa9{c:Nat}(d:c<256){ps:List Str}(a:ps≠[])(b:∀y∈ps,fre c y):Txt.split (Str.join (sg c) ps) (sg c)=ps:=by
 obtain⟨g,f,e⟩:=Qba (Str.join (sg c) ps) c d;exact QaD c g a f b e
end Sp
namespace L2
open PySem.W
structure RoomQ(k:Nat)(A:Around):Prop where
 dp:A.depth+3*k+5<recursionLimit
 un:A.units+16*k+200<cLine
theorem Room.q{k:Nat}{A:Around}(r:Room k A):RoomQ k A:=⟨r.dp,r.un⟩
theorem RoomQ.deeper{k:Nat}{A:Around}(r:RoomQ (k+1) A)(env:Env):RoomQ k (A.deeper env):=
 ⟨by have:=r.dp;show A.depth+1+3*k+5<_;omega,by have:=r.un;show A.units+3+16*k+200<_;omega⟩
noncomputable abbrev SpQ:=List V->Hp->VK->Prop
section
variable{X:Cx}{k:Nat}{f:Addr}{fd:FuncData}{ps:List Str}{sp:SpQ}{x:Str}{p pos:Pos}{e:Expr}{es:List Expr}{t:TA}
noncomputable def QmP:V->Option Str
 |.int i=>if i.natAbs.log2<1920 then some (toString i)else none
 |.str x=>if x.length<=sizeLine then some x else none
 |_=>none
theorem QjR{te:TE}(j:PE X e te):PE X (.FormattedValue e (-1) none pos) (fun σ H Q=>te σ H fun v c=>∃y,QmP v=some y/\Q (.str y) c):=by
 intro b s σ H Q I h;refine wpAny_FormattedValue_plain (thn (j b s σ H _ I h) fun u m ⟨v,c,I1,r,y,a,q⟩=>?_);unfold QmP at a;split at a
 ·rename_i i;split at a
  ·rename_i g;cases a;obtain⟨t,rfl⟩:=(show∃t,u=Value.int i t from r)
   exact wpAny_formatField_int g ⟨.str (toString i),c,I1.tok _,⟨_,rfl⟩,q⟩
  ·cases a
 ·rename_i l;split at a
  ·rename_i d;cases a;obtain⟨t,rfl⟩:=(show∃t,u=Value.str y t from r)
   exact PySem.wpAny_formatField_str ⟨.str y,c,I1,⟨_,rfl⟩,q⟩ ⟨.str y,c,I1.tok _,⟨_,rfl⟩,q⟩ d
  ·cases a
 ·cases a
noncomputable def tJ:List TE->Str->TE
 |[],a=>fun _ H Q=>Q (.str a) H
 |t::r,a=>fun σ H Q=>t σ H fun v b=>∃y,v=.str y/\(a++y).length<=sizeLine/\tJ r (a++y) σ b Q
theorem Qmm{c:List (Addr×Obj)}{σ:St}{Q:VK}{es:List Expr}{g:List TE}(d:Paired (PE X) es g):∀(a:Str) (s:Shared) (H:Hp),a.length<=sizeLine->Inv X c σ H s->tJ g a σ H Q ->
  Joins (model X.prog X.w) X.A X.xe (evalEach es X.env) a (fun out b=>out.length<=sizeLine/\EP X c σ Q (.str out b.toks) { b with toks:=b.toks+1 }) s:=by
 induction d with
 |nil=>exact fun a s H n I h=>⟨n,.str a,H,I.tok _,⟨_,rfl⟩,h⟩
 |cons d _ m=>
  intro a s H _ I h;refine thn (d c s σ H _ I h) fun u l ⟨v,z,I1,r,y,o,i,q⟩=>?_;subst o;obtain⟨j,rfl⟩:=(show∃t,u=Value.str y t from r)
  exact⟨y,j,rfl,i,m (a++y) l z i I1 q⟩
theorem Qhf{b a:Expr}{rest:List Expr}{c:List TE}(h:Paired (PE X) (b::a::rest) c):PE X (.JoinedStr (b::a::rest) pos) (tJ c Str.empty):=by
 intro d s g H Q I q;exact wpAny_JoinedStr (Qmm h Str.empty s H (by decide) I q)
end
open Builtin Builtin.Str
theorem Qam:∀(l:List (Str×Tok)),Vals (l.map fun p=>V.str p.1) (strValues l)
 |[]=>.nil
 |(x,t)::r=>.cons ⟨t,rfl⟩ (Qam r)
theorem Qfa{X:Cx}:MtM X "str.split" (fun x xs H Q=>∃a b,x=.str a/\xs=[.str b]/\b.length≠0/\a.length<=sizeLine/\(Txt.split a b).length<=sizeLine/\∀p,H p=none->Q (.ref p) (upd H p (.lst ((Txt.split a b).map .str)))):=by
 intro d s o H x D v E Q I r w h;obtain⟨a,b,rfl,rfl,z,A,m,q⟩:=h;obtain⟨u,rfl,y⟩:=XW w;obtain⟨t,rfl⟩:=(show∃t,v=Value.str a t from r)
 obtain⟨g,rfl⟩:=(show∃t,u=Value.str b t from y)
 have j:(b.length==0)=false:=beq_eq_false_iff_ne.mpr z
 have fin:∀(l:List (Str×Tok)) (i:Nat),l.map (·.1)=Txt.split a b->EP X d o Q (.ref s.heap.objs.size) { s with heap:=s.heap.push { cls:=.type "list",data:=.seq (strValues l).toArray },toks:=i }:=fun l i e=>by
  have B:(Txt.split a b).map V.str=l.map fun p=>V.str p.1:=by rw[<-e,N8];rfl
  refine⟨.ref s.heap.objs.size,_,I.lnew (t':=i) (ys:=(Txt.split a b).map .str) (by rw[B];exact Qam l) (by simpa using m),rfl,q _ I.fresh⟩
 cases c:(decide (a.length<b.length) ||decide (Str.strKind a<Str.strKind b))
 ·cases f:(occurrences a b 0 a.length (a.length+1)).isEmpty
  ·have n:Txt.split a b=partsBetween a (occurrences a b 0 a.length (a.length+1)) b.length:=(if_neg (ne_true_of_eq_false c)).trans (if_neg (ne_true_of_eq_false f));refine Dd DC (FH _ _ _) Iq (F6 _ _) (meets_str_split_sep a b t g c j f A (by rw[<-n];exact m)) ?_;show wants _ _ _ { s with toks:=_,heap:=s.heap.push { cls:=.type "list",data:=.seq (strsFrom s.toks (partsBetween a (occurrences a b 0 a.length (a.length+1)) b.length)).toArray } };rw[strsFrom_eq];exact fin (numbered s.toks _) _ ((numbered_texts _ _).trans n.symm)
  ·exact Dd DC (FH _ _ _) Iq (F6 _ _) (meets_str_split_not_found a b t g c j f) (fin [(a,t)] _ ((if_neg (ne_true_of_eq_false c)).trans (if_pos f)).symm)
 ·exact Dd DC (FH _ _ _) Iq (F6 _ _) (meets_str_split_cannot_occur a b t g c) (fin [(a,t)] _ (if_pos c).symm)
end L2
namespace Mi
open L2
noncomputable def Vy(a:W)(ws:List W)(h:MH):Option (W×MH):=match a,ws with
 |.str x,[.str y]=>if y.length≠0/\x.length<=sizeLine/\(Txt.split x y).length<=sizeLine then some (.lst ((Txt.split x y).map .str),h)else none
 |_,_=>none
theorem Um{X:Cx}:Qd9 X "str.split" Vy:=by
 intro b s j H x F v n Q I t u q;obtain⟨R,h,a,G,w,J,B,C,d,e,k⟩:=q;unfold Vy at e;split at e
 ·rename_i c m;split at e
  ·rename_i i;cases e;obtain⟨y,rfl,o⟩:=Yk d;refine Qfa b s j H x _ v n Q I t u ⟨c,m,C.str_eq,by rw[o.str_eq],i.1,i.2.1,i.2.2,fun p E=>?_⟩
   have A:∀l:List Str,Rws X.K R (l.map .str) (l.map .str):=fun l=>by
    induction l with
    |nil=>exact Rws.nil
    |cons z r D=>exact Rws.cons (Rw.str z) D
   obtain⟨R1,c,g,f⟩:=B.lstI E (A _);exact k R1 _ _ c g f
  ·cases e
 ·cases e
noncomputable def fmW:W->Option Str
 |.int i=>if i.natAbs.log2<1920 then some (Str.ofString (toString i))else none
 |.str x=>if x.length<=sizeLine then some x else none
 |_=>none
noncomputable def Qmk(a:W)(h:MH):Option (W×MH):=(fmW a).map fun y=>(.str y,h)
theorem QiG{X:Cx}{e:Expr}{me:ME}{pos:Pos}(g:PM X e me):PM X (.FormattedValue e (-1) none pos) (mUn Qmk me):=
 QR (QjR g) fun m H Q q=>ZC (un1 q) fun x f z=>by
  obtain⟨R,h,a,w,n,c,d,l,k⟩:=z;obtain⟨y,b,j⟩:=Nf.mp l;cases j;unfold fmW at b;split at b
  ·rename_i i;exact⟨y,by rw[d.int_eq];exact b,k R f _ (Ext.refl _) c (Rw.str _)⟩
  ·rename_i z;exact⟨y,by rw[d.str_eq];exact b,k R f _ (Ext.refl _) c (Rw.str _)⟩
  ·cases b
noncomputable def QcL(a b:W)(h:MH):Option (W×MH):=match a,b with
 |.str x,.str y=>if x.length+y.length<=sizeLine then some (.str (x++y),h)else none
 |_,_=>none
theorem YJ(x:Str):Str.empty++x=x:=by
 obtain⟨x⟩:=x;show(⟨#[]++x⟩:Str)=_;simp
theorem Qbc(e:QcL a b h=some r):∃x y,a=.str x/\b=.str y/\x.length+y.length<=sizeLine/\r=(.str (x++y),h):=by
 unfold QcL at e;split at e
 ·split at e
  ·rename_i c;cases e;exact⟨_,_,rfl,rfl,c,rfl⟩
  ·cases e
 ·cases e
theorem QeR{X:Cx}{a b:Expr}{j i:ME}{pos:Pos}(C:PM X a j)(B:PM X b i):PM X (.JoinedStr [a,b] pos) (Qc QcL j i):=
 QR (Qhf (.cons C (.cons B .nil))) fun L H Q q=>by
  obtain⟨R,c,h,w,N,t,st,e,k⟩:=q;obtain⟨⟨a,l⟩,G,J⟩:=Nc.mp e;obtain⟨⟨b,D⟩,F,I⟩:=Nc.mp J;obtain⟨x,y,n,m,A,E⟩:=Qbc I;cases E;dsimp only at n m;subst n m;have z:(Str.empty++x).length<=sizeLine:=by rw[YJ];omega
  have u:(Str.empty++x++y).length<=sizeLine:=by rw[YJ,strLen_append];exact A
  refine⟨R,c,h,_,l,t,st,G,fun R1 O v g f s=>⟨x,s.str_eq,z,R1,c,l,_,D,f,st.mono g,F,fun R2 o M p d r=>⟨y,r.str_eq,u,?_⟩⟩⟩;show Q (.str (Str.empty++x++y)) o;rw[YJ];exact k R2 o _ (g.trans p) d (Rw.str _)
noncomputable def Qhy:SM:=fun _ _=>none
theorem Qaf{X:Cx}{st:Stmt}:PMS X st Qhy:=fun _ _ _ _ _ _ q=>by
 obtain⟨R,a,h,r,b,s,e,k⟩:=q;cases e
section
variable{p:List Value->Prop}
theorem ar0(h:p [])(us:List Value)(e:us.length=0):p us:=List.eq_nil_of_length_eq_zero e▸h
theorem arS{n:Nat}(h:∀a us,us.length=n->p (a::us)):∀us:List Value,us.length=n+1->p us
 |a::us,e=>h a us (Nat.succ.inj e)
theorem ar1(h:∀a,p [a]):∀us:List Value,us.length=1->p us:=arS fun a=>ar0 (h a)
theorem ar2(h:∀a b,p [a,b]):∀us:List Value,us.length=2->p us:=arS fun a=>ar1 (h a)
theorem ar3(h:∀a b c,p [a,b,c]):∀us:List Value,us.length=3->p us:=arS fun a=>ar2 (h a)
theorem ar4(h:∀a b c d,p [a,b,c,d]):∀us:List Value,us.length=4->p us:=arS fun a=>ar3 (h a)
theorem ar5(h:∀a b c d e,p [a,b,c,d,e]):∀us:List Value,us.length=5->p us:=arS fun a=>ar4 (h a)
theorem ar6(h:∀a b c d e f,p [a,b,c,d,e,f]):∀us:List Value,us.length=6->p us:=arS fun a=>ar5 (h a)
end
end Mi
namespace My
open L2 Mi
set_option maxHeartbeats 4000000
local macro_rules|`(tactic|walk_at $s:str)=>do
 let l:=s.getString.toList
 if l.head? != some '~'then Lean.Macro.throwUnsupported
 let mut r:Array (Lean.TSyntax `tactic):=#[]
 let mut f:=false
 for c in l.tail do
  if c=='!'then f:=true
  else
   r:=r.push (<-match f,c with
    |false,'#'=>`(tactic|exact rfl)
    |false,'$'=>`(tactic|refine Qeu ?_ ?_)
    |false,'%'=>`(tactic|exact Qj8 _)
    |false,'&'=>`(tactic|first|exact .inl rfl|exact .inr rfl)
    |false,'('=>`(tactic|exact Qjr)
    |false,')'=>`(tactic|exact Qhk)
    |false,'*'=>`(tactic|refine Qeh ?_ ?_)
    |false,'+'=>`(tactic|refine QeX (by assumption) ?_ ?_ ?_ ?_ ?_ ?_ ?_)
    |false,','=>`(tactic|refine Qij ?_ ?_ ?_ ?_ ?_ ?_)
    |false,'-'=>`(tactic|refine Ql1 ?_ ?_)
    |false,'.'=>`(tactic|refine Qh0 ?_)
    |false,'/'=>`(tactic|refine WO Eu FI PySem.F.type_list_append Qby ?_ ?_)
    |false,'0'=>`(tactic|refine Gn QgO Qt ?_ ?_)
    |false,'1'=>`(tactic|refine Xv QcS ZM ?_ ?_ Lo ?_ ?_ ?_ ?_ ?_)
    |false,'2'=>`(tactic|exact QiN)
    |false,'3'=>`(tactic|refine JQ (Ym ?_) Qt ?_ ?_)
    |false,'4'=>`(tactic|refine QhZ ?_)
    |false,'5'=>`(tactic|exact $(Lean.mkIdent `hr.mono) (by decide))
    |false,'6'=>`(tactic|exact(Or.inl rfl))
    |false,'7'=>`(tactic|decide)
    |false,'8'=>`(tactic|refine QkF ?_ ?_ ?_)
    |false,'9'=>`(tactic|exact Ww (by dsimp only[blk];decide +kernel) rfl (Or.inl rfl))
    |false,':'=>`(tactic|assumption)
    |false,';'=>`(tactic|refine Gn Qhr Qt ?_ ?_)
    |false,'<'=>`(tactic|exact $(Lean.mkIdent `nd_))
    |false,'='=>`(tactic|have $(Lean.mkIdent `hu):ident:=$(Lean.mkIdent `hr.units))
    |false,'>'=>`(tactic|exact Qg7)
    |false,'?'=>`(tactic|exact $(Lean.mkIdent `hu))
    |false,'@'=>`(tactic|refine V4 G3 ZM ?_ ?_ EG ?_ ?_ ?_ ?_ ?_)
    |false,'A'=>`(tactic|refine Qjm ?_)
    |false,'B'=>`(tactic|refine Gn Qil Qt ?_ ?_)
    |false,'C'=>`(tactic|refine Xv Qb7 ZM ?_ ?_ PyProof.Rows.boot_isinstance ?_ ?_ ?_ ?_ ?_)
    |false,'D'=>`(tactic|refine Qip ?_ ?_ ?_ ?_ ?_ ?_)
    |false,'E'=>`(tactic|refine Uo $(Lean.mkIdent `nd_) rfl (Or.inl rfl) ?_ ?_)
    |false,'F'=>`(tactic|exact fun _=>rfl)
    |false,'G'=>`(tactic|refine WO Fx PySem.F.slot_str_join PySem.F.type_str_join Qfy ?_ ?_)
    |false,'H'=>`(tactic|refine Qfm ?_)
    |false,'I'=>`(tactic|refine Xv (Qch ?_) ZM ?_ ?_ PyProof.Rows.boot_all ?_ ?_ ?_ ?_ ?_)
    |false,'J'=>`(tactic|refine Qg5 ?_)
    |false,'K'=>`(tactic|refine Gn Qfe Qt ?_ ?_)
    |false,'L'=>`(tactic|exact PassesOwn.never)
    |false,'M'=>`(tactic|refine JB Zg ?_ (Zi (Nb:=["line"]) (cp:=[none]) rfl (by decide +kernel) (by decide +kernel) rfl rfl) ?_ (fun _ _ _ _ _=>?_) (fun _ _ _ _ _=>?_))
    |false,'N'=>`(tactic|refine PMW.pt ?_)
    |false,'O'=>`(tactic|exact Ww $(Lean.mkIdent `nd_) rfl (Or.inl rfl))
    |false,'P'=>`(tactic|refine JQ (QkC ?_) Qt ?_ ?_)
    |false,'Q'=>`(tactic|refine QhH ?_)
    |false,'R'=>`(tactic|refine QiX ?_)
    |false,'S'=>`(tactic|refine QhF ?_)
    |false,'T'=>`(tactic|refine JQ QfO Qt ?_ ?_)
    |false,'U'=>`(tactic|refine Qfo ?_ ?_ ?_)
    |false,'V'=>`(tactic|refine Qi6 ?_)
    |false,'W'=>`(tactic|refine QkR ?_ ?_)
    |false,'X'=>`(tactic|refine JQ (QfK ?_) Qt ?_ ?_)
    |false,'Y'=>`(tactic|refine Uo (by dsimp only[blk];decide +kernel) rfl (Or.inl rfl) ?_ ?_)
    |false,'Z'=>`(tactic|exact Qlt)
    |_,_=>Lean.Macro.throwUnsupported)
   f:=false
 `(tactic|($[$r]*))
noncomputable def top(i:Nat):Stmt:=Iy.main.body.getD i (.Pass ⟨0,0,0,0⟩)
noncomputable abbrev Xc:W:=.tup (Qbh ["pair","first","second","same","none"])
noncomputable abbrev Yf:W:=.tup (Qbh ["pair","first","second","none","tell","back","either","or","again","end","do","part"])
noncomputable abbrev Jy:W:=.int 500
noncomputable abbrev Jb:W:=.int 6
noncomputable abbrev JD:W:=.int 5
noncomputable abbrev QZ:W:=.int 8
noncomputable abbrev Jq:W:=.int 48
noncomputable abbrev Zo:W:=.int 5
noncomputable abbrev J6:W:=.int 24
noncomputable abbrev Jt:W:=.int 5
noncomputable abbrev QE:List (Str×Int):=[("pair",4),("first",2),("second",2),("same",2),("none",1),("tell",1),("back",1),("either",0),("or",0),("again",0),("end",0),("do",1)]
noncomputable abbrev ZP:W:=.tup [.int 1,.int 0,.int 0,.int 0]
section
variable{P:Program}{w:World}{K:Nd}{mg:Str->Option Value}{base:Heap}
noncomputable abbrev Jr:Stmt:=top 56
theorem Kb:FnScope ["program","found","name","lines"] ["program"] (Qe Jr):=⟨rfl,rfl,rfl,by decide +kernel,rfl,by decide +kernel,by decide +kernel⟩
noncomputable abbrev ZF:SM:=(QW 1 (Qc Q1 (Qb 1) (QC Zq (Qo (Qb 3)) [none] (Q2 0) (Qg (Qc wEq (Qc wIx (Qb 0) (mC (.int 0))) (mC (.str "pair")))) (Qc wIx (Qb 0) (mC (.int 2))))))
noncomputable def Vj:FM:=Qn 3
  (Qk (QW 1 (mFn X4 Qd))
  (Qk (ZY (Qo (Qb 0)) (Zr [2,3])
  ZF)
  (Q8 (mFn Vv (Qa (Qb 1) Qd)))))
theorem YR(d:DefAt K mg "_law_words" Jr ["program"])(b_set:mg "set"=none)(b_sorted:mg "sorted"=none):Cal P w K mg base 1 "_law_words" ["program"] Vj:=by
 refine Qy (k:=0) (more:=3) d Kb rfl fun _ _ _ _ _ _ _ hr=>?_;have nd_:=(Kb).nd
 walk_at"~=*,<#6R)#&*DL#J%"
 refine Ve ?_ ?_ ?_ ?_
 walk_at"~#EE"
 exact J4
 walk_at"~&&##.,<#60%"
 refine WT Zg ?_ (Zi (Nb:=["line"]) (cp:=[none]) rfl (by decide +kernel) (by decide +kernel) rfl rfl) ?_ (fun _ _ _ _ _=>?_) (fun _ _ _ _ _=>?_) (fun _ _ _ _ _=>?_)
 walk_at"~#J%93?-%(2-%(#&F.4"
 refine Xg ?_ ?_ ?_ ?_ ?_ ?_ ?_
 walk_at"~##:#:%#"
noncomputable def VI:FM:=box frN Vj
noncomputable abbrev JC:Stmt:=top 49
theorem Kp:FnScope ["script","k","cell","number"] ["script","k"] (Qe JC):=⟨rfl,rfl,rfl,by decide +kernel,rfl,by decide +kernel,by decide +kernel⟩
noncomputable def Z9:FM:=Qn 2
  (Qk (QW 2 (mC (.int 0)))
  (Qk (ZX (Qg (Qc wGt (mFn JU (Qa (Qb 0) Qd)) (mC (.int 0)))) (QW 2 (Qc wIx (Qb 0) (Qc Js (Qb 1) (mFn JU (Qa (Qb 0) Qd))))) QM)
  (Qk (QW 3 (Qc Js (Qc ZU (Qc Q1 (Qc Q1 (Qb 2) (Qc ZU (Qc ZU (mC (.int 7919)) (Qb 1)) (Qb 1))) (mC (.int 1))) (mC (.int 1357913579135791357))) (mC (.int 2305843009213693951))))
  (Q8 (Qc Js (Qc Q1 (Qc Q1 (Qc ZU (Qb 3) (Qb 3)) (Qc ZU (mC (.int 48271)) (Qb 3))) (Qc ZU (mC (.int 104729)) (Qb 1))) (mC (.int 2305843009213693951)))))))
theorem YW(d:DefAt K mg "_law_mixed" JC ["script","k"])(b_len:mg "len"=none):Cal P w K mg base 1 "_law_mixed" ["script","k"] Z9:=by
 refine Qy (k:=0) (more:=2) d Kp rfl fun _ _ _ _ _ _ _ hr=>?_;have nd_:=(Kp).nd
 walk_at"~=*,<#6(#&*8T1#:$%)77##(.,<#6-%;%1#:$%)77###&>*,<#6;K00%KK(%%(((#&.4;00K%%K(%K(%("
noncomputable def Qp:FM:=box frN Z9
noncomputable abbrev Z5:Stmt:=top 57
theorem XC:FnScope ["script","program","words","parts","k","fresh","j","number"] ["script","program"] (Qe Z5):=⟨rfl,rfl,rfl,by decide +kernel,rfl,by decide +kernel,by decide +kernel⟩
noncomputable abbrev Zx:SM:=(Qk (QW 7 (Qi 2 Qp (Qa (Qb 0) (Qa (Qc Q1 (Qc Q1 (mC (.int 200)) (Qc ZU (mC (.int 50)) (Qb 4))) (Qb 6)) Qd))))
  (Qk (ZX (Qg (Qc wEq (Qc Js (Qb 7) (mC (.int 4))) (mC (.int 0)))) (Jj (mMt "list" QU (Qb 5) (Qa (mFn Jp (Qa (mC (.str "back")) (Qa (Qc wIx (Qb 2) (Qc Js (Qc Vt (Qb 7) (mC (.int 4))) (mFn JU (Qa (Qb 2) Qd)))) Qd))) Qd))) QM)
  (Jj (mMt "list" QU (Qb 5) (Qa (Qc wIx (Qc wIx (Qc wIx (Qb 1) (Qb 4)) (mC (.int 1))) (Qb 6)) Qd)))))
noncomputable abbrev Q7:SM:=(Qk (QW 5 (mFn Ud Qd))
  (Qk (ZY (Xx (Qa (mFn JU (Qa (Qc wIx (Qc wIx (Qb 1) (Qb 4)) (mC (.int 1))) Qd)) Qd)) (Q2 6)
  Zx)
  (Jj (mMt "list" QU (Qb 3) (Qa (mFn Jp (Qa (Qc wIx (Qc wIx (Qb 1) (Qb 4)) (mC (.int 0))) (Qa (mFn ZZ (Qa (Qb 5) Qd)) Qd))) Qd)))))
noncomputable def JT:FM:=Qn 6
  (Qk (QW 2 (Qi 1 VI (Qa (Qb 1) Qd)))
  (Qk (ZX (Qg (Qc wEq (Qb 2) (mFn X4 Qd))) (QW 2 (mFn X4 (Qa (mC (.str "spare")) Qd))) QM)
  (Qk (QW 3 (mFn Ud Qd))
  (Qk (ZY (Xx (Qa (mFn JU (Qa (Qb 1) Qd)) Qd)) (Q2 4)
  Q7)
  (Q8 (mFn ZZ (Qa (Qb 3) Qd)))))))
theorem Yc(d:DefAt K mg "_law_backed" Z5 ["script","program"])(b_len:mg "len"=none)(b_range:mg "range"=none)(b_tuple:mg "tuple"=none)(c__law_mixed:Cal P w K mg base 1 "_law_mixed" ["script","k"] Qp)(c__law_words:Cal P w K mg base 1 "_law_words" ["program"] VI):Cal P w K mg base 2 "_law_backed" ["script","program"] JT:=by
 refine Qy (k:=1) (more:=6) d XC rfl fun _ _ _ _ _ _ _ hr=>?_;have nd_:=(XC).nd
 walk_at"~=*,<#6+5#$%)#7###&*83?%R).,<#6R$2)#&>*,<#6V)#&*DL#"
 refine Kj ?_ ?_ ?_ ?_
 walk_at"~#:$1#:$%)77##)#O*,<#6V)#&*DL#"
 refine Kj ?_ ?_ ?_ ?_
 walk_at"~#:$1#:$--%%()77##)#O*,<#6+5#$%$00(K(%%)#7###&*83?;%((.H/%$A$2$-%;B%(1#:$%)77##))>.H/%$---%%(%)F.H/%$A$--%%($@#:$%)77##))F.4@#:$%)77##"
noncomputable def Jc:FM:=box frN JT
noncomputable abbrev K5:Stmt:=top 13
theorem QaN:FnScope ["line"] ["line"] (Qe K5):=⟨rfl,rfl,rfl,by decide +kernel,rfl,by decide +kernel,by decide +kernel⟩
noncomputable def V8:FM:=Qn 0
  (Q8 (mIf (Qg (Qc (wIn false) (Qc wIx (Qb 0) (mC (.int 0))) (mC Xc))) (Qc wIx (Qb 0) (mC (.int 1))) (mC .non)))
theorem QcP(d:DefAt K mg "gives" K5 ["line"])(g_GIVING:Glob K mg "GIVING" Xc):Cal P w K mg base 1 "gives" ["line"] V8:=by
 refine Qy (k:=0) (more:=0) d QaN rfl fun _ _ _ _ _ _ _ hr=>?_;have nd_:=(QaN).nd
 walk_at"~=.4"
 refine Qa5 ?_ ?_ ?_
 walk_at"~X?-%("
 exact ZT g_GIVING rfl
 walk_at"~-%("
 exact Wg
noncomputable def Xu:FM:=box frN V8
noncomputable abbrev Vh:Stmt:=top 47
theorem KG:FnScope ["line","box","kind"] ["line"] (Qe Vh):=⟨rfl,rfl,rfl,by decide +kernel,rfl,by decide +kernel,by decide +kernel⟩
noncomputable def Qw:FM:=Qn 2
  (Qk (QW 1 (Qi 1 Xu (Qa (Qb 0) Qd)))
  (Qk (ZX (Qg (Qc wIs (Qb 1) (mC .non))) (Q8 (mMt "str" V7 (mC (.str " ")) (Qa (Qb 0) Qd))) QM)
  (Qk (QW 2 (mIf (Qg (Qc wEq (Qc wIx (Qb 0) (mC (.int 0))) (mC (.str "same")))) (mFn Jp Qd) (mFn Jp (Qa (Qc wIx (Qb 0) (mC (.int 0))) Qd))))
  (Q8 (mMt "str" V7 (mC (.str " ")) (Qa (Qc Q1 (Qc Q1 (mFn Jp (Qa (Qb 1) (Qa (mC (.str "=")) Qd))) (Qb 2)) (mSl (Qb 0) (VB (mC (.int 2))) VG)) Qd))))))
theorem WW(d:DefAt K mg "show_line" Vh ["line"])(c_gives:Cal P w K mg base 1 "gives" ["line"] Xu):Cal P w K mg base 2 "show_line" ["line"] Qw:=by
 refine Qy (k:=1) (more:=2) d KG rfl fun _ _ _ _ _ _ _ hr=>?_;have nd_:=(KG).nd
 walk_at"~=*,<#6+5#$%)#7###&*8"
 refine JQ Qb8 Qt ?_ ?_
 walk_at"~%"
 exact Wg
 walk_at"~.4G2$%)>*,<#6"
 refine Qa5 ?_ ?_ ?_
 walk_at"~3?-%(2A)A$-%()#&.4G2$00A$%$2)%U%"
 refine ZH ?_
 walk_at"~("
 exact ZL
 walk_at"~)"
noncomputable def Jf:FM:=box frN Qw
noncomputable abbrev ZR:Stmt:=top 46
theorem Xf:FnScope ["program","rows","name","lines"] ["program"] (Qe ZR):=⟨rfl,rfl,rfl,by decide +kernel,rfl,by decide +kernel,by decide +kernel⟩
noncomputable abbrev Z1:SM:=(Qk (Jj (mMt "list" QU (Qb 1) (Qa (Qc QcL (mC (.str "part ")) (mUn Qmk (Qb 2))) Qd)))
  (Jj (mMt "list" Yd (Qb 1) (Qa (QC Zq (Qo (Qb 3)) [none] (Q2 0) V3 (Qi 1 Jf (Qa (Qb 0) Qd))) Qd))))
noncomputable def Jm:FM:=Qn 3
  (Qk (QW 1 (mFn Ud Qd))
  (Qk (ZY (Qo (Qb 0)) (Zr [2,3])
  Z1)
  (Q8 (mMt "str" V7 (mC (.str "\n")) (Qa (Qb 1) Qd)))))
theorem KN(d:DefAt K mg "show_program" ZR ["program"])(c_show_line:Cal P w K mg base 2 "show_line" ["line"] Jf):Cal P w K mg base 3 "show_program" ["program"] Jm:=by
 refine Qy (k:=2) (more:=3) d Xf rfl fun _ _ _ _ _ _ _ hr=>?_;have nd_:=(Xf).nd
 walk_at"~=*,<#6V)#&*DL#J%"
 refine Ve ?_ ?_ ?_ ?_
 walk_at"~#EE"
 exact J4
 walk_at"~&&##*H/%$"
 refine QeR ?_ ?_
 walk_at"~2"
 refine QiG ?_
 walk_at"~%).H"
 refine WO Eu Dh Fd Y1 ?_ ?_
 walk_at"~%$M#J%9+5#$%)#7##)F.4G2$%)"
noncomputable def ZK:FM:=box frN Jm
noncomputable abbrev Zc:Stmt:=top 8
theorem J0:FnScope ["sign"] ["sign"] (Qe Zc):=⟨rfl,rfl,rfl,by decide +kernel,rfl,by decide +kernel,by decide +kernel⟩
noncomputable def ZA:FM:=Qn 0
  (Q8 (Vz wLe wLe (mC (.str "a")) (Qb 0) (mC (.str "z"))))
theorem XV(d:DefAt K mg "is_small_letter" Zc ["sign"]):Cal P w K mg base 1 "is_small_letter" ["sign"] ZA:=by
 refine Qy (k:=0) (more:=0) d J0 rfl fun _ _ _ _ _ _ _ hr=>?_;have nd_:=(J0).nd
 walk_at"~=.4"
 refine Qeo Kq Qt Kq Qt ?_ ?_ ?_
 walk_at"~2%2"
noncomputable def Za:FM:=box frN ZA
noncomputable abbrev Xt:Stmt:=top 7
theorem Wf:FnScope ["thing"] ["thing"] (Qe Xt):=⟨rfl,rfl,rfl,by decide +kernel,rfl,by decide +kernel,by decide +kernel⟩
noncomputable def XM:FM:=Qn 0
  (Qk (ZX (VC (Y9 (mFn Gf (Qa (Qb 0) (Qa (mC (.ty "str")) Qd))))) (Q8 (mC (.bl false))) QM)
  (Qk (ZX (VC (Qg (Vz wLe wLe (mC (.int 1)) (mFn JU (Qa (Qb 0) Qd)) (mC QZ)))) (Q8 (mC (.bl false))) QM)
  (Q8 (QbO (mFn Gg (Qa (QC Zq (Qo (Qb 0)) [none] (Q2 0) V3 (Qi 1 Za (Qa (Qb 0) Qd))) Qd)) (Qc (wIn true) (Qb 0) (mC Yf))))))
theorem Gk(d:DefAt K mg "is_name" Xt ["thing"])(g_KEPT:Glob K mg "KEPT" Yf)(g_MOST_LETTERS:Glob K mg "MOST_LETTERS" QZ)(b_all:mg "all"=none)(b_isinstance:mg "isinstance"=none)(b_len:mg "len"=none)(b_str:mg "str"=none)(c_is_small_letter:Cal P w K mg base 1 "is_small_letter" ["sign"] Za):Cal P w K mg base 2 "is_name" ["thing"] XM:=by
 refine Qy (k:=1) (more:=0) d Wf rfl fun _ _ _ _ _ _ _ hr=>?_;have nd_:=(Wf).nd
 walk_at"~=*8SQC#:$%$"
 exact Ux rfl b_str FD
 walk_at"~)77##.4Z>*8S"
 refine Ur Kq Qt Kq Qt ?_ ?_ ?_
 walk_at"~(1#:$%)77##"
 exact ZT g_MOST_LETTERS rfl
 walk_at"~.4Z>.4"
 refine XE ?_ ?_
 walk_at"~I##:$"
 refine JB Zg ?_ (Zi (Nb:=["sign"]) (cp:=[none]) rfl (by decide +kernel) (by decide +kernel) rfl rfl) ?_ (fun _ _ _ _ _=>?_) (fun _ _ _ _ _=>?_)
 walk_at"~#J%9+5#$%)#7##)77##"
 refine Yw ?_;refine VA (QdC ?_) Qt ?_ ?_
 walk_at"~?%"
 exact ZT g_KEPT rfl
noncomputable def Zm:FM:=box frN XM
noncomputable abbrev Ja:Stmt:=top 42
theorem XH:FnScope ["words"] ["words"] (Qe Ja):=⟨rfl,rfl,rfl,by decide +kernel,rfl,by decide +kernel,by decide +kernel⟩
noncomputable def QP:FM:=Qn 0
  (Q8 (QbO (Qc wEq (mFn JU (Qa (Qb 0) Qd)) (mC (.int 2))) (QbO (Qc wEq (Qc wIx (Qb 0) (mC (.int 0))) (mC (.str "part"))) (Qi 1 Zm (Qa (Qc wIx (Qb 0) (mC (.int 1))) Qd)))))
theorem Yi(d:DefAt K mg "is_part_row" Ja ["words"])(b_len:mg "len"=none)(c_is_name:Cal P w K mg base 2 "is_name" ["thing"] Zm):Cal P w K mg base 3 "is_part_row" ["words"] QP:=by
 refine Qy (k:=2) (more:=0) d XH rfl fun _ _ _ _ _ _ _ hr=>?_;have nd_:=(XH).nd
 walk_at"~=.4"
 refine XE ?_ ?_;refine VA (Ym ?_) Qt ?_ ?_
 walk_at"~?1#:$%)77##("
 refine XE ?_ ?_;refine VA (Ym ?_) Qt ?_ ?_
 walk_at"~?-%(2"
 refine Yw ?_
 walk_at"~+5#$-%()#7##"
noncomputable def Jd:FM:=box frN QP
noncomputable abbrev QS:Stmt:=top 35
theorem Vf:FnScope ["parts","names","number","part","behind"] ["parts"] (Qe QS):=⟨rfl,rfl,rfl,by decide +kernel,rfl,by decide +kernel,by decide +kernel⟩
noncomputable abbrev QK:SM:=(Qk (QW 4 (mSl (Qb 1) (VB (Qc Q1 (Qb 2) (mC (.int 1)))) VG))
  (ZX (VC (Y9 (mFn Gg (Qa (QC Zq (Qo (Qc wIx (Qb 3) (mC (.int 1)))) [none,some 4] (Q2 0) (Qg (Qc wEq (Qc wIx (Qb 0) (mC (.int 0))) (mC (.str "do")))) (Qc (wIn false) (Qc wIx (Qb 0) (mC (.int 1))) (Qb 1))) Qd)))) (Q8 (mC (.bl false))) QM))
noncomputable def ZB:FM:=Qn 4
  (Qk (QW 1 (QC Zq (Qo (Qb 0)) [none] (Q2 0) V3 (Qc wIx (Qb 0) (mC (.int 0)))))
  (Qk (ZX (Qg (Qc wNe (mFn Wz (Qa (Qb 1) Qd)) (mFn JU (Qa (Qb 1) Qd)))) (Q8 (mC (.bl false))) QM)
  (Qk (ZY (QaZ (Qa (Qb 0) Qd)) (Zr [2,3])
  QK)
  (Q8 (mC (.bl true))))))
theorem XU(d:DefAt K mg "has_right_names" QS ["parts"])(b_all:mg "all"=none)(b_enumerate:mg "enumerate"=none)(b_len:mg "len"=none)(b_set:mg "set"=none):Cal P w K mg base 1 "has_right_names" ["parts"] ZB:=by
 refine Qy (k:=0) (more:=4) d Vf rfl fun _ _ _ _ _ _ _ hr=>?_;have nd_:=(Vf).nd
 walk_at"~=*"
 refine YB nd_ rfl (Or.inl rfl) ?_ Zg ?_ (Zi (Nb:=["part"]) (cp:=[none]) rfl (by decide +kernel) (by decide +kernel) rfl rfl) ?_ (fun _ _ _ _ _=>?_) (fun _ _ _ _ _=>?_) ?_ ?_
 walk_at"~&#J%9-%(F#*8P?"
 refine QcC ?_ ?_ ?_ ?_ ?_ ?_ ?_
 walk_at"~##:#:%#1#:$%)77##.4Z>*DL#"
 refine QeA ?_ ?_ ?_ ?_
 walk_at"~#:$%)#"
 refine Ve ?_ ?_ ?_ ?_
 walk_at"~#EE"
 exact J4
 walk_at"~&&##*,<#"
 exact(Or.inr rfl)
 walk_at"~U%"
 refine ZH ?_
 walk_at"~0%("
 exact ZL
 walk_at"~#&.8SQI##:$"
 refine WT Zg ?_ (Y2 (ks:=["behind"]) (Nb:=["line","behind"]) (cp:=[none,some 4]) (N:=["parts","names","number","part","behind"]) (xs:=(Qe QS)) rfl rfl (by decide +kernel) rfl (by decide +kernel) (by intro p hp;simp only[NB,EE,or_false]at hp;rcases hp with rfl<;>rfl) rfl rfl rfl (by decide +kernel)) ?_ (fun _ _ _ _ _=>?_) (fun _ _ _ _ _=>?_) (fun _ _ _ _ _=>?_)
 walk_at"~#J-%(93?-%(2"
 refine VA (QfK ?_) Qt ?_ ?_
 walk_at"~?-%(%)77##.4Z>F.4Z"
noncomputable def Zd:FM:=box frN ZB
noncomputable abbrev ZO:Stmt:=top 16
theorem V6:FnScope ["line"] ["line"] (Qe ZO):=⟨rfl,rfl,rfl,by decide +kernel,rfl,by decide +kernel,by decide +kernel⟩
noncomputable def QH:FM:=Qn 0
  (Qk (ZX (UT (Qg (Qc wEq (Qc wIx (Qb 0) (mC (.int 0))) (mC (.str "either")))) (Qg (Qc wEq (Qc wIx (Qb 0) (mC (.int 0))) (mC (.str "again"))))) (Q8 (mC (.int 1))) QM)
  (Q8 (mIf (Qg (Qc wEq (Qc wIx (Qb 0) (mC (.int 0))) (mC (.str "end")))) (mUn G4 (mC (.int 1))) (mC (.int 0)))))
theorem KP(d:DefAt K mg "level_change" ZO ["line"]):Cal P w K mg base 1 "level_change" ["line"] QH:=by
 refine Qy (k:=0) (more:=0) d V6 rfl fun _ _ _ _ _ _ _ hr=>?_;have nd_:=(V6).nd
 walk_at"~=*8NW3?-%(2"
 refine Jn ?_
 walk_at"~3?-%(2.4(>.4"
 refine Qa5 ?_ ?_ ?_
 walk_at"~3?-%(2"
 refine Ke ?_
 walk_at"~(("
noncomputable def JO:FM:=box frN QH
noncomputable abbrev Vb:Stmt:=top 22
theorem KK:FnScope ["line","sizes"] ["line","sizes"] (Qe Vb):=⟨rfl,rfl,rfl,by decide +kernel,rfl,by decide +kernel,by decide +kernel⟩
noncomputable def QT:FM:=Qn 0
  (Qk (ZX (Qg (Qc wEq (Qc wIx (Qb 0) (mC (.int 0))) (mC (.str "do")))) (Q8 (mMt "dict" Qe6 (Qb 1) (Qa (Qc wIx (Qb 0) (mC (.int 1))) (Qa (mC ZP) Qd)))) QM)
  (Q8 (mIf (Qg (Qc wEq (Qc wIx (Qb 0) (mC (.int 0))) (mC (.str "back")))) (mFn Jp (Qa (mC (.int 0)) (Qa (mC (.int 1)) (Qa (mC (.int 0)) (Qa (mC (.int 0)) Qd))))) (mFn Jp (Qa (mC (.int 1)) (Qa (mC (.int 0)) (Qa (mC (.int 0)) (Qa (mC (.int 0)) Qd))))))))
theorem W9(d:DefAt K mg "line_size" Vb ["line","sizes"])(g_UNENTERED_DO:Glob K mg "UNENTERED_DO" ZP):Cal P w K mg base 1 "line_size" ["line","sizes"] QT:=by
 refine Qy (k:=0) (more:=0) d KK rfl fun _ _ _ _ _ _ _ hr=>?_;have nd_:=(KK).nd
 walk_at"~=*83?-%(2.4"
 refine WO PySem.F.plainAttrs_dict Lh PySem.F.type_dict_get (Qft ?_) ?_ ?_
 walk_at"~?%$-%($"
 exact ZT g_UNENTERED_DO rfl
 walk_at"~)>.4"
 refine Qa5 ?_ ?_ ?_
 walk_at"~3?-%(2A$($($($()A$($($($()"
noncomputable abbrev Vg:Stmt:=top 21
theorem KC:FnScope ["lines","sizes","plain","backs","level","deepest","ways","line","inner"] ["lines","sizes"] (Qe Vg):=⟨rfl,rfl,rfl,by decide +kernel,rfl,by decide +kernel,by decide +kernel⟩
noncomputable abbrev Vo:SM:=(Qk (QfT 4 GS (Qi 1 JO (Qa (Qb 7) Qd)))
  (Qk (QW 8 (Qi 2 QT (Qa (Qb 7) (Qa (Qb 1) Qd))))
  (Qk (QfT 2 GS (Qc wIx (Qb 8) (mC (.int 0))))
  (Qk (QfT 3 GS (Qc wIx (Qb 8) (mC (.int 1))))
  (Qk (QW 5 (mFn QgM (Qa (Qb 5) (Qa (Qc Q1 (Qb 4) (Qc wIx (Qb 8) (mC (.int 2)))) Qd))))
  (QfT 6 GS (Qc wIx (Qb 8) (mC (.int 3)))))))))
noncomputable def QD:FM:=Qn 7
  (Qk (QW 2 (mC (.int 0)))
  (Qk (QW 3 (mC (.int 0)))
  (Qk (QW 4 (mC (.int 0)))
  (Qk (QW 5 (mC (.int 0)))
  (Qk (QW 6 (mC (.int 1)))
  (Qk (ZY (Qo (Qb 0)) (Q2 7)
  Vo)
  (Q8 (mFn Jp (Qa (Qb 2) (Qa (Qb 3) (Qa (Qb 5) (Qa (Qb 6) Qd))))))))))))
theorem W1(d:DefAt K mg "size_with" Vg ["lines","sizes"])(b_max:mg "max"=none)(c_level_change:Cal P w K mg base 1 "level_change" ["line"] JO)(c_line_size:Cal P w K mg base 1 "line_size" ["line","sizes"] QT):Cal P w K mg base 2 "size_with" ["lines","sizes"] QD:=by
 refine Qy (k:=1) (more:=7) d KC rfl fun _ _ _ _ _ _ _ hr=>?_;have nd_:=(KC).nd
 walk_at"~=*,<#6(#&*,<#6(#&*,<#6(#&*,<#6(#&*,<#6(#&*DL#J%O*"
 refine W3 ?_ ?_ ?_ K2 Qt ?_ ?_
 walk_at"~<#6+5#$%)#7##&*,<#6+5#$%$%)#7###&*"
 refine W3 ?_ ?_ ?_ K2 Qt ?_ ?_
 walk_at"~<#6-%(&*"
 refine W3 ?_ ?_ ?_ K2 Qt ?_ ?_
 walk_at"~<#6-%(&*,<#6"
 refine Xv (UZ ?_) ZM ?_ ?_ Lp ?_ ?_ ?_ ?_ ?_
 walk_at"~##:$%$0%-%()77###&."
 refine W3 ?_ ?_ ?_ K2 Qt ?_ ?_
 walk_at"~<#6-%(&F.4A$%$%$%$%)"
noncomputable abbrev Vc:Stmt:=top 20
theorem KH:FnScope ["program","sizes","name","lines"] ["program"] (Qe Vc):=⟨rfl,rfl,rfl,by decide +kernel,rfl,by decide +kernel,by decide +kernel⟩
noncomputable abbrev Vm:SM:=(Qck (Qb 1) (Qb 2) (Qi 2 QD (Qa (Qb 3) (Qa (Qb 1) Qd))))
noncomputable def VP:FM:=Qn 3
  (Qk (QW 1 Qek)
  (Qk (ZY (Qld (Qa (Qb 0) Qd)) (Zr [2,3])
  Vm)
  (Q8 (Qc QkY (Qb 1) (Qc wIx (Qc wIx (Qb 0) (mC (.int 0))) (mC (.int 0)))))))
theorem Wq(d:DefAt K mg "flat_size" Vc ["program"])(b_reversed:mg "reversed"=none)(c_size_with:Cal P w K mg base 2 "size_with" ["lines","sizes"] QD):Cal P w K mg base 3 "flat_size" ["program"] VP:=by
 refine Qy (k:=2) (more:=3) d KH rfl fun _ _ _ _ _ _ _ hr=>?_;have nd_:=(KH).nd
 walk_at"~=*,<#6"
 exact QcI
 walk_at"~#&*DL#"
 refine Qje ?_ ?_ ?_ ?_
 walk_at"~#:$%)#"
 refine Ve ?_ ?_ ?_ ?_
 walk_at"~#EE"
 exact J4
 walk_at"~&&##."
 refine Qfs ?_ ?_ ?_ ?_ ?_
 walk_at"~?%%+5#$%$%)#7###F.4"
 refine QiL ?_ ?_ ?_
 walk_at"~?%--%(("
noncomputable def JX:FM:=box frN VP
noncomputable abbrev VZ:Stmt:=top 37
theorem Yt:FnScope ["size"] ["size"] (Qe VZ):=⟨rfl,rfl,rfl,by decide +kernel,rfl,by decide +kernel,by decide +kernel⟩
noncomputable def Jh:FM:=Qn 0
  (Q8 (QbO (Qc wLe (Qc wIx (Qb 0) (mC (.int 0))) (mC Jq)) (QbO (Qc wLe (Qc wIx (Qb 0) (mC (.int 1))) (mC Jy)) (Qc wLe (Qc wIx (Qb 0) (mC (.int 2))) (mC Jb)))))
theorem Ut(d:DefAt K mg "is_small" VZ ["size"])(g_MOST_BACKS:Glob K mg "MOST_BACKS" Jy)(g_MOST_BLOCKS:Glob K mg "MOST_BLOCKS" Jb)(g_MOST_LINES:Glob K mg "MOST_LINES" Jq):Cal P w K mg base 1 "is_small" ["size"] Jh:=by
 refine Qy (k:=0) (more:=0) d Yt rfl fun _ _ _ _ _ _ _ hr=>?_;have nd_:=(Yt).nd
 walk_at"~=.4"
 refine XE ?_ ?_;refine VA Kq Qt ?_ ?_
 walk_at"~-%("
 exact ZT g_MOST_LINES rfl;refine XE ?_ ?_;refine VA Kq Qt ?_ ?_
 walk_at"~-%("
 exact ZT g_MOST_BACKS rfl;refine Yw ?_;refine VA Kq Qt ?_ ?_
 walk_at"~-%("
 exact ZT g_MOST_BLOCKS rfl
noncomputable def Z0:FM:=box frN Jh
noncomputable abbrev Vd:Stmt:=top 38
theorem KI:FnScope ["program","lines","part"] ["program"] (Qe Vd):=⟨rfl,rfl,rfl,by decide +kernel,rfl,by decide +kernel,by decide +kernel⟩
noncomputable abbrev Vs:SM:=(Jj (mMt "list" K3 (Qb 1) (Qa (Qc wIx (Qb 2) (mC (.int 1))) Qd)))
noncomputable def VS:FM:=Qn 2
  (Qk (QW 1 (mFn Ud Qd))
  (Qk (ZY (Qo (Qb 0)) (Q2 2)
  Vs)
  (Q8 (Qb 1))))
theorem Wr(d:DefAt K mg "all_lines" Vd ["program"]):Cal P w K mg base 1 "all_lines" ["program"] VS:=by
 refine Qy (k:=0) (more:=2) d KI rfl fun _ _ _ _ _ _ _ hr=>?_;have nd_:=(KI).nd
 walk_at"~=*,<#6V)#&*DL#J%O.H"
 refine WO Eu Dh Fd Gh ?_ ?_
 walk_at"~%$-%()F.4%"
noncomputable def Qm:FM:=box frN VS
noncomputable abbrev V0:Stmt:=top 39
theorem YC:FnScope ["line"] ["line"] (Qe V0):=⟨rfl,rfl,rfl,by decide +kernel,rfl,by decide +kernel,by decide +kernel⟩
noncomputable def Ji:FM:=Qn 0
  (Qk (ZX (Qg (Qc wEq (Qc wIx (Qb 0) (mC (.int 0))) (mC (.str "pair")))) (Q8 (mFn X4 (Qa (Qc wIx (Qb 0) (mC (.int 1))) (Qa (Qc wIx (Qb 0) (mC (.int 3))) (Qa (Qc wIx (Qb 0) (mC (.int 4))) Qd))))) QM)
  (Qk (ZX (Qg (Qc (wIn false) (Qc wIx (Qb 0) (mC (.int 0))) (mFn Jp (Qa (mC (.str "first")) (Qa (mC (.str "second")) (Qa (mC (.str "same")) (Qa (mC (.str "none")) (Qa (mC (.str "tell")) Qd)))))))) (Q8 (mFn QeV (Qa (mSl (Qb 0) (VB (mC (.int 1))) VG) Qd))) QM)
  (Q8 (mFn X4 Qd))))
theorem Gc(d:DefAt K mg "boxes_in" V0 ["line"])(b_list:mg "list"=none):Cal P w K mg base 1 "boxes_in" ["line"] Ji:=by
 refine Qy (k:=0) (more:=0) d YC rfl fun _ _ _ _ _ _ _ hr=>?_;have nd_:=(YC).nd
 walk_at"~=*83?-%(2.4R$-%($-%($-%()>*8X?-%(A$2$2$2$2$2).4"
 refine V4 QbJ ZM ?_ ?_ PyProof.Rows.boot_list ?_ ?_ ?_ ?_ ?_
 walk_at"~#:$U%"
 refine ZH ?_
 walk_at"~("
 exact ZL
 walk_at"~)77##>.4R)"
noncomputable def Z2:FM:=box frN Ji
noncomputable abbrev VN:Stmt:=top 32
theorem Yv:FnScope ["program","boxes","line"] ["program"] (Qe VN):=⟨rfl,rfl,rfl,by decide +kernel,rfl,by decide +kernel,by decide +kernel⟩
noncomputable abbrev VT:SM:=(Jj (mMt "list" Yd (Qb 1) (Qa (Qi 1 Z2 (Qa (Qb 2) Qd)) Qd)))
noncomputable def Xl:FM:=Qn 2
  (Qk (QW 1 (mFn Ud Qd))
  (Qk (ZY (Qo (Qi 1 Qm (Qa (Qb 0) Qd))) (Q2 2)
  VT)
  (Q8 (mFn Vv (Qa (Qb 1) Qd)))))
theorem U1(d:DefAt K mg "boxes_of" VN ["program"])(b_set:mg "set"=none)(b_sorted:mg "sorted"=none)(c_all_lines:Cal P w K mg base 1 "all_lines" ["program"] Qm)(c_boxes_in:Cal P w K mg base 1 "boxes_in" ["line"] Z2):Cal P w K mg base 2 "boxes_of" ["program"] Xl:=by
 refine Qy (k:=1) (more:=2) d Yv rfl fun _ _ _ _ _ _ _ hr=>?_;have nd_:=(Yv).nd
 walk_at"~=*,<#6V)#&*DL#J+5#$%)#7##O.H"
 refine WO Eu Dh Fd Y1 ?_ ?_
 walk_at"~%$+5#$%)#7##)F.4"
 refine Xg ?_ ?_ ?_ ?_ ?_ ?_ ?_
 walk_at"~##:#:%#"
noncomputable def XJ:FM:=box frN Xl
noncomputable abbrev VR:Stmt:=top 33
theorem Yo:FnScope ["program"] ["program"] (Qe VR):=⟨rfl,rfl,rfl,by decide +kernel,rfl,by decide +kernel,by decide +kernel⟩
noncomputable def Xb:FM:=Qn 0
  (Q8 (mFn Vv (Qa (QC Zq (Qo (Qi 1 Qm (Qa (Qb 0) Qd))) [none] (Q2 0) (Qg (Qc wEq (Qc wIx (Qb 0) (mC (.int 0))) (mC (.str "pair")))) (Qc wIx (Qb 0) (mC (.int 2)))) Qd)))
theorem Ue(d:DefAt K mg "words_of" VR ["program"])(b_set:mg "set"=none)(b_sorted:mg "sorted"=none)(c_all_lines:Cal P w K mg base 1 "all_lines" ["program"] Qm):Cal P w K mg base 2 "words_of" ["program"] Xb:=by
 refine Qy (k:=1) (more:=0) d Yo rfl fun _ _ _ _ _ _ _ hr=>?_;have nd_:=(Yo).nd
 walk_at"~=.4"
 refine Xg ?_ ?_ ?_ ?_ ?_ ?_ ?_
 walk_at"~##:#:"
 refine WT Zg ?_ (Zi (Nb:=["line"]) (cp:=[none]) rfl (by decide +kernel) (by decide +kernel) rfl rfl) ?_ (fun _ _ _ _ _=>?_) (fun _ _ _ _ _=>?_) (fun _ _ _ _ _=>?_)
 walk_at"~#J+5#$%)#7##93?-%(2-%(#"
noncomputable def XN:FM:=box frN Xb
noncomputable abbrev VQ:Stmt:=top 19
theorem Yb:FnScope ["lines"] ["lines"] (Qe VQ):=⟨rfl,rfl,rfl,by decide +kernel,rfl,by decide +kernel,by decide +kernel⟩
noncomputable def Xd:FM:=Qn 0
  (Q8 (Qi 2 QD (Qa (Qb 0) (Qa Qek Qd))))
theorem Uw(d:DefAt K mg "own_size" VQ ["lines"])(c_size_with:Cal P w K mg base 2 "size_with" ["lines","sizes"] QD):Cal P w K mg base 3 "own_size" ["lines"] Xd:=by
 refine Qy (k:=2) (more:=0) d Yb rfl fun _ _ _ _ _ _ _ hr=>?_;have nd_:=(Yb).nd
 walk_at"~=.4+5#$%$"
 exact QcI
 walk_at"~)#7##"
noncomputable def JG:FM:=box frN Xd
noncomputable abbrev ZG:Stmt:=top 36
theorem Xa:FnScope ["parts","backs","whole"] ["parts"] (Qe ZG):=⟨rfl,rfl,rfl,by decide +kernel,rfl,by decide +kernel,by decide +kernel⟩
noncomputable def QI:FM:=Qn 2
  (Qk (ZX (Qg (Qc wGt (mFn JU (Qa (Qi 1 XJ (Qa (Qb 0) Qd)) Qd)) (mC JD))) (Q8 (mC (.bl false))) QM)
  (Qk (QW 1 (QC Zq (Qo (Qi 1 Qm (Qa (Qb 0) Qd))) [none] (Q2 0) (Qg (Qc wEq (Qc wIx (Qb 0) (mC (.int 0))) (mC (.str "back")))) (Qc wIx (Qb 0) (mC (.int 1)))))
  (Qk (ZX (Qg (Qc wGt (mFn Qan (Qa (Qi 1 XN (Qa (Qb 0) Qd)) (Qa (Qb 1) Qd))) (mC Jt))) (Q8 (mC (.bl false))) QM)
  (Qk (QW 2 (Qi 1 JX (Qa (Qb 0) Qd)))
  (Qk (ZX (Qg (Qc wGt (Qc wIx (Qb 2) (mC (.int 3))) (mC J6))) (Q8 (mC (.bl false))) QM)
  (Q8 (QbO (Qi 1 Z0 (Qa (Qb 2) Qd)) (mFn Gg (Qa (QC Zq (Qo (Qb 0)) [none,none] (Zr [0,1]) V3 (Qi 1 Z0 (Qa (Qi 1 JG (Qa (Qb 1) Qd)) Qd))) Qd)))))))))
theorem KQ(d:DefAt K mg "keeps_bounds" ZG ["parts"])(g_MOST_BOXES:Glob K mg "MOST_BOXES" JD)(g_MOST_WAYS:Glob K mg "MOST_WAYS" J6)(g_MOST_WORDS:Glob K mg "MOST_WORDS" Jt)(b_all:mg "all"=none)(b_len:mg "len"=none)(b_set:mg "set"=none)(c_all_lines:Cal P w K mg base 1 "all_lines" ["program"] Qm)(c_boxes_of:Cal P w K mg base 2 "boxes_of" ["program"] XJ)(c_flat_size:Cal P w K mg base 3 "flat_size" ["program"] JX)(c_is_small:Cal P w K mg base 1 "is_small" ["size"] Z0)(c_own_size:Cal P w K mg base 3 "own_size" ["lines"] JG)(c_words_of:Cal P w K mg base 2 "words_of" ["program"] XN):Cal P w K mg base 4 "keeps_bounds" ["parts"] QI:=by
 refine Qy (k:=3) (more:=2) d Xa rfl fun _ _ _ _ _ _ _ hr=>?_;have nd_:=(Xa).nd
 walk_at"~=*8T1#:$+5#$%)#7##)77##"
 exact ZT g_MOST_BOXES rfl
 walk_at"~.4Z>*"
 refine UW nd_ rfl (Or.inl rfl) ?_ Zg ?_ (Zi (Nb:=["line"]) (cp:=[none]) rfl (by decide +kernel) (by decide +kernel) rfl rfl) ?_ (fun _ _ _ _ _=>?_) (fun _ _ _ _ _=>?_) (fun _ _ _ _ _=>?_) ?_ ?_
 walk_at"~&#J+5#$%)#7##93?-%(2-%(F#*8T"
 refine Qe7 ?_ ?_ ?_ ?_ ?_ ?_ ?_ ?_ ?_
 walk_at"~##:#:+5#$%)#7##%##"
 exact ZT g_MOST_WORDS rfl
 walk_at"~.4Z>*,<#6+5#$%)#7###&*8T-%("
 exact ZT g_MOST_WAYS rfl
 walk_at"~.4Z>.4"
 refine XE ?_ ?_
 walk_at"~+5#$%)#7##"
 refine Yw ?_
 walk_at"~I##:$"
 refine JB Zg ?_ (Zi (Nb:=["name","lines"]) (cp:=[none,none]) rfl (by decide +kernel) (by decide +kernel) rfl rfl) ?_ (fun _ _ _ _ _=>?_) (fun _ _ _ _ _=>?_)
 walk_at"~#J%"
 refine Ve ?_ ?_ ?_ ?_
 walk_at"~#YY"
 exact J4
 walk_at"~&&##+5#$+5#$%)#7##)#7##)77##"
noncomputable def ZS:FM:=box frN QI
noncomputable abbrev J2:Stmt:=top 15
theorem KD:FnScope ["lines","opened","line"] ["lines"] (Qe J2):=⟨rfl,rfl,rfl,by decide +kernel,rfl,by decide +kernel,by decide +kernel⟩
noncomputable abbrev Zs:SM:=(ZX (UT (Qg (Qc wEq (Qc wIx (Qb 2) (mC (.int 0))) (mC (.str "either")))) (Qg (Qc wEq (Qc wIx (Qb 2) (mC (.int 0))) (mC (.str "again"))))) (Jj (mMt "list" QU (Qb 1) (Qa (Qc wIx (Qb 2) (mC (.int 0))) Qd))) (ZX (Qg (Qc wEq (Qc wIx (Qb 2) (mC (.int 0))) (mC (.str "or")))) (Qk (ZX (UT (VC (Y9 (Qb 1))) (Qg (Qc wNe (Qc wIx (Qb 1) (mUn G4 (mC (.int 1)))) (mC (.str "either"))))) (Q8 (mC (.bl false))) QM)
  (QiF (Qb 1) (mUn G4 (mC (.int 1))) (mC (.str "or")))) (ZX (Qg (Qc wEq (Qc wIx (Qb 2) (mC (.int 0))) (mC (.str "end")))) (Qk (ZX (UT (VC (Y9 (Qb 1))) (Qg (Qc wEq (Qc wIx (Qb 1) (mUn G4 (mC (.int 1)))) (mC (.str "either"))))) (Q8 (mC (.bl false))) QM)
  (Jj (mMt "list" QiP (Qb 1) Qd))) QM)))
noncomputable def VY:FM:=Qn 2
  (Qk (QW 1 (mFn Ud Qd))
  (Qk (ZY (Qo (Qb 0)) (Q2 2)
  Zs)
  (Q8 (Qc wEq (mFn JU (Qa (Qb 1) Qd)) (mC (.int 0))))))
theorem WS(d:DefAt K mg "is_blocks" J2 ["lines"])(b_len:mg "len"=none):Cal P w K mg base 1 "is_blocks" ["lines"] VY:=by
 refine Qy (k:=0) (more:=2) d KD rfl fun _ _ _ _ _ _ _ hr=>?_;have nd_:=(KD).nd
 walk_at"~=*,<#6V)#&*DL#J%O.8NW3?-%(2"
 refine Jn ?_
 walk_at"~3?-%(2.H/%$-%().83?-%(2*8NWSQ%"
 refine Jn ?_
 walk_at"~P?-%"
 refine Ke ?_
 walk_at"~(2.4Z>."
 refine GK ?_ ?_ ?_ ?_ ?_ ?_
 walk_at"~%"
 refine Ke ?_
 walk_at"~(2F##.83?-%(2*8NWSQ%"
 refine Jn ?_
 walk_at"~3?-%"
 refine Ke ?_
 walk_at"~(2.4Z>.H"
 refine Qf5 Eu FQ Lq QdX ?_
 walk_at"~%>F.4"
 refine VA (Ym ?_) Qt ?_ ?_
 walk_at"~?1#:$%)77##("
noncomputable def Xe:FM:=box frN VY
noncomputable abbrev Xs:Stmt:=top 12
theorem Wj:FnScope ["thing"] ["thing"] (Qe Xs):=⟨rfl,rfl,rfl,by decide +kernel,rfl,by decide +kernel,by decide +kernel⟩
noncomputable def XR:FM:=Qn 0
  (Qk (ZX (UT (VC (Y9 (mFn Gf (Qa (Qb 0) (Qa (mC (.ty "tuple")) Qd))))) (Qg (Qc wEq (mFn JU (Qa (Qb 0) Qd)) (mC (.int 0))))) (Q8 (mC (.bl false))) QM)
  (Qk (ZX (UT (VC (Y9 (mFn Gf (Qa (Qc wIx (Qb 0) (mC (.int 0))) (Qa (mC (.ty "str")) Qd))))) (Qg (mUn (QiC true QE) (Qc wIx (Qb 0) (mC (.int 0)))))) (Q8 (mC (.bl false))) QM)
  (Qk (ZX (Qg (Qc wNe (mFn JU (Qa (Qb 0) Qd)) (Qc Q1 (mC (.int 1)) (mUn (Qks QE) (Qc wIx (Qb 0) (mC (.int 0))))))) (Q8 (mC (.bl false))) QM)
  (Q8 (mFn Gg (Qa (QC Zq (Qo (mSl (Qb 0) (VB (mC (.int 1))) VG)) [none] (Q2 0) V3 (Qi 1 Zm (Qa (Qb 0) Qd))) Qd))))))
theorem Gr(d:DefAt K mg "is_line" Xs ["thing"])(g_NAMES_BEHIND:GTab w K mg "NAMES_BEHIND" QE)(b_all:mg "all"=none)(b_isinstance:mg "isinstance"=none)(b_len:mg "len"=none)(b_str:mg "str"=none)(b_tuple:mg "tuple"=none)(c_is_name:Cal P w K mg base 2 "is_name" ["thing"] Zm):Cal P w K mg base 3 "is_line" ["thing"] XR:=by
 refine Qy (k:=2) (more:=0) d Wj rfl fun _ _ _ _ _ _ _ hr=>?_;have nd_:=(Wj).nd
 walk_at"~=*8NWSQC#:$%$"
 exact Ux rfl b_tuple EG
 walk_at"~)77##"
 refine Jn ?_
 walk_at"~3?1#:$%)77##(.4Z>*8NWSQC#:$-%($"
 exact Ux rfl b_str FD
 walk_at"~)77##"
 refine Jn ?_;refine Qbk ?_ ?_ ?_;exact g_NAMES_BEHIND
 walk_at"~#-%(.4Z>*8P?1#:$%)77##0("
 refine QjM ?_ ?_ ?_;exact g_NAMES_BEHIND
 walk_at"~#-%(.4Z>.4I##:$"
 refine JB Zg ?_ (Zi (Nb:=["name"]) (cp:=[none]) rfl (by decide +kernel) (by decide +kernel) rfl rfl) ?_ (fun _ _ _ _ _=>?_) (fun _ _ _ _ _=>?_)
 walk_at"~#JU%"
 refine ZH ?_
 walk_at"~("
 exact ZL
 walk_at"~9+5#$%)#7##)77##"
noncomputable def ZD:FM:=box frN XR
noncomputable abbrev Xw:Stmt:=top 34
theorem Y7:FnScope ["thing"] ["thing"] (Qe Xw):=⟨rfl,rfl,rfl,by decide +kernel,rfl,by decide +kernel,by decide +kernel⟩
noncomputable def X0:FM:=Qn 0
  (Qk (ZX (UT (VC (Y9 (mFn Gf (Qa (Qb 0) (Qa (mC (.ty "tuple")) Qd))))) (Qg (Qc wNe (mFn JU (Qa (Qb 0) Qd)) (mC (.int 2))))) (Q8 (mC (.bl false))) QM)
  (Qk (ZX (UT (VC (Y9 (Qi 1 Zm (Qa (Qc wIx (Qb 0) (mC (.int 0))) Qd)))) (VC (Y9 (mFn Gf (Qa (Qc wIx (Qb 0) (mC (.int 1))) (Qa (mC (.ty "tuple")) Qd)))))) (Q8 (mC (.bl false))) QM)
  (Q8 (QbO (mFn Gg (Qa (QC Zq (Qo (Qc wIx (Qb 0) (mC (.int 1)))) [none] (Q2 0) V3 (Qi 1 ZD (Qa (Qb 0) Qd))) Qd)) (Qi 1 Xe (Qa (Qc wIx (Qb 0) (mC (.int 1))) Qd))))))
theorem Gz(d:DefAt K mg "is_part" Xw ["thing"])(b_all:mg "all"=none)(b_isinstance:mg "isinstance"=none)(b_len:mg "len"=none)(b_tuple:mg "tuple"=none)(c_is_blocks:Cal P w K mg base 1 "is_blocks" ["lines"] Xe)(c_is_line:Cal P w K mg base 3 "is_line" ["thing"] ZD)(c_is_name:Cal P w K mg base 2 "is_name" ["thing"] Zm):Cal P w K mg base 4 "is_part" ["thing"] X0:=by
 refine Qy (k:=3) (more:=0) d Y7 rfl fun _ _ _ _ _ _ _ hr=>?_;have nd_:=(Y7).nd
 walk_at"~=*8NWSQC#:$%$"
 exact Ux rfl b_tuple EG
 walk_at"~)77##"
 refine Jn ?_
 walk_at"~P?1#:$%)77##(.4Z>*8NWSQ+5#$-%()#7##"
 refine Jn ?_
 walk_at"~SQC#:$-%($"
 exact Ux rfl b_tuple EG
 walk_at"~)77##.4Z>.4"
 refine XE ?_ ?_
 walk_at"~I##:$M#J-%(9+5#$%)#7##)77##"
 refine Yw ?_
 walk_at"~+5#$-%()#7##"
noncomputable def JF:FM:=box frN X0
noncomputable abbrev JA:Stmt:=top 31
theorem X7:FnScope ["thing"] ["thing"] (Qe JA):=⟨rfl,rfl,rfl,by decide +kernel,rfl,by decide +kernel,by decide +kernel⟩
noncomputable def Zt:FM:=Qn 0
  (Qk (ZX (UT (VC (Y9 (mFn Gf (Qa (Qb 0) (Qa (mC (.ty "tuple")) Qd))))) (VC (Qg (Vz wLe wLe (mC (.int 1)) (mFn JU (Qa (Qb 0) Qd)) (mC Zo))))) (Q8 (mC (.bl false))) QM)
  (Qk (ZX (VC (Y9 (mFn Gg (Qa (QC Zq (Qo (Qb 0)) [none] (Q2 0) V3 (Qi 1 JF (Qa (Qb 0) Qd))) Qd)))) (Q8 (mC (.bl false))) QM)
  (Q8 (QbO (Qi 1 Zd (Qa (Qb 0) Qd)) (Qi 1 ZS (Qa (Qb 0) Qd))))))
theorem YQ(d:DefAt K mg "is_program" JA ["thing"])(g_MOST_PARTS:Glob K mg "MOST_PARTS" Zo)(b_all:mg "all"=none)(b_isinstance:mg "isinstance"=none)(b_len:mg "len"=none)(b_tuple:mg "tuple"=none)(c_has_right_names:Cal P w K mg base 1 "has_right_names" ["parts"] Zd)(c_is_part:Cal P w K mg base 4 "is_part" ["thing"] JF)(c_keeps_bounds:Cal P w K mg base 4 "keeps_bounds" ["parts"] ZS):Cal P w K mg base 5 "is_program" ["thing"] Zt:=by
 refine Qy (k:=4) (more:=0) d X7 rfl fun _ _ _ _ _ _ _ hr=>?_;have nd_:=(X7).nd
 walk_at"~=*8NWSQC#:$%$"
 exact Ux rfl b_tuple EG
 walk_at"~)77##"
 refine Jn ?_
 walk_at"~S"
 refine Ur Kq Qt Kq Qt ?_ ?_ ?_
 walk_at"~(1#:$%)77##"
 exact ZT g_MOST_PARTS rfl
 walk_at"~.4Z>*8SQI##:$"
 refine JB Zg ?_ (Zi (Nb:=["part"]) (cp:=[none]) rfl (by decide +kernel) (by decide +kernel) rfl rfl) ?_ (fun _ _ _ _ _=>?_) (fun _ _ _ _ _=>?_)
 walk_at"~#J%9+5#$%)#7##)77##.4Z>.4"
 refine XE ?_ ?_
 walk_at"~+5#$%)#7##"
 refine Yw ?_
 walk_at"~+5#$%)#7##"
noncomputable def Q6:FM:=box frN Zt
noncomputable abbrev Z7:Stmt:=top 44
theorem XB:FnScope ["box","words"] ["box","words"] (Qe Z7):=⟨rfl,rfl,rfl,by decide +kernel,rfl,by decide +kernel,by decide +kernel⟩
noncomputable def Zj:FM:=Qn 0
  (Qk (ZX (Qg (Qc wEq (Qb 1) (mFn Jp (Qa (mC (.str "none")) Qd)))) (Q8 (mFn Jp (Qa (mC (.str "none")) (Qa (Qb 0) Qd)))) QM)
  (Qk (ZX (Qg (Qc (wIn false) (Qc wIx (Qb 1) (mC (.int 0))) (mFn Jp (Qa (mC (.str "pair")) (Qa (mC (.str "first")) (Qa (mC (.str "second")) Qd)))))) (Q8 (Qc Q1 (mFn Jp (Qa (Qc wIx (Qb 1) (mC (.int 0))) (Qa (Qb 0) Qd))) (mSl (Qb 1) (VB (mC (.int 1))) VG))) QM)
  (Q8 (Qc Q1 (mFn Jp (Qa (mC (.str "same")) (Qa (Qb 0) Qd))) (Qb 1)))))
theorem YG(d:DefAt K mg "giving_line" Z7 ["box","words"]):Cal P w K mg base 1 "giving_line" ["box","words"] Zj:=by
 refine Qy (k:=0) (more:=0) d XB rfl fun _ _ _ _ _ _ _ hr=>?_;have nd_:=(XB).nd
 walk_at"~=*83?%A$2).4A$2$%)>*8X?-%(A$2$2$2).40A$-%($%)U%"
 refine ZH ?_
 walk_at"~("
 exact ZL
 walk_at"~>.40A$2$%)%"
noncomputable def Zv:FM:=box frN Zj
noncomputable abbrev Zy:Stmt:=top 43
theorem V2:FnScope ["words","line"] ["words"] (Qe Zy):=⟨rfl,rfl,rfl,by decide +kernel,rfl,by decide +kernel,by decide +kernel⟩
noncomputable def Qj:FM:=Qn 1
  (Qk (ZX (Kh (Qg (Qc wGt (mFn JU (Qa (Qb 0) Qd)) (mC (.int 2)))) (Qg (Qc wEq (Qc wIx (Qb 0) (mC (.int 1))) (mC (.str "="))))) (Qk (QW 1 (Qi 2 Zv (Qa (Qc wIx (Qb 0) (mC (.int 0))) (Qa (mFn ZZ (Qa (mSl (Qb 0) (VB (mC (.int 2))) VG) Qd)) Qd))))
  (Q8 (mIf (Y9 (Qi 1 ZD (Qa (Qb 1) Qd))) (Qb 1) (mC .non)))) QM)
  (Qk (QW 1 (mFn ZZ (Qa (Qb 0) Qd)))
  (Q8 (mIf (Kh (Y9 (Qi 1 ZD (Qa (Qb 1) Qd))) (Qg (Qc wIs (Qi 1 Xu (Qa (Qb 1) Qd)) (mC .non)))) (Qb 1) (mC .non)))))
theorem Kt(d:DefAt K mg "line_of_words" Zy ["words"])(b_len:mg "len"=none)(b_tuple:mg "tuple"=none)(c_gives:Cal P w K mg base 1 "gives" ["line"] Xu)(c_giving_line:Cal P w K mg base 1 "giving_line" ["box","words"] Zv)(c_is_line:Cal P w K mg base 3 "is_line" ["thing"] ZD):Cal P w K mg base 4 "line_of_words" ["words"] Qj:=by
 refine Qy (k:=3) (more:=1) d V2 rfl fun _ _ _ _ _ _ _ hr=>?_;have nd_:=(V2).nd
 walk_at"~=*8N"
 refine Vk ?_ ?_
 walk_at"~T1#:$%)77##("
 refine VM ?_
 walk_at"~3?-%(2*,<#6+5#$-%($@#:$U%"
 refine ZH ?_
 walk_at"~("
 exact ZL
 walk_at"~)77##)#7###&.4"
 refine Qa5 ?_ ?_ ?_
 walk_at"~Q+5#$%)#7##%"
 exact Wg
 walk_at"~>*,<#6@#:$%)77###&.4"
 refine Qa5 ?_ ?_ ?_
 walk_at"~N"
 refine Vk ?_ ?_
 walk_at"~Q+5#$%)#7##"
 refine VM ?_;refine JQ Qb8 Qt ?_ ?_
 walk_at"~+5#$%)#7##"
 exact Wg
 walk_at"~%"
 exact Wg
noncomputable def Jo:FM:=box frN Qj
noncomputable abbrev ZV:Stmt:=top 41
theorem Xk:FnScope ["text","names","bodies","at","row","words","line","program"] ["text"] (Qe ZV):=⟨rfl,rfl,rfl,by decide +kernel,rfl,by decide +kernel,by decide +kernel⟩
noncomputable abbrev QY:SM:=(Qk (QW 5 (mMt "str" Vy (Qb 4) (Qa (mC (.str " ")) Qd)))
  (ZX (Y9 (Qi 1 Jd (Qa (Qb 5) Qd))) (Qk (Jj (mMt "list" QU (Qb 1) (Qa (Qc wIx (Qb 5) (mC (.int 1))) Qd)))
  (Jj (mMt "list" QU (Qb 2) (Qa (mFn Ud Qd) Qd)))) (Qk (QW 6 (Qi 1 Jo (Qa (Qb 5) Qd)))
  (Qk (ZX (UT (Qg (Qc wIs (Qb 6) (mC .non))) (VC (Y9 (Qb 2)))) Qhy QM)
  (Jj (mMt "list" QU (Qc wIx (Qb 2) (mUn G4 (mC (.int 1)))) (Qa (Qb 6) Qd)))))))
noncomputable def Jl:FM:=Qn 7
  (Qk (QW 1 (mFn Ud Qd))
  (Qk (QW 2 (mFn Ud Qd))
  (Qk (ZY (Ks (Qa (mMt "str" Vy (Qb 0) (Qa (mC (.str "\n")) Qd)) Qd)) (Zr [3,4])
  QY)
  (Qk (QW 7 (mFn ZZ (Qa (QC Zq (Qd2 (Qa (Qb 1) (Qa (Qb 2) Qd))) [none,none] (Zr [0,1]) V3 (mFn Jp (Qa (Qb 0) (Qa (mFn ZZ (Qa (Qb 1) Qd)) Qd)))) Qd)))
  (Qk (ZX (VC (Y9 (Qi 1 Q6 (Qa (Qb 7) Qd)))) Qhy QM)
  (Q8 (Qb 7)))))))
theorem KS(d:DefAt K mg "read_program" ZV ["text"])(b_enumerate:mg "enumerate"=none)(b_tuple:mg "tuple"=none)(b_zip:mg "zip"=none)(c_is_part_row:Cal P w K mg base 3 "is_part_row" ["words"] Jd)(c_is_program:Cal P w K mg base 5 "is_program" ["thing"] Q6)(c_line_of_words:Cal P w K mg base 4 "line_of_words" ["words"] Jo):Cal P w K mg base 6 "read_program" ["text"] Jl:=by
 refine Qy (k:=5) (more:=7) d Xk rfl fun _ _ _ _ _ _ _ hr=>?_;have nd_:=(Xk).nd
 walk_at"~=*,<#6V)#&*,<#6V)#&*DL#"
 refine QbR ?_ ?_ ?_ ?_
 walk_at"~#:$"
 refine WO Fx DC Ld Um ?_ ?_
 walk_at"~%$2))#"
 refine Ve ?_ ?_ ?_ ?_
 walk_at"~#EE"
 exact J4
 walk_at"~&&##*,<#6"
 refine WO Fx DC Ld Um ?_ ?_
 walk_at"~%$2)#&.8Q+5#$%)#7##*H/%$-%().H/%$V))*,<#6+5#$%)#7###&*8NW"
 refine JQ Qb8 Qt ?_ ?_
 walk_at"~%"
 exact Wg;refine Jn ?_
 walk_at"~SQ%."
 exact Qaf
 walk_at"~>.H/-%"
 refine Ke ?_
 walk_at"~($%)F*,<#6@#:$"
 refine JB Zg ?_ (Zi (Nb:=["name","body"]) (cp:=[none,none]) rfl (by decide +kernel) (by decide +kernel) rfl rfl) ?_ (fun _ _ _ _ _=>?_) (fun _ _ _ _ _=>?_)
 walk_at"~#"
 refine QhP ?_ ?_ ?_ ?_ ?_
 walk_at"~#:$%$%)##"
 refine Ve ?_ ?_ ?_ ?_
 walk_at"~#YY"
 exact J4
 walk_at"~&&##A$%$@#:$%)77##))77###&*8SQ+5#$%)#7##."
 exact Qaf
 walk_at"~>.4%"
noncomputable def JH:FM:=box frN Jl
noncomputable abbrev Q4:Stmt:=top 50
theorem Kc:FnScope ["number","many","letters","near","kept","size","at","base","found","k","name"] ["number","many"] (Qe Q4):=⟨rfl,rfl,rfl,by decide +kernel,rfl,by decide +kernel,by decide +kernel⟩
noncomputable abbrev ZQ:SM:=(Qk (QW 10 (Qc Q1 (Qc Q1 (mSl (Qb 7) VG (VB (Qb 6))) (Qc wIx (Qb 2) (Qc Js (Qc Q1 (Qc Vt (Qb 0) (mC (.int 9360))) (Qc ZU (mC (.int 3)) (Qb 9))) (mC (.int 26))))) (mSl (Qb 7) (VB (Qb 6)) VG)))
  (Qk (ZX (Qg (Qc (wIn false) (Qb 10) (Qb 4))) (QW 10 (Qc Q1 (Qb 10) (mC (.str "s")))) QM)
  (Jj (mMt "list" QU (Qb 8) (Qa (Qb 10) Qd)))))
noncomputable def Zw:FM:=Qn 9
  (Qk (QW 2 (mC (.str "abcdefghijklmnopqrstuvwxyz")))
  (Qk (QW 3 (mFn X4 (Qa (mC (.str "pairs")) (Qa (mC (.str "o")) (Qa (mC (.str "seconda")) (Qa (mC (.str "nones")) (Qa (mC (.str "en")) (Qa (mC (.str "backs")) (Qa (mC (.str "eithera")) (Qa (mC (.str "ors")) (Qa (mC (.str "dos")) (Qa (mC (.str "ends")) (Qa (mC (.str "agains")) (Qa (mC (.str "parts")) (Qa (mC (.str "firs")) Qd)))))))))))))))
  (Qk (QW 3 (Qc Q1 (Qb 3) (mFn X4 (Qa (mC (.str "same")) (Qa (mC (.str "tells")) (Qa (mC (.str "firsts")) Qd))))))
  (Qk (QW 4 (mFn Jp (Qa (mC (.str "pair")) (Qa (mC (.str "first")) (Qa (mC (.str "second")) (Qa (mC (.str "none")) (Qa (mC (.str "tell")) (Qa (mC (.str "back")) (Qa (mC (.str "either")) (Qa (mC (.str "or")) (Qa (mC (.str "again")) (Qa (mC (.str "end")) (Qa (mC (.str "do")) (Qa (mC (.str "part")) Qd))))))))))))))
  (Qk (ZX (Qg (Qc wEq (Qc Js (Qb 0) (mC (.int 5))) (mC (.int 0)))) (Q8 (QC Zq (Xx (Qa (Qb 1) Qd)) [none,some 3,some 0] (Q2 0) V3 (Qc wIx (Qb 1) (Qc Js (Qc Q1 (Qc Vt (Qb 2) (mC (.int 5))) (Qb 0)) (mC (.int 16)))))) QM)
  (Qk (ZX (Qg (Qc wEq (Qc Js (Qb 0) (mC (.int 5))) (mC (.int 1)))) (Q8 (QC Zq (Xx (Qa (Qb 1) Qd)) [none,some 2,some 0] (Q2 0) V3 (Qc ZU (Qc wIx (Qb 1) (Qc Js (Qc Vt (Qb 2) (mC (.int 5))) (mC (.int 26)))) (Qc Q1 (Qb 0) (mC (.int 1)))))) QM)
  (Qk (QW 5 (Qc Js (Qc Vt (Qb 0) (mC (.int 5))) (mC (.int 8))))
  (Qk (QW 6 (Qc Js (Qc Vt (Qb 0) (mC (.int 40))) (Qc Q1 (Qb 5) (mC (.int 1)))))
  (Qk (QW 7 (mMt "str" V7 (mC (.str "")) (Qa (QC Zq (Xx (Qa (Qb 5) Qd)) [none,some 2,some 0] (Q2 0) V3 (Qc wIx (Qb 1) (Qc Js (Qc Q1 (Qc Vt (Qb 2) (mC (.int 360))) (Qc ZU (Qc ZU (mC (.int 5)) (Qb 0)) (Qb 0))) (mC (.int 26))))) Qd)))
  (Qk (QW 8 (mFn Ud Qd))
  (Qk (ZY (Xx (Qa (Qb 1) Qd)) (Q2 9)
  ZQ)
  (Q8 (Qb 8)))))))))))))
theorem YN(d:DefAt K mg "_law_names" Q4 ["number","many"])(b_range:mg "range"=none):Cal P w K mg base 1 "_law_names" ["number","many"] Zw:=by
 refine Qy (k:=0) (more:=9) d Kc rfl fun _ _ _ _ _ _ _ hr=>?_;have nd_:=(Kc).nd
 walk_at"~=*,<#"
 exact(Or.inr rfl)
 walk_at"~2#&*,<#"
 exact(Or.inr rfl)
 walk_at"~R$2$2$2$2$2$2$2$2$2$2$2$2$2)#&*,<#"
 exact(Or.inr rfl)
 walk_at"~0%R$2$2$2)#&*,<#6A$2$2$2$2$2$2$2$2$2$2$2$2)#&*83?;%((.4"
 refine JB Zg ?_ (Y2 (ks:=["number","near"]) (Nb:=["k","near","number"]) (cp:=[none,some 3,some 0]) (N:=["number","many","letters","near","kept","size","at","base","found","k","name"]) (xs:=(Qe Q4)) rfl rfl (by decide +kernel) rfl (by decide +kernel) (by intro p hp;simp only[NB,EE,or_false]at hp;rcases hp with rfl|rfl<;>rfl) rfl rfl rfl (by decide +kernel)) ?_ (fun _ _ _ _ _=>?_) (fun _ _ _ _ _=>?_)
 walk_at"~#"
 refine Kj ?_ ?_ ?_ ?_
 walk_at"~#:$%)#9-%;0B%(%(>*83?;%((.4"
 refine JB Zg ?_ (Y2 (ks:=["number","letters"]) (Nb:=["k","letters","number"]) (cp:=[none,some 2,some 0]) (N:=["number","many","letters","near","kept","size","at","base","found","k","name"]) (xs:=(Qe Q4)) rfl rfl (by decide +kernel) rfl (by decide +kernel) (by intro p hp;simp only[NB,EE,or_false]at hp;rcases hp with rfl|rfl<;>rfl) rfl rfl rfl (by decide +kernel)) ?_ (fun _ _ _ _ _=>?_) (fun _ _ _ _ _=>?_)
 walk_at"~#"
 refine Kj ?_ ?_ ?_ ?_
 walk_at"~#:$%)#9K-%;B%((0%(>*,<#6;B%((#&*,<#6;B%(0%(#&*,<#6G2$"
 refine JB Zg ?_ (Y2 (ks:=["number","letters"]) (Nb:=["k","letters","number"]) (cp:=[none,some 2,some 0]) (N:=["number","many","letters","near","kept","size","at","base","found","k","name"]) (xs:=(Qe Q4)) rfl rfl (by decide +kernel) rfl (by decide +kernel) (by intro p hp;simp only[NB,EE,or_false]at hp;rcases hp with rfl|rfl<;>rfl) rfl rfl rfl (by decide +kernel)) ?_ (fun _ _ _ _ _=>?_) (fun _ _ _ _ _=>?_)
 walk_at"~#"
 refine Kj ?_ ?_ ?_ ?_
 walk_at"~#:$%)#9-%;0B%(KK(%%()#&*,<#6V)#&*DL#"
 refine Kj ?_ ?_ ?_ ?_
 walk_at"~#:$%)#O*,<#600U%"
 exact ZL;refine ZH ?_
 walk_at"~%-%;0B%(K(%(U%"
 refine ZH ?_
 walk_at"~%"
 exact ZL
 walk_at"~#&*8X?%%.,<#60%2#&>.H/%$%)F.4%"
noncomputable def Qx:FM:=box frN Zw
noncomputable abbrev Zn:Stmt:=top 54
theorem VE:FnScope ["parts","number","names","size","line"] ["parts","number"] (Qe Zn):=⟨rfl,rfl,rfl,by decide +kernel,rfl,by decide +kernel,by decide +kernel⟩
noncomputable abbrev ZN(a:FM):SM:=(ZX (Qg (Qc wEq (Qc wIx (Qb 4) (mC (.int 0))) (mC (.str "do")))) (QW 3 (Qc Q1 (Qc Q1 (Qb 3) (mC (.int 1))) (Qi 2 a (Qa (Qb 0) (Qa (mMt "list" UP (Qb 2) (Qa (Qc wIx (Qb 4) (mC (.int 1))) Qd)) Qd))))) (QW 3 (Qc Q1 (Qb 3) (mC (.int 1)))))
noncomputable def Vr(a:FM):FM:=Qn 3
  (Qk (QW 2 (QC Zq (Qo (Qb 0)) [none] (Q2 0) V3 (Qc wIx (Qb 0) (mC (.int 0)))))
  (Qk (QW 3 (mC (.int 0)))
  (Qk (ZY (Qo (Qc wIx (Qc wIx (Qb 0) (Qb 1)) (mC (.int 1)))) (Q2 4)
  (ZN a))
  (Q8 (Qb 3)))))
theorem YT{k:Nat}{rec_:FM}(hk:0<=k)(d:DefAt K mg "_law_sized" Zn ["parts","number"])(c_rec:Cal P w K mg base k "_law_sized" ["parts","number"] rec_):Cal P w K mg base (k+1) "_law_sized" ["parts","number"] (Vr rec_):=by
 refine Qy (k:=k) (more:=3) d VE rfl fun _ _ _ _ _ _ _ hr=>?_;have nd_:=(VE).nd
 walk_at"~=*"
 refine YB nd_ rfl (Or.inl rfl) ?_ Zg ?_ (Zi (Nb:=["part"]) (cp:=[none]) rfl (by decide +kernel) (by decide +kernel) rfl rfl) ?_ (fun _ _ _ _ _=>?_) (fun _ _ _ _ _=>?_) ?_ ?_
 walk_at"~&#J%9-%(F#*,<#6(#&*DL#J--%%(O.83?-%(2.,<#600%(+"
 exact hr.mono (by omega)
 walk_at"~#$%$"
 refine WO Eu IH PySem.F.type_list_index (Qcd ?_) ?_ ?_
 walk_at"~?%$-%())#7###&.,<#60%(#&F.4%"
noncomputable def QV:Nat->FM
 |0=>Qn 3 fun _ _=>none
 |n+1=>box frN (Vr (QV n))
theorem XD(d:DefAt K mg "_law_sized" Zn ["parts","number"]):∀n,Cal P w K mg base (1+n) "_law_sized" ["parts","number"] (QV n)
 |0=>Qy (k:=0) (more:=3) d VE rfl fun _ _ _ _ _ _ _ _=>QcY
 |n+1=>(YT (k:=1+n) (by omega) d (XD d n)).box frN
noncomputable def ZE:FM:=QV 6
theorem YM(d:DefAt K mg "_law_sized" Zn ["parts","number"]):Cal P w K mg base 7 "_law_sized" ["parts","number"] ZE:=XD d 6
noncomputable abbrev Z8:Stmt:=top 52
theorem XI:FnScope ["waiting","lines","word"] ["waiting"] (Qe Z8):=⟨rfl,rfl,rfl,by decide +kernel,rfl,by decide +kernel,by decide +kernel⟩
noncomputable abbrev V1:SM:=(Qk (ZX (Qg (Qc wEq (Qb 2) (mC (.str "either")))) (Jj (mMt "list" QU (Qb 1) (Qa (mFn Jp (Qa (mC (.str "or")) Qd)) Qd))) QM)
  (Jj (mMt "list" QU (Qb 1) (Qa (mFn Jp (Qa (mC (.str "end")) Qd)) Qd))))
noncomputable def Zf:FM:=Qn 2
  (Qk (QW 1 (mFn Ud Qd))
  (Qk (ZY (Qg0 (Qa (Qb 0) Qd)) (Q2 2)
  V1)
  (Q8 (Qb 1))))
theorem YH(d:DefAt K mg "_law_closed" Z8 ["waiting"])(b_reversed:mg "reversed"=none):Cal P w K mg base 1 "_law_closed" ["waiting"] Zf:=by
 refine Qy (k:=0) (more:=2) d XI rfl fun _ _ _ _ _ _ _ hr=>?_;have nd_:=(XI).nd
 walk_at"~=*,<#6V)#&*DL#"
 refine Qh4 ?_ ?_ ?_ ?_
 walk_at"~#:$%)#O*83?%2.H/%$A$2))>.H/%$A$2))F.4%"
noncomputable def Je:FM:=box frN Zf
noncomputable abbrev J5:Stmt:=top 51
theorem KM:FnScope ["number","boxes","words","x","y","z","way"] ["number","boxes","words"] (Qe J5):=⟨rfl,rfl,rfl,by decide +kernel,rfl,by decide +kernel,by decide +kernel⟩
noncomputable def Ql:FM:=Qn 4
  (Qk (QW 3 (Qc wIx (Qb 1) (Qc Js (Qc Vt (Qb 0) (mC (.int 16))) (mFn JU (Qa (Qb 1) Qd)))))
  (Qk (QW 4 (Qc wIx (Qb 1) (Qc Js (Qc Vt (Qb 0) (mC (.int 160))) (mFn JU (Qa (Qb 1) Qd)))))
  (Qk (QW 5 (Qc wIx (Qb 1) (Qc Js (Qc Vt (Qb 0) (mC (.int 1600))) (mFn JU (Qa (Qb 1) Qd)))))
  (Qk (QW 6 (Qc Js (Qb 0) (mC (.int 16))))
  (Qk (ZX (Qg (Qc wGt (Qb 6) (mC (.int 9)))) (QW 6 (Qc Js (Qc Vt (Qb 0) (mC (.int 64))) (mC (.int 10)))) QM)
  (Qk (ZX (Qg (Qc wLt (Qb 6) (mC (.int 3)))) (Q8 (mFn Jp (Qa (mC (.str "pair")) (Qa (Qb 3) (Qa (Qc wIx (Qb 2) (Qc Js (Qc Vt (Qb 0) (mC (.int 16000))) (mFn JU (Qa (Qb 2) Qd)))) (Qa (Qb 4) (Qa (Qb 5) Qd))))))) QM)
  (Qk (ZX (Qg (Qc wLt (Qb 6) (mC (.int 5)))) (Q8 (mFn Jp (Qa (mC (.str "first")) (Qa (Qb 3) (Qa (Qb 4) Qd))))) QM)
  (Qk (ZX (Qg (Qc wEq (Qb 6) (mC (.int 5)))) (Q8 (mFn Jp (Qa (mC (.str "second")) (Qa (Qb 3) (Qa (Qb 4) Qd))))) QM)
  (Qk (ZX (Qg (Qc wEq (Qb 6) (mC (.int 6)))) (Q8 (mFn Jp (Qa (mC (.str "same")) (Qa (Qb 3) (Qa (Qb 4) Qd))))) QM)
  (Qk (ZX (Qg (Qc wEq (Qb 6) (mC (.int 7)))) (Q8 (mFn Jp (Qa (mC (.str "none")) (Qa (Qb 3) Qd)))) QM)
  (Q8 (mFn Jp (Qa (mC (.str "tell")) (Qa (Qb 4) Qd))))))))))))))
theorem Wl(d:DefAt K mg "_law_line" J5 ["number","boxes","words"])(b_len:mg "len"=none):Cal P w K mg base 1 "_law_line" ["number","boxes","words"] Ql:=by
 refine Qy (k:=0) (more:=4) d KM rfl fun _ _ _ _ _ _ _ hr=>?_;have nd_:=(KM).nd
 walk_at"~=*,<#6-%;B%(1#:$%)77###&*,<#6-%;B%(1#:$%)77###&*,<#6-%;B%(1#:$%)77###&*,<#6;%(#&*8T%(.,<#6;B%((#&>*8"
 refine JQ Uk Qt ?_ ?_
 walk_at"~%(.4A$2$%$-%;B%(1#:$%)77##$%$%)>*8"
 refine JQ Uk Qt ?_ ?_
 walk_at"~%(.4A$2$%$%)>*83?%(.4A$2$%$%)>*83?%(.4A$2$%$%)>*83?%(.4A$2$%)>.4A$2$%)"
noncomputable def J3:FM:=box frN Ql
noncomputable abbrev Jx:Stmt:=top 53
theorem Kn:FnScope ["numbers","boxes","words","others","deep","left","lines","waiting","number","way"] ["numbers","boxes","words","others","deep","left"] (Qe Jx):=⟨rfl,rfl,rfl,by decide +kernel,rfl,by decide +kernel,by decide +kernel⟩
noncomputable abbrev JS:SM:=(Qk (QW 9 (Qc Js (Qb 8) (mC (.int 16))))
  (ZX (Kh (Qg (Qc (wIn false) (Qb 9) (mFn Jp (Qa (mC (.int 10)) (Qa (mC (.int 12)) Qd))))) (Qg (Qc wLt (mFn JU (Qa (Qb 7) Qd)) (Qb 4)))) (Qk (Jj (mMt "list" QU (Qb 7) (Qa (Qc wIx (mFn X4 (Qa (mC (.str "either")) (Qa (mC (.str "again")) Qd))) (mFn Qea (Qa (Qc wEq (Qb 9) (mC (.int 12))) Qd))) Qd)))
  (Jj (mMt "list" QU (Qb 6) (Qa (mFn Jp (Qa (Qc wIx (Qb 7) (mUn G4 (mC (.int 1)))) Qd)) Qd)))) (ZX (Kh (Qg (Qc (wIn false) (Qb 9) (mFn Jp (Qa (mC (.int 11)) (Qa (mC (.int 13)) Qd))))) (Kh (Qg (Qc wNe (Qb 7) (mFn X4 Qd))) (Qg (Qc wEq (Qc wIx (Qb 7) (mUn G4 (mC (.int 1)))) (mC (.str "either")))))) (Qk (QiF (Qb 7) (mUn G4 (mC (.int 1))) (mC (.str "or")))
  (Jj (mMt "list" QU (Qb 6) (Qa (mFn Jp (Qa (mC (.str "or")) Qd)) Qd)))) (ZX (Kh (Qg (Qc (wIn false) (Qb 9) (mFn Jp (Qa (mC (.int 11)) (Qa (mC (.int 13)) Qd))))) (Qg (Qc wNe (Qb 7) (mFn X4 Qd)))) (Qk (Jj (mMt "list" QiP (Qb 7) Qd))
  (Jj (mMt "list" QU (Qb 6) (Qa (mFn Jp (Qa (mC (.str "end")) Qd)) Qd)))) (ZX (Kh (Qg (Qc wGt (Qb 9) (mC (.int 13)))) (Kh (Qg (Qc wNe (Qb 3) (mFn X4 Qd))) (Qg (Qc wGt (Qc wIx (Qb 5) (mC (.int 0))) (mC (.int 0)))))) (Qk (QiF (Qb 5) (mC (.int 0)) (Qc Qin (Qc wIx (Qb 5) (mC (.int 0))) (mC (.int 1))))
  (Jj (mMt "list" QU (Qb 6) (Qa (mFn Jp (Qa (mC (.str "do")) (Qa (Qc wIx (Qb 3) (Qc Js (Qc Vt (Qb 8) (mC (.int 16))) (mFn JU (Qa (Qb 3) Qd)))) Qd))) Qd)))) (Jj (mMt "list" QU (Qb 6) (Qa (Qi 3 J3 (Qa (Qb 8) (Qa (Qb 1) (Qa (Qb 2) Qd)))) Qd))))))))
noncomputable def Vn:FM:=Qn 4
  (Qk (QW 6 (mFn Ud Qd))
  (Qk (QW 7 (mFn Ud Qd))
  (Qk (ZY (Qo (Qb 0)) (Q2 8)
  JS)
  (Q8 (mFn ZZ (Qa (Qc Q1 (Qb 6) (Qi 1 Je (Qa (Qb 7) Qd))) Qd))))))
theorem YV(d:DefAt K mg "_law_lines" Jx ["numbers","boxes","words","others","deep","left"])(b_int:mg "int"=none)(b_len:mg "len"=none)(b_tuple:mg "tuple"=none)(c__law_closed:Cal P w K mg base 1 "_law_closed" ["waiting"] Je)(c__law_line:Cal P w K mg base 1 "_law_line" ["number","boxes","words"] J3):Cal P w K mg base 2 "_law_lines" ["numbers","boxes","words","others","deep","left"] Vn:=by
 refine Qy (k:=1) (more:=4) d Kn rfl fun _ _ _ _ _ _ _ hr=>?_;have nd_:=(Kn).nd
 walk_at"~=*,<#6V)#&*,<#6V)#&*DL#J%O*,<#6;%(#&.8N"
 refine Vk ?_ ?_
 walk_at"~X?%A$($()"
 refine VM ?_;refine JQ Uk Qt ?_ ?_
 walk_at"~1#:$%)77##%*H/%$-R$2$2)"
 refine V4 YA ZM ?_ ?_ FE ?_ ?_ ?_ ?_ ?_
 walk_at"~#:$"
 refine VA (Ym ?_) Qt ?_ ?_
 walk_at"~?%()77##).H/%$A$-%"
 refine Ke ?_
 walk_at"~()).8N"
 refine Vk ?_ ?_
 walk_at"~X?%A$($()"
 refine Vk ?_ ?_
 walk_at"~P?%R)"
 refine VM ?_
 walk_at"~3?-%"
 refine Ke ?_
 walk_at"~(2*"
 refine GK ?_ ?_ ?_ ?_ ?_ ?_
 walk_at"~%"
 refine Ke ?_
 walk_at"~(2F##.H/%$A$2)).8N"
 refine Vk ?_ ?_
 walk_at"~X?%A$($()"
 refine VM ?_
 walk_at"~P?%R)*H"
 refine Qf5 Eu FQ Lq QdX ?_
 walk_at"~%.H/%$A$2)).8N"
 refine Vk ?_ ?_
 walk_at"~T%("
 refine Vk ?_ ?_
 walk_at"~P?%R)"
 refine VM ?_
 walk_at"~T-%((*"
 refine GK ?_ ?_ ?_ ?_ ?_ ?_
 walk_at"~%("
 refine Gn QdD Qt ?_ ?_
 walk_at"~-%((F##.H/%$A$2$-%;B%(1#:$%)77##)).H/%$+5#$%$%$%)#7##)F.4@#:$0%+5#$%)#7##)77##"
noncomputable def VU:FM:=box frN Vn
noncomputable abbrev Q0:Stmt:=top 55
theorem Xj:FnScope ["script","top","heads","many","boxes","words","names","count","left","parts","k","numbers","often","more"] ["script","top"] (Qe Q0):=⟨rfl,rfl,rfl,by decide +kernel,rfl,by decide +kernel,by decide +kernel⟩
noncomputable abbrev QO:SM:=(Qk (QW 11 (QC Zq (Xx (Qa (Qb 7) Qd)) [none,some 0,some 10,some 7,some 3] (Q2 0) (Qg (Qc wEq (Qc Vt (Qc ZU (Qb 0) (Qb 4)) (Qb 3)) (Qb 2))) (Qi 2 Qp (Qa (Qb 1) (Qa (Qc Q1 (mC (.int 4)) (Qb 0)) Qd)))))
  (Jj (mMt "list" QU (Qb 9) (Qa (mFn Jp (Qa (Qc wIx (Qb 6) (Qb 10)) (Qa (Qi 6 VU (Qa (Qb 11) (Qa (Qb 4) (Qa (Qb 5) (Qa (mSl (Qb 6) (VB (Qc Q1 (Qb 10) (mC (.int 1)))) VG) (Qa (Qc Q1 (mC (.int 1)) (mFn Qea (Qa (Qc wLt (Qb 3) (mC (.int 4))) Qd))) (Qa (Qb 8) Qd))))))) Qd))) Qd))))
noncomputable def Zz:FM:=Qn 12
  (Qk (QW 2 (QC Zq (Xx (Qa (mC (.int 4)) Qd)) [none,some 0] (Q2 0) V3 (Qi 2 Qp (Qa (Qb 1) (Qa (Qb 0) Qd)))))
  (Qk (QW 3 (Qc wIx (mFn X4 (Qa (mC (.int 1)) (Qa (mC (.int 1)) (Qa (mC (.int 2)) (Qa (mC (.int 2)) (Qa (mC (.int 3)) (Qa (mC (.int 3)) (Qa (mC (.int 2)) (Qa (mC (.int 5)) Qd))))))))) (Qc Js (Qc wIx (Qb 2) (mC (.int 0))) (mC (.int 8)))))
  (Qk (QW 4 (Qi 2 Qx (Qa (Qc Vt (Qc wIx (Qb 2) (mC (.int 1))) (mC (.int 8))) (Qa (Qc wIx (mFn X4 (Qa (mC (.int 1)) (Qa (mC (.int 2)) (Qa (mC (.int 2)) (Qa (mC (.int 3)) (Qa (mC (.int 3)) (Qa (mC (.int 2)) (Qa (mC (.int 3)) (Qa (mC (.int 5)) Qd))))))))) (Qc Js (Qc wIx (Qb 2) (mC (.int 1))) (mC (.int 8)))) Qd))))
  (Qk (QW 5 (Qi 2 Qx (Qa (Qc Vt (Qc wIx (Qb 2) (mC (.int 2))) (mC (.int 8))) (Qa (Qc wIx (mFn X4 (Qa (mC (.int 1)) (Qa (mC (.int 2)) (Qa (mC (.int 2)) (Qa (mC (.int 3)) (Qa (mC (.int 1)) (Qa (mC (.int 2)) (Qa (mC (.int 3)) (Qa (mC (.int 5)) Qd))))))))) (Qc Js (Qc wIx (Qb 2) (mC (.int 2))) (mC (.int 8)))) Qd))))
  (Qk (QW 6 (Qi 2 Qx (Qa (Qc wIx (Qb 2) (mC (.int 3))) (Qa (Qb 3) Qd))))
  (Qk (QW 7 (mFn QgM (Qa (mFn QiA (Qa (Qc Qin (mFn JU (Qa (Qb 0) Qd)) (mC (.int 4))) (Qa (Qb 1) Qd))) (Qa (Qc Q1 (mC (.int 3)) (Qc Js (Qc Vt (Qc wIx (Qb 2) (mC (.int 0))) (mC (.int 8))) (mC (.int 6)))) Qd))))
  (Qk (QW 8 (mFn Ud (Qa (Qc wIx (mFn X4 (Qa (mC (.int 3)) (Qa (mC (.int 1)) Qd))) (mFn Qea (Qa (Qc wGt (Qb 7) (mC (.int 12))) Qd))) Qd)))
  (Qk (QW 9 (mFn Ud Qd))
  (Qk (ZY (Xx (Qa (Qb 3) Qd)) (Q2 10)
  QO)
  (Qk (QW 12 (Qc GM (mFn Jp (Qa (mFn Jp (Qa (mC (.str "do")) (Qa (Qc wIx (Qb 6) (mUn G4 (mC (.int 1)))) Qd))) Qd)) (Qc Q1 (mC (.int 2)) (Qc Js (Qc Vt (Qc wIx (Qb 2) (mC (.int 3))) (mC (.int 7))) (mC (.int 4))))))
  (Qk (QW 13 (Qc Q1 (mFn Jp (Qa (mFn Jp (Qa (Qc wIx (Qb 6) (mC (.int 0))) (Qa (Qc Q1 (Qb 12) (Qc wIx (Qc wIx (Qb 9) (mC (.int 0))) (mC (.int 1)))) Qd))) Qd)) (mFn ZZ (Qa (mSl (Qb 9) (VB (mC (.int 1))) VG) Qd))))
  (Qk (ZX (Kh (Qg (Qc wGt (Qb 3) (mC (.int 1)))) (Kh (Qg (Qc wEq (Qc Js (Qc Vt (Qc wIx (Qb 2) (mC (.int 2))) (mC (.int 64))) (mC (.int 4))) (mC (.int 0)))) (Qg (Qc wLt (Qi 2 ZE (Qa (Qb 13) (Qa (mC (.int 0)) Qd))) (mC (.int 20)))))) (Q8 (Qb 13)) QM)
  (Q8 (mFn ZZ (Qa (Qb 9) Qd)))))))))))))))
theorem KU(d:DefAt K mg "_law_program" Q0 ["script","top"])(b_int:mg "int"=none)(b_len:mg "len"=none)(b_max:mg "max"=none)(b_min:mg "min"=none)(b_range:mg "range"=none)(b_tuple:mg "tuple"=none)(c__law_lines:Cal P w K mg base 2 "_law_lines" ["numbers","boxes","words","others","deep","left"] VU)(c__law_mixed:Cal P w K mg base 1 "_law_mixed" ["script","k"] Qp)(c__law_names:Cal P w K mg base 1 "_law_names" ["number","many"] Qx)(c__law_sized:Cal P w K mg base 7 "_law_sized" ["parts","number"] ZE):Cal P w K mg base 8 "_law_program" ["script","top"] Zz:=by
 refine Qy (k:=7) (more:=12) d Xj rfl fun _ _ _ _ _ _ _ hr=>?_;have nd_:=(Xj).nd
 walk_at"~=*"
 refine YB nd_ rfl (Or.inl rfl) ?_ Zg ?_ (Y2 (ks:=["script"]) (Nb:=["k","script"]) (cp:=[none,some 0]) (N:=["script","top","heads","many","boxes","words","names","count","left","parts","k","numbers","often","more"]) (xs:=(Qe Q0)) rfl rfl (by decide +kernel) rfl (by decide +kernel) (by intro p hp;simp only[NB,EE,or_false]at hp;rcases hp with rfl<;>rfl) rfl rfl rfl (by decide +kernel)) ?_ (fun _ _ _ _ _=>?_) (fun _ _ _ _ _=>?_) ?_ ?_
 walk_at"~&#"
 refine Kj ?_ ?_ ?_ ?_
 walk_at"~#:$()#9+5#$%$%)#7##F#*,<#"
 exact(Or.inr rfl)
 walk_at"~-R$($($($($($($($();-%((#&*,<#6+5#$B-%(($-R$($($($($($($($();-%(()#7###&*,<#6+5#$B-%(($-R$($($($($($($($();-%(()#7###&*,<#6+5#$-%($%)#7###&*,<#"
 exact(Or.inr rfl);refine Xv (UZ ?_) ZM ?_ ?_ Lp ?_ ?_ ?_ ?_ ?_
 walk_at"~##:$"
 refine Xv (Qb9 ?_) ZM ?_ ?_ PyProof.Rows.boot_min ?_ ?_ ?_ ?_ ?_
 walk_at"~##:$"
 refine Gn QdD Qt ?_ ?_
 walk_at"~1#:$%)77##($%)77##$0(;B-%((()77###&*,<#6V$-R$($()"
 refine V4 YA ZM ?_ ?_ FE ?_ ?_ ?_ ?_ ?_
 walk_at"~#:$"
 refine VA QfO Qt ?_ ?_
 walk_at"~%()77##)#&*,<#6V)#&*DL#"
 refine Kj ?_ ?_ ?_ ?_
 walk_at"~#:$%)#"
 exact Ww (i:=10) (x:="k") nd_ rfl (Or.inr rfl)
 walk_at"~*"
 refine UW nd_ rfl (Or.inl rfl) ?_ Zg ?_ (Y2 (ks:=["script","many","k","count"]) (Nb:=["j","script","k","count","many"]) (cp:=[none,some 0,some 10,some 7,some 3]) (N:=["script","top","heads","many","boxes","words","names","count","left","parts","k","numbers","often","more"]) (xs:=(Qe Q0)) rfl rfl (by decide +kernel) rfl (by decide +kernel) (by intro p hp;simp only[NB,EE,or_false]at hp;rcases hp with rfl|rfl|rfl|rfl<;>rfl) rfl rfl rfl (by decide +kernel)) ?_ (fun _ _ _ _ _=>?_) (fun _ _ _ _ _=>?_) (fun _ _ _ _ _=>?_) ?_ ?_
 walk_at"~&#"
 refine Kj ?_ ?_ ?_ ?_
 walk_at"~#:$%)#93?BK%%%%+5#$%$0(%)#7##F#.H/%$A$-%%$+5#$%$%$%$U%"
 refine ZH ?_
 walk_at"~0%("
 exact ZL
 walk_at"~$0("
 refine V4 YA ZM ?_ ?_ FE ?_ ?_ ?_ ?_ ?_
 walk_at"~#:$"
 refine VA Uk Qt ?_ ?_
 walk_at"~%()77##$%)#7##))F*,<#6"
 refine Gn Qfr Qt ?_ ?_
 walk_at"~A$A$2$-%"
 refine Ke ?_
 walk_at"~())0(;B-%(((#&*,<#60A$A$-%($0%--%(())@#:$U%"
 refine ZH ?_
 walk_at"~("
 exact ZL
 walk_at"~)77###&*8N"
 refine Vk ?_ ?_
 walk_at"~T%("
 refine Vk ?_ ?_
 walk_at"~3?;B-%(((("
 refine VM ?_;refine JQ Uk Qt ?_ ?_
 walk_at"~+5#$%$()#7##(.4%>.4@#:$%)77##"
noncomputable def ZI:FM:=box frN Zz
noncomputable abbrev VO:Stmt:=top 58
theorem YK:FnScope ["line","word"] ["line"] (Qe VO):=⟨rfl,rfl,rfl,by decide +kernel,rfl,by decide +kernel,by decide +kernel⟩
noncomputable def QF:FM:=Qn 1
  (Qk (QW 1 (Qc wIx (Qb 0) (mC (.int 0))))
  (Qk (ZX (Qg (Qc wEq (Qb 1) (mC (.str "same")))) (Q8 (Qc Q1 (Qc Q1 (Qc wIx (Qb 0) (mC (.int 1))) (mC (.str " = "))) (Qc wIx (Qb 0) (mC (.int 2))))) QM)
  (Qk (ZX (Qg (Qc wEq (Qb 1) (mC (.str "pair")))) (Q8 (Qc Q1 (Qc Q1 (Qc wIx (Qb 0) (mC (.int 1))) (mC (.str " = pair "))) (mMt "str" V7 (mC (.str " ")) (Qa (mSl (Qb 0) (VB (mC (.int 2))) VG) Qd)))) QM)
  (Qk (ZX (UT (Qg (Qc wEq (Qb 1) (mC (.str "first")))) (Qg (Qc wEq (Qb 1) (mC (.str "second"))))) (Q8 (Qc Q1 (Qc Q1 (Qc Q1 (Qc Q1 (Qc wIx (Qb 0) (mC (.int 1))) (mC (.str " = "))) (Qb 1)) (mC (.str " "))) (Qc wIx (Qb 0) (mC (.int 2))))) QM)
  (Qk (ZX (Qg (Qc wEq (Qb 1) (mC (.str "none")))) (Q8 (Qc Q1 (Qc wIx (Qb 0) (mC (.int 1))) (mC (.str " = none")))) QM)
  (Qk (ZX (Qg (Qc wEq (mFn JU (Qa (Qb 0) Qd)) (mC (.int 2)))) (Q8 (Qc Q1 (Qc Q1 (Qb 1) (mC (.str " "))) (Qc wIx (Qb 0) (mC (.int 1))))) QM)
  (Q8 (Qb 1))))))))
theorem UH(d:DefAt K mg "_law_row" VO ["line"])(b_len:mg "len"=none):Cal P w K mg base 1 "_law_row" ["line"] QF:=by
 refine Qy (k:=0) (more:=1) d YK rfl fun _ _ _ _ _ _ _ hr=>?_;have nd_:=(YK).nd
 walk_at"~=*,<#6-%(#&*83?%2.400-%(2-%(>*83?%2.400-%(2G2$U%"
 refine ZH ?_
 walk_at"~("
 exact ZL
 walk_at"~)>*8NW3?%2"
 refine Jn ?_
 walk_at"~3?%2.40000-%(2%2-%(>*83?%2.40-%(2>*83?1#:$%)77##(.400%2-%(>.4%"
noncomputable def JM:FM:=box frN QF
noncomputable abbrev JZ:Stmt:=top 59
theorem KE:FnScope ["program","rows","name","lines"] ["program"] (Qe JZ):=⟨rfl,rfl,rfl,by decide +kernel,rfl,by decide +kernel,by decide +kernel⟩
noncomputable abbrev Vl:SM:=(QW 1 (Qc Q1 (Qc Q1 (Qb 1) (mFn X4 (Qa (Qc Q1 (mC (.str "part ")) (Qb 2)) Qd))) (QC Zq (Qo (Qb 3)) [none] (Q2 0) V3 (Qi 1 JM (Qa (Qb 0) Qd)))))
noncomputable def VH:FM:=Qn 3
  (Qk (QW 1 (mFn X4 Qd))
  (Qk (ZY (Qo (Qb 0)) (Zr [2,3])
  Vl)
  (Q8 (Qb 1))))
theorem WJ(d:DefAt K mg "_law_rows" JZ ["program"])(c__law_row:Cal P w K mg base 1 "_law_row" ["line"] JM):Cal P w K mg base 2 "_law_rows" ["program"] VH:=by
 refine Qy (k:=1) (more:=3) d KE rfl fun _ _ _ _ _ _ _ hr=>?_;have nd_:=(KE).nd
 walk_at"~=*,<#6R)#&*DL#J%"
 refine Ve ?_ ?_ ?_ ?_
 walk_at"~#EE"
 exact J4
 walk_at"~&&##.,<#600%R$02%)M#J%9+5#$%)#7###&F.4%"
noncomputable def Xi:FM:=box frN VH
noncomputable abbrev Uf:Stmt:=top 60
theorem Qf1:FnScope ["script","program","text","told","found"] ["script"] (Qe Uf):=⟨rfl,rfl,rfl,by decide +kernel,rfl,by decide +kernel,by decide +kernel⟩
noncomputable def Kz:FM:=Qn 4
  (Qk (QW 1 (Qi 2 Jc (Qa (Qb 0) (Qa (Qi 2 ZI (Qa (Qb 0) (Qa (mC (.int 40)) Qd))) Qd))))
  (Qk (QW 2 (mMt "str" V7 (mC (.str "\n")) (Qa (Qi 1 Xi (Qa (Qb 1) Qd)) Qd)))
  (Qk (QW 3 (Qi 1 ZK (Qa (Qb 1) Qd)))
  (Qk (ZX (UT (VC (Y9 (mFn Gf (Qa (Qb 3) (Qa (mC (.ty "str")) Qd))))) (UT (Qg (Qc wNe (Qb 3) (Qb 2))) (Qg (Qc wNe (Qb 1) (Qi 2 Jc (Qa (Qb 0) (Qa (Qi 2 ZI (Qa (Qb 0) (Qa (mC (.int 40)) Qd))) Qd))))))) (Q8 (mC (.bl false))) QM)
  (Qk (QW 4 (Qi 1 JH (Qa (Qb 2) Qd)))
  (Q8 (QbO (mFn Gf (Qa (Qb 4) (Qa (mC (.ty "tuple")) Qd))) (QbO (Qc wEq (Qb 4) (Qb 1)) (Qc wEq (Qi 1 ZK (Qa (Qb 4) Qd)) (Qb 2))))))))))
theorem Qhe(d:DefAt K mg "law" Uf ["script"])(b_isinstance:mg "isinstance"=none)(b_str:mg "str"=none)(b_tuple:mg "tuple"=none)(c__law_backed:Cal P w K mg base 2 "_law_backed" ["script","program"] Jc)(c__law_program:Cal P w K mg base 8 "_law_program" ["script","top"] ZI)(c__law_rows:Cal P w K mg base 2 "_law_rows" ["program"] Xi)(c_read_program:Cal P w K mg base 6 "read_program" ["text"] JH)(c_show_program:Cal P w K mg base 3 "show_program" ["program"] ZK):Cal P w K mg base 9 "law" ["script"] Kz:=by
 refine Qy (k:=8) (more:=4) d Qf1 rfl fun _ _ _ _ _ _ _ hr=>?_;have nd_:=(Qf1).nd
 walk_at"~=*,<#6+5#$%$+5#$%$()#7##)#7###&*,<#6G2$+5#$%)#7##)#&*,<#6+5#$%)#7###&*8NWSQC#:$%$"
 exact Ux rfl b_str FD
 walk_at"~)77##WP?%%"
 refine Jn ?_
 walk_at"~P?%+5#$%$+5#$%$()#7##)#7##.4Z>*,<#6+5#$%)#7###&.4"
 refine XE ?_ ?_
 walk_at"~C#:$%$"
 exact Ux rfl b_tuple EG
 walk_at"~)77##"
 refine XE ?_ ?_;refine VA (Ym ?_) Qt ?_ ?_
 walk_at"~?%%"
 refine Yw ?_;refine VA (Ym ?_) Qt ?_ ?_
 walk_at"~?+5#$%)#7##%"
end
theorem Qhu{P:Program}{w:World}{K:Nd}{a:Str->Option Value}{base:Heap}(ah:DefAt K a "_law_words" Jr ["program"])(ak:DefAt K a "_law_mixed" JC ["script","k"])(N:DefAt K a "_law_backed" Z5 ["script","program"])(bt:DefAt K a "gives" K5 ["line"])(au:DefAt K a "show_line" Vh ["line"])(y:DefAt K a "show_program" ZR ["program"])(g:DefAt K a "is_small_letter" Zc ["sign"])(bn:DefAt K a "is_name" Xt ["thing"])(J:DefAt K a "is_part_row" Ja ["words"])(h:DefAt K a "has_right_names" QS ["parts"])(A:DefAt K a "level_change" ZO ["line"])(av:DefAt K a "line_size" Vb ["line","sizes"])(as:DefAt K a "size_with" Vg ["lines","sizes"])(ax:DefAt K a "flat_size" Vc ["program"])(a9:DefAt K a "is_small" VZ ["size"])(ay:DefAt K a "all_lines" Vd ["program"])(bb:DefAt K a "boxes_in" V0 ["line"])(ba:DefAt K a "boxes_of" VN ["program"])(a7:DefAt K a "words_of" VR ["program"])(a8:DefAt K a "own_size" VQ ["lines"])(B:DefAt K a "keeps_bounds" ZG ["parts"])(aw:DefAt K a "is_blocks" J2 ["lines"])(bo:DefAt K a "is_line" Xs ["thing"])(bm:DefAt K a "is_part" Xw ["thing"])(af:DefAt K a "is_program" JA ["thing"])(L:DefAt K a "giving_line" Z7 ["box","words"])(o:DefAt K a "line_of_words" Zy ["words"])(z:DefAt K a "read_program" ZV ["text"])(aj:DefAt K a "_law_names" Q4 ["number","many"])(ai:DefAt K a "_law_sized" Zn ["parts","number"])(M:DefAt K a "_law_closed" Z8 ["waiting"])(a0:DefAt K a "_law_line" J5 ["number","boxes","words"])(al:DefAt K a "_law_lines" Jx ["numbers","boxes","words","others","deep","left"])(C:DefAt K a "_law_program" Q0 ["script","top"])(bc:DefAt K a "_law_row" VO ["line"])(az:DefAt K a "_law_rows" JZ ["program"])(bz:DefAt K a "law" Uf ["script"])(br:Glob K a "GIVING" Xc)(bw:Glob K a "KEPT" Yf)(ae:Glob K a "MOST_BACKS" Jy)(I:Glob K a "MOST_BLOCKS" Jb)(ab:Glob K a "MOST_BOXES" JD)(x:Glob K a "MOST_LETTERS" QZ)(aa:Glob K a "MOST_LINES" Jq)(Z:Glob K a "MOST_PARTS" Zo)(ar:Glob K a "MOST_WAYS" J6)(Y:Glob K a "MOST_WORDS" Jt)(v:GTab w K a "NAMES_BEHIND" QE)(u:Glob K a "UNENTERED_DO" ZP)(s:a "all"=none)(n:a "enumerate"=none)(bv:a "int"=none)(b:a "isinstance"=none)(c:a "len"=none)(bx:a "list"=none)(bu:a "max"=none)(b2:a "min"=none)(X:a "range"=none)(t:a "reversed"=none)(U:a "set"=none)(r:a "sorted"=none)(bq:a "str"=none)(d:a "tuple"=none)(b1:a "zip"=none):Cal P w K a base 9 "law" ["script"] Kz:=by
 have an:=(YR (P:=P) (w:=w) (base:=base) ah U r).box frN;have f:=(YW (P:=P) (w:=w) (base:=base) ak c).box frN;have T:=(Yc N c X d f an).box frN;have bg:=(QcP (P:=P) (w:=w) (base:=base) bt br).box frN;have a1:=(WW au bg).box frN;have D:=(KN y a1).box frN;have i:=(XV (P:=P) (w:=w) (base:=base) g).box frN;have j:=(Gk bn bw x s b c bq i).box frN;have O:=(Yi J c j).box frN;have l:=(XU (P:=P) (w:=w) (base:=base) h s n c U).box frN;have F:=(KP (P:=P) (w:=w) (base:=base) A).box frN;have a2:Cal P w K a base 1 "line_size" ["line","sizes"] QT:=W9 av u;have m:Cal P w K a base 2 "size_with" ["lines","sizes"] QD:=W1 as bu F a2;have a4:=(Wq ax t m).box frN;have bf:=(Ut (P:=P) (w:=w) (base:=base) a9 ae I aa).box frN;have e:=(Wr (P:=P) (w:=w) (base:=base) ay).box frN;have bi:=(Gc (P:=P) (w:=w) (base:=base) bb bx).box frN;have bh:=(U1 ba U r e bi).box frN;have bd:=(Ue a7 U r e).box frN;have be:=(Uw a8 m).box frN;have G:=(KQ B ab ar Y s c U e bh a4 bf be bd).box frN;have a3:=(WS (P:=P) (w:=w) (base:=base) aw c).box frN;have Q:=(Gr bo v s b c bq d j).box frN;have bp:=(Gz bm s b c d a3 Q j).box frN;have am:=(YQ af Z s b c d l bp G).box frN;have R:=(YG (P:=P) (w:=w) (base:=base) L).box frN;have p:=(Kt o c d bg R Q).box frN;have E:=(KS z n d b1 O am p).box frN;have ap:=(YN (P:=P) (w:=w) (base:=base) aj X).box frN;have ao:Cal P w K a base 7 "_law_sized" ["parts","number"] ZE:=YM ai;have S:=(YH (P:=P) (w:=w) (base:=base) M t).box frN;have a6:=(Wl (P:=P) (w:=w) (base:=base) a0 c).box frN;have aq:=(YV al bv c d S a6).box frN;have H:=(KU C bv c bu b2 X d aq f ap ao).box frN;have bj:=(UH (P:=P) (w:=w) (base:=base) bc c).box frN;have a5:=(WJ az bj).box frN;have b0:Cal P w K a base 9 "law" ["script"] Kz:=Qhe bz b bq d T H a5 E D;exact b0
noncomputable abbrev Ln:=List Str
noncomputable def Qf(l:Ln):W:=.tup (l.map .str)
noncomputable def Ze(xs:List Str):W:=.lst (xs.map .str)
noncomputable abbrev Pt:=Str×List Ln
noncomputable def Qz(p:Pt):W:=.tup [.str p.1,.tup (p.2.map Qf)]
noncomputable def Qs(p:List Pt):W:=.tup (p.map Qz)
theorem Qas:∀{ws:List W},(∀w∈ws,pln w=true)->W5 ws=true
 |[],_=>rfl
 |w::ws,h=>by unfold W5;rw[h w Nx,Qas fun x a=>h x (No _ a)];rfl
theorem Qap{n:Nat}:∀{ws:List W},(∀w∈ws,dep w<=n)->UC ws<=n
 |[],_=>N6 _
 |w::ws,h=>by unfold UC;exact Nat.max_le.mpr ⟨h w Nx,Qap fun x a=>h x (No _ a)⟩
theorem WD{f:a->W}{xs:List a}(h:∀x,pln (f x)=true):W5 (xs.map f)=true:=Qas fun w hw=>by obtain⟨x,_,rfl⟩:=NC.mp hw;exact h x
theorem Wm{f:a->W}{xs:List a}(h:∀x,dep (f x)<=n):UC (xs.map f)<=n:=Qap fun w hw=>by obtain⟨x,_,rfl⟩:=NC.mp hw;exact h x
@[simp]theorem J7{xs:List Str}:W5 (xs.map .str)=true:=WD fun _=>rfl
theorem J8{xs:List Str}:UC (xs.map .str)<=1:=Wm fun _=>Nt _
@[simp]theorem QjS{l:Ln}:pln (Qf l)=true:=by unfold Qf pln;exact J7
theorem Qmg{l:Ln}:dep (Qf l)<=2:=by unfold Qf dep;have:=J8 (xs:=l);exact Ny this (by decide)
@[simp]theorem WA{xs:List Str}:pln (Ze xs)=true:=by unfold Ze pln;exact J7
theorem G5{xs:List Str}:dep (Ze xs)<=2:=by unfold Ze dep;have:=J8 (xs:=xs);exact Ny this (by decide)
@[simp]theorem Qgz{ls:List Ln}:W5 (ls.map Qf)=true:=WD fun _=>QjS
theorem QhI{ls:List Ln}:UC (ls.map Qf)<=2:=Wm fun _=>Qmg
@[simp]theorem Qmq{p:Pt}:pln (Qz p)=true:=by simp[Qz,pln,W5]
theorem Qlp{p:Pt}:dep (Qz p)<=4:=by simp[Qz,dep,UC];have:=QhI (ls:=p.2);exact this
@[simp]theorem Qcp{ps:List Pt}:W5 (ps.map Qz)=true:=WD fun _=>Qmq
@[simp]theorem GG{ps:List Pt}:pln (Qs ps)=true:=by unfold Qs pln;exact Qcp
theorem QfB{ps:List Pt}:dep (Qs ps)<=5:=by unfold Qs dep;have:=Wm (xs:=ps) (n:=4) (fun x=>Qlp (p:=x));exact Ny this (by decide)
@[simp]theorem QoM{l:Ln}:pur (Qf l)=true:=WR _ QjS
@[simp]theorem QkV{xs:List Str}:pur (Ze xs)=true:=WR _ WA
@[simp]theorem Qog{ps:List Pt}:pur (Qs ps)=true:=WR _ GG
@[simp]theorem Qfq{xs:List Str}:Z4 (xs.map .str)=true:=Vw _ J7
@[simp]theorem Qln{ls:List Ln}:Z4 (ls.map Qf)=true:=Vw _ Qgz
@[simp]theorem Ql8{ls:List Pt}:Z4 (ls.map Qz)=true:=Vw _ Qcp
@[simp]theorem QnX{i:Int}:pur (.int i)=true:=id rfl
@[simp]theorem Qom{x:Str}:pur (.str x)=true:=id rfl
@[simp]theorem QoF{ws:List W}:pur (.tup ws)=Z4 ws:=by unfold pur;rfl
@[simp]theorem Qof{ws:List W}:pur (.lst ws)=Z4 ws:=by unfold pur;rfl
@[simp]theorem QoU{ws:List W}:pur (.frz ws)=Z4 ws:=by unfold pur;rfl
@[simp]theorem Qnu:Z4 []=true:=id rfl
@[simp]theorem QlT{ws:List W}:Z4 (w::ws)=(pur w&&Z4 ws):=by rw[Z4]
@[simp]theorem Qng{ws us:List W}:Z4 (ws++us)=(Z4 ws&&Z4 us):=by
 induction ws with
 |nil=>simp
 |cons w ws a=>simp[a,Bool.and_assoc]
@[simp]theorem QkI{ns:List Int}:Z4 (ns.map .int)=true:=by
 induction ns with
 |nil=>rfl
 |cons n ns a=>simp[a]
@[simp]theorem QmN{ws:List W}:QiE (.lst ws)=Z4 ws:=id rfl
theorem Km{n:Nat}(h:n<=1000000):n<=sizeLine:=Nr h (by decide)
theorem Qjw{n:Nat}(h:n<=1000000):n<sizeLine:=Ny h (by decide)
@[simp]theorem Qnv:1<=sizeLine:=by decide
@[simp]theorem QnH:2<=sizeLine:=by decide
@[simp]theorem Qnf:3<=sizeLine:=by decide
@[simp]theorem QmV:4<=sizeLine:=by decide
@[simp]theorem Qnh:5<=sizeLine:=by decide
@[simp]theorem Qnc:6<=sizeLine:=by decide
@[simp]theorem QmB:8<=sizeLine:=by decide
theorem Qj2{xs:List b}{i:Int}{P:b->Prop}{f:b->W}(e:0<=i)(d:i<xs.length)(c:∀x∈xs,P x):∃x,x∈xs/\P x/\atI (xs.map f) i=some (f x):=by
 obtain⟨n,rfl⟩:∃n:Nat,i=n:=⟨i.toNat,by exact(Dz ‹_›).symm⟩
 have a:n<xs.length:=by lia
 exact⟨xs[n],DN a,c _ (DN a),by rw[Zb,Nq,Ni a];rfl⟩
theorem Qmx{ys:List W}(c:pln a=true)(py:W5 ys=true)(e:dep a<=40)(d:UC ys<=40):wIn neg a (.lst ys) h=some (.bl (if neg=true then !inW a ys else inW a ys),h):=by
 show((lsW h (.lst ys)).bind fun ys=>(drf h 40 a).bind fun x=>(Jg (drf h 40) ys).map fun b=>(W.bl (if neg then !inW x b else inW x b),h))=_;simp only[lsW,Nk];rw[Xn h a 40 c e,VD h ys 40 py d];rfl
theorem Qho{ys:List W}(c:pln a=true)(py:W5 ys=true)(e:dep a<=40)(d:UC ys<=40):wIn neg a (.tup ys) h=some (.bl (if neg=true then !inW a ys else inW a ys),h):=by
 show((drf h 40 a).bind fun x=>(Jg (drf h 40) ys).map fun b=>(W.bl (if neg then !inW x b else inW x b),h))=_;rw[Xn h a 40 c e,VD h ys 40 py d];rfl
@[simp]theorem Qlm{xs:List Str}:JU [Ze xs] h=some (.int xs.length,h):=by unfold Ze;simp
@[simp]theorem Qnd{xs:List Str}:wIx (Ze xs) (.int i) h=@om _ _ (fun w=>(w,h)) (atI (xs.map .str) i):=by unfold Ze;simp
@[simp]theorem Qpk{xs:List a}:atI xs 2=xs[2]?:=Zb (n:=2)
@[simp]theorem Qpl{xs:List a}:atI xs 3=xs[3]?:=Zb (n:=3)
@[simp]theorem Qpe{xs:List a}:atI xs 4=xs[4]?:=Zb (n:=4)
theorem QcV{n j:Nat}(h:(QN a n)[j]?=some w):j<n/\w=.int (a+j):=by
 have b:=(Ng.mp h).1;simp[QN]at b;refine⟨b,?_⟩;unfold QN at h;rw[Nq,EB b]at h;cases h;rfl
theorem Qg1{a b:Char}(h:a.toNat=b.toNat):a=b:=by
 have:a.val=b.val:=by
  apply UInt32.toNat_inj.mp;exact h
 exact Char.ext this
theorem Yq:∀{a b:List Char},a.map Char.toNat=b.map Char.toNat->a=b
 |[],[],_=>rfl
 |[],_::_,h=>by simp at h
 |_::_,[],h=>by simp at h
 |x::a,y::b,h=>by
  simp only[Nz,List.cons.injEq]at h;rw[Qg1 h.1,Yq h.2]
@[simp]theorem QlD{a b:String}:(Str.ofString a=Str.ofString b)↔a=b:=by
 constructor
 ·intro h;rw[Le,Le]at h;have c:=Yq (List.toArray_inj (Str.mk.inj h));exact String.toList_inj.mp c
 ·intro h;rw[h]
end My
namespace My3
inductive Cd where
 |ei|ag|oo|en|ot
 deriving DecidableEq
structure En where
 kd:Cd
 fs:Nat
 md:Nat
noncomputable def ch:Cd->Int
 |.ei=>1
 |.ag=>1
 |.en=>-1
 |_=>0
noncomputable def stp(k:Nat)(c:Cd)(st:List En):Option (List En):=match c with
 |.ei=>some (⟨.ei,k,0⟩::st)
 |.ag=>some (⟨.ag,k,0⟩::st)
 |.oo=>match st with
  |e::r=>if e.kd=.ei then some (⟨.oo,e.fs,k⟩::r)else none
  |[]=>none
 |.en=>match st with
  |e::r=>if e.kd=.ei then none else some r
  |[]=>none
 |.ot=>some st
end My3
namespace My4
open My3
noncomputable def kst:Cd->List Cd->Option (List Cd)
 |.ei,s=>some (.ei::s)
 |.ag,s=>some (.ag::s)
 |.oo,s=>match s with
  |e::r=>if e=.ei then some (.oo::r)else none
  |[]=>none
 |.en,s=>match s with
  |e::r=>if e=.ei then none else some r
  |[]=>none
 |.ot,s=>some s
noncomputable def X5:List Cd->List Cd->Option (List Cd)
 |[],s=>some s
 |c::ls,s=>(kst c s).bind (X5 ls)
theorem Jv:∀(ls ms:List Cd) (s:List Cd),X5 (ls++ms) s=(X5 ls s).bind (X5 ms)
 |[],ms,s=>rfl
 |c::ls,ms,s=>by
  show(kst c s).bind (X5 (ls++ms))=((kst c s).bind (X5 ls)).bind (X5 ms);cases kst c s with
  |none=>rfl
  |some t=>exact Jv ls ms t
theorem QeQ(h:X5 ls s=some t)(k:kst c t=some u):X5 (ls++[c]) s=some u:=by
 rw[Jv,h];show(kst c t).bind _=_;rw[k];rfl
end My4
namespace My
open L2 Mi My3 My4
theorem XZ(e:ms σ h=some ([.int j],h'))(a:j<1000000):Xx ms σ h=some (QN 0 j,none,h'):=by
 unfold Xx;rw[e,Nk];exact(if_pos ⟨by lia,by lia⟩).trans (by simp)
theorem JL:(QN a n).length=n:=by simp[QN]
noncomputable def keptN:List Str:=["pair","first","second","none","tell","back","either","or","again","end","do","part"]
structure Nm(x:Str):Prop where
 lo:1<=x.length
 hi:x.length<=8
 sm:∀c∈x.cps.toList,97<=c/\c<=122
 kp:x∉keptN
theorem app_cps(x y:Str):(x++y).cps.toList=x.cps.toList++y.cps.toList:=by show(x.cps++y.cps).toList=_;simp
inductive PlainL(bs ws:List Str):Ln->Prop where
 |pair {x w y z:Str} (hx:x∈bs) (hw:w∈ws) (hy:y∈bs) (hz:z∈bs):PlainL bs ws ["pair",x,w,y,z]
 |first {x y:Str} (hx:x∈bs) (hy:y∈bs):PlainL bs ws ["first",x,y]
 |second {x y:Str} (hx:x∈bs) (hy:y∈bs):PlainL bs ws ["second",x,y]
 |same {x y:Str} (hx:x∈bs) (hy:y∈bs):PlainL bs ws ["same",x,y]
 |none {x:Str} (hx:x∈bs):PlainL bs ws ["none",x]
 |tell {x:Str} (hx:x∈bs):PlainL bs ws ["tell",x]
theorem Qbz{xs:List Str}{i:Int}(c:0<=i)(b:i<xs.length):∃x,x∈xs/\atI (xs.map W.str) i=some (.str x):=by
 obtain⟨x,a,_,e⟩:=Qj2 (xs:=xs) (f:=W.str) (P:=fun _=>True) c b (fun _ _=>True.intro);exact⟨x,a,e⟩
theorem XX(x:Str):x.length=x.cps.toList.length:=by unfold Str.length;simp
noncomputable def cd(x:Str):Cd:=if x="either"then .ei else if x="again"then .ag else if x="or"then .oo else if x="end"then .en else .ot
noncomputable def cdL:Ln->Cd
 |[]=>.ot
 |x::_=>cd x
inductive LineOk(bs ws later:List Str):Ln->Prop where
 |plain {l:Ln} (h:PlainL bs ws l):LineOk bs ws later l
 |do {x:Str} (h:x∈later):LineOk bs ws later ["do",x]
 |blk {x:Str} (h:x="either"\/x="again"\/x="or"\/x="end"):LineOk bs ws later [x]
 |back {x:Str} (h:x∈ws):LineOk bs ws later ["back",x]
noncomputable abbrev orL:Ln:=["or"]
noncomputable abbrev QgF:Ln:=["end"]
noncomputable def Vx:Ln->Bool
 |x::_=>x=="do"
 |[]=>false
theorem Qa1{bs ws:List Str}(h:PlainL bs ws l):Vx l=false:=by cases h<;>(show(_==_)=false)<;>decide
theorem U0:cd "either"=.ei:=rfl
theorem Qad:cd "again"=.ag:=by decide
theorem Qjc:cd "or"=.oo:=by decide
theorem Qjg:cd "end"=.en:=by decide
theorem QaS{bs ws:List Str}(h:PlainL bs ws l):cdL l=.ot:=by cases h<;>(show cd _=.ot)<;>decide
noncomputable def X3:Ln->Bool
 |x::_=>x=="back"
 |[]=>false
theorem Qfh(O:List Str)(h:O≠[]):∃r x,O=r++[x]:=⟨O.dropLast,O.getLast h,(Ej h).symm⟩
theorem Yh{P:a->Prop}{xs:List a}(h:∀y∈xs,P y)(c:P x):∀y∈xs++[x],P y:=fun y b=>by
 rcases NQ.mp b with z|z
 ·exact h y z
 ·rw[NH.mp z];exact c
theorem QdJ{P:Str->Prop}(h:∀z∈xs++[x],P z)(b:P y):∀z∈xs++[y],P z:=Yh (fun z a=>h z (N2 _ a)) b
theorem Jz(O:List Str)(x:Str):(O++[x]).reverse.map cd=cd x::O.reverse.map cd:=by simp
theorem Qaa(L:List Ln)(l:Ln):(L++[l]).map cdL=L.map cdL++[cdL l]:=by simp
structure GoodP(N:Nat)(bs ws:List Str)(p:List Pt):Prop where
 ne:p≠[]
 len:p.length<=5
 bal:∀x∈p,X5 (x.2.map cdL) []=some []
 sz:∀x∈p,x.2.length<=N
 ok:∀(i:Nat) (x:Pt),p[i]?=some x->∀l∈x.2,LineOk bs ws ((p.map (·.1)).drop (i+1)) l
 nd:(p.map (·.1)).Nodup
theorem Va(xs:List a)(k:Nat):Uu xs (some (k:Int)) none=xs.drop k:=by
 unfold Uu;rw[HT.sIx_nat,HT.sIx_none]
 by_cases h:k<=xs.length
 ·rw[Nat.min_eq_left h,De (by simp)]
 ·rw[Nat.min_eq_right (NE (FK.mp h)),DG (Nt _),DG (NE (FK.mp h))];simp
theorem QjG{k:Nat}(a:i=k):wSl (Ze ns) (some i) none h=some (Ze (ns.drop k),h):=by
 subst a;unfold Ze;simp[Va,Ic]
theorem U8(h:LineOk bs ws la l):∃x r,l=x::r:=by
 cases h with
 |plain h=>cases h<;>exact⟨_,_,rfl⟩
 |«do» h=>exact⟨_,_,rfl⟩
 |blk h=>exact⟨_,_,rfl⟩
 |back h=>exact⟨_,_,rfl⟩
theorem Qei{A B:List Cd}{s:List Cd}(h:X5 (A++B) []=some s):∃r,X5 A []=some r:=by
 rw[Jv]at h;cases e:X5 A []with
 |none=>rw[e]at h;simp at h
 |some r=>exact⟨r,rfl⟩
theorem YE{p:List Pt}{i:Nat}(h:p[i]?=some x):atI (p.map Qz) (i:Int)=some (Qz x):=by rw[Zb,Nq,h];rfl
@[simp]theorem Qm1:wIx (Qf (x::r)) (.int 0) h=some (.str x,h):=by unfold Qf;simp
@[simp]theorem Qm2:wIx (Qf (x::y::r)) (.int 1) h=some (.str y,h):=by unfold Qf;simp
@[simp]theorem Qox:wIx (Qs p) (.int i) h=@om _ _ (fun w=>(w,h)) (atI (p.map Qz) i):=by unfold Qs;simp
@[simp]theorem QmX:wIx (Qz x) (.int 1) h=some (.tup (x.2.map Qf),h):=by unfold Qz;simp
@[simp]theorem QnL:wIx (Qz x) (.int 0) h=some (.str x.1,h):=by unfold Qz;simp
@[simp]theorem QmC:Q1 (.lst xs) (.lst ys) h=if xs.length+ys.length<=sizeLine then some (.lst (xs++ys),h)else none:=id rfl
theorem JR{a:Type}{motive:List a->Prop}(nil:motive [])(snoc:∀L l,motive L->motive (L++[l]))(t:List a):motive t:=by
 rw[<-DO t]
 induction t.reverse with
 |nil=>exact nil
 |cons x r b=>rw[Ij];exact snoc _ _ b
structure Sz where
 pl:Int
 bk:Int
 dp:Int
 wy:Int
noncomputable def Ki(z:Sz):W:=.tup [.int z.pl,.int z.bk,.int z.dp,.int z.wy]
noncomputable abbrev Sd:=List (Str×Sz)
noncomputable def look:Sd->Str->Option Sz
 |[],_=>none
 |(y,z)::d,x=>if y=x then some z else look d x
noncomputable def QJ(d:Sd)(l:Ln):Sz:=
 if Vx l=true then(look d (l.getD 1 "")).getD ⟨1,0,0,0⟩else if X3 l=true then⟨0,1,0,0⟩else⟨1,0,0,0⟩
structure Q5 where
 pl:Int
 bk:Int
 lv:Int
 dp:Int
 wy:Int
noncomputable def JW(d:Sd)(q:Q5)(l:Ln):Q5:=
 ⟨q.pl+(QJ d l).pl,q.bk+(QJ d l).bk,q.lv+ch (cdL l),max q.dp (q.lv+ch (cdL l)+(QJ d l).dp),q.wy+(QJ d l).wy⟩
noncomputable def Zp(d:Sd)(q:Q5)(ls:List Ln):Q5:=ls.foldl (JW d) q
noncomputable def qz:Q5:=⟨0,0,0,0,1⟩
noncomputable def szw(d:Sd)(ls:List Ln):Sz:=⟨(Zp d qz ls).pl,(Zp d qz ls).bk,(Zp d qz ls).dp,(Zp d qz ls).wy⟩
theorem QB(d:Sd)(q:Q5)(L:List Ln)(l:Ln):Zp d q (L++[l])=JW d (Zp d q L) l:=by simp[Zp]
theorem QeF(d:Sd)(q:Q5)(L M:List Ln):Zp d q (L++M)=Zp d (Zp d q L) M:=by simp[Zp]
noncomputable def sd:List Pt->Sd
 |[]=>[]
 |x::r=>sd r++[(x.1,szw (sd r) x.2)]
theorem Kf{x:Str}:∀{a b:Sd},look (a++b) x=(look a x).orElse fun _=>look b x
 |[],b=>rfl
 |(y,z)::a,b=>by
  show(if y=x then some z else look (a++b) x)=_
  by_cases h:y=x
  ·rw[if_pos h];simp[look,h]
  ·rw[if_neg h,Kf];simp[look,h]
theorem WP:∀(r:List Pt),(sd r).map (·.1)=(r.map (·.1)).reverse
 |[]=>rfl
 |x::r=>by simp[sd,WP r]
theorem Uy{x:Str}:∀{a:Sd},x∉a.map (·.1)->look a x=none
 |[],_=>rfl
 |(y,z)::a,h=>by
  have b:y≠x:=fun e=>h (by simp[e]);rw[look,if_neg b];exact Uy fun z=>h (by simp at z ⊢;exact .inr z)
theorem GH:∀{p:List Pt} {j:Nat} {y:Pt},(p.map (·.1)).Nodup->p[j]?=some y->look (sd p) y.1=some (szw (sd (p.drop (j+1))) y.2)
 |x::r,0,y,b,h=>by
  simp at h;subst h;have e:x.1∉(sd r).map (·.1):=by rw[WP];simp at b ⊢;exact fun a f=>b.1 a f
  rw[sd,Kf,Uy e];simp[look]
 |x::r,j+1,y,b,h=>by
  have c:(r.map (·.1)).Nodup:=(Er.mp b).2;have d:=GH (p:=r) c (by simpa using h);rw[sd,Kf,d];simp
theorem Yx{x:Str}:(x="either"/\cd x=.ei)\/(x="again"/\cd x=.ag)\/(x="or"/\cd x=.oo)\/(x="end"/\cd x=.en)\/((x≠"either"/\x≠"again"/\x≠"or"/\x≠"end")/\cd x=.ot):=by
 unfold cd
 by_cases d:x="either"
 ·exact .inl ⟨d,if_pos d⟩
 rw[if_neg d]
 by_cases c:x="again"
 ·exact .inr (.inl ⟨c,if_pos c⟩)
 rw[if_neg c]
 by_cases b:x="or"
 ·exact .inr (.inr (.inl ⟨b,if_pos b⟩))
 rw[if_neg b]
 by_cases a:x="end"
 ·exact .inr (.inr (.inr (.inl ⟨a,if_pos a⟩)))
 rw[if_neg a];exact .inr (.inr (.inr (.inr ⟨⟨d,c,b,a⟩,rfl⟩)))
@[simp]theorem QkZ{r:List Str}:JO [Qf (x::r)] h=some (.int (ch (cd x)),h):=by
 refine Qh (g:=[]) (by simp) ?_ rfl;have b:Qf (x::r)=.tup (.str x::r.map .str):=rfl
 rcases Yx (x:=x)with⟨rfl,a⟩|⟨rfl,a⟩|⟨rfl,a⟩|⟨rfl,a⟩|⟨⟨e,d,f,c⟩,a⟩
 ·simp[QH,Qn,b,a,ch]
 ·simp[QH,Qn,b,a,ch]
 ·simp[QH,Qn,b,a,ch]
 ·simp[QH,Qn,b,a,ch]
 ·simp[QH,Qn,b,e,d,c,a,ch]
noncomputable def kvs(d:Sd):List (Key×W):=d.map fun e=>(Sum.inr e.1,Ki e.2)
theorem WC{x:Str}:∀(d:Sd),QbP (kvs d) (.inr x)=(look d x).map Ki
 |[]=>rfl
 |(y,z)::d=>by
  unfold QbP kvs look;rw[Nz,Et]
  by_cases h:y=x
  ·subst h;simp
  ·have:¬(Sum.inr y:Key)=Sum.inr x:=fun q=>h (O7 q);simp only[this,decide_false,h,if_false];exact WC d
theorem QhW{x:Str}{z:Sz}{d:Sd}(h:x∉d.map (·.1)):QgZ (kvs d) (.inr x) (Ki z)=kvs (d++[(x,z)]):=by
 have:((kvs d).any fun b=>decide (b.1=Sum.inr x))=false:=by
  rw[Oa];intro b a;unfold kvs at a;obtain⟨e,c,rfl⟩:=NC.mp a;simp;intro q;exact h (by rw[<-q];exact LS (f:=(·.1)) c)
 unfold QgZ;rw[this];simp[kvs]
def Qk5(l:Ln):Prop:=∃x r,l=x::r/\(x="do"->∃y,r=[y])
theorem Qjl{bs ws la:List Str}{l:Ln}(h:LineOk bs ws la l):Qk5 l:=by
 cases h with
 |plain h=>cases h<;>exact⟨_,_,rfl,fun z=>absurd z (by decide)⟩
 |«do» h=>exact⟨_,_,rfl,fun _=>⟨_,rfl⟩⟩
 |blk h=>rcases h with rfl|rfl|rfl|rfl<;>exact⟨_,_,rfl,fun z=>absurd z (by decide)⟩
 |back h=>exact⟨_,_,rfl,fun z=>absurd z (by decide)⟩
theorem QeE{l:Ln}{d:Sd}{h:MH}{n:Nat}(i:Qk5 l)(g:h[n]?=some (.dic (kvs d))):QT [Qf l,.ref n] h=some (Ki (QJ d l),h):=by
 obtain⟨x,r,rfl,hd⟩:=i
 by_cases a:x="do"
 ·obtain⟨y,rfl⟩:=hd a;subst a;have e:QJ d (["do",y]:Ln)=(look d y).getD ⟨1,0,0,0⟩:=rfl;rw[e];simp[QT,Qn,g,WC];cases look d y<;>rfl
 ·have b:Vx (x::r)=false:=by show(x==("do":Str))=false;simpa using a
  unfold QJ;rw[b]
  by_cases f:x="back"
  ·subst f;have c:X3 (("back":Str)::r)=true:=by show((_:Str)==_)=true;decide
   rw[c];simp[QT,Qn,Ki]
  ·have c:X3 (x::r)=false:=by show(x==("back":Str))=false;simpa using f
   rw[c];simp[QT,Qn,a,f,Ki]
noncomputable abbrev zS(ls:List Ln)(n:Nat)(q:Q5)(x7 x8:Option W):MSt:=[some (.tup (ls.map Qf)),some (.ref n),some (.int q.pl),some (.int q.bk),some (.int q.lv),some (.int q.dp),some (.int q.wy),x7,x8]
theorem Qk9{z:Sz}{h:MH}:wIx (Ki z) (.int 0) h=some (.int z.pl,h):=by unfold Ki;simp
theorem QkW{z:Sz}{h:MH}:wIx (Ki z) (.int 1) h=some (.int z.bk,h):=by unfold Ki;simp
theorem Qk0{z:Sz}{h:MH}:wIx (Ki z) (.int 2) h=some (.int z.dp,h):=by unfold Ki;simp
theorem Qk2{z:Sz}{h:MH}:wIx (Ki z) (.int 3) h=some (.int z.wy,h):=by unfold Ki;simp
theorem QaP{ls:List Ln}{d:Sd}{h:MH}{n:Nat}(y:∀l∈ls,Qk5 l)(v:h[n]?=some (.dic (kvs d))):QD [.tup (ls.map Qf),.ref n] h=some (Ki (szw d ls),h):=by
 have c:=Zh (items:=ls.map Qf) (b:=Q2 7) (body:=Vo) (fun j o a=>∃m i,o=zS ls n (Zp d qz (ls.take j)) m i/\a=h) (ls.map Qf) 0 (zS ls n qz none none) h ⟨none,none,rfl,rfl⟩ (by
  rintro j w p o a ⟨m,i,rfl,rfl⟩
  rw[Nq]at p;obtain⟨l,g,rfl⟩:=Nf.mp p;rw[NG]at *;have u:ls.take (j+1)=ls.take j++[l]:=by rw[Eh,g];rfl
  have f:=y l (NL g);have z:=QeE f v;refine⟨_,rfl,zS ls n (Zp d qz (ls.take (j+1))) (some (Qf l)) (some (Ki (QJ d l))),a,.inl ?_,_,_,rfl,rfl⟩;rw[u,QB];obtain⟨x,r,rfl,_⟩:=f;simp[z,Qk9,QkW,Qk0,Qk2,JW,cdL]
  split<;>omega)
 obtain⟨t,a,e,m,i,rfl,rfl⟩:=c;rw[Nu,NG,Em]at e;have ei:Qo (Qb 0) (zS ls n qz none none) a=some (ls.map Qf,none,a):=rfl
 have s:ZY (Qo (Qb 0)) (Q2 7) Vo (zS ls n qz none none) a=some (.nx (zS ls n (Zp d qz ls) m i) a):=by
  unfold ZY;rw[ei,Nk];exact e
 simp[qz]at s;simp[QD,Qn,s,Ki,szw,qz]
theorem Qii{ls:List Ln}{h:MH}(a:∀l∈ls,Qk5 l):JG [.tup (ls.map Qf)] h=some (Ki (szw [] ls),h):=by
 refine Qh (g:=[.dic []]) (by simp) ?_ (by simp[Ki]);have e:QD [.tup (ls.map Qf),.ref 0] [.dic []]=some (Ki (szw [] ls),[.dic []]):=QaP (d:=[]) a rfl;simp[Xd,Qn,e]
theorem QeP{p:List Pt}{j:Nat}{w:W}(h:((p.map Qz).reverse)[j]?=some w):∃x,p[p.length-1-j]?=some x/\w=Qz x/\j<p.length/\p.drop (p.length-(j+1))=x::p.drop (p.length-j):=by
 have a:=(Ng.mp h).1;simp at a;rw[DK (by simpa using a),Nu,Nq]at h;obtain⟨x,b,rfl⟩:=Nf.mp h;refine⟨x,b,rfl,a,?_⟩;obtain⟨c,e⟩:=Ng.mp b;rw[show p.length-(j+1)=p.length-1-j by omega,ET c,e,show p.length-1-j+1=p.length-j by omega]
theorem Qfp{N:Nat}{bs ws:List Str}{p:List Pt}{x:Pt}{h:MH}(n:GoodP N bs ws p)(v:p[0]?=some x):JX [Qs p] h=some (Ki (szw (sd (p.drop 1)) x.2),h):=by
 have A:=n.len
 have a:=Zh (items:=(p.map Qz).reverse) (b:=Zr [2,3]) (body:=Vm) (fun j t s=>∃m i,t=[some (Qs p),some (.ref 0),m,i]/\s=[.dic (kvs (sd (p.drop (p.length-j))))]) (p.map Qz).reverse 0 [some (Qs p),some (.ref 0),none,none] [.dic []] ⟨none,none,rfl,by simp[sd,kvs]⟩ (by
  rintro j w E t s ⟨m,i,rfl,rfl⟩
  obtain⟨y,u,rfl,D,f⟩:=QeP E;rw[NG]at *;have J:=NL u;have H:QD [.tup (y.2.map Qf),.ref 0] [.dic (kvs (sd (p.drop (p.length-j))))]=some (Ki (szw (sd (p.drop (p.length-j))) y.2),[.dic (kvs (sd (p.drop (p.length-j))))]):=QaP (fun l C=>Qjl (n.ok _ y u l C)) rfl
  have c:y.1∉(sd (p.drop (p.length-j))).map (·.1):=by
   rw[WP,List.mem_reverse];have d:((p.drop (p.length-(j+1))).map (·.1)).Nodup:=by rw[Ic];exact n.nd.sublist (Oo _ _)
   rw[f,Nz]at d;exact(Er.mp d).1
  have o:(kvs (sd (p.drop (p.length-j)))).length<sizeLine:=by
   have:(kvs (sd (p.drop (p.length-j)))).length=(p.drop (p.length-j)).length:=by
    have:=congrArg List.length (WP (p.drop (p.length-j)));simpa[kvs]using this
   rw[this];exact Qjw (by simp;omega)
  refine⟨[some (Qs p),some (.ref 0),some (.str y.1),some (.tup (y.2.map Qf))],rfl,[some (Qs p),some (.ref 0),some (.str y.1),some (.tup (y.2.map Qf))],[.dic (kvs (sd (p.drop (p.length-(j+1)))))],.inl ?_,_,_,rfl,rfl⟩;rw[f];have G:=QhW (z:=szw (sd (p.drop (p.length-j))) y.2) c
  simp[H,o,G,sd])
 obtain⟨B,s,e,m,i,rfl,rfl⟩:=a;rw[N7,Nu,NG,Nat.sub_self,OV]at e;refine Qh (g:=[.dic (kvs (sd p))]) (by simp) ?_ (by simp[Ki]);have ei:Qld (Qa (Qb 0) Qd) [some (Qs p),some (.ref 0),none,none] [.dic []]=some ((p.map Qz).reverse,none,[.dic []]):=rfl
 have I:ZY (Qld (Qa (Qb 0) Qd)) (Zr [2,3]) Vm [some (Qs p),some (.ref 0),none,none] [.dic []]=some (.nx [some (Qs p),some (.ref 0),m,i] [.dic (kvs (sd p))]):=by
  unfold ZY;rw[ei,Nk];exact e
 have F:atI (p.map Qz) 0=some (Qz x):=YE v;have r:=GH (p:=p) (j:=0) n.nd v;simp[VP,Qn,I,F,WC,r]
noncomputable def Qga(a:ME)(σ:MSt)(p:W×MH):Option (W×MH):=match p.1 with|.bl true=>a σ p.2|.bl false=>some (.bl false,p.2)|_=>none
@[simp]theorem Qiz{a:ME}{σ:MSt}{h:MH}{c:Bool}:Qga a σ (.bl c,h)=if c=true then a σ h else some (.bl false,h):=by cases c<;>rfl
@[simp]theorem QnU{b a:ME}{σ:MSt}{h:MH}:QbO b a σ h=@ob _ _ (Qga a σ) (b σ h):=id rfl
theorem QgD{z:Sz}{h:MH}:Z0 [Ki z] h=some (.bl (decide (z.pl<=48)&&(decide (z.bk<=500)&&decide (z.dp<=6))),h):=by
 refine Qh (g:=[]) (by simp[Ki]) ?_ rfl
 by_cases a:z.pl<=48
 ·by_cases b:z.bk<=500
  ·simp[Jh,Qn,Qk9,QkW,Qk0,a,b]
  ·simp[Jh,Qn,Qk9,QkW,Qk0,a,b]
 ·simp[Jh,Qn,Qk9,QkW,Qk0,a]
theorem QaQ{g:Bool}{x:Str}{l:List Str}{h:MH}:wIn g (.str x) (.tup (l.map .str)) h=some (.bl (if g=true then !decide (x∈l)else decide (x∈l)),h):=by
 rw[Qho rfl J7 (by simp[dep]) (Nr J8 (by decide))]
 have:inW (.str x) (l.map .str)=decide (x∈l):=by
  induction l with
  |nil=>rfl
  |cons y l a=>
   unfold inW at a ⊢;rw[Nz,EF,a];show((y==x) ||_)=_
   by_cases e:y=x
   ·subst e;simp
   ·have b:¬x=y:=fun z=>e z.symm;rw[show(y==x)=false from beq_eq_false_iff_ne.mpr e,O2,D0,decide_eq_true_eq,decide_eq_true_eq,NB];exact⟨.inr,fun z=>z.elim (fun q=>absurd q b) id⟩
 rw[this]
theorem KY{ws:List W}{h:MH}(hw:∀w∈ws,w=.bl true):Gg [.lst ws] h=some (.bl true,h):=by
 have e:ws=(List.replicate ws.length true).map W.bl:=by
  rw[List.map_replicate];exact List.eq_replicate_iff.mpr ⟨rfl,hw⟩
 rw[e];show((QfR ((List.replicate ws.length true).map W.bl)).map fun bs=>(W.bl (bs.all id),h))=_;rw[Gx,DZ];congr 3;simp
theorem QeZ{c:Nat}{h:MH}(j:97<=c)(i:c<=122):Za [.str ⟨#[c]⟩] h=some (.bl true,h):=by
 refine Qh (g:=[]) (by simp) ?_ rfl;have e:Vz wLe wLe (mC (.str "a")) (Qb 0) (mC (.str "z")) [some (.str ⟨#[c]⟩)] []=some (.bl ((!decide (([c]:List Nat)<(("a":Str)).cps.toList))&&!decide ((("z":Str)).cps.toList<([c]:List Nat))),[]):=GV rfl rfl rfl rfl rfl;have f:("a":Str).cps.toList=[97]:=by decide +kernel
 have d:("z":Str).cps.toList=[122]:=by decide +kernel
 have b:¬([c]:List Nat)<[97]:=fun z=>by
  rcases Lr.mp z with q|⟨_,q⟩
  ·omega
  ·exact absurd q (OS _)
 have a:¬([122]:List Nat)<[c]:=fun z=>by
  rcases Lr.mp z with q|⟨_,q⟩
  ·omega
  ·exact absurd q (OS _)
 rw[f,d,decide_eq_false b,decide_eq_false a]at e;simp[ZA,Qn,e]
theorem Qds{x:Str}{h:MH}(d:Nm x):Zm [.str x] h=some (.bl true,h):=by
 refine Qh (g:=[]) (by simp) ?_ rfl;have n:=d.lo;have m:=d.hi;have f:x.length<=sizeLine:=Km (by omega)
 have i:=Jw (fin:=Zq) (mi:=Qo (Qb 0)) (cp:=[none]) (me:=Qi 1 Za (Qa (Qb 0) Qd)) (σ:=[some (.str x)]) (caps:=[]) (h:=[]) (items:=Kk x) (fun _=>.bl true) rfl ⟨_,rfl⟩ (fun w hw=>by
  unfold Kk at hw;obtain⟨c,o,rfl⟩:=NC.mp hw;obtain⟨a,b⟩:=d.sm c o
  simp[QeZ a b]) (by unfold Kk;simp;exact f)
 have t:Gg [.lst ((Kk x).map fun _=>W.bl true)] []=some (.bl true,[]):=KY fun w hw=>by
  obtain⟨_,_,rfl⟩:=NC.mp hw;rfl
 have s:wIn true (.str x) (.tup (Qbh keptN)) []=some (.bl true,[]):=by
  unfold Qbh;rw[QaQ];simp[d.kp]
 have e:wIn true (.str x) Yf []=some (.bl true,[]):=s;simp only[Zq]at i;have r:(1:Int)<=x.length:=by omega
 have p:(x.length:Int)<=8:=by omega
 have v:(Qg (Vz wLe wLe (mC (.int 1)) (mFn JU (Qa (Qb 0) Qd)) (mC QZ))) [some (.str x)] []=some (true,[]):=by
  have u:mFn JU (Qa (Qb 0) Qd) [some (.str x)] []=some (.int x.length,[]):=by simp[f]
  have j:Vz wLe wLe (mC (.int 1)) (mFn JU (Qa (Qb 0) Qd)) (mC QZ) [some (.str x)] []=some (.bl (decide ((1:Int)<=x.length)&&decide ((x.length:Int)<=8)),[]):=GV rfl u rfl rfl rfl;rw[decide_eq_true r,decide_eq_true p]at j;simp[j]
 simp[XM,Qn,i,t,e,v,JJ]
theorem Qcu{es:List Str}{e:W}{h:MH}(d:∀x∈es,Nm x)(l:es.length<=1000):QC Zq (Qo (mSl (Qb 0) (VB (mC (.int 1))) VG)) [none] (Q2 0) V3 (Qi 1 Zm (Qa (Qb 0) Qd)) [some (.tup (e::es.map .str))] h=some (.lst (List.replicate es.length (.bl true)),h):=by
 have a:mSl (Qb 0) (VB (mC (.int 1))) VG [some (.tup (e::es.map .str))] h=some (.tup (es.map .str),h):=by
  have:=Va (e::es.map W.str) 1;simp at this;simp[this]
 have ei:Qo (mSl (Qb 0) (VB (mC (.int 1))) VG) [some (.tup (e::es.map .str))] h=some (es.map .str,none,h):=by unfold Qo;rw[a];rfl
 have f:=Jw (fin:=Zq) (mi:=Qo (mSl (Qb 0) (VB (mC (.int 1))) VG)) (cp:=[none]) (me:=Qi 1 Zm (Qa (Qb 0) Qd)) (σ:=[some (.tup (e::es.map .str))]) (caps:=[]) (h:=h) (items:=es.map .str) (fun _=>.bl true) ei ⟨_,rfl⟩ (fun w hw=>by
  obtain⟨x,c,rfl⟩:=NC.mp hw
  simp[Qds (d x c)]) (by simp;exact Km (by omega))
 rw[f,List.map_const',Nu];rfl
theorem Qg2{n:Nat}{h:MH}:Gg [.lst (List.replicate n (.bl true))] h=some (.bl true,h):=KY fun w hw=>(L7.mp hw).2
theorem VW{x:Str}{es:List Str}{i:Int}{h:MH}(b:Yj QE x=some i)(f:(es.length:Int)=i)(c:∀y∈es,Nm y)(d:es.length<=1000):ZD [Qf (x::es)] h=some (.bl true,h):=by
 refine Qh (g:=[]) (by simp) ?_ rfl;have o:Qf (x::es)=.tup (.str x::es.map .str):=rfl;have j:=Qcu (e:=.str x) (h:=[]) c d;have n:QiC true QE (.str x) []=some (.bl false,[]):=by unfold QiC;simp[b]
 have m:Qks QE (.str x) []=some (.int i,[]):=by unfold Qks;simp[b]
 have a:¬(es.length:Int)+1=0:=by omega
 have l:wNe (.int ((es.length:Int)+1)) (.int (1+i)) []=some (.bl false,[]):=by rw[<-f,Int.add_comm];simp
 rw[o];simp[XR,Qn,j,Qg2,n,m,l,a,JJ]
theorem Qf6{bs ws la:List Str}{l:Ln}{h:MH}(b:∀x∈bs,Nm x)(hw:∀x∈ws,Nm x)(f:∀x∈la,Nm x)(e:LineOk bs ws la l):ZD [Qf l] h=some (.bl true,h):=by
 cases e with
 |plain e=>
  cases e with
  |pair a d c g=>exact VW (i:=4) (by decide +kernel) rfl (by simp;exact⟨b _ a,hw _ d,b _ c,b _ g⟩) (by simp)
  |first a c=>exact VW (i:=2) (by decide +kernel) rfl (by simp;exact⟨b _ a,b _ c⟩) (by simp)
  |second a c=>exact VW (i:=2) (by decide +kernel) rfl (by simp;exact⟨b _ a,b _ c⟩) (by simp)
  |same a c=>exact VW (i:=2) (by decide +kernel) rfl (by simp;exact⟨b _ a,b _ c⟩) (by simp)
  |none a=>exact VW (i:=1) (by decide +kernel) rfl (by simp;exact b _ a) (by simp)
  |tell a=>exact VW (i:=1) (by decide +kernel) rfl (by simp;exact b _ a) (by simp)
 |«do» a=>exact VW (i:=1) (by decide +kernel) rfl (by simp;exact f _ a) (by simp)
 |blk a=>
  rcases a with rfl|rfl|rfl|rfl
  all_goals exact VW (i:=0) (by decide +kernel) rfl (by simp) (by simp)
 |back a=>exact VW (i:=1) (by decide +kernel) rfl (by simp;exact hw _ a) (by simp)
def Op(x:Str):Prop:=x="either"\/x="again"\/x="or"
theorem GE{ls:List Ln}{σ:MSt}{h:MH}{x:Str}{r:List Str}{s:List Cd}(I:n<=100000)(F:ls[n]?=some (x::r))(b:X5 ((ls.take (n+1)).map cdL) []=some s)
  (H:∃(O:List Str) (p:Option W),σ=[some (.tup (ls.map Qf)),some (.ref 0),p]/\h=[.lst (O.map .str)]/\X5 ((ls.take n).map cdL) []=some (O.reverse.map cd)/\(∀y∈O,Op y)/\O.length<=n) :
  ∃g,Q2 2 (Qf (x::r)) σ h=some g/\∃f d,(Zs g h=some (.nx f d)\/Zs g h=some (.ct f d))/\∃(O:List Str) (p:Option W),f=[some (.tup (ls.map Qf)),some (.ref 0),p]/\d=[.lst (O.map .str)]/\X5 ((ls.take (n+1)).map cdL) []=some (O.reverse.map cd)/\(∀y∈O,Op y)/\O.length<=n+1:=by
 obtain⟨O,p,rfl,rfl,G,m,o⟩:=H;refine⟨_,rfl,?_⟩;have E:ls.take (n+1)=ls.take n++[x::r]:=by rw[Eh,F];rfl
 have a:kst (cd x) (O.reverse.map cd)=some s:=by
  rw[E,Qaa,Jv,G]at b;have d:(kst (cd x) (O.reverse.map cd)).bind (X5 [])=some s:=b;cases e:kst (cd x) (O.reverse.map cd)with
  |none=>rw[e]at d;cases d
  |some u=>rw[e]at d;cases d;rfl
 have v:O.length<sizeLine:=Qjw (by omega)
 rcases Yx (x:=x)with⟨rfl,c⟩|⟨rfl,c⟩|⟨rfl,c⟩|⟨rfl,c⟩|⟨⟨C,B,A,w⟩,c⟩
 ·rw[c]at a;cases a;refine⟨[some (.tup (ls.map Qf)),some (.ref 0),some (Qf ("either"::r))],[.lst ((O++[("either":Str)]).map .str)],.inl ?_,_,_,rfl,rfl,?_,Yh m (.inl rfl),by simp;omega⟩
  ·simp[v]
  ·rw[b,Jz,c]
 ·rw[c]at a;cases a;refine⟨[some (.tup (ls.map Qf)),some (.ref 0),some (Qf ("again"::r))],[.lst ((O++[("again":Str)]).map .str)],.inl ?_,_,_,rfl,rfl,?_,Yh m (.inr (.inl rfl)),by simp;omega⟩
  ·simp[v]
  ·rw[b,Jz,c]
 ·rw[c]at a;have j:O≠[]:=by rintro rfl;cases a
  obtain⟨t,y,rfl⟩:=Qfh O j;rw[Jz]at a;simp only[kst]at a;split at a
  ·rename_i l;cases a
   have i:y="either":=by
    rcases m y (by simp)with z|z|z
    ·exact z
    ·rw[z,Qad]at l;cases l
    ·rw[z,Qjc]at l;cases l
   subst i;refine⟨[some (.tup (ls.map Qf)),some (.ref 0),some (Qf ("or"::r))],[.lst ((t++[("or":Str)]).map .str)],.inl ?_,_,_,rfl,rfl,?_,QdJ m (.inr (.inr rfl)),by simp at o ⊢;omega⟩
   ·simp
   ·rw[b,Jz,c]
  ·cases a
 ·rw[c]at a;have j:O≠[]:=by rintro rfl;cases a
  obtain⟨t,y,rfl⟩:=Qfh O j;rw[Jz]at a;simp only[kst]at a;split at a
  ·cases a
  ·rename_i l;cases a;have i:y≠"either":=fun z=>l (by rw[z,U0]);refine⟨[some (.tup (ls.map Qf)),some (.ref 0),some (Qf ("end"::r))],[.lst (t.map .str)],.inl ?_,_,_,rfl,rfl,b,fun z D=>m z (N2 _ D),by simp at o;omega⟩;simp[i]
 ·rw[c]at a;cases a;refine⟨[some (.tup (ls.map Qf)),some (.ref 0),some (Qf (x::r))],[.lst (O.map .str)],.inl ?_,_,_,rfl,rfl,b,m,by omega⟩;simp[C,B,A,w]
theorem QfA{ls:List Ln}{h:MH}(s:X5 (ls.map cdL) []=some [])(C:ls.length<=70000)(v:∀l∈ls,∃x r,l=x::r):Xe [.tup (ls.map Qf)] h=some (.bl true,h):=by
 have a:=Zh (items:=ls.map Qf) (b:=Q2 2) (body:=Zs) (fun n i h=>∃(O:List Str) (c:Option W),i=[some (.tup (ls.map Qf)),some (.ref 0),c]/\h=[.lst (O.map .str)]/\X5 ((ls.take n).map cdL) []=some (O.reverse.map cd)/\(∀y∈O,Op y)/\O.length<=n) (ls.map Qf) 0 [some (.tup (ls.map Qf)),some (.ref 0),none] [.lst []] ⟨[],none,rfl,rfl,rfl,by simp,by simp⟩ (fun j w p i h H=>by
  rw[Nq]at p;obtain⟨l,f,rfl⟩:=Nf.mp p;rw[NG]at H ⊢;obtain⟨x,r,rfl⟩:=v l (NL f);have t:=s;rw[<-Dl (j+1) ls,Ed]at t;obtain⟨B,d⟩:=Qei t
  exact GE (by have:=(Ng.mp f).1;omega) f d H)
 obtain⟨u,D,e,O,c,rfl,rfl,m,_,_⟩:=a;rw[Nu,NG,Em,s]at m
 have z:O=[]:=by
  have:=congrArg (fun o=>o.map List.length) m;simp at this;exact NO.mp this.symm
 subst z;refine Qh (g:=[.lst []]) (by simp) ?_ rfl;have ei:Qo (Qb 0) [some (.tup (ls.map Qf)),some (.ref 0),none] [.lst []]=some (ls.map Qf,none,[.lst []]):=rfl
 have A:ZY (Qo (Qb 0)) (Q2 2) Zs [some (.tup (ls.map Qf)),some (.ref 0),none] [.lst []]=some (.nx [some (.tup (ls.map Qf)),some (.ref 0),c] [.lst []]):=by
  unfold ZY;rw[ei,Nk];exact e
 simp[VY,Qn,A]
theorem QkQ{bs ws la:List Str}{x:Pt}{h:MH}(p:∀x∈bs,Nm x)(hw:∀x∈ws,Nm x)(c:∀x∈la,Nm x)(n:Nm x.1)(i:∀l∈x.2,LineOk bs ws la l)(a:X5 (x.2.map cdL) []=some [])(o:x.2.length<=70000):JF [Qz x] h=some (.bl true,h):=by
 refine Qh (g:=[]) (by simp[Qz]) ?_ rfl
 have j:=Jw (fin:=Zq) (mi:=Qo (Qc wIx (Qb 0) (mC (.int 1)))) (cp:=[none]) (me:=Qi 1 ZD (Qa (Qb 0) Qd)) (σ:=[some (Qz x)]) (caps:=[]) (h:=[]) (items:=x.2.map Qf) (fun _=>.bl true) (by unfold Qo;simp;rfl) ⟨_,rfl⟩ (fun w b=>by
  obtain⟨l,d,rfl⟩:=NC.mp b
  simp[Qf6 p hw c (i l d)]) (by simp;exact Km (by omega))
 have s:Gg [.lst ((x.2.map Qf).map fun _=>W.bl true)] []=some (.bl true,[]):=KY fun w hw=>by
  obtain⟨_,_,rfl⟩:=NC.mp hw;rfl
 simp only[Zq]at j;have f:=QfA (h:=[]) a o fun l d=>U8 (i l d);have r:∀h,JU [Qz x] h=some (.int 2,h):=fun h=>by unfold Qz;simp
 have ei:Gf [Qz x,.ty "tuple"] []=some (.bl true,[]):=by unfold Qz;simp[JJ]
 have e:Gf [.tup (x.2.map Qf),.ty "tuple"] []=some (.bl true,[]):=by simp[JJ]
 simp[X0,Qn,-N8,j,s,f,r,ei,e,Qds n]
end My
namespace St
theorem QjQ(ks:List Str):∃ss:List Str,ss.Perm ks/\sortedS ss=true:=by
 refine⟨ks.mergeSort (fun a b=>decide (a.cps.toList<=b.cps.toList)),List.mergeSort_perm _ _,?_⟩;apply sortedS_of_pairwise
 have:=List.pairwise_mergeSort (le:=fun a b:Str=>decide (a.cps.toList<=b.cps.toList)) (fun a b c e d=>by
  rw[decide_eq_true_eq]at *;exact O0 e d) (fun a b=>by
  rw[EH,decide_eq_true_eq,decide_eq_true_eq]
  exact List.le_total _ _) ks
 exact this.imp fun h=>le_of_lt.mpr (by simpa using h)
theorem srt_spec(ks:List Str):(srt ks).Perm ks/\sortedS (srt ks)=true:=by
 obtain⟨a,p,h⟩:=QjQ ks;rw[srt_eq p h];exact⟨p,h⟩
end St
namespace My
open L2 Mi My3 My4
noncomputable def als(p:List Pt):List Ln:=p.flatMap (·.2)
theorem QfN{N:Nat}:∀{p:List Pt},(∀x∈p,x.2.length<=N)->(als p).length<=p.length*N
 |[],_=>by simp[als]
 |x::p,h=>by
  have c:=h x Nx;have b:=QfN (p:=p) fun y a=>h y (No _ a);simp only[als,Fq,Np,NW]at b ⊢;rw[Nat.add_mul];omega
theorem QaR{p:List Pt}{h:MH}(s:(als p).length<=100000):Qm [Qs p] h=some (.lst ((als p).map Qf),h):=by
 have a:=Zh (items:=p.map Qz) (b:=Q2 2) (body:=Vs) (fun j f h=>∃c,f=[some (Qs p),some (.ref 0),c]/\h=[.lst ((als (p.take j)).map Qf)]) (p.map Qz) 0 [some (Qs p),some (.ref 0),none] [.lst []] ⟨none,rfl,by simp[als]⟩ (by
  rintro j w l f h ⟨c,rfl,rfl⟩
  rw[Nq]at l;obtain⟨x,n,rfl⟩:=Nf.mp l;rw[NG]at *
  have i:als (p.take (j+1))=als (p.take j)++x.2:=by
   rw[Eh,n];simp[als]
  have d:(als (p.take j)).length+x.2.length<=sizeLine:=by
   have o:als p=als (p.take (j+1))++als (p.drop (j+1)):=by simp only[als];rw[<-FU,Dl]
   have:=congrArg List.length o;rw[i]at this;simp only[Np]at this;exact Km (by omega)
  refine⟨_,rfl,[some (Qs p),some (.ref 0),some (Qz x)],[.lst ((als (p.take (j+1))).map Qf)],.inl ?_,_,rfl,rfl⟩;rw[i]
  simp[d])
 obtain⟨m,t,e,c,rfl,rfl⟩:=a;rw[Nu,NG,Em]at e;have ei:Qo (Qb 0) [some (Qs p),some (.ref 0),none] [.lst []]=some (p.map Qz,none,[.lst []]):=rfl
 have r:ZY (Qo (Qb 0)) (Q2 2) Vs [some (Qs p),some (.ref 0),none] [.lst []]=some (.nx [some (Qs p),some (.ref 0),c] [.lst ((als p).map Qf)]):=by
  unfold ZY;rw[ei,Nk];exact e
 refine K1 (j:=0) (g:=[.lst ((als p).map Qf)]) (by simp) ?_ rfl (by simp);simp[VS,Qn,r]
noncomputable def bxs:Ln->List Str
 |x::r=>if x="pair"then[r.getD 0 "",r.getD 2 "",r.getD 3 ""]else if x∈[("first":Str),"second","same","none","tell"]then r else[]
 |[]=>[]
theorem Qcz{bs ws la:List Str}{l:Ln}{h:MH}(d:LineOk bs ws la l):Z2 [Qf l] h=some (.lst ((bxs l).map .str),h)/\(∀y∈bxs l,y∈bs)/\(bxs l).length<=3:=by
 have c:∀x:Str,∀h,wIn false (.str x) (.tup [.str "first",.str "second",.str "same",.str "none",.str "tell"]) h=some (.bl (decide (x∈[("first":Str),"second","same","none","tell"])),h):=fun x h=>QaQ (g:=false) (x:=x) (l:=["first","second","same","none","tell"]) (h:=h)
 have j:∀(x:Str) (r:List Str) (h:MH),wSl (.tup (.str x::r.map .str)) (some 1) none h=some (.tup (r.map .str),h):=fun x r h=>by
  have:=Va (W.str x::r.map W.str) 1;simp at this;simp[this]
 have one:∀(x:Str) (r:List Str),x≠"pair"->x∈[("first":Str),"second","same","none","tell"]->Z2 [Qf (x::r)] h=some (.lst (r.map .str),h):=fun x r f e=>by
  refine Qh (g:=[]) (by simp) ?_ (by simp);have i:Qf (x::r)=.tup (.str x::r.map .str):=rfl;rw[i];have o:QeV [.tup (r.map .str)] []=some (.lst (r.map .str),[]):=rfl;simp[Ji,Qn,f,c,e,j,o,-NB]
 have non:∀(x:Str) (r:List Str),x≠"pair"->x∉[("first":Str),"second","same","none","tell"]->Z2 [Qf (x::r)] h=some (.lst [],h):=fun x r f e=>by
  refine Qh (g:=[]) (by simp) ?_ (by simp);have i:Qf (x::r)=.tup (.str x::r.map .str):=rfl;rw[i];simp[Ji,Qn,f,c,e,-NB]
 cases d with
 | plain d=>
  cases d with
  |pair a n b m=>
   refine⟨?_,by simp[bxs];exact⟨a,b,m⟩,by simp[bxs]⟩;refine Qh (g:=[]) (by simp) ?_ (by simp[bxs]);simp[Ji,Qn,Qf,bxs]
  |first a b=>exact⟨one _ _ (by decide) (by decide),by simp[bxs];exact⟨a,b⟩,by simp[bxs]⟩
  |second a b=>exact⟨one _ _ (by decide) (by decide),by simp[bxs];exact⟨a,b⟩,by simp[bxs]⟩
  |same a b=>exact⟨one _ _ (by decide) (by decide),by simp[bxs];exact⟨a,b⟩,by simp[bxs]⟩
  |none a=>exact⟨one _ _ (by decide) (by decide),by simp[bxs];exact a,by simp[bxs]⟩
  |tell a=>exact⟨one _ _ (by decide) (by decide),by simp[bxs];exact a,by simp[bxs]⟩
 |«do» a=>exact⟨non _ _ (by decide) (by decide),by simp[bxs],by simp[bxs]⟩
 |blk a=>
  rcases a with rfl|rfl|rfl|rfl
  all_goals exact⟨non _ _ (by decide) (by decide),by simp[bxs],by simp[bxs]⟩
 |back a=>exact⟨non _ _ (by decide) (by decide),by simp[bxs],by simp[bxs]⟩
theorem W0{a:W}{ss:List Str}{h:MH}(b:lsW h a=some (ss.map .str))(d:ss.length<4000)(c:(St.uniq ss).length<64):Vv [a] h=some (.ref h.length,h++[.lst ((St.srt (St.uniq ss)).map .str)]):=by
 unfold Vv;simp only[b,Nk,Gm];rw[if_pos ⟨d,c⟩]
theorem Qab:∀(a b:List Str),a.Nodup->(∀y∈a,y∈b)->a.length<=b.length
 |[],b,_,_=>N6 _
 |k::r,b,c,h=>by
  have e:=h k Nx;rw[Er]at c;have:=Qab r (b.erase k) c.2 fun y d=>(FP (fun z=>c.1 (by rw[<-z];exact d))).mpr (h y (No _ d));rw[D9 e]at this;have:=Fv e;rw[NW];omega
theorem Ky{l bs:List Str}(h:∀y∈l,y∈bs):(St.uniq l).length<=bs.length:=Qab _ bs (St.uniq_nd _ l rfl) fun y a=>h y ((St.uniq_mem _ _ rfl y).mp a)
theorem GJ(l:List Str):(St.srt l).length=l.length:=(St.srt_spec l).1.length_eq
theorem Qgo{f:Ln->List Str}:∀{ls:List Ln},(∀l∈ls,(f l).length<=3)->(ls.flatMap f).length<=3*ls.length
 |[],_=>by simp
 |l::ls,h=>by
  have c:=h l Nx;have b:=Qgo (ls:=ls) fun y a=>h y (No _ a);simp only[Fq,Np,NW]at b ⊢;omega
section
variable{N:Nat}{bs ws:List Str}{p:List Pt}
theorem Gb(d:GoodP N bs ws p):∀l∈als p,∃la,LineOk bs ws la l:=fun l a=>by
 obtain⟨x,b,a⟩:=IE.mp a;obtain⟨i,c⟩:=NS.mp b;exact⟨_,d.ok i x c l a⟩
theorem Qit(o:GoodP N bs ws p)(I:(als p).length<=1000)(C:bs.length<=60):∃ss:List Str,ss.length<=bs.length/\(∀y∈(als p).flatMap bxs,y∈ss)/\∀h,XJ [Qs p] h=some (.lst (ss.map .str),h):=by
 have z:∀j,(((als p).take j).flatMap bxs).length<=3*(als p).length:=fun j=>Nr (Qgo fun l c=>by
  obtain⟨u,i⟩:=Gb o l (List.mem_of_mem_take c)
  exact(Qcz (h:=[]) i).2.2) (by rw[ED];omega)
 have d:=Zh (items:=(als p).map Qf) (b:=Q2 2) (body:=VT) (fun j t h=>∃m,t=[some (Qs p),some (.ref 0),m]/\h=[.lst ((((als p).take j).flatMap bxs).map .str)]) ((als p).map Qf) 0 [some (Qs p),some (.ref 0),none] [.lst []] ⟨none,rfl,by simp⟩ (by
  rintro j w x t h ⟨m,rfl,rfl⟩
  rw[Nq]at x;obtain⟨l,c,rfl⟩:=Nf.mp x;rw[NG];have v:((als p).take (j+1)).flatMap bxs=((als p).take j).flatMap bxs++bxs l:=by rw[Eh,c,FU];simp
  obtain⟨u,i⟩:=Gb o l (NL c);have F:∀h,Z2 [Qf l] h=some (.lst ((bxs l).map .str),h):=fun h=>(Qcz i).1
  have n:((((als p).take j).flatMap bxs).map W.str).length+((bxs l).map W.str).length<=sizeLine:=by
   have D:=z (j+1);rw[v,Np]at D;rw[Nu,Nu];exact Km (by omega)
  refine⟨_,rfl,[some (Qs p),some (.ref 0),some (Qf l)],[.lst ((((als p).take (j+1)).flatMap bxs).map .str)],.inl ?_,_,rfl,rfl⟩;rw[v,Ed];generalize(bxs l).map W.str=Y at *;generalize(((als p).take j).flatMap bxs).map W.str=Z at *
  simp[F,n])
 obtain⟨A,J,e,m,rfl,rfl⟩:=d;rw[Nu,NG,Em]at e
 have B:∀y∈(als p).flatMap bxs,y∈bs:=fun y f=>by
  obtain⟨l,c,f⟩:=IE.mp f;obtain⟨u,i⟩:=Gb o l c;exact(Qcz (h:=[]) i).2.1 y f
 have hu:=Ky B;have r:=z (als p).length;rw[Em]at r;refine⟨St.srt (St.uniq ((als p).flatMap bxs)),by rw[GJ];omega,fun y f=>(St.srt_spec _).1.mem_iff.mpr ((St.uniq_mem _ _ rfl y).mpr f),fun h=>?_⟩;have s:∀h,Qm [Qs p] h=some (.lst ((als p).map Qf),h):=fun h=>QaR (by omega)
 have ei:Qo (Qi 1 Qm (Qa (Qb 0) Qd)) [some (Qs p),some (.ref 0),none] [.lst []]=some ((als p).map Qf,none,[.lst []]):=by
  have G:Qi 1 Qm (Qa (Qb 0) Qd) [some (Qs p),some (.ref 0),none] [.lst []]=some (.lst ((als p).map Qf),[.lst []]):=by simp[s]
  unfold Qo;rw[G];rfl
 have H:ZY (Qo (Qi 1 Qm (Qa (Qb 0) Qd))) (Q2 2) VT [some (Qs p),some (.ref 0),none] [.lst []]=some (.nx [some (Qs p),some (.ref 0),m] [.lst (((als p).flatMap bxs).map .str)]):=by
  unfold ZY;rw[ei,Nk];exact e
 have E:=W0 (a:=.ref 0) (ss:=(als p).flatMap bxs) (h:=[.lst (((als p).flatMap bxs).map .str)]) rfl (by omega) (by omega);refine K1 (j:=1) (g:=[.lst (((als p).flatMap bxs).map .str),.lst ((St.srt (St.uniq ((als p).flatMap bxs))).map .str)]) (by simp) ?_ rfl (by simp);simp[Xl,Qn,H,E]
theorem Ku{kd:Str}{k:Nat}{Wd:List Str}{ls:List Ln}{mi:MI}{σ:MSt}{h:MH}(H:mi σ h=some (ls.map Qf,none,h))(I:∃o,QbK [none] σ=[o])(O:ls.length<=100000)
  (g:∀l∈ls,∃x r,l=x::r/\(x=kd->∃w,(r.map W.str)[k]?=some (.str w)/\w∈Wd)) :
  ∃ss:List Str,(∀w∈ss,w∈Wd)/\ss.length<=ls.length/\(∀r w,(kd::r:Ln)∈ls->(r.map W.str)[k]?=some (.str w)->w∈ss)/\QC Zq mi [none] (Q2 0) (Qg (Qc wEq (Qc wIx (Qb 0) (mC (.int 0))) (mC (.str kd)))) (Qc wIx (Qb 0) (mC (.int ((k+1:Nat):Int)))) σ h=some (.lst (ss.map .str),h):=by
 let n:W->Bool:=fun w=>match w with|.tup (.str x::_)=>x==kd|_=>false
 let s:W->W:=fun w=>match w with|.tup ws=>ws.getD (k+1) .non|w=>w
 have J:=YI (fin:=Zq) (mi:=mi) (cp:=[none]) (mt:=Qg (Qc wEq (Qc wIx (Qb 0) (mC (.int 0))) (mC (.str kd)))) (me:=Qc wIx (Qb 0) (mC (.int ((k+1:Nat):Int)))) (σ:=σ) (caps:=[]) (h:=h) (items:=ls.map Qf) s n H I (fun w hw=>by
   obtain⟨l,f,rfl⟩:=NC.mp hw;obtain⟨x,r,rfl,_⟩:=g l f;show _=some ((x==kd),h);simp) (fun w hw G=>by
   obtain⟨l,f,rfl⟩:=NC.mp hw;obtain⟨x,r,rfl,A⟩:=g l f;have F:x=kd:=by have:(x==kd)=true:=G;simpa using this
   obtain⟨w,d,_⟩:=A F;have L:Qf (x::r)=.tup (.str x::r.map .str):=rfl;have i:atI (W.str x::r.map W.str) ((k+1:Nat):Int)=some (.str w):=by rw[Zb];simpa using d
   have B:s (Qf (x::r))=.str w:=by
    show(W.str x::r.map W.str).getD (k+1) .non=_;rw[Ef];have:(W.str x::r.map W.str)[k+1]?=some (.str w):=by simpa using d
    rw[this];rfl
   rw[B,L];push_cast at i ⊢
   simp[i]) (by simp;exact Km (by omega))
 have key:∀ls:List Ln,(∀l∈ls,∃x r,l=x::r/\(x=kd->∃w,(r.map W.str)[k]?=some (.str w)/\w∈Wd))->∃ss:List Str,(∀w∈ss,w∈Wd)/\ss.length<=ls.length/\(∀r w,(kd::r:Ln)∈ls->(r.map W.str)[k]?=some (.str w)->w∈ss)/\((ls.map Qf).filter n).map s=ss.map .str:=by
  intro ls
  induction ls with
  |nil=>intro _;exact⟨[],by simp,by simp,by simp,rfl⟩
  | cons l ls D=>
   intro g;obtain⟨ss,a,b,t,c⟩:=D fun y E=>g y (No _ E);obtain⟨x,r,rfl,A⟩:=g l Nx
   by_cases z:x=kd
   ·obtain⟨w,d,u⟩:=A z;refine⟨w::ss,by simp;exact⟨u,a⟩,by simp;omega,fun m j v e=>?_,?_⟩
    ·rcases NB.mp v with q|q
     ·have hr:m=r:=(O3 q).2;rw[hr,d]at e;have:w=j:=by injection e with q;injection q
      rw[this];exact Nx
     ·exact No _ (t m j q e)
    have i:n (Qf (x::r))=true:=by show(x==kd)=true;simpa using z
    have B:s (Qf (x::r))=.str w:=by
     show(W.str x::r.map W.str).getD (k+1) .non=_;rw[Ef];have:(W.str x::r.map W.str)[k+1]?=some (.str w):=by simpa using d
     rw[this];rfl
    rw[Nz,IM i,Nz,B,c,Nz]
   ·have i:¬n (Qf (x::r))=true:=by show¬(x==kd)=true;simpa using z
    exact⟨ss,a,by simp;omega,fun m j v e=>(NB.mp v).elim (fun q=>absurd (O3 q).1.symm z) fun q=>t m j q e,by rw[Nz,IN i,c]⟩
 obtain⟨ss,a,b,t,c⟩:=key ls g;exact⟨ss,a,b,t,by rw[J,c];rfl⟩
end
section
variable{N:Nat}{bs ws:List Str}{p:List Pt}
theorem QaF{la:List Str}{l:Ln}(h:LineOk bs ws la l):∃x r,l=x::r/\(x="pair"->∃w,(r.map W.str)[1]?=some (.str w)/\w∈ws):=by
 cases h with
 |plain h=>
  cases h with
  |pair c hw b a=>exact⟨_,_,rfl,fun _=>⟨_,rfl,hw⟩⟩
  |_=>exact⟨_,_,rfl,fun z=>absurd z (by decide)⟩
 |«do» h=>exact⟨_,_,rfl,fun z=>absurd z (by decide)⟩
 |blk h=>rcases h with rfl|rfl|rfl|rfl<;>exact⟨_,_,rfl,fun z=>absurd z (by decide)⟩
 |back h=>exact⟨_,_,rfl,fun z=>absurd z (by decide)⟩
theorem Qfk{la:List Str}{l:Ln}(h:LineOk bs ws la l):∃x r,l=x::r/\(x="back"->∃w,(r.map W.str)[0]?=some (.str w)/\w∈ws):=by
 cases h with
 |plain h=>cases h<;>exact⟨_,_,rfl,fun z=>absurd z (by decide)⟩
 |«do» h=>exact⟨_,_,rfl,fun z=>absurd z (by decide)⟩
 |blk h=>rcases h with rfl|rfl|rfl|rfl<;>exact⟨_,_,rfl,fun z=>absurd z (by decide)⟩
 |back h=>exact⟨_,_,rfl,fun _=>⟨_,rfl,h⟩⟩
theorem QhB{la:List Str}{l:Ln}(h:LineOk bs ws la l):∃x r,l=x::r/\(x="do"->∃w,r=[w]/\w∈la):=by
 cases h with
 |plain h=>cases h<;>exact⟨_,_,rfl,fun z=>absurd z (by decide)⟩
 |«do» h=>exact⟨_,_,rfl,fun _=>⟨_,rfl,h⟩⟩
 |blk h=>rcases h with rfl|rfl|rfl|rfl<;>exact⟨_,_,rfl,fun z=>absurd z (by decide)⟩
 |back h=>exact⟨_,_,rfl,fun z=>absurd z (by decide)⟩
theorem UO{σ:MSt}(a:σ[0]?=some (some (Qs p)))(d:(als p).length<=1000)(h:MH):Qo (Qi 1 Qm (Qa (Qb 0) Qd)) σ h=some ((als p).map Qf,none,h):=by
 have b:∀h,Qm [Qs p] h=some (.lst ((als p).map Qf),h):=fun h=>QaR (by omega);have c:Qi 1 Qm (Qa (Qb 0) Qd) σ h=some (.lst ((als p).map Qf),h):=by simp[Qb,a,b]
 unfold Qo;rw[c];rfl
theorem Qhj(r:GoodP N bs ws p)(s:(als p).length<=1000)(i:ws.length<=60):∃ss:List Str,(∀w∈ss,w∈ws)/\ss.length<=ws.length/\(∀a w b c,(["pair",a,w,b,c]:Ln)∈als p->w∈ss)/\∀h,XN [Qs p] h=some (.lst (ss.map .str),h):=by
 obtain⟨ss,d,x,f,e⟩:=Ku (kd:="pair") (k:=1) (Wd:=ws) (ls:=als p) (σ:=[some (Qs p)]) (h:=[]) (UO rfl s []) ⟨_,rfl⟩ (by omega) fun l o=>by
  obtain⟨z,m⟩:=Gb r l o;exact QaF m
 have hu:=Ky d;refine⟨St.srt (St.uniq ss),fun w hw=>d w ((St.uniq_mem _ _ rfl w).mp ((St.srt_spec _).1.mem_iff.mp hw)),by rw[GJ];omega,fun a w b c n=>(St.srt_spec _).1.mem_iff.mpr ((St.uniq_mem _ _ rfl w).mpr (f _ _ n rfl)),fun h=>?_⟩;have t:=W0 (a:=.lst (ss.map .str)) (ss:=ss) (h:=[]) rfl (by omega) (by omega);refine K1 (j:=0) (g:=[.lst ((St.srt (St.uniq ss)).map .str)]) (by simp) ?_ rfl (by simp);have u:QC Zq (Qo (Qi 1 Qm (Qa (Qb 0) Qd))) [none] (Q2 0) (Qg (Qc wEq (Qc wIx (Qb 0) (mC (.int 0))) (mC (.str "pair")))) (Qc wIx (Qb 0) (mC (.int 2))) [some (Qs p)] []=some (.lst (ss.map .str),[]):=e;simp[Xb,Qn,u,t]
theorem QkS{x:Str}{l:List Str}{h:MH}:wIn false (.str x) (.lst (l.map .str)) h=some (.bl (decide (x∈l)),h):=by
 rw[Qmx rfl J7 (by simp[dep]) (Nr J8 (by decide))]
 have:inW (.str x) (l.map .str)=decide (x∈l):=by
  induction l with
  |nil=>rfl
  |cons y l a=>
   unfold inW at a ⊢;rw[Nz,EF,a];show((y==x) ||_)=_
   by_cases e:y=x
   ·subst e;simp
   ·have b:¬x=y:=fun z=>e z.symm;rw[show(y==x)=false from beq_eq_false_iff_ne.mpr e,O2,D0,decide_eq_true_eq,decide_eq_true_eq,NB];exact⟨.inr,fun z=>z.elim (fun q=>absurd q b) id⟩
 rw[this];rfl
theorem Qa6(g:p.length<=100)(r:MSt)(h:MH):QC Zq (Qo (Qb 0)) [none] (Q2 0) V3 (Qc wIx (Qb 0) (mC (.int 0))) (some (Qs p)::r) h=some (.lst ((p.map (·.1)).map .str),h):=by
 have c:=Jw (fin:=Zq) (mi:=Qo (Qb 0)) (cp:=[none]) (me:=Qc wIx (Qb 0) (mC (.int 0))) (σ:=some (Qs p)::r) (caps:=[]) (h:=h) (items:=p.map Qz) (fun w=>match w with|.tup (a::_)=>a|w=>w) rfl ⟨_,rfl⟩ (fun w hw=>by
  obtain⟨x,_,rfl⟩:=NC.mp hw
  simp[Qz]) (by simp;exact Km (by omega))
 rw[c];simp[Qz,Zq,Of]
theorem Qe2{P:List Pt}{j:Nat}{w:W}(h:(JV (P.map Qz))[j]?=some w):∃x,P[j]?=some x/\w=.tup [.int j,Qz x]:=by
 unfold JV at h;rw[Nq,DQ,Nq]at h;cases a:P[j]? with
 |none=>rw[a]at h;cases h
 |some x=>
  rw[a]at h;refine⟨x,rfl,?_⟩;simp at h;rw[<-h]
theorem QdW{l:List Str}(h:l.Nodup):St.uniq l=l:=by
 induction l using JR with
 |nil=>rfl
 |snoc L x a=>
  rw[Il]at h;rw[St.uniq_snoc,a h.1,if_neg fun z=>h.2.2 x z x (by simp) rfl]
theorem QbE{i:Nat}{x:Pt}{g f e:Option W}(d:∀l∈x.2,∃y r,l=y::r/\(y="do"->∃w,r=[w]/\w∈(p.map (·.1)).drop (i+1)))(hN:x.2.length<=100000)(v:p[i]?=some x) :
  ∃b,Zr [2,3] (.tup [.int (i:Int),Qz x]) [some (Qs p),some (Ze (p.map (·.1))),g,f,e] []=some b/\∃a n,(QK b []=some (.nx a n)\/QK b []=some (.ct a n))/\∃g f e,a=[some (Qs p),some (Ze (p.map (·.1))),g,f,e]/\n=[]:=by
 have m:∀h,wSl (Ze (p.map (·.1))) (some ((i:Int)+1)) none h=some (Ze ((p.map (·.1)).drop (i+1)),h):=fun h=>QjG rfl;have G:=NL v
 let o:W->Bool:=fun w=>match w with|.tup (.str x::_)=>x=="do"|_=>false
 have s:=YI (fin:=Zq) (mi:=Qo (Qc wIx (Qb 3) (mC (.int 1)))) (cp:=[none,some 4]) (mt:=Qg (Qc wEq (Qc wIx (Qb 0) (mC (.int 0))) (mC (.str "do")))) (me:=Qc (wIn false) (Qc wIx (Qb 0) (mC (.int 1))) (Qb 1)) (σ:=[some (Qs p),some (Ze (p.map (·.1))),some (.int i),some (Qz x),some (Ze ((p.map (·.1)).drop (i+1)))]) (caps:=[some (Ze ((p.map (·.1)).drop (i+1)))]) (h:=[]) (items:=x.2.map Qf) (fun _=>.bl true) o (by unfold Qo;simp;rfl) ⟨_,rfl⟩ (fun w hw=>by
   obtain⟨l,c,rfl⟩:=NC.mp hw;obtain⟨y,r,rfl,_⟩:=d l c;show _=some ((y=="do"),[]);simp) (fun w hw z=>by
   obtain⟨l,c,rfl⟩:=NC.mp hw;obtain⟨y,r,rfl,A⟩:=d l c;have u:y="do":=by have:(y==("do":Str))=true:=z;simpa using this
   obtain⟨w,rfl,j⟩:=A u;have:=QkS (x:=w) (l:=(p.map (·.1)).drop (i+1)) (h:=[]);rw[decide_eq_true j]at this;have C:wIn false (.str w) (Ze ((p.map (·.1)).drop (i+1))) []=some (.bl true,[]):=this
   simp[C]) (by simp;exact Km (by omega))
 have B:Gg [.lst (((x.2.map Qf).filter o).map fun _=>W.bl true)] []=some (.bl true,[]):=KY fun w hw=>by
  obtain⟨_,_,rfl⟩:=NC.mp hw;rfl
 simp only[Zq]at s;refine⟨[some (Qs p),some (Ze (p.map (·.1))),some (.int i),some (Qz x),e],rfl,[some (Qs p),some (Ze (p.map (·.1))),some (.int i),some (Qz x),some (Ze ((p.map (·.1)).drop (i+1)))],[],.inl ?_,_,_,_,rfl,rfl⟩;simp[m,s,B,-N8]
theorem Qa7{h:MH}(i:GoodP N bs ws p)(hN:N<=100000):Zd [Qs p] h=some (.bl true,h):=by
 have r:=i.len
 have a:=Zh (items:=JV (p.map Qz)) (b:=Zr [2,3]) (body:=QK) (fun j o h=>∃f d c,o=[some (Qs p),some (Ze (p.map (·.1))),f,d,c]/\h=[]) (JV (p.map Qz)) 0 [some (Qs p),some (Ze (p.map (·.1))),none,none,none] [] ⟨none,none,none,rfl,rfl⟩ (by
  rintro j w u o h ⟨f,d,c,rfl,rfl⟩
  obtain⟨x,m,rfl⟩:=Qe2 u
  exact QbE (fun l t=>QhB (i.ok _ _ m l t)) (Nr (i.sz x (NL m)) hN) m)
 obtain⟨s,z,e,f,d,c,rfl,rfl⟩:=a;have ei:QaZ (Qa (Qb 0) Qd) [some (Qs p),some (Ze (p.map (·.1))),none,none,none] []=some (JV (p.map Qz),none,[]):=rfl
 have y:ZY (QaZ (Qa (Qb 0) Qd)) (Zr [2,3]) QK [some (Qs p),some (Ze (p.map (·.1))),none,none,none] []=some (.nx [some (Qs p),some (Ze (p.map (·.1))),f,d,c] []):=by
  unfold ZY;rw[ei,Nk];exact e
 have en:=Qa6 (p:=p) (by omega) [none,none,none,none] [];have hu:=QdW i.nd
 have v:Wz [Ze (p.map (·.1))] []=some (.int p.length,[]):=by
  unfold Wz Ze;simp only[lsW,Nk,Gm];rw[if_pos (by simp;omega),hu];simp
 refine Qh (g:=[]) (by simp) ?_ rfl;have n:QC Zq (Qo (Qb 0)) [none] (Q2 0) V3 (Qc wIx (Qb 0) (mC (.int 0))) [some (Qs p),none,none,none,none] []=some (Ze (p.map (·.1)),[]):=en;simp[ZB,Qn,n,v,y]
theorem QcT(P:MSt->Prop)(f:W->W):∀(rest a:List W) (d:MSt),P d->(∀w∈rest,∀d,P d->∃c,b w d h=some c/\P c/\me c h=some (f w,h))->a.length+rest.length<=sizeLine->JN fin items none b V3 me rest a d h=fin (a++rest.map f) h
 |[],a,d,_,_,_=>by unfold JN;rw[if_pos (Vu _ _)];simp
 |w::rest,a,d,j,e,m=>by
  have l:a.length+(rest.length+1)<=sizeLine:=by simpa using m
  obtain⟨c,o,g,n⟩:=e w Nx d j;unfold JN;rw[if_pos (Vu _ _),o,Nk];show(some (true,h)).bind _=_;rw[Nk];simp only[n,Nk];rw[if_pos (by lia),QcT P f rest (a++[f w]) c g (fun x i=>e x (No _ i)) (by simp;lia)];simp
theorem QkH(P:MSt->Prop)(f:W->W)(g:mi σ h=some (items,none,h))(i:P (QbK cp σ))(d:∀w∈items,∀c,P c->∃a,b w c h=some a/\P a/\me a h=some (f w,h))(e:items.length<=sizeLine):QC fin mi cp b V3 me σ h=fin (items.map f) h:=by
 unfold QC;rw[g,Nk];rw[QcT P f items [] _ i d (by simpa using e)];simp
noncomputable def smB(z:Sz):Bool:=decide (z.pl<=48)&&(decide (z.bk<=500)&&decide (z.dp<=6))
theorem QdV{l:List a}{f:a->Bool}{h:MH}:Gg [.lst (l.map fun x=>W.bl (f x))] h=some (.bl (l.all f),h):=by
 show((QfR (l.map fun x=>W.bl (f x))).map fun bs=>(W.bl (bs.all id),h))=_;rw[Gx,DZ];congr 3;simp
noncomputable def unS(v:W):Str:=match v with|.str s=>s|_=>""
noncomputable def unL(l:W):Ln:=match l with|.tup ws=>ws.map unS|_=>[]
noncomputable def bOf(f:Pt->Bool)(w:W):W:=match w with|.tup [.str x,.tup a]=>.bl (f (x,a.map unL))|_=>.bl false
theorem Qc5{f:Pt->Bool}{x:Pt}:bOf f (Qz x)=.bl (f x):=by
 obtain⟨a,b⟩:=x
 have e:(b.map Qf).map unL=b:=by
  rw[N8]
  conv=>rhs;rw[<-List.map_id b]
  apply DA;intro l _;show(l.map W.str).map unS=l;rw[N8]
  conv=>rhs;rw[<-List.map_id l]
  rfl
 show W.bl (f (a,(b.map Qf).map unL))=_;rw[e]
theorem Qkq{x:Pt}(o:GoodP N bs ws p)(hx:p[0]?=some x)(Q:(als p).length<=1000)(P:bs.length<=60)(aa:ws.length<=15) :
  ∃H G:Nat,H<=bs.length/\G<=ws.length/\(∀L:List Str,L.Nodup->(∀y∈L,y∈(als p).flatMap bxs)->L.length<=H)/\(∀L:List Str,L.Nodup->(∀y∈L,(∃a b c,(["pair",a,y,b,c]:Ln)∈als p)\/(["back",y]:Ln)∈als p)->L.length<=G) /\
   ∀h,ZS [Qs p] h=some (.bl (decide (H<=5)&&(decide (G<=5)&&(decide ((szw (sd (p.drop 1)) x.2).wy<=24)&&(smB (szw (sd (p.drop 1)) x.2)&&p.all fun y=>smB (szw [] y.2))))),h):=by
 obtain⟨B,hB,U,u⟩:=Qit o Q P;obtain⟨Wo,s,ab,R,D⟩:=Qhj o Q (by omega)
 obtain⟨d,Y,s2,s3,eb⟩:=Ku (kd:="back") (k:=0) (Wd:=ws) (ls:=als p) (σ:=[some (Qs p),none,none]) (h:=[]) (UO rfl Q []) ⟨_,rfl⟩ (by omega) fun l O=>by
  obtain⟨la,ho⟩:=Gb o l O;exact Qfk ho
 have m:QC Zq (Qo (Qi 1 Qm (Qa (Qb 0) Qd))) [none] (Q2 0) (Qg (Qc wEq (Qc wIx (Qb 0) (mC (.int 0))) (mC (.str "back")))) (Qc wIx (Qb 0) (mC (.int 1))) [some (Qs p),none,none] []=some (.lst (d.map .str),[]):=eb;have u1:=Ky s;have u2:=Ky Y;have u3:(St.uniq (Wo++d)).length<=ws.length:=Ky fun y n=>(NQ.mp n).elim (s y) (Y y)
 have A:Qan [.lst (Wo.map .str),.lst (d.map .str)] []=some (.int (St.uniq (Wo++d)).length,[]):=by
  unfold Qan;simp only[lsW,Nk,Gm];rw[if_pos ⟨by omega,by omega,by omega⟩]
 refine⟨B.length,(St.uniq (Wo++d)).length,hB,u3,fun L T M=>Qab L B T fun y n=>U y (M y n),fun L T M=>Qab L _ T fun y n=>(St.uniq_mem _ _ rfl y).mpr (NQ.mpr ((M y n).elim (fun⟨a,b,c,q⟩=>.inl (R _ _ _ _ q)) fun q=>.inr (s3 _ _ q rfl))),fun h=>?_⟩;have C:∀h,JX [Qs p] h=some (Ki (szw (sd (p.drop 1)) x.2),h):=fun h=>Qfp o hx;generalize hS:szw (sd (p.drop 1)) x.2=S at C;have es:∀z h,Z0 [Ki z] h=some (.bl (smB z),h):=fun z h=>QgD
 have X:=QkH (fin:=Zq) (mi:=Qo (Qb 0)) (cp:=[none,none]) (b:=Zr [0,1]) (me:=Qi 1 Z0 (Qa (Qi 1 JG (Qa (Qb 1) Qd)) Qd)) (σ:=[some (Qs p),some (.lst (d.map .str)),some (Ki S)]) (h:=[]) (items:=p.map Qz) (fun F=>F.length=2) (bOf fun y=>smB (szw [] y.2)) rfl rfl (fun w hw F J=>by
  obtain⟨y,n,rfl⟩:=NC.mp hw;obtain⟨i,hi⟩:=NS.mp n;have eo:∀h,JG [.tup (y.2.map Qf)] h=some (Ki (szw [] y.2),h):=fun h=>Qii fun l O=>Qjl (o.ok i y hi l O);rw[Qc5]
  match F,J with
  |[a,b],_=>exact⟨[some (.str y.1),some (.tup (y.2.map Qf))],rfl,rfl,by simp[eo,es]⟩) (by simp;have:=o.len;exact Km (by omega))
 have em:(p.map Qz).map (bOf fun y=>smB (szw [] y.2))=p.map fun y=>W.bl (smB (szw [] y.2)):=by rw[N8];exact DA fun y _=>Qc5
 simp only[Zq]at X;rw[em]at X;have t:Gg [.lst (p.map fun y=>W.bl (smB (szw [] y.2)))] []=some (.bl (p.all fun y=>smB (szw [] y.2)),[]):=QdV;refine Qh (g:=[]) (by simp) ?_ rfl
 by_cases r:(5:Int)<B.length
 ·have j:¬B.length<=5:=by omega
  simp[QI,Qn,u,r,j]
 have j:B.length<=5:=by omega
 by_cases v:(5:Int)<(St.uniq (Wo++d)).length
 ·have f:¬(St.uniq (Wo++d)).length<=5:=by omega
  simp[QI,Qn,u,m,D,A,r,v,f]
 have f:(St.uniq (Wo++d)).length<=5:=by omega
 by_cases I:(24:Int)<S.wy
 ·have e:¬S.wy<=24:=by omega
  simp[QI,Qn,u,m,D,A,r,v,C,Qk2,I,e]
 have e:S.wy<=24:=by omega
 have E:=es S [];cases Z:smB S with
 |false=>rw[Z]at E;simp[QI,Qn,u,m,D,A,r,v,C,Qk2,I,E,j,f,e]
 |true=>rw[Z]at E;simp[QI,Qn,u,m,D,A,r,v,C,Qk2,I,E,X,t,j,f,e,-N8,-NV]
end
section
variable{N:Nat}{bs ws:List Str}{p:List Pt}
theorem Qie{us:List W}{h:MH}:Gf [.tup us,.ty "tuple"] h=some (.bl true,h):=by simp[JJ]
theorem Qid{us:List W}(hu:us.length<=1000):Qg (Vz wLe wLe (mC (.int 1)) (mFn JU (Qa (Qb 0) Qd)) (mC Zo)) [some (.tup us)] []=some (decide (1<=us.length)&&decide (us.length<=5),[]):=by
 have d:mFn JU (Qa (Qb 0) Qd) [some (.tup us)] []=some (.int us.length,[]):=by simp
 have a:Vz wLe wLe (mC (.int 1)) (mFn JU (Qa (Qb 0) Qd)) (mC Zo) [some (.tup us)] []=some (.bl (decide ((1:Int)<=us.length)&&decide ((us.length:Int)<=5)),[]):=GV rfl d rfl rfl rfl;have c:decide ((1:Int)<=us.length)=decide (1<=us.length):=by congr 1;simp;omega
 have b:decide ((us.length:Int)<=5)=decide (us.length<=5):=by congr 1;simp;omega
 rw[c,b]at a;simp[a]
theorem Qhx{us:List W}{f:W->Bool}{b:Bool}{h:MH}(m:Z4 us=true)(t:1<=us.length)(s:us.length<=5)(n:∀w∈us,∀h,JF [w] h=some (.bl (f w),h))(o:us.all f=true->∃r k,(∀h,Zd [.tup us] h=some (.bl r,h))/\(r=true->∀h,ZS [.tup us] h=some (.bl k,h))/\b=(r&&k))(i:us.all f=false->b=false):Q6 [.tup us] h=some (.bl b,h):=by
 have e:=Jw (fin:=Zq) (mi:=Qo (Qb 0)) (cp:=[none]) (me:=Qi 1 JF (Qa (Qb 0) Qd)) (σ:=[some (.tup us)]) (caps:=[]) (h:=[]) (items:=us) (fun w=>.bl (f w)) rfl ⟨_,rfl⟩ (fun w hw=>by simp[n w hw]) (Km (by omega));simp only[Zq]at e;have a:Gg [.lst (us.map fun w=>W.bl (f w))] []=some (.bl (us.all f),[]):=QdV;have d:=Qid (us:=us) (by omega);rw[decide_eq_true t,decide_eq_true s]at d;have ei:=Qie (us:=us) (h:=[]);refine Qh (g:=[]) (by unfold Z4 pur;simp[m,Z4]) ?_ rfl;cases c:us.all f with
 |false=>
  rw[i c];rw[c]at a;simp[Zt,Qn,ei,d,e,a,-NV,-Fj]
 |true=>
  obtain⟨r,k,j,u,rfl⟩:=o c;rw[c]at a;cases r with
  |false=>simp[Zt,Qn,ei,d,e,a,j,-NV,-Fj]
  |true=>simp[Zt,Qn,ei,d,e,a,j,u rfl,-NV,-Fj]
theorem Qmi:Z4 (p.map Qz)=true:=by simp
theorem Qbm(c:GoodP N bs ws p)(hN:N<=70000)(j:∀x∈bs,Nm x)(hw:∀x∈ws,Nm x)(d:∀x∈p,Nm x.1):∀w∈p.map Qz,∀h,JF [w] h=some (.bl ((fun _=>true) w),h):=fun w b h=>by
 obtain⟨y,a,rfl⟩:=NC.mp b;obtain⟨i,g⟩:=NS.mp a
 exact QkQ j hw (la:=(p.map (·.1)).drop (i+1)) (fun z e=>by
   obtain⟨q,f,rfl⟩:=NC.mp (LD e)
   exact d q f) (d y a) (c.ok i y g) (c.bal y a) (Nr (c.sz y a) hN)
theorem Qmd{x:Pt}(i:GoodP N bs ws p)(hN:N<=70000)(n:p[0]?=some x)(s:(als p).length<=1000)(m:bs.length<=60)(j:ws.length<=15)(r:∀x∈bs,Nm x)(hw:∀x∈ws,Nm x)(o:∀x∈p,Nm x.1) :
  ∃e d:Nat,e<=bs.length/\d<=ws.length/\(∀L:List Str,L.Nodup->(∀y∈L,y∈(als p).flatMap bxs)->L.length<=e)/\(∀L:List Str,L.Nodup->(∀y∈L,(∃a b c,(["pair",a,y,b,c]:Ln)∈als p)\/(["back",y]:Ln)∈als p)->L.length<=d) /\
   ∀h,Q6 [Qs p] h=some (.bl (decide (e<=5)&&(decide (d<=5)&&(decide ((szw (sd (p.drop 1)) x.2).wy<=24)&&(smB (szw (sd (p.drop 1)) x.2)&&p.all fun y=>smB (szw [] y.2))))),h):=by
 obtain⟨e,d,A,w,v,u,t⟩:=Qkq i n s m j;refine⟨e,d,A,w,v,u,fun h=>?_⟩;have g:=i.len;have l:=DS.mpr i.ne;exact Qhx (us:=p.map Qz) (f:=fun _=>true) Qmi (by rw[Nu];exact l) (by rw[Nu];exact g) (Qbm i hN r hw o) (fun _=>⟨true,_,fun h=>Qa7 i (by omega),fun _ h=>t h,by simp⟩) (fun z=>by simp at z)
end
open Sp
noncomputable def giv:List Str:=["pair","first","second","same","none"]
noncomputable def wl:Ln->List Str
 |x::b::r=>if x∈giv then b::"="::(if x="same"then r else x::r)else x::b::r
 |l=>l
theorem QkA:(Str.ofString " ":Str)=sg 32:=by decide
theorem QhJ:(Str.ofString "\n":Str)=sg 10:=by decide
noncomputable def V9(l:Ln):Str:=Str.join (sg 32) (wl l)
theorem jT{zs:List Str}{h:MH}{c:Nat}(a:(zs.map (·.length)).sum+zs.length*1<=16777216):V7 (.str (sg c)) [.tup (zs.map .str)] h=some (.str (Str.join (sg c) zs),h):=by
 show((K8 (zs.map W.str)).bind fun zs=>if(zs.map (·.length)).sum+zs.length*(sg c).length<=16777216 then some (W.str (Builtin.Str.glued (sg c) zs),h)else none)=_;rw[V5,Nk,<-FF];exact if_pos a
theorem jL{zs:List Str}{h:MH}{c:Nat}(a:(zs.map (·.length)).sum+zs.length*1<=16777216):V7 (.str (sg c)) [.lst (zs.map .str)] h=some (.str (Str.join (sg c) zs),h):=by
 show((K8 (zs.map W.str)).bind fun zs=>if(zs.map (·.length)).sum+zs.length*(sg c).length<=16777216 then some (W.str (Builtin.Str.glued (sg c) zs),h)else none)=_;rw[V5,Nk,<-FF];exact if_pos a
theorem jR{zs:List Str}{h:MH}{c n:Nat}(e:h[n]?=some (.lst (zs.map .str)))(d:(zs.map (·.length)).sum+zs.length*1<=16777216):V7 (.str (sg c)) [.ref n] h=some (.str (Str.join (sg c) zs),h):=by
 show((lsW h (.ref n)).bind fun a=>(K8 a).bind fun zs=>if(zs.map (·.length)).sum+zs.length*(sg c).length<=16777216 then some (W.str (Builtin.Str.glued (sg c) zs),h)else none)=_;rw[show lsW h (.ref n)=some (zs.map W.str)from by show(match h[n]? with|some (MO.lst b)=>some b|_=>none)=_;rw[e],Nk,V5,Nk,<-FF];exact if_pos d
theorem Qcj{x:Str}{h:MH}:wIn false (.str x) Xc h=some (.bl (decide (x∈giv)),h):=(QaQ (g:=false) (x:=x) (l:=giv) (h:=h)).trans (by simp)
theorem Zl{x y:Str}{r:List W}{h:MH}(hr:Z4 r=true):Xu [.tup (.str x::.str y::r)] h=some (if x∈giv then .str y else .non,h):=by
 refine Qh (g:=[]) (by simp[hr]) ?_ (by split<;>rfl)
 by_cases a:x∈giv
 ·simp[V8,Qn,Qcj,a]
 ·simp[V8,Qn,Qcj,a]
theorem Y4{x:Str}{h:MH}(a:x∉giv):Xu [.tup [.str x]] h=some (.non,h):=by
 refine Qh (g:=[]) (by simp) ?_ rfl;simp[V8,Qn,Qcj,a]
def Sh(l:List Str):Prop:=∀x∈l,x.length<=8
theorem QbU:∀{l:List Str},Sh l->(l.map (·.length)).sum<=8*l.length
 |[],_=>by simp
 |x::r,h=>by
  have c:=h x (by simp);have b:=QbU (l:=r) fun y a=>h y (No _ a);simp;omega
theorem Qkf{l:List Str}(h:Sh l)(a:l.length<=1000):(l.map (·.length)).sum+l.length*1<=16777216:=by have:=QbU h;omega
theorem Qd7{zs:List Str}{h:MH}(a:Sh zs)(b:zs.length<=1000):V7 (.str (Str.ofString " ")) [.tup (zs.map .str)] h=some (.str (Str.join (sg 32) zs),h):=by rw[QkA];exact jT (Qkf a b)
theorem QbM(xs:List W):Uu xs (some 2) none=xs.drop 2:=Va xs 2
theorem QoO(xs:List W):Uu xs (some 1) none=xs.drop 1:=Va xs 1
theorem sz6:(6:Nat)<=sizeLine:=by decide
theorem sz5:(5:Nat)<=sizeLine:=by decide
theorem sz4:(4:Nat)<=sizeLine:=by decide
theorem sz3:(3:Nat)<=sizeLine:=by decide
theorem sz2:(2:Nat)<=sizeLine:=by decide
theorem nm8{x:Str}(h:Nm x):x.length<=8:=h.hi
theorem UU{bs ws la:List Str}{l:Ln}{h:MH}(e:∀x∈bs,Nm x)(hw:∀x∈ws,Nm x)(i:∀x∈la,Nm x)(o:LineOk bs ws la l):Jf [Qf l] h=some (.str (V9 l),h):=by
 refine Qh (g:=[]) (by simp) ?_ rfl;cases o with
 | plain n=>
  cases n with
  |@pair x w y z c m f r=>
   have j:=Qd7 (zs:=[x,"=","pair",w,y,z]) (h:=[]) (by intro a b;simp at b;rcases b with rfl|rfl|rfl|rfl|rfl|rfl<;>first|decide|exact nm8 (e _ ‹_›)|exact nm8 (hw _ ‹_›)) (by simp);simp[Qw,Qn,Zl,giv,Qf,QbM,sz6,sz5,sz4,sz3,sz2,V9,wl]at j ⊢;simp[j]
  |@first x y c f=>
   have j:=Qd7 (zs:=[x,"=","first",y]) (h:=[]) (by intro a b;simp at b;rcases b with rfl|rfl|rfl|rfl<;>first|decide|exact nm8 (e _ ‹_›)|exact nm8 (hw _ ‹_›)) (by simp);simp[Qw,Qn,Zl,giv,Qf,QbM,sz6,sz5,sz4,sz3,sz2,V9,wl]at j ⊢;simp[j]
  |@second x y c f=>
   have j:=Qd7 (zs:=[x,"=","second",y]) (h:=[]) (by intro a b;simp at b;rcases b with rfl|rfl|rfl|rfl<;>first|decide|exact nm8 (e _ ‹_›)|exact nm8 (hw _ ‹_›)) (by simp);simp[Qw,Qn,Zl,giv,Qf,QbM,sz6,sz5,sz4,sz3,sz2,V9,wl]at j ⊢;simp[j]
  |@same x y c f=>
   have j:=Qd7 (zs:=[x,"=",y]) (h:=[]) (by intro a b;simp at b;rcases b with rfl|rfl|rfl<;>first|decide|exact nm8 (e _ ‹_›)|exact nm8 (hw _ ‹_›)) (by simp);simp[Qw,Qn,Zl,giv,Qf,QbM,sz6,sz5,sz4,sz3,sz2,V9,wl]at j ⊢;simp[j]
  |@none x c=>
   have j:=Qd7 (zs:=[x,"=","none"]) (h:=[]) (by intro a b;simp at b;rcases b with rfl|rfl|rfl<;>first|decide|exact nm8 (e _ ‹_›)|exact nm8 (hw _ ‹_›)) (by simp);simp[Qw,Qn,Zl,giv,Qf,QbM,sz6,sz5,sz4,sz3,sz2,V9,wl]at j ⊢;simp[j]
  |@tell x c=>
   have j:=Qd7 (zs:=["tell",x]) (h:=[]) (by intro a b;simp at b;rcases b with rfl|rfl<;>first|decide|exact nm8 (e _ ‹_›)|exact nm8 (hw _ ‹_›)) (by simp);simp[Qw,Qn,Zl,giv,Qf,QbM,sz6,sz5,sz4,sz3,sz2,V9,wl]at j ⊢;simp[j]
 |@«do» x c=>
  have j:=Qd7 (zs:=["do",x]) (h:=[]) (by intro a b;simp at b;rcases b with rfl|rfl<;>first|decide|exact nm8 (i _ ‹_›)) (by simp);simp[Qw,Qn,Zl,giv,Qf,V9,wl]at j ⊢;simp[j]
 |@back x c=>
  have j:=Qd7 (zs:=["back",x]) (h:=[]) (by intro a b;simp at b;rcases b with rfl|rfl<;>first|decide|exact nm8 (hw _ ‹_›)) (by simp);simp[Qw,Qn,Zl,giv,Qf,V9,wl]at j ⊢;simp[j]
 |@blk x c=>
  have p:x∉giv:=by rcases c with rfl|rfl|rfl|rfl<;>decide
  have j:=Qd7 (zs:=[x]) (h:=[]) (by intro a b;simp at b;subst b;rcases c with rfl|rfl|rfl|rfl<;>decide) (by simp);have g1:=Y4 (h:=[]) p;simp[Qw,Qn,Qf,V9,wl,g1]at j ⊢;simp[j]
theorem K9(x y:Str):(x++y).length=x.length+y.length:=strLen_append ..
theorem Ub{x y:Str}{h:MH}(b:x.length<=200)(a:y.length<=200):Q1 (.str x) (.str y) h=some (.str (x++y),h):=by
 have:x.length+y.length<=sizeLine:=Nr (Ls b a) (by decide);show(if x.length+y.length<=sizeLine then some (W.str (x++y),h)else none)=_;rw[if_pos this]
theorem QfQ:(Str.ofString " = pair ").cps.toList=[32,61,32,112,97,105,114,32]:=by decide
theorem Qgk:(Str.ofString "=").cps.toList=[61]:=by decide
theorem Qgn:(Str.ofString "pair").cps.toList=[112,97,105,114]:=by decide
theorem Qf8:(Str.ofString " = ").cps.toList=[32,61,32]:=by decide
theorem Qf9:(Str.ofString "first").cps.toList=[102,105,114,115,116]:=by decide
theorem QfV:(Str.ofString "second").cps.toList=[115,101,99,111,110,100]:=by decide
theorem QfM:(Str.ofString " ").cps.toList=[32]:=by decide
theorem Qgm:(Str.ofString " = none").cps.toList=[32,61,32,110,111,110,101]:=by decide
theorem QfS:(Str.ofString "none").cps.toList=[110,111,110,101]:=by decide
theorem QfG:(Str.ofString "tell").cps.toList=[116,101,108,108]:=by decide
theorem Us:(Str.ofString "do").cps.toList=[100,111]:=by decide
theorem Uj:(Str.ofString "back").cps.toList=[98,97,99,107]:=by decide
theorem Ws:(Str.ofString "part ").cps.toList=[112,97,114,116,32]:=by decide
theorem WG:(Str.ofString "part").cps.toList=[112,97,114,116]:=by decide
theorem jn1(s a:Str):Str.join s [a]=a:=rfl
theorem sgc(c:Nat):(sg c).cps.toList=[c]:=rfl
theorem VJ{a b:Str}(h:a.cps.toList=b.cps.toList):a=b:=Sp.ext h
set_option hygiene false in
theorem QbF{bs ws la:List Str}{l:Ln}{h:MH}(f:∀x∈bs,Nm x)(hw:∀x∈ws,Nm x)(r:∀x∈la,Nm x)(D:LineOk bs ws la l):JM [Qf l] h=some (.str (V9 l),h):=by
 refine Qh (g:=[]) (by simp) ?_ rfl;cases D with
 | plain C=>
  cases C with
  | @pair x w y z b p m B=>
   have i:=nm8 (f _ b);have j:=Qd7 (zs:=[w,y,z]) (h:=[]) (by intro a v;simp at v;rcases v with rfl|rfl|rfl<;>first|exact nm8 (f _ ‹_›)|exact nm8 (hw _ ‹_›)) (by simp)
   have I:(Str.join (sg 32) [w,y,z]).length<=26:=by
    have H:=nm8 (hw _ p);have G:=nm8 (f _ m);have F:=nm8 (f _ B);rw[join_cons2,join_cons2,jn1,K9,K9,K9,K9];have:(sg 32).length=1:=rfl;omega
   have c:=Ub (x:=x) (y:=" = pair ") (h:=[]) (by omega) (by decide);have d:=Ub (x:=x++" = pair ") (y:=Str.join (sg 32) [w,y,z]) (h:=[]) (by rw[K9];have:(Str.ofString " = pair ").length=8:=(by decide);omega) (by omega)
   have e:x++" = pair "++Str.join (sg 32) [w,y,z]=V9 ["pair",x,w,y,z]:=by
    refine VJ ?_;simp[V9,wl,giv,join_cons2,jn1,Sp.app_cps,sgc,QfQ,Qgk,Qgn,Qf8,Qf9,QfV,QfM,Qgm,QfS,QfG,Us,Uj,Ws,WG]
   simp at j;simp[QF,Qn,Qf,QbM,c,d,j,e]
  | @first x y b m=>
   have n:(Str.ofString " = ").length=3:=by decide
   have o:(Str.ofString "first").length=5:=by decide
   have A:(Str.ofString " ").length=1:=by decide
   have i:=nm8 (f _ b);have u:=nm8 (f _ m);have c:=Ub (x:=x) (y:=" = ") (h:=[]) (by omega) (by decide);have d:=Ub (x:=x++" = ") (y:="first") (h:=[]) (by rw[K9];omega) (by decide);have t:=Ub (x:=x++" = "++"first") (y:=" ") (h:=[]) (by rw[K9,K9];omega) (by decide);have s:=Ub (x:=x++" = "++"first"++" ") (y:=y) (h:=[]) (by rw[K9,K9,K9];omega) (by omega)
   have e:x++" = "++"first"++" "++y=V9 ["first",x,y]:=by
    refine VJ ?_;simp[V9,wl,giv,join_cons2,jn1,Sp.app_cps,sgc,QfQ,Qgk,Qgn,Qf8,Qf9,QfV,QfM,Qgm,QfS,QfG,Us,Uj,Ws,WG]
   simp[QF,Qn,Qf,c,d,t,s,e]
  | @second x y b m=>
   have n:(Str.ofString " = ").length=3:=by decide
   have o:(Str.ofString "second").length=6:=by decide
   have A:(Str.ofString " ").length=1:=by decide
   have i:=nm8 (f _ b);have u:=nm8 (f _ m);have c:=Ub (x:=x) (y:=" = ") (h:=[]) (by omega) (by decide);have d:=Ub (x:=x++" = ") (y:="second") (h:=[]) (by rw[K9];omega) (by decide);have t:=Ub (x:=x++" = "++"second") (y:=" ") (h:=[]) (by rw[K9,K9];omega) (by decide);have s:=Ub (x:=x++" = "++"second"++" ") (y:=y) (h:=[]) (by rw[K9,K9,K9];omega) (by omega)
   have e:x++" = "++"second"++" "++y=V9 ["second",x,y]:=by
    refine VJ ?_;simp[V9,wl,giv,join_cons2,jn1,Sp.app_cps,sgc,QfQ,Qgk,Qgn,Qf8,Qf9,QfV,QfM,Qgm,QfS,QfG,Us,Uj,Ws,WG]
   simp[QF,Qn,Qf,c,d,t,s,e]
  | @same x y b m=>
   have n:(Str.ofString " = ").length=3:=by decide
   have i:=nm8 (f _ b);have u:=nm8 (f _ m);have c:=Ub (x:=x) (y:=" = ") (h:=[]) (by omega) (by decide);have d:=Ub (x:=x++" = ") (y:=y) (h:=[]) (by rw[K9];omega) (by omega)
   have e:x++" = "++y=V9 ["same",x,y]:=by
    refine VJ ?_;simp[V9,wl,giv,join_cons2,jn1,Sp.app_cps,sgc,QfQ,Qgk,Qgn,Qf8,Qf9,QfV,QfM,Qgm,QfS,QfG,Us,Uj,Ws,WG]
   simp[QF,Qn,Qf,c,d,e]
  | @none x b=>
   have n:(Str.ofString " = none").length=7:=by decide
   have i:=nm8 (f _ b);have c:=Ub (x:=x) (y:=" = none") (h:=[]) (by omega) (by decide)
   have e:x++" = none"=V9 ["none",x]:=by
    refine VJ ?_;simp[V9,wl,giv,join_cons2,jn1,Sp.app_cps,sgc,QfQ,Qgk,Qgn,Qf8,Qf9,QfV,QfM,Qgm,QfS,QfG,Us,Uj,Ws,WG]
   simp[QF,Qn,Qf,c,e]
  | @tell x b=>
   have n:(Str.ofString "tell").length=4:=by decide
   have o:(Str.ofString " ").length=1:=by decide
   have i:=nm8 (f _ b);have c:=Ub (x:=(Str.ofString "tell")) (y:=" ") (h:=[]) (by omega) (by decide);have d:=Ub (x:=(Str.ofString "tell")++" ") (y:=x) (h:=[]) (by rw[K9];omega) (by omega)
   have e:(Str.ofString "tell")++" "++x=V9 ["tell",x]:=by
    refine VJ ?_;simp[V9,wl,giv,join_cons2,jn1,Sp.app_cps,sgc,QfQ,Qgk,Qgn,Qf8,Qf9,QfV,QfM,Qgm,QfS,QfG,Us,Uj,Ws,WG]
   simp[QF,Qn,Qf,c,d,e]
 | @«do» x b=>
  have n:(Str.ofString "do").length=2:=by decide
  have o:(Str.ofString " ").length=1:=by decide
  have i:=nm8 (r _ b);have c:=Ub (x:=(Str.ofString "do")) (y:=" ") (h:=[]) (by omega) (by decide);have d:=Ub (x:=(Str.ofString "do")++" ") (y:=x) (h:=[]) (by rw[K9];omega) (by omega)
  have e:(Str.ofString "do")++" "++x=V9 ["do",x]:=by
   refine VJ ?_;simp[V9,wl,giv,join_cons2,jn1,Sp.app_cps,sgc,QfQ,Qgk,Qgn,Qf8,Qf9,QfV,QfM,Qgm,QfS,QfG,Us,Uj,Ws,WG]
  simp[QF,Qn,Qf,c,d,e]
 | @back x b=>
  have n:(Str.ofString "back").length=4:=by decide
  have o:(Str.ofString " ").length=1:=by decide
  have i:=nm8 (hw _ b);have c:=Ub (x:=(Str.ofString "back")) (y:=" ") (h:=[]) (by omega) (by decide);have d:=Ub (x:=(Str.ofString "back")++" ") (y:=x) (h:=[]) (by rw[K9];omega) (by omega)
  have e:(Str.ofString "back")++" "++x=V9 ["back",x]:=by
   refine VJ ?_;simp[V9,wl,giv,join_cons2,jn1,Sp.app_cps,sgc,QfQ,Qgk,Qgn,Qf8,Qf9,QfV,QfM,Qgm,QfS,QfG,Us,Uj,Ws,WG]
  simp[QF,Qn,Qf,c,d,e]
 |@blk x b=>
  have e:x=V9 [x]:=rfl
  rcases b with rfl|rfl|rfl|rfl<;>simp[QF,Qn,Qf,<-e]
def GL(l:Ln):Prop:=∃bs a b:List Str,(∀x∈bs,Nm x)/\(∀x∈a,Nm x)/\(∀x∈b,Nm x)/\LineOk bs a b l
theorem QhM{l:Ln}{h:MH}(g:GL l):Jf [Qf l] h=some (.str (V9 l),h):=let⟨_,_,_,a,b,c,d⟩:=g;UU a b c d
theorem QiH{l:Ln}{h:MH}(g:GL l):JM [Qf l] h=some (.str (V9 l),h):=let⟨_,_,_,a,b,c,d⟩:=g;QbF a b c d
noncomputable def YU(x:Str):Str:=Str.ofString "part "++x
noncomputable def KO(x:Pt):List Str:=YU x.1::x.2.map V9
noncomputable def Qu(p:List Pt):List Str:=p.flatMap KO
noncomputable def Xy(p:List Pt):Str:=Str.join (sg 10) (Qu p)
theorem szM{n:Nat}(h:n<=100000):n<sizeLine:=Ny h (by decide)
theorem QcJ(l:Ln):unL (Qf l)=l:=by
 show(l.map W.str).map unS=l;rw[N8];exact List.map_id'' (fun _=>rfl) l
structure RP(p:List Pt):Prop where
 nm:∀x∈p,Nm x.1
 ln:∀x∈p,∀l∈x.2,GL l
 sz:(Qu p).length<=5000
theorem UA{m:FM}{ls:List Ln}{i:Nat}{σ:MSt}{h:MH}(d:Qo (Qb i) σ h=some (ls.map Qf,none,h))(e:∃o,QbK [none] σ=[o])(c:∀l∈ls,m [Qf l] h=some (.str (V9 l),h))(j:ls.length<=10000) :
  QC Zq (Qo (Qb i)) [none] (Q2 0) V3 (Qi 1 m (Qa (Qb 0) Qd)) σ h=some (.lst ((ls.map V9).map .str),h):=by
 have z:=Mi.Jw (fin:=Zq) (mi:=Qo (Qb i)) (cp:=[none]) (me:=Qi 1 m (Qa (Qb 0) Qd)) (σ:=σ) (caps:=[]) (h:=h) (items:=ls.map Qf) (fun w=>.str (V9 (unL w))) d e (fun w hw=>by
  obtain⟨l,a,rfl⟩:=NC.mp hw
  simp[c l a,QcJ]) (by rw[Nu];exact Km (by omega))
 rw[z];simp[Zq,QcJ]
theorem UI{p:List Pt}{j:Nat}{x:Pt}(a:p[j]?=some x):Qu (p.take (j+1))=Qu (p.take j)++KO x:=by
 rw[Eh,a];simp[Qu]
theorem KL{p:List Pt}(j:Nat):(Qu (p.take j)).length<=(Qu p).length:=by
 have a:Qu p=Qu (p.take j)++Qu (p.drop j):=by simp only[Qu];rw[<-FU,Dl]
 have:=congrArg List.length a;simp only[Np]at this;omega
theorem Yz{p:List Pt}{h:MH}(g:RP p)(f:((Qu p).map (·.length)).sum+(Qu p).length*1<=16777216):ZK [Qs p] h=some (.str (Xy p),h):=by
 have B:=g.sz
 have a:=Zh (items:=p.map Qz) (b:=Zr [2,3]) (body:=Z1) (fun j n h=>∃d c,n=[some (Qs p),some (.ref 0),d,c]/\h=[.lst ((Qu (p.take j)).map .str)]) (p.map Qz) 0 [some (Qs p),some (.ref 0),none,none] [.lst []] ⟨none,none,rfl,by simp[Qu]⟩ (by
  rintro j w f n h ⟨d,c,rfl,rfl⟩
  rw[Nq]at f;obtain⟨x,s,rfl⟩:=Nf.mp f;rw[NG]at *;have u:=NL s;have t:=UI s;have o:=KL (p:=p) (j+1);rw[t,Np]at o;have hr:(KO x).length=x.2.length+1:=by simp[KO]
  have I:(Qu (p.take j)).length<sizeLine:=szM (by omega);have H:(Qu (p.take j)).length+1+x.2.length<=sizeLine:=Km (by omega);have r:=nm8 (g.nm x u)
  have G:QcL (.str (Str.ofString "part ")) (.str x.1) [.lst ((Qu (p.take j)).map .str)]=some (.str (YU x.1),[.lst ((Qu (p.take j)).map .str)]):=by
   have:(Str.ofString "part ").length+x.1.length<=sizeLine:=Nr (Ls (by decide:(Str.ofString "part ").length<=5) r) (by decide);exact if_pos this
  have F:Qmk (.str x.1) [.lst ((Qu (p.take j)).map .str)]=some (.str x.1,[.lst ((Qu (p.take j)).map .str)]):=by
   have:x.1.length<=sizeLine:=Nr r (by decide);show((if x.1.length<=sizeLine then some x.1 else none).map fun y=>(W.str y,[MO.lst ((Qu (p.take j)).map .str)]))=_;rw[if_pos this];rfl
  have v:=UA (m:=Jf) (ls:=x.2) (i:=3) (σ:=[some (Qs p),some (.ref 0),some (.str x.1),some (.tup (x.2.map Qf))]) (h:=[.lst ((Qu (p.take j)++[YU x.1]).map .str)]) rfl ⟨_,rfl⟩ (fun l C=>QhM (g.ln x u l C)) (by omega);refine⟨[some (Qs p),some (.ref 0),some (.str x.1),some (.tup (x.2.map Qf))],by simp[Zr,Qz,W6],[some (Qs p),some (.ref 0),some (.str x.1),some (.tup (x.2.map Qf))],[.lst ((Qu (p.take (j+1))).map .str)],.inl ?_,_,_,rfl,rfl⟩;rw[t];generalize Qu (p.take j)=A at *;simp at v
  simp[G,F,I,v,H,KO])
 obtain⟨z,L,e,d,c,rfl,rfl⟩:=a;rw[Nu,NG,Em]at e;have ei:Qo (Qb 0) [some (Qs p),some (.ref 0),none,none] [.lst []]=some (p.map Qz,none,[.lst []]):=rfl
 have E:ZY (Qo (Qb 0)) (Zr [2,3]) Z1 [some (Qs p),some (.ref 0),none,none] [.lst []]=some (.nx [some (Qs p),some (.ref 0),d,c] [.lst ((Qu p).map .str)]):=by
  unfold ZY;rw[ei,Nk];exact e
 have D:V7 (.str (Str.ofString "\n")) [.ref 0] [.lst ((Qu p).map .str)]=some (.str (Xy p),[.lst ((Qu p).map .str)]):=by rw[QhJ];exact jR rfl f
 refine Qh (g:=[.lst ((Qu p).map .str)]) (by simp) ?_ rfl;generalize Qu p=A at *;simp[Jm,Qn,E,D]
theorem G0{p:List Pt}{h:MH}(g:RP p):Xi [Qs p] h=some (.lst ((Qu p).map .str),h):=by
 have A:=g.sz
 have a:=Zh (items:=p.map Qz) (b:=Zr [2,3]) (body:=Vl) (fun j f h=>∃d c,f=[some (Qs p),some (.lst ((Qu (p.take j)).map .str)),d,c]/\h=[]) (p.map Qz) 0 [some (Qs p),some (.lst []),none,none] [] ⟨none,none,by simp[Qu],rfl⟩ (by
  rintro j w t f h ⟨d,c,rfl,rfl⟩
  rw[Nq]at t;obtain⟨x,o,rfl⟩:=Nf.mp t;rw[NG]at *;have s:=NL o;have r:=UI o;have n:=KL (p:=p) (j+1);rw[r,Np]at n;have hr:(KO x).length=x.2.length+1:=by simp[KO]
  have F:(Qu (p.take j)).length+1<=sizeLine:=Km (by omega);have E:(Qu (p.take j)).length+1+x.2.length<=sizeLine:=Km (by omega);have z:=nm8 (g.nm x s);have D:(Str.ofString "part ").length+x.1.length<=sizeLine:=Nr (Ls (by decide:(Str.ofString "part ").length<=5) z) (by decide);have u:=UA (m:=JM) (ls:=x.2) (i:=3) (σ:=[some (Qs p),some (.lst ((Qu (p.take j)).map .str)),some (.str x.1),some (.tup (x.2.map Qf))]) (h:=[]) rfl ⟨_,rfl⟩ (fun l B=>QiH (g.ln x s l B)) (by omega);refine⟨[some (Qs p),some (.lst ((Qu (p.take j)).map .str)),some (.str x.1),some (.tup (x.2.map Qf))],by simp[Zr,Qz,W6],[some (Qs p),some (.lst ((Qu (p.take (j+1))).map .str)),some (.str x.1),some (.tup (x.2.map Qf))],[],.inl ?_,_,_,rfl,rfl⟩;rw[r];generalize Qu (p.take j)=y at *;simp at u
  simp[D,F,u,E,KO,YU])
 obtain⟨v,H,e,d,c,rfl,rfl⟩:=a;rw[Nu,NG,Em]at e;have ei:Qo (Qb 0) [some (Qs p),some (.lst []),none,none] []=some (p.map Qz,none,[]):=rfl
 have C:ZY (Qo (Qb 0)) (Zr [2,3]) Vl [some (Qs p),some (.lst []),none,none] []=some (.nx [some (Qs p),some (.lst ((Qu p).map .str)),d,c] []):=by
  unfold ZY;rw[ei,Nk];exact e
 refine Qh (g:=[]) (by simp) ?_ (by simp);generalize Qu p=y at *;simp[VH,Qn,C]
def Pw(y:Str):Prop:=∀c∈y.cps.toList,61<=c/\c<=122
theorem Qlx{x:Str}(h:Nm x):Pw x:=fun c a=>by have:=h.sm c a;omega
noncomputable def pwB(y:Str):Bool:=y.cps.toList.all fun c=>decide (61<=c)&&decide (c<=122)
theorem QlE{y:Str}(h:pwB y=true):Pw y:=fun c a=>by
 have:=NV.mp h c a;simpa using this
theorem Qda{y:Str}{k:Nat}(h:Pw y)(b:k<61):fre k y:=fun a=>by have:=h k a;omega
def Wo(y:Str):Prop:=Pw y/\y.length<=8
theorem YO{x:Str}(h:Nm x):Wo x:=⟨Qlx h,h.hi⟩
theorem YL{y:Str}(h:(pwB y&&decide (y.length<=8))=true):Wo y:=by
 rw[NJ]at h;exact⟨QlE h.1,by simpa using h.2⟩
theorem QiJ{l:Ln}(g:GL l):(∀y∈wl l,Wo y)/\wl l≠[]/\(wl l).length<=6:=by
 obtain⟨bs,n,o,d,hw,h,m⟩:=g;cases m with
 | plain j=>
  cases j with
  |@pair x w y z c i f p=>
   have e:wl ["pair",x,w,y,z]=[x,"=","pair",w,y,z]:=rfl;rw[e];exact⟨by intro a b;simp at b;rcases b with rfl|rfl|rfl|rfl|rfl|rfl<;>first|exact YL (by decide)|exact YO (d _ ‹_›)|exact YO (hw _ ‹_›),by simp,by simp⟩
  |@first x y c f=>
   have e:wl ["first",x,y]=[x,"=","first",y]:=rfl;rw[e];exact⟨by intro a b;simp at b;rcases b with rfl|rfl|rfl|rfl<;>first|exact YL (by decide)|exact YO (d _ ‹_›),by simp,by simp⟩
  |@second x y c f=>
   have e:wl ["second",x,y]=[x,"=","second",y]:=rfl;rw[e];exact⟨by intro a b;simp at b;rcases b with rfl|rfl|rfl|rfl<;>first|exact YL (by decide)|exact YO (d _ ‹_›),by simp,by simp⟩
  |@same x y c f=>
   have e:wl ["same",x,y]=[x,"=",y]:=rfl;rw[e];exact⟨by intro a b;simp at b;rcases b with rfl|rfl|rfl<;>first|exact YL (by decide)|exact YO (d _ ‹_›),by simp,by simp⟩
  |@none x c=>
   have e:wl ["none",x]=[x,"=","none"]:=rfl;rw[e];exact⟨by intro a b;simp at b;rcases b with rfl|rfl|rfl<;>first|exact YL (by decide)|exact YO (d _ ‹_›),by simp,by simp⟩
  |@tell x c=>
   have e:wl ["tell",x]=[("tell":Str),x]:=rfl;rw[e];exact⟨by intro a b;simp at b;rcases b with rfl|rfl<;>first|exact YL (by decide)|exact YO (d _ ‹_›),by simp,by simp⟩
 |@«do» x c=>
  have e:wl ["do",x]=[("do":Str),x]:=rfl;rw[e];exact⟨by intro a b;simp at b;rcases b with rfl|rfl<;>first|exact YL (by decide)|exact YO (h _ ‹_›),by simp,by simp⟩
 |@back x c=>
  have e:wl ["back",x]=[("back":Str),x]:=rfl;rw[e];exact⟨by intro a b;simp at b;rcases b with rfl|rfl<;>first|exact YL (by decide)|exact YO (hw _ ‹_›),by simp,by simp⟩
 |@blk x c=>
  have e:wl [x]=[x]:=rfl;rw[e];exact⟨by intro a b;simp at b;subst b;rcases c with rfl|rfl|rfl|rfl<;>exact YL (by decide),by simp,by simp⟩
theorem XY(c:Nat):∀(zs:List Str),(Str.join (sg c) zs).length<=(zs.map (·.length)).sum+zs.length
 |[]=>N6 _
 |[a]=>by rw[jn1];simp
 |a::b::r=>by
  have:=XY c (b::r);rw[join_cons2,K9,K9,show(sg c).length=1 from rfl];simp only[Nz,O4,NW]at this ⊢;omega
theorem Qc1{k:Nat}{x y:Str}(b:fre k x)(a:fre k y):fre k (x++y):=fun h=>by
 rw[Sp.app_cps]at h;exact(NQ.mp h).elim b a
theorem QkB{k c:Nat}(h:k≠c):fre k (sg c):=fun z=>h (by rw[sgc]at z;exact NH.mp z)
theorem Ua{k c:Nat}(h:k≠c):∀(zs:List Str),(∀y∈zs,fre k y)->fre k (Str.join (sg c) zs)
 |[],_=>fun z=>by cases z
 |[a],hz=>by rw[jn1];exact hz a (by simp)
 |a::b::r,hz=>by
  rw[join_cons2];exact Qc1 (Qc1 (hz a (by simp)) (QkB h)) (Ua h (b::r) fun y d=>hz y (No _ d))
theorem Qcv{zs:List Str}(h:∀y∈zs,Wo y)(b:zs.length<=6):(Str.join (sg 32) zs).length<=54:=by
 have d:=XY 32 zs;have c:=QbU (l:=zs) fun y a=>(h y a).2;omega
theorem G7{c:Nat}{ps:List Str}{h:MH}(d:c<256)(a:ps≠[])(b:∀y∈ps,fre c y)(g:(Str.join (sg c) ps).length<=sizeLine)(f:ps.length<=sizeLine):Vy (.str (Str.join (sg c) ps)) [.str (sg c)] h=some (.lst (ps.map .str),h):=by
 have e:=Qa9 d a b;show(if(sg c).length≠0/\(Str.join (sg c) ps).length<=sizeLine/\(Txt.split (Str.join (sg c) ps) (sg c)).length<=sizeLine then some (W.lst ((Txt.split (Str.join (sg c) ps) (sg c)).map .str),h)else none)=_;rw[e,if_pos ⟨by show(1:Nat)≠0;decide,g,f⟩]
theorem U6{zs:List Str}{h:MH}(hz:∀y∈zs,Wo y)(c:zs≠[])(a:zs.length<=6):Vy (.str (Str.join (sg 32) zs)) [.str (Str.ofString " ")] h=some (.lst (zs.map .str),h):=by
 rw[QkA];exact G7 (by decide) c (fun y b=>Qda (hz y b).1 (by decide)) (Nr (Qcv hz a) (by decide)) (Nr a (by decide))
theorem U4(x:Str):YU x=Str.join (sg 32) ["part",x]:=by
 refine VJ ?_;simp[YU,join_cons2,jn1,Sp.app_cps,sgc,Ws,WG]
theorem Gv{x:Str}(h:Nm x):∀y∈([("part":Str),x]),Wo y:=by
 intro a b;simp at b;rcases b with rfl|rfl
 ·exact YL (by decide)
 ·exact YO h
theorem Qe4{x:Str}{h:MH}(a:Nm x):Jd [.lst [.str "part",.str x]] h=some (.bl true,h):=by
 refine Qh (g:=[]) (by simp) ?_ rfl;simp[QP,Qn,Qds a]
theorem QiZ{l:Ln}{h:MH}(g:GL l):Jd [.lst ((wl l).map .str)] h=some (.bl false,h):=by
 obtain⟨bs,e,f,i,hw,d,c⟩:=g;refine Qh (g:=[]) (by simp) ?_ rfl;cases c with
 |plain b=>cases b<;>simp[QP,Qn,wl,giv]
 |«do» a=>simp[QP,Qn,wl,giv]
 |back a=>simp[QP,Qn,wl,giv]
 |@blk x a=>simp[QP,Qn,wl]
theorem eqT{a b:List Str}{h:MH}:wEq (.tup (a.map .str)) (.tup (b.map .str)) h=some (.bl (decide (a=b)),h):=by
 have d:∀a:List Str,dep (.tup (a.map .str))<=40:=fun a=>by
  have:=J8 (xs:=a);simp[dep];omega
 rw[Ql0 (by simp[pln]) (by simp[pln]) (d a) (d b)]
 have:∀a b:List Str,Kr (a.map .str) (b.map .str)=decide (a=b):=fun a=>by
  induction a with
  |nil=>intro b;cases b<;>simp[Kr]
  | cons x r c=>
   intro b;cases b with
   |nil=>simp[Kr]
   |cons y s=>
    rw[Nz,Nz,Kr,c,D0];simp[eqW]
 rw[show eqW (.tup (a.map .str)) (.tup (b.map .str))=Kr (a.map .str) (b.map .str) by simp[eqW],this]
theorem in3{x:Str}{h:MH}:wIn false (.str x) (.tup [.str "pair",.str "first",.str "second"]) h=some (.bl (decide (x∈[("pair":Str),"first","second"])),h):=(QaQ (g:=false) (x:=x) (l:=["pair","first","second"]) (h:=h)).trans (by simp)
theorem XO{k x y:Str}{r:List Str}{h:MH}(d:k∈[("pair":Str),"first","second"])(hr:r.length<=100):Zv [.str x,.tup (.str k::.str y::r.map .str)] h=some (.tup (.str k::.str x::.str y::r.map .str),h):=by
 refine Qh (g:=[]) (by simp) ?_ (by simp)
 have e:wEq (.tup (.str k::.str y::r.map .str)) (.tup [.str "none"]) []=some (.bl false,[]):=by
  have:=eqT (a:=k::y::r) (b:=[("none":Str)]) (h:=[]);rw[decide_eq_false (by simp)]at this;simpa using this
 have z:2+(r.length+1)<=sizeLine:=Nr (by omega:_<=200) (by decide);have c:=in3 (x:=k) (h:=[]);rw[decide_eq_true d]at c;simp[Zj,Qn,e,c,QoO,z]
theorem GN{x:Str}{h:MH}:Zv [.str x,.tup [.str "none"]] h=some (.tup [.str "none",.str x],h):=by
 refine Qh (g:=[]) (by simp) ?_ (by simp)
 have c:wEq (.tup [.str "none"]) (.tup [.str "none"]) []=some (.bl true,[]):=by
  have:=eqT (a:=[("none":Str)]) (b:=[("none":Str)]) (h:=[]);rw[decide_eq_true rfl]at this;simpa using this
 simp[Zj,Qn,c]
theorem Gq{x y:Str}{h:MH}(d:Nm y):Zv [.str x,.tup [.str y]] h=some (.tup [.str "same",.str x,.str y],h):=by
 refine Qh (g:=[]) (by simp) ?_ (by simp);have f:y≠"none":=fun z=>d.kp (by rw[z];decide);have e:y∉[("pair":Str),"first","second"]:=fun z=>d.kp (by simp at z;rcases z with rfl|rfl|rfl<;>decide)
 have i:wEq (.tup [.str y]) (.tup [.str "none"]) []=some (.bl false,[]):=by
  have:=eqT (a:=[y]) (b:=[("none":Str)]) (h:=[]);rw[decide_eq_false (by simp[f])]at this;simpa using this
 have c:=in3 (x:=y) (h:=[]);rw[decide_eq_false e]at c;simp[Zj,Qn,i,c,sz3]
theorem QeB{l:Ln}{h:MH}(g:GL l):Jo [.lst ((wl l).map .str)] h=some (Qf l,h):=by
 obtain⟨bs,o,p,i,hw,e,f⟩:=g;have lo:=Qf6 (h:=[]) i hw e f;refine Qh (g:=[]) (by simp) ?_ (by simp);cases f with
 | plain m=>
  cases m with
  |@pair x w y z c j d s=>
   have a:=XO (k:="pair") (x:=x) (y:=w) (r:=[y,z]) (h:=[]) (by decide) (by simp);simp[Qf]at lo a;simp[Qj,Qn,wl,giv,Qf,QbM,a,lo]
  |@first x y c d=>
   have a:=XO (k:="first") (x:=x) (y:=y) (r:=[]) (h:=[]) (by decide) (by simp);simp[Qf]at lo a;simp[Qj,Qn,wl,giv,Qf,QbM,a,lo]
  |@second x y c d=>
   have a:=XO (k:="second") (x:=x) (y:=y) (r:=[]) (h:=[]) (by decide) (by simp);simp[Qf]at lo a;simp[Qj,Qn,wl,giv,Qf,QbM,a,lo]
  |@same x y c d=>
   have a:=Gq (x:=x) (h:=[]) (i y d);simp[Qf]at lo a;simp[Qj,Qn,wl,giv,Qf,QbM,a,lo]
  |@none x c=>
   have a:=GN (x:=x) (h:=[]);simp[Qf]at lo a;simp[Qj,Qn,wl,giv,Qf,QbM,a,lo]
  |@tell x c=>
   have b:=Zl (x:="tell") (y:=x) (r:=[]) (h:=[]) rfl;rw[if_neg (by decide)]at b;simp[Qf]at lo;simp[Qj,Qn,wl,giv,Qf,lo,b]
 |@«do» x c=>
  have b:=Zl (x:="do") (y:=x) (r:=[]) (h:=[]) rfl;rw[if_neg (by decide)]at b;simp[Qf]at lo;simp[Qj,Qn,wl,giv,Qf,lo,b]
 |@back x c=>
  have b:=Zl (x:="back") (y:=x) (r:=[]) (h:=[]) rfl;rw[if_neg (by decide)]at b;simp[Qf]at lo;simp[Qj,Qn,wl,giv,Qf,lo,b]
 |@blk x c=>
  have n:x∉giv:=by rcases c with rfl|rfl|rfl|rfl<;>decide
  have b:=Y4 (h:=[]) n;simp[Qf]at lo;simp[Qj,Qn,wl,Qf,lo,b]
noncomputable abbrev Ev:=Str ⊕ Ln
noncomputable def evs(p:List Pt):List Ev:=p.flatMap fun x=>.inl x.1::x.2.map .inr
noncomputable def evR:Ev->Str
 |.inl n=>YU n
 |.inr l=>V9 l
noncomputable def evW:Ev->List Str
 |.inl n=>["part",n]
 |.inr l=>wl l
noncomputable def Qeb(bs:List (List Ln))(l:Ln):List (List Ln):=bs.dropLast++[bs.getLastD []++[l]]
noncomputable def stp(q:List Str×List (List Ln)):Ev->List Str×List (List Ln)
 |.inl n=>(q.1++[n],q.2++[[]])
 |.inr l=>(q.1,Qeb q.2 l)
noncomputable def bld(es:List Ev):List Str×List (List Ln):=es.foldl stp ([],[])
theorem WB(es:List Ev)(e:Ev):bld (es++[e])=stp (bld es) e:=by simp[bld]
theorem UQ(bs:List (List Ln))(b:List Ln)(l:Ln):Qeb (bs++[b]) l=bs++[b++[l]]:=by simp[Qeb]
theorem Qjo:∀(es:List Ev),es≠[]->(bld es).2≠[]:=by
 refine JR (fun h=>absurd rfl h) fun L e a _=>?_;rw[WB];cases e with
 |inl n=>simp[stp]
 |inr l=>simp[stp,Qeb]
theorem Wc:∀(ls:List Ln) (ns:List Str) (bs:List (List Ln)) (b:List Ln),(ls.map (Sum.inr:Ln->Ev)).foldl stp (ns,bs++[b])=(ns,bs++[b++ls])
 |[],ns,bs,b=>by simp
 |l::ls,ns,bs,b=>by
  rw[Nz,DY,show stp (ns,bs++[b]) (.inr l)=(ns,bs++[b++[l]])from by show(ns,Qeb (bs++[b]) l)=_;rw[UQ],Wc ls];simp
theorem QaT:∀(p:List Pt) (ns:List Str) (bs:List (List Ln)),(evs p).foldl stp (ns,bs)=(ns++p.map (·.1),bs++p.map (·.2))
 |[],ns,bs=>by simp[evs]
 |x::p,ns,bs=>by
  have e:evs (x::p)=(.inl x.1::x.2.map .inr)++evs p:=by simp[evs]
  rw[e,Oj,DY,show stp (ns,bs) (.inl x.1)=(ns++[x.1],bs++[[]])from rfl,Wc,QaT p];simp
theorem Qcs(p:List Pt):bld (evs p)=(p.map (·.1),p.map (·.2)):=by
 show(evs p).foldl stp ([],[])=_;rw[QaT];simp
theorem Uc(p:List Pt):(evs p).map evR=Qu p:=by
 unfold evs Qu;rw[List.map_flatMap];congr 1;funext x;simp[KO,evR]
noncomputable def Qk8:Ev->Prop
 |.inl n=>Nm n
 |.inr l=>GL l
theorem QfF{p:List Pt}(g:RP p):∀e∈evs p,Qk8 e:=fun e d=>by
 obtain⟨x,a,b⟩:=IE.mp d
 rcases NB.mp b with rfl|z
 ·exact g.nm x a
 ·obtain⟨l,c,rfl⟩:=NC.mp z;exact g.ln x a l c
theorem QeU{e:Ev}(h:Qk8 e){hh:MH}:Vy (.str (evR e)) [.str (Str.ofString " ")] hh=some (.lst ((evW e).map .str),hh):=by
 cases e with
 |inl n=>
  show Vy (.str (YU n)) _ hh=_;rw[U4];exact U6 (Gv h) (by simp) (by simp)
 |inr l=>
  obtain⟨a,b,c⟩:=QiJ (l:=l) h;exact U6 a b c
theorem Qjk{e:Ev}(h:Qk8 e):fre 10 (evR e)/\(evR e).length<=54:=by
 cases e with
 |inl n=>
  show fre 10 (YU n)/\(YU n).length<=54;rw[U4];exact⟨Ua (by decide) _ fun y d=>Qda (Gv h y d).1 (by decide),Qcv (Gv h) (by simp)⟩
 |inr l=>
  obtain⟨a,b,c⟩:=QiJ (l:=l) h;exact⟨Ua (by decide) _ fun y d=>Qda (a y d).1 (by decide),Qcv a c⟩
theorem QkN:∀(zs:List Str),(∀y∈zs,y.length<=54)->(zs.map (·.length)).sum<=54*zs.length
 |[],_=>by simp
 |x::r,h=>by
  have c:=h x (by simp);have b:=QkN r fun y a=>h y (No _ a);simp;omega
theorem Qav{p:List Pt}(g:RP p):(∀y∈Qu p,fre 10 y/\y.length<=54)/\((Qu p).map (·.length)).sum+(Qu p).length*1<=16777216:=by
 have b:∀y∈Qu p,fre 10 y/\y.length<=54:=fun y a=>by
  rw[<-Uc]at a;obtain⟨e,c,rfl⟩:=NC.mp a;exact Qjk (QfF g e c)
 have d:=QkN (Qu p) fun y a=>(b y a).2;have:=g.sz;exact⟨b,by omega⟩
noncomputable def rH(q:List Str×List (List Ln)):MH:=.lst (q.1.map .str)::.lst ((List.range q.2.length).map fun i=>W.ref (i+2))::q.2.map fun b=>.lst (b.map Qf)
noncomputable abbrev rS(t:Str)(b a x5 x6:Option W):MSt:=[some (.str t),some (.ref 0),some (.ref 1),b,a,x5,x6,none]
theorem Qe1(n:Nat):atI ((List.range (n+1)).map fun i=>W.ref (i+2)) (-1)=some (.ref (n+2)):=by
 unfold atI ixN;rw[if_neg (by decide),if_pos (by simp;omega),Nk,Nq];have e:((-1:Int)+(((List.range (n+1)).map fun i=>W.ref (i+2)).length:Int)).toNat=n:=by simp;omega
 rw[e,EB (by omega)];rfl
theorem Qiq{es:List Ev}{j:Nat}{w:W}(h:(JV ((es.map evR).map .str))[j]?=some w):∃e,es[j]?=some e/\w=.tup [.int j,.str (evR e)]:=by
 unfold JV at h;rw[Nq,DQ,Nq,Nq]at h;cases a:es[j]? with
 |none=>rw[a]at h;simp at h
 |some e=>rw[a]at h;simp at h;exact⟨e,rfl,by rw[<-h]⟩
theorem QdU{t:Str}{q:List Str×List (List Ln)}{e:Ev}(g:Qk8 e)(v:(∃l,e=.inr l)->q.2≠[])(A:q.1.length<=5000)(z:q.2.length<=5000)(y:∀b∈q.2,b.length<=5000){j:Int}{x5 x6:Option W} :
  ∃D,QY (rS t (some (.int j)) (some (.str (evR e))) x5 x6) (rH q)=some (.nx (rS t (some (.int j)) (some (.str (evR e))) (some (.lst ((evW e).map .str))) D) (rH (stp q e))):=by
 obtain⟨a,bs⟩:=q;simp only at A z y v;have c:=fun w=>QeU g (hh:=w);cases e with
 | inl n=>
  have p:=fun h=>Qe4 (x:=n) (h:=h) g;have m:a.length<sizeLine:=Ny A (by decide);have C:bs.length<sizeLine:=Ny z (by decide);refine⟨x6,?_⟩;generalize evR (.inl n)=o at c;simp only[evW,Nz,IC]at c
  have s:rH (stp (a,bs) (.inl n))=.lst (a.map .str++[.str n])::.lst ((List.range bs.length).map (fun i=>W.ref (i+2))++[.ref (bs.length+2)])::(bs.map (fun b=>MO.lst (b.map Qf))++[.lst []]):=by
   simp[rH,stp,IS]
  rw[s];simp[rS,rH,c,p,m,C,tyW,evW]
 | inr l=>
  have p:=fun h=>QiZ (l:=l) (h:=h) g;have E:=fun h=>QeB (l:=l) (h:=h) g;obtain⟨B,b,rfl⟩:∃B b,bs=B++[b]:=⟨bs.dropLast,bs.getLast (v ⟨l,rfl⟩),(Ej _).symm⟩
  have m:b.length<sizeLine:=Ny (y b (by simp)) (by decide);have u:=Qe1 B.length;refine⟨some (Qf l),?_⟩;generalize evR (.inr l)=o at c
  have s:rH (stp (a,B++[b]) (.inr l))=.lst (a.map .str)::.lst ((List.range (B.length+1)).map (fun i=>W.ref (i+2)))::(B.map (fun b=>MO.lst (b.map Qf))++[.lst (b.map Qf++[Qf l])]):=by
   simp[rH,stp,UQ]
  have G:rH (a,B++[b])=.lst (a.map .str)::.lst ((List.range (B.length+1)).map (fun i=>W.ref (i+2)))::(B.map (fun b=>MO.lst (b.map Qf))++[.lst (b.map Qf)]):=by
   simp[rH]
  have d:((List.range (B.length+1)).map (fun i=>W.ref (i+2)))≠[]:=by simp
  rw[s,G];have f:(B.map (fun b=>MO.lst (b.map Qf))).length=B.length:=by simp
  generalize B.map (fun b=>MO.lst (b.map Qf))=BB at f;generalize(List.range (B.length+1)).map (fun i=>W.ref (i+2))=H at u d;rw[<-f]at u;have r:YZ (Qf l)=false:=rfl;have F:(evW (.inr l))=wl l:=rfl;rw[F]at c ⊢;have gt:(BB++[MO.lst (b.map Qf)])[BB.length]?=some (.lst (b.map Qf)):=by simp
  have st:(BB++[MO.lst (b.map Qf)]).set BB.length (.lst (b.map Qf++[Qf l]))=BB++[.lst (b.map Qf++[Qf l])]:=by simp
  simp[rS,c,p,E,r,Qf2,d,u,gt,st,m,tyW]
theorem GI{j:Type}{fin:List W->MH->Option (W×MH)}{items:List W}{src:Option Src}{me:ME}{b:MG}{mt:MT}{h:MH}(e:j->W)(d:live src items h)(P:MSt->Prop)(g:j->Bool)(f:j->W):∀(xs:List j) (a:List W) (i:MSt),P i->(∀x∈xs,∀i,P i->∃c,b (e x) i h=some c/\P c/\mt c h=some (g x,h)/\(g x=true->me c h=some (f x,h)))->a.length+xs.length<=sizeLine->JN fin items src b mt me (xs.map e) a i h=fin (a++(xs.filter g).map f) h
 |[],a,i,_,_,_=>by rw[IC];unfold JN;rw[if_pos d];simp
 | x::xs,a,i,p,m,s=>by
  have r:a.length+(xs.length+1)<=sizeLine:=by simpa using s
  obtain⟨c,v,o,u,t⟩:=m x Nx i p;rw[Nz];unfold JN;rw[if_pos d,v,Nk,u,Nk];cases n:g x with
  |true=>
   simp only[t n,Nk];rw[if_pos (by lia),GI e d P g f xs (a++[f x]) c o (fun y l=>m y (No _ l)) (by simp;lia)];simp[n]
  |false=>
   simp only;rw[GI e d P g f xs a c o (fun y l=>m y (No _ l)) (by lia)];simp[n]
theorem Qi4{d:Type}{fin:List W->MH->Option (W×MH)}{mi:MI}{cp:List (Option Nat)}{src:Option Src}{b:MG}{mt:MT}{me:ME}{σ:MSt}{h:MH}{xs:List d}(c:d->W)(P:MSt->Prop)(g:d->Bool)(f:d->W)(m:mi σ h=some (xs.map c,src,h))(e:live src (xs.map c) h)(n:P (QbK cp σ))(j:∀x∈xs,∀i,P i->∃a,b (c x) i h=some a/\P a/\mt a h=some (g x,h)/\(g x=true->me a h=some (f x,h)))(l:xs.length<=sizeLine):QC fin mi cp b mt me σ h=fin ((xs.filter g).map f) h:=by
 unfold QC;rw[m,Nk,GI c e P g f xs [] _ n j (by simpa using l)];simp
theorem QfW:∀(es:List Ev),(bld es).1.length<=es.length/\(bld es).2.length<=es.length/\∀b∈(bld es).2,b.length<=es.length:=by
 refine JR ⟨by simp[bld],by simp[bld],by simp[bld]⟩ fun L e f=>?_;obtain⟨j,i,d⟩:=f;rw[WB,Np,NK];cases e with
 |inl n=>
  refine⟨by show((bld L).1++[n]).length<=_;simp;omega,by show((bld L).2++[[]]).length<=_;simp;omega,fun b c=>?_⟩
  rcases NQ.mp c with z|z
  ·have:=d b z;omega
  ·rw[NH.mp z];simp
 | inr l=>
  refine⟨by show(bld L).1.length<=_;omega,?_,fun b c=>?_⟩
  ·show(Qeb (bld L).2 l).length<=_;simp[Qeb];omega
  ·rcases NQ.mp c with z|z
   ·have:=d b ((List.dropLast_sublist _).subset z);omega
   ·rw [NH.mp z,Np,NK]
    have:((bld L).2.getLastD []).length<=L.length:=by
     cases h:(bld L).2 with
     |nil=>simp
     | cons x r=>
      rw[F7]
      have g:(r.getLastD x)∈(bld L).2:=by
       rw[h];cases r with
       |nil=>simp
       |cons y r=>rw[F7];exact No _ (by rw[<-F7 (a:=x),List.getLastD_eq_getLast?,List.getLast?_eq_getLast (by simp)];exact List.getLast_mem _)
      exact d _ g
    omega
theorem Uv(Q:List Pt):Qgp ((Q.map (·.1)).map .str) ((List.range Q.length).map fun i=>W.ref (i+2))=(List.range Q.length).map fun i=>match Q[i]? with|some x=>W.tup [.str x.1,.ref (i+2)]|none=>.non:=by
 unfold Qgp;apply Dn;intro i;rw[Nq,Nq]
 by_cases h:i<Q.length
 ·rw[EB h]
  have e:(((Q.map (·.1)).map W.str).zip ((List.range Q.length).map fun i=>W.ref (i+2)))[i]?=some (.str Q[i].1,.ref (i+2)):=by
   rw[Ds];simp[h]
  rw[e];simp[h]
 ·have b:(((Q.map (·.1)).map W.str).zip ((List.range Q.length).map fun i=>W.ref (i+2)))[i]?=none:=N5 (by simp;omega);have a:(List.range Q.length)[i]?=none:=N5 (by simp;omega);rw[b,a];rfl
theorem Qig{Q:List Pt}{h:MH}(g:RP Q)(A:Q≠[])(hp:∀h,Q6 [Qs Q] h=some (.bl true,h)):JH [.str (Xy Q)] h=some (Qs Q,h):=by
 obtain⟨f1,f2⟩:=Qav g;have J:=g.sz;have O:(evs Q).length=(Qu Q).length:=by rw[<-Uc];simp
 have L:Qu Q≠[]:=by
  obtain⟨x,r,rfl⟩:∃x r,Q=x::r:=by cases Q with
   |nil=>exact absurd rfl A
   |cons a b=>exact⟨a,b,rfl⟩
  simp[Qu,KO]
 have first:∀e,(evs Q)[0]?=some e->∃n,e=.inl n:=fun e f=>by
  cases Q with
  |nil=>exact absurd rfl A
  |cons x r=>simp[evs]at f;exact⟨x.1,f.symm⟩
 have u:=Zh (items:=JV ((Qu Q).map .str)) (b:=Zr [3,4]) (body:=QY) (fun j G h=>∃o m d c,G=rS (Xy Q) o m d c/\h=rH (bld ((evs Q).take j))) (JV ((Qu Q).map .str)) 0 (rS (Xy Q) none none none none) [.lst [],.lst []] ⟨none,none,none,none,rfl,rfl⟩ (by
  rintro j w U G h ⟨o,m,d,c,rfl,rfl⟩
  rw[<-Uc]at U;obtain⟨e,f,rfl⟩:=Qiq U;rw[NG]at *;have ht:(evs Q).take (j+1)=(evs Q).take j++[e]:=by rw[Eh,f];rfl
  have B:=(Ng.mp f).1;obtain⟨l1,l2,Z⟩:=QfW ((evs Q).take j);rw[ED]at l1 l2
  obtain⟨y6,e1⟩:=QdU (t:=Xy Q) (q:=bld ((evs Q).take j)) (QfF g e (NL f)) (fun⟨l,T⟩=>Qjo _ fun z=>by
   have M:j=0:=by
    rcases List.take_eq_nil_iff.mp z with q|q
    ·exact q
    ·rw[q]at B;simp at B
   subst M;obtain⟨n,hn⟩:=first e f
   rw[hn]at T;cases T) (by omega) (by omega) (fun b hb=>by have:=Z b hb;rw[ED]at this;omega) (j:=(j:Int)) (x5:=d) (x6:=c)
  refine⟨rS (Xy Q) (some (.int j)) (some (.str (evR e))) d c,by simp[Zr,W6],_,_,.inl e1,_,_,_,_,rfl,by rw[ht,WB]⟩)
 obtain⟨X,h',e,o,m,d,c,rfl,rfl⟩:=u;have D:0+(JV ((Qu Q).map .str)).length=(evs Q).length:=by rw[O];simp[JV]
 rw[D,Em,Qcs]at e
 have R:∀p,Vy (.str (Xy Q)) [.str (Str.ofString "\n")] p=some (.lst ((Qu Q).map .str),p):=fun p=>by
  rw[QhJ];exact G7 (by decide) L (fun y hy=>(f1 y hy).1) (by have:=XY 10 (Qu Q);exact Nr (by omega:_<=16777216) (by decide)) (Nr J (by decide))
 have ei:Ks (Qa (mMt "str" Vy (Qb 0) (Qa (mC (.str "\n")) Qd)) Qd) (rS (Xy Q) none none none none) [.lst [],.lst []]=some (JV ((Qu Q).map .str),none,[.lst [],.lst []]):=by
  have:Qa (mMt "str" Vy (Qb 0) (Qa (mC (.str "\n")) Qd)) Qd (rS (Xy Q) none none none none) [.lst [],.lst []]=some ([.lst ((Qu Q).map .str)],[.lst [],.lst []]):=by
   simp[rS,R,tyW]
  unfold Ks;rw[this];rfl
 have F:ZY (Ks (Qa (mMt "str" Vy (Qb 0) (Qa (mC (.str "\n")) Qd)) Qd)) (Zr [3,4]) QY (rS (Xy Q) none none none none) [.lst [],.lst []]=some (.nx (rS (Xy Q) o m d c) (rH (Q.map (·.1),Q.map (·.2)))):=by
  unfold ZY;rw[ei,Nk];exact e
 have P:Q.length<=5000:=by
  have:=QfW (evs Q);rw[Qcs]at this;simp at this;omega
 have eh:rH (Q.map (·.1),Q.map (·.2))=.lst ((Q.map (·.1)).map .str)::.lst ((List.range Q.length).map fun i=>W.ref (i+2))::(Q.map (·.2)).map (fun b=>MO.lst (b.map Qf)):=by simp[rH]
 have E:QC Zq (Qd2 (Qa (Qb 1) (Qa (Qb 2) Qd))) [none,none] (Zr [0,1]) V3 (mFn Jp (Qa (Qb 0) (Qa (mFn ZZ (Qa (Qb 1) Qd)) Qd))) (rS (Xy Q) o m d c) (rH (Q.map (·.1),Q.map (·.2)))=some (.lst (Q.map Qz),rH (Q.map (·.1),Q.map (·.2))):=by
  rw[eh]
  have:=Qi4 (fin:=Zq) (mi:=Qd2 (Qa (Qb 1) (Qa (Qb 2) Qd))) (cp:=[none,none]) (src:=some (.z 0 1 ((Q.map (·.1)).map W.str).length ((List.range Q.length).map fun i=>W.ref (i+2)).length)) (b:=Zr [0,1]) (mt:=V3) (me:=mFn Jp (Qa (Qb 0) (Qa (mFn ZZ (Qa (Qb 1) Qd)) Qd))) (σ:=rS (Xy Q) o m d c) (h:=.lst ((Q.map (·.1)).map .str)::.lst ((List.range Q.length).map fun i=>W.ref (i+2))::(Q.map (·.2)).map (fun b=>MO.lst (b.map Qf))) (xs:=List.range Q.length) (fun i=>match Q[i]? with|some x=>W.tup [.str x.1,.ref (i+2)]|none=>.non) (fun S=>∃a b,S=[a,b]) (fun _=>true) (fun i=>match Q[i]? with|some x=>Qz x|none=>.non)
   (by rw[<-Uv];rfl) (fun s hs=>by
    cases hs;refine⟨_,_,rfl,rfl,?_,rfl,rfl⟩;exact Uv Q) ⟨none,none,rfl⟩ (fun i C S H=>by
    obtain⟨a,b,rfl⟩:=H;have N:=NY.mp C;have I:Q[i]?=some Q[i]:=Ni N;generalize Q[i]=x at I;simp only[I];have p:((Q.map (·.2)).map (fun b=>MO.lst (b.map Qf)))[i]?=some (.lst (x.2.map Qf)):=by rw[Nq,Nq,I];rfl
    refine⟨[some (.str x.1),some (.ref (i+2))],by simp[Zr,W6],⟨_,_,rfl⟩,rfl,fun _=>?_⟩;simp only[N8]at p
    simp[p,Qz]) (by rw[Dq];exact Nr P (by decide))
  rw[this];show some (W.lst (((List.range Q.length).filter fun _=>true).map _),_)=_;rw[LP.mpr (fun _ _=>rfl)];congr 3;apply Dn;intro i;rw[Nq,Nq]
  by_cases C:i<Q.length
  ·rw[EB C,Ni C];simp[C]
  ·rw[N5 (by simp;omega),N5 (by omega)];rfl
 refine Qh (g:=rH (Q.map (·.1),Q.map (·.2))) (by simp) ?_ (by simp);have v:∀h,Q6 [.tup (Q.map Qz)] h=some (.bl true,h):=hp;have eP:Qs Q=.tup (Q.map Qz):=rfl;rw[eP];unfold Jl;generalize ZY (Ks (Qa (mMt "str" Vy (Qb 0) (Qa (mC (.str "\n")) Qd)) Qd)) (Zr [3,4]) QY=fo at F;generalize QC Zq (Qd2 (Qa (Qb 1) (Qa (Qb 2) Qd))) [none,none] (Zr [0,1]) V3 (mFn Jp (Qa (Qb 0) (Qa (mFn ZZ (Qa (Qb 1) Qd)) Qd)))=co at E;generalize rH (Q.map (·.1),Q.map (·.2))=HH at E F;generalize Q.map Qz=QQ at E v;simp[rS]at F E;simp[Qn,F,E,v]
noncomputable abbrev scr(ns:List Int):W:=.frz (ns.map W.int)
theorem K7{n j:Nat}{w:W}(h:(QN 0 n)[j]?=some w):j<n/\w=.int j:=by
 obtain⟨a,b⟩:=QcV h;exact⟨a,by rw[b];simp⟩
theorem szN{n:Nat}(h:n<=100000):n<sizeLine:=Ny h (by decide)
theorem QaH{items:List W}{src:Option Src}{b:MG}{body:SM}(P:Nat->MSt->MH->Prop)(f:∀n σ h,P n σ h->live src items h):∀(r:List W) (n:Nat) (σ:MSt) (h:MH),P n σ h ->
  (∀(j:Nat) (w:W),r[j]?=some w->∀σ h,P (n+j) σ h->∃c,b w σ h=some c/\∃a g,(body c h=some (.nx a g)\/body c h=some (.ct a g))/\P (n+j+1) a g) ->
  ∃d h',X6 items src b body r σ h=some (.nx d h')/\P (n+r.length) d h'
 |[],n,σ,h,e,_=>⟨σ,h,by rw[X6,if_pos (f _ _ _ e)],e⟩
 | w::r,n,σ,h,e,l=>by
  obtain⟨c,t,a,g,i,o⟩:=l 0 w rfl σ h e
  obtain⟨d,h',s,m⟩:=QaH (items:=items) (src:=src) (b:=b) (body:=body) P f r (n+1) a g o fun j x p σ h e=>by
   have:=l (j+1) x (by simpa using p) σ h (by rw[show n+(j+1)=n+1+j by lia];exact e);rw[show n+(j+1)+1=n+1+j+1 by exact D8 _ _ _]at this;exact this
  refine⟨d,h',?_,by rw[NW,show n+(r.length+1)=n+1+r.length by lia];exact m⟩;rw[X6,if_pos (f _ _ _ e),t,Nk]
  rcases i with i|i<;>rw[i]<;>exact s
noncomputable def Qk7(cell k:Int):Int:=
 ((cell+7919*k*k+1)*1357913579135791357%2305843009213693951*((cell+7919*k*k+1)*1357913579135791357%2305843009213693951)+48271*((cell+7919*k*k+1)*1357913579135791357%2305843009213693951)+104729*k)%2305843009213693951
theorem WF(ns:List Int)(k:Nat)(p:k<=1000):∃c:Int,0<=c/\∀h:MH,Qp [scr ns,.int k] h=some (.int c,h):=by
 have d:(-18446744073709551616:Int)<k:=by lia
 have b:(k:Int)<18446744073709551616:=by lia
 have a:∀x:Int,0<=x%2305843009213693951:=fun x=>NR _ (by decide);have f:∀x:Int,-18446744073709551616<x%2305843009213693951:=fun x=>by have:=a x;lia
 have e:∀x:Int,x%2305843009213693951<18446744073709551616:=fun x=>by have:=NI x (show(0:Int)<2305843009213693951 by decide);lia
 by_cases j:0<ns.length
 ·obtain⟨x,l,m⟩:=QjO (xs:=ns.map W.int) (i:=(k:Int)%(ns.length:Nat)) (NR _ (by lia)) (by rw[Nu];exact NI _ (by lia));obtain⟨n,_,rfl⟩:=NC.mp l;refine⟨Qk7 n k,a _,fun h=>Qh (by simp[scr]) (g:=[]) ?_ (by simp)⟩;simp[Z9,Qn,scr,j,m,d,b,f,e,Qk7]
 ·refine⟨Qk7 0 k,a _,fun h=>Qh (by simp[scr]) (g:=[]) ?_ (by simp)⟩;simp[Z9,Qn,scr,j,d,b,f,e,Qk7]
theorem Qew{n:Int}(J:0<=n){bs ws:List Str}(c:0<bs.length)(hw:0<ws.length)(G:bs.length<=5)(F:ws.length<=5):∃l:Ln,PlainL bs ws l/\∀h:MH,J3 [.int n,Ze bs,Ze ws] h=some (Qf l,h):=by
 have a:(0:Int)<bs.length:=by lia
 have b:(0:Int)<ws.length:=by lia
 obtain⟨x,m,f⟩:=Qbz (xs:=bs) (i:=n/16%(bs.length:Nat)) (NR _ (Fe a)) (NI _ a);obtain⟨y,j,e⟩:=Qbz (xs:=bs) (i:=n/160%(bs.length:Nat)) (NR _ (Fe a)) (NI _ a);obtain⟨z,D,d⟩:=Qbz (xs:=bs) (i:=n/1600%(bs.length:Nat)) (NR _ (Fe a)) (NI _ a);obtain⟨w,s,E⟩:=Qbz (xs:=ws) (i:=n/16000%(ws.length:Nat)) (NR _ (Fe b)) (NI _ b);obtain⟨r,t⟩:∃r:Int,r=if 9<n%16 then n/64%10 else n%16:=⟨_,rfl⟩
 have go:∀l:Ln,PlainL bs ws l->(∀h,Ql [.int n,Ze bs,Ze ws] h=some (Qf l,h))->∃l:Ln,PlainL bs ws l/\∀h:MH,J3 [.int n,Ze bs,Ze ws] h=some (Qf l,h):=fun l I H=>⟨l,I,fun h=>Qh (by simp) (g:=[]) (H []) (by simp)⟩
 by_cases o:9<n%16
 ·rw [if_pos o]at t
  by_cases p:n/64%10<3
  ·exact go ["pair",x,w,y,z] (.pair m s j D) fun h=>by simp[Ql,Qn,a,b,c,hw,f,e,d,E,o,p,Qf]
  ·by_cases B:n/64%10<5
   ·exact go ["first",x,y] (.first m j) fun h=>by simp[Ql,Qn,a,b,c,hw,f,e,d,o,p,B,Qf]
   ·by_cases A:n/64%10=5
    ·exact go ["second",x,y] (.second m j) fun h=>by simp[Ql,Qn,a,b,c,hw,f,e,d,o,A,Qf]
    ·by_cases v:n/64%10=6
     ·exact go ["same",x,y] (.same m j) fun h=>by simp[Ql,Qn,a,b,c,hw,f,e,d,o,v,Qf]
     ·by_cases u:n/64%10=7
      ·exact go ["none",x] (.none m) fun h=>by simp[Ql,Qn,a,b,c,hw,f,e,d,o,u,Qf]
      ·exact go ["tell",y] (.tell j) fun h=>by simp[Ql,Qn,a,b,c,hw,f,e,d,o,p,B,A,v,u,Qf]
 ·by_cases p:n%16<3
  ·exact go ["pair",x,w,y,z] (.pair m s j D) fun h=>by simp[Ql,Qn,a,b,c,hw,f,e,d,E,o,p,Qf]
  ·by_cases B:n%16<5
   ·exact go ["first",x,y] (.first m j) fun h=>by simp[Ql,Qn,a,b,c,hw,f,e,d,o,p,B,Qf]
   ·by_cases A:n%16=5
    ·exact go ["second",x,y] (.second m j) fun h=>by simp[Ql,Qn,a,b,c,hw,f,e,d,A,Qf]
    ·by_cases v:n%16=6
     ·exact go ["same",x,y] (.same m j) fun h=>by simp[Ql,Qn,a,b,c,hw,f,e,d,v,Qf]
     ·by_cases u:n%16=7
      ·exact go ["none",x] (.none m) fun h=>by simp[Ql,Qn,a,b,c,hw,f,e,d,u,Qf]
      ·exact go ["tell",y] (.tell j) fun h=>by simp[Ql,Qn,a,b,c,hw,f,e,d,o,p,B,A,v,u,Qf]
theorem Qau{h:MH}{n:Nat}{o:MO}(e:h[n]?=some o):h.set n o=h:=by
 apply Dn;intro i
 by_cases c:n=i
 ·subst c;rw[Ez (Ng.mp e).1,e]
 ·rw[Dr c]
theorem Qcf:∀{ws:List W},Z4 ws=true->∀{k:Nat},KR k ws=some (ws,[])
 |[],_,k=>rfl
 |a::r,b,k=>by
  unfold Z4 at b;rw[NJ]at b;have:=Qcf b.2 (k:=k);cases a<;>first|(unfold pur at b;cases b.1;done)|(unfold KR;rw[if_pos b.1,this];rfl)
theorem Qfn{m:FM}{ws vs:List W}{j:Nat}{g h:MH}(c:Z4 ws=true)(e:m ws []=some (.ref j,g))(d:g[j]?=some (.lst vs))(b:Z4 vs=true):box frN m ws h=some (.lst vs,h):=by
 have hr:KR 0 ws=some (ws,[]):=Qcf c
 have:=QbV (m:=m) (args:=ws) (as:=ws) (ns:=[]) (os:=[]) (os':=[]) (g:=g) (h:=h) (w:=.ref j) (w':=.lst vs) hr (by simp) rfl e rfl (by simp) (by
  unfold th res
  simp[W4,d,VV _ vs b])
 simpa[QX]using this
noncomputable def Vp:List Str:=["pairs","o","seconda","nones","en","backs","eithera","ors","dos","ends","agains","parts","firs"]
noncomputable def Vq:List Str:=["same","tells","firsts"]
noncomputable def abc:Str:="abcdefghijklmnopqrstuvwxyz"
theorem QgL:abc.length=26:=by decide +kernel
theorem QdR{i:Int}(b:0<=i)(a:i<26)(h:MH):wIx (.str abc) (.int i) h=some (.str ⟨#[97+i.toNat]⟩,h):=by
 have e:abc.cps.toList=(List.range 26).map (97+·):=by decide +kernel
 refine QgS (by rw[QgL];decide) ?_;obtain⟨n,rfl⟩:∃n:Nat,i=n:=⟨i.toNat,by exact(Dz ‹_›).symm⟩
 rw[Zb,e,Nq,EB (by lia)];rfl
theorem QhU:(Vp++Vq).Nodup:=by
 unfold Vp Vq;simp
theorem JK{a:Type}{m:Nat}{f:Nat->a}(d:∀i j,i<m->j<m->f i=f j->i=j):((List.range m).map f).Nodup:=by
 unfold List.Nodup;rw[Ip];refine ID ?_ Lc;intro i j c b lt e;have:=d i j (NY.mp c) (NY.mp b) e;exact Dv (NA this.symm) lt
noncomputable abbrev gS(n:Int)(m:Nat)(x5 x6 x7 x8 x9 a:Option W):MSt:=[some (.int n),some (.int m),some (.str abc),some (.lst ((Vp++Vq).map .str)),some (.tup (keptN.map .str)),x5,x6,x7,x8,x9,a]
theorem Kx{fin:List W->MH->Option (W×MH)}{ms:MA}{cp:List (Option Nat)}{me:ME}{σ caps:MSt}{h:MH}{m:Nat}(f:Nat->Str)(ei:ms σ h=some ([.int (m:Int)],h))(d:∃o,QbK cp σ=o::caps)(a:m<=1000)(c:∀k,k<m->me (some (.int (k:Int))::caps) h=some (.str (f k),h)) :
  QC Zq (Xx ms) cp (Q2 0) V3 me σ h=some (Ze ((List.range m).map f),h):=by
 let g:W->W:=fun w=>match w with|.int i=>.str (f i.toNat)|w=>w
 have:=Jw (fin:=Zq) (mi:=Xx ms) (cp:=cp) (me:=me) (σ:=σ) (h:=h) (items:=QN 0 m) g (XZ ei (Ny a (by decide))) d (by
  intro w hw;unfold QN at hw;obtain⟨k,b,rfl⟩:=NC.mp hw;rw[NY]at b;have:=c k b
  simpa[g]using this) (by rw[JL];exact NE (szN (NE (Ny a (by decide)))))
 rw[this];show some (W.lst ((QN 0 m).map g),h)=_;unfold Ze QN;rw[N8,N8];congr 3;apply DA;intro k _;simp[g]
theorem Qmu{a b:List W}{h:MH}:Q1 (.lst a) (.lst b) h=if a.length+b.length<=sizeLine then some (.lst (a++b),h)else none:=id rfl
theorem Yy{n:Int}{m:Nat}{f:SM}:Qk (QW 2 (mC (.str "abcdefghijklmnopqrstuvwxyz"))) (Qk (QW 3 (mFn X4 (Qa (mC (.str "pairs")) (Qa (mC (.str "o")) (Qa (mC (.str "seconda")) (Qa (mC (.str "nones")) (Qa (mC (.str "en")) (Qa (mC (.str "backs")) (Qa (mC (.str "eithera")) (Qa (mC (.str "ors")) (Qa (mC (.str "dos")) (Qa (mC (.str "ends")) (Qa (mC (.str "agains")) (Qa (mC (.str "parts")) (Qa (mC (.str "firs")) Qd)))))))))))))))
  (Qk (QW 3 (Qc Q1 (Qb 3) (mFn X4 (Qa (mC (.str "same")) (Qa (mC (.str "tells")) (Qa (mC (.str "firsts")) Qd))))))
  (Qk (QW 4 (mFn Jp (Qa (mC (.str "pair")) (Qa (mC (.str "first")) (Qa (mC (.str "second")) (Qa (mC (.str "none")) (Qa (mC (.str "tell")) (Qa (mC (.str "back")) (Qa (mC (.str "either")) (Qa (mC (.str "or")) (Qa (mC (.str "again")) (Qa (mC (.str "end")) (Qa (mC (.str "do")) (Qa (mC (.str "part")) Qd)))))))))))))) f)))
  [some (.int n),some (.int m),none,none,none,none,none,none,none,none,none] []=f (gS n m none none none none none none) []:=by
 have b:13<=sizeLine:=by decide
 have c:12<=sizeLine:=by decide
 have a:16<=sizeLine:=by decide
 simp[gS,b,c,a,Vp,Vq,keptN,abc,Qmu]
noncomputable def nmX(b a:Str)(q:Int)(k:Nat):Str:=b++(⟨#[97+((q+3*(k:Int))%26).toNat]⟩:Str)++a
noncomputable def nm(b a:Str)(q:Int)(k:Nat):Str:=if nmX b a q k∈keptN then nmX b a q k++"s"else nmX b a q k
theorem VL(x y:Str):(x++y).cps.toList=x.cps.toList++y.cps.toList:=by
 show(x.cps++y.cps).toList=_;simp
theorem QhE{x y:Str}(h:x.cps.toList=y.cps.toList):x=y:=Sp.ext h
theorem Qc4{b a:Str}{q:Int}{i j:Nat}(d:i<5)(c:j<5)(e:nmX b a q i=nmX b a q j):i=j:=by
 have:=congrArg (fun s:Str=>s.cps.toList) e;unfold nmX at this;simp only[VL,Fm,List.append_cancel_left_eq]at this;simp at this;have g:0<=(q+3*(i:Int))%26:=NR _ (by decide);have f:0<=(q+3*(j:Int))%26:=NR _ (by decide);lia
theorem Qkv{b a:Str}{q:Int}{i j:Nat}(g:i<5)(f:j<5)(e:nm b a q i=nm b a q j):i=j:=by
 have c:∀k,(nmX b a q k).cps.toList.length=b.cps.toList.length+1+a.cps.toList.length:=fun k=>by
  unfold nmX;rw[VL,VL,Np,Np];rfl
 have d:∀k,(nmX b a q k++("s":Str)).cps.toList.length=b.cps.toList.length+1+a.cps.toList.length+1:=fun k=>by
  rw[VL,Np,c];rfl
 have h:=congrArg (fun s:Str=>s.cps.toList.length) e;unfold nm at e h;split at e<;>split at e
 ·have:=congrArg (fun s:Str=>s.cps.toList) e;simp only[VL,List.append_cancel_right_eq]at this;exact Qc4 g f (QhE this)
 ·have:=congrArg (fun s:Str=>s.cps.toList.length) e;simp only[d,c]at this;lia
 ·have:=congrArg (fun s:Str=>s.cps.toList.length) e;simp only[d,c]at this;lia
 ·exact Qc4 g f e
theorem QgK{x:Str}{h:MH}:wIn false (.str x) (.tup (keptN.map .str)) h=some (.bl (decide (x∈keptN)),h):=by
 rw[Qho rfl J7 (by simp[dep]) (Nr J8 (by decide))]
 have:inW (.str x) (keptN.map .str)=decide (x∈keptN):=by
  generalize keptN=L
  induction L with
  |nil=>rfl
  | cons y L b=>
   unfold inW at b ⊢;rw[Nz,EF,b,D0];simp only[eqW,EH,beq_iff_eq,decide_eq_true_eq,NB];constructor
   ·rintro(a|a)
    ·exact .inl a.symm
    ·exact .inr a
   ·rintro(a|a)
    ·exact .inl a.symm
    ·exact .inr a
 rw[this];rfl
noncomputable def nmB(x:Str):Bool:=decide (1<=x.length)&&(decide (x.length<=8)&&(x.cps.toList.all (fun c=>decide (97<=c)&&decide (c<=122))&&!(keptN.contains x)))
theorem QhN{x:Str}(h:nmB x=true):Nm x:=by
 unfold nmB at h;simp only[NJ,decide_eq_true_eq,NV,Om,List.contains_eq_mem,decide_eq_false_iff_not]at h;exact⟨h.1,h.2.1,h.2.2.1,h.2.2.2⟩
theorem Qgu:∀x∈Vp++Vq,Nm x:=fun x a=>QhN ((by decide +kernel:∀x∈Vp++Vq,nmB x=true) x a)
theorem Qkc:∀x∈keptN,Nm (x++"s"):=fun x a=>QhN ((by decide +kernel:∀x∈keptN,nmB (x++"s")=true) x a)
theorem Qfi:Nm "spare":=QhN (by decide +kernel)
theorem QeM:∀x∈keptN,(x.cps.toList.all fun c=>c==x.cps.toList.headD 0)=false:=by decide +kernel
theorem Qky{x:Str}{c n:Nat}(e:x.cps.toList=List.replicate n c)(h:1<=n)(g:n<=8)(f:97<=c)(b:c<=122):Nm x:=by
 refine⟨by rw[XX,e];simpa using h,by rw[XX,e];simpa using g,fun d hd=>by rw[e]at hd;rw[List.eq_of_mem_replicate hd];exact⟨f,b⟩,fun a=>?_⟩;have:=QeM x a;rw[e]at this;obtain⟨m,rfl⟩:∃m,n=m+1:=⟨n-1,by omega⟩
 rw[N9]at this;simp at this
theorem QfZ:∀(zs:List Str),(Str.join "" zs).cps.toList=(zs.map (·.cps.toList)).flatten
 |[]=>rfl
 |[a]=>by show a.cps.toList=_;simp
 |a::b::r=>by
  rw[Sp.join_cons2,VL,VL,QfZ (b::r)];show _++[]++_=_;simp
theorem Qjq{b a:Str}{q:Int}{k:Nat}(d:∀c∈b.cps.toList++a.cps.toList,97<=c/\c<=122)(g:b.cps.toList.length+a.cps.toList.length<=7):Nm (nm b a q k):=by
 unfold nm;split
 ·rename_i h;exact Qkc _ h
 ·rename_i h;have e:(nmX b a q k).cps.toList=b.cps.toList++[97+((q+3*(k:Int))%26).toNat]++a.cps.toList:=by unfold nmX;rw[VL,VL]
  refine⟨by rw[XX,e];simp only[Np,NK];omega,by rw[XX,e];simp only[Np,NK];omega,fun c f=>?_,h⟩;rw[e]at f;simp at f d
  rcases f with z|z|z
  ·exact d c (.inl z)
  ·have j:0<=(q+3*(k:Int))%26:=NR _ (by decide);have i:(q+3*(k:Int))%26<26:=NI _ (by decide);omega
  ·exact d c (.inr z)
noncomputable def XT(n:Int)(sz:Nat):Str:=Txt.join "" ((List.range sz).map fun(k:Nat)=>(⟨#[97+((n/360+5*(k:Int)*k)%26).toNat]⟩:Str))
theorem Ge(n:Int)(sz:Nat):(XT n sz).cps.toList=(List.range sz).map fun(k:Nat)=>97+((n/360+5*(k:Int)*k)%26).toNat:=by
 unfold XT;rw[show∀b,Txt.join ("":Str) b=Str.join "" b from fun b=>E1 (join_plain_closes _ _),QfZ,N8]
 induction List.range sz with
 |nil=>rfl
 |cons a l c=>simp at c ⊢;exact c
theorem Yp(n:Int)(sz:Nat):(XT n sz).length=sz:=by rw[XX,Ge];simp
theorem Qd5{n:Int}{sz:Nat}{a:Int}(d:0<=a)(l:a<=sz) :
  (Txt.slice (XT n sz) none (some a)).cps.toList++(Txt.slice (XT n sz) (some a) none).cps.toList=(XT n sz).cps.toList:=by
 have e:=Yp n sz;have c:=XX (XT n sz);have h:=E1 (slice_closes_to (x:=XT n sz) (j:=a) ⟨d,by omega⟩);have g:=slice_from_eq (x:=XT n sz) (i:=a) (b:=sz) d (by omega) (by omega);rw[h,g];have f:((XT n sz).cps.toList.drop a.toNat).take ((sz:Int)-a).toNat=(XT n sz).cps.toList.drop a.toNat:=De (by rw[FB,<-c,e];omega);simp only[f];simp
theorem Qcg{σ:MSt}{n:Int}{sz:Nat}(t:sz<=8)(f:σ[5]?=some (some (.int sz)))(g:σ[2]?=some (some (.str abc)))(j:σ[0]?=some (some (.int n))):mMt "str" V7 (mC (.str "")) (Qa (QC Zq (Xx (Qa (Qb 5) Qd)) [none,some 2,some 0] (Q2 0) V3 (Qc wIx (Qb 1) (Qc Js (Qc Q1 (Qc Vt (Qb 2) (mC (.int 360))) (Qc ZU (Qc ZU (mC (.int 5)) (Qb 0)) (Qb 0))) (mC (.int 26))))) Qd) σ []=some (.str (XT n sz),[]):=by
 have o:=Kx (fin:=Zq) (ms:=Qa (Qb 5) Qd) (cp:=[none,some 2,some 0]) (me:=Qc wIx (Qb 1) (Qc Js (Qc Q1 (Qc Vt (Qb 2) (mC (.int 360))) (Qc ZU (Qc ZU (mC (.int 5)) (Qb 0)) (Qb 0))) (mC (.int 26)))) (σ:=σ) (caps:=[some (.str abc),some (.int n)]) (h:=[]) (m:=sz) (fun k=>(⟨#[97+((n/360+5*(k:Int)*k)%26).toNat]⟩:Str)) (by simp[Qb,f]) ⟨none,by simp[QbK,g,j]⟩ (by omega) (fun k u=>by
  have d:(-18446744073709551616:Int)<k:=by lia
  have c:(k:Int)<18446744073709551616:=by lia
  have p:=QdR (i:=(n/360+5*(k:Int)*k)%26) (NR _ (by decide)) (NI _ (by decide)) []
  simp[d,c,p])
 rw[Qn9 (a:=.str "") rfl rfl (Qj1 o QlI)];refine QeI ?_
 have:∀l:List Nat,((l.map fun(k:Nat)=>(⟨#[97+((n/360+5*(k:Int)*k)%26).toNat]⟩:Str)).map (·.length)).sum=l.length:=fun l=>by
  induction l with
  |nil=>rfl
  |cons a l e=>rw[Nz,Nz,O4,e,NW,Nat.add_comm];rfl
 rw[this,Dq];omega
theorem WZ{n:Int}(hn:0<=n){m:Nat}(F:m<=5):∃xs:List Str,xs.length=m/\(xs.Nodup/\∀x∈xs,Nm x)/\∀h:MH,Qx [.int n,.int m] h=some (Ze xs,h):=by
 by_cases c0:n%5=0
 ·let f:Nat->Str:=fun k=>(Vp++Vq).getD ((n/5+(k:Int))%16).toNat ""
  refine⟨(List.range m).map f,by simp,⟨JK fun i j hi P e=>?_,fun x hx=>?_⟩,fun h=>Qh (by simp) (g:=[]) ?_ (by simp)⟩
  ·have a0:0<=(n/5+(i:Int))%16:=NR _ (by decide);have a1:(n/5+(i:Int))%16<16:=NI _ (by decide);have b0:0<=(n/5+(j:Int))%16:=NR _ (by decide);have d:(n/5+(j:Int))%16<16:=NI _ (by decide);have v:(Vp++Vq).length=16:=rfl;have R:((n/5+(i:Int))%16).toNat<(Vp++Vq).length:=by rw[v];lia
   have A:((n/5+(j:Int))%16).toNat<(Vp++Vq).length:=by rw[v];lia
   have e':(Vp++Vq)[((n/5+(i:Int))%16).toNat]=(Vp++Vq)[((n/5+(j:Int))%16).toNat]:=by
    simp only[f,Ef]at e;rwa[Ni R,Ni A]at e
   have:=(Iz (h₀:=R) (h₁:=A) QhU).mp e';omega
  ·obtain⟨i,_,rfl⟩:=NC.mp hx;have a1:(n/5+(i:Int))%16<16:=NI _ (by decide);have v:(Vp++Vq).length=16:=rfl;have R:((n/5+(i:Int))%16).toNat<(Vp++Vq).length:=by rw[v];omega
   simp only[f,Ef];rw[Ni R];exact Qgu _ (DN R)
  ·have r:=Kx (fin:=Zq) (ms:=Qa (Qb 1) Qd) (cp:=[none,some 3,some 0]) (me:=Qc wIx (Qb 1) (Qc Js (Qc Q1 (Qc Vt (Qb 2) (mC (.int 5))) (Qb 0)) (mC (.int 16)))) (σ:=gS n m none none none none none none) (h:=[]) (m:=m) f rfl ⟨_,rfl⟩ (NE (Ny F (by decide))) (fun k B=>by
    have a0:0<=(n/5+(k:Int))%16:=NR _ (by decide);have a1:(n/5+(k:Int))%16<16:=NI _ (by decide)
    have E:atI ((Vp++Vq).map W.str) ((n/5+(k:Int))%16)=some (.str (f k)):=by
     obtain⟨q,hq⟩:∃q:Nat,(n/5+(k:Int))%16=q:=⟨((n/5+(k:Int))%16).toNat,by exact(Dz ‹_›).symm⟩
     have O:q<(Vp++Vq).length:=by show q<16;lia
     simp only[f,hq,Es];rw[Zb,Nq,Ni O];simp[Ef,Ni O]
    rw[Ed]at E
    simp[E])
   unfold Zw Qn;show QiB (Qk _ (Qk _ (Qk _ (Qk _ _))) [some (.int n),some (.int m),none,none,none,none,none,none,none,none,none] [])=_;rw[Yy];generalize QC Zq (Xx (Qa (Qb 1) Qd)) [none,some 3,some 0] (Q2 0) V3 (Qc wIx (Qb 1) (Qc Js (Qc Q1 (Qc Vt (Qb 2) (mC (.int 5))) (Qb 0)) (mC (.int 16))))=co at r;generalize p:(Vp++Vq).map W.str=L at r;simp only[gS,p]at r;simp only[gS,p];simp[c0,r]
 ·by_cases Y:n%5=1
  ·have h0:0<=n/5%26:=NR _ (by decide);have h1:n/5%26<26:=NI _ (by decide)
   let x:Str:=⟨#[97+(n/5%26).toNat]⟩
   have rl:∀k:Nat,(rep x ((k:Int)+1)).cps.toList.length=k+1:=fun k=>by
    unfold rep;rw[show((k:Int)+1).toNat=k+1 by exact rfl];simp[x,K0]
   refine⟨(List.range m).map fun(k:Nat)=>rep x ((k:Int)+1),by simp,⟨JK fun i j hi P e=>?_,fun y N=>?_⟩,fun h=>Qh (by simp) (g:=[]) ?_ (by simp)⟩
   ·have:=congrArg (fun s:Str=>s.cps.toList.length) e;simp only[rl]at this;lia
   ·obtain⟨k,B,rfl⟩:=NC.mp N;have ak:=NY.mp B
    have X:=Qky (x:=rep x ((k:Int)+1)) (c:=97+(n/5%26).toNat) (n:=k+1) (by
     unfold rep;rw[show((k:Int)+1).toNat=k+1 by exact rfl]
     simp[x]) (by omega) (by omega) (by omega) (by omega)
    exact X
   ·have r:=Kx (fin:=Zq) (ms:=Qa (Qb 1) Qd) (cp:=[none,some 2,some 0]) (me:=Qc ZU (Qc wIx (Qb 1) (Qc Js (Qc Vt (Qb 2) (mC (.int 5))) (mC (.int 26)))) (Qc Q1 (Qb 0) (mC (.int 1)))) (σ:=gS n m none none none none none none) (h:=[]) (m:=m) (fun(k:Nat)=>rep x ((k:Int)+1)) rfl ⟨_,rfl⟩ (NE (Ny F (by decide))) (fun k B=>by
     have E:=QdR h0 h1 [];have em:ZU (.str x) (.int ((k:Int)+1)) []=some (.str (rep x ((k:Int)+1)),[]):=Qj4 ⟨by lia,by lia,by show x.cps.size<1000;simp[x]⟩
     simp[E,em,x]at em ⊢)
    unfold Zw Qn;show QiB (Qk _ (Qk _ (Qk _ (Qk _ _))) [some (.int n),some (.int m),none,none,none,none,none,none,none,none,none] [])=_;rw[Yy];generalize QC Zq (Xx (Qa (Qb 1) Qd)) [none,some 2,some 0] (Q2 0) V3 (Qc ZU (Qc wIx (Qb 1) (Qc Js (Qc Vt (Qb 2) (mC (.int 5))) (mC (.int 26)))) (Qc Q1 (Qb 0) (mC (.int 1))))=co at r;generalize p:(Vp++Vq).map W.str=L at r;simp only[gS,p]at r;simp only[gS,p];simp[Y,r]
  ·have s0:0<=n/5%8:=NR _ (by decide);have s1:n/5%8<8:=NI _ (by decide);obtain⟨sz,aa⟩:∃sz:Nat,n/5%8=sz:=⟨(n/5%8).toNat,by exact(Dz ‹_›).symm⟩
   obtain⟨o,Q⟩:∃a:Int,n/40%(sz+1)=a:=⟨_,rfl⟩
   have sp:(0:Int)<sz+1:=by lia
   obtain⟨t,C⟩:∃t:Str,t=XT n sz:=⟨_,rfl⟩
   have H:=Qcg (σ:=gS n m (some (.int sz)) (some (.int o)) none none none none) (n:=n) (sz:=sz) (by lia) rfl rfl rfl;rw[<-C]at H;have ht:t.length<=sz:=by rw[C,Yp];exact Nt _
   let d:Str:=Txt.slice t none (some o)
   let l:Str:=Txt.slice t (some o) none
   have l1:d.length<=10:=Nr (D6 t _ _) (by lia);have l2:l.length<=10:=Nr (D6 t _ _) (by omega)
   have ab:∀y∈(List.range m).map fun k=>nm d l (n/9360) k,Nm y:=fun y N=>by
    obtain⟨k,_,rfl⟩:=NC.mp N
    have r:d.cps.toList++l.cps.toList=(XT n sz).cps.toList:=by
     simp only[d,l,C];exact Qd5 (by rw[<-Q];exact NR _ (by omega)) (by have:=NI (n/40) sp;omega)
    refine Qjq (fun c X=>?_) ?_
    ·rw[r,Ge]at X;obtain⟨i,_,rfl⟩:=NC.mp X;have a1:(n/360+5*(i:Int)*i)%26<26:=NI _ (by decide);omega
    ·have:=congrArg List.length r;rw[Np,<-XX (XT n sz),Yp]at this;omega
   have lt':t.length<=sizeLine:=NE (szN (by lia));have q0:∀k:Nat,0<=(n/9360+3*(k:Int))%26:=fun k=>NR _ (by decide);have q1:∀k:Nat,(n/9360+3*(k:Int))%26<26:=fun k=>NI _ (by decide)
   have len:∀x y:Str,(x++y).length=x.length+y.length:=fun x y=>by
    show(x.cps++y.cps).size=_;simp[Str.length]
   have M:=Zh (items:=QN 0 m) (b:=Q2 9) (body:=ZQ) (fun j J h=>∃U u,J=gS n m (some (.int sz)) (some (.int o)) (some (.str t)) (some (.ref 0)) U u/\h=[.lst (((List.range j).map fun k=>nm d l (n/9360) k).map .str)])
    (QN 0 m) 0 (gS n m (some (.int sz)) (some (.int o)) (some (.str t)) (some (.ref 0)) none none) [.lst []] ⟨none,none,rfl,rfl⟩ (by
     rintro j w P J h ⟨U,u,rfl,rfl⟩
     obtain⟨ae,rfl⟩:=K7 P;rw[NG]at *;have E:=fun h=>QdR (q0 j) (q1 j) h;have Y:d.length+1<=sizeLine:=NE (szN (Ny l1 (by decide)));have c2:d.length+1+l.length<=sizeLine:=NE (szN (by lia));have c3:d.length+1+l.length+1<=sizeLine:=NE (szN (by lia));have z:j<sizeLine:=szN (NE (El (Nl ae F) (by decide)));have Z:(⟨#[97+((n/9360+3*(j:Int))%26).toNat]⟩:Str).length=1:=rfl;have ls:("s":Str).length=1:=by decide +kernel
     have ek:=fun h=>QgK (x:=nmX d l (n/9360) j) (h:=h);have T:∀h,wSl (.str t) none (some o) h=some (.str d,h):=fun h=>Qc3 lt';have S:∀h,wSl (.str t) (some o) none h=some (.str l,h):=fun h=>Qc3 lt';have en:(List.range (j+1)).map (fun k=>nm d l (n/9360) k)=(List.range j).map (fun k=>nm d l (n/9360) k)++[nm d l (n/9360) j]:=by rw[IS,Ed];rfl
     refine⟨gS n m (some (.int sz)) (some (.int o)) (some (.str t)) (some (.ref 0)) (some (.int j)) u,rfl,gS n m (some (.int sz)) (some (.int o)) (some (.str t)) (some (.ref 0)) (some (.int j)) (some (.str (nm d l (n/9360) j))),_,.inl ?_,some (.int j),some (.str (nm d l (n/9360) j)),rfl,rfl⟩;rw[en,Ed];have e1:∀h,Q1 (.str d) (.str (⟨#[97+((n/9360+3*(j:Int))%26).toNat]⟩:Str)) h=some (.str (d++(⟨#[97+((n/9360+3*(j:Int))%26).toNat]⟩:Str)),h):=fun h=>by rw[QdF,if_pos (by rw[Z];exact Y)]
     have e2:∀h,Q1 (.str (d++(⟨#[97+((n/9360+3*(j:Int))%26).toNat]⟩:Str))) (.str l) h=some (.str (nmX d l (n/9360) j),h):=fun h=>by rw[QdF,if_pos (by rw[len,Z];exact c2)];rfl
     have e3:∀h,Q1 (.str (nmX d l (n/9360) j)) (.str "s") h=some (.str (nmX d l (n/9360) j++"s"),h):=fun h=>by rw[QdF,if_pos (by unfold nmX;rw[len,len,Z,ls];exact c3)]
     have A:=fun h=>ek h;clear ek
     by_cases B:nmX d l (n/9360) j∈keptN
     ·have ej:nm d l (n/9360) j=nmX d l (n/9360) j++"s":=by unfold nm;rw[if_pos B]
      rw[ej];rw[decide_eq_true B]at A;generalize p:(Vp++Vq).map W.str=L;generalize G:keptN.map W.str=K at A;generalize hM:((List.range j).map fun k=>nm d l (n/9360) k).map W.str=MM;have D:MM.length=j:=by rw[<-hM];simp
      simp[gS,p,G,T,S,E,e1,e2,e3,A,tyW,D,z]
     ·have ej:nm d l (n/9360) j=nmX d l (n/9360) j:=by unfold nm;rw[if_neg B]
      rw[ej];rw[decide_eq_false B]at A;generalize p:(Vp++Vq).map W.str=L;generalize G:keptN.map W.str=K at A;generalize hM:((List.range j).map fun k=>nm d l (n/9360) k).map W.str=MM;have D:MM.length=j:=by rw[<-hM];simp
      simp[gS,p,G,T,S,E,e1,e2,A,tyW,D,z])
   obtain⟨ai,h',el,U,u,rfl,rfl⟩:=M;rw[JL,NG]at el;refine⟨(List.range m).map fun k=>nm d l (n/9360) k,by simp,⟨JK fun i j hi P e=>Qkv (Nl hi F) (Nl P F) e,fun y N=>?_⟩,fun h=>?_⟩
   ·exact ab y N
   ·have I:ZY (Xx (Qa (Qb 1) Qd)) (Q2 9) ZQ (gS n m (some (.int sz)) (some (.int o)) (some (.str t)) (some (.ref 0)) none none) [.lst []]=some (.nx (gS n m (some (.int sz)) (some (.int o)) (some (.str t)) (some (.ref 0)) U u) [.lst (((List.range m).map fun k=>nm d l (n/9360) k).map .str)]):=by
     unfold ZY;rw[XZ (j:=m) rfl (Ny F (by decide)),Nk];exact el
    refine Qfn (j:=0) (g:=[.lst (((List.range m).map fun k=>nm d l (n/9360) k).map .str)]) (by simp) ?_ rfl Qfq;unfold Zw Qn;show QiB (Qk _ (Qk _ (Qk _ (Qk _ _))) [some (.int n),some (.int m),none,none,none,none,none,none,none,none,none] [])=_;rw[Yy];generalize ZY (Xx (Qa (Qb 1) Qd)) (Q2 9) ZQ=fo at I;generalize mMt "str" V7 (mC (.str "")) (Qa (QC Zq (Xx (Qa (Qb 5) Qd)) [none,some 2,some 0] (Q2 0) V3 (Qc wIx (Qb 1) (Qc Js (Qc Q1 (Qc Vt (Qb 2) (mC (.int 360))) (Qc ZU (Qc ZU (mC (.int 5)) (Qb 0)) (Qb 0))) (mC (.int 26))))) Qd)=jo at H;generalize p:(Vp++Vq).map W.str=L at I H;generalize G:keptN.map W.str=K at I H;generalize((List.range m).map fun k=>nm d l (n/9360) k).map W.str=MM at I;simp only[gS,p,G]at I H;simp only[gS,p,G];have aj:0<sz+1:=by exact DL _
    simp[c0,Y,aa,Q,sp,H,I]
noncomputable def dcn(ls:List Ln):Nat:=ls.countP Vx
theorem WV(L:List Ln)(l:Ln):dcn (L++[l])=dcn L+(if Vx l=true then 1 else 0):=by simp[dcn,List.countP_append,IF]
theorem Qed{bs ws:List Str}{l:Ln}(h:PlainL bs ws l):X3 l=false:=by cases h<;>(show(_==_)=false)<;>decide
theorem UG(l:Ln):QJ [] l=if X3 l=true/\Vx l=false then⟨0,1,0,0⟩else⟨1,0,0,0⟩:=by
 unfold QJ;cases Vx l<;>cases X3 l<;>simp[look]
theorem Xm(l:Ln):(QJ [] l).dp=0:=by rw[UG];split<;>rfl
structure LnSt(bs ws os:List Str)(D lf0:Int)(L:List Ln)(wt:List Str)(lf:Int):Prop where
 ok:∀l∈L,LineOk bs ws os l/\X3 l=false
 kr:X5 (L.map cdL) []=some (wt.reverse.map cd)
 op:∀x∈wt,x="either"\/x="again"\/x="or"
 lv:(Zp [] qz L).lv=wt.length
 dp:(Zp [] qz L).dp<=D
 wd:(wt.length:Int)<=D
 dn:(dcn L:Int)+lf=lf0
 lp:0<=lf
section
variable{bs ws os:List Str}{D lf0 lf:Int}{L:List Ln}{wt:List Str}
theorem QlZ(a:0<=D)(h:0<=lf):LnSt bs ws os D lf [] [] lf:=⟨by simp,rfl,by simp,rfl,a,by simpa using a,by simp[dcn],h⟩
theorem LnSt.snoc(g:LnSt bs ws os D lf0 L wt lf){l:Ln}{a:List Str}{b:Int}(h:LineOk bs ws os l)(j:X3 l=false)(i:kst (cdL l) (wt.reverse.map cd)=some (a.reverse.map cd))(d:∀x∈a,x="either"\/x="again"\/x="or")(e:(wt.length:Int)+ch (cdL l)=a.length)(hw:(a.length:Int)<=D)(hd:(if Vx l=true then(1:Int)else 0)+b=lf)(f:0<=b):LnSt bs ws os D lf0 (L++[l]) a b:=by
 refine⟨Yh g.ok ⟨h,j⟩,by rw[Qaa];exact QeQ g.kr i,d,?_,?_,hw,?_,f⟩
 ·rw[QB];show(Zp [] qz L).lv+ch (cdL l)=_;rw[g.lv,e]
 ·rw[QB];show max (Zp [] qz L).dp ((Zp [] qz L).lv+ch (cdL l)+(QJ [] l).dp)<=D;rw[Xm,g.lv,e];have:=g.dp;omega
 ·have:=g.dn;rw[WV]
  by_cases c:Vx l=true
  ·rw[if_pos c]at hd ⊢;push_cast;omega
  ·rw[if_neg c]at hd ⊢;push_cast;omega
theorem LnSt.push(g:LnSt bs ws os D lf0 L wt lf){y:Str}(a:y="either"\/y="again")(hw:(wt.length:Int)<D):LnSt bs ws os D lf0 (L++[[y]]) (wt++[y]) lf:=by
 refine g.snoc (.blk (a.elim .inl fun z=>.inr (.inl z))) (by rcases a with rfl|rfl<;>decide) ?_ (Yh g.op (a.elim .inl fun z=>.inr (.inl z))) ?_ (by simp;omega) ?_ g.lp
 ·rw[Jz];rcases a with rfl|rfl<;>rfl
 ·rcases a with rfl|rfl<;>simp[cdL,U0,Qad,ch]
 ·rcases a with rfl|rfl<;>simp[Vx]
theorem LnSt.orr(g:LnSt bs ws os D lf0 L (wt++[("either":Str)]) lf):LnSt bs ws os D lf0 (L++[orL]) (wt++[("or":Str)]) lf:=by
 refine g.snoc (.blk (.inr (.inr (.inl rfl)))) (by decide) ?_ (QdJ g.op (.inr (.inr rfl))) ?_ (by have:=g.wd;simp at this ⊢;omega) (by simp[Vx,orL]) g.lp
 ·rw[Jz,Jz];rfl
 ·simp[cdL,orL,Qjc,ch]
theorem LnSt.endd{y:Str}(g:LnSt bs ws os D lf0 L (wt++[y]) lf)(b:y≠"either"):LnSt bs ws os D lf0 (L++[QgF]) wt lf:=by
 have a:=g.op y (by simp);refine g.snoc (.blk (.inr (.inr (.inr rfl)))) (by decide) ?_ (fun x c=>g.op x (N2 _ c)) ?_ (by have:=g.wd;simp at this ⊢;omega) (by simp[Vx,QgF]) g.lp
 ·rw[Jz]
  rcases a with rfl|rfl|rfl
  ·exact absurd rfl b
  ·rfl
  ·rfl
 ·simp[cdL,QgF,Qjg,ch];omega
theorem LnSt.pln(g:LnSt bs ws os D lf0 L wt lf){l:Ln}(h:PlainL bs ws l):LnSt bs ws os D lf0 (L++[l]) wt lf:=
 g.snoc (.plain h) (Qed h) (by rw[QaS h];rfl) g.op (by rw[QaS h];simp[ch]) g.wd (by rw[Qa1 h];simp) g.lp
theorem LnSt.doo(g:LnSt bs ws os D lf0 L wt lf){o:Str}(h:o∈os)(a:0<lf):LnSt bs ws os D lf0 (L++[(["do",o]:Ln)]) wt (lf-1):=
 g.snoc (.do h) (by show(_==_)=false;decide) rfl g.op (by show _+ch (cd "do")=_;rw[show cd "do"=.ot by decide];simp[ch]) g.wd (by rw[show Vx (["do",o]:Ln)=true from by show(_==_)=true;decide];simp;omega) (by omega)
noncomputable def clo(y:Str):List Ln:=if y="either"then[orL,QgF]else[QgF]
noncomputable def cls(wt:List Str):List Ln:=wt.reverse.flatMap clo
theorem QaK(wt:List Str)(y:Str):cls (wt++[y])=clo y++cls wt:=by simp[cls]
theorem Qc7:∀(n:Nat) (wt:List Str),wt.length=n->(cls wt).length<=2*n
 |0,wt,h=>by rw[NO.mp h];exact N6 _
 |n+1,wt,h=>by
  obtain⟨r,y,rfl⟩:=Qfh wt (by intro z;rw[z]at h;simp at h);have:=Qc7 n r (by simpa using h);rw[QaK,Np];have:(clo y).length<=2:=by unfold clo;split<;>simp
  omega
theorem LnSt.close:∀(n:Nat) {L:List Ln} {wt:List Str},wt.length=n->LnSt bs ws os D lf0 L wt lf->LnSt bs ws os D lf0 (L++cls wt) [] lf
 |0,L,wt,h,g=>by
  obtain rfl:=NO.mp h;rw[show cls []=[]from rfl,Dj];exact g
 |n+1,L,wt,h,g=>by
  obtain⟨r,y,rfl⟩:=Qfh wt (by intro z;rw[z]at h;simp at h);have hr:r.length=n:=by simpa using h
  rw[QaK,<-Fm];refine LnSt.close n hr ?_;unfold clo;split
  ·rename_i e;subst e;rw[show([orL,QgF]:List Ln)=[orL]++[QgF]from rfl,<-Fm];exact g.orr.endd (by decide)
  ·rename_i e;exact g.endd e
end
theorem Qd3{wt:List Str}(N:wt.length<=1000){h:MH}{n:Nat}(v:h[n]?=some (.lst (wt.map .str))):Je [.ref n] h=some (.lst ((cls wt).map Qf),h):=by
 have d:=QaH (items:=(wt.map W.str).reverse) (src:=some (.r 0)) (b:=Q2 2) (body:=V1) (fun n e h=>∃(x:Option W),e=[some (.ref 0),some (.ref 1),x]/\h=[.lst (wt.map .str),.lst (((wt.reverse.take n).flatMap clo).map Qf)])
  (by
   rintro n e h ⟨x,rfl,rfl⟩ z F
   cases F;show some (MO.lst (wt.map W.str))=some (.lst ((wt.map W.str).reverse.reverse))
   rw[DO])
  ((wt.map W.str).reverse) 0 [some (.ref 0),some (.ref 1),none] [.lst (wt.map .str),.lst []] ⟨none,rfl,rfl⟩ (by
   rintro j w A e h ⟨x,rfl,rfl⟩
   rw[<-List.map_reverse,Nq]at A;obtain⟨y,u,rfl⟩:=Nf.mp A;have i:=(Ng.mp u).1;rw[N7]at i;rw[NG]at *;have G:(wt.reverse.take (j+1)).flatMap clo=(wt.reverse.take j).flatMap clo++clo y:=by rw[Eh,u];simp
   have p:∀l:List Str,(l.flatMap clo).length<=2*l.length:=fun l=>by
    induction l with
    |nil=>simp
    |cons a l M=>
     rw[Fq,Np,NW];have:(clo a).length<=2:=by unfold clo;split<;>simp
     omega
   have B:=p (wt.reverse.take j);rw[ED,N7]at B;rw[G];generalize(wt.reverse.take j).flatMap clo=f at B;have t:f.length<sizeLine:=szN (by lia);have D:f.length+1<sizeLine:=szN (by lia);refine⟨[some (.ref 0),some (.ref 1),some (.str y)],rfl,[some (.ref 0),some (.ref 1),some (.str y)],[.lst (wt.map .str),.lst ((f++clo y).map Qf)],.inl ?_,_,rfl,rfl⟩
   by_cases c:y="either"
   ·simp[c,clo,t,D,tyW,Qf]
   ·simp[c,clo,t,tyW,Qf])
 obtain⟨C,O,s,x,rfl,rfl⟩:=d;have ei:Qg0 (Qa (Qb 0) Qd) [some (.ref 0),some (.ref 1),none] [.lst (wt.map .str),.lst []]=some ((wt.map W.str).reverse,some (.r 0),[.lst (wt.map .str),.lst []]):=rfl;rw[N7,Nu,NG,De (by simp)]at s
 have:=Qe3 (m:=Zf) (ws:=[]) (vs:=(cls wt).map Qf) (o:=.lst (wt.map .str)) (o':=.lst (wt.map .str)) (n:=n) (j:=0) (g:=[.lst ((cls wt).map Qf)]) (h:=h) rfl v (by simp) (by
  have H:((wt.reverse.flatMap clo).map Qf)=(cls wt).map Qf:=rfl;rw[H]at s
  simp[Zf,Qn,ZY,ei,s]) rfl (by simp) ⟨_,rfl,by simp⟩
 rw[show Je=box frN Zf from rfl,this,Qau v]
theorem in2{i a b:Int}{h:MH}:wIn false (.int i) (.tup [.int a,.int b]) h=some (.bl (decide (i=a\/i=b)),h):=by
 rw[Qho rfl (by simp[W5,pln]) (by simp[dep]) (by simp[UC,dep])]
 have:inW (.int i) [.int a,.int b]=decide (i=a\/i=b):=by
  rw[D0];simp only[inW,EF,List.any_nil,LI,EH,eqW,beq_iff_eq,decide_eq_true_eq];constructor
  ·rintro(z|z)
   ·exact .inl z.symm
   ·exact .inr z.symm
  ·rintro(z|z)
   ·exact .inl z.symm
   ·exact .inr z.symm
 rw[this];rfl
theorem QgW{n:Nat}{ws:List Str}{h:MH}(a:h[n]?=some (.lst (ws.map .str))):wNe (.ref n) (.lst []) h=some (.bl (!ws.isEmpty),h):=by
 have c:drf h 40 (.ref n)=some (.lst (ws.map .str)):=by
  unfold drf;simp only[a,VD h (ws.map .str) 39 J7 (Nr J8 (by decide)),DZ]
 have b:drf h 40 (.lst [])=some (.lst []):=Xn h _ 40 rfl (by simp[dep,UC]);unfold wNe;rw[c,b];cases ws<;>simp[eqW,Kr]
theorem Qhc{ws:List Str}{h:MH}:wNe (Ze ws) (.lst []) h=some (.bl (!ws.isEmpty),h):=by
 rw[QmY WA rfl (Nr G5 (by decide)) (by simp[dep,UC])];cases ws<;>simp[Ze,eqW,Kr]
theorem GA{a:Type}{xs:List a}{y:a}:atI (xs++[y]) (-1)=some y:=by
 unfold atI ixN;rw[if_neg (by decide),if_pos (by rw[Np,NK];lia)];have:(-1+((xs++[y]).length:Int)).toNat=xs.length:=by rw[Np,NK];lia
 rw[Nk,this];simp
theorem Qh5{n:Nat}(h:0<n):ixN n (-1)=some (n-1):=by
 unfold ixN;rw[if_neg (by decide),if_pos (by lia)];congr 1;lia
noncomputable abbrev nS(nu:W)(bs ws os:List Str)(dp:Int)(x8 x9:Option W):MSt:=[some nu,some (Ze bs),some (Ze ws),some (Ze os),some (.int dp),some (.ref 0),some (.ref 1),some (.ref 2),x8,x9]
noncomputable abbrev nH(lf:Int)(ls:List Ln)(wt:List Str):MH:=[.lst [.int lf],.lst (ls.map Qf),.lst (wt.map .str)]
theorem QgB {nu:W} {bs ws os:List Str} (Z:0<bs.length) (hw:0<ws.length) (O:bs.length<=5) (L:ws.length<=5) {dp lf:Int} {ls:List Ln} {wt:List Str} {c:Int} (Y:0<=c) {x9:Option W} (X:ls.length<=1000) (I:wt.length<=1000) {t:Int} (g:LnSt bs ws os dp t ls wt lf) :
  ∃v l s,LnSt bs ws os dp t (ls++[l]) s v/\JS (nS nu bs ws os dp (some (.int c)) x9) (nH lf ls wt)=some (.nx (nS nu bs ws os dp (some (.int c)) (some (.int (c%16)))) (nH v (ls++[l]) s)):=by
 have d:ls.length<sizeLine:=szN (NE (Ny X (by decide)));have R:wt.length<sizeLine:=szN (NE (Ny I (by decide)));have f:=QgW (n:=2) (ws:=wt) (h:=nH lf ls wt) rfl;have B:=fun h=>Qhc (ws:=os) (h:=h);have w:atI [W.int lf] 0=some (.int lf):=rfl
 by_cases E:(c%16=10\/c%16=12)/\(wt.length:Int)<dp
 ·obtain⟨y,Q⟩:∃y:Str,atI [W.str "either",.str "again"] (if c%16=12 then 1 else 0)=some (.str y)/\(y="either"\/y="again"):=by
   by_cases z:c%16=12
   ·exact⟨"again",by rw[if_pos z];rfl,.inr rfl⟩
   ·exact⟨"either",by rw[if_neg z];rfl,.inl rfl⟩
  have C:atI (wt.map W.str++[.str y]) (-1)=some (.str y):=GA;refine⟨lf,[y],wt++[y],g.push Q.2 E.2,?_⟩;have e1:=Q.1;simp[nS,nH,in2,E,d,R,tyW,Qea,e1,C,Qf]
 ·by_cases D:(c%16=11\/c%16=13)/\wt≠[]
  ·have n1:¬((c%16=10\/c%16=12)/\(wt.length:Int)<dp):=E;have b:¬(c%16=10\/c%16=12):=by lia
   obtain⟨a,y,rfl⟩:∃u x,wt=u++[x]:=⟨wt.dropLast,wt.getLast D.2,(Ej _).symm⟩
   have C:atI (a.map W.str++[.str y]) (-1)=some (.str y):=GA;have G:ixN (a.length+1) (-1)=some a.length:=Qh5 (DL _);have M:(a++[y]).isEmpty=false:=by simp
   rw[M]at f
   by_cases P:y="either"
   ·subst P;refine⟨lf,["or"],a++[("or":Str)],g.orr,?_⟩;simp[nS,nH]at f;simp[nS,nH,in2,b,D.1,d,tyW,C,f,G,Qf]
   ·refine⟨lf,["end"],a,g.endd P,?_⟩;simp[nS,nH]at f;simp[nS,nH,in2,b,D.1,d,tyW,C,P,f,Qf]
  ·have t1:∀σ:MSt,True:=fun _=>trivial
   have b2:¬(c%16=11\/c%16=13)\/wt.isEmpty=true:=by
    by_cases z:wt=[]
    ·right;simp[z]
    ·left;exact fun q=>D ⟨q,z⟩
   by_cases r:13<c%16/\os≠[]/\0<lf
   ·have b:¬(c%16=10\/c%16=12):=by lia
    have F:¬(c%16=11\/c%16=13):=by lia
    have q:(0:Int)<os.length:=by
     have:=DS.mpr r.2.1;lia
    obtain⟨o,U,eo⟩:=Qbz (xs:=os) (i:=c/16%(os.length:Nat)) (NR _ (Fe q)) (NI _ q);have m:os.isEmpty=false:=by simpa using r.2.1
    have S:0<os.length:=by lia
    refine⟨lf-1,["do",o],wt,g.doo U r.2.2,?_⟩;have H:ixN 1 0=some 0:=rfl;simp[nS,nH,in2,b,F,r.1,r.2.2,d,tyW,B,m,w,H,S,eo,Qf]
   ·obtain⟨l,N,p⟩:=Qew Y Z hw O L;refine⟨lf,l,wt,g.pln N,?_⟩
    by_cases b:(c%16=10\/c%16=12)
    ·have F:¬(wt.length:Int)<dp:=fun z=>E ⟨b,z⟩;have j:¬(c%16=11\/c%16=13):=by lia
     have e:¬13<c%16:=by lia
     simp[nS,nH,in2,b,F,j,e,d,tyW,p]
    ·by_cases j:(c%16=11\/c%16=13)
     ·have J:wt.isEmpty=true:=b2.resolve_left fun z=>z j;have e:¬13<c%16:=by lia
      rw[J]at f;simp[nS,nH]at f;simp[nS,nH,in2,b,j,e,d,tyW,f,p]
     ·by_cases e:13<c%16
      ·by_cases A:os=[]
       ·simp[nS,nH,in2,b,j,e,A,d,tyW,B,p];subst A;simp[B,p,d]
       ·have m:os.isEmpty=false:=by simpa using A
        have T:¬0<lf:=fun z=>r ⟨e,A,z⟩;simp[nS,nH,in2,b,j,e,T,d,tyW,B,m,w,p]
      ·simp[nS,nH,in2,b,j,e,d,tyW,p]
theorem Qe5{m:FM}{args as:List W}{w:W}{us us':List W}{n:Nat}{g h:MH}(hr:KR 0 args=some (as,[n]))(d:h[n]?=some (.lst us))(hu:Z4 us=true)(e:m as [.lst us]=some (w,.lst us'::g))(hw:pur w=true)(a:Z4 us'=true):box frN m args h=some (w,h.set n (.lst us')):=by
 have:=QbV (m:=m) (args:=args) (as:=as) (ns:=[n]) (os:=[.lst us]) (os':=[.lst us']) (g:=g) (h:=h) (w:=w) (w':=w) hr (by simp) (by simp[Jg,QhG,d,hu]) e rfl (by intro o c;rw[NH.mp c];exact⟨_,rfl,a⟩) (Qdp _ w hw);rw[this];simp[QX]
theorem Qfv{nums:List Int}(J:∀c∈nums,0<=c)(U:nums.length<=100){bs ws os:List Str}(N:0<bs.length)(hw:0<ws.length)(v:bs.length<=5)(r:ws.length<=5)(I:os.length<=5){dp:Int}(u:0<=dp)(M:dp<=2)(lf:Int)(t:0<=lf) :
  ∃(ls:List Ln) (a:Int),LnSt bs ws os dp lf ls [] a/\(ls.length:Int)<=nums.length+2*dp/\∀(h:MH) (n:Nat),h[n]?=some (.lst [.int lf])->VU [.lst (nums.map .int),Ze bs,Ze ws,Ze os,.int dp,.ref n] h=some (.tup (ls.map Qf),h.set n (.lst [.int a])):=by
 have f:=Zh (items:=nums.map W.int) (b:=Q2 8) (body:=JS) (fun n B h=>∃(a:Int) (ls:List Ln) (d:List Str) (m e:Option W),B=nS (.lst (nums.map .int)) bs ws os dp m e/\h=nH a ls d/\LnSt bs ws os dp lf ls d a/\ls.length=n)
  (nums.map W.int) 0 (nS (.lst (nums.map .int)) bs ws os dp none none) (nH lf [] []) ⟨lf,[],[],none,none,rfl,rfl,QlZ u t,rfl⟩ (by
   rintro j w C B h ⟨a,ls,d,m,e,rfl,rfl,i,E⟩
   rw[Nq]at C;obtain⟨c,D,rfl⟩:=Nf.mp C;have L:=(Ng.mp D).1;have O:=i.wd;obtain⟨p,l,o,R,Q⟩:=QgB (nu:=.lst (nums.map .int)) (os:=os) N hw v r (dp:=dp) (lf:=a) (ls:=ls) (wt:=d) (J c (NL D)) (x9:=e) (by omega) (by omega) i
   exact⟨_,rfl,_,_,.inl Q,p,ls++[l],o,_,_,rfl,rfl,R,by simp;omega⟩)
 obtain⟨G,X,y,a,ls,d,m,e,rfl,rfl,i,E⟩:=f;rw[Nu,NG]at E;have O:=i.wd;have P:=Qc7 _ d rfl;refine⟨ls++cls d,a,LnSt.close _ rfl i,by rw[Np];push_cast;omega,fun h n s=>?_⟩;have x:=Qd3 (wt:=d) (by omega) (h:=nH a ls d) (n:=2) rfl;generalize cls d=A at P x;have ei:∀h:MH,Qo (Qb 0) (nS (.lst (nums.map .int)) bs ws os dp none none) h=some (nums.map .int,none,h):=fun _=>rfl;have z:ls.length+A.length<=sizeLine:=NE (szN (by omega));refine Qe5 (as:=[.lst (nums.map .int),Ze bs,Ze ws,Ze os,.int dp,.ref 0]) (us:=[.int lf]) (us':=[.int a]) (g:=[.lst (ls.map Qf),.lst (d.map .str)]) (by simp[KR,Ze]) s (by simp) ?_ (by simp) (by simp)
 have F:Q1 (.ref 1) (.lst (A.map Qf)) (nH a ls d)=some (.lst (ls.map Qf++A.map Qf),nH a ls d):=by
  unfold Q1;simp[lsW,loW,nH,z]
 simp only[nS,nH]at y ei x F;simp at y;simp[Vn,Qn,ZY,ei,y,x,F,z]
structure PgOk(bs ws:List Str)(P:List Pt):Prop where
 nd:(P.map (·.1)).Nodup
 ne:P≠[]
 len:P.length<=5
 ok:∀k x,P[k]?=some x->∀l∈x.2,LineOk bs ws ((P.map (·.1)).drop (k+1)) l/\X3 l=false
noncomputable def tw(z:Sz):Int:=z.pl+z.wy-1
noncomputable def tQ(q:Q5):Int:=q.pl+q.wy-1
theorem Kw(d:Sd)(q:Q5)(l:Ln):tQ (JW d q l)=tQ q+((QJ d l).pl+(QJ d l).wy):=by
 show q.pl+(QJ d l).pl+(q.wy+(QJ d l).wy)-1=q.pl+q.wy-1+_;omega
theorem Qj7{xs:List Str}(l:xs.Nodup){y:Str}{k:Nat}(m:y∈xs.drop k):∃i,k<=i/\xs[i]?=some y/\∀h:MH,UP (.lst (xs.map .str)) [.str y] h=some (.int (i:Nat),h):=by
 obtain⟨j,a⟩:=NS.mp m;rw[Fc]at a;have b:=(Ng.mp a).1;refine⟨k+j,N4 _ _,a,fun h=>?_⟩
 have n:(xs.map W.str).findIdx? (fun z=>eqW z (.str y))=some (k+j):=by
  rw[EL];refine⟨by simpa using b,?_,fun i g=>?_⟩
  ·have:=(Ng.mp a).2;simp[eqW,this]
  ·have c:i<xs.length:=by exact El g b
   simp only[List.getElem_map,eqW,Bool.not_eq_true,beq_eq_false_iff_ne];intro z;have d:=(Ng.mp a).2;have:=(Iz (h₀:=c) (h₁:=b) l).mp (z.trans d.symm);exact Dv (NA this.symm) g
 unfold UP;have o:lsW h (.lst (xs.map .str))=some (xs.map .str):=rfl;have d:drf h 40 (.str y)=some (.str y):=rfl;simp only[o,Nk,d,VD h (xs.map .str) 40 J7 (Nr J8 (by decide)),n,DZ]
theorem QbS{P:List Pt}(a:(P.map (·.1)).Nodup){k i:Nat}{y:Pt}(d:k<i)(b:P[i]?=some y):look (sd (P.drop (k+1))) y.1=some (szw (sd (P.drop (i+1))) y.2):=by
 have c:((P.drop (k+1)).map (·.1)).Nodup:=by rw[Ic];exact a.sublist (Oo _ _)
 have:=GH (p:=P.drop (k+1)) (j:=i-(k+1)) (y:=y) c (by rw[Fc,show k+1+(i-(k+1))=i by omega];exact b);rw[this,Lu,show k+1+(i-(k+1)+1)=i+1 by omega]
theorem QhL{P:List Pt}(c:(P.map (·.1)).Nodup){k:Nat}{nm:Str}(h:nm∈(P.map (·.1)).drop (k+1)):∃i y,k<i/\P[i]?=some y/\y.1=nm/\QJ (sd (P.drop (k+1))) (["do",nm]:Ln)=szw (sd (P.drop (i+1))) y.2:=by
 obtain⟨j,b⟩:=NS.mp h;rw[Fc,Nq]at b;obtain⟨y,a,rfl⟩:=Nf.mp b;refine⟨k+1+j,y,by omega,a,rfl,?_⟩;have e:QJ (sd (P.drop (k+1))) (["do",y.1]:Ln)=(look (sd (P.drop (k+1))) y.1).getD ⟨1,0,0,0⟩:=rfl;rw[e,QbS c (by omega) a];rfl
theorem JY{d:Sd}{l:Ln}(b:Vx l=false)(a:X3 l=false):QJ d l=⟨1,0,0,0⟩:=by unfold QJ;rw[b,a];rfl
theorem QdY{bs ws la:List Str}{l:Ln}(h:LineOk bs ws la l)(hd:Vx l=true):∃nm∈la,l=(["do",nm]:Ln):=by
 cases h with
 |plain h=>rw[Qa1 h]at hd;cases hd
 |«do» h=>exact⟨_,h,rfl⟩
 |blk h=>rcases h with rfl|rfl|rfl|rfl<;>exact absurd hd (by decide)
 |back h=>exact absurd (show((Str.ofString "back")==(Str.ofString "do"))=true from hd) (by decide)
theorem Qax{bs ws:List Str}{P:List Pt}(g:PgOk bs ws P):∀(d k:Nat) (x:Pt),P[k]?=some x->5-k<=d->∀h:MH,QV d [Qs P,.int k] h=some (.int (tw (szw (sd (P.drop (k+1))) x.2)),h)
 |0,k,x,U,T=>by
  have:=g.len;have:=(Ng.mp U).1;omega
 | d+1,k,x,u,T=>by
  have S:=(Ng.mp u).1;have R:=g.len;have N:=fun M y a b=>Qax g d M y a b;have X:=YE u
  have m:=Zh (items:=x.2.map Qf) (b:=Q2 4) (body:=ZN (QV d)) (fun j t h=>∃(o:Option W),t=[some (Qs P),some (.int k),some (.lst ((P.map (·.1)).map .str)),some (.int (tQ (Zp (sd (P.drop (k+1))) qz (x.2.take j)))),o]/\h=[])
   (x.2.map Qf) 0 [some (Qs P),some (.int k),some (.lst ((P.map (·.1)).map .str)),some (.int 0),none] [] ⟨none,rfl,rfl⟩ (by
    rintro j w I t h ⟨o,rfl,rfl⟩
    rw[Nq]at I;obtain⟨l,H,rfl⟩:=Nf.mp I;rw[NG]at *;have Q:x.2.take (j+1)=x.2.take j++[l]:=by rw[Eh,H];rfl
    obtain⟨n,B⟩:=g.ok k x u l (NL H);rw[Q,QB,Kw];generalize tQ (Zp (sd (P.drop (k+1))) qz (x.2.take j))=v;cases c:Vx l with
    | true=>
     obtain⟨nm,A,rfl⟩:=QdY n c;obtain⟨i,i1,O,ei⟩:=Qj7 g.nd A;obtain⟨y,G,rfl⟩:=Nf.mp (by rwa[Nq]at O);have D:=N i y G (by omega)
     have e:QJ (sd (P.drop (k+1))) (["do",y.1]:Ln)=szw (sd (P.drop (i+1))) y.2:=by
      show(look (sd (P.drop (k+1))) y.1).getD ⟨1,0,0,0⟩=_;rw[QbS g.nd (by omega) G];rfl
     rw[e];refine⟨[some (Qs P),some (.int k),some (.lst ((P.map (·.1)).map .str)),some (.int v),some (Qf ["do",y.1])],rfl,[some (Qs P),some (.int k),some (.lst ((P.map (·.1)).map .str)),some (.int (v+((szw (sd (P.drop (i+1))) y.2).pl+(szw (sd (P.drop (i+1))) y.2).wy))),some (Qf ["do",y.1])],[],.inl ?_,_,rfl,rfl⟩;have C:v+1+tw (szw (sd (P.drop (i+1))) y.2)=v+((szw (sd (P.drop (i+1))) y.2).pl+(szw (sd (P.drop (i+1))) y.2).wy):=by unfold tw;omega
     rw[<-C];simp only[N8]at ei;simp[Qf,ei,D,tyW]
    |false=>
     rw[JY c B];obtain⟨y,r,rfl⟩:=U8 n;have Y:y≠"do":=by intro z;rw[show Vx (y::r)=(y==("do":Str))from rfl,z]at c;simp at c
     refine⟨[some (Qs P),some (.int k),some (.lst ((P.map (·.1)).map .str)),some (.int v),some (Qf (y::r))],rfl,[some (Qs P),some (.int k),some (.lst ((P.map (·.1)).map .str)),some (.int (v+1)),some (Qf (y::r))],[],.inl ?_,_,rfl,rfl⟩
     simp[Qf,Y])
  obtain⟨L,h',s,o,rfl,rfl⟩:=m;rw[Nu,NG,Em]at s;have D:tQ (Zp (sd (P.drop (k+1))) qz x.2)=tw (szw (sd (P.drop (k+1))) x.2):=rfl;rw[D]at s;generalize tw (szw (sd (P.drop (k+1))) x.2)=v at s;refine fun h=>Qh (g:=[]) (by simp) ?_ (by simp)
  have F:QC Zq (Qo (Qb 0)) [none] (Q2 0) V3 (Qc wIx (Qb 0) (mC (.int 0))) [some (Qs P),some (.int k),none,none,none] []=some (.lst ((P.map (·.1)).map .str),[]):=by
   let f:W->W:=fun w=>match w with|.tup (a::_)=>a|w=>w
   have:=Jw (fin:=Zq) (mi:=Qo (Qb 0)) (cp:=[none]) (me:=Qc wIx (Qb 0) (mC (.int 0))) (σ:=[some (Qs P),some (.int k),none,none,none]) (caps:=[]) (h:=[]) (items:=P.map Qz) f rfl ⟨_,rfl⟩ (by
    intro w hw;obtain⟨p,_,rfl⟩:=NC.mp hw
    rfl) (by rw[Nu];exact NE (szN (by have:=g.len;exact NE (Ny this (by decide)))))
   rw[this];show some (W.lst ((P.map Qz).map f),[])=_;rw[N8,N8];rfl
  have ei:Qo (Qc wIx (Qc wIx (Qb 0) (Qb 1)) (mC (.int 1))) [some (Qs P),some (.int k),some (.lst ((P.map (·.1)).map .str)),some (.int 0),none] []=some (x.2.map Qf,none,[]):=by
   have:(Qc wIx (Qc wIx (Qb 0) (Qb 1)) (mC (.int 1))) [some (Qs P),some (.int k),some (.lst ((P.map (·.1)).map .str)),some (.int 0),none] []=some (.tup (x.2.map Qf),[]):=by simp[Qs,X,Qz]
   unfold Qo;rw[this];rfl
  have E:ZY (Qo (Qc wIx (Qc wIx (Qb 0) (Qb 1)) (mC (.int 1)))) (Q2 4) (ZN (QV d)) [some (Qs P),some (.int k),some (.lst ((P.map (·.1)).map .str)),some (.int 0),none] []=some (.nx [some (Qs P),some (.int k),some (.lst ((P.map (·.1)).map .str)),some (.int v),o] []):=by
   unfold ZY;rw[ei,Nk];exact s
  unfold Vr;generalize ZY (Qo (Qc wIx (Qc wIx (Qb 0) (Qb 1)) (mC (.int 1)))) (Q2 4) (ZN (QV d))=fo at E;generalize QC Zq (Qo (Qb 0)) [none] (Q2 0) V3 (Qc wIx (Qb 0) (mC (.int 0)))=co at F;generalize(P.map (·.1)).map W.str=NN at F E;simp[Qn,F,E]
open Classical in
noncomputable def mx(ns:List Int)(k:Nat):Int:=if h:k<=1000 then(WF ns k h).choose else 0
theorem Qbg(ns:List Int)(k:Nat):0<=mx ns k:=by
 unfold mx;split
 ·rename_i h;exact(WF ns k h).choose_spec.1
 ·exact F3 _
theorem QhX(ns:List Int){k:Nat}(a:k<=1000)(h:MH):Qp [scr ns,.int k] h=some (.int (mx ns k),h):=by
 unfold mx;rw[dif_pos a];exact(WF ns k a).choose_spec.2 h
theorem GZ{ms:MA}{cp:List (Option Nat)}{me:ME}{σ caps:MSt}{h:MH}{m:Nat}(f:Nat->W)(ei:ms σ h=some ([.int (m:Int)],h))(d:∃o,QbK cp σ=o::caps)(a:m<=1000)(c:∀k,k<m->me (some (.int (k:Int))::caps) h=some (f k,h)) :
  QC Zq (Xx ms) cp (Q2 0) V3 me σ h=some (.lst ((List.range m).map f),h):=by
 let g:W->W:=fun w=>match w with|.int i=>f i.toNat|w=>w
 have:=Jw (fin:=Zq) (mi:=Xx ms) (cp:=cp) (me:=me) (σ:=σ) (h:=h) (items:=QN 0 m) g (XZ ei (Ny a (by decide))) d (by
  intro w hw;unfold QN at hw;obtain⟨k,b,rfl⟩:=NC.mp hw;rw[NY]at b;have:=c k b
  simpa[g]using this) (by rw[JL];exact NE (szN (NE (Ny a (by decide)))))
 rw[this];show some (W.lst ((QN 0 m).map g),h)=_;unfold QN;rw[N8];congr 3;apply DA;intro k _;simp[g]
theorem Qhp{c:Int}{l:List Int}(d:l.length=8)(P:Int->Prop)(b:∀x∈l,P x):∃m,P m/\atI (l.map W.int) (c%8)=some (.int m):=by
 have h:0<=c%8:=NR _ (by decide);have g:c%8<8:=NI _ (by decide);obtain⟨x,_,a,e⟩:=Qj2 (xs:=l) (f:=W.int) (P:=P) h (by rw[d];exact g) b;exact⟨x,a,e⟩
noncomputable abbrev gP(ns:List Int)(hd:W)(m:Nat)(bs ws xs:List Str)(ct:Nat)(x8 x9 a x11 x12 x13:Option W):MSt:=[some (scr ns),some (.int 40),some hd,some (.int m),some (Ze bs),some (Ze ws),some (Ze xs),some (.int ct),x8,x9,a,x11,x12,x13]
theorem QgT{ns:List Int}{hd:W}{m ct k:Nat}{bs ws xs:List Str}(y:1<=m)(n:m<=5)(d:1<=ct)(a:ct<=60){x8 x9 x11 x12 x13:Option W}{h:MH} :
  ∃nu:List Int,nu.length=(List.range ct).countP (fun(j:Nat)=>decide ((j:Int)*m/ct=k))/\(∀c∈nu,0<=c)/\QC Zq (Xx (Qa (Qb 7) Qd)) [none,some 0,some 10,some 7,some 3] (Q2 0) (Qg (Qc wEq (Qc Vt (Qc ZU (Qb 0) (Qb 4)) (Qb 3)) (Qb 2))) (Qi 2 Qp (Qa (Qb 1) (Qa (Qc Q1 (mC (.int 4)) (Qb 0)) Qd))) (gP ns hd m bs ws xs ct x8 x9 (some (.int k)) x11 x12 x13) h=some (.lst (nu.map .int),h):=by
 let f:W->W:=fun w=>match w with|.int j=>.int (mx ns (4+j.toNat))|w=>w
 let p:W->Bool:=fun w=>match w with|.int j=>j*m/ct==(k:Int)|_=>false
 have:=YI (fin:=Zq) (mi:=Xx (Qa (Qb 7) Qd)) (cp:=[none,some 0,some 10,some 7,some 3]) (mt:=Qg (Qc wEq (Qc Vt (Qc ZU (Qb 0) (Qb 4)) (Qb 3)) (Qb 2))) (me:=Qi 2 Qp (Qa (Qb 1) (Qa (Qc Q1 (mC (.int 4)) (Qb 0)) Qd))) (σ:=gP ns hd m bs ws xs ct x8 x9 (some (.int k)) x11 x12 x13) (caps:=[some (scr ns),some (.int k),some (.int ct),some (.int m)]) (h:=h) (items:=QN 0 ct) f p (XZ rfl (Ny a (by decide))) ⟨_,rfl⟩ (by
   intro w hw;unfold QN at hw;obtain⟨j,b,rfl⟩:=NC.mp hw;have l:(-18446744073709551616:Int)<m:=by lia
   have i:(m:Int)<18446744073709551616:=by lia
   have t:(0:Int)<ct:=by lia
   have s:(ct:Int)<1073741824:=by lia
   have r:0<ct:=by exact d
   simp[p,l,i,t,s,r]) (by
   intro w hw _;unfold QN at hw;obtain⟨j,b,rfl⟩:=NC.mp hw;rw[NY]at b;have e:=QhX ns (k:=4+j) (by lia) h;push_cast at e
   simp[f,e]) (by rw[JL];exact NE (szN (NE (Ny a (by decide)))))
 refine⟨((QN 0 ct).filter p).map (fun w=>match w with|.int j=>mx ns (4+j.toNat)|_=>0),?_,fun c o=>?_,?_⟩
 ·rw[Nu,<-List.countP_eq_length_filter];unfold QN;rw[List.countP_map];apply List.countP_congr;intro j _;simp[p]
 ·obtain⟨w,_,rfl⟩:=NC.mp o;cases w<;>first|exact Qbg _ _|exact F3 _
 ·rw[this]
  have e:(((QN 0 ct).filter p).map (fun w=>match w with|.int j=>mx ns (4+j.toNat)|_=>0)).map W.int=((QN 0 ct).filter p).map f:=by
   rw[N8];apply DA;intro w hw;have hw:=(DU.mp hw).1;unfold QN at hw;obtain⟨j,b,rfl⟩:=NC.mp hw;rfl
  rw[e];rfl
noncomputable def nk(m ct k:Nat):Nat:=(List.range ct).countP (fun(j:Nat)=>decide ((j:Int)*m/ct=k))
noncomputable def dcs(P:List Pt):Nat:=(P.map fun x=>dcn x.2).sum
structure PtsOk(bs ws xs:List Str)(D lf0:Int)(m ct n:Nat)(P:List Pt)(lf:Int):Prop where
 nm:P.map (·.1)=xs.take n
 len:P.length=n
 ok:∀k x,P[k]?=some x->∀l∈x.2,LineOk bs ws (xs.drop (k+1)) l/\X3 l=false
 bal:∀x∈P,X5 (x.2.map cdL) []=some []
 dp:∀x∈P,(Zp [] qz x.2).dp<=D
 ln:∀k x,P[k]?=some x->(x.2.length:Int)<=nk m ct k+2*D
 dn:(dcs P:Int)+lf=lf0
 lp:0<=lf
theorem Qc9{ns:List Int}{hd:W}{m ct k:Nat}{bs ws xs:List Str}(Q:1<=m)(B:m<=5)(D:1<=ct)(p:ct<=60)(v:xs.length=m)(R:k<m)(S:0<bs.length)(E:bs.length<=5)(hw:0<ws.length)(A:ws.length<=5){lf j:Int}{P:List Pt}(g:PtsOk bs ws xs (1+(if(m:Int)<4 then 1 else 0)) j m ct k P lf){x11:Option W} :
  ∃(b:Int) (pt:Pt) (s:Option W),PtsOk bs ws xs (1+(if(m:Int)<4 then 1 else 0)) j m ct (k+1) (P++[pt]) b/\QO (gP ns hd m bs ws xs ct (some (.ref 0)) (some (.ref 1)) (some (.int k)) x11 none none) [.lst [.int lf],.lst (P.map Qz)]=some (.nx (gP ns hd m bs ws xs ct (some (.ref 0)) (some (.ref 1)) (some (.int k)) s none none) [.lst [.int b],.lst ((P++[pt]).map Qz)]):=by
 obtain⟨G,H,N,t⟩:=QgT (ns:=ns) (hd:=hd) (k:=k) (bs:=bs) (ws:=ws) (xs:=xs) Q B D p (x8:=some (.ref 0)) (x9:=some (.ref 1)) (x11:=x11) (x12:=none) (x13:=none) (h:=[.lst [.int lf],.lst (P.map Qz)]);obtain⟨d,e⟩:∃d:Int,d=1+(if(m:Int)<4 then 1 else 0):=⟨_,rfl⟩
 have o:0<=d/\d<=2:=by rw[e];split<;>exact⟨by decide,by decide⟩
 rw[<-e]at g ⊢;obtain⟨f,b,n,I,O⟩:=Qfv (nums:=G) N (by rw[H];exact Nr Lv (by simp;omega)) (os:=xs.drop (k+1)) S hw E A (by rw[FB];omega) (dp:=d) o.1 o.2 lf g.lp;have w:xs[k]?=some xs[k]:=Ni (Nl R (NA v.symm));generalize xs[k]=x at w
 have last:∀i y,(P++[(x,f)])[i]?=some y->(P[i]?=some y)\/(i=k/\y=(x,f)):=fun i y a=>by
  rcases Du i P.length with z|z
  ·rw[Ei z]at a;exact .inl a
  ·have:i=k:=by
    have:=(Ng.mp a).1;simp at this;have:=g.len;omega
   subst this;rw[EN z,g.len]at a;simp at a;exact .inr ⟨rfl,a.symm⟩
 refine⟨b,(x,f),some (.lst (G.map .int)),⟨?_,by simp[g.len],fun i y a l J=>?_,fun y u=>?_,fun y u=>?_,fun i y a=>?_,?_,n.lp⟩,?_⟩
 ·rw[Ed,g.nm,List.take_succ,w];rfl
 ·rcases last i y a with z|⟨rfl,rfl⟩
  ·exact g.ok i y z l J
  ·exact n.ok l J
 ·rcases NQ.mp u with z|z
  ·exact g.bal y z
  ·rw[NH.mp z];exact n.kr
 ·rcases NQ.mp u with z|z
  ·exact g.dp y z
  ·rw[NH.mp z];exact n.dp
 ·rcases last i y a with z|⟨rfl,rfl⟩
  ·exact g.ln i y z
  ·rw[H]at I;exact I
 ·have h1:=g.dn;have h2:=n.dn;have T:dcs (P++[(x,f)])=dcs P+dcn f:=by simp[dcs]
  rw[T];push_cast;omega
 ·have U:=O [.lst [.int lf],.lst (P.map Qz)] 0 rfl;have X:atI (xs.map W.str) (k:Int)=some (.str x):=by rw[Zb,Nq,w];rfl
  have r:Uu (xs.map W.str) (some ((k:Int)+1)) none=(xs.drop (k+1)).map .str:=by
   have:=Va (xs.map W.str) (k+1);push_cast at this;rw[this,Ic]
  have z:P.length<sizeLine:=szN (by have:=g.len;lia);unfold QO;generalize QC Zq (Xx (Qa (Qb 7) Qd)) [none,some 0,some 10,some 7,some 3] (Q2 0) (Qg (Qc wEq (Qc Vt (Qc ZU (Qb 0) (Qb 4)) (Qb 3)) (Qb 2))) (Qi 2 Qp (Qa (Qb 1) (Qa (Qc Q1 (mC (.int 4)) (Qb 0)) Qd)))=co at t;simp only[gP]at t
  have F:∀h,wSl (Ze xs) (some ((k:Int)+1)) none h=some (Ze (xs.drop (k+1)),h):=fun h=>by
   show some (W.lst (Uu (xs.map W.str) (some ((k:Int)+1)) none),h)=_;rw[r];rfl
  have a:(1:Int)+(if(m:Int)<4 then 1 else 0)=d:=e.symm
  have C:(1:Int)+(if m<4 then 1 else 0)=d:=by
   rw[<-a]
   by_cases c:m<4
   ·rw[if_pos c,if_pos (by lia)]
   ·rw[if_neg c,if_neg (by lia)]
  simp[gP,t,F,Qea,a,C,U,X,z,tyW,Qz]
section
variable{d:Sd}{ls:List Ln}
theorem ZW{a:Type}{P:a->Prop}{L:List a}{l:a}(h:∀y∈L++[l],P y):(∀y∈L,P y)/\P l:=⟨fun y b=>h y (N2 _ b),h l (by simp)⟩
theorem QdO{L:List Ln}{l:Ln}(h:Vx l=true):dcn (L++[l])=dcn L+1:=by rw[WV,if_pos h]
theorem QdH{L:List Ln}{l:Ln}(h:Vx l=false):dcn (L++[l])=dcn L:=by rw[WV,h];rfl
theorem VF(d:Sd)(q:Q5)(l:Ln):(JW d q l).wy=q.wy+(QJ d l).wy:=rfl
theorem X1(d:Sd)(q:Q5)(l:Ln):(JW d q l).pl=q.pl+(QJ d l).pl:=rfl
theorem ZJ(d:Sd)(q:Q5)(l:Ln):(JW d q l).dp=max q.dp (q.lv+ch (cdL l)+(QJ d l).dp):=rfl
theorem Jk(d:Sd)(q:Q5)(l:Ln):(JW d q l).lv=q.lv+ch (cdL l):=rfl
theorem GO(d:Sd)(q:Q5)(l:Ln):(JW d q l).bk=q.bk+(QJ d l).bk:=rfl
theorem QcX:(∀l∈ls,X3 l=false/\(Vx l=true->1<=(QJ d l).wy))->(1:Int)+dcn ls<=(Zp d qz ls).wy:=by
 refine JR (motive:=fun ls=>(∀l∈ls,X3 l=false/\(Vx l=true->1<=(QJ d l).wy))->(1:Int)+dcn ls<=(Zp d qz ls).wy) (fun _=>by show(1:Int)+((0:Nat):Int)<=1;decide) (fun L l a h=>?_) ls;obtain⟨f,e,b⟩:=ZW h;have:=a f;rw[QB,VF];cases c:Vx l with
 |true=>have:=b c;rw[QdO c];push_cast;omega
 |false=>rw[QdH c,JY c e];show _<=_+(0:Int);omega
theorem Qc6:(∀l∈ls,X3 l=false/\(Vx l=true->0<=(QJ d l).pl))->(0:Int)<=(Zp d qz ls).pl:=by
 refine JR (motive:=fun ls=>(∀l∈ls,X3 l=false/\(Vx l=true->0<=(QJ d l).pl))->(0:Int)<=(Zp d qz ls).pl) (fun _=>F3 0) (fun L l a h=>?_) ls;obtain⟨f,e,b⟩:=ZW h;have:=a f;rw[QB,X1];cases c:Vx l with
 |true=>have:=b c;omega
 |false=>rw[JY c e];show _<=_+(1:Int);omega
theorem Qd4{M:Int}:(∀l∈ls,X3 l=false/\(Vx l=true->(QJ d l).wy<=M))->(Zp d qz ls).wy<=1+dcn ls*M:=by
 refine JR (motive:=fun ls=>(∀l∈ls,X3 l=false/\(Vx l=true->(QJ d l).wy<=M))->(Zp d qz ls).wy<=1+dcn ls*M) (fun _=>by show(1:Int)<=1+((0:Nat):Int)*M;simp) (fun L l a h=>?_) ls;obtain⟨f,e,b⟩:=ZW h;have:=a f;rw[QB,VF];cases c:Vx l with
 |true=>have:=b c;rw[QdO c];push_cast;rw[Int.add_mul];omega
 |false=>rw[QdH c,JY c e];show _+(0:Int)<=_;omega
theorem Qfz{B:Int}:(∀l∈ls,X3 l=false/\(Vx l=true->tw (QJ d l)<=B*(QJ d l).wy))->tQ (Zp d qz ls)<=ls.length+B*((Zp d qz ls).wy-1):=by
 refine JR (motive:=fun ls=>(∀l∈ls,X3 l=false/\(Vx l=true->tw (QJ d l)<=B*(QJ d l).wy))->tQ (Zp d qz ls)<=ls.length+B*((Zp d qz ls).wy-1)) (fun _=>by show(0:Int)+1-1<=((0:Nat):Int)+B*(1-1);simp) (fun L l b h=>?_) ls;obtain⟨i,g,f⟩:=ZW h;have:=b i;rw[QB,Kw,VF,Np,NK];generalize(Zp d qz L).wy=a at *;cases c:Vx l with
 |true=>
  have e:=f c;unfold tw at e;generalize(QJ d l).wy=w at *;have:B*(a+w-1)=B*(a-1)+B*w:=by rw[<-Int.mul_add];congr 1;omega
  push_cast;omega
 |false=>rw[JY c g];show _+((1:Int)+0)<=_+B*(a+0-1);rw[show a+0-1=a-1 by omega];push_cast;omega
theorem Yu{E:Int}:(∀l∈ls,X3 l=false/\(Vx l=true->tw (QJ d l)<=E))->tQ (Zp d qz ls)<=ls.length+dcn ls*E:=by
 refine JR (motive:=fun ls=>(∀l∈ls,X3 l=false/\(Vx l=true->tw (QJ d l)<=E))->tQ (Zp d qz ls)<=ls.length+dcn ls*E) (fun _=>by show(0:Int)+1-1<=((0:Nat):Int)+((0:Nat):Int)*E;simp) (fun L l a h=>?_) ls;obtain⟨g,f,e⟩:=ZW h;have:=a g;rw[QB,Kw,Np,NK];cases c:Vx l with
 |true=>
  have b:=e c;unfold tw at b;rw[QdO c];push_cast;rw[Int.add_mul];omega
 |false=>rw[QdH c,JY c f];show _+((1:Int)+0)<=_;push_cast;omega
theorem QeW:(∀l∈ls,X3 l=false/\(Vx l=true->0<=tw (QJ d l)))->(ls.length:Int)<=tQ (Zp d qz ls):=by
 refine JR (motive:=fun ls=>(∀l∈ls,X3 l=false/\(Vx l=true->0<=tw (QJ d l)))->(ls.length:Int)<=tQ (Zp d qz ls)) (fun _=>by show((0:Nat):Int)<=0+1-1;decide) (fun L l a h=>?_) ls;obtain⟨g,f,e⟩:=ZW h;have:=a g;rw[QB,Kw,Np,NK];cases c:Vx l with
 |true=>
  have b:=e c;unfold tw at b;push_cast;omega
 |false=>rw[JY c f];show _<=_+((1:Int)+0);push_cast;omega
theorem Qde{E:Int}(f:0<=E):(∀l∈ls,(QJ d l).dp<=E)->(Zp d qz ls).lv=(Zp [] qz ls).lv/\(Zp d qz ls).dp<=(Zp [] qz ls).dp+E:=by
 refine JR (motive:=fun ls=>(∀l∈ls,(QJ d l).dp<=E)->(Zp d qz ls).lv=(Zp [] qz ls).lv/\(Zp d qz ls).dp<=(Zp [] qz ls).dp+E) (fun _=>⟨rfl,by show(0:Int)<=0+E;omega⟩) (fun L l a h=>?_) ls;obtain⟨c,g⟩:=ZW h;obtain⟨b,e⟩:=a c;rw[QB,QB,ZJ,ZJ,Jk,Jk,Xm,b];refine⟨rfl,?_⟩;omega
end
section
variable{bs ws:List Str}{P:List Pt}
noncomputable abbrev Zk(P:List Pt)(k:Nat)(x:Pt):Sz:=szw (sd (P.drop (k+1))) x.2
theorem Xp(g:PgOk bs ws P){k:Nat}{x:Pt}(a:P[k]?=some x){l:Ln}(c:l∈x.2)(hd:Vx l=true):∃i y,k<i/\P[i]?=some y/\QJ (sd (P.drop (k+1))) l=Zk P i y:=by
 obtain⟨nm,b,rfl⟩:=QdY (g.ok k x a l c).1 hd;obtain⟨i,y,f,e,_,d⟩:=QhL g.nd b;exact⟨i,y,f,e,d⟩
theorem GB(g:PgOk bs ws P):∀(n k:Nat) (x:Pt),P.length-k<=n->P[k]?=some x->(1:Int)+dcn x.2<=(Zk P k x).wy/\0<=(Zk P k x).pl/\(x.2.length:Int)<=tw (Zk P k x)
 |0,k,x,h,d=>by have:=(Ng.mp d).1;omega
 | n+1,k,x,h,d=>by
  have m:=(Ng.mp d).1
  have f:∀l∈x.2,Vx l=true->1<=(QJ (sd (P.drop (k+1))) l).wy/\0<=(QJ (sd (P.drop (k+1))) l).pl:=fun l c hd=>by
   obtain⟨i,y,p,j,e⟩:=Xp g d c hd;rw[e];have o:=(Ng.mp j).1;obtain⟨a,b,_⟩:=GB g n i y (by omega) j;exact⟨by omega,b⟩
  refine⟨QcX fun l c=>⟨(g.ok k x d l c).2,fun hd=>(f l c hd).1⟩,Qc6 fun l c=>⟨(g.ok k x d l c).2,fun hd=>(f l c hd).2⟩,QeW fun l c=>⟨(g.ok k x d l c).2,fun hd=>?_⟩⟩;have:=f l c hd;unfold tw;omega
noncomputable def fD(n:Nat):Int:=if n=0 then 1 else if n=1 then 2 else if n=2 then 3 else 5
theorem Qdz{a b:Nat}(h:a<=b):fD a<=fD b:=by unfold fD;split<;>split<;>(try split)<;>(try split)<;>omega
theorem Qhq:∀d<4,∀e<4,d+e<=3->(1:Int)+d*fD e<=fD (d+e):=by decide
theorem Wu{k:Nat}{x:Pt}(a:P[k]?=some x):dcs (P.drop k)=dcn x.2+dcs (P.drop (k+1)):=by
 have b:=(Ng.mp a).1
 have e:P.drop k=x::P.drop (k+1):=by
  rw[ET b];congr 1;exact(Ng.mp a).2
 rw[e];simp[dcs]
theorem Qac(n:Nat)(Q:List Pt):dcs (Q.drop n)<=dcs Q:=by
 have:dcs Q=dcs (Q.take n)+dcs (Q.drop n):=by
  unfold dcs;rw[<-List.sum_append,<-Ed,Dl]
 omega
theorem QiW(g:PgOk bs ws P):∀(n k:Nat) (x:Pt),P.length-k<=n->P[k]?=some x->dcs (P.drop k)<=3->(Zk P k x).wy<=fD (dcs (P.drop k))
 |0,k,x,h,a,_=>by have:=(Ng.mp a).1;omega
 | n+1,k,x,h,a,r=>by
  have o:=(Ng.mp a).1;have e:=Wu a
  have:=Qd4 (d:=sd (P.drop (k+1))) (ls:=x.2) (M:=fD (dcs (P.drop (k+1)))) fun l c=>⟨(g.ok k x a l c).2,fun hd=>by
   obtain⟨i,y,s,f,j⟩:=Xp g a c hd;rw[j];have p:=(Ng.mp f).1
   have b:dcs (P.drop i)<=dcs (P.drop (k+1)):=by
    have:=Qac (i-(k+1)) (P.drop (k+1));rwa[Lu,show k+1+(i-(k+1))=i by omega]at this
   exact Fb (QiW g n i y (by omega) f (by omega)) (Qdz b)⟩
  rw[e];exact Fb this (Qhq _ (by omega) _ (by omega) (by omega))
theorem QmQ(g:PgOk bs ws P){B:Int}(c:∀(i:Nat) (y:Pt),P[i]?=some y->(y.2.length:Int)<=B):∀(n k:Nat) (x:Pt),P.length-k<=n->P[k]?=some x->tw (Zk P k x)<=B*(Zk P k x).wy
 |0,k,x,h,a=>by have:=(Ng.mp a).1;omega
 | n+1,k,x,h,a=>by
  have o:=(Ng.mp a).1
  have:=Qfz (d:=sd (P.drop (k+1))) (ls:=x.2) (B:=B) fun l b=>⟨(g.ok k x a l b).2,fun hd=>by
   obtain⟨i,y,s,e,f⟩:=Xp g a b hd;rw[f];have p:=(Ng.mp e).1
   exact QmQ g c n i y (by omega) e⟩
  have r:=c k x a;show tQ (Zp (sd (P.drop (k+1))) qz x.2)<=B*(Zp (sd (P.drop (k+1))) qz x.2).wy;generalize(Zp (sd (P.drop (k+1))) qz x.2).wy=j at *;rw[Int.mul_sub]at this;omega
theorem Qkd(g:PgOk bs ws P){D:Int}(b:0<=D)(m:∀x∈P,(Zp [] qz x.2).dp<=D):∀(n k:Nat) (x:Pt),P.length-k<=n->P[k]?=some x->(Zk P k x).dp<=D*((P.length:Int)-k)
 |0,k,x,h,a=>by have:=(Ng.mp a).1;omega
 | n+1,k,x,h,a=>by
  have t:=(Ng.mp a).1;have j:0<=D*((P.length:Int)-(k+1)):=Int.mul_nonneg b (by omega)
  have:=(Qde (d:=sd (P.drop (k+1))) (ls:=x.2) (E:=D*((P.length:Int)-(k+1))) j fun l f=>by
   cases c:Vx l with
   |false=>rw[JY c (g.ok k x a l f).2];exact j
   |true=>
    obtain⟨i,y,p,o,r⟩:=Xp g a f c;rw[r];have u:=(Ng.mp o).1
    refine Fb (Qkd g b m n i y (by omega) o) (Int.mul_le_mul_of_nonneg_left (by omega) b)).2
  have p:=m x (NL a);show(Zp (sd (P.drop (k+1))) qz x.2).dp<=_
  have e:D*((P.length:Int)-k)=D+D*((P.length:Int)-(k+1)):=by
   rw[show((P.length:Int)-k)=1+((P.length:Int)-(k+1)) by omega,Int.mul_add,Int.mul_one]
  omega
theorem Qf3{b:Type}{p q:b->Bool}(h:∀a,¬(p a=true/\q a=true)):∀l:List b,l.countP p+l.countP q<=l.length
 |[]=>by simp
 |a::l=>by
  have c:=Qf3 h l;have:=h a;rw[IF,IF,NW];cases e:p a<;>cases d:q a<;>simp_all<;>omega
theorem nk2{m ct c:Nat}(b:0<c):nk m ct 0+nk m ct c<=ct:=by
 have:=Qf3 (p:=fun(j:Nat)=>decide ((j:Int)*m/ct=(0:Nat))) (q:=fun(j:Nat)=>decide ((j:Int)*m/ct=c)) (fun a z=>by simp at z;omega) (List.range ct);rw[Dq]at this;exact this
theorem nk1{m ct c:Nat}:nk m ct c<=ct:=by
 unfold nk;exact Nr Lv (by simp)
theorem nk6:∀m<6,∀ct<13,∀k<5,2<=m->nk m ct k<=6:=by decide +kernel
theorem QhK(g:PgOk bs ws P){D f lf:Int}{m ct:Nat}{xs:List Str}(h:PtsOk bs ws xs D f m ct m P lf)(Q:0<=D)(Z:D<=2)(O:ct<=40)(r:12<ct->f=1)(h3:f<=3){x:Pt}(e:P[0]?=some x):(Zk P 0 x).pl<=48/\tw (Zk P 0 x)<=500/\(Zk P 0 x).wy<=24:=by
 obtain⟨b1,b2,b3⟩:=GB g _ 0 x (Nt _) e;have N:=h.dn;have I:=h.lp;have j:dcs P<=3:=by omega
 have w:=QiW g _ 0 x (Nt _) e (by simpa using j);have X:(Zk P 0 x).wy<=5:=Fb w (Fb (Qdz (b:=3) (by simpa using j)) (by decide));have L:=h.ln 0 x e;have Y:=nk1 (m:=m) (ct:=ct) (c:=0);have R:=Wu e;rw[OV]at R;have s:tw (Zk P 0 x)=(Zk P 0 x).pl+(Zk P 0 x).wy-1:=rfl
 by_cases A:dcn x.2=0
 ·have:=Yu (d:=sd (P.drop (0+1))) (ls:=x.2) (E:=0) fun l a=>⟨(g.ok 0 x e l a).2,fun hd=>by
   have:0<dcn x.2:=FV.mpr ⟨l,a,hd⟩
   omega⟩
  have:tw (Zk P 0 x)<=x.2.length+dcn x.2*0:=this;rw[A]at this;simp at this;omega
 ·by_cases T:12<ct
  ·have J:=r T;have p:dcn x.2=1:=by omega
   have hr:dcs (P.drop (0+1))=0:=by omega
   have:=Yu (d:=sd (P.drop (0+1))) (ls:=x.2) (E:=(44:Int)-nk m ct 0) fun l a=>⟨(g.ok 0 x e l a).2,fun hd=>by
    obtain⟨i,y,z,n,S⟩:=Xp g e a hd;rw[S]
    have o:dcn y.2=0:=by
     have a1:=Wu n;have U:=Qac (i-1) (P.drop 1);rw[Lu,show 1+(i-1)=i by omega]at U;rw[NG]at hr;omega
    have t:=Yu (d:=sd (P.drop (i+1))) (ls:=y.2) (E:=0) fun l a=>⟨(g.ok i y n l a).2,fun hd=>by
     have:0<dcn y.2:=FV.mpr ⟨l,a,hd⟩
     omega⟩
    have t:tw (Zk P i y)<=y.2.length+dcn y.2*0:=t;rw[o]at t;simp at t;have H:=h.ln i y n;have:=nk2 (m:=m) (ct:=ct) z
    omega⟩
   have:tw (Zk P 0 x)<=x.2.length+dcn x.2*((44:Int)-nk m ct 0):=this;rw[p]at this;simp at this;omega
  ·have G:2<=P.length:=by
    obtain⟨l,a,hd⟩:=FV.mp (L5 A);obtain⟨i,y,z,n,_⟩:=Xp g e a hd;have M:=(Ng.mp n).1;omega
   have C:=h.len;have F:=g.len
   have t:=QmQ g (B:=10) (fun i y v=>by
    have M:=(Ng.mp v).1;have:=h.ln i y v;have:=nk6 m (by omega) ct (by omega) i (by omega) (by omega)
    omega) _ 0 x (Nt _) e
   omega
end
theorem Qgq{ls:Ln}{n:Nat}:(List.replicate n [Qf ls]).flatten=(List.replicate n ls).map Qf:=by
 induction n with
 |zero=>rfl
 |succ n a=>rw[N9,EZ,a,N9,Nz];rfl
structure GP(bs ws:List Str)(R:List Pt):Prop where
 g:PgOk bs ws R
 bal:∀x∈R,X5 (x.2.map cdL) []=some []
 ln:∀x∈R,x.2.length<=48
 dp:∃D:Int,0<=D/\D<=6/\(∀x∈R,(Zp [] qz x.2).dp<=D)/\D*R.length<=6
 fl:∀x,R[0]?=some x->(Zk R 0 x).pl<=48/\tw (Zk R 0 x)<=500/\(Zk R 0 x).wy<=24
 hb:∀x∈bs,Nm x
 hw:∀x∈ws,Nm x
 hn:∀x∈R,Nm x.1
 b5:bs.length<=5
 w5:ws.length<=5
theorem Qca{y:Str}:∀(n:Nat) (q:Q5),q.lv=0->q.dp=0->(Zp [] q (List.replicate n (["do",y]:Ln))).lv=0/\(Zp [] q (List.replicate n (["do",y]:Ln))).dp=0
 |0,q,a,b=>⟨a,b⟩
 |n+1,q,a,b=>by
  rw[N9];show(Zp [] (JW [] q (["do",y]:Ln)) _).lv=0/\_;have c:ch (cdL (["do",y]:Ln))=0:=by show ch (cd "do")=0;rw[show cd "do"=.ot by decide];rfl
  exact Qca n _ (by rw[Jk,a,c];rfl) (by rw[ZJ,a,b,c,Xm];rfl)
theorem QfU{d:Sd}:∀(ls:List Ln) (q a:Q5),q.lv=a.lv->q.dp=a.dp->(Zp d q ls).dp=(Zp d a ls).dp
 |[],q,a,_,h=>h
 |l::ls,q,a,b,c=>QfU ls _ _ (by rw[Jk,Jk,b]) (by rw[ZJ,ZJ,b,c])
theorem QfY{y:Str}{ls:List Cd}:∀n:Nat,X5 ((List.replicate n (["do",y]:Ln)).map cdL++ls) []=X5 ls []
 |0=>rfl
 |n+1=>by
  rw[N9,Nz,OG];show(kst (cdL (["do",y]:Ln)) []).bind _=_;rw[show cdL (["do",y]:Ln)=.ot by show cd "do"=.ot;decide];exact QfY n
theorem QbG(ns:List Int)(hl:ns.length<=63):∃(bs ws:List Str) (P:List Pt),GP bs ws P/\∀h:MH,ZI [scr ns,.int 40] h=some (Qs P,h):=by
 have J:QC Zq (Xx (Qa (mC (.int 4)) Qd)) [none,some 0] (Q2 0) V3 (Qi 2 Qp (Qa (Qb 1) (Qa (Qb 0) Qd))) [some (scr ns),some (.int 40),none,none,none,none,none,none,none,none,none,none,none,none] []=some (.lst [.int (mx ns 0),.int (mx ns 1),.int (mx ns 2),.int (mx ns 3)],[]):=by
  have:=GZ (ms:=Qa (mC (.int 4)) Qd) (cp:=[none,some 0]) (me:=Qi 2 Qp (Qa (Qb 1) (Qa (Qb 0) Qd))) (σ:=[some (scr ns),some (.int 40),none,none,none,none,none,none,none,none,none,none,none,none]) (caps:=[some (scr ns)]) (h:=[]) (m:=4) (fun k=>.int (mx ns k)) rfl ⟨_,rfl⟩ (by decide) (fun k hk=>by
   have e:=QhX ns (k:=k) (NE (El hk (by decide))) []
   simp[e])
  rw[this];rfl
 have g0:=Qbg ns 0;have g1:=Qbg ns 1;have g2:=Qbg ns 2;have g3:=Qbg ns 3;obtain⟨m',bm,em⟩:=Qhp (c:=mx ns 0) (l:=[1,1,2,2,3,3,2,5]) rfl (fun x=>1<=x/\x<=5) (by simp);obtain⟨m,rfl⟩:∃m:Nat,m'=m:=⟨m'.toNat,by lia⟩
 obtain⟨b',bo,eb⟩:=Qhp (c:=mx ns 1) (l:=[1,2,2,3,3,2,3,5]) rfl (fun x=>1<=x/\x<=5) (by simp);obtain⟨b,rfl⟩:∃m:Nat,b'=m:=⟨b'.toNat,by lia⟩
 obtain⟨w',bh,ew⟩:=Qhp (c:=mx ns 2) (l:=[1,2,2,3,1,2,3,5]) rfl (fun x=>1<=x/\x<=5) (by simp);obtain⟨w,rfl⟩:∃m:Nat,w'=m:=⟨w'.toNat,by lia⟩
 obtain⟨bs,b1,⟨_,b2⟩,b3⟩:=WZ (n:=mx ns 1/8) (OT g1 (by decide)) (m:=b) (by lia);obtain⟨ws,w1,⟨_,w2⟩,w3⟩:=WZ (n:=mx ns 2/8) (OT g2 (by decide)) (m:=w) (by lia);obtain⟨H,x1,⟨x2,x4⟩,x3⟩:=WZ (n:=mx ns 3) g3 (m:=m) (by lia);obtain⟨M,ao⟩:∃c:Int,c=(if(3+mx ns 0/8%6)>(if(40:Int)<(ns.length:Int)-4 then 40 else(ns.length:Int)-4)then(3+mx ns 0/8%6)else(if(40:Int)<(ns.length:Int)-4 then 40 else(ns.length:Int)-4)):=⟨_,rfl⟩
 have q0:0<=mx ns 0/8%6:=NR _ (by decide);have q1:mx ns 0/8%6<6:=NI _ (by decide);have bn:1<=M/\M<=40:=by rw[ao];split<;>split<;>lia
 obtain⟨ct,rfl⟩:∃m:Nat,M=m:=⟨M.toNat,by lia⟩
 obtain⟨lf,am,as,N,ar⟩:∃lf:Int,atI [W.int 3,.int 1] (if(12:Int)<ct then 1 else 0)=some (.int lf)/\(12<ct->lf=1)/\lf<=3/\0<=lf:=by
  by_cases c:(12:Int)<ct
  ·exact⟨1,by rw[if_pos c];rfl,fun _=>rfl,by decide,by decide⟩
  ·exact⟨3,by rw[if_neg c];rfl,fun z=>absurd (by omega) c,by decide,by decide⟩
 obtain⟨D,eD⟩:∃D:Int,D=1+(if(m:Int)<4 then 1 else 0):=⟨_,rfl⟩
 have X:0<=D/\D<=2/\D*m<=6:=by
  rw[eD]
  by_cases c:(m:Int)<4
  ·rw[if_pos c];omega
  ·rw[if_neg c];omega
 have ak:atI [W.int 3,.int 1] (if 12<ct then 1 else 0)=some (.int lf):=by
  rw[<-am]
  by_cases c:12<ct
  ·rw[if_pos c,if_pos (by lia)]
  ·rw[if_neg c,if_neg (by lia)]
 let hd:W:=.lst [.int (mx ns 0),.int (mx ns 1),.int (mx ns 2),.int (mx ns 3)]
 have aa:=Zh (items:=QN 0 m) (b:=Q2 10) (body:=QO) (fun k σ h=>∃(o:Int) (P:List Pt) (G A:Option W),σ=gP ns hd m bs ws H ct (some (.ref 0)) (some (.ref 1)) G A none none/\h=[.lst [.int o],.lst (P.map Qz)]/\PtsOk bs ws H (1+(if(m:Int)<4 then 1 else 0)) lf m ct k P o)
  (QN 0 m) 0 (gP ns hd m bs ws H ct (some (.ref 0)) (some (.ref 1)) none none none none) [.lst [.int lf],.lst []] ⟨lf,[],none,none,rfl,rfl,⟨by simp,rfl,by simp,by simp,by simp,by simp,by simp[dcs],ar⟩⟩ (by
   rintro j w hj σ h ⟨o,P,G,A,rfl,rfl,g⟩
   obtain⟨ay,rfl⟩:=K7 hj;rw[NG]at *;obtain⟨N,pt,bg,g',e⟩:=Qc9 (ns:=ns) (hd:=hd) (bs:=bs) (ws:=ws) (xs:=H) (by lia) (by lia) (ct:=ct) (by lia) (by lia) x1 ay (by lia) (by lia) (by lia) (by lia) (lf:=o) g (x11:=A)
   exact⟨_,rfl,_,_,.inl e,N,P++[pt],_,_,rfl,rfl,g'⟩)
 obtain⟨bf,h',el,o,P,G,A,rfl,rfl,g⟩:=aa;rw[JL,NG,<-eD]at g;have I:P.map (·.1)=H:=by rw[g.nm,De (NA x1)]
 have ae:P≠[]:=fun z=>by have:=g.len;rw[z]at this;simp at this;lia
 have C:PgOk bs ws P:=⟨by rw[I];exact x2,ae,by have:=g.len;omega,by rw[I];exact g.ok⟩
 have O:∀x∈P,x.2.length<=44:=fun x B=>by
  obtain⟨i,hi⟩:=NS.mp B;have:=g.ln i x hi;have:=nk1 (m:=m) (ct:=ct) (c:=i);omega
 have Q:∀x∈P,Nm x.1:=fun x B=>x4 _ (by rw[<-I];exact LS (f:=(·.1)) B);have ah:GP bs ws P:=⟨C,g.bal,fun x B=>by have:=O x B;omega,⟨D,X.1,by omega,g.dp,by rw[g.len];exact X.2.2⟩,fun x B=>QhK C g X.1 X.2.1 (by omega) as N B,b2,w2,Q,by omega,by omega⟩
 obtain⟨d,P1,rfl⟩:∃d P1,P=d::P1:=by
  cases P with
  |nil=>exact absurd rfl ae
  |cons a b=>exact⟨a,b,rfl⟩
 obtain⟨s,y,rfl⟩:∃u x,H=u++[x]:=⟨H.dropLast,H.getLast (fun z=>by rw[z]at x1;simp at x1;lia),(Ej _).symm⟩
 obtain⟨t,bb⟩:∃r:Int,2+mx ns 3/7%4=r:=⟨_,rfl⟩
 have r0:0<=mx ns 3/7%4:=NR _ (by decide);have r1:mx ns 3/7%4<4:=NI _ (by decide);have al:atI ((s.map W.str)++[.str y]) (-1)=some (.str y):=GA
 have aj:∀h,GM (.tup [.tup [.str "do",.str y]]) (.int t) h=some (.tup ((List.replicate t.toNat (["do",y]:Ln)).map Qf),h):=fun h=>by
  unfold GM;simp only[];rw[if_pos ⟨by lia,by lia,by simp,by simp⟩];have:=Qgq (ls:=(["do",y]:Ln)) (n:=t.toNat);rw[<-this];rfl
 let Mo:List Pt:=(d.1,List.replicate t.toNat (["do",y]:Ln)++d.2)::P1
 have bj:d.2.length<=400:=by have:=O d (by simp);omega
 have ab:atI ((s++[y]).map W.str) 0=some (.str d.1):=by
  have:((d::P1).map (·.1))[0]?=(s++[y])[0]?:=by rw[I]
  simp only[Nz,List.getElem?_cons_zero]at this;have h0:=Zb (xs:=(s++[y]).map W.str) (n:=0);rw[show((0:Nat):Int)=0 from rfl]at h0;rw[h0,Nq,<-this];rfl
 have ap:∀h,Q1 (.tup ((List.replicate t.toNat (["do",y]:Ln)).map Qf)) (.tup (d.2.map Qf)) h=some (.tup ((List.replicate t.toNat (["do",y]:Ln)++d.2).map Qf),h):=fun h=>by
  rw[Qgj,if_pos (NE (szN (by simp;lia))),<-Ed]
 have an:∀h:MH,h=[.lst [.int o],.lst ((d::P1).map Qz)]->wSl (.ref 1) (some 1) none h=some (.lst (P1.map Qz),h):=fun h eh=>by
  subst eh;have:=Va ((d::P1).map Qz) 1;show some (W.lst (Uu ((d::P1).map Qz) (some 1) none),_)=_;rw[show((1:Nat):Int)=1 from rfl]at this;rw[this];rfl
 have U:∀h,Q1 (.tup [.tup [.str d.1,.tup ((List.replicate t.toNat (["do",y]:Ln)++d.2).map Qf)]]) (.tup (P1.map Qz)) h=some (Qs Mo,h):=fun h=>by
  have ax:=C.len;rw[Qgj,if_pos (NE (szN (by simp at ax ⊢;lia)))];rfl
 have S:1<m->PgOk bs ws Mo:=fun Y=>by
  have en:Mo.map (·.1)=(d::P1).map (·.1):=rfl;refine⟨by rw[en];exact C.nd,by simp[Mo],C.len,fun k x hk l af=>?_⟩;rw[en];cases k with
  | zero=>
   have:(d.1,List.replicate t.toNat (["do",y]:Ln)++d.2)=x:=by simpa[Mo]using hk
   subst this
   rcases NQ.mp af with z|z
   ·rw[(L7.mp z).2];refine⟨.do ?_,by show(_==_)=false;decide⟩;rw[I];have aw:1<=s.length:=by rw[Np,NK]at x1;lia
    rw[List.drop_append_of_le_length aw];simp
   ·exact C.ok 0 d rfl l z
  |succ k=>exact C.ok (k+1) x (by simpa[Mo]using hk) l af
 have a0:1<m->tw (Zk Mo 0 (d.1,List.replicate t.toNat (["do",y]:Ln)++d.2))<20->GP bs ws Mo:=fun Y ht=>by
  obtain⟨z1,z2,z3⟩:=GB (S Y) _ 0 _ (Nt _) (show Mo[0]?=some _ from rfl);have av:Mo.length=(d::P1).length:=rfl;refine⟨S Y,fun x B=>?_,fun x B=>?_,⟨D,X.1,by omega,fun x B=>?_,by rw[av,g.len];exact X.2.2⟩,fun x B=>?_,b2,w2,fun x B=>?_,by omega,by omega⟩
  ·rcases NB.mp B with rfl|z
   ·show X5 ((List.replicate t.toNat (["do",y]:Ln)++d.2).map cdL) []=_;rw[Ed,QfY];exact g.bal d (by simp)
   ·exact g.bal x (No _ z)
  ·rcases NB.mp B with rfl|z
   ·omega
   ·have:=O x (No _ z);omega
  ·rcases NB.mp B with rfl|z
   ·show(Zp [] qz (List.replicate t.toNat (["do",y]:Ln)++d.2)).dp<=D;rw[QeF];obtain⟨r1,r2⟩:=Qca (y:=y) t.toNat qz rfl rfl;rw[QfU d.2 _ qz (r1.trans rfl) (r2.trans rfl)];exact g.dp d (by simp)
   ·exact g.dp x (No _ z)
  ·have:(d.1,List.replicate t.toNat (["do",y]:Ln)++d.2)=x:=by simpa[Mo]using B
   subst this;have e:tw (Zk Mo 0 (d.1,List.replicate t.toNat (["do",y]:Ln)++d.2))=(Zk Mo 0 (d.1,List.replicate t.toNat (["do",y]:Ln)++d.2)).pl+(Zk Mo 0 (d.1,List.replicate t.toNat (["do",y]:Ln)++d.2)).wy-1:=rfl;omega
  ·rcases NB.mp B with rfl|z
   ·exact Q d (by simp)
   ·exact Q x (No _ z)
 obtain⟨R,hR,eR⟩:∃R:List Pt,GP bs ws R/\Zz [scr ns,.int 40] []=some (Qs R,[.lst [.int o],.lst ((d::P1).map Qz)]):=by
  have T:ZY (Xx (Qa (Qb 3) Qd)) (Q2 10) QO (gP ns hd m bs ws (s++[y]) ct (some (.ref 0)) (some (.ref 1)) none none none none) [.lst [.int lf],.lst []]=some (.nx (gP ns hd m bs ws (s++[y]) ct (some (.ref 0)) (some (.ref 1)) G A none none) [.lst [.int o],.lst ((d::P1).map Qz)]):=by
   unfold ZY;rw[XZ (j:=m) rfl (by lia),Nk];exact el
  have bc:atI [W.int 1,.int 1,.int 2,.int 2,.int 3,.int 3,.int 2,.int 5] (mx ns 0%8)=some (.int m):=em;have bd:atI [W.int 1,.int 2,.int 2,.int 3,.int 3,.int 2,.int 3,.int 5] (mx ns 1%8)=some (.int b):=eb;have ba:atI [W.int 1,.int 2,.int 2,.int 3,.int 1,.int 2,.int 3,.int 5] (mx ns 2%8)=some (.int w):=ew;have i0:atI [W.int (mx ns 0),.int (mx ns 1),.int (mx ns 2),.int (mx ns 3)] 0=some (.int (mx ns 0)):=rfl;have i1:atI [W.int (mx ns 0),.int (mx ns 1),.int (mx ns 2),.int (mx ns 3)] 1=some (.int (mx ns 1)):=rfl;have i2:atI [W.int (mx ns 0),.int (mx ns 1),.int (mx ns 2),.int (mx ns 3)] 2=some (.int (mx ns 2)):=rfl;have i3:atI [W.int (mx ns 0),.int (mx ns 1),.int (mx ns 2),.int (mx ns 3)] 3=some (.int (mx ns 3)):=rfl
  have E3:(Qc wIx (mFn X4 (Qa (mC (.int 1)) (Qa (mC (.int 1)) (Qa (mC (.int 2)) (Qa (mC (.int 2)) (Qa (mC (.int 3)) (Qa (mC (.int 3)) (Qa (mC (.int 2)) (Qa (mC (.int 5)) Qd))))))))) (Qc Js (Qc wIx (Qb 2) (mC (.int 0))) (mC (.int 8)))) [some (scr ns),some (.int 40),some hd,none,none,none,none,none,none,none,none,none,none,none] []=some (.int m,[]):=by
   simp[hd,bc]
  have E4:(Qi 2 Qx (Qa (Qc Vt (Qc wIx (Qb 2) (mC (.int 1))) (mC (.int 8))) (Qa (Qc wIx (mFn X4 (Qa (mC (.int 1)) (Qa (mC (.int 2)) (Qa (mC (.int 2)) (Qa (mC (.int 3)) (Qa (mC (.int 3)) (Qa (mC (.int 2)) (Qa (mC (.int 3)) (Qa (mC (.int 5)) Qd))))))))) (Qc Js (Qc wIx (Qb 2) (mC (.int 1))) (mC (.int 8)))) Qd))) [some (scr ns),some (.int 40),some hd,some (.int m),none,none,none,none,none,none,none,none,none,none] []=some (Ze bs,[]):=by
   simp[hd,bd,b3]
  have E5:(Qi 2 Qx (Qa (Qc Vt (Qc wIx (Qb 2) (mC (.int 2))) (mC (.int 8))) (Qa (Qc wIx (mFn X4 (Qa (mC (.int 1)) (Qa (mC (.int 2)) (Qa (mC (.int 2)) (Qa (mC (.int 3)) (Qa (mC (.int 1)) (Qa (mC (.int 2)) (Qa (mC (.int 3)) (Qa (mC (.int 5)) Qd))))))))) (Qc Js (Qc wIx (Qb 2) (mC (.int 2))) (mC (.int 8)))) Qd))) [some (scr ns),some (.int 40),some hd,some (.int m),some (Ze bs),none,none,none,none,none,none,none,none,none] []=some (Ze ws,[]):=by
   simp[hd,ba,w3]
  have E6:(Qi 2 Qx (Qa (Qc wIx (Qb 2) (mC (.int 3))) (Qa (Qb 3) Qd))) [some (scr ns),some (.int 40),some hd,some (.int m),some (Ze bs),some (Ze ws),none,none,none,none,none,none,none,none] []=some (Ze (s++[y]),[]):=by
   simp[hd,x3]
  have E7:(mFn QgM (Qa (mFn QiA (Qa (Qc Qin (mFn JU (Qa (Qb 0) Qd)) (mC (.int 4))) (Qa (Qb 1) Qd))) (Qa (Qc Q1 (mC (.int 3)) (Qc Js (Qc Vt (Qc wIx (Qb 2) (mC (.int 0))) (mC (.int 8))) (mC (.int 6)))) Qd))) [some (scr ns),some (.int 40),some hd,some (.int m),some (Ze bs),some (Ze ws),some (Ze (s++[y])),none,none,none,none,none,none,none] []=some (.int ct,[]):=by
   rw[ao];simp only[Qkj,s_c,QoH,QlV,Qh6,QlG,Qku,scr];simp[hd]
  have E8:(Qc wIx (mFn X4 (Qa (mC (.int 3)) (Qa (mC (.int 1)) Qd))) (mFn Qea (Qa (Qc wGt (Qb 7) (mC (.int 12))) Qd))) [some (scr ns),some (.int 40),some hd,some (.int m),some (Ze bs),some (Ze ws),some (Ze (s++[y])),some (.int ct),none,none,none,none,none,none] []=some (.int lf,[]):=by
   simp[Qea,am,ak]
  have F:(Qc GM (mFn Jp (Qa (mFn Jp (Qa (mC (.str "do")) (Qa (Qc wIx (Qb 6) (mUn G4 (mC (.int 1)))) Qd))) Qd)) (Qc Q1 (mC (.int 2)) (Qc Js (Qc Vt (Qc wIx (Qb 2) (mC (.int 3))) (mC (.int 7))) (mC (.int 4))))) (gP ns hd m bs ws (s++[y]) ct (some (.ref 0)) (some (.ref 1)) G A none none) [.lst [.int o],.lst ((d::P1).map Qz)]=some (.tup ((List.replicate t.toNat (["do",y]:Ln)).map Qf),[.lst [.int o],.lst ((d::P1).map Qz)]):=by
   have:=aj [.lst [.int o],.lst ((d::P1).map Qz)];simp only[Nz]at this ⊢;simp[gP,hd,al,bb,this]
  have E:(Qc Q1 (mFn Jp (Qa (mFn Jp (Qa (Qc wIx (Qb 6) (mC (.int 0))) (Qa (Qc Q1 (Qb 12) (Qc wIx (Qc wIx (Qb 9) (mC (.int 0))) (mC (.int 1)))) Qd))) Qd)) (mFn ZZ (Qa (mSl (Qb 9) (VB (mC (.int 1))) VG) Qd))) (gP ns hd m bs ws (s++[y]) ct (some (.ref 0)) (some (.ref 1)) G A (some (.tup ((List.replicate t.toNat (["do",y]:Ln)).map Qf))) none) [.lst [.int o],.lst ((d::P1).map Qz)]=some (Qs Mo,[.lst [.int o],.lst ((d::P1).map Qz)]):=by
   have a1:=ap [.lst [.int o],.lst ((d::P1).map Qz)];have a2:=U [.lst [.int o],.lst ((d::P1).map Qz)];have a3:=an _ rfl;have a4:atI ((d::P1).map Qz) 0=some (Qz d):=YE (p:=d::P1) (i:=0) (x:=d) rfl;have a5:atI [W.str d.1,.tup (d.2.map Qf)] 1=some (.tup (d.2.map Qf)):=rfl;generalize hh:([.lst [.int o],.lst ((d::P1).map Qz)]:MH)=H0 at a1 a2 a3 ⊢;have Y:H0[1]?=some (.lst ((d::P1).map Qz)):=by rw[<-hh];rfl
   generalize(List.replicate t.toNat (["do",y]:Ln)).map Qf=RR at a1 ⊢;have a9:Qs Mo=.tup (.tup [.str d.1,.tup ((List.replicate t.toNat (["do",y]:Ln)++d.2).map Qf)]::P1.map Qz):=rfl;generalize((List.replicate t.toNat (["do",y]:Ln))++d.2).map Qf=R2 at a1 a2 a9;have a6:((d::P1).map Qz)[0]?=some (Qz d):=rfl
   have a8:Uu ((d::P1).map Qz) (some 1) none=P1.map Qz:=by
    have:=Va ((d::P1).map Qz) 1;rw[show((1:Nat):Int)=1 from rfl]at this;rw[this];rfl
   have z8:1+P1.length<=sizeLine:=NE (szN (by have:=C.len;simp at this;lia))
   have a7:((s++[y]).map W.str)[0]?=some (.str d.1):=by
    have h0:=Zb (xs:=(s++[y]).map W.str) (n:=0);rw[<-h0];exact ab
   generalize bi:(d::P1).map Qz=PL at a4 a6 a8 Y;generalize au:(s++[y]).map W.str=XL at a7 ab;simp[gP,Ze,au,a7,Y,a6,Qz,a5,a1,a8,z8,a9]
  unfold Zz;generalize ZY (Xx (Qa (Qb 3) Qd)) (Q2 10) QO=fo at T;generalize QC Zq (Xx (Qa (mC (.int 4)) Qd)) [none,some 0] (Q2 0) V3 (Qi 2 Qp (Qa (Qb 1) (Qa (Qb 0) Qd)))=e2 at J;generalize(Qc wIx (mFn X4 (Qa (mC (.int 1)) (Qa (mC (.int 1)) (Qa (mC (.int 2)) (Qa (mC (.int 2)) (Qa (mC (.int 3)) (Qa (mC (.int 3)) (Qa (mC (.int 2)) (Qa (mC (.int 5)) Qd))))))))) (Qc Js (Qc wIx (Qb 2) (mC (.int 0))) (mC (.int 8))))=e3 at E3;generalize(Qi 2 Qx (Qa (Qc Vt (Qc wIx (Qb 2) (mC (.int 1))) (mC (.int 8))) (Qa (Qc wIx (mFn X4 (Qa (mC (.int 1)) (Qa (mC (.int 2)) (Qa (mC (.int 2)) (Qa (mC (.int 3)) (Qa (mC (.int 3)) (Qa (mC (.int 2)) (Qa (mC (.int 3)) (Qa (mC (.int 5)) Qd))))))))) (Qc Js (Qc wIx (Qb 2) (mC (.int 1))) (mC (.int 8)))) Qd)))=e4 at E4;generalize(Qi 2 Qx (Qa (Qc Vt (Qc wIx (Qb 2) (mC (.int 2))) (mC (.int 8))) (Qa (Qc wIx (mFn X4 (Qa (mC (.int 1)) (Qa (mC (.int 2)) (Qa (mC (.int 2)) (Qa (mC (.int 3)) (Qa (mC (.int 1)) (Qa (mC (.int 2)) (Qa (mC (.int 3)) (Qa (mC (.int 5)) Qd))))))))) (Qc Js (Qc wIx (Qb 2) (mC (.int 2))) (mC (.int 8)))) Qd)))=e5 at E5;generalize(Qi 2 Qx (Qa (Qc wIx (Qb 2) (mC (.int 3))) (Qa (Qb 3) Qd)))=e6 at E6;generalize(mFn QgM (Qa (mFn QiA (Qa (Qc Qin (mFn JU (Qa (Qb 0) Qd)) (mC (.int 4))) (Qa (Qb 1) Qd))) (Qa (Qc Q1 (mC (.int 3)) (Qc Js (Qc Vt (Qc wIx (Qb 2) (mC (.int 0))) (mC (.int 8))) (mC (.int 6)))) Qd)))=e7 at E7;generalize(Qc wIx (mFn X4 (Qa (mC (.int 3)) (Qa (mC (.int 1)) Qd))) (mFn Qea (Qa (Qc wGt (Qb 7) (mC (.int 12))) Qd)))=e8 at E8;generalize(Qc GM (mFn Jp (Qa (mFn Jp (Qa (mC (.str "do")) (Qa (Qc wIx (Qb 6) (mUn G4 (mC (.int 1)))) Qd))) Qd)) (Qc Q1 (mC (.int 2)) (Qc Js (Qc Vt (Qc wIx (Qb 2) (mC (.int 3))) (mC (.int 7))) (mC (.int 4)))))=br at F;generalize(Qc Q1 (mFn Jp (Qa (mFn Jp (Qa (Qc wIx (Qb 6) (mC (.int 0))) (Qa (Qc Q1 (Qb 12) (Qc wIx (Qc wIx (Qb 9) (mC (.int 0))) (mC (.int 1)))) Qd))) Qd)) (mFn ZZ (Qa (mSl (Qb 9) (VB (mC (.int 1))) VG) Qd)))=bq at E;generalize az:(d::P1).map Qz=PM at *;generalize bp:(List.replicate t.toNat (["do",y]:Ln)).map Qf=RR at F E;have aq:Qs (d::P1)=.tup PM:=by rw[<-az];rfl
  simp only[gP]at T F E;simp only[hd]at E3 E4 E5 E6 E7 E8 T F E
  by_cases Z:1<m
  ·have L:(1:Int)<m:=by lia
   have ev:=Qax (S Z) 6 0 _ (show Mo[0]?=some _ from rfl) (by decide);obtain⟨v,hv⟩:∃v,v=tw (szw (sd (Mo.drop (0+1))) (d.1,List.replicate t.toNat (["do",y]:Ln)++d.2).2):=⟨_,rfl⟩
   rw[<-hv]at ev;have ai:∀h,ZE [Qs Mo,.int 0] h=some (.int v,h):=ev
   by_cases c2:mx ns 2/64%4=0/\v<20
   ·refine⟨Mo,a0 Z (by rw[hv]at c2;exact c2.2),?_⟩;simp[Qn,J,E3,E4,E5,E6,E7,E8,T,F,E,Z,L,i2,c2.1,ai,c2.2]
   ·refine⟨d::P1,ah,?_⟩;rw[aq]
    by_cases c3:mx ns 2/64%4=0
    ·have c4:¬v<20:=fun z=>c2 ⟨c3,z⟩;simp[Qn,J,E3,E4,E5,E6,E7,E8,T,F,E,Z,L,i2,c3,ai,c4]
    ·simp[Qn,J,E3,E4,E5,E6,E7,E8,T,F,E,Z,L,i2,c3]
  ·have L:¬(1:Int)<m:=by lia
   refine⟨d::P1,ah,?_⟩;rw[aq];simp[Qn,J,E3,E4,E5,E6,E7,E8,T,F,E,Z,L]
 exact⟨bs,ws,R,hR,fun h=>Qh (g:=_) (by simp[scr]) eR (by simp)⟩
noncomputable abbrev bkL(w:Str):Ln:=["back",w]
inductive Bkd(Wd:List Str):List Ln->List Ln->Prop where
 |nil:Bkd Wd [] []
 |keep {L M:List Ln} {l:Ln} (h:Bkd Wd L M):Bkd Wd (L++[l]) (M++[l])
 |back {L M:List Ln} {l:Ln} {w:Str} (h:Bkd Wd L M) (hw:w∈Wd):Bkd Wd (L++[l]) (M++[bkL w]++[l])
inductive BkP(Wd:List Str):List Pt->List Pt->Prop where
 |nil:BkP Wd [] []
 |cons {x y:Pt} {r s:List Pt} (h:x.1=y.1) (hb:Bkd Wd x.2 y.2) (t:BkP Wd r s):BkP Wd (x::r) (y::s)
section
variable{Wd:List Str}{L M:List Ln}{R Q:List Pt}
theorem BkP.snoc{x y:Pt}(h:x.1=y.1)(b:Bkd Wd x.2 y.2):∀{R Q:List Pt},BkP Wd R Q->BkP Wd (R++[x]) (Q++[y])
 |_,_,.nil=>.cons h b .nil
 |_,_,.cons h' a t=>.cons h' a (t.snoc h b)
theorem QkD(w:Str):cdL (bkL w)=.ot:=by show cd "back"=.ot;decide
theorem Bkd.kr(h:Bkd Wd L M):X5 (M.map cdL) []=X5 (L.map cdL) []:=by
 induction h with
 |nil=>rfl
 |keep h a=>rw[Ed,Ed,Jv,Jv,a]
 | @back L M l w h hw a=>
  rw[Ed,Ed,Ed,Jv,Jv,Jv,a];cases X5 (L.map cdL) []with
  |none=>rfl
  |some s=>
   show Option.bind (X5 [cdL (bkL w)] s) _=_;rw[QkD];rfl
theorem Bkd.mem(h:Bkd Wd L M):∀l∈M,l∈L\/∃w∈Wd,l=bkL w:=by
 induction h with
 |nil=>intro l a;cases a
 |keep h b=>
  intro l a
  rcases NQ.mp a with z|z
  ·exact(b l z).imp (N2 _) id
  ·exact .inl (NF _ z)
 | back h hw b=>
  intro l a
  rcases NQ.mp a with z|z
  ·rcases NQ.mp z with z|z
   ·exact(b l z).imp (N2 _) id
   ·exact .inr ⟨_,hw,NH.mp z⟩
  ·exact .inl (NF _ z)
theorem Bkd.len(h:Bkd Wd L M):M.length<=2*L.length:=by
 induction h with
 |nil=>simp
 |keep h a=>simp;omega
 |back h hw a=>simp;omega
def Sm(z a:Sz):Prop:=z.pl=a.pl/\z.dp=a.dp/\z.wy=a.wy/\a.bk<=tw a/\0<=a.dp
def SdR(a b:Sd):Prop:=∀nm,(look a nm=none/\look b nm=none)\/∃z c,look a nm=some z/\look b nm=some c/\Sm z c
theorem sm1:Sm ⟨1,0,0,0⟩ ⟨1,0,0,0⟩:=⟨rfl,rfl,rfl,by decide,by decide⟩
theorem Qae{a b:Sd}(h:SdR a b){l:Ln}(f:X3 l=false):Sm (QJ a l) (QJ b l):=by
 unfold QJ;split
 ·rcases h (l.getD 1 "")with⟨d,c⟩|⟨z,g,d,c,e⟩
  ·rw[d,c];exact sm1
  ·rw[d,c];exact e
 ·rw[f];exact sm1
theorem K6{a:Sd}(w:Str):QJ a (bkL w)=⟨0,1,0,0⟩:=by
 unfold QJ;have c:Vx (bkL w)=false:=by show(_==_)=false;decide
 have b:X3 (bkL w)=true:=by show(_==_)=true;decide
 rw[c,b];rfl
structure RunR(q q':Q5):Prop where
 pl:q.pl=q'.pl
 lv:q.lv=q'.lv
 dp:q.dp=q'.dp
 wy:q.wy=q'.wy
 bk:q'.bk<=tQ q'
 ld:q'.lv<=q'.dp
 d0:0<=q'.dp
theorem RunR.step{a b:Sd}{q c:Q5}(g:RunR q c)(h:SdR a b){l:Ln}(j:X3 l=false):RunR (JW a q l) (JW b c l)/\(JW b c l).bk+1<=tQ (JW b c l)+1:=by
 obtain⟨i,f,e,d,o⟩:=Qae h j;obtain⟨g1,g2,g3,n,s,r,p⟩:=g;unfold tw at d;have m:(JW b c l).bk<=tQ (JW b c l):=by rw[Kw,GO];omega
 refine⟨⟨by rw[X1,X1,g1,i],by rw[Jk,Jk,g2],by rw[ZJ,ZJ,g2,g3,f],by rw[VF,VF,n,e],m,by rw[Jk,ZJ];omega,by rw[ZJ];omega⟩,by omega⟩
theorem Bkd.run{a b:Sd}(h:SdR a b)(u:Bkd Wd L M):(∀l∈L,X3 l=false)->RunR (Zp a qz L) (Zp b qz M):=by
 induction u with
 |nil=>exact fun _=>⟨rfl,rfl,rfl,rfl,by show(0:Int)<=0+1-1;decide,F3 0,F3 0⟩
 |keep _ e=>
  intro f;obtain⟨i,g⟩:=ZW f;rw[QB,QB];exact((e i).step h g).1
 |@back L M l w _ hw e=>
  intro f;obtain⟨i,g⟩:=ZW f;rw[QB,QB,QB];obtain⟨g1,g2,g3,v,C,B,A⟩:=e i;generalize Zp a qz L=q at *;generalize Zp b qz M=c at *;obtain⟨t,s,r,p,z⟩:=Qae h g;unfold tw at p;have m:ch (cdL (bkL w))=0:=by rw[QkD];rfl
  have o:(JW b c (bkL w)).pl=c.pl:=by rw[X1,K6];exact L8 _
  have d:(JW b c (bkL w)).lv=c.lv:=by rw[Jk,m];exact L8 _
  have j:(JW b c (bkL w)).dp=c.dp:=by rw[ZJ,m,K6];show max c.dp (c.lv+0+0)=_;omega
  have n:(JW b c (bkL w)).wy=c.wy:=by rw[VF,K6];exact L8 _
  have y:(JW b c (bkL w)).bk=c.bk+1:=by rw[GO,K6]
  have x:tQ (JW b c (bkL w))=tQ c:=by unfold tQ;rw[o,n]
  refine⟨by rw[X1,X1,o,g1,t],by rw[Jk,Jk,d,g2],by rw[ZJ,ZJ,d,j,g2,g3,s],by rw[VF,VF,n,v,r],by rw[Kw,GO,y,x];omega,by rw[Jk,ZJ,d,j];omega,by rw[ZJ,d,j];omega⟩
theorem Qb3{a b:Sd}(h:SdR a b)(d:Bkd Wd L M)(c:∀l∈L,X3 l=false):Sm (szw a L) (szw b M):=by
 obtain⟨g1,g2,g3,g,f,i,e⟩:=d.run h c;exact⟨g1,g3,g,f,e⟩
theorem Qcw:SdR [] []:=fun _=>.inl ⟨rfl,rfl⟩
theorem BkP.sdr:∀{R Q:List Pt},BkP Wd R Q->(∀x∈R,∀l∈x.2,X3 l=false)->SdR (sd R) (sd Q)
 |_,_,.nil,_=>Qcw
 | _,_,@BkP.cons _ x y r s h m t,e=>by
  have d:=BkP.sdr t fun x i=>e x (No _ i);have g:=Qb3 d m (e x (by simp));intro nm;rw[sd,sd,Kf,Kf]
  rcases d nm with⟨b,a⟩|⟨z,f,b,a,j⟩
  ·rw[b,a]
   by_cases c:x.1=nm
   ·right;refine⟨szw (sd r) x.2,szw (sd s) y.2,?_,?_,g⟩
    ·simp[look,c]
    ·simp[look,<-h,c]
   ·left;refine⟨?_,?_⟩
    ·simp[look,c]
    ·simp[look,<-h,c]
  ·right;exact⟨z,f,by rw[b];rfl,by rw[a];rfl,j⟩
theorem BkP.names:∀{R Q:List Pt},BkP Wd R Q->Q.map (·.1)=R.map (·.1)
 |_,_,.nil=>rfl
 |_,_,.cons h _ t=>by rw[Nz,Nz,h,t.names]
theorem BkP.get:∀{R Q:List Pt},BkP Wd R Q->∀{i:Nat} {y:Pt},Q[i]?=some y->∃x,R[i]?=some x/\x.1=y.1/\Bkd Wd x.2 y.2
 |_,_,.nil,i,y,h=>by simp at h
 |_,_,.cons h a t,0,y,e=>by simp at e;subst e;exact⟨_,rfl,h,a⟩
 |_,_,.cons h a t,i+1,y,e=>by
  obtain⟨x,c,b⟩:=t.get (i:=i) (by simpa using e);exact⟨x,by simpa using c,b⟩
theorem Qjb:∀ls:List Ln,(Zp [] qz ls).pl<=ls.length/\(Zp [] qz ls).wy=1:=by
 refine JR ⟨by decide,rfl⟩ fun L l a=>?_;rw[QB,X1,VF,UG,Np,NK];push_cast;split
 ·exact⟨by show _+(0:Int)<=_;omega,by show _+(0:Int)=_;omega⟩
 ·exact⟨by show _+(1:Int)<=_;omega,by show _+(0:Int)=_;omega⟩
theorem Qg9{bs ws f la:List Str}{l:Ln}(j:LineOk bs ws la l)(i:∀a w b c,l=(["pair",a,w,b,c]:Ln)->w∈f)(m:X3 l=false):LineOk bs f la l:=by
 cases j with
 |plain h=>
  cases h with
  |pair d hw e g=>exact .plain (.pair d (i _ _ _ _ rfl) e g)
  |first d e=>exact .plain (.first d e)
  |second d e=>exact .plain (.second d e)
  |same d e=>exact .plain (.same d e)
  |none d=>exact .plain (.none d)
  |tell d=>exact .plain (.tell d)
 |«do» h=>exact .do h
 |blk h=>exact .blk h
 |back h=>exact absurd m (by show¬(_==_)=false;decide)
theorem GQ{bs ws:List Str}(g:GP bs ws R)(h:BkP Wd R Q)(hW:∀w∈Wd,Nm w)(aa:Wd.length<=5)(Y:∀x∈R,∀a w b c,(["pair",a,w,b,c]:Ln)∈x.2->w∈Wd):GoodP 96 bs Wd Q/\(als Q).length<=1000/\(∀x∈Q,Nm x.1)/\∀h,Q6 [Qs Q] h=some (.bl true,h):=by
 have o:∀x∈R,∀l∈x.2,X3 l=false:=fun x j l C=>by
  obtain⟨i,v⟩:=NS.mp j;exact(g.g.ok i x v l C).2
 have d:Q.length=R.length:=by have:=congrArg List.length h.names;simpa using this
 have get:∀y∈Q,∃x∈R,x.1=y.1/\Bkd Wd x.2 y.2:=fun y m=>by
  obtain⟨i,v⟩:=NS.mp m;obtain⟨x,J,h2⟩:=h.get v;exact⟨x,NL J,h2⟩
 have A:GoodP 96 bs Wd Q:=by
  refine⟨fun z=>?_,by rw[d];exact g.g.len,fun y m=>?_,fun y m=>?_,fun i y v l C=>?_,by rw[h.names];exact g.g.nd⟩
  ·rw[z]at d;exact g.g.ne (NO.mp d.symm)
  ·obtain⟨x,j,_,u⟩:=get y m;rw[u.kr];exact g.bal x j
  ·obtain⟨x,j,_,u⟩:=get y m;have:=g.ln x j;have:=u.len;omega
  ·obtain⟨x,j,_,u⟩:=h.get v;rw[h.names]
   rcases u.mem l C with z|⟨w,hw,rfl⟩
   ·obtain⟨G,F⟩:=g.g.ok i x j l z;exact Qg9 G (fun a w b c e=>Y x (NL j) a w b c (e▸z)) F
   ·exact .back hw
 have I:(als Q).length<=1000:=by
  have:=QfN (N:=96) A.sz;have:=A.len;have:Q.length*96<=5*96:=Nat.mul_le_mul_right _ this;omega
 have H:∀x∈Q,Nm x.1:=fun y m=>by
  obtain⟨x,j,e,_⟩:=get y m;rw[<-e];exact g.hn x j
 refine⟨A,I,H,?_⟩;cases h with
 |nil=>exact absurd rfl g.g.ne
 | @cons x y r s J u t=>
  obtain⟨nb,nw,a1,a2,_,_,a5⟩:=Qmd (x:=y) A (by decide) rfl I (by have:=g.b5;omega) (by omega) g.hb hW H;intro Z;rw[a5 Z];obtain⟨f1,f2,f3⟩:=g.fl x rfl;obtain⟨D,d0,d6,O,d2⟩:=g.dp;have dl:=Qkd g.g d0 O _ 0 x (Nt _) rfl;have hr:=t.sdr fun z B=>o z (No _ B);obtain⟨s1,s2,s3,T,s5⟩:=Qb3 hr u (o x (by simp));have b5:=g.b5
  have own:∀z∈y::s,smB (szw [] z.2)=true:=fun z B=>by
   obtain⟨f,n,_,E⟩:=get z B;obtain⟨G,F,o3,U,o5⟩:=Qb3 Qcw E (o f n);have p:=Qjb f.2;have X:=g.ln f n;have dd:=O f n;have q1:(szw [] f.2).pl=(Zp [] qz f.2).pl:=rfl;have q2:(szw [] f.2).wy=(Zp [] qz f.2).wy:=rfl;have q3:(szw [] f.2).dp=(Zp [] qz f.2).dp:=rfl;unfold tw at U;unfold smB;rw[decide_eq_true (by omega),decide_eq_true (by omega),decide_eq_true (by omega)];rfl
  have S:(Zk (x::r) 0 x)=szw (sd r) x.2:=rfl;have P:szw (sd ((y::s).drop 1)) y.2=szw (sd s) y.2:=rfl;rw[S]at f1 f2 f3 dl;have e0:D*(((x::r).length:Int)-(0:Nat))=D*(x::r).length:=by simp
  rw[e0]at dl;rw[P];unfold tw at f2 T
  have e1:smB (szw (sd s) y.2)=true:=by
   unfold smB;rw[decide_eq_true (by omega),decide_eq_true (by omega),decide_eq_true (by omega)];rfl
  rw[e1,decide_eq_true (by omega),decide_eq_true (by omega),decide_eq_true (by omega),NV.mpr own];rfl
end
theorem UL{bs ws:List Str}{R:List Pt}(g:GP bs ws R):∃vs:List Str,(∀w∈vs,w∈ws)/\vs.length<=5/\(∀x∈R,∀a w b c,(["pair",a,w,b,c]:Ln)∈x.2->w∈vs)/\∀h,VI [Qs R] h=some (.lst (vs.map .str),h):=by
 have i:=Zh (items:=R.map Qz) (b:=Zr [2,3]) (body:=ZF) (fun j t h=>∃(d:List Str) (p o:Option W),t=[some (Qs R),some (.lst (d.map .str)),p,o]/\h=[]/\(∀w∈d,w∈ws)/\d.length<=48*j/\∀x∈R.take j,∀a w b c,(["pair",a,w,b,c]:Ln)∈x.2->w∈d) (R.map Qz) 0 [some (Qs R),some (.lst []),none,none] [] ⟨[],none,none,rfl,rfl,by simp,by simp,by simp⟩ (by
  rintro j w B t h ⟨d,p,o,rfl,rfl,s,C,m⟩
  rw[Nq]at B;obtain⟨x,f,rfl⟩:=Nf.mp B;rw[NG]at *;have F:=(Ng.mp f).1;have G:=g.g.len;have u:=NL f;have H:=g.ln x u;obtain⟨r,N,U,M,J⟩:=Ku (kd:="pair") (k:=1) (Wd:=ws) (ls:=x.2) (mi:=Qo (Qb 3)) (σ:=[some (Qs R),some (.lst (d.map .str)),some (.str x.1),some (.tup (x.2.map Qf))]) (h:=[]) rfl ⟨_,rfl⟩ (by omega) fun l E=>QaF (g.g.ok j x f l E).1;have z:d.length+r.length<=sizeLine:=NE (szN (by omega));refine⟨[some (Qs R),some (.lst (d.map .str)),some (.str x.1),some (.tup (x.2.map Qf))],by simp[Zr,Qz,W6],[some (Qs R),some (.lst ((d++r).map .str)),some (.str x.1),some (.tup (x.2.map Qf))],[],.inl ?_,d++r,_,_,rfl,rfl,fun w hw=>(NQ.mp hw).elim (s w) (N w),by rw[Np];omega,fun y v a w b c A=>?_⟩
  ·have n:QC Zq (Qo (Qb 3)) [none] (Q2 0) (Qg (Qc wEq (Qc wIx (Qb 0) (mC (.int 0))) (mC (.str "pair")))) (Qc wIx (Qb 0) (mC (.int 2))) [some (Qs R),some (.lst (d.map .str)),some (.str x.1),some (.tup (x.2.map Qf))] []=some (.lst (r.map .str),[]):=J;unfold ZF;generalize QC Zq (Qo (Qb 3)) [none] (Q2 0) (Qg (Qc wEq (Qc wIx (Qb 0) (mC (.int 0))) (mC (.str "pair")))) (Qc wIx (Qb 0) (mC (.int 2)))=co at n;simp[n,z]
  ·rw[Eh,f]at v
   rcases NQ.mp v with q|q
   ·exact N2 _ (m y q a w b c A)
   ·simp at q;subst q
    exact NF _ (M _ _ A rfl))
 obtain⟨D,T,e,d,p,o,rfl,rfl,s,C,m⟩:=i;rw[Nu,NG]at C m;rw[Em]at m;have G:=g.g.len;have hu:=Ky s;have O:=g.w5;have I:=W0 (a:=.lst (d.map .str)) (ss:=d) (h:=[]) rfl (by omega) (by omega);refine⟨St.srt (St.uniq d),fun w hw=>s w ((St.uniq_mem _ _ rfl w).mp ((St.srt_spec _).1.mem_iff.mp hw)),by rw[GJ];omega,fun x f a w b c u=>(St.srt_spec _).1.mem_iff.mpr ((St.uniq_mem _ _ rfl w).mpr (m x f a w b c u)),fun h=>?_⟩
 have L:ZY (Qo (Qb 0)) (Zr [2,3]) ZF [some (Qs R),some (.lst []),none,none] []=some (.nx [some (Qs R),some (.lst (d.map .str)),p,o] []):=by
  unfold ZY;rw[show Qo (Qb 0) [some (Qs R),some (.lst []),none,none] []=some (R.map Qz,none,[])from rfl,Nk];exact e
 refine K1 (j:=0) (g:=[.lst ((St.srt (St.uniq d)).map .str)]) (by simp) ?_ rfl (by simp);simp[Vj,Qn,L,I]
noncomputable abbrev bS(ns:List Int)(R:List Pt)(Wd:List Str)(k:Nat)(x5 x6 x7:Option W):MSt:=[some (scr ns),some (Qs R),some (.lst (Wd.map .str)),some (.ref 0),some (.int k),x5,x6,x7]
theorem Qdc{ns:List Int}{R:List Pt}{Wd:List Str}(D:Wd≠[])(P:Wd.length<=5){k:Nat}(Y:k<5){x:Pt}(L:R[k]?=some x)(X:x.2.length<=48){a:MO}{t:MH}{m:Nat}(C:t[m]?=some (.lst [])){x6 x7:Option W} :
  ∃M p n,Bkd Wd x.2 M/\ZY (Xx (Qa (mFn JU (Qa (Qc wIx (Qc wIx (Qb 1) (Qb 4)) (mC (.int 1))) Qd)) Qd)) (Q2 6) Zx (bS ns R Wd k (some (.ref (m+1))) x6 x7) (a::t)=some (.nx (bS ns R Wd k (some (.ref (m+1))) p n) (a::t.set m (.lst (M.map Qf)))):=by
 have r:=(Ng.mp C).1;have E:∀o,(t.set m o)[m]?=some o:=fun o=>Ez r;have v:=YE L
 have g:=Zh (items:=QN 0 x.2.length) (b:=Q2 6) (body:=Zx) (fun j y h=>∃(M:List Ln) (x6 x7:Option W),y=bS ns R Wd k (some (.ref (m+1))) x6 x7/\h=a::t.set m (.lst (M.map Qf))/\Bkd Wd (x.2.take j) M) (QN 0 x.2.length) 0 (bS ns R Wd k (some (.ref (m+1))) x6 x7) (a::t) ⟨[],x6,x7,rfl,by rw[show(([]:List Ln).map Qf)=[]from rfl,Qau C],.nil⟩ (by
  rintro j w O y h ⟨M,x6,x7,rfl,rfl,f⟩
  obtain⟨s,rfl⟩:=K7 O;rw[NG]at *;have d:x.2[j]?=some x.2[j]:=Ni s;generalize x.2[j]=l at d;have N:x.2.take (j+1)=x.2.take j++[l]:=by rw[Eh,d];rfl
  have u:=f.len;rw[ED]at u;have z:M.length<sizeLine:=szN (by omega);have I:M.length+1<sizeLine:=szN (by omega);have em:=QhX ns (k:=200+50*k+j) (by omega) (a::t.set m (.lst (M.map Qf)));have T:=Qbg ns (200+50*k+j);generalize mx ns (200+50*k+j)=c at em T;push_cast at em;have F:atI (x.2.map Qf) (j:Int)=some (Qf l):=by rw[Zb,Nq,d];rfl
  have B:(-18446744073709551616:Int)<k:=by omega
  have A:(k:Int)<18446744073709551616:=by omega
  have q:(0:Int)<Wd.length:=by have:=DS.mpr D;omega
  have J:0<Wd.length:=DS.mpr D;rw[N]
  by_cases G:c%4=0
  ·obtain⟨w,hw,Q⟩:=Qbz (xs:=Wd) (i:=c/4%(Wd.length:Nat)) (NR _ (Fe q)) (NI _ q);refine⟨bS ns R Wd k (some (.ref (m+1))) (some (.int j)) x7,rfl,bS ns R Wd k (some (.ref (m+1))) (some (.int j)) (some (.int c)),a::t.set m (.lst ((M++[bkL w]++[l]).map Qf)),.inl ?_,M++[bkL w]++[l],_,_,rfl,rfl,.back f hw⟩;have S:Qf (bkL w)=.tup [.str "back",.str w]:=rfl;simp[bS,B,A,em,G,q,J,Q,E,z,I,tyW,v,F,S,Qz]
  ·refine⟨bS ns R Wd k (some (.ref (m+1))) (some (.int j)) x7,rfl,bS ns R Wd k (some (.ref (m+1))) (some (.int j)) (some (.int c)),a::t.set m (.lst ((M++[l]).map Qf)),.inl ?_,M++[l],_,_,rfl,rfl,.keep f⟩
   simp[bS,B,A,em,G,E,z,tyW,v,F,Qz])
 obtain⟨H,Z,e,M,p,n,rfl,rfl,f⟩:=g;rw[JL,NG,Em]at f;refine⟨M,p,n,f,?_⟩
 have ei:Qa (mFn JU (Qa (Qc wIx (Qc wIx (Qb 1) (Qb 4)) (mC (.int 1))) Qd)) Qd (bS ns R Wd k (some (.ref (m+1))) x6 x7) (a::t)=some ([.int (x.2.length:Nat)],a::t):=by
  simp[bS,v,Qz]
 unfold ZY;rw[XZ (j:=x.2.length) ei (by omega),Nk];exact e
theorem Qco(ns:List Int){bs ws:List Str}{R:List Pt}(g:GP bs ws R):∃(Wd:List Str) (Q:List Pt),BkP Wd R Q/\(∀w∈Wd,Nm w)/\Wd.length<=5/\(∀x∈R,∀a w b c,(["pair",a,w,b,c]:Ln)∈x.2->w∈Wd)/\∀h:MH,Jc [scr ns,Qs R] h=some (Qs Q,h):=by
 obtain⟨f,v1,S,P,v4⟩:=UL g;obtain⟨Wd,i⟩:∃Wd:List Str,Wd=if f=[]then[("spare":Str)]else f:=⟨_,rfl⟩
 have hW:Wd≠[]:=by
  rw[i];split
  ·simp
  ·assumption
 have A:Wd.length<=5:=by
  rw[i];split
  ·simp
  ·exact S
 have H:∀w∈Wd,Nm w:=fun w hw=>by
  rw[i]at hw;split at hw
  ·rw[NH.mp hw];exact Qfi
  ·exact g.hw w (v1 w hw)
 have G:∀x∈R,∀a w b c,(["pair",a,w,b,c]:Ln)∈x.2->w∈Wd:=fun x p a w b c Y=>by
  have:=P x p a w b c Y;rw[i];split
  ·rename_i z;rw[z]at this;cases this
  ·exact this
 have h5:=g.g.len
 have v:=Zh (items:=QN 0 R.length) (b:=Q2 4) (body:=Q7) (fun j I h=>∃(Q:List Pt) (r:MH) (C u n l:Option W),I=[some (scr ns),some (Qs R),some (.lst (Wd.map .str)),some (.ref 0),C,u,n,l]/\h=.lst (Q.map Qz)::r/\BkP Wd (R.take j) Q) (QN 0 R.length) 0 [some (scr ns),some (Qs R),some (.lst (Wd.map .str)),some (.ref 0),none,none,none,none] [.lst []] ⟨[],[],none,none,none,none,rfl,rfl,.nil⟩ (by
  rintro j w Z I h ⟨Q,r,C,u,n,l,rfl,rfl,B⟩
  obtain⟨F,rfl⟩:=K7 Z;rw[NG]at *;have p:R[j]?=some R[j]:=Ni F;generalize R[j]=x at p;have X:R.take (j+1)=R.take j++[x]:=by rw[Eh,p];rfl
  have E:(r++[MO.lst []])[r.length]?=some (.lst []):=by simp
  obtain⟨M,O,N,T,D⟩:=Qdc (ns:=ns) (R:=R) (Wd:=Wd) hW A (k:=j) (by omega) p (g.ln x (NL p)) (a:=.lst (Q.map Qz)) (t:=r++[.lst []]) (m:=r.length) E (x6:=n) (x7:=l)
  have aa:Q.length=j:=by
   have:=congrArg List.length B.names;simp at this;omega
  have z:Q.length<sizeLine:=szN (by omega);have ep:=YE p;have hS:∀o,((r++[MO.lst []]).set r.length o)[r.length]?=some o:=fun o=>Ez (by simp);refine⟨bS ns R Wd j u n l,rfl,bS ns R Wd j (some (.ref (r.length+1))) O N,MO.lst ((Q++[(x.1,M)]).map Qz)::(r++[MO.lst []]).set r.length (.lst (M.map Qf)),.inl ?_,Q++[(x.1,M)],_,_,_,_,_,rfl,rfl,by rw[X];exact B.snoc (x:=x) (y:=(x.1,M)) rfl T⟩;unfold Q7;generalize ZY (Xx (Qa (mFn JU (Qa (Qc wIx (Qc wIx (Qb 1) (Qb 4)) (mC (.int 1))) Qd)) Qd)) (Q2 6) Zx=fo at D;simp only[bS]at D
  simp[bS,D,hS,z,tyW,ep,Qz])
 obtain⟨L,h',e,Q,r,C,u,n,l,rfl,rfl,B⟩:=v;rw[JL,NG,Em]at B;refine⟨Wd,Q,B,H,A,G,fun h=>Qh (g:=.lst (Q.map Qz)::r) (by simp[scr]) ?_ (by simp)⟩
 have s:ZY (Xx (Qa (mFn JU (Qa (Qb 1) Qd)) Qd)) (Q2 4) Q7 [some (scr ns),some (Qs R),some (.lst (Wd.map .str)),some (.ref 0),none,none,none,none] [.lst []]=some (.nx [some (scr ns),some (Qs R),some (.lst (Wd.map .str)),some (.ref 0),C,u,n,l] (.lst (Q.map Qz)::r)):=by
  have ei:Qa (mFn JU (Qa (Qb 1) Qd)) Qd [some (scr ns),some (Qs R),some (.lst (Wd.map .str)),some (.ref 0),none,none,none,none] [.lst []]=some ([.int (R.length:Nat)],[.lst []]):=by simp[Qs]
  unfold ZY;rw[XZ (j:=R.length) ei (by omega),Nk];exact e
 unfold JT;generalize ZY (Xx (Qa (mFn JU (Qa (Qb 1) Qd)) Qd)) (Q2 4) Q7=fo at s;have eP:Qs Q=W.tup (Q.map Qz):=rfl;rw[eP]
 have d:wEq (.lst (f.map .str)) (.lst []) []=some (.bl f.isEmpty,[]):=by
  show wEq (Ze f) (.lst []) []=_;rw[Ql0 WA rfl (Nr G5 (by decide)) (by simp[dep,UC])];cases f<;>simp[Ze,eqW,Kr]
 generalize Q.map Qz=QQ at s
 by_cases c:f=[]
 ·rw[if_pos c]at i;subst c;rw[i]at s;simp at s d;have J:=v4 [];simp at J;simp[Qn,J,d,s]
 ·rw[if_neg c]at i;have U:f.isEmpty=false:=by simpa using c
  rw[U]at d;rw[i]at s;simp[Qn,v4,d,s]
theorem Qls{P:List Pt}{h:MH}:wNe (Qs P) (Qs P) h=some (.bl false,h):=by
 rw[QmY GG GG (Nr QfB (by decide)) (Nr QfB (by decide)),W8 _ GG];rfl
theorem QlH{P:List Pt}{h:MH}:wEq (Qs P) (Qs P) h=some (.bl true,h):=by
 rw[Ql0 GG GG (Nr QfB (by decide)) (Nr QfB (by decide)),W8 _ GG]
theorem Qat:∀p:List Pt,(Qu p).length=(als p).length+p.length
 |[]=>rfl
 |x::p=>by
  have:=Qat p;simp only[Qu,als,Fq,Np,NW]at this ⊢;have e:(KO x).length=x.2.length+1:=by simp[KO]
  omega
theorem Qiv{N:Nat}{bs ws:List Str}{p:List Pt}(g:GoodP N bs ws p)(j:(als p).length<=1000)(h:∀x∈bs,Nm x)(hw:∀x∈ws,Nm x)(a:∀x∈p,Nm x.1):RP p:=by
 refine⟨a,fun x c l e=>?_,by rw[Qat];have:=g.len;omega⟩;obtain⟨i,f⟩:=NS.mp c;refine⟨bs,ws,(p.map (·.1)).drop (i+1),h,hw,fun z b=>?_,g.ok i x f l e⟩;obtain⟨q,d,rfl⟩:=NC.mp (LD b);exact a q d
theorem main(ns:List Int)(s:ns.length<=63):∃h',Kz [.frz (ns.map W.int)] []=some (.bl true,h'):=by
 obtain⟨bs,x,R,g,m⟩:=QbG ns s;obtain⟨Wd,Q,v,j,c,b,n⟩:=Qco ns g;obtain⟨l,u,p,o⟩:=GQ g v j c b;have a:=Qiv l u g.hb j p;obtain⟨f1,f2⟩:=Qav a;have d:=fun h=>Yz (h:=h) a f2;have f:=fun h=>G0 (h:=h) a;have e:=fun h=>Qig (h:=h) a l.ne o;have w:V7 (.str (Str.ofString "\n")) [.lst ((Qu Q).map .str)] []=some (.str (Xy Q),[]):=by rw[QhJ];exact jL f2
 have en:=Qls (P:=Q) (h:=[]);have eq:=QlH (P:=Q) (h:=[]);have ei:Gf [Qs Q,.ty "tuple"] []=some (.bl true,[]):=by unfold Qs;simp[JJ]
 have i:∀t:Str,Gf [.str t,.ty "str"] []=some (.bl true,[]):=fun t=>by simp[JJ]
 generalize Xy Q=t at *;generalize(Qu Q).map W.str=y at *;generalize Qs Q=q at *;generalize Qs R=r at *;have z:∀h:MH,h=h:=fun _=>rfl;refine⟨[],?_⟩;simp only[scr]at m n;simp[Kz,Qn,m,n,f,w,d,i,en,e,ei,eq,tyW]
end My
def PySem.W.Fast.tw5928504366995006734:Unit:=()
def PySem.W.Fast.tw16394214083511437824:Unit:=()
def PySem.W.Fast.tw9019163337748308468:Unit:=()
def PySem.W.Fast.tw5531776158363295799:Unit:=()
def PySem.W.Fast.tw16725532035706469218:Unit:=()
def PySem.W.Fast.tw4503996801323911611:Unit:=()
def PySem.W.Fast.tw15002663919814363927:Unit:=()
def PySem.W.Fast.tw6398611293152283894:Unit:=()
def PySem.W.Fast.tw5304382851110510287:Unit:=()
def PySem.W.Fast.tw15940654049021954519:Unit:=()
def PySem.W.Fast.tw1644012972723926572:Unit:=()
def PySem.W.Fast.tw8939627760365391429:Unit:=()
def PySem.W.Fast.tw7495337963739913260:Unit:=()
def PySem.W.Fast.tw16099754390026811840:Unit:=()
def PySem.W.Fast.tw9885573099859981971:Unit:=()
def PySem.W.Fast.tw8013046847209055455:Unit:=()
def PySem.W.Fast.tw959843906269327631:Unit:=()
def PySem.W.Fast.tw11083851680953216070:Unit:=()
def PySem.W.Fast.tw63858074822749607:Unit:=()
def PySem.W.Fast.tw15887580684976421695:Unit:=()
def PySem.W.Fast.tw14896504253848880233:Unit:=()
def PySem.W.Fast.tw9268104147083824894:Unit:=()
def PySem.W.Fast.tw9064237924341120452:Unit:=()
def PySem.W.Fast.tw4622907482206004778:Unit:=()
def PySem.W.Fast.tw6709938679943690538:Unit:=()
def PySem.W.Fast.tw6715419477078843068:Unit:=()
def PySem.W.Fast.tw9599177167171979901:Unit:=()
def PySem.W.Fast.tw1496687286179535103:Unit:=()
def PySem.W.Fast.tw1675021857497281044:Unit:=()
def PySem.W.Fast.tw9169032930112159049:Unit:=()
def PySem.W.Fast.tw11247370472236352248:Unit:=()
def PySem.W.Fast.tw7596628022937252776:Unit:=()
def PySem.W.Fast.tw10476448578195143843:Unit:=()
def PySem.W.Fast.tw14222245288671367706:Unit:=()
def PySem.W.Fast.tw13247545911218416042:Unit:=()
def PySem.W.Fast.tw12727697479782589570:Unit:=()
def PySem.W.Fast.tw6679023709374160209:Unit:=()
def PySem.W.Fast.tw3319408595169559591:Unit:=()
def PySem.W.Fast.tw9464234191091101948:Unit:=()
def PySem.W.Fast.tw6285270128737941895:Unit:=()
def PySem.W.Fast.tw14877313937380988745:Unit:=()
def PySem.W.Fast.tw5223608787702378187:Unit:=()
def PySem.W.Fast.tw6344735297379723400:Unit:=()
def PySem.W.Fast.tw9918640105667692137:Unit:=()
def PySem.W.Fast.tw13998122739304930710:Unit:=()
def PySem.W.Fast.tw11556914014974209223:Unit:=()
def PySem.W.Fast.tw18443960021500155739:Unit:=()
def PySem.W.Fast.tw11943368184019347428:Unit:=()
def PySem.W.Fast.tw5033756728328629941:Unit:=()
def PySem.W.Fast.tw8674403135940720572:Unit:=()
def PySem.W.Fast.tw11872182249533236050:Unit:=()
def PySem.W.Fast.tw8093359718329990883:Unit:=()
def PySem.W.Fast.tw761508598996672931:Unit:=()
def PySem.W.Fast.tw17125184631758049651:Unit:=()
def PySem.W.Fast.tw16006395152901444867:Unit:=()
def PySem.W.Fast.tw4105299686390147286:Unit:=()
def PySem.W.Fast.tw13324196282538180774:Unit:=()
def PySem.W.Fast.tw8884841718261239300:Unit:=()
def PySem.W.Fast.tw1047747658524884112:Unit:=()
def PySem.W.Fast.tw10712174763371961821:Unit:=()
def PySem.W.Fast.tw4918159462543243854:Unit:=()
def PySem.W.Fast.tw17823970557450978324:Unit:=()
def PySem.W.Fast.tw14829336609153946000:Unit:=()
def PySem.W.Fast.tw921443839449830733:Unit:=()
def PySem.W.Fast.tw4682776946850955322:Unit:=()
def PySem.W.Fast.tw3877110420623847227:Unit:=()
def PySem.W.Fast.tw2518258138564932457:Unit:=()
def PySem.W.Fast.tw11443841985637198708:Unit:=()
def PySem.W.Fast.tw14006313927437560451:Unit:=()
def PySem.W.Fast.tw18236578433597572643:Unit:=()
def PySem.W.Fast.tw2504985929446122069:Unit:=()
def PySem.W.Fast.tw2543243105478862423:Unit:=()
def PySem.W.Fast.tw1195060385710519710:Unit:=()
def PySem.W.Fast.tw2651631089896169424:Unit:=()
def PySem.W.Fast.tw9720900841594655068:Unit:=()
def PySem.W.Fast.tw9752711179032957877:Unit:=()
def PySem.W.Fast.tw13814712131541373950:Unit:=()
def PySem.W.Fast.tw15996067332810729382:Unit:=()
def PySem.W.Fast.tw14304642464413717347:Unit:=()
def PySem.W.Fast.tw14144959832692530167:Unit:=()
def PySem.W.Fast.tw9496655521377177315:Unit:=()
def PySem.W.Fast.tw6859942053930615735:Unit:=()
def PySem.W.Fast.tw17167901061503441324:Unit:=()
def PySem.W.Fast.tw6612240715765657382:Unit:=()
def PySem.W.Fast.tw1941516216828677109:Unit:=()
def PySem.W.Fast.tw1295746296741924592:Unit:=()
def PySem.W.Fast.tw17911152772948702215:Unit:=()
def PySem.W.Fast.tw4783452508240002148:Unit:=()
def PySem.W.Fast.tw17150580424732141440:Unit:=()
def PySem.W.Fast.tw6078612121991113548:Unit:=()
def PySem.W.Fast.tw9981390476298307263:Unit:=()
def PySem.W.Fast.tw4541966104743407801:Unit:=()
def PySem.W.Fast.tw7139245383256116525:Unit:=()
def PySem.W.Fast.tw3949066639367207072:Unit:=()
def PySem.W.Fast.tw9892999422988194346:Unit:=()
def PySem.W.Fast.tw12349252900799051379:Unit:=()
def PySem.W.Fast.tw4806628043597175471:Unit:=()
def PySem.W.Fast.tw12798052595812181077:Unit:=()
def PySem.W.Fast.tw10548398403852073690:Unit:=()
def PySem.W.Fast.tw3926023406406759716:Unit:=()
def PySem.W.Fast.tw5918629708723389323:Unit:=()
def PySem.W.Fast.tw9780700747765567035:Unit:=()
def PySem.W.Fast.tw4643589577611645246:Unit:=()
open PySem PySem.W PyProof.Rows
local macro_rules | `(tactic| walk_at $s:str) => do
  match s.getString with
  | "~1" => `(tactic| (dsimp only [L2.KOf]; refine' Mi.KW $(Lean.mkIdent `KX) $(Lean.mkIdent `G) ?a ?l ?c ?k ?b; (case a => k_is); (case l => k_is); (case c => k_is); (case k => k_is); (case b => exact fun _ _ _ _ _ _ => Mi.ar1 (fun _ => rfl))))
  | "~2" => `(tactic| (dsimp only [L2.KOf]; refine' Mi.KW $(Lean.mkIdent `KX) $(Lean.mkIdent `G) ?a ?l ?c ?k ?b; (case a => k_is); (case l => k_is); (case c => k_is); (case k => k_is); (case b => exact fun _ _ _ _ _ _ => Mi.ar2 (fun _ _ => rfl))))
  | "~3" => `(tactic| (dsimp only [L2.KOf]; refine' Mi.KW $(Lean.mkIdent `KX) $(Lean.mkIdent `G) ?a ?l ?c ?k ?b; (case a => k_is); (case l => k_is); (case c => k_is); (case k => k_is); (case b => exact fun _ _ _ _ _ _ => Mi.ar3 (fun _ _ _ => rfl))))
  | "~6" => `(tactic| (dsimp only [L2.KOf]; refine' Mi.KW $(Lean.mkIdent `KX) $(Lean.mkIdent `G) ?a ?l ?c ?k ?b; (case a => k_is); (case l => k_is); (case c => k_is); (case k => k_is); (case b => exact fun _ _ _ _ _ _ => Mi.ar6 (fun _ _ _ _ _ _ => rfl))))
  | "~b" => `(tactic| (refine' PySem.W.mg_none_of $(Lean.mkIdent `KX) $(Lean.mkIdent `G) ?a; (case a => k_is)))
  | _ => Lean.Macro.throwUnsupported
set_option maxRecDepth 100000 in
set_option maxHeartbeats 0 in
theorem PySem.Challenge.cw_doneroom_k06_programs_as_texts_holds : PySem.Challenge.rw_doneroom_k06_programs_as_texts.Holds := by
  w_on; o_law; k_head; (case hw => w_witness2)
  k_fill
  refine Mi.QlP (l := PySem.Challenge.rw_doneroom_k06_programs_as_texts) (st := My.Uf) (sem := My.Kz) (k := 9) rfl rfl ⟨rfl, by decide, by decide⟩ rfl (fun w h Y => PySem.W.kIn_of Y) (fun _ _ _ _ _ _ _ _ => .of_eq rfl) ?F My.main
  case F =>
    intro w mg h KX G
    have d__law_words : Mi.DefAt (L2.KOf KX) mg "_law_words" My.Jr ["program"] := by walk_at "~1"
    have d__law_mixed : Mi.DefAt (L2.KOf KX) mg "_law_mixed" My.JC ["script", "k"] := by walk_at "~2"
    have d__law_backed : Mi.DefAt (L2.KOf KX) mg "_law_backed" My.Z5 ["script", "program"] := by walk_at "~2"
    have d_gives : Mi.DefAt (L2.KOf KX) mg "gives" My.K5 ["line"] := by walk_at "~1"
    have d_show_line : Mi.DefAt (L2.KOf KX) mg "show_line" My.Vh ["line"] := by walk_at "~1"
    have d_show_program : Mi.DefAt (L2.KOf KX) mg "show_program" My.ZR ["program"] := by walk_at "~1"
    have d_is_small_letter : Mi.DefAt (L2.KOf KX) mg "is_small_letter" My.Zc ["sign"] := by walk_at "~1"
    have d_is_name : Mi.DefAt (L2.KOf KX) mg "is_name" My.Xt ["thing"] := by walk_at "~1"
    have d_is_part_row : Mi.DefAt (L2.KOf KX) mg "is_part_row" My.Ja ["words"] := by walk_at "~1"
    have d_has_right_names : Mi.DefAt (L2.KOf KX) mg "has_right_names" My.QS ["parts"] := by walk_at "~1"
    have d_level_change : Mi.DefAt (L2.KOf KX) mg "level_change" My.ZO ["line"] := by walk_at "~1"
    have d_line_size : Mi.DefAt (L2.KOf KX) mg "line_size" My.Vb ["line", "sizes"] := by walk_at "~2"
    have d_size_with : Mi.DefAt (L2.KOf KX) mg "size_with" My.Vg ["lines", "sizes"] := by walk_at "~2"
    have d_flat_size : Mi.DefAt (L2.KOf KX) mg "flat_size" My.Vc ["program"] := by walk_at "~1"
    have d_is_small : Mi.DefAt (L2.KOf KX) mg "is_small" My.VZ ["size"] := by walk_at "~1"
    have d_all_lines : Mi.DefAt (L2.KOf KX) mg "all_lines" My.Vd ["program"] := by walk_at "~1"
    have d_boxes_in : Mi.DefAt (L2.KOf KX) mg "boxes_in" My.V0 ["line"] := by walk_at "~1"
    have d_boxes_of : Mi.DefAt (L2.KOf KX) mg "boxes_of" My.VN ["program"] := by walk_at "~1"
    have d_words_of : Mi.DefAt (L2.KOf KX) mg "words_of" My.VR ["program"] := by walk_at "~1"
    have d_own_size : Mi.DefAt (L2.KOf KX) mg "own_size" My.VQ ["lines"] := by walk_at "~1"
    have d_keeps_bounds : Mi.DefAt (L2.KOf KX) mg "keeps_bounds" My.ZG ["parts"] := by walk_at "~1"
    have d_is_blocks : Mi.DefAt (L2.KOf KX) mg "is_blocks" My.J2 ["lines"] := by walk_at "~1"
    have d_is_line : Mi.DefAt (L2.KOf KX) mg "is_line" My.Xs ["thing"] := by walk_at "~1"
    have d_is_part : Mi.DefAt (L2.KOf KX) mg "is_part" My.Xw ["thing"] := by walk_at "~1"
    have d_is_program : Mi.DefAt (L2.KOf KX) mg "is_program" My.JA ["thing"] := by walk_at "~1"
    have d_giving_line : Mi.DefAt (L2.KOf KX) mg "giving_line" My.Z7 ["box", "words"] := by walk_at "~2"
    have d_line_of_words : Mi.DefAt (L2.KOf KX) mg "line_of_words" My.Zy ["words"] := by walk_at "~1"
    have d_read_program : Mi.DefAt (L2.KOf KX) mg "read_program" My.ZV ["text"] := by walk_at "~1"
    have d__law_names : Mi.DefAt (L2.KOf KX) mg "_law_names" My.Q4 ["number", "many"] := by walk_at "~2"
    have d__law_sized : Mi.DefAt (L2.KOf KX) mg "_law_sized" My.Zn ["parts", "number"] := by walk_at "~2"
    have d__law_closed : Mi.DefAt (L2.KOf KX) mg "_law_closed" My.Z8 ["waiting"] := by walk_at "~1"
    have d__law_line : Mi.DefAt (L2.KOf KX) mg "_law_line" My.J5 ["number", "boxes", "words"] := by walk_at "~3"
    have d__law_lines : Mi.DefAt (L2.KOf KX) mg "_law_lines" My.Jx ["numbers", "boxes", "words", "others", "deep", "left"] := by walk_at "~6"
    have d__law_program : Mi.DefAt (L2.KOf KX) mg "_law_program" My.Q0 ["script", "top"] := by walk_at "~2"
    have d__law_row : Mi.DefAt (L2.KOf KX) mg "_law_row" My.VO ["line"] := by walk_at "~1"
    have d__law_rows : Mi.DefAt (L2.KOf KX) mg "_law_rows" My.JZ ["program"] := by walk_at "~1"
    have d_law : Mi.DefAt (L2.KOf KX) mg "law" My.Uf ["script"] := by walk_at "~1"
    have g_GIVING : Mi.Glob (L2.KOf KX) mg "GIVING" My.Xc := by
      dsimp only [L2.KOf]
      refine' Mi.Ug KX G ?a ?l ?z ?s
      (case a => k_is); (case l => k_is)
      (case z => decide)
      (case s => repeat constructor)
    have g_KEPT : Mi.Glob (L2.KOf KX) mg "KEPT" My.Yf := by
      dsimp only [L2.KOf]
      refine' Mi.Ug KX G ?a ?l ?z ?s
      (case a => k_is); (case l => k_is)
      (case z => decide)
      (case s => repeat constructor)
    have g_MOST_BACKS : Mi.Glob (L2.KOf KX) mg "MOST_BACKS" My.Jy := by
      dsimp only [L2.KOf]
      refine' Mi.J9 KX G ?a
      (case a => k_is)
    have g_MOST_BLOCKS : Mi.Glob (L2.KOf KX) mg "MOST_BLOCKS" My.Jb := by
      dsimp only [L2.KOf]
      refine' Mi.J9 KX G ?a
      (case a => k_is)
    have g_MOST_BOXES : Mi.Glob (L2.KOf KX) mg "MOST_BOXES" My.JD := by
      dsimp only [L2.KOf]
      refine' Mi.J9 KX G ?a
      (case a => k_is)
    have g_MOST_LETTERS : Mi.Glob (L2.KOf KX) mg "MOST_LETTERS" My.QZ := by
      dsimp only [L2.KOf]
      refine' Mi.J9 KX G ?a
      (case a => k_is)
    have g_MOST_LINES : Mi.Glob (L2.KOf KX) mg "MOST_LINES" My.Jq := by
      dsimp only [L2.KOf]
      refine' Mi.J9 KX G ?a
      (case a => k_is)
    have g_MOST_PARTS : Mi.Glob (L2.KOf KX) mg "MOST_PARTS" My.Zo := by
      dsimp only [L2.KOf]
      refine' Mi.J9 KX G ?a
      (case a => k_is)
    have g_MOST_WAYS : Mi.Glob (L2.KOf KX) mg "MOST_WAYS" My.J6 := by
      dsimp only [L2.KOf]
      refine' Mi.J9 KX G ?a
      (case a => k_is)
    have g_MOST_WORDS : Mi.Glob (L2.KOf KX) mg "MOST_WORDS" My.Jt := by
      dsimp only [L2.KOf]
      refine' Mi.J9 KX G ?a
      (case a => k_is)
    have g_NAMES_BEHIND : Mi.GTab w (L2.KOf KX) mg "NAMES_BEHIND" My.QE := by
      dsimp only [L2.KOf]
      refine' Mi.Qht KX G ?ga ?gl ?gk ?gs ?gt
      (case ga => k_is); (case gl => k_is)
      (case gk => repeat (first | exact True.intro | refine ⟨⟨_, _, rfl, rfl⟩, ?_⟩))
      (case gs => decide)
      (case gt => repeat (first | exact Mi.TabIs.nil | refine Mi.TabIs.cons rfl rfl ?_))
    have g_UNENTERED_DO : Mi.Glob (L2.KOf KX) mg "UNENTERED_DO" My.ZP := by
      dsimp only [L2.KOf]
      change Mi.Glob _ _ _ (Mi.W.tup (List.map Mi.W.int [1, 0, 0, 0])); refine' Mi.Qdy KX G ?a ?l ?z ?s
      (case a => k_is); (case l => k_is)
      (case z => decide)
      (case s => repeat constructor)
    have b_all : mg "all" = none := by walk_at "~b"
    have b_enumerate : mg "enumerate" = none := by walk_at "~b"
    have b_int : mg "int" = none := by walk_at "~b"
    have b_isinstance : mg "isinstance" = none := by walk_at "~b"
    have b_len : mg "len" = none := by walk_at "~b"
    have b_list : mg "list" = none := by walk_at "~b"
    have b_max : mg "max" = none := by walk_at "~b"
    have b_min : mg "min" = none := by walk_at "~b"
    have b_range : mg "range" = none := by walk_at "~b"
    have b_reversed : mg "reversed" = none := by walk_at "~b"
    have b_set : mg "set" = none := by walk_at "~b"
    have b_sorted : mg "sorted" = none := by walk_at "~b"
    have b_str : mg "str" = none := by walk_at "~b"
    have b_tuple : mg "tuple" = none := by walk_at "~b"
    have b_zip : mg "zip" = none := by walk_at "~b"
    exact ⟨d_law, fun base kb nb => My.Qhu d__law_words d__law_mixed d__law_backed d_gives d_show_line d_show_program d_is_small_letter d_is_name d_is_part_row d_has_right_names d_level_change d_line_size d_size_with d_flat_size d_is_small d_all_lines d_boxes_in d_boxes_of d_words_of d_own_size d_keeps_bounds d_is_blocks d_is_line d_is_part d_is_program d_giving_line d_line_of_words d_read_program d__law_names d__law_sized d__law_closed d__law_line d__law_lines d__law_program d__law_row d__law_rows d_law g_GIVING g_KEPT g_MOST_BACKS g_MOST_BLOCKS g_MOST_BOXES g_MOST_LETTERS g_MOST_LINES g_MOST_PARTS g_MOST_WAYS g_MOST_WORDS g_NAMES_BEHIND g_UNENTERED_DO b_all b_enumerate b_int b_isinstance b_len b_list b_max b_min b_range b_reversed b_set b_sorted b_str b_tuple b_zip⟩
