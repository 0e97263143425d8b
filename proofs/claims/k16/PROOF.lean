import PyProof.Rows.All
import Wide.All
import OpenK.AllK
import Wide.FinOn
import Lean
import PyProof.EqAt
import PyProof.EqKinds
import PyProof.TupleCall
import KE.KDictList
import KE.KRevIter
import KE.KTurns
import PyProof.Rows.SetFrom
import PyProof.Rows.SortStr
import PyProof.FactsAll.set
import PyProof.Draws
import PyProof.EnumMake
import PyProof.AttrMissSeq
import KE.KDictOf
import PyProof.Walks
import KE.KSortTup
import KE.KItemsList
import KE.KDictSum
import PyProof.Rows.SortRev
import KE.KDictLaws
import PyProof.DictTruth
import PyProof.MinMaxWalk
import PyProof.WalkInts
import PySem.Challenge.RW_doneroom_k16_flat_programs
set_option Elab.async false
set_option bootstrap.genMatcherCode false
set_option linter.all false
set_option maxRecDepth 100000
noncomputable section
/-! THE HAND LAYER, for ints, bools, texts, own classes, LISTS and tuples (index, slices, in, append, pop ..), calls, loops. Paste it whole ahead of your own text; what your proof does not reach may be deleted. -/
open PySem renaming wpAny_bind->Na,wpAny_pure->Ng,wpAny_setState_of->NJ,wpAny_mono->N0,wpAny_newObj_type->N3,wpAny_call_entry->N5,builtinLookup_eq_fast->Ec,wpAny_callSpecial?_slot->Ed,wpAny_Call_Name_kw->Ee,wpAny_holding->Ek,wpAny_askSetting->Et,wpAny_field->Ey,wpAny_of_eq->Ez,wpAny_setField->EA,isSubtype_type->EG,typeLookup_type->EK,wpAny_loadPart'->EZ,wpAny_truthy_bool->E3,wpAny_specialOf->De,wpAny_passesOwn->Df,sizeLine_eq->Dj,mem_of_lookup->Dr,wpAny_getItem_str_slice->Dv,wpAny_rule->Dw,wpAny_updateSeq->Dy,codeAny_builtin->Dz,wpAny_seqItems->DE,wpAny_isInstance->DL,plainId_quiet->DT,wpAny_attempt->DU,codeAny_mono->D0,wpAny_typeOf->D2,wpAny_pyIter_tuple->D3,wpAny_storeSet_of->Ff,wpAny_execs_nil->Fx,call_meets->Fy,post_val_or_str->FB,wpAny_setEntries_of->FH,entryFor_alias->FK,wpAny_mkInt->FN,eqIsQuiet_byValue->FV,wpAny_pyIter_list->FZ,fits_of_scanBound->F4,wpAny_pyIter_slot->F5,noFill_tuple_add->Ij,entryFor_of_tree->Ip,wpAny_ite_split->IE,wpAny_pyNext_range_end->II,wpAny_pyIter_rangeiter->IJ,boot_len->Lc,wpAny_loadName_local->Lh,codeAny_extend_loopS->Ll,wpAny_standAt->Lu,seq_tuple_add->Lv,wpAny_handled->Lx,wpAny_loadName_cell->Lz,wpAny_pyIter_range->LM,concat_meets->LO,seqIndex_neg->LQ,sub_set_self->LR,wpAny_forIn_array'->LV,wpAny_assign_Name->LY,wpAny_sequenceKey->L0,slot_list_getitem->L3,list_append->L4,wpAny_setEpoch_of->L7,wpAny_pyIter_enum->Oa,seqIndex_of->Oc,wpAny_throw->Od,wpAny_Name->Oq,typeIs_str->Ou,call->Ov,Within->OP
open Option renaming bind_eq_some_iff->Nc,map_eq_some_iff->Nf,bind_some->Np,isSome_iff_exists->Ii,getD_none->Og,map_some->Oz
open PySem.W renaming Frag->Nd,kia_one->Eb,fnOf->Dc,keepIn->DF,mg_of->DR,KeysLit->DX,nsIn->D4,codeIn->FI,methodObj->FW,kitx_list->FY,instObj->IB,cellsFrom_some->IL,lookIn->IV,findIn->IW,pyHash_slot->Ly,kitx_tuple->LN,kitx_dict->LZ,plainGet->Of,kitOne->OE,WalkO->OK
open List renaming getElem?_eq_some_iff->Nh,getElem?_eq_getElem->Ni,size_toArray->Nj,mem_cons_of_mem->Nq,mem_cons_self->Nt,length_append->Ny,getElem?_map->Nz,map_cons->NA,length_map->NC,mem_iff_getElem?->NE,mem_map->NF,mem_cons->NH,mem_append_right->NI,length_eq_zero_iff->NM,mem_of_getElem?->NN,mem_singleton->NO,length_cons->NR,mem_append_left->NS,getElem?_append_left->NT,findIdx?_eq_some_iff_getElem->NW,getElem?_eq_none->N6,lookup_cons->N8,mem_range->Ea,nodup_cons->Ef,drop_eq_nil_of_le->Eh,drop_eq_getElem_cons->Ei,length_singleton->El,take_append_drop->Em,mem_append->Eo,find?_cons->Ep,mem_replicate->Er,all_eq_true->Es,take_length->Eu,flatMap_cons->ED,not_mem_nil->EF,append_nil->EI,map_append->EJ,getElem?_range->EM,length_pos_iff->EN,getElem?_append_right->ER,any_cons->ES,getD_eq_getElem?_getD->ET,nodup_nil->EV,reverse_cons->E4,take_add_one->E5,toList_toArray->E6,dropLast_concat_getLast->E8,getElem?_set_self->E9,length_set->Dg,length_nil->Dh,filterMap_cons->Dq,length_reverse->Ds,flatMap_append->Du,ext_getElem?->DB,append_assoc->DD,getElem?_toArray->DI,map_map->DJ,getElem?_set_ne->DM,length_take->DN,mem_of_mem_drop->DP,sum_cons->DS,countP_eq_zero->DV,findIdx?_eq_none_iff->DY,length_erase_of_mem->D6,drop_zero->D8,length_range->Fe,all_cons->Fj,map_drop->Fk,nodup_range->Fm,take_succ_eq_append_getElem->Fo,countP_cons->Fp,getElem?_reverse->Fv,mem_erase_of_ne->FD,nil_append->FE,mem_filterMap->FP,countP_append->FR,getElem?_drop->FS,length_eraseIdx_of_lt->FU,any_eq_false->FX,nodup_append->F3,pairwise_map->F6,drop_sublist->F7,getElem?_eq_none_iff->Ia,pairwise_iff_getElem->Ig,length_drop->Ik,map_nil->Il,getElem_mem->Io,eq_of_mem_replicate->Is,mem_flatMap->Iu,getElem?_replicate->Iv,of_mem_zip->IC,foldl_cons->ID,map_const'->IH,range_succ_eq_map->IP,take_of_length_le->IR,length_pos_of_mem->IS,length_replicate->IX,dropLast_eq_take->IZ,contains_iff_mem->La,countP_eq_length->Lf,cons_lt_cons_iff->Lg,length_dropLast->Lk,perm_cons_erase->Lm,getElem?_zipIdx->Lq,mem_of_mem_take->Lr,filter_eq_self->LD,mem_map_of_mem->LG,length_flatMap->LH,countP_pos_iff->LI,length_zipIdx->LU,filter_append->LW,getElem?_set->L5,any_toArray->Oi,filter_cons->Oj,map_reverse->Om,mem_filter->Oo,range_zero->Oy,not_lt_nil->OD,foldl_nil->OG,drop_drop->OH,le_trans->OM,all_map->OQ
open PySem.Heap renaming get?_push_of_some->Nk,lt_size->Nu,get?_push_size->Nw,get?_update_self->NU,get?_update_other->N9,size_push->D7
open Nat renaming le_trans->Nl,lt_of_lt_of_le->Nn,lt_of_le_of_lt->No,le_of_eq->Nr,le_add_right->Nv,le_refl->Nx,le_of_lt->NB,ne_of_lt->NG,not_lt->NQ,zero_add->NX,zero_le->NY,lt_succ_self->Eg,add_lt_add_left->Ej,lt_irrefl->Ev,lt_trans->Ew,sub_le->Da,ne_of_gt->Db,not_lt_zero->Dx,succ_pos->DG,lt_or_ge->DH,le_antisymm->DW,sub_lt_left_of_lt_add->DZ,add_right_comm->D5,le_of_lt_succ->Fc,lt_succ_of_lt->Fg,add_assoc->Fi,min_le_right->Fl,not_le->FA,mul_le_mul_right->FF,add_sub_cancel'->FG,le_succ->FO,mod_lt->Ic,not_lt_of_le->Iq,add_sub_cancel_left->Iw,lt_succ_of_le->Ob,mul_le_mul->OF
open Array renaming length_toList->ND,getElem?_eq_getElem->NL,getElem?_toList->N7,getD_eq_getD_getElem?->DK,eq_empty_of_size_eq_zero->FC,getElem?_eq_none->IT,forIn_toList->LL,toList_push->L6
open Bool renaming and_eq_true->NK,false_ne_true->NZ,false_eq_true->EU,or_eq_true->E1,and_false->E7,eq_iff_iff->IG,and_true->Ls,or_false->Lw,not_true->OJ,and_self->ON,false_or->OO
open PySem.Heap.SameBut renaming update->NP,refl->DC,extBut->LF
open PyProof.Rows renaming callWith_type1->NV,slot_tuple_getitem->N2,callWith_builtin1->EY,boot_tuple->Iz,subscriptTail_builtinR->IM,boot_max->Ld,boot_str->Le,entry_tuple_getitem->LA,args_tuple_getitem->LP,boot_list->On,boot_range->Os,Subscript_->Ot
open Option.some renaming inj->N1
open PySem.F renaming plainAttrs_list->N4,slot_list_extend->EO,slot_tuple_iterator_next->Di,called_set->Dl,type_list_extend->Dm,plain_extend_loop->DA,slot_list_pop->DQ,args_tuple_add_2->D1,entry_tuple_add->D9,slot_list_index->Fa,slot_tuple_add->Fh,type_list_pop->Fw,slot_list_append->Fz,args_tuple_iterator_next_1->FL,entry_tuple_iterator_next->FQ,slot_dict_getitem->F9,type_list_index->IA,slot_dict_get->IY,args_list_append_2->Li,args_list_extend_2->Lj,args_object_init_2->Lp,entry_list_append->LB,entry_list_extend->LC,plain_set_new->OA,slot_set_iter->OB
open Int renaming toNat_natCast->EB,emod_nonneg->EL,emod_lt_of_pos->EW,toNat_of_nonneg->Dt,not_le->F8,ne_of_gt->Ih,le_refl->IQ,le_trans->LX,add_mul->Oe,ediv_nonneg->Ox
open PySem.Calls renaming spliced_cons->EE,spliced_nil->EH,Name_function_global->FT,callWith_builtin->IN
open PySem.Paired renaming length->EQ,snoc->OU
open Classical renaming byContradiction->EX,choose_spec->Ft
open Ne renaming symm->E2
open PySem.Obj renaming data_mapFields->Dd,isFreed_of_fields->Fq,cls_mapFields->L8
open LawfulBEq renaming eq_of_beq->Dk
open PySem.Value renaming isStrOf_shape->Dn
open PySem.Around renaming under_plainId->DO
open PyProof.Rows.F renaming plain_set_update_loop->Fb,entry_set_update_loop->Iy
open PyProof.Rows.StrsAre renaming length->FJ
open Function renaming comp_def->F0
open PySem.Txt renaming slice_le->Im
open List.Pairwise renaming imp_of_mem->Ir
open PySem.Challenge renaming pw_doneroom_k16_flat_programs->IF
open PyProof renaming noPylong_small->IK
open PySem.Str renaming ofString_eq_toList->IU
open List.Perm renaming refl->Lb
open PySem.SeqAt.EqAt renaming int_str->LJ,str_int->LK
open PySem.Code renaming quiet_builtin->LS
open PySem.WalksT renaming enumerateD->L9
open PySem.IsL renaming update->Oh
open PySem.Heap.ExtBut renaming push->Ol
open List.cons renaming injEq->OC
open PyProof.Rows.IsTup renaming new->OI
open PySem.Moved renaming eq_with->OL
open Sum.inr renaming inj->OR
open PySem.Walks renaming range->OS
open PySem.IsRange renaming new->OT
open PySem.ItemsOf renaming nil->OV
open PySem.Heap.IsSliceOf renaming new->OW
open PySem PySem.Spec PyProof.Rows
namespace L2
noncomputable abbrev Key:=Sum Int Str
noncomputable def Qax:Key->Value->Bool
 |.inl k,v=>Value.isInt k v
 |.inr x,v=>Value.isStrOf x v
noncomputable def Qmi(w:World):Key->Int
 |.inl k=>hashInt k
 |.inr x=>hashStr w x
theorem QQ:∀{k:Key} {v:Value},Qax k v=true->(∃i t,k=Sum.inl i/\v=Value.int i t)\/(∃x t,k=Sum.inr x/\v=Value.str x t)
 |.inl i,v,h=>by
  obtain⟨t,e⟩:=Value.isInt_shape (k:=i) (v:=v) h;exact .inl ⟨i,t,rfl,e⟩
 |.inr x,v,h=>by
  obtain⟨t,e⟩:=Dn (x:=x) (v:=v) h;exact .inr ⟨x,t,rfl,e⟩
theorem Qcg(i:Int)(t:Tok):Qax (.inl i) (.int i t)=true:=by simp[Qax,Value.isInt]
theorem Qbk(x:Str)(t:Tok):Qax (.inr x) (.str x t)=true:=by simp[Qax,Value.isStrOf]
theorem Qiq(a b:Int):decide ((Sum.inl a:Key)=Sum.inl b)=(a==b):=by
 by_cases e:a=b
 ·subst e;simp
 ·have h:¬(Sum.inl a:Key)=Sum.inl b:=fun q=>e (Sum.inl.inj q);rw[decide_eq_false h];exact(beq_eq_false_iff_ne.mpr e).symm
theorem QiL(a b:Str):decide ((Sum.inr a:Key)=Sum.inr b)=decide (a=b):=by
 by_cases e:a=b
 ·subst e;simp
 ·have h:¬(Sum.inr a:Key)=Sum.inr b:=fun q=>e (OR q);rw[decide_eq_false h,decide_eq_false e]
theorem QgK(a:Int)(b:Str):decide ((Sum.inl a:Key)=Sum.inr b)=false:=decide_eq_false (fun q=>nomatch q)
theorem Qij(a:Str)(b:Int):decide ((Sum.inr a:Key)=Sum.inl b)=false:=decide_eq_false (fun q=>nomatch q)
noncomputable def Vb(prog:Program)(w:World):PySem.KeyKind prog w Key where
 is:=Qax
 hash:=Qmi w
 inj:=fun v a b g f=>by
  rcases QQ g with⟨i,t,rfl,rfl⟩|⟨x,t,rfl,rfl⟩
  ·rcases QQ f with⟨j,u,rfl,e⟩|⟨y,u,rfl,e⟩
   ·injection e with c _;rw[c]
   ·exact nomatch e
  ·rcases QQ f with⟨j,u,rfl,e⟩|⟨y,u,rfl,e⟩
   ·exact nomatch e
   ·injection e with c _;rw[c]
 byValue:=fun k v h=>by
  rcases QQ h with⟨i,t,rfl,rfl⟩|⟨x,t,rfl,rfl⟩<;>rfl
 pyHash:=fun d h=>by
  rcases QQ d with⟨i,t,rfl,rfl⟩|⟨x,t,rfl,rfl⟩
  ·exact wpAny_pyHash_int h
  ·exact wpAny_pyHash_str h
 eqBool:=fun hu d h=>by
  rcases QQ hu with⟨i,t,rfl,rfl⟩|⟨x,t,rfl,rfl⟩
  ·rcases QQ d with⟨j,u,rfl,rfl⟩|⟨y,u,rfl,rfl⟩
   ·rw[Qiq]at h;exact wpAny_eqBool_int h
   ·rw[QgK]at h;exact LJ i t y u _ _ _ _ h
  ·rcases QQ d with⟨j,u,rfl,rfl⟩|⟨y,u,rfl,rfl⟩
   ·rw[Qij]at h;exact LK x t j u _ _ _ _ h
   ·rw[QiL]at h;exact wpAny_eqBool_str h
 «strs»:=fun k x t v h=>by
  rcases QQ h with⟨i,u,rfl,e⟩|⟨y,u,rfl,e⟩
  ·exact nomatch e
  ·injection e with c _
   subst c;cases v<;>rfl
theorem U1(prog:Program)(w:World)(i:Int)(t:Tok):(Vb prog w).is (.inl i) (.int i t)=true:=Qcg i t
theorem UE(prog:Program)(w:World)(x:Str)(t:Tok):(Vb prog w).is (.inr x) (.str x t)=true:=Qbk x t
inductive V where
 |non|bl (b:Bool)|int (i:Int)|str (x:Str)|byt (b:Array UInt8)|flt (b:UInt64)|ref (a:Addr)|ty (n:String)
 deriving DecidableEq
noncomputable def RelV:V->Value->Prop
 |.non,u=>u=Value.none
 |.bl b,u=>u=Value.bool b
 |.int i,u=>∃t,u=Value.int i t
 |.str x,u=>∃t,u=Value.str x t
 |.byt b,u=>∃t,u=Value.bytes b t
 |.flt b,u=>∃t,u=Value.float b t
 |.ref a,u=>u=Value.ref a
 |.ty n,u=>u=Value.type n
noncomputable abbrev Vals:List V->List Value->Prop:=Paired RelV
theorem Vals.length{xs:List V}{a:List Value}(r:Vals xs a):xs.length=a.length:=EQ r
theorem Vals.get:∀{xs:List V} {a:List Value} {i:Nat} {x:V},Vals xs a->xs[i]?=some x->∃u,a[i]?=some u/\RelV x u
 |_,_,_,_,.nil,e=>by simp at e
 |_,_,0,_,.cons r _,e=>by simp at e;subst e;exact⟨_,rfl,r⟩
 |_,_,i+1,x,.cons _ t,e=>by
  obtain⟨u,c,b⟩:=Vals.get (i:=i) (x:=x) t (by simpa using e);exact⟨u,by simpa using c,b⟩
theorem Vals.set{x:V}{u:Value}(r:RelV x u):∀{xs:List V} {a:List Value} (i:Nat),Vals xs a->Vals (xs.set i x) (a.set i u)
 |_,_,_,.nil=>.nil
 |_,_,0,.cons _ t=>.cons r t
 |_,_,i+1,.cons q t=>.cons q (Vals.set r i t)
theorem Vals.append:∀{xs a:List V} {b ws:List Value},Vals xs b->Vals a ws->Vals (xs++a) (b++ws)
 |_,_,_,_,.nil,s=>s
 |_,_,_,_,.cons r t,s=>.cons r (Vals.append t s)
theorem Vals.take:∀{xs:List V} {a:List Value} (n:Nat),Vals xs a->Vals (xs.take n) (a.take n)
 |_,_,0,_=>.nil
 |_,_,_+1,.nil=>.nil
 |_,_,n+1,.cons r t=>.cons r (Vals.take n t)
theorem Vals.drop:∀{xs:List V} {a:List Value} (n:Nat),Vals xs a->Vals (xs.drop n) (a.drop n)
 |_,_,0,r=>r
 |_,_,_+1,.nil=>.nil
 |_,_,n+1,.cons _ t=>Vals.drop n t
noncomputable def RelO:Option V->Option Value->Prop
 |some v,some u=>RelV v u
 |none,none=>True
 |_,_=>False
noncomputable def KV{κ:Type}:List (κ×V)->List (κ×Value)->Prop:=Paired fun(p:κ×V) (q:κ×Value)=>p.1=q.1/\RelV p.2 q.2
inductive Tr where
 |i (n:Int)
 |s (x:Str)
 |t (ks:List Tr)
noncomputable instance trDec:DecidableEq Tr:=fun _ _=>Classical.propDecidable _
noncomputable def IsT(h:Heap):Nat->Tr->Value->Prop
 |0,_,_=>False
 |_+1,.i k,v=>(∃t,v=.int k t)\/∃b:Bool,v=.bool b/\k=if b then 1 else 0
 |_+1,.s x,v=>∃t,v=.str x t
 |n+1,.t ks,v=>∃a its,v=.ref a/\h.IsTuple a its/\Paired (IsT h n) ks its.toList
theorem QdZ{e d:Type}{F:e->d->Prop}(h:∀x y v,F x v->F y v->x=y){xs c:List e}{f:List d}(p:Paired F xs f)(q:Paired F c f):xs=c:=by
 induction p generalizing c with
 |nil=>cases q;rfl
 |cons a s g=>cases q with|cons b t=>rw[h _ _ _ a b,g t]
theorem Qcm{h:Heap}{n:Nat}{x:Tr}{a:Addr}(c:IsT h n x (.ref a)):∃m ks its,n=m+1/\x=.t ks/\h.IsTuple a its/\Paired (IsT h m) ks its.toList:=by
 cases n with
 |zero=>exact c.elim
 |succ n=>
  cases x with
  |i k=>rcases c with⟨t,e⟩|⟨b,e,_⟩<;>cases e
  |s y=>obtain⟨t,e⟩:=c;cases e
  |t ks=>obtain⟨d,its,e,p,q⟩:=c;cases e;exact⟨n,ks,its,rfl,rfl,p,q⟩
theorem UA{h:Heap}{a:Addr}{x y:Array Value}(e:h.IsTuple a x)(d:h.IsTuple a y):x=y:=by
 obtain⟨o,g,_,n,f⟩:=e;obtain⟨i,c,_,j,b⟩:=d;rw[g]at c;cases c;rw[f]at b;injection b
noncomputable def gT:Value->Tr
 |.int i _=>.i i
 |.bool b=>.i (if b then 1 else 0)
 |.str x _=>.s x
 |_=>.t []
theorem Qh0{h:Heap}{n:Nat}{x:Tr}{v:Value}(c:IsT h n x v):(∃a,v=.ref a)\/x=gT v:=by
 cases n with
 |zero=>exact c.elim
 |succ n=>
  cases x with
  |i k=>rcases c with⟨t,rfl⟩|⟨b,rfl,rfl⟩<;>exact .inr rfl
  |s y=>obtain⟨t,rfl⟩:=c;exact .inr rfl
  |t e=>obtain⟨a,d,rfl,_⟩:=c;exact .inl ⟨a,rfl⟩
theorem UH{h:Heap}:∀{n:Nat} (x y:Tr) (v:Value),IsT h n x v->IsT h n y v->x=y
 |0,_,_,_,b,_=>b.elim
 |n+1,x,y,v,b,d=>by
  by_cases r:∃a,v=.ref a
  ·obtain⟨a,rfl⟩:=r;obtain⟨m,s,i,e,rfl,p,q⟩:=Qcm b;obtain⟨l,o,c,j,rfl,g,f⟩:=Qcm d;cases e;cases j;cases UA p g;rw[QdZ (fun x y v=>UH (n:=n) x y v) q f]
  ·rw[(Qh0 b).resolve_left r,(Qh0 d).resolve_left r]
theorem Yo{g e:Type}{F G:g->e->Prop}(f:∀a b,F a b->G a b):∀{d:List g} {c:List e},Paired F d c->Paired G d c
 |_,_,.nil=>.nil
 |_,_,.cons r t=>.cons (f _ _ r) (Yo f t)
theorem WQ{h h':Heap}{d:Addr}{o:Obj}{es r}(f:h.get? d=some o)(hd:o.data=.dict es r)(j:Heap.SameBut d h h'):∀{n:Nat} (k:Tr) (v:Value),IsT h n k v->IsT h' n k v
 |0,_,_,x=>x.elim
 |n+1,.i k,v,x=>x
 |n+1,.s k,v,x=>x
 | n+1,.t ks,v,⟨a,its,e,⟨l,c,p,m,b⟩,q⟩=>by
  have g:a≠d:=by
   rintro rfl
   rw[c]at f;cases f;rw[hd]at b;exact nomatch b
  exact⟨a,its,e,⟨l,(j.2 a g).trans c,p,m,b⟩,Yo (fun k v=>WQ f hd j k v) q⟩
noncomputable def hN(w:World):Nat->Tr->Int
 |0,_=>0
 |_+1,.i k=>hashInt k
 |_+1,.s x=>hashStr w x
 |n+1,.t ks=>reduceHash (Builtin.Tuple.tupleHashOf (ks.map (hN w n)))
noncomputable def dN:Nat->Tr->Nat
 |0,_=>0
 |_+1,.i _=>1
 |_+1,.s _=>1
 |n+1,.t ks=>(ks.map (dN n)).sum+1
section
variable{prog:Program}{w:World}{E:Value->Shared->Prop}
theorem Um{n:Nat}{A:Around}(d:∀(k:Tr) (v:Value) (s:Shared) (Q:Int->Shared->Prop),IsT s.heap n k v->Q (hN w n k) { s with toks:=s.toks+dN n k }->wpAny (model prog w) A (pyHash v) Q E s) :
  ∀(ks:List Tr) (c:List Value) (s:Shared) (b:Array Int) (Q:Array Int->Shared->Prop),Paired (IsT s.heap n) ks c ->
  (∀a,a.toList=b.toList++ks.map (hN w n)->Q a { s with toks:=s.toks+(ks.map (dN n)).sum }) ->
  wpAny (model prog w) A (forIn c b fun x r=>do let h <-pyHash x;pure PUnit.unit;pure (ForInStep.yield (r.push h))) Q E s
 |[],_,s,b,Q,x,h=>by cases x;exact Ng (h b (by simp))
 | k::ks,_,s,b,Q,x,h=>by
  cases x with
  |cons e x2=>
   rw[List.forIn_cons];refine Na (Na (d k _ s _ e ?_));refine Na (Ng (Ng ?_));refine Um d ks _ _ _ Q x2 fun a f=>?_;have:=h a (by simp[f]);simpa[Fi]using this
theorem Qes:∀(n:Nat) (A:Around),A.units+n<cLine->∀(k:Tr) (v:Value) (s:Shared) (Q:Int->Shared->Prop),IsT s.heap n k v->Q (hN w n k) { s with toks:=s.toks+dN n k }->wpAny (model prog w) A (pyHash v) Q E s
 |0,_,_,_,_,_,_,x,_=>x.elim
 | n+1,A,hu,.i k,v,s,Q,x,h=>by
  rcases x with⟨t,rfl⟩|⟨b,rfl,rfl⟩
  ·exact wpAny_pyHash_int h
  ·refine Ly (T:="bool") rfl F.slot_bool_hash entry_int_hash (args_int_hash _) (beq_builtin_none _) (.inr (No (Nv _ _) hu)) ?_;cases b
   ·exact(show wpAny _ _ (do ret (<-mkInt 0)) _ _ s from Na (FN (Ng ⟨_,_,rfl,h⟩)))
   ·exact(show wpAny _ _ (do ret (<-mkInt 1)) _ _ s from Na (FN (Ng ⟨_,_,rfl,h⟩)))
 |n+1,A,hu,.s y,v,s,Q,x,h=>by
  obtain⟨t,rfl⟩:=x;exact wpAny_pyHash_str h
 |n+1,A,hu,.t d,v,s,Q,x,h=>by
  obtain⟨a,e,rfl,⟨o,c,f,m,hd⟩,q⟩:=x;refine Ly (T:="tuple") ⟨_,c,f⟩ F.slot_tuple_hash F.entry_tuple_hash (F.args_tuple_hash_1 _) (beq_builtin_none _) (.inr (No (Nv _ _) hu)) ?_;show wpAny _ _ (Builtin.Tuple.tupleItemsOf (.ref a)>>=_) _ _ s;refine Na (wpAny_tupleItemsOf c hd ?_);refine Na ?_;rw[<-LL];refine Um (n:=n) (fun k v s Q=>Qes n A.in1 (by show A.units+1+n<cLine;lia) k v s Q) d _ s #[] _ q fun b g=>?_;show wpAny _ _ (retInt (Builtin.Tuple.tupleHashOf b.toList)) _ _ _;rw[g];refine Na (FN (Ng ⟨_,_,rfl,?_⟩));simpa[hN,dN,Fi]using h
theorem QfY{n:Nat}{h:Heap}{e:Nat->Bool}:∀{ks ls:List Tr} {f d:List Value},Paired (IsT h n) ks f->Paired (IsT h n) ls d->(∀(j:Nat) (x y:Tr),ks[j]?=some x->ls[j]?=some y->e j=decide (x=y)) ->
  ((List.range (min f.length d.length)).all e&&f.length==d.length)=decide (Tr.t ks=Tr.t ls):=by
 intro ks ls f d p q i;have m:=EQ p;have l:=EQ q;rw[<-m,<-l]
 by_cases c:ks.length=ls.length
 ·by_cases g:ks=ls
  ·subst g;simp only[Nat.min_self,beq_self_eq_true,Ls,decide_true];rw[Es];intro j b;rw[Ea]at b;rw[i j ks[j] ks[j] (Ni b) (Ni b)];simp
  ·have:decide (Tr.t ks=Tr.t ls)=false:=decide_eq_false fun z=>g (Tr.t.inj z);rw[this,Bool.and_eq_false_iff];left;have:∃j,ks[j]?≠ls[j]?:=EX fun z=>g (DB fun j=>EX fun y=>z ⟨j,y⟩);obtain⟨j,b⟩:=this;have a:j<ks.length:=EX fun z=>b (by rw[N6 (NQ.mp z),N6 (Nl (Nr c.symm) (NQ.mp z))]);rw[List.all_eq_false];refine⟨j,Ea.mpr (by lia),?_⟩;rw[i j ks[j] ls[j] (Ni a) (Ni (Nn a (Nr c)))];intro z;rw[decide_eq_true_eq]at z;exact b (by rw[Ni a,Ni (Nn a (Nr c)),z])
 ·have o:(ks.length==ls.length)=false:=beq_eq_false_iff_ne.mpr c;rw[o,E7];exact(decide_eq_false fun z=>c (by rw[Tr.t.inj z])).symm
theorem XL{c d:Type}{F:c->d->Prop}:∀{b:List c} {a:List d} {j:Nat} {x:c},Paired F b a->b[j]?=some x->∃v,a[j]?=some v/\F x v
 |_,_,0,x,.cons r t,e=>by simp at e;subst e;exact⟨_,rfl,r⟩
 |_,_,j+1,x,.cons r t,e=>by
  obtain⟨v,g,f⟩:=XL (j:=j) (x:=x) t (by simpa using e);exact⟨v,by simpa using g,f⟩
open SeqAt in
theorem QlM{s:Shared}:∀(n:Nat) (A:Around),A.units+n<cLine->∀(x y:Tr) (u v:Value),IsT s.heap n x u->IsT s.heap n y v->EqAt A s u v (decide (x=y))
 |0,_,_,_,_,_,_,c,_=>c.elim
 | n+1,A,hu,.i a,.i b,u,v,c,d=>by
  have hd:decide (Tr.i a=Tr.i b)=(a==b):=by
   by_cases z:a=b
   ·subst z;simp
   ·rw[decide_eq_false fun q=>z (Tr.i.inj q)];exact(beq_eq_false_iff_ne.mpr z).symm
  rw[hd]
  rcases c with⟨t,rfl⟩|⟨p,rfl,rfl⟩<;>rcases d with⟨g,rfl⟩|⟨q,rfl,rfl⟩
  ·exact EqAt.int_int a t b g
  ·exact EqAt.int_bool a t q
  ·exact EqAt.bool_int p b g
  ·have:=EqAt.bool_bool (A:=A) (s:=s) p q;cases p<;>cases q<;>exact this
 |n+1,A,hu,.i a,.s b,u,v,c,d=>by
  obtain⟨g,rfl⟩:=d;rw[decide_eq_false (fun z=>nomatch z)]
  rcases c with⟨t,rfl⟩|⟨p,rfl,rfl⟩
  ·exact EqAt.int_str a t b g
  ·exact EqAt.bool_str p b g
 |n+1,A,hu,.i a,.t h,u,v,c,d=>by
  obtain⟨ad,f,rfl,p,_⟩:=d;rw[decide_eq_false (fun z=>nomatch z)]
  rcases c with⟨t,rfl⟩|⟨q,rfl,rfl⟩
  ·exact EqAt.int_tuple a t p (No (Nv _ _) hu)
  ·exact EqAt.bool_tuple q p (No (Nv _ _) hu)
 |n+1,A,hu,.s b,.i a,u,v,c,d=>by
  obtain⟨g,rfl⟩:=c;rw[decide_eq_false (fun z=>nomatch z)]
  rcases d with⟨t,rfl⟩|⟨p,rfl,rfl⟩
  ·exact EqAt.str_int b g a t
  ·exact EqAt.str_bool b g p
 | n+1,A,hu,.s a,.s b,u,v,c,d=>by
  obtain⟨t,rfl⟩:=c;obtain⟨g,rfl⟩:=d
  have hd:decide (Tr.s a=Tr.s b)=(a==b):=by
   by_cases z:a=b
   ·subst z;simp
   ·rw[decide_eq_false fun q=>z (Tr.s.inj q)];exact(beq_eq_false_iff_ne.mpr z).symm
  rw[hd];exact EqAt.str_str a t b g
 |n+1,A,hu,.s b,.t h,u,v,c,d=>by
  obtain⟨ad,f,rfl,p,_⟩:=d;obtain⟨t,rfl⟩:=c;rw[decide_eq_false (fun z=>nomatch z)];exact EqAt.str_tuple b t p (No (Nv _ _) hu)
 |n+1,A,hu,.t h,.i a,u,v,c,d=>by
  obtain⟨ad,f,rfl,p,_⟩:=c;rw[decide_eq_false (fun z=>nomatch z)]
  rcases d with⟨t,rfl⟩|⟨q,rfl,rfl⟩
  ·exact EqAt.tuple_int a t p (No (Nv _ _) hu)
  ·exact EqAt.tuple_bool q p (No (Nv _ _) hu)
 |n+1,A,hu,.t h,.s b,u,v,c,d=>by
  obtain⟨ad,f,rfl,p,_⟩:=c;obtain⟨t,rfl⟩:=d;rw[decide_eq_false (fun z=>nomatch z)];exact EqAt.tuple_str b t p (No (Nv _ _) hu)
 | n+1,A,hu,.t h,.t l,u,v,c,d=>by
  obtain⟨ad,f,rfl,p,q⟩:=id c;obtain⟨T,m,rfl,L,G⟩:=id d
  by_cases B:ad=T
  ·subst B;have:=UH _ _ _ c d;rw[this,decide_eq_true rfl];exact EqAt.same _
  ·refine EqAt.of_refs B ?_;have Q:=QlM (s:=s) n A.in1 (by show A.units+1+n<cLine;omega)
   have J:=RcAt.tuples (A:=A) (s:=s) (e:=fun j=>match h[j]?,l[j]? with|some x,some y=>decide (x=y)|_,_=>false) p L (No (Nv _ _) hu) (fun j D C=>by
    have N:=EQ q;have M:=EQ G;have P:j<h.length:=by rw[N];exact D
    have O:j<l.length:=by rw[M];exact C
    obtain⟨x,c⟩:∃x,h[j]?=some x:=⟨h[j],Ni P⟩
    obtain⟨y,d⟩:∃y,l[j]?=some y:=⟨l[j],Ni O⟩
    obtain⟨u,o,H⟩:=XL q c;obtain⟨t,r,I⟩:=XL G d;rw[c,d]
    have S:f[j]=u:=by
     rw[N7,NL D]at o;exact N1 o
    have R:m[j]=t:=by
     rw[N7,NL C]at r;exact N1 r
    rw[S,R]
    exact Q x y u t H I)
   have:=QfY (e:=fun j=>match h[j]?,l[j]? with|some x,some y=>decide (x=y)|_,_=>false) q G (fun j x y D C=>by simp only[D,C]);rw[ND,ND]at this;rw[this]at J;exact J
theorem QbU{A:Around}{s:Shared}:∀(n m:Nat) (k:Tr) (v:Value) (Q:Bool->Shared->Prop),IsT s.heap n k v->n<=m->Q true s->wpAny (model prog w) A (eqIsQuiet m v) Q E s
 |0,_,_,_,_,x,_,_=>x.elim
 |n+1,m,.i k,v,Q,x,_,h=>by
  rcases x with⟨t,rfl⟩|⟨b,rfl,rfl⟩
  ·rw[FV _ rfl];exact Ng h
  ·rw[FV _ rfl];exact Ng h
 |n+1,m,.s k,v,Q,x,_,h=>by
  obtain⟨t,rfl⟩:=x;rw[FV _ rfl];exact Ng h
 |n+1,0,.t f,v,Q,x,z,h=>by lia
 | n+1,m+1,.t f,v,Q,x,z,h=>by
  obtain⟨a,e,rfl,⟨o,g,B,l,hd⟩,q⟩:=x;have j:s.TypeIs (.ref a) "tuple":=⟨o,g,B⟩
  unfold eqIsQuiet;refine Na (De j F.slot_tuple_eq.lookup ?_);show wpAny _ _ (isInstance (.ref a) (.type "tuple")>>=_) _ _ s;refine Na (DL j isSubtype_tuple_tuple ?_);simp only[OJ,EU,if_false];refine Na (DE g hd ?_);refine Na ?_;show wpAny _ _ (forIn e _ _) _ _ s;rw[<-LL];refine wpAny_forIn_list _ (fun rest r d=>r.1=none/\d=s/\∃c,Paired (IsT s.heap n) c rest) _ ?_ ?_ _ _ ⟨rfl,rfl,f,q⟩
  ·rintro v rest r d ⟨hr,rfl,c,y⟩
   cases y with
   |cons u p=>
    refine Na (QbU n m _ _ _ u (by lia) ?_);simp only[OJ,EU,if_false];exact Ng ⟨rfl,rfl,_,p⟩
  ·rintro⟨D,C⟩ d ⟨hr,rfl,_⟩
   simp only at hr;subst hr;exact Ng h
end
noncomputable def Qdh(prog:Program)(w:World):HeapKind prog w Tr where
 is:=fun h k a=>IsT h 8 k (.ref a)
 hash:=hN w 8
 draws:=dN 8
 room:=fun A=>A.units+8<cLine
 inj:=fun c b=>UH _ _ _ c b
 keeps:=fun x f hd e=>WQ f hd e _ _ x
 pyHash:=fun hu d h=>Qes 8 _ hu _ _ _ _ d h
 eqBool:=fun hu c b h=>QlM 8 _ hu _ _ _ _ c b _ _ _ _ h
 quiet:=fun d h=>QbU 8 8 _ _ _ d (Nx _) h
noncomputable def kV:Key->V
 |.inl i=>.int i
 |.inr x=>.str x
inductive HO where
 /-- a list -/
 |lst (xs:List V)
 /-- a tuple (never changes) -/
 |tup (xs:List V)
 /-- a dict whose keys are ints and texts;one whose keys are tuples of ints and texts (the empty one is both) -/
 |dK (kvs:List (Key×V))|dT (kvs:List (Tr×Addr×V))
 /-- a set of ints: its members,its size -/
 |set (S:Int->Bool) (n:Nat)
 /-- an instance of the class at C,its dict at dx,its attributes -/
 |ins (C dx:Addr) (fs:List (Str×V))
 /-- the dict of the instance at x -/
 |own (x:Addr)
 /-- the dict of an exception -/
 |xd (fs:List (Str×V))
 /-- a bound method,f of x -/
 |met (f x:Addr)
 /-- a range object lo,lo+1,.. below hi -/
 |rng (lo hi:Int)
 /-- a thing that is known to the object (the script;a dict while a loop walks it): read,never written while it is so -/
 |frz (o:Obj) (u:HO)
 /-- a code object's table -/
 |tbl (ps:Array Value)
 /-- any other thing,by what is true of its one object (a def of one's own: SetO a S n:=HO.ext fun h=>..) -/
 |ext (φ:Heap->Prop)
noncomputable abbrev Hp:=Addr->Option HO
noncomputable def upd(H:Hp)(a:Addr)(o:HO):Hp:=fun b=>if b=a then some o else H b
theorem Jf{H:Hp}{a:Addr}{o:HO}:upd H a o a=some o:=by unfold upd;rw[if_pos rfl]
theorem Qo{H:Hp}{a b:Addr}{o:HO}(h:b≠a):upd H a o b=H b:=by unfold upd;rw[if_neg h]
theorem Ji{H:Hp}{a b:Addr}{o:HO}(h:H a=some o)(h':H b=none):a≠b:=by
 intro e;subst e;rw[h]at h';cases h'
section
variable(P:Program)(w:World)
noncomputable def ObjOk(H:Hp)(h:Heap)(a:Addr):HO->Prop
 |.lst xs=>xs.length<=sizeLine/\∃(its:List Value) (n:Nat),Vals xs its/\h.get? a=some { cls:=.type "list",data:=.seq its.toArray n }
 |.tup xs=>xs.length<=sizeLine/\∃its:List Value,Vals xs its/\IsTup h a its.toArray
 |.dK kvs=>kvs.length<=sizeLine/\(a==sysModules)=false/\∃e,KV kvs e/\h.DictOf (Vb P w) a e
 | .dT kvs=>kvs.length<=sizeLine/\(a==sysModules)=false/\∃xs:List (Tr×Addr×Value),
   Paired (fun(p:Tr×Addr×V) (q:Tr×Addr×Value)=>p.1=q.1/\p.2.1=q.2.1/\RelV p.2.2 q.2.2) kvs xs /\
   ∃o es j,h.get? a=some o/\o.ExactDict/\o.data=.dict es j/\es.toList=xs.map (entryOfKey (Qdh P w))/\(xs.map (·.1)).Nodup/\j=es.size
 |.set S n=>h.SetOf (intKind P w) a S n
 | .ins C c fs=>H c=some (.own a)/\fs.length<=1000/\c≠a/\h.get? a=some (IB C c) /\
   ∃b,h.Ns1 c b/\(∀f,RelO (fs.lookup f) (b f))/\OP b (fs.map (·.1))
 |.own _=>∃o,h.get? a=some o
 |.xd fs=>∃b,h.Ns1 a b/\∀f,RelO (fs.lookup f) (b f)
 |.rng lo l=>∃t u v,h.get? a=some { cls:=.type "range",data:=.fields #[.int lo t,.int l u,.int 1 v] }
 |.frz o u=>h.get? a=some o/\ObjOk H h a u
 |.tbl ps=>h.get? a=some { cls:=.none,data:=.fields ps }
 |.met f x=>h.get? a=some (FW (.ref f) (.ref x))
 |.ext d=>d h/\(∃o,h.get? a=some o)/\∀i g:Heap,d i->(∀o,i.get? a=some o->g.get? a=some o)->d g
def HOk(H:Hp)(h:Heap):Prop:=∀a o,H a=some o->ObjOk P w H h a o
end
section
variable{P:Program}{w:World}{H H':Hp}{h h':Heap}{a:Addr}{o:HO}
theorem ObjOk.lt(x:ObjOk P w H h a o):a<h.objs.size:=by
 cases o with
 |lst b=>obtain⟨_,_,_,_,e⟩:=x;exact Nu e
 |tup b=>obtain⟨_,_,_,p⟩:=x;exact p.lt
 |dK kvs=>obtain⟨_,_,_,_,o,_,_,e,_⟩:=x;exact Nu e
 |dT kvs=>obtain⟨_,_,_,_,o,_,_,e,_⟩:=x;exact Nu e
 |set S n=>obtain⟨o,_,_,_,e,_⟩:=x;exact Nu e
 |ins C g fs=>obtain⟨_,_,_,e,_⟩:=x;exact Nu e
 |own y=>obtain⟨_,e⟩:=x;exact Nu e
 |xd fs=>obtain⟨_,⟨_,_,_,e,_⟩,_⟩:=x;exact Nu e
 |rng lo d=>obtain⟨_,_,_,e⟩:=x;exact Nu e
 |frz ob u=>obtain⟨e,_⟩:=x;exact Nu e
 |tbl ps=>exact Nu (show h.get? a=some _ from x)
 |met f y=>exact Nu (show h.get? a=some _ from x)
 |ext c=>obtain⟨_,⟨_,e⟩,_⟩:=x;exact Nu e
theorem Paired.mapP{g e:Type}{F G:g->e->Prop}:∀{d:List g} {c:List e},Paired F d c->(∀a b,F a b->G a b)->Paired G d c
 |_,_,.nil,_=>.nil
 |_,_,.cons r t,f=>.cons (f _ _ r) (Paired.mapP t f)
theorem ObjOk.stay(x:ObjOk P w H h a o)(k:∀b u,(b=a\/H b=some (.own a))->h.get? b=some u->h'.get? b=some u)
  (B:∀b,H b=some (.own a)->H' b=some (.own a)) (G:∀b xs,H b=some (.tup xs)->H' b=some (.tup xs)):ObjOk P w H' h' a o:=by
 induction o with
 |lst xs=>obtain⟨z,j,n,r,e⟩:=x;exact⟨z,j,n,r,k _ _ (.inl rfl) e⟩
 |tup xs=>obtain⟨z,j,r,ob,e,c⟩:=x;exact⟨z,j,r,ob,k _ _ (.inl rfl) e,c⟩
 |dK kvs=>obtain⟨z,y,s,r,ob,g,i,e,c⟩:=x;exact⟨z,y,s,r,ob,g,i,k _ _ (.inl rfl) e,c⟩
 |dT kvs=>
  obtain⟨z,y,xs,r,ob,g,i,e,c⟩:=x;exact⟨z,y,xs,r,ob,g,i,k _ _ (.inl rfl) e,c⟩
 |set S n=>obtain⟨ob,g,i,t,e,c⟩:=x;exact⟨ob,g,i,t,k _ _ (.inl rfl) e,c⟩
 |ins C J fs=>
  obtain⟨d,z,ne,e,m,⟨l,g,i,D,c⟩,r⟩:=x;exact⟨B _ d,z,ne,k _ _ (.inl rfl) e,m,⟨l,g,i,k _ _ (.inr d) D,c⟩,r⟩
 |own y=>obtain⟨ob,e⟩:=x;exact⟨ob,k _ _ (.inl rfl) e⟩
 |xd fs=>obtain⟨m,⟨l,g,i,e,c⟩,r⟩:=x;exact⟨m,⟨l,g,i,k _ _ (.inl rfl) e,c⟩,r⟩
 |rng lo I=>obtain⟨t,u,v,e⟩:=x;exact⟨t,u,v,k _ _ (.inl rfl) e⟩
 |frz ob u A=>obtain⟨e,q⟩:=x;exact⟨k _ _ (.inl rfl) e,A q⟩
 |tbl ps=>
  have e:h.get? a=some { cls:=.none,data:=.fields ps }:=x;show h'.get? a=some { cls:=.none,data:=.fields ps };exact k a _ (.inl rfl) e
 |met f y=>
  have e:h.get? a=some (FW (.ref f) (.ref y)):=x;show h'.get? a=some (FW (.ref f) (.ref y));exact k a _ (.inl rfl) e
 |ext E=>obtain⟨p,⟨o,e⟩,st⟩:=x;exact⟨st _ _ p fun o q=>k _ _ (.inl rfl) q,⟨o,k _ _ (.inl rfl) e⟩,st⟩
theorem HOk.lt(x:HOk P w H h)(e:H a=some o):a<h.objs.size:=(x a o e).lt
theorem HOk.fresh(x:HOk P w H h)(e:h.objs.size<=a):H a=none:=by
 cases q:H a with
 |none=>rfl
 |some u=>exact absurd (Nn (x.lt q) e) (Ev _)
theorem HOk.kept(x:HOk P w H h)(k:∀b u,h.get? b=some u->h'.get? b=some u):HOk P w H h':=fun a o e=>
 (x a o e).stay (fun b u _ q=>k b u q) (fun _ q=>q) fun _ _ q=>q
theorem HOk.laid(x:HOk P w H h)(k:∀b u,h.get? b=some u->h'.get? b=some u)(g:h.objs.size<=a)(new:ObjOk P w (upd H a o) h' a o):HOk P w (upd H a o) h':=fun b u e=>by
 have d:=x.fresh g
 by_cases f:b=a
 ·subst f;rw[Jf]at e;cases e;exact new
 ·rw[Qo f]at e;exact(x b u e).stay (fun c v _ q=>k c v q) (fun c q=>by rw[Qo (Ji q d)];exact q) fun c i q=>by rw[Qo (Ji q d)];exact q
end
def Rd(H:Hp)(a:Addr)(u:HO):Prop:=H a=some u\/∃o,H a=some (.frz o u)
theorem Rd.ok{P:Program}{w:World}{H:Hp}{h:Heap}{a:Addr}{u:HO}(r:Rd H a u)(x:HOk P w H h):ObjOk P w H h a u:=by
 rcases r with r|⟨o,r⟩
 ·exact x a u r
 ·obtain⟨_,q⟩:=x a _ r;exact q
noncomputable def Mut:Option HO->Prop
 |some (.lst _)=>True
 |some (.dK _)=>True
 |some (.dT _)=>True
 |some (.set _ _)=>True
 |some (.ins _ _ _)=>True
 |some (.ext _)=>True
 |_=>False
section
variable{P:Program}{w:World}{H:Hp}{h h':Heap}{x e:Addr}{o':HO}
theorem HOk.write(ok:HOk P w H h)(i:Mut (H x))(o:e=x\/H e=some (.own x))(k:∀b u,b≠e->h.get? b=some u->h'.get? b=some u)(m:∃u,h'.get? e=some u)
  (new:ObjOk P w (upd H x o') h' x o'):HOk P w (upd H x o') h':=fun b u q=>by
 have d:∀c y,H c=some (.own y)->c≠x:=fun c y r z=>by subst z;rw[r]at i;exact i
 have f:∀c g,H c=some (.tup g)->c≠x:=fun c g r z=>by subst z;rw[r]at i;exact i
 by_cases l:b=x
 ·subst l;rw[Jf]at q;cases q;exact new
 ·rw[Qo l]at q
  by_cases a:b=e
  ·have n:H b=some (.own x):=by
    rcases o with z|z
    ·exact absurd (a.trans z) l
    ·rw[a];exact z
   rw[q]at n;cases n;obtain⟨v,p⟩:=m;exact⟨v,by rw[a];exact p⟩
  ·refine(ok b u q).stay (fun c v j r=>k c v ?_ r) (fun c r=>by rw[Qo (d c b r)];exact r) fun c g r=>by rw[Qo (f c g r)];exact r
   rcases j with rfl|j
   ·exact a
   ·rintro rfl
    rcases o with z|z
    ·exact d c b j z
    ·rw[j]at z;cases z;exact l rfl
end
structure Un(fs ex:List Addr)(H H':Hp)(h h':Heap):Prop where
 keep:∀b o,h.get? b=some o->H b=none->b∉fs->b∉ex->h'.get? b=some o
 slot:∀b o,h.get? b=some o->H b=none->b∈fs->b∉ex->∃sl,h'.get? b=some { o with slots:=sl }
 free:∀b o,h.get? b=some o->H b=none->b∉ex->H' b=none
 there:∀b o,h.get? b=some o->b∉ex->∃o',h'.get? b=some o'
 tups:∀b xs,H b=some (.tup xs)->H' b=some (.tup xs)
 frzs:∀b o u,H b=some (.frz o u)->H' b=some (.frz o u)
 tbls:∀b ps,H b=some (.tbl ps)->∃more,H' b=some (.tbl (ps++more))
section
variable{fs fs' ex ex':List Addr}{H H1 H2:Hp}{h h1 h2 h':Heap}{a x e:Addr}{o:HO}
theorem Un.any(u:Un fs ex H H1 h h1){b:Addr}{ob:Obj}(q:h.get? b=some ob)(n:H b=none)(c:b∉ex):∃f,h1.get? b=some { ob with slots:=f }:=by
 by_cases d:b∈fs
 ·exact u.slot b ob q n d c
 ·exact⟨ob.slots,u.keep b ob q n d c⟩
theorem Un.kept(k:∀b u,h.get? b=some u->h'.get? b=some u):Un fs ex H H h h':=
 ⟨fun b ob q _ _ _=>k b ob q,fun b ob q _ _ _=>⟨ob.slots,k b ob q⟩,fun _ _ _ n _=>n,fun b ob q _=>⟨ob,k b ob q⟩,fun _ _ q=>q,fun _ _ _ q=>q,fun _ ps q=>⟨#[],by rw[q];simp⟩⟩
theorem Un.refl:Un fs ex H H h h:=Un.kept fun _ _ q=>q
theorem Un.laid(k:∀b u,h.get? b=some u->h'.get? b=some u)(f:h.objs.size<=a)(c:H a=none):Un fs ex H (upd H a o) h h' where
 keep:=fun b u q _ _ _=>k b u q
 slot:=fun b u q _ _ _=>⟨u.slots,k b u q⟩
 free:=fun b u q n _=>by rw[Qo (NG (Nn (Nu q) f))];exact n
 there:=fun b u q _=>⟨u,k b u q⟩
 tups:=fun b d q=>by rw[Qo (Ji q c)];exact q
 frzs:=fun b u d q=>by rw[Qo (Ji q c)];exact q
 tbls:=fun b ps q=>⟨#[],by rw[Qo (Ji q c),q];simp⟩
theorem Un.write(d:Mut (H x))(p:e=x\/H e=some (.own x))(k:∀b u,b≠e->h.get? b=some u->h'.get? b=some u)(g:∃u,h'.get? e=some u):Un fs ex H (upd H x o) h h':=by
 have i:∀b,H b=none->b≠x:=fun b n z=>by subst z;rw[n]at d;exact d
 have j:∀b,H b=none->b≠e:=fun b n z=>by
  subst z
  rcases p with r|r
  ·exact i b n r
  ·rw[n]at r;cases r
 have f:∀b u,H b=some u->¬Mut (some u)->b≠x:=fun b u q m z=>by subst z;rw[q]at d;exact m d
 refine⟨fun b u q n _ _=>k b u (j b n) q,fun b u q n _ _=>⟨u.slots,k b u (j b n) q⟩,fun b u q n _=>by rw[Qo (i b n)];exact n,fun b u q _=>?_,
  fun b l q=>by rw[Qo (f b _ q fun z=>z)];exact q,fun b u l q=>by rw[Qo (f b _ q fun z=>z)];exact q,fun b ps q=>⟨#[],by rw[Qo (f b _ q fun z=>z),q];simp⟩⟩
 by_cases c:b=e
 ·subst c;exact g
 ·exact⟨u,k b u c q⟩
end
noncomputable def trk(h:Heap)(H:Hp):List Addr:=(List.range h.objs.size).filter fun a=>(H a).isSome
noncomputable def Qc1(h:Heap)(H:Hp):Heap:=PySem.W.hideAll h (trk h H)
theorem Qbc(h:Heap)(H:Hp):(Qc1 h H).objs.size=h.objs.size:=PySem.W.hideAll_size _ _
theorem Qda{h:Heap}{H:Hp}{b:Addr}{o:Obj}(e:h.get? b=some o)(n:H b=none):(Qc1 h H).get? b=some o:=
 PySem.W.hideAll_get _ e fun a=>by
  have q:(H b).isSome=true:=(Oo.mp a).2;rw[n]at q;simp at q
theorem QeG{h:Heap}{H:Hp}{b:Addr}{o:Obj}(e:(Qc1 h H).get? b=some o):h.get? b=some o/\H b=none:=by
 have a:h.get? b=some o:=PySem.W.of_hideAll (trk h H) e;refine⟨a,?_⟩;cases q:H b with
 |none=>rfl
 |some x=>
  have c:b∈trk h H:=Oo.mpr ⟨Ea.mpr (Nu a),by simp[q]⟩;have z:(Qc1 h H).get? b=none:=PySem.W.hideAll_none (trk h H) c;rw[z]at e;cases e
structure Mod(K:Nd)(mg:Str->Option Value)(base:Heap):Prop where
 kin:K.In base
 glob:base.Ns mainGlobals mg
 blt:∃mb,base.Ns builtinsNs mb/\∀x:Str,x≠"__name__"->mb x=bootBuiltins x
 nolimit:base.NoLimit
structure Cx where
 prog:Program
 w:World
 K:Nd
 mg:Str->Option Value
 base:Heap
 A:Around
 N:List Str
 s₀:Shared
 H₀:Hp
 env:Env
 outer:List Env
 stack:List Env
 ex:List Addr
 fn:Str->Bool
 calm:Bool
 pn:List (Addr×Obj)
 xe:Value->Shared->Prop
noncomputable def frs(l:List Env):List Addr:=l.filterMap (·.frame)
noncomputable abbrev Cx.fs(X:Cx):List Addr:=frs X.outer
def Vis(a:Scope)(x:Str):Prop:=a.names.lookup x=some .local\/a.names.lookup x=some .cell\/a.names.lookup x=some .free
def Loc(a:Scope)(x:Str):Prop:=a.names.lookup x=some .local\/a.names.lookup x=some .cell
def QmJ(env:Env)(h:Heap)(m:Str->Option Value)(x:Str)(u:Value):Prop:=
 (env.kindOf x=some .local/\m x=some u)\/((env.kindOf x=some .cell\/env.kindOf x=some .free)/\∃c,env.cells.lookup x=some c/\h.IsCell c (some u))
structure Cx.Ok(X:Cx):Prop where
 mod:Mod X.K X.mg X.base
 kind:X.env.scope.kind=.function
 glob:X.env.globals=mainGlobals
 blt:X.env.builtins=builtinsNs
 above:X.s₀.heap.objs.size<=X.env.locals
 inj:∀x y c,X.env.cells.lookup x=some c->X.env.cells.lookup y=some c->x=y
 has:∀x,(X.env.kindOf x=some .cell\/X.env.kindOf x=some .free)->∃c,X.env.cells.lookup x=some c
 cab:∀x c,X.fn x=true->X.env.cells.lookup x=some c->X.s₀.heap.objs.size<=c
 hd:X.calm=true->X.A.handled=none
 frames:X.A.frames=some X.stack
 stk:X.stack=X.outer\/(X.stack=X.env::X.outer/\X.env.frame=some X.env.locals)
 exf:∀b∈X.ex,b≠X.env.locals/\∀x c,X.env.cells.lookup x=some c->c≠b
 bs:∀b o,X.base.get? b=some o->X.s₀.heap.get? b=some o/\X.H₀ b=none
 bsz:X.base.objs.size<=X.s₀.heap.objs.size
 noex:∀b o,X.base.get? b=some o->b∉X.ex
 exfs:∀b∈X.ex,b∉X.fs
 funs:X.s₀.heap.FunFrames X.base X.outer
 frf:∀b∈X.fs,X.H₀ b=none
structure Inv(X:Cx)(pins:List (Addr×Obj))(σ:List (Option V))(H:Hp)(s:Shared):Prop where
 ok:X.Ok
 os:s.os=X.s₀.os
 bare:AllBare s.gens
 base:Un X.fs X.ex X.H₀ H X.s₀.heap s.heap
 loc:∃m,s.heap.Ns X.env.locals m/\∀(i:Nat) (x:Str) (v:V),X.N[i]?=some x->σ[i]?=some (some v)->Vis X.env.scope x->∃u,RelV v u/\QmJ X.env s.heap m x u
 cell:∀x c,X.env.cells.lookup x=some c->∃v,s.heap.IsCell c v
 free:H X.env.locals=none
 freeC:∀x c,X.env.cells.lookup x=some c->H c=none
 pin:∀p∈X.pn++pins,s.heap.get? p.1=some p.2/\H p.1=none/\p.1≠X.env.locals/\p.1∉X.fs/\∀v,p.2.data≠.cell v
 hok:HOk X.prog X.w H s.heap
 len:σ.length=X.N.length
section
variable{X:Cx}{pins:List (Addr×Obj)}{σ:List (Option V)}{H H':Hp}{s:Shared}{h':Heap}
theorem Cx.Ok.nofr(ok:X.Ok){b:Addr}{o:Obj}(e:X.base.get? b=some o):b∉X.fs:=fun a=>by
 have:=(ok.funs.mem a).1;rw[e]at this;cases this
theorem Inv.bs(I:Inv X pins σ H s):∀b o,X.base.get? b=some o->s.heap.get? b=some o/\H b=none:=fun b o e=>
 ⟨I.base.keep b o (I.ok.bs b o e).1 (I.ok.bs b o e).2 (I.ok.nofr e) (I.ok.noex b o e),I.base.free b o (I.ok.bs b o e).1 (I.ok.bs b o e).2 (I.ok.noex b o e)⟩
theorem Inv.bk(I:Inv X pins σ H s):∀b o,X.base.get? b=some o->s.heap.get? b=some o:=fun b o e=>(I.bs b o e).1
theorem Inv.mod(I:Inv X pins σ H s):Mod X.K X.mg X.base:=I.ok.mod
theorem Inv.kIn(I:Inv X pins σ H s):X.K.In s.heap:=I.ok.mod.kin.keeps I.bk
theorem Inv.lt(I:Inv X pins σ H s):X.env.locals<s.heap.objs.size:=let⟨_,a,_⟩:=I.loc;a.lt
theorem Inv.sz(I:Inv X pins σ H s):X.s₀.heap.objs.size<=s.heap.objs.size:=Nl I.ok.above (NB I.lt)
theorem Inv.nofs(I:Inv X pins σ H s){a:Addr}(h:s.heap.objs.size<=a):a∉X.fs:=fun c=>by
 obtain⟨_,o,b,_⟩:=I.ok.funs.mem c;exact absurd (Nn (Nu b) (Nl I.sz h)) (Ev _)
theorem Inv.cne(I:Inv X pins σ H s):∀x c,X.env.cells.lookup x=some c->c≠X.env.locals:=fun x c e z=>by
 obtain⟨v,o,d,hd⟩:=I.cell x c e;obtain⟨m,⟨f,g,h,a,b,_⟩,_⟩:=I.loc;rw[z,a]at d;cases d;rw[b]at hd;cases hd
theorem Inv.funs(I:Inv X pins σ H s):s.heap.FunFrames X.base X.outer:=by
 have all:∀(l:List Env),(∀b∈frs l,b∈X.fs)->X.s₀.heap.FunFrames X.base l->s.heap.FunFrames X.base l:=by
  intro l
  induction l with
  |nil=>intro _ _;trivial
  |cons n r g=>
   intro f j;obtain⟨m,⟨L,o,a,i,h,hd⟩,hr⟩:=j;have d:L∈X.fs:=f L (by unfold frs;rw[Dq,a];exact Nt);obtain⟨p,e⟩:=I.base.slot L o h (I.ok.frf L d) d fun z=>I.ok.exfs L z d;exact⟨m,⟨L,_,a,i,e,hd⟩,g (fun b c=>f b (by unfold frs;rw[Dq,a];exact Nq _ c)) hr⟩
 exact all X.outer (fun _ c=>c) I.ok.funs
theorem Inv.stack(I:Inv X pins σ H s):s.heap.FunFrames X.base X.stack:=by
 rcases I.ok.stk with e|⟨e,b⟩
 ·rw[e];exact I.funs
 ·rw[e];obtain⟨m,a,_⟩:=I.loc;refine .cons (by rw[I.ok.kind];decide) b a ?_ I.funs;exact Heap.get?_none_of_le (Nl I.ok.bsz I.ok.above)
theorem Inv.stkSub(I:Inv X pins σ H s):∀b∈frs X.stack,b∈X.env.locals::X.fs:=fun b a=>by
 rcases I.ok.stk with e|⟨e,c⟩
 ·rw[e]at a;exact Nq _ a
 ·rw[e]at a;unfold frs at a;rw[Dq,c]at a;exact a
theorem Inv.stkFree(I:Inv X pins σ H s):∀b∈frs X.stack,H b=none:=fun b a=>by
 rcases NH.mp (I.stkSub b a)with e|a
 ·rw[e];exact I.free
 ·obtain⟨_,o,c,_⟩:=I.ok.funs.mem a;exact I.base.free b o c (I.ok.frf b a) fun z=>I.ok.exfs b z a
theorem Inv.step{g':Array GenState}{t':Nat}{d':Drawn}{ch:List Addr}(I:Inv X pins σ H s)
  (g:∀b∈ch,(b∈X.ex\/X.s₀.heap.objs.size<=b)/\b≠X.env.locals/\(∀x c,X.env.cells.lookup x=some c->c≠b)/\∀p∈X.pn++pins,p.1≠b)
  (keep:∀b o,b≠X.env.locals->b∉X.fs->b∉ch->s.heap.get? b=some o->H b=none->h'.get? b=some o)
  (slot:∀b o,b≠X.env.locals->b∈X.fs->b∉ch->s.heap.get? b=some o->H b=none->∃M,h'.get? b=some { o with slots:=M }) (free:∀b o,b∉ch->s.heap.get? b=some o->H b=none->H' b=none)
  (there:∀b o,b∉ch->s.heap.get? b=some o->∃D,h'.get? b=some D)
  (B:∀b xs,H b=some (.tup xs)->H' b=some (.tup xs)) (G:∀b o u,H b=some (.frz o u)->H' b=some (.frz o u)) (C:∀b ps,H b=some (.tbl ps)->∃more,H' b=some (.tbl (ps++more)))
  (ns:∀m,s.heap.Ns X.env.locals m->h'.Ns X.env.locals m) (N:HOk X.prog X.w H' h') (Y:AllBare g') :
  Inv X pins σ H' { s with heap:=h',gens:=g',drawn:=d',toks:=t' }:=by
 have E:∀b o,X.s₀.heap.get? b=some o->b≠X.env.locals:=fun b o e=>NG (Nn (Nu e) I.ok.above)
 have j:∀b o,X.s₀.heap.get? b=some o->b∉X.ex->b∉ch:=fun b o e a y=>by
  rcases(g b y).1 with z|z
  ·exact a z
  ·exact absurd (Nn (Nu e) z) (Ev _)
 have h:∀x c,X.env.cells.lookup x=some c->∀v,s.heap.IsCell c v->h'.IsCell c v:=fun x c e v ⟨o,A,hd⟩=>by
  have f:c∉ch:=fun z=>(g c z).2.2.1 x c e rfl
  by_cases Q:c∈X.fs
  ·obtain⟨M,q⟩:=slot c o (I.cne x c e) Q f A (I.freeC x c e);exact⟨_,q,hd⟩
  ·exact⟨o,keep c o (I.cne x c e) Q f A (I.freeC x c e),hd⟩
 refine⟨I.ok,I.os,Y,⟨fun b o e n y a=>?_,fun b o e n y a=>?_,fun b o e n a=>?_,fun b o e a=>?_,fun b xs e=>B b xs (I.base.tups b xs e),fun b o xs e=>G b o xs (I.base.frzs b o xs e),fun b ps e=>?_⟩,?_,fun x c e=>?_,?_,fun x c e=>?_,fun p P=>?_,N,I.len⟩
 ·exact keep b o (E b o e) y (j b o e a) (I.base.keep b o e n y a) (I.base.free b o e n a)
 ·obtain⟨M,t⟩:=I.base.slot b o e n y a;obtain⟨L,J⟩:=slot b _ (E b o e) y (j b o e a) t (I.base.free b o e n a);exact⟨L,J⟩
 ·obtain⟨D,t⟩:=I.base.there b o e a;exact free b D (j b o e a) t (I.base.free b o e n a)
 ·obtain⟨D,t⟩:=I.base.there b o e a;exact there b D (j b o e a) t
 ·obtain⟨S,t⟩:=I.base.tbls b ps e;obtain⟨R,J⟩:=C b _ t;exact⟨S++R,by rw[J,Array.append_assoc]⟩
 ·obtain⟨m,T,U⟩:=I.loc;refine⟨m,ns m T,fun i x v t J Z=>?_⟩;obtain⟨u,r,l⟩:=U i x v t J Z;refine⟨u,r,?_⟩
  rcases l with l|⟨k,c,e,z⟩
  ·exact .inl l
  ·exact .inr ⟨k,c,e,h x c e _ z⟩
 ·obtain⟨v,z⟩:=I.cell x c e;exact⟨v,h x c e v z⟩
 ·obtain⟨m,⟨o,_,_,A,_⟩,_⟩:=I.loc;exact free _ o (fun z=>(g _ z).2.1 rfl) A I.free
 ·obtain⟨v,o,A,hd⟩:=I.cell x c e;exact free c o (fun z=>(g c z).2.2.1 x c e rfl) A (I.freeC x c e)
 ·obtain⟨e,n,ne,O,d⟩:=I.pin p P;have f:p.1∉ch:=fun z=>(g p.1 z).2.2.2 p P rfl;exact⟨keep p.1 p.2 ne O f e n,free p.1 p.2 f e n,ne,O,d⟩
theorem Inv.un{t':Nat}(I:Inv X pins σ H s)(u:Un X.fs [] H H' s.heap h')(c:HOk X.prog X.w H' h'):Inv X pins σ H' { s with heap:=h',toks:=t' }:=by
 obtain⟨m,⟨o,x,y,h,r⟩,_⟩:=id I.loc;obtain⟨p,l⟩:=u.any h I.free (by simp)
 exact I.step (g':=s.gens) (d':=s.drawn) (ch:=[]) (fun _ z=>nomatch z) (fun b o _ d _ e n=>u.keep b o e n d (by simp)) (fun b o _ d _ e n=>u.slot b o e n d (by simp)) (fun b o _ e n=>u.free b o e n (by simp)) (fun b o _ e=>u.there b o e (by simp)) u.tups u.frzs u.tbls (fun t j=>by
  obtain⟨q,f,g,a,i⟩:=j;rw[h]at a;cases a
  exact⟨_,f,g,l,i⟩) c I.bare
theorem Inv.call{g':Array GenState}{t':Nat}{d':Drawn}{ch:List Addr}(I:Inv X pins σ H s)(u:Un (frs X.stack) ch H H' s.heap h')(g:HOk X.prog X.w H' h')(v:AllBare g')
  (f:∀b∈ch,(b∈X.ex\/X.s₀.heap.objs.size<=b)/\b≠X.env.locals/\(∀x c,X.env.cells.lookup x=some c->c≠b)/\∀p∈X.pn++pins,p.1≠b) :
  Inv X pins σ H' { s with heap:=h',gens:=g',drawn:=d',toks:=t' }:=by
 obtain⟨m,⟨o,D,E,l,r⟩,_⟩:=id I.loc;obtain⟨A,h⟩:=u.any l I.free fun z=>(f _ z).2.1 rfl
 exact I.step (ch:=ch) f (fun b o h y a e n=>u.keep b o e n (fun z=>(NH.mp (I.stkSub b z)).elim h y) a) (fun b o _ _ a e n=>u.any e n a) (fun b o a e n=>u.free b o e n a) (fun b o a e=>u.there b o e a) u.tups u.frzs u.tbls (fun C t=>by
  obtain⟨B,i,j,d,q⟩:=t;rw[l]at d;cases d
  exact⟨_,i,j,h,q⟩) g v
theorem Inv.turned{t':Nat}{it:Addr}(I:Inv X pins σ H s)(k:∀b o,b≠it->s.heap.get? b=some o->h'.get? b=some o)(h:H it=none)(f:it≠X.env.locals)
  (w:it∈X.ex\/X.s₀.heap.objs.size<=it) (t:∀x c,X.env.cells.lookup x=some c->c≠it) (l:∀p∈X.pn++pins,p.1≠it):Inv X pins σ H { s with heap:=h',toks:=t' }:=by
 have d:∀b u,H b=some u->b≠it:=fun b u e z=>by rw[z,h]at e;cases e
 refine I.step (g':=s.gens) (d':=s.drawn) (ch:=[it]) (fun b j=>?_) (fun b o _ _ a e _=>k b o (fun z=>a (by simp[z])) e) (fun b o _ _ a e _=>⟨o.slots,k b o (fun z=>a (by simp[z])) e⟩) (fun _ _ _ _ n=>n)
  (fun b o a e=>⟨o,k b o (fun z=>a (by simp[z])) e⟩) (fun _ _ e=>e) (fun _ _ _ e=>e) (fun b ps e=>⟨#[],by rw[e];simp⟩) (fun m i=>?_) (fun b u e=>?_) I.bare
 ·have e:b=it:=by simpa using j
  subst e;exact⟨w,f,t,l⟩
 ·obtain⟨o,y,A,g,r⟩:=i;exact⟨o,y,A,k _ o (E2 f) g,r⟩
 ·refine(I.hok b u e).stay (fun c v a q=>k c v ?_ q) (fun _ q=>q) fun _ _ q=>q
  rcases a with z|z
  ·rw[z];exact d b u e
  ·exact d c _ z
theorem Inv.tok(I:Inv X pins σ H s)(t:Nat):Inv X pins σ H { s with toks:=t }:=I.un (h':=s.heap) (t':=t) Un.refl I.hok
theorem Inv.kept{t':Nat}(I:Inv X pins σ H s)(k:∀b u,s.heap.get? b=some u->h'.get? b=some u):Inv X pins σ H { s with heap:=h',toks:=t' }:=I.un (Un.kept k) (I.hok.kept k)
theorem Inv.laid{a:Addr}{o:HO}{t':Nat}(I:Inv X pins σ H s)(k:∀b u,s.heap.get? b=some u->h'.get? b=some u)(c:s.heap.objs.size<=a)(new:ObjOk X.prog X.w (upd H a o) h' a o) :
  Inv X pins σ (upd H a o) { s with heap:=h',toks:=t' }:=I.un (Un.laid k c (I.hok.fresh c)) (I.hok.laid k c new)
theorem Inv.write{x e:Addr}{o:HO}{t':Nat}(I:Inv X pins σ H s)(c:Mut (H x))(d:e=x\/H e=some (.own x))(k:∀b u,b≠e->s.heap.get? b=some u->h'.get? b=some u)(a:∃u,h'.get? e=some u)
  (new:ObjOk X.prog X.w (upd H x o) h' x o):Inv X pins σ (upd H x o) { s with heap:=h',toks:=t' }:=I.un (Un.write c d k a) (I.hok.write c d k a new)
theorem Inv.pins_of{pins':List (Addr×Obj)}(I:Inv X pins σ H s)(h:∀p∈pins',s.heap.get? p.1=some p.2/\H p.1=none/\p.1≠X.env.locals/\p.1∉X.fs/\∀v,p.2.data≠.cell v):Inv X pins' σ H s:=
 ⟨I.ok,I.os,I.bare,I.base,I.loc,I.cell,I.free,I.freeC,fun p a=>(Eo.mp a).elim (fun z=>I.pin p (NS _ z)) (h p),I.hok,I.len⟩
theorem Gw{N:List Str}(hN:N.Nodup){i j:Nat}{x:Str}(a:N[i]?=some x)(b:N[j]?=some x):i=j:=by
 obtain⟨f,d⟩:=Nh.mp a;obtain⟨e,c⟩:=Nh.mp b;exact(List.getElem_inj hN).mp (d.trans c.symm)
theorem W0{M:Model}{A:Around}{E:Value->Shared->Prop}{i:Nat}{x:Str}{v:V}{u:Value}{Q:Unit->Shared->Prop}(I:Inv X pins σ H s)(hN:X.N.Nodup)(T:X.N[i]?=some x)(B:Loc X.env.scope x)(r:RelV v u)
  (h:∀s',Inv X pins (σ.set i (some v)) H s'->(∃a,Heap.SameBut a s.heap s'.heap/\(a=X.env.locals\/X.env.cells.lookup x=some a))->Q () s') (hf:X.fn x=true\/X.env.scope.names.lookup x=some .local:=by first|exact .inl rfl|exact .inr rfl|assumption):wpAny M A (storeName X.env x u) Q E s:=by
 obtain⟨m,hn,hl⟩:=id I.loc;have U:(X.env.scope.kind==.class ||(X.env.scope.kind==.module&&X.env.locals != X.env.globals))=false:=by rw[I.ok.kind];rfl
 have J:i<σ.length:=by rw[I.len];exact(Nh.mp T).1
 have cne:=I.cne
 have g:∀{a:Addr} {h':Heap},(∃o,s.heap.get? a=some o/\H a=none)->Heap.SameBut a s.heap h'->HOk X.prog X.w H h':=fun {a h'} ha f b ob e=>by
  obtain⟨_,_,C⟩:=ha;refine(I.hok b ob e).stay (fun c w' t q=>(f.2 c ?_).trans q) (fun _ q=>q) fun _ _ q=>q
  rintro rfl
  rcases t with rfl|t
  ·rw[C]at e;cases e
  ·rw[C]at t;cases t
 rcases B with G|G
 ·refine wpAny_storeName_local G hn (fun h' ab f=>?_) U;obtain⟨oL,_,_,aa,_⟩:=id hn;refine h _ ⟨I.ok,I.os,I.bare,⟨fun b o e n P B=>?_,fun b o e n P B=>?_,I.base.free,fun b o e B=>?_,I.base.tups,I.base.frzs,I.base.tbls⟩,⟨_,ab,fun j y v' l D e3=>?_⟩,fun y c e=>?_,I.free,I.freeC,fun p hp=>?_,g ⟨oL,aa,I.free⟩ f,by simpa using I.len⟩ ⟨_,f,.inl rfl⟩
  ·exact(f.2 b (NG (Nn (Nu e) I.ok.above))).trans (I.base.keep b o e n P B)
  ·obtain⟨sl,l⟩:=I.base.slot b o e n P B;exact⟨sl,(f.2 b (NG (Nn (Nu e) I.ok.above))).trans l⟩
  ·obtain⟨o',l⟩:=I.base.there b o e B;exact⟨o',(f.2 b (NG (Nn (Nu e) I.ok.above))).trans l⟩
  ·by_cases L:j=i
   ·subst L;rw[T]at l;cases l;rw[E9 J]at D;cases D;exact⟨u,r,.inl ⟨G,by simp⟩⟩
   ·rw[DM (E2 L)]at D;obtain⟨u',r',q⟩:=hl j y v' l D e3;refine⟨u',r',?_⟩
    rcases q with⟨k,e⟩|⟨k,c,e,z⟩
    ·refine .inl ⟨k,?_⟩;have:y≠x:=fun e=>L (Gw hN l (e▸T));simp[this,e]
    ·exact .inr ⟨k,c,e,z.sameBut f (cne y c e)⟩
  ·obtain⟨w',z⟩:=I.cell y c e;exact⟨w',z.sameBut f (cne y c e)⟩
  ·obtain⟨e,n,ne,nf,d⟩:=I.pin p hp;exact⟨(f.2 p.1 ne).trans e,n,ne,nf,d⟩
 ·have O:X.fn x=true:=by
   rcases hf with z|z
   ·exact z
   ·rw[z]at G;cases G
  obtain⟨c,t⟩:=I.ok.has x (.inl G);obtain⟨w',z⟩:=I.cell x c t;refine wpAny_storeName_cell I.ok.kind G t z (fun h' Z f=>?_);obtain⟨oc,S,R⟩:=id z;refine h { s with heap:=h' } ⟨I.ok,I.os,I.bare,⟨fun b o e n P B=>?_,fun b o e n P B=>?_,I.base.free,fun b o e B=>?_,I.base.tups,I.base.frzs,I.base.tbls⟩,⟨m,hn.sameBut f (E2 (cne x c t)),fun j y v' l D e3=>?_⟩,fun y c' e=>?_,I.free,I.freeC,fun p hp=>?_,g ⟨oc,S,I.freeC x c t⟩ f,by simpa using I.len⟩ ⟨c,f,.inr t⟩
  ·exact(f.2 b (NG (Nn (Nu e) (I.ok.cab x c O t)))).trans (I.base.keep b o e n P B)
  ·obtain⟨sl,l⟩:=I.base.slot b o e n P B;exact⟨sl,(f.2 b (NG (Nn (Nu e) (I.ok.cab x c O t)))).trans l⟩
  ·obtain⟨o',l⟩:=I.base.there b o e B;exact⟨o',(f.2 b (NG (Nn (Nu e) (I.ok.cab x c O t)))).trans l⟩
  ·by_cases L:j=i
   ·subst L;rw[T]at l;cases l;rw[E9 J]at D;cases D;exact⟨u,r,.inr ⟨.inl G,c,t,Z⟩⟩
   ·rw[DM (E2 L)]at D;obtain⟨u',r',q⟩:=hl j y v' l D e3;refine⟨u',r',?_⟩
    rcases q with q|⟨k,c',e,z'⟩
    ·exact .inl q
    ·refine .inr ⟨k,c',e,z'.sameBut f ?_⟩
     rintro rfl
     exact L (Gw hN l (I.ok.inj _ _ _ e t▸T))
  ·by_cases Y:c'=c
   ·subst Y;exact⟨_,Z⟩
   ·obtain⟨w2,z2⟩:=I.cell y c' e;exact⟨w2,z2.sameBut f Y⟩
  ·obtain⟨e,n,ne,nf,d⟩:=I.pin p hp;refine⟨(f.2 p.1 ?_).trans e,n,ne,nf,d⟩;intro q;rw[q,S]at e;have q':oc=p.2:=N1 e;exact d w' (by rw[<-q'];exact R)
theorem YG{M:Model}{A:Around}{E:Value->Shared->Prop}{i:Nat}{x:Str}{v:V}{u:Value}{Q:Unit->Shared->Prop}(I:Inv X pins σ H s)(hN:X.N.Nodup)(c:X.N[i]?=some x)(b:Loc X.env.scope x)(r:RelV v u)
  (h:∀a,Inv X pins (σ.set i (some v)) H a->Q () a) (d:X.fn x=true\/X.env.scope.names.lookup x=some .local:=by first|exact .inl rfl|exact .inr rfl|assumption):wpAny M A (storeName X.env x u) Q E s:=
 W0 I hN c b r (fun a e _=>h a e) d
theorem Inv.call'{a:Shared}{ch:List Addr}(I:Inv X pins σ H s)(l:a.os=s.os)(u:Un (frs X.stack) ch H H' s.heap a.heap)(d:HOk X.prog X.w H' a.heap)(m:AllBare a.gens)
  (f:∀b∈ch,(b∈X.ex\/X.s₀.heap.objs.size<=b)/\b≠X.env.locals/\(∀x c,X.env.cells.lookup x=some c->c≠b)/\∀p∈X.pn++pins,p.1≠b):Inv X pins σ H' a:=by
 obtain⟨h',h,i,g,j⟩:=a;have e:j=s.os:=l;subst e;exact I.call (g':=h) (t':=g) (d':=i) u d m f
end
noncomputable abbrev XK:=Value->Option Addr->Hp->Prop
noncomputable abbrev St:=List (Option V)
noncomputable abbrev VK:=V->Hp->Prop
noncomputable abbrev TE:=St->Hp->VK->Prop
noncomputable abbrev TT:=St->Hp->(Bool->Hp->Prop)->Prop
noncomputable abbrev TA:=St->Hp->(List V->Hp->Prop)->Prop
structure Ends where
 nx:St->Hp->Prop
 rt:VK
 bk:St->Hp->Prop:=fun _ _=>False
 ct:St->Hp->Prop:=fun _ _=>False
noncomputable abbrev TS:=Ends->St->Hp->Prop
def EP(X:Cx)(a:List (Addr×Obj))(σ:St)(Q:VK)(u:Value)(c:Shared):Prop:=∃v b,Inv X a σ b c/\RelV v u/\Q v b
def TP(X:Cx)(a:List (Addr×Obj))(σ:St)(Q:Bool->Hp->Prop)(b:Bool)(d:Shared):Prop:=∃c,Inv X a σ c d/\Q b c
def AP(X:Cx)(a:List (Addr×Obj))(σ:St)(Q:List V->Hp->Prop)(d:List Value)(e:Shared):Prop:=∃b c,Inv X a σ c e/\Vals b d/\Q b c
def SP(X:Cx)(b:List (Addr×Obj))(D:Ends)(f:Flow)(d:Shared):Prop:=
 match f with
 |.next=>∃a c,Inv X b a c d/\D.nx a c
 |.brk=>∃a c,Inv X b a c d/\D.bk a c
 |.cont=>∃a c,Inv X b a c d/\D.ct a c
 |.ret u=>∃v a c,Inv X b a c d/\RelV v u/\D.rt v c
def PE(X:Cx)(e:Expr)(t:TE):Prop:=
 ∀(a:List (Addr×Obj)) (s:Shared) (b:St) (H:Hp) (Q:VK),Inv X a b H s->t b H Q->wpAny (model X.prog X.w) X.A (eval e X.env) (EP X a b Q) X.xe s
def PT(X:Cx)(e:Expr)(t:TT):Prop:=
 ∀(a:List (Addr×Obj)) (s:Shared) (b:St) (H:Hp) (Q:Bool->Hp->Prop),Inv X a b H s->t b H Q->wpAny (model X.prog X.w) X.A (isTrue e X.env (eval e X.env)) (TP X a b Q) X.xe s
def PW(X:Cx)(e:Expr)(t:TT):Prop:=
 ∀(whole:Sem Value) (a:List (Addr×Obj)) (s:Shared) (b:St) (H:Hp) (Q:Bool->Hp->Prop),Inv X a b H s->t b H Q->wpAny (model X.prog X.w) X.A (isTrue e X.env whole) (TP X a b Q) X.xe s
theorem PW.pt{X:Cx}{e:Expr}{t:TT}(h:PW X e t):PT X e t:=h _
def PA(X:Cx)(es:List Expr)(t:TA):Prop:=
 ∀(pos:Pos) (a:List (Addr×Obj)) (s:Shared) (b:St) (H:Hp) (Q:List V->Hp->Prop),Inv X a b H s->t b H Q->wpAny (model X.prog X.w) X.A (spliced (backTo pos (starEach es X.env))) (AP X a b Q) X.xe s
def PS(X:Cx)(st:Stmt)(t:TS):Prop:=
 ∀(a:List (Addr×Obj)) (s:Shared) (b:St) (H:Hp) (D:Ends),Inv X a b H s->t D b H->wpAny (model X.prog X.w) X.A (exec st X.env) (SP X a D) X.xe s
def PSs(X:Cx)(st:List Stmt)(t:TS):Prop:=
 ∀(a:List (Addr×Obj)) (s:Shared) (b:St) (H:Hp) (D:Ends),Inv X a b H s->t D b H->wpAny (model X.prog X.w) X.A (execs st X.env) (SP X a D) X.xe s
theorem thn{b:Type}{t:Sem b}{Q Q':b->Shared->Prop}{M:Model}{A:Around}{E:Value->Shared->Prop}{s:Shared}(h:wpAny M A t Q E s)(c:∀a s,Q a s->Q' a s):wpAny M A t Q' E s:=N0 h c fun _ _ x=>x
section
variable{X:Cx}
theorem bin{a b:Expr}{n m:TE}(C:PE X a n)(B:PE X b m){c:List (Addr×Obj)}{s:Shared}{σ:St}{H:Hp}{R:V->V->Hp->Prop}(I:Inv X c σ H s)(h:n σ H fun x j=>m σ j fun y d=>R x y d)
  {l:Type} {Q:l->Shared->Prop} {f:Value->Value->Sem l}
  (z:∀v u i x y d,Inv X c σ d i->RelV x v->RelV y u->R x y d->wpAny (model X.prog X.w) X.A (f v u) Q X.xe i) :
  wpAny (model X.prog X.w) X.A (eval a X.env) (fun v g=>wpAny (model X.prog X.w) X.A (eval b X.env) (fun u e=>wpAny (model X.prog X.w) X.A (f v u) Q X.xe e) X.xe g) X.xe s:=by
 refine thn (C c s σ H _ I h) fun v o ⟨x,j,I1,q,t⟩=>?_;refine thn (B c o σ j _ I1 t) fun u i ⟨y,d,I2,p,r⟩=>?_;exact z v u i x y d I2 q p r
noncomputable def Qmu(i:Nat):TE:=fun a H Q=>∃v,a[i]?=some (some v)/\Q v H
noncomputable def tC(v:V):TE:=fun _ H Q=>Q v H
theorem QgR{i:Nat}{x:Str}{pos:Pos}(hN:X.N[i]?=some x)(n:Vis X.env.scope x)(hd:(x==("__debug__":Str))=false:=by decide)(f:(x==("__classdict__":Str))=false:=by decide):PE X (.Name x pos) (Qmu i):=by
 intro d s j H Q I h;obtain⟨v,e,h⟩:=h;obtain⟨m,o,q⟩:=I.loc;obtain⟨u,r,l⟩:=q i x v hN e n;have fin:EP X d j Q u s:=⟨v,H,I,r,h⟩
 rcases l with⟨b,p⟩|⟨b,c,g,a⟩
 ·exact Oq (Lh I.ok.kind b o p fin) hd
 ·rcases b with b|b
  ·exact Oq (Lz I.ok.kind b g a fin) hd
  ·exact Oq (wpAny_loadName_free I.ok.kind b g a fin f) hd
theorem Qhj{i j pos}:PE X (.Constant (.int i) j pos) (tC (.int i)):=fun _ _ _ H _ I h=>wpAny_Constant_int ⟨.int i,H,I.tok _,⟨_,rfl⟩,h⟩
theorem Qkq{b j pos}:PE X (.Constant (.bool b) j pos) (tC (.bl b)):=fun _ _ _ H _ I h=>Constant_bool ⟨.bl b,H,I,rfl,h⟩
theorem Qii{x j pos}:PE X (.Constant (.str x) j pos) (tC (.str x)):=fun _ _ _ H _ I h=>Calls.Constant_str ⟨.str x,H,I.tok _,⟨_,rfl⟩,h⟩
def Gl(X:Cx)(x:Str):Prop:=X.env.kindOf x=some .globalImplicit
theorem Qcc{E:Value->Shared->Prop}{a:List (Addr×Obj)}{s:Shared}{σ:St}{H:Hp}{x:Str}{u:Value}{pos:Pos}{Q:Value->Shared->Prop}(I:Inv X a σ H s)(c:Gl X x)(b:X.mg x=some u)(h:Q u s)
  (hd:(x==("__debug__":Str))=false:=by decide):wpAny (model X.prog X.w) X.A (eval (.Name x pos) X.env) Q E s:=
 FT I.ok.kind c (Calls.loadGlobal_global (by rw[I.ok.glob];exact I.mod.glob.keeps I.bk) b h) hd
theorem Jo{E:Value->Shared->Prop}{a:List (Addr×Obj)}{s:Shared}{σ:St}{H:Hp}{x:Str}{u:Value}{pos:Pos}{Q:Value->Shared->Prop}(I:Inv X a σ H s)(e:Gl X x)(d:X.mg x=none)(b:bootBuiltins x=some u)(h:Q u s)
  (c:x≠"__name__":=by decide) (hd:(x==("__debug__":Str))=false:=by decide):wpAny (model X.prog X.w) X.A (eval (.Name x pos) X.env) Q E s:=by
 obtain⟨i,g,f⟩:=I.mod.blt;exact FT I.ok.kind e (Calls.loadGlobal_builtin (by rw[I.ok.glob];exact I.mod.glob.keeps I.bk) d (by rw[I.ok.blt];exact g.keeps I.bk) ((f x c).trans b) h) hd
theorem UR{x:Str}{v:V}{u:Value}{pos:Pos}(b:Gl X x)(a:X.mg x=some u)(r:RelV v u)(hd:(x==("__debug__":Str))=false:=by decide):PE X (.Name x pos) (tC v):=
 fun _ _ _ H _ I h=>Qcc I b a ⟨v,H,I,r,h⟩ hd
theorem QfO{x:Str}{v:V}{u:Value}{pos:Pos}(d:Gl X x)(c:X.mg x=none)(a:bootBuiltins x=some u)(r:RelV v u)(b:x≠"__name__":=by decide)(hd:(x==("__debug__":Str))=false:=by decide):PE X (.Name x pos) (tC v):=
 fun _ _ _ H _ I h=>Jo I d c a ⟨v,H,I,r,h⟩ b hd
variable{a b:Expr}{ta tb:TE}{pos:Pos}
variable{tA tB':TT}{rest:List Expr}
noncomputable def QlE(t u:TT):TT:=fun d H Q=>t d H fun c e=>if c=true then u d e Q else Q false e
noncomputable def tOr(t u:TT):TT:=fun d H Q=>t d H fun c e=>if c=true then Q true e else u d e Q
noncomputable def Qnf(t:TT):TT:=fun d H Q=>t d H fun c e=>Q (!c) e
theorem Qe8(g:PT X a tA):PW X (.BoolOp .And [a] pos) tA:=by
 intro i d s f H Q I h;refine isTrue_and (thn (g d s f H Q I h) fun c j e=>?_);cases c with
 |true=>exact isTrue_and_nil e
 |false=>exact e
theorem QgW(g:PT X a tA):PW X (.BoolOp .Or [a] pos) tA:=by
 intro i d s f H Q I h;refine isTrue_or (thn (g d s f H Q I h) fun c j e=>?_);cases c with
 |false=>exact isTrue_or_nil e
 |true=>exact e
theorem QhW(m:PT X a tA)(l:PW X (.BoolOp .And (b::rest) pos) tB'):PW X (.BoolOp .And (a::b::rest) pos) (QlE tA tB'):=by
 intro i d s e H Q I h;refine isTrue_and (thn (m d s e H _ I h) fun c j ⟨g,I1,f⟩=>?_);cases c with
 |true=>exact l i d j e g Q I1 f
 |false=>exact⟨g,I1,f⟩
theorem QkA(m:PT X a tA)(l:PW X (.BoolOp .Or (b::rest) pos) tB'):PW X (.BoolOp .Or (a::b::rest) pos) (tOr tA tB'):=by
 intro i d s e H Q I h;refine isTrue_or (thn (m d s e H _ I h) fun c j ⟨g,I1,f⟩=>?_);cases c with
 |true=>exact⟨g,I1,f⟩
 |false=>exact l i d j e g Q I1 f
theorem Qhh(f:PT X a tA):PT X (.UnaryOp .Not a pos) (Qnf tA):=by
 intro d s e H Q I h;exact isTrue_not (f d s e H (fun c g=>Q (!c) g) I h)
noncomputable def QjR(ta tb:TE):TE:=fun d H Q=>ta d H fun x e=>∃c,x=.bl c/\if c=true then tb d e Q else Q (.bl false) e
theorem Qha{op}{t:TE}(h:PE X a t):PE X (.BoolOp op [a] pos) t:=fun c s d H Q I hw=>BoolOp_one (h c s d H Q I hw)
theorem QgT(m:PE X a ta)(l:PE X (.BoolOp .And (b::rest) pos) tb):PE X (.BoolOp .And (a::b::rest) pos) (QjR ta tb):=by
 intro d s f H Q I h;refine BoolOp_and (thn (m d s f H _ I h) fun v i ⟨x,g,I1,j,e⟩=>?_);obtain⟨c,rfl,e⟩:=e;cases j;refine E3 ?_;cases c with
 |true=>exact l d i f g Q I1 e
 |false=>exact⟨.bl false,g,I1,rfl,e⟩
noncomputable def tIf(t:TT)(ta tb:TE):TE:=fun d H Q=>t d H fun c e=>if c=true then ta d e Q else tb d e Q
theorem QdP{c:Expr}(l:PT X c tA)(n:PE X a ta)(m:PE X b tb):PE X (.IfExp c a b pos) (tIf tA ta tb):=by
 intro e s f H Q I h;refine wpAny_IfExp (thn (l e s f H _ I h) fun d g ⟨j,I1,i⟩=>?_);cases d with
 |true=>exact n e g f j Q I1 i
 |false=>exact m e g f j Q I1 i
end
def SqL(K:Nd)(H:Hp)(a:Addr)(xs:List V):Prop:=
 Rd H a (.lst xs) \/
  ∃(o:Obj) (b:Array Value) (n:Nat),K.lookup a=some o/\o.cls=.type "list"/\o.dict=none/\o.data=.seq b n/\b.size<=sizeLine/\Vals xs b.toList
def SqT(K:Nd)(H:Hp)(a:Addr)(xs:List V):Prop:=
 Rd H a (.tup xs) \/
  ∃(o:Obj) (b:Array Value) (n:Nat),K.lookup a=some o/\o.cls=.type "tuple"/\o.data=.seq b n/\b.size<=sizeLine/\Vals xs b.toList
noncomputable def Qmy:Value->Option V
 |.none=>some .non
 |.bool b=>some (.bl b)
 |.int i _=>some (.int i)
 |.str x _=>some (.str x)
 |.bytes b _=>some (.byt b)
 |.float b _=>some (.flt b)
 |.ref a=>some (.ref a)
 |.type n=>some (.ty n)
 |_=>none
theorem RelV.abs{x:V}{u:Value}(r:RelV x u):Qmy u=some x:=by
 cases x with
 |non=>cases r;rfl
 |bl _=>cases r;rfl
 |int _=>obtain⟨t,rfl⟩:=r;rfl
 |str _=>obtain⟨t,rfl⟩:=r;rfl
 |byt _=>obtain⟨t,rfl⟩:=r;rfl
 |flt _=>obtain⟨t,rfl⟩:=r;rfl
 |ref _=>cases r;rfl
 |ty _=>cases r;rfl
theorem RelV.inj{x y:V}{u:Value}(r:RelV x u)(q:RelV y u):x=y:=N1 (r.abs.symm.trans q.abs)
theorem Vals.inj:∀{xs a:List V} {b:List Value},Vals xs b->Vals a b->xs=a
 |_,_,_,.nil,.nil=>rfl
 |_,_,_,.cons r t,.cons c t'=>by rw[r.inj c,Vals.inj t t']
section
variable{X:Cx}{pins:List (Addr×Obj)}{σ:St}{H:Hp}{s:Shared}{a:Addr}{xs ys:List V}
theorem SqL.of{K:Nd}(h:H a=some (.lst xs)):SqL K H a xs:=.inl (.inl h)
theorem SqT.of{K:Nd}(h:H a=some (.tup xs)):SqT K H a xs:=.inl (.inl h)
theorem Inv.list(I:Inv X pins σ H s)(h:SqL X.K H a xs):∃its:List Value,Vals xs its/\PlainL s.heap a its.toArray/\xs.length<=sizeLine:=by
 rcases h with h|⟨o,its,n,d,f,hd,c,b,r⟩
 ·obtain⟨z,its,n,r,e⟩:=h.ok I.hok;exact⟨its,r,⟨_,n,e,rfl,rfl,rfl⟩,z⟩
 ·refine⟨its.toList,r,⟨o,n,I.kIn a o d,f,hd,by simpa using c⟩,?_⟩;have e:=r.length;simp only[ND]at e;exact Nl (Nr e) b
theorem Inv.tuple(I:Inv X pins σ H s)(h:SqT X.K H a xs):∃its:List Value,Vals xs its/\IsTup s.heap a its.toArray/\xs.length<=sizeLine:=by
 rcases h with h|⟨o,its,n,d,f,c,b,r⟩
 ·obtain⟨z,its,r,p⟩:=h.ok I.hok;exact⟨its,r,p,z⟩
 ·refine⟨its.toList,r,⟨o,I.kIn a o d,f,n,by simpa using c⟩,?_⟩;have e:=r.length;simp only[ND]at e;exact Nl (Nr e) b
theorem Inv.list_inj(I:Inv X pins σ H s)(h:SqL X.K H a xs)(h':SqL X.K H a ys):xs=ys:=by
 obtain⟨c,r,⟨o,n,e,_,_,d⟩,_⟩:=I.list h;obtain⟨b,i,⟨l,m,f,_,_,g⟩,_⟩:=I.list h';rw[e]at f;cases f;rw[d]at g;injection g with j _
 have:c=b:=by simpa using congrArg Array.toList j
 subst this;exact r.inj i
theorem Inv.tuple_inj(I:Inv X pins σ H s)(h:SqT X.K H a xs)(h':SqT X.K H a ys):xs=ys:=by
 obtain⟨c,r,⟨o,e,_,n,d⟩,_⟩:=I.tuple h;obtain⟨b,i,⟨l,f,_,m,g⟩,_⟩:=I.tuple h';rw[e]at f;cases f;rw[d]at g;injection g with j _
 have:c=b:=by simpa using congrArg Array.toList j
 subst this;exact r.inj i
end
noncomputable abbrev Cx.wish(X:Cx)(E:Value->Shared->Prop):Cx:={ X with xe:=E }
noncomputable abbrev Cx.nox(X:Cx):Cx:=X.wish fun _ _=>False
theorem Cx.Ok.wish{X:Cx}(ok:X.Ok)(E:Value->Shared->Prop):(X.wish E).Ok:=
 ⟨ok.mod,ok.kind,ok.glob,ok.blt,ok.above,ok.inj,ok.has,ok.cab,ok.hd,ok.frames,ok.stk,ok.exf,ok.bs,ok.bsz,ok.noex,ok.exfs,ok.funs,ok.frf⟩
theorem Cx.Ok.unwish{X:Cx}{E:Value->Shared->Prop}(ok:(X.wish E).Ok):X.Ok:=
 ⟨ok.mod,ok.kind,ok.glob,ok.blt,ok.above,ok.inj,ok.has,ok.cab,ok.hd,ok.frames,ok.stk,ok.exf,ok.bs,ok.bsz,ok.noex,ok.exfs,ok.funs,ok.frf⟩
section
variable{X:Cx}{pins:List (Addr×Obj)}{σ:St}{H:Hp}{s:Shared}{E:Value->Shared->Prop}
theorem Inv.wish(I:Inv X pins σ H s)(E:Value->Shared->Prop):Inv (X.wish E) pins σ H s:=⟨I.ok.wish E,I.os,I.bare,I.base,I.loc,I.cell,I.free,I.freeC,I.pin,I.hok,I.len⟩
theorem Inv.unwish(I:Inv (X.wish E) pins σ H s):Inv X pins σ H s:=⟨I.ok.unwish,I.os,I.bare,I.base,I.loc,I.cell,I.free,I.freeC,I.pin,I.hok,I.len⟩
theorem SP.unwish{D:Ends}{f:Flow}{c:Shared}(h:SP (X.wish E) pins D f c):SP X pins D f c:=by
 cases f with
 |next=>obtain⟨a,b,I,q⟩:=h;exact⟨a,b,I.unwish,q⟩
 |brk=>obtain⟨a,b,I,q⟩:=h;exact⟨a,b,I.unwish,q⟩
 |cont=>obtain⟨a,b,I,q⟩:=h;exact⟨a,b,I.unwish,q⟩
 |ret u=>obtain⟨v,a,b,I,r,q⟩:=h;exact⟨v,a,b,I.unwish,r,q⟩
theorem PSs.nox{st:List Stmt}{t:TS}(h:PSs X.nox st t):PSs X st t:=fun pins s σ H D I hw=>
 N0 (h pins s σ H D (I.wish _) hw) (fun _ _ q=>q.unwish) fun _ _ z=>False.elim z
end
section
variable{X:Cx}{st:Stmt}{rest:List Stmt}{t u:TS}{e:Expr}{te:TE}{pos:Pos}
noncomputable def QjA:TS:=fun D a H=>D.nx a H
noncomputable def Qk7(t u:TS):TS:=fun D a H=>t { D with nx:=u D } a H
theorem QeQ:PSs X [] QjA:=fun _ _ a H _ I h=>Fx ⟨a,H,I,h⟩
theorem Qdz(i:PS X st t)(g:PSs X rest u):PSs X (st::rest) (Qk7 t u):=by
 intro a s c H D I h;refine wpAny_execs_cons (thn (i a s c H { D with nx:=u D } I h) fun f d q=>?_);cases f with
 |next=>
  obtain⟨b,l,j,q⟩:=q;exact g a d b l D j q
 |ret v=>exact q
 |brk=>exact q
 |cont=>exact q
theorem Qe4(c:PS X st t):PSs X [st] t:=by
 intro a s b H D I h;refine wpAny_execs_cons (thn (c a s b H D I h) fun f d q=>?_);cases f with
 |next=>exact Fx q
 |ret v=>exact q
 |brk=>exact q
 |cont=>exact q
theorem Inv.quiet{a:List (Addr×Obj)}{σ:St}{H:Hp}{s:Shared}(I:Inv X a σ H s):interactive X.env=false:=by simp[interactive,I.ok.kind]
noncomputable def Qjk(te:TE):TS:=fun D a H=>te a H fun _ b=>D.nx a b
theorem Qgi(f:PE X e te)(d:swapsWith e none pos.line X.env=pure false:=by rfl):PS X (.Expr e pos) (Qjk te):=by
 intro a s b H D I h;exact wpAny_Expr_any (thn (f a s b H _ I h) fun v i ⟨x,g,I1,j,c⟩=>⟨b,g,I1,c⟩) I.quiet d
noncomputable def Qmx(te:TE):TS:=fun D a H=>te a H D.rt
theorem Qhy(f:PE X e te):PS X (.Return (some e) pos) (Qmx te):=by
 intro a s b H D I h;exact wpAny_Return_some (thn (f a s b H _ I h) fun v i ⟨x,g,I1,c,d⟩=>⟨x,b,g,I1,c,d⟩)
noncomputable def Ql9(c:TT)(t u:TS):TS:=fun D a H=>c a H fun b d=>if b=true then t D a d else u D a d
theorem Qjm{c:Expr}{a b:List Stmt}{i:TT}(n:PT X c i)(p:PSs X a t)(o:PSs X b u):PS X (.If c a b pos) (Ql9 i t u):=by
 intro f s g H D I h;refine wpAny_If (thn (n f s g H _ I h) fun d j ⟨m,I1,l⟩=>?_);cases d with
 |true=>exact p f j g m D I1 l
 |false=>exact o f j g m D I1 l
end
noncomputable abbrev TG:=V->St->Hp->(St->Hp->Prop)->Prop
noncomputable abbrev TGs:=List V->St->Hp->(St->Hp->Prop)->Prop
def PG(X:Cx)(target:Expr)(t:TG):Prop:=
 ∀(a:List (Addr×Obj)) (s:Shared) (c:St) (H:Hp) (v:V) (u:Value) (Q:St->Hp->Prop),Inv X a c H s->RelV v u->t v c H Q ->
  wpAny (model X.prog X.w) X.A (assign target X.env u) (fun _ e=>∃b d,Inv X a b d e/\Q b d) X.xe s
def PGs(X:Cx)(g:List Expr)(t:TGs):Prop:=
 ∀(a:List (Addr×Obj)) (s:Shared) (c:St) (H:Hp) (d:List V) (e:List Value) (Q:St->Hp->Prop),Inv X a c H s->Vals d e->t d c H Q ->
  wpAny (model X.prog X.w) X.A (assignInOrder ((assignEach g X.env).map (·.2)) e) (fun _ h=>∃b f,Inv X a b f h/\Q b f) X.xe s
noncomputable abbrev Qkd:=V->V->V->Hp->(Hp->Prop)->Prop
def Qlu(X:Cx)(t:Qkd):Prop:=
 ∀(a:List (Addr×Obj)) (s:Shared) (b:St) (H:Hp) (o i v:V) (c d u:Value) (Q:Hp->Prop),Inv X a b H s->RelV o c->RelV i d->RelV v u->t o i v H Q ->
  wpAny (model X.prog X.w) X.A (setItem c d u) (fun _ f=>∃e,Inv X a b e f/\Q e) X.xe s
noncomputable abbrev TIp:=V->V->Hp->VK->Prop
def PIp(X:Cx)(op:Operator)(t:TIp):Prop:=
 ∀(a:List (Addr×Obj)) (s:Shared) (b:St) (H:Hp) (x y:V) (v u:Value) (Q:VK),Inv X a b H s->RelV x v->RelV y u->t x y H Q ->
  wpAny (model X.prog X.w) X.A (inplaceOp op v u) (EP X a b Q) X.xe s
section
variable{X:Cx}{pos:Pos}
noncomputable def Qbu(i:Nat):TG:=fun v a H Q=>Q (a.set i (some v)) H
theorem QaR{i:Nat}{x:Str}(hN:X.N.Nodup)(c:X.N[i]?=some x)(b:Loc X.env.scope x)(d:X.fn x=true\/X.env.scope.names.lookup x=some .local:=by first|exact .inl rfl|exact .inr rfl|assumption):PG X (.Name x pos) (Qbu i):=by
 intro a s f H v u Q I r h;exact LY (YG I hN c b r (fun g e=>⟨_,H,e,h⟩) d)
noncomputable def QkV:TGs:=fun b a H Q=>b=[]/\Q a H
noncomputable def Qhl(t:TG)(u:TGs):TGs:=fun c b H Q=>∃v r,c=v::r/\t v b H fun a d=>u r a d Q
theorem QeM:PGs X [] QkV:=by
 intro a s b H c d Q I r h;obtain⟨e,h⟩:=h;subst e;cases r;exact assignInOrder_nil ⟨b,H,I,h⟩
theorem Qdg{e:Expr}{es:List Expr}{t:TG}{u:TGs}(l:PG X e t)(j:PGs X es u)
  (i:(assignEach (e::es) X.env).map (·.2)=assign e X.env::(assignEach es X.env).map (·.2):=by rfl):PGs X (e::es) (Qhl t u):=by
 intro a s c H o q Q I r h;obtain⟨v,p,m,h⟩:=h;subst m;cases r with
 |cons r f=>
  rw[i];refine assignInOrder_cons (thn (l a s c H _ _ _ I r h) fun _ d ⟨b,n,I1,g⟩=>?_);exact j a d b n _ _ Q I1 f g
noncomputable def Ql3(K:Nd)(n:Nat)(t:TGs):TG:=fun v c H Q=>∃a b,v=.ref a/\SqT K H a b/\b.length=n/\t b c H Q
theorem Qh4{es:List Expr}{k:Nat}{t:TGs}{n:Nat}(x:X.calm=true)(h:PGs X es t)
  (q:(assignEach es X.env).length=n:=by rfl) (d:(assignEach es X.env).findIdx? (·.1)=none:=by rfl):PG X (.Tuple es k pos) (Ql3 X.K n t):=by
 intro c s f H v u Q I r hw;obtain⟨a,i,z,p,w,hw⟩:=hw;subst z;cases r;obtain⟨j,g,m,B⟩:=I.tuple p;refine assign_Tuple_tuple (I.ok.hd x) m (by simp[q,<-w,g.length]) d fun y l=>?_;have I1:Inv X c f H { s with heap:=y }:=I.kept (t':=s.toks) fun b o e=>l b o (NG (Nu e)) e;exact h c _ f H i _ Q I1 (by simpa using g) hw
noncomputable def QkW(b c:TE)(t:Qkd):TG:=fun v a H Q=>b a H fun o f=>c a f fun i e=>t o i v e fun d=>Q a d
theorem Qic{o i:Expr}{e f:TE}{t:Qkd}(z:PE X o e)(A:PE X i f)(w:Qlu X t)
  (B:∀v,assign (.Subscript o i pos) X.env v=(do
   let b <-holding [v] (eval o X.env)
   let c <-holding [v,b] (eval i X.env)
   standAt pos
   holding [v,b,c] (setItem b c v)
   release [v,b,c] []):=by intro _;rfl):PG X (.Subscript o i pos) (QkW e f t):=by
 intro a s d H v u Q I r h;rw[B];refine Na (Ek (thn (z a s d H _ I h) fun b j ⟨x,E,I1,m,q⟩=>?_));refine Na (Ek (thn (A a j d E _ I1 q) fun c g ⟨y,D,I2,l,p⟩=>?_));refine Na (Lu (Na (Ek (thn (w a g d D x y v b c u _ I2 m l r p) fun _ G ⟨C,I3,n⟩=>?_))));exact wpAny_release ⟨d,C,I3,n⟩
noncomputable def Qi9(te:TE)(g:TG):TS:=fun D a H=>te a H fun x b=>g x a b D.nx
theorem Qiu{b e:Expr}{te:TE}{g:TG}(m:PE X e te)(l:PG X b g)(j:swapsWithSole [b] e pos.line X.env=pure false:=by rfl)(hw:swappedStores [b] e X.env=pure none:=by rfl)
  (n:(assignEach [b] X.env).map (·.2)=[assign b X.env]:=by rfl):PS X (.Assign [b] e pos) (Qi9 te g):=by
 intro a s c H D I h;refine wpAny_Assign_stores (thn (m a s c H _ I h) fun v d ⟨x,o,I1,f,i⟩=>?_) j hw;rw[n];exact thn (l a d c o x v _ I1 f i) fun _ p q=>q
theorem Qik{i:Nat}{x:Str}{e:Expr}{te:TE}{a:Pos}(hN:X.N.Nodup)(l:X.N[i]?=some x)(g:Loc X.env.scope x)(n:PE X e te)(j:swapsWith e (some (.Name x a)) pos.line X.env=pure false:=by rfl)(m:X.fn x=true\/X.env.scope.names.lookup x=some .local:=by first|exact .inl rfl|exact .inr rfl|assumption) :
  PS X (.Assign [.Name x a] e pos) (Qi9 te (Qbu i)):=by
 intro b s c H D I h;refine wpAny_Assign_Name (thn (n b s c H _ I h) fun v q ⟨y,o,I1,d,f⟩=>?_) j;exact YG I1 hN l g d (fun p I2=>⟨_,o,I2,f⟩) m
noncomputable def Ql5(i:Nat)(te:TE)(b:TIp):TS:=fun D a H=>∃x,a[i]?=some (some x)/\te a H fun y d=>b x y d fun z c=>D.nx (a.set i (some z)) c
theorem Qiz{i:Nat}{x:Str}{e:Expr}{te:TE}{op:Operator}{q:TIp}{j:Pos}(hN:X.N.Nodup)(t:X.N[i]?=some x)(o:Loc X.env.scope x)(R:PE X e te)(L:PIp X op q)(Q:X.fn x=true\/X.env.scope.names.lookup x=some .local:=by first|exact .inl rfl|exact .inr rfl|assumption) :
  PS X (.AugAssign (.Name x j) op e pos) (Ql5 i te q):=by
 intro a s p H D I h;obtain⟨v,T,h⟩:=h;obtain⟨m,M,P⟩:=I.loc;have n:Vis X.env.scope x:=by rcases o with k|k;exact .inl k;exact .inr (.inl k)
 obtain⟨u,r,l⟩:=P i x v t T n;refine wpAny_AugAssign_Name ?_
 have go:wpAny (model X.prog X.w) X.A (eval e X.env) (fun w g=>wpAny (model X.prog X.w) X.A (inplaceOp op u w) (fun r f=>wpAny (model X.prog X.w) X.A (storeName X.env x r) (fun _=>SP X a D .next) X.xe f) X.xe g) X.xe s:=by
  refine thn (R a s p H _ I h) fun w B ⟨y,Y,I1,E,J⟩=>?_;refine thn (L a B p Y v y u w _ I1 r E J) fun z s2 ⟨Z,U,I2,C,G⟩=>?_;exact YG I2 hN t o C (fun s3 I3=>⟨_,U,I3,G⟩) Q
 rcases l with⟨b,O⟩|⟨b,c,S,d⟩
 ·exact Lh I.ok.kind b M O go
 ·rcases b with b|b
  ·exact Lz I.ok.kind b S d go
  ·rcases o with k|k
   ·have:X.env.scope.names.lookup x=some .free:=b;rw[k]at this;cases this
   ·have:X.env.scope.names.lookup x=some .free:=b;rw[k]at this;cases this
end
section
variable{X:Cx}{pos:Pos}
noncomputable def Qex(c:TT)(h:TS):TS:=fun D a H=>∃W:Nat->St->Hp->Prop,(∃m,W m a H)/\∀m a H,W m a H ->
 c a H fun b f=>if b=true then∃N:St->Hp->Prop,(∀d g,N d g->∃e,e<m/\W e d g)/\h { D with nx:=N,ct:=N,bk:=D.nx } a f else D.nx a f
theorem Qdu{c:Expr}{body:List Stmt}{t:TT}{u:TS}(x:PassesOwn (model X.prog X.w) X.A X.env X.xe)(P:PT X c t)(Q:PSs X body u):PS X (.While c body [] pos) (Qex t u):=by
 intro d s C H D I h;obtain⟨W,⟨O,G⟩,i⟩:=h;refine wpAny_While (codeAny_whileLoop (fun n M=>∃g B,Inv X d g B M/\W n g B) ?_ O ⟨C,H,I,G⟩)
 rintro n L ⟨e,z,I1,E⟩
 refine Df x (thn (P d L e z _ I1 (i n e z E)) fun b J ⟨y,I2,m⟩=>?_);cases b with
 | true=>
  obtain⟨N,hN,m⟩:=m;rw[if_pos rfl];refine Df x (thn (Q d J e y _ I2 m) fun f R l=>?_);cases f with
  |next=>
   obtain⟨a,j,I3,p⟩:=l;obtain⟨q,r,o⟩:=hN a j p;exact⟨q,r,a,j,I3,o⟩
  |cont=>
   obtain⟨a,j,I3,p⟩:=l;obtain⟨q,r,o⟩:=hN a j p;exact⟨q,r,a,j,I3,o⟩
  |brk=>exact l
  |ret v=>exact l
 |false=>
  rw[if_neg NZ];exact Fx ⟨e,y,I2,m⟩
end
structure It where
 go:Nat->Hp->Prop
 yld:Nat->Hp->V->Hp->Prop
 stop:Nat->Hp->Prop
def Qaz(X:Cx)(a:List (Addr×Obj))(H:Hp)(b:Addr):Prop:=
 H b=none/\b≠X.env.locals/\b∉X.fs/\(b∈X.ex\/X.s₀.heap.objs.size<=b)/\(∀x c,X.env.cells.lookup x=some c->c≠b)/\∀p∈X.pn++a,p.1≠b
theorem Inv.fpOk{X:Cx}{a:List (Addr×Obj)}{σ:St}{H f:Hp}{s:Shared}{b:Addr}(I:Inv X a σ H s)(d:s.heap.objs.size<=b)(h:f b=none):Qaz X a f b:=by
 refine⟨h,Db (Nn I.lt d),I.nofs d,.inr (Nl I.sz d),fun x c e z=>?_,fun p g z=>?_⟩
 ·obtain⟨v,q⟩:=I.cell x c e;exact absurd (Nn q.lt (by rw[z];exact d)) (Ev _)
 ·exact absurd (Nn (Nu (I.pin p g).1) (by rw[z];exact d)) (Ev _)
structure Turn(P:Program)(w:World)(K:Nd)(tg:Expr)(J:It)(fp:List Addr)(it:Addr)(tn:Nat->Heap->Prop):Prop where
 mem:it∈fp
 obj:∀i h,tn i h->∀b∈fp,∃o,h.get? b=some o/\∀v,o.data≠.cell v
 keep:∀i h h',tn i h->(∀b∈fp,∀o,h.get? b=some o->h'.get? b=some o)->tn i h'
 item:∀(X:Cx),X.prog=P->X.w=w->X.K=K->X.calm=true->∀(i:Nat) (pins:List (Addr×Obj)) (s:Shared) (σ:St) (H:Hp) (E:Value->Shared->Prop),Inv X pins σ H s->(∀b∈fp,Qaz X pins H b)->tn i s.heap->J.go i H ->
  wpAny (model P w) X.A (pyNext (.ref it)) (fun r s1=>∃u,r=some u /\
   wpAny (model P w) X.A (letOwnedTupleGo tg (.ref it) u) (fun _ s2=>∃x H',Inv X pins σ H' s2/\RelV x u/\J.yld i H x H'/\tn (i+1) s2.heap/\∀b∈fp,H' b=none) E s1) E s
 done:∀(X:Cx),X.prog=P->X.w=w->X.K=K->X.calm=true->∀(i:Nat) (pins:List (Addr×Obj)) (s:Shared) (σ:St) (H:Hp) (E:Value->Shared->Prop),Inv X pins σ H s->(∀b∈fp,Qaz X pins H b)->tn i s.heap->J.stop i H ->
  wpAny (model P w) X.A (pyNext (.ref it)) (fun r s1=>r=none/\Inv X pins σ H s1) E s
 self:∀(A:Around) (i:Nat) (s:Shared) (Q:Value->Shared->Prop) (E:Value->Shared->Prop),tn i s.heap->Q (.ref it) s->wpAny (model P w) A (pyIter (.ref it)) Q E s
noncomputable abbrev TI:=St->Hp->(It->Hp->Prop)->Prop
def PIE(X:Cx)(a:List (Addr×Obj))(σ:St)(i:Expr)(R:It->Hp->Prop)(c:Value)(f:Shared):Prop:=
 ∃(g:Addr) (h:List Addr) (e:Nat->Heap->Prop) (J:It) (d:Hp),c=.ref g/\Inv X a σ d f/\Turn X.prog X.w X.K i J h g e/\e 0 f.heap/\(∀b∈h,Qaz X a d b)/\R J d
def PI(X:Cx)(d iter:Expr)(c:TI):Prop:=
 ∀(a:List (Addr×Obj)) (s:Shared) (b:St) (H:Hp) (R:It->Hp->Prop),Inv X a b H s->c b H R ->
  wpAny (model X.prog X.w) X.A (eval iter X.env) (fun v e=>wpAny (model X.prog X.w) X.A (pyIter v) (PIE X a b d R) X.xe e) X.xe s
theorem G8 {M:Model} {A:Around} {E:Value->Shared->Prop} {s:Shared} {c:Expr} {it:Addr} {u:Value} {o:Obj} {n:String} {b:Array Value} {Q:Unit->Shared->Prop} (d:s.heap.get? it=some o) (f:o.cls=.type n) (hd:o.data=.fields b)
    (e:["enumerate","zip","dict_itemiterator","dict_reverseitemiterator","odict_iterator","itertools.zip_longest","itertools.pairwise"].contains n=false) (a:Q () s):wpAny M A (letOwnedTupleGo c (.ref it) u) Q E s:=by
  unfold letOwnedTupleGo
  cases c<;>first
    |exact Ng a
    |(cases u<;>first
        |exact Ng a
        | (refine Na (wpAny_load d ?_)
           rw[f,hd];show wpAny M A (if(["enumerate","zip","dict_itemiterator","dict_reverseitemiterator","odict_iterator","itertools.zip_longest","itertools.pairwise"].contains n&&b[0]?==some (rawInt _))=true then _ else _) Q E s;rw[if_neg (by intro h;rw[e,Bool.false_and]at h;cases h)]
           exact Ng a))
noncomputable def Itl(K:Nd)(a:Addr):It:=
 ⟨fun i H=>∃b x,SqL K H a b/\b[i]?=some x,fun i H x c=>c=H/\∀b,SqL K H a b->b[i]?=some x,fun i H=>∃b,SqL K H a b/\b.length<=i⟩
noncomputable def Itt(K:Nd)(a:Addr):It:=
 ⟨fun i H=>∃b x,SqT K H a b/\b[i]?=some x,fun i H x c=>c=H/\∀b,SqT K H a b->b[i]?=some x,fun i H=>∃b,SqT K H a b/\b.length<=i⟩
noncomputable def Itr(lo:Int)(n:Nat):It:=⟨fun i _=>i<n,fun i H x a=>a=H/\x=.int (lo+i),fun i _=>n<=i⟩
theorem QaG{P:Program}{w:World}{K:Nd}{O:Expr}(a it:Addr):Turn P w K O (Itl K a) [it] it (fun i h=>h.IsListIter it a i) where
 mem:=by simp
 obj:=fun i h st b g=>by
  have e:b=it:=by simpa using g
  subst e;obtain⟨o,e,c,d⟩:=st;exact⟨o,e,fun v z=>by rw[d]at z;cases z⟩
 keep:=fun i h q st k=>st.at fun o e=>k it (by simp) o e
 item:=by
  intro X A hw B M i f s L H E I n st y;subst A hw B;obtain⟨N,x,m,l⟩:=y;obtain⟨t,r,p,T⟩:=I.list m;obtain⟨u,hu,S⟩:=r.get l;obtain⟨J,f1,f2,G,D,C⟩:=n it (by simp);refine wpAny_pyNext_list_item st p.isList (x:=u) (by simpa using hu) fun q j R=>?_;have I1:Inv X f L H { s with heap:=q }:=I.turned (t':=s.toks) (fun b o g e=>(R.2 b g).trans e) J f1 G D C;obtain⟨o,e,c,d⟩:=id j;exact⟨u,rfl,G8 (s:={ s with heap:=q }) e c d (by decide) ⟨x,H,I1,S,⟨rfl,fun ys U=>by rw[I.list_inj U m];exact l⟩,j,fun b g=>(n b g).1⟩⟩
 done:=by
  intro X A hw B M i f s L H E I n st y;subst A hw B;obtain⟨N,m,l⟩:=y;obtain⟨t,r,p,T⟩:=I.list m;obtain⟨J,f1,f2,G,D,C⟩:=n it (by simp);have Y:=r.length;exact wpAny_pyNext_list_end (I.ok.hd M) st p.isList (by simp;exact Nl (Nr Y.symm) l) fun q Z=>⟨rfl,I.turned (t':=s.toks) (fun b o g e=>Z b o g e) J f1 G D C⟩
 self:=fun _ _ _ _ _ st h=>wpAny_pyIter_listiter st h
theorem Qah{P:Program}{w:World}{K:Nd}{O:Expr}(a it:Addr):Turn P w K O (Itt K a) [it] it (fun i h=>h.IsTupleIter it a i) where
 mem:=by simp
 obj:=fun i h st b j=>by
  have e:b=it:=by simpa using j
  subst e;obtain⟨o,e,c,d⟩:=st;exact⟨o,e,fun v z=>by rw[d]at z;cases z⟩
 keep:=fun i h r st k=>st.at fun o e=>k it (by simp) o e
 item:=by
  intro X A hw B M i f s L H E I q st y;subst A hw B;obtain⟨N,x,n,m⟩:=y;obtain⟨g,t,p,T⟩:=I.tuple n;obtain⟨u,hu,S⟩:=t.get m;obtain⟨J,f1,f2,G,D,C⟩:=q it (by simp);refine wpAny_pyNext_tuple_item st (show s.heap.IsTuple a g.toArray from p) (x:=u) (by simpa using hu) fun r l R=>?_;have I1:Inv X f L H { s with heap:=r }:=I.turned (t':=s.toks) (fun b o j e=>(R.2 b j).trans e) J f1 G D C;obtain⟨o,e,c,d⟩:=id l;exact⟨u,rfl,G8 (s:={ s with heap:=r }) e c d (by decide) ⟨x,H,I1,S,⟨rfl,fun ys U=>by rw[I.tuple_inj U n];exact m⟩,l,fun b j=>(q b j).1⟩⟩
 done:=by
  intro X A hw B M i f s L H E I q st y;subst A hw B;obtain⟨N,n,m⟩:=y;obtain⟨g,t,p,T⟩:=I.tuple n;obtain⟨J,f1,f2,G,D,C⟩:=q it (by simp);have Y:=t.length;exact wpAny_pyNext_tuple_end (I.ok.hd M) st (show s.heap.IsTuple a g.toArray from p) (by simp;exact Nl (Nr Y.symm) m) fun r Z=>⟨rfl,I.turned (t':=s.toks) (fun b o j e=>Z b o j e) J f1 G D C⟩
 self:=fun _ _ _ _ _ st h=>wpAny_pyIter_tupleiter st h
theorem Qam{P:Program}{w:World}{K:Nd}{C:Expr}(it:Addr)(lo:Int)(n:Nat):Turn P w K C (Itr lo n) [it] it (fun i h=>IsRangeIter h it (lo+(i:Nat)*1) ((n:Int)-(i:Nat)) 1) where
 mem:=by simp
 obj:=fun i h st b c=>by
  have e:b=it:=by simpa using c
  subst e
  exact⟨_,st,fun v z=>by
   have B:Data.fields _=Data.cell v:=z
   cases B⟩
 keep:=fun i h g st k=>k it (by simp) _ st
 item:=by
  intro X m hw p l i a s y H E I f st j;subst m hw p;obtain⟨x,f1,f2,u,r,q⟩:=f it (by simp);have W:=OS (prog:=X.prog) (w:=X.w) (I.ok.hd l) it lo 1 n;refine W.item i s _ _ j st fun v g tk G d D=>?_;obtain⟨t,rfl⟩:=G;have I1:Inv X a y H { s with heap:=g,toks:=tk }:=I.turned (fun b o c e=>D b o (by simpa using c) e) x f1 u r q;refine⟨_,rfl,G8 (s:={ s with heap:=g,toks:=tk }) (n:="range_iterator") d rfl rfl (by decide) ⟨.int (lo+i),H,I1,⟨t,?_⟩,⟨rfl,rfl⟩,d,fun b c=>(f b c).1⟩⟩;rw[Int.mul_one]
 done:=by
  intro X m hw p l i a s y H E I f st j;subst m hw p;obtain⟨x,f1,f2,u,r,q⟩:=f it (by simp);exact II (I.ok.hd l) st (by have:n<=i:=j;lia) fun g J=>⟨rfl,I.turned (t':=s.toks) (fun b o c e=>J b o c e) x f1 u r q⟩
 self:=fun _ _ _ _ _ st h=>IJ st h
section
variable{X:Cx}{tg:Expr}
theorem GN{c:List (Addr×Obj)}{σ:St}{H:Hp}{s:Shared}{R:It->Hp->Prop}{E:Value->Shared->Prop}{lo a:Int}{t u v:Tok}{tk:Nat}(I:Inv X c σ H s)(i:-(2^62)<=lo)(h:lo<2^62)(g:-(2^62)<=a)(f:a<2^62)
  (q:R (Itr lo (a-lo).toNat) H):wpAny (model X.prog X.w) X.A (pyIter (.ref s.heap.objs.size)) (PIE X c σ tg R) E { s with heap:=s.heap.push { cls:=.type "range",data:=.fields #[.int lo t,.int a u,.int 1 v] },toks:=tk }:=by
 refine LM (OT ..) (small_one i h g f) ?_;have I1:Inv X c σ H { s with heap:=s.heap.push { cls:=.type "range",data:=.fields #[.int lo t,.int a u,.int 1 v] },toks:=tk }:=I.kept fun b o e=>Nk _ e
 refine⟨(s.heap.push { cls:=.type "range",data:=.fields #[.int lo t,.int a u,.int 1 v] }).objs.size,[(s.heap.push { cls:=.type "range",data:=.fields #[.int lo t,.int a u,.int 1 v] }).objs.size],_,_,H,rfl,
  I1.kept (t':=tk) fun b o e=>Nk _ e,Qam _ lo (a-lo).toNat,?_,fun b d=>?_,q⟩
 ·have l:lo+((0:Nat):Int)*1=lo:=by simp
  have j:(((a-lo).toNat:Nat):Int)-((0:Nat):Int)=Builtin.Range.rangeSize lo a 1:=by rw[rangeSize_one];split<;>lia
  show IsRangeIter _ _ (lo+((0:Nat):Int)*1) ((((a-lo).toNat:Nat):Int)-((0:Nat):Int)) 1;rw[l,j];exact Nw _ rfl
 ·have e:b=(s.heap.push { cls:=.type "range",data:=.fields #[.int lo t,.int a u,.int 1 v] }).objs.size:=by simpa using d
  subst e;exact I1.fpOk (Nx _) (I1.hok.fresh (Nx _))
noncomputable def Qkl(c:TA):TI:=fun a H R=>c a H fun b d=>∃j:Int,b=[.int j]/\-(2^62)<=j/\j<2^62/\R (Itr 0 j.toNat) d
noncomputable def QjN(c:TA):TI:=fun a H R=>c a H fun b d=>∃i j:Int,b=[.int i,.int j]/\(-(2^62)<=i/\i<2^62/\-(2^62)<=j/\j<2^62)/\R (Itr i (j-i).toNat) d
theorem Qbd{a:Expr}{d:TA}{p pos:Pos}(o:Gl X "range")(n:X.mg "range"=none)(u:PA X [a] d)(m:starEach [a] X.env=[(false,eval a X.env)]:=by rfl):PI X tg (.Call (.Name "range" p) [a] [] pos) (Qkl d):=by
 intro b s f H R I h;refine Call_ (Jo I o n Os (NV (thn (u pos b s f H _ I h) fun w x ⟨v,y,I1,i,c⟩=>?_) m rfl));obtain⟨j,e,c,l,q⟩:=c;subst e;cases i with
 |cons r g=>
  cases g;obtain⟨t,rfl⟩:=r;exact call_range_1 (GN I1 (by decide) (by decide) c l (by simpa using q))
theorem Qa2{a b:Expr}{l:TA}{p pos:Pos}(z:Gl X "range")(y:X.mg "range"=none)(A:PA X [a,b] l)(x:starEach [a,b] X.env=[(false,eval a X.env),(false,eval b X.env)]:=by rfl)(d:starEach [b] X.env=[(false,eval b X.env)]:=by rfl) :
  PI X tg (.Call (.Name "range" p) [a,b] [] pos) (QjN l):=by
 intro c s m H R I h;refine Call_ (Jo I z y Os (NV (thn (A pos c s m H _ I h) fun C E ⟨B,G,I1,n,g⟩=>?_) (by rw[x,d]) (by rw[d];rfl)));obtain⟨i,j,e,⟨g,w,v,u⟩,q⟩:=g;subst e;cases n with
 | cons r f=>
  cases f with
  |cons o f=>
   cases f;obtain⟨t,rfl⟩:=r;obtain⟨D,rfl⟩:=o;exact call_range_2 (GN I1 g w v u q)
noncomputable def Qlg(f:TI)(g:TG)(h:TS):TS:=fun D a H=>f a H fun J l=>∃W:Nat->Nat->St->Hp->Prop,(∃m,W 0 m a l)/\∀i m a H,W i m a H ->
 (J.stop i H/\D.nx a H)\/(J.go i H/\∃N:St->Hp->Prop,(∀b c,N b c->∃e,e<m/\W (i+1) e b c)/\∀x c,J.yld i H x c->g x a c fun d j=>h { D with nx:=N,ct:=N,bk:=D.nx } d j)
noncomputable def WT(a:List Addr)(h:Heap):List (Addr×Obj):=a.filterMap fun b=>(h.get? b).map fun o=>(b,o)
theorem VF{a:List Addr}{h:Heap}{b:Addr}{o:Obj}(c:b∈a)(e:h.get? b=some o):(b,o)∈WT a h:=FP.mpr ⟨b,c,by rw[e];rfl⟩
theorem Qck{a:List Addr}{h:Heap}{p:Addr×Obj}(c:p∈WT a h):p.1∈a/\h.get? p.1=some p.2:=by
 obtain⟨b,d,e⟩:=FP.mp c;cases q:h.get? b with
 |none=>rw[q]at e;cases e
 |some o=>
  rw[q]at e;have f:(b,o)=p:=N1 e;subst f;exact⟨d,q⟩
theorem Inv.pinned{a:List (Addr×Obj)}{σ:St}{H:Hp}{s:Shared}{c:List Addr}(I:Inv X a σ H s)(j:∀b∈c,Qaz X a H b)(i:∀b∈c,∃o,s.heap.get? b=some o/\∀v,o.data≠.cell v):Inv X (a++WT c s.heap) σ H s:=
 I.pins_of fun p h=>(Eo.mp h).elim (fun z=>I.pin p (NI _ z)) fun z=>by
  obtain⟨f,e⟩:=Qck z;obtain⟨l,f1,f2,_⟩:=j p.1 f;obtain⟨o,g,d⟩:=i p.1 f;rw[e]at g;cases g;exact⟨e,l,f1,f2,d⟩
theorem Inv.unpinned{a b:List (Addr×Obj)}{σ:St}{H:Hp}{s:Shared}(I:Inv X (a++b) σ H s):Inv X a σ H s:=I.pins_of fun p c=>I.pin p (NI _ (NS _ c))
theorem Qip{iter:Expr}{body:List Stmt}{wi:TI}{g:TG}{tb:TS}{pos:Pos}(L:PassesOwn (model X.prog X.w) X.A X.env X.xe)(hc:X.calm=true)(hi:PI X tg iter wi)(hg:PG X tg g)(q:PSs X body tb)
  (hs:∀x,foldedSetIterable iter X.env x=pure x:=by intro _;rfl):PS X (.For tg iter body [] pos) (Qlg wi g tb):=by
 intro c s Z H D I h;refine wpAny_For (thn (hi c s Z H _ I h) fun v s1 h1=>thn h1 fun aa s2 h2=>?_) hs;obtain⟨it,O,tn,J,H2,e,I2,T,R,f2,W,⟨m0,w0⟩,C⟩:=h2;subst e;have p:∀{y:Hp},(∀b∈O,y b=none)->∀b∈O,Qaz X c y b:=fun hn b q=>⟨hn b q,(f2 b q).2⟩
 refine codeAny_forLoop_any (fun n s'=>∃i l y,Inv X c l y s'/\tn i s'.heap/\(∀b∈O,y b=none)/\W i n l y) ?_ m0 ⟨0,Z,H2,I2,R,fun b q=>(f2 b q).1,w0⟩
 rintro n s3 ⟨i,j,P,I3,E,M,w3⟩
 rcases C i n j P w3 with⟨stop,qn⟩|⟨go,N,hN,step⟩
 ·refine Df L (thn (T.done X rfl rfl rfl hc i c s3 j P X.xe I3 (p M) E stop) fun r s4 ⟨hr,I4⟩=>?_);subst hr;exact Fx ⟨j,P,I4,qn⟩
 ·refine Df L (thn (T.item X rfl rfl rfl hc i c s3 j P X.xe I3 (p M) E go) fun r s4 ⟨u,hr,h4⟩=>?_);subst hr;refine Df L (thn h4 fun _ s5 ⟨x,H5,I5,r5,y5,B,U⟩=>?_);have Y:=I5.pinned (p U) (T.obj _ _ B);refine Df L (thn (hg _ s5 j H5 x u _ Y r5 (step x H5 y5)) fun _ s6 ⟨Q,H6,I6,q6⟩=>?_);refine Df L (thn (q _ s6 Q H6 _ I6 q6) fun f S z=>?_)
  have again:∀{a:St} {t:Hp},Inv X (c++WT O s5.heap) a t S->N a t->∃m,m<n/\∃i l y,Inv X c l y S/\tn i S.heap/\(∀b∈O,y b=none)/\W i m l y:=fun {a t} I7 G=>by
   obtain⟨m',hm,w7⟩:=hN a t G;refine⟨m',hm,i+1,a,t,I7.unpinned,T.keep _ _ _ B fun b q o e=>(I7.pin (b,o) (NI _ (NI _ (VF q e)))).1,fun b q=>?_,w7⟩;obtain⟨o,e,d⟩:=T.obj _ _ B b q;exact(I7.pin (b,o) (NI _ (NI _ (VF q e)))).2.1
  cases f with
  |next=>obtain⟨a,t,I7,G⟩:=z;exact again I7 G
  |cont=>obtain⟨a,t,I7,G⟩:=z;exact again I7 G
  |brk=>obtain⟨a,t,I7,z⟩:=z;exact⟨a,t,I7.unpinned,z⟩
  |ret v=>obtain⟨x7,a,t,I7,r7,z⟩:=z;exact⟨x7,a,t,I7.unpinned,r7,z⟩
end
noncomputable abbrev R2:=V->V->Hp->VK->Prop
def OpR(X:Cx)(f:Value->Value->Sem Value)(r:R2):Prop:=
 ∀(a:List (Addr×Obj)) (s:Shared) (b:St) (H:Hp) (x y:V) (v u:Value) (Q:VK),Inv X a b H s->RelV x v->RelV y u->r x y H Q ->
  wpAny (model X.prog X.w) X.A (f v u) (EP X a b Q) X.xe s
def UnR(X:Cx)(f:Value->Sem Value)(r:V->Hp->VK->Prop):Prop:=
 ∀(a:List (Addr×Obj)) (s:Shared) (b:St) (H:Hp) (x:V) (v:Value) (Q:VK),Inv X a b H s->RelV x v->r x H Q ->
  wpAny (model X.prog X.w) X.A (f v) (EP X a b Q) X.xe s
def CallR(X:Cx)(f:Value)(r:List V->Hp->VK->Prop):Prop:=
 ∀(a:List (Addr×Obj)) (s:Shared) (b:St) (H:Hp) (c:List V) (d:List Value) (Q:VK),Inv X a b H s->Vals c d->r c H Q ->
  wpAny (model X.prog X.w) X.A (call f d) (EP X a b Q) X.xe s
def QmS(X:Cx)(r:V->Hp->(Bool->Hp->Prop)->Prop):Prop:=
 ∀(a:List (Addr×Obj)) (s:Shared) (b:St) (H:Hp) (x:V) (v:Value) (Q:Bool->Hp->Prop),Inv X a b H s->RelV x v->r x H Q ->
  wpAny (model X.prog X.w) X.A (truthy v) (TP X a b Q) X.xe s
noncomputable def tOp(r:R2)(c b:TE):TE:=fun a H Q=>c a H fun x e=>b a e fun y d=>r x y d Q
noncomputable def tUn(r:V->Hp->VK->Prop)(b:TE):TE:=fun a H Q=>b a H fun x c=>r x c Q
noncomputable def rI(C:Int->Int->Prop)(g:Int->Int->V):R2:=fun x y H Q=>∃i j,x=.int i/\y=.int j/\C i j/\Q (g i j) H
noncomputable def rI0(g:Int->Int->V):R2:=fun x y H Q=>∃i j,x=.int i/\y=.int j/\Q (g i j) H
noncomputable def rU(g:Int->V):V->Hp->VK->Prop:=fun x H Q=>∃i,x=.int i/\Q (g i) H
section
variable{X:Cx}{a b c:Expr}{ta tb tc:TE}{pos:Pos}
theorem Qj2(z:PE X a ta)(t:PE X b tb){d:List (Addr×Obj)}{s:Shared}{σ:St}{H:Hp}{R:V->V->Hp->Prop}(I:Inv X d σ H s)
  (h:ta σ H fun x l=>tb σ l fun y e=>R x y e) {Q:Value->Shared->Prop} {f:Value->Value->Sem Value}
  (r:∀v u j x y e,Inv X d σ e j->RelV x v->RelV y u->R x y e->wpAny (model X.prog X.w) X.A (f v u) Q X.xe j) :
  wpAny (model X.prog X.w) X.A (eval a X.env) (fun v i=>wpAny (model X.prog X.w) X.A (eval b X.env) (fun u g=>wpAny (model X.prog X.w) X.A (f v u) Q X.xe g) X.xe i) X.xe s:=by
 refine thn (z d s σ H _ I h) fun v m ⟨x,l,I1,o,q⟩=>?_;refine thn (t d m σ l _ I1 q) fun u j ⟨y,e,I2,n,p⟩=>?_;exact r v u j x y e I2 o n p
theorem Qjr{op:Operator}{r:R2}(j:OpR X (binaryOp op) r)(m:PE X a ta)(l:PE X b tb):PE X (.BinOp a op b pos) (tOp r ta tb):=by
 intro d s e H Q I h;exact wpAny_BinOp (Qj2 m l I h fun v u f x y n I2 i g q=>j d f e n x y v u Q I2 i g q)
theorem Qkh{op:UnaryOp}{r:V->Hp->VK->Prop}(j:UnR X (unaryOp op) r)(l:PE X a ta):PE X (.UnaryOp op a pos) (tUn r ta):=by
 intro d s e H Q I h;exact UnaryOp_ (thn (l d s e H _ I h) fun v f ⟨x,m,I1,g,i⟩=>j d f e m x v Q I1 g i)
theorem opI{f:Value->Value->Sem Value}{C:Int->Int->Prop}{g:Int->Int->Int}
  (rule:∀(i j:Int) (t u:Tok) (s:Shared) (Q:Value->Shared->Prop) (E:Value->Shared->Prop),C i j->Q (.int (g i j) s.toks) { s with toks:=s.toks+1 }->wpAny (model X.prog X.w) X.A (f (.int i t) (.int j u)) Q E s) :
  OpR X f (rI C fun i j=>.int (g i j)):=by
 intro d s o H x y v u Q I m l h;obtain⟨i,j,rfl,rfl,n,q⟩:=h;obtain⟨t,rfl⟩:=m;obtain⟨e,rfl⟩:=l;exact rule i j t e s _ _ n ⟨.int (g i j),H,I.tok _,⟨_,rfl⟩,q⟩
theorem Qj8{f:Value->Value->Sem Value}{g:Int->Int->Int}
  (rule:∀(i j:Int) (t u:Tok) (s:Shared) (Q:Value->Shared->Prop) (E:Value->Shared->Prop),Q (.int (g i j) s.toks) { s with toks:=s.toks+1 }->wpAny (model X.prog X.w) X.A (f (.int i t) (.int j u)) Q E s) :
  OpR X f (rI0 fun i j=>.int (g i j)):=by
 intro d s n H x y v u Q I m l h;obtain⟨i,j,rfl,rfl,q⟩:=h;obtain⟨t,rfl⟩:=m;obtain⟨e,rfl⟩:=l;exact rule i j t e s _ _ ⟨.int (g i j),H,I.tok _,⟨_,rfl⟩,q⟩
theorem QiO{f:Value->Value->Sem Value}{g:Int->Int->Bool}
  (rule:∀(i j:Int) (t u:Tok) (s:Shared) (Q:Value->Shared->Prop) (E:Value->Shared->Prop),Q (.bool (g i j)) s->wpAny (model X.prog X.w) X.A (f (.int i t) (.int j u)) Q E s) :
  OpR X f (rI0 fun i j=>.bl (g i j)):=by
 intro d s n H x y v u Q I m l h;obtain⟨i,j,rfl,rfl,q⟩:=h;obtain⟨t,rfl⟩:=m;obtain⟨e,rfl⟩:=l;exact rule i j t e s _ _ ⟨.bl (g i j),H,I,rfl,q⟩
def Qmw(i j:Int):Prop:=0<j/\j<1073741824
def Qnk(i j:Int):Prop:=0<=j/\j<=1000000/\i.natAbs<2^64
def CMul(i j:Int):Prop:=(-(2^64)<i/\i<2^64)\/(-(2^64)<j/\j<2^64)
theorem CMul.ok{i j:Int}(h:CMul i j):IntMulOk i j:=by
 rcases h with⟨e,d⟩|⟨e,d⟩
 ·exact .of_left (intBits_le_64 e d)
 ·exact .of_right (intBits_le_64 e d)
theorem op_add:OpR X (binaryOp .Add) (rI0 fun i j=>.int (i+j)):=Qj8 fun _ _ _ _ _ _ _ q=>add_int q
theorem QiD:OpR X (binaryOp .Sub) (rI0 fun i j=>.int (i-j)):=Qj8 fun _ _ _ _ _ _ _ q=>sub_int q
theorem QhZ:OpR X (binaryOp .Mult) (rI CMul fun i j=>.int (i*j)):=opI fun _ _ _ _ _ _ _ d q=>mul_int q d.ok
theorem QeU:OpR X (binaryOp .FloorDiv) (rI Qmw fun i j=>.int (i/j)):=opI fun i j _ _ _ _ _ d q=>by
 have e:(0:Int)<j:=d.1;have f:j<1073741824:=d.2;exact floordiv_int (Ih e) (by rw[Int.fdiv_eq_ediv_of_nonneg i (Int.le_of_lt e)];exact q) (.inl (IK (by omega)))
theorem QhP:OpR X (binaryOp .Mod) (rI (fun _ j=>0<j) fun i j=>.int (i%j)):=opI fun i j _ _ _ _ _ d q=>by
 have e:(0:Int)<j:=d;exact mod_int' (Ih d) (by rw[Int.fmod_eq_emod_of_nonneg i (Int.le_of_lt d)];exact q)
theorem Qie:OpR X (binaryOp .Pow) (rI Qnk fun i j=>.int (i^j.toNat)):=opI fun _ _ _ _ _ _ _ d q=>pow_int_small d.1 d.2.1 d.2.2 q
theorem QeT:OpR X (inplaceOp .Add) (rI0 fun i j=>.int (i+j)):=Qj8 fun _ _ _ _ _ _ _ q=>iadd_int q
theorem unI{f:Value->Sem Value}{g:Int->Int}
  (rule:∀(i:Int) (t:Tok) (s:Shared) (Q:Value->Shared->Prop) (E:Value->Shared->Prop),Q (.int (g i) s.toks) { s with toks:=s.toks+1 }->wpAny (model X.prog X.w) X.A (f (.int i t)) Q E s) :
  UnR X f (rU fun i=>.int (g i)):=by
 intro d s j H x v Q I e h;obtain⟨i,rfl,q⟩:=h;obtain⟨t,rfl⟩:=e;exact rule i t s _ _ ⟨.int (g i),H,I.tok _,⟨_,rfl⟩,q⟩
theorem Qg4:UnR X (unaryOp .USub) (rU fun i=>.int (-i)):=unI fun _ _ _ _ _ q=>neg_int q
end
section
variable{X:Cx}{a b c:Expr}{ta tb tc:TE}{pos:Pos}
theorem Qif{d:List (Addr×Obj)}{σ:St}{H:Hp}{s:Shared}{Q:VK}{k f:Bool}(I:Inv X d σ H s)(q:Q (.bl k) H)(e:k=f):EP X d σ Q (.bool f) s:=by
 subst e;exact⟨.bl k,H,I,rfl,q⟩
theorem op_lt:OpR X (compareOp .Lt) (rI0 fun i j=>.bl (decide (i<j))):=QiO fun _ _ _ _ _ _ _ q=>lt_int q
theorem op_le:OpR X (compareOp .LtE) (rI0 fun i j=>.bl (decide (i<=j))):=QiO fun _ _ _ _ _ _ _ q=>le_int q
theorem QjW:OpR X (compareOp .Gt) (rI0 fun i j=>.bl (decide (j<i))):=QiO fun _ _ _ _ _ _ _ q=>gt_int q
theorem QjH:OpR X (compareOp .GtE) (rI0 fun i j=>.bl (decide (j<=i))):=QiO fun _ _ _ _ _ _ _ q=>ge_int q
theorem QaE:OpR X (compareOp .Lt) (fun x y H Q=>∃i j,x=.str i/\y=.str j/\Q (.bl (decide (i.cps.toList<j.cps.toList))) H):=by
 intro d s g H x y v u Q I f e h;obtain⟨i,j,rfl,rfl,q⟩:=h;obtain⟨t,rfl⟩:=f;obtain⟨l,rfl⟩:=e;exact lt_str (Qif I q rfl)
theorem OpR.or{f:Value->Value->Sem Value}{r j:R2}(h:OpR X f r)(h':OpR X f j):OpR X f (fun x y H Q=>r x y H Q\/j x y H Q):=by
 intro d s e H x y v u Q I i g q
 rcases q with q|q
 ·exact h d s e H x y v u Q I i g q
 ·exact h' d s e H x y v u Q I i g q
theorem Qe5{op:CmpOp}{r:R2}(j:OpR X (compareOp op) r)(n:PE X a ta)(m:PE X b tb)(l:behindInMarks op b=false):PE X (.Compare a [op] [b] pos) (tOp r ta tb):=by
 intro d s e H Q I h;exact wpAny_Compare1 (Qj2 n m I h fun v u f x y o I2 i g q=>j d f e o x y v u Q I2 i g q) l
noncomputable def QhR(t:TE):TT:=fun d H Q=>t d H fun x e=>∃k,x=.bl k/\Q k e
theorem Qb8{op:CmpOp}{r:R2}(q:OpR X (compareOp op) r)(A:PE X a ta)(w:PE X b tb)(t:behindInMarks op b=false):PT X (.Compare a [op] [b] pos) (QhR (tOp r ta tb)):=by
 intro d s f H Q I h
 refine wpAny_isTrue_Compare1 (thn (A d s f H _ I h) fun v i ⟨x,D,I1,m,p⟩=>thn (w d i f D _ I1 p) fun u g ⟨y,C,I2,l,o⟩=>
  thn (q d g f C x y v u _ I2 m l o) fun c E ⟨z,B,I3,j,k,e,n⟩=>?_) t
 subst e;cases j;exact E3 ⟨B,I3,n⟩
noncomputable def Qbp(r g:R2)(ta tb tc:TE):TE:=fun d H Q=>ta d H fun x j=>tb d j fun y i=>r x y i fun z e=>∃k,z=.bl k /\
 (if k=true then tc d e fun f h=>g y f h Q else Q (.bl false) e)
theorem QdY{op g:CmpOp}{r m:R2}(M:OpR X (compareOp op) r)(j:OpR X (compareOp g) m)(R:PE X a ta)(P:PE X b tb)(O:PE X c tc)
  (N:lastMarks [op,g] [b,c]=false:=by with_unfolding_all rfl):PE X (.Compare a [op,g] [b,c] pos) (Qbp r m ta tb tc):=by
 intro f s i H Q I h
 refine Compare_chain (thn (R f s i H _ I h) fun v B ⟨x,U,I1,E,L⟩=>chain_link (thn (P f B i U _ I1 L) fun u A ⟨y,T,I2,l,J⟩=>
  thn (M f A i T x y v u _ I2 E l J) fun d w ⟨z,o,I3,D,k,e,n⟩=>?_)) N
 subst e;cases D;refine E3 ?_;cases k with
 |false=>exact ite_ff ⟨.bl false,o,I3,rfl,n⟩
 |true=>exact ite_tt (chain_last (thn (O f w i o _ I3 n) fun q t ⟨p,S,I4,C,G⟩=>j f t i S y p u q Q I4 l C G))
theorem Qc7{op g:CmpOp}{r m:R2}(P:OpR X (compareOp op) r)(j:OpR X (compareOp g) m)(U:PE X a ta)(T:PE X b tb)(S:PE X c tc)
  (R:lastMarks [op,g] [b,c]=false:=by with_unfolding_all rfl):PT X (.Compare a [op,g] [b,c] pos) (QhR (Qbp r m ta tb tc)):=by
 intro f s i H Q I h
 refine isTrue_chain (thn (U f s i H _ I h) fun v B ⟨x,H1,I1,G,N⟩=>test_link (thn (T f B i H1 _ I1 N) fun u A ⟨y,H2,I2,l,M⟩=>
  thn (P f A i H2 x y v u _ I2 G l M) fun d w ⟨z,o,I3,E,k,e,n⟩=>?_)) R
 subst e;cases E;refine E3 ?_;cases k with
 |false=>
  obtain⟨k',Z,O⟩:=n;cases Z;exact ite_ff ⟨o,I3,O⟩
 |true=>
  refine ite_tt (test_last (thn (S f w i o _ I3 n) fun q t ⟨p,H4,I4,D,L⟩=>thn (j f t i H4 y p u q _ I4 l D L) fun d' s5 ⟨z2,H5,I5,C,k2,Y,J⟩=>?_));subst Y;cases C;exact E3 ⟨H5,I5,J⟩
def QjB(K:Nd)(x:V)(H:Hp)(k:Bool):Prop:=
 match x with
 |.non=>k=false
 |.bl b=>k=b
 |.int i=>k=(i != 0)
 |.str y=>y.length<=sizeLine/\k=((y.length:Int) != 0)
 |.byt y=>y.size<=sizeLine/\k=((y.size:Int) != 0)
 |.ref p=>(∃d,SqL K H p d/\k=!d.isEmpty)\/(∃d,SqT K H p d/\k=!d.isEmpty)\/∃kvs,H p=some (.dK kvs)/\k=!kvs.isEmpty
 |_=>False
theorem Qaa{κ:Type}{kvs:List (κ×V)}{d:List (κ×Value)}(r:KV kvs d):(!d.isEmpty)=!kvs.isEmpty:=by
 cases r<;>rfl
theorem Yj{xs:List V}{its:List Value}(r:Vals xs its):(!its.toArray.isEmpty)=!xs.isEmpty:=by
 cases r<;>simp
theorem KL:(sizeLine:Nat)<2^63:=by rw[Dj];decide
theorem QgM:QmS X (fun x H Q=>∃k,QjB X.K x H k/\Q k H):=by
 intro z s E H x v Q I j h;obtain⟨k,e,q⟩:=h;have G:=KL;have C:sizeLine=16777216:=Dj;cases x with
 |non=>
  cases j;have d:k=false:=e;subst d;exact truthy_none ⟨H,I,q⟩
 |bl b=>
  cases j;have d:k=b:=e;subst d;exact E3 ⟨H,I,q⟩
 |int i=>
  obtain⟨t,rfl⟩:=j;have d:k=(i != 0):=e;subst d;exact PySem.P.truthy_int ⟨H,I,q⟩
 |str y=>
  obtain⟨t,rfl⟩:=j;obtain⟨B,d⟩:y.length<=sizeLine/\k=((y.length:Int) != 0):=e;subst d;exact PySem.P.truthy_str (by lia) ⟨H,I.tok _,q⟩
 |byt y=>
  obtain⟨t,rfl⟩:=j;obtain⟨B,d⟩:y.size<=sizeLine/\k=((y.size:Int) != 0):=e;subst d;exact PySem.W.truthy_bytes (NB (No (Nl B (Nr C)) (by decide))) ⟨H,I.tok _,q⟩
 |ref p=>
  cases j;have d:(∃g,SqL X.K H p g/\k=!g.isEmpty)\/(∃g,SqT X.K H p g/\k=!g.isEmpty)\/∃kvs,H p=some (.dK kvs)/\k=!kvs.isEmpty:=e
  rcases d with⟨g,l,d⟩|⟨g,l,d⟩|⟨kvs,l,d⟩
  ·subst d;obtain⟨u,r,o,A⟩:=I.list l;have f:=r.length;exact wpAny_truthy_list o.isList (by simp only[Nj];lia) ⟨H,I.tok _,by rw[Yj r];exact q⟩
  ·subst d;obtain⟨u,r,o,A⟩:=I.tuple l;have f:=r.length;exact truthy_tuple o (by simp only[Nj];omega) ⟨H,I.tok _,by rw[Yj r];exact q⟩
  ·subst d;obtain⟨A,D,n,r,m⟩:kvs.length<=sizeLine/\(p==sysModules)=false/\∃n,KV kvs n/\s.heap.DictOf (Vb X.prog X.w) p n:=I.hok p _ l;have f:kvs.length=n.length:=EQ r;exact wpAny_truthy_dict D m (by lia) ⟨H,I.tok _,by rw[Qaa r];exact q⟩
 |_=>exact(show False from e).elim
theorem Qc6(l:PE X a ta)(j:∀whole,isTrue a X.env whole=(do let v <-whole;standAt a.pos;holding [v] (truthy v))) :
  PT X a (fun σ H Q=>ta σ H fun x e=>∃k,QjB X.K x e k/\Q k e):=by
 intro d s σ H Q I h;exact isTrue_plain (thn (l d s σ H _ I h) fun v f ⟨x,m,I1,g,i⟩=>QgM d f σ m x v Q I1 g i) (j _)
theorem op_add_str:OpR X (binaryOp .Add) (fun x y H Q=>∃i j,x=.str i/\y=.str j/\i.length+j.length<=sizeLine/\Q (.str (i++j)) H):=by
 intro d s m H x y v u Q I g f h;obtain⟨i,j,rfl,rfl,l,q⟩:=h;obtain⟨t,rfl⟩:=g;obtain⟨e,rfl⟩:=f;exact add_str (fun e tk=>⟨.str (i++j),H,I.tok _,⟨_,rfl⟩,q⟩) l
theorem Ua{x:V}{d:List Value}(r:Vals [x] d):∃u,d=[u]/\RelV x u:=by
 cases r with
 |cons f e=>cases e;exact⟨_,rfl,f⟩
theorem QcW{x y:V}{e:List Value}(r:Vals [x,y] e):∃u d,e=[u,d]/\RelV x u/\RelV y d:=by
 cases r with
 |cons i h=>
  cases h with
  |cons g f=>cases f;exact⟨_,_,rfl,i,g⟩
theorem Qbt(f:X.calm=true):CallR X (.builtin "max") (fun xs H Q=>∃i j,xs=[.int i,.int j]/\Q (.int (if j>i then j else i)) H):=by
 intro e s g H xs m Q I r h;obtain⟨i,j,rfl,q⟩:=h;obtain⟨u,l,rfl,⟨t,rfl⟩,⟨n,rfl⟩⟩:=QcW r;refine max_two_ints (I.ok.hd f) fun o tk k=>⟨_,H,I.kept k,?_,q⟩
 by_cases d:j>i
 ·rw[if_pos d,if_pos d];exact⟨_,rfl⟩
 ·rw[if_neg d,if_neg d];exact⟨_,rfl⟩
theorem QaQ(f:X.calm=true):CallR X (.builtin "min") (fun xs H Q=>∃i j,xs=[.int i,.int j]/\Q (.int (if j<i then j else i)) H):=by
 intro e s g H xs m Q I r h;obtain⟨i,j,rfl,q⟩:=h;obtain⟨u,l,rfl,⟨t,rfl⟩,⟨n,rfl⟩⟩:=QcW r;refine min_two_ints (I.ok.hd f) fun o tk k=>⟨_,H,I.kept k,?_,q⟩
 by_cases d:j<i
 ·rw[if_pos d,if_pos d];exact⟨_,rfl⟩
 ·rw[if_neg d,if_neg d];exact⟨_,rfl⟩
end
structure ObjM(h:Heap)(x dx C:Addr)(mA:Str->Option Value):Prop where
 obj:h.get? x=some (IB C dx)
 ns:h.Ns1 dx mA
 ne:dx≠x
theorem Qba{h:Heap}{g:Addr}{d:Str->Option Value}(n:h.Ns1 g d):∃c,h.get? g=some c/\∀name,IV name c=some (d name):=by
 obtain⟨o,f,r,j,hd,m,_,l⟩:=n;refine⟨o,j,fun name=>?_⟩;have e:=l name;unfold nsFind findBy at e;rw[<-Array.find?_toList]at e;unfold IV;rw[hd];dsimp only;split
 ·rename_i y q;rw[q]at e;exact congrArg some e
 ·rename_i q;rw[q]at e
  have a:f.toList.any (·.refKey)=false:=by
   rw[FX];intro y i;obtain⟨z,t,b⟩:=m y (Array.mem_toList_iff.mp i);simp[DictEntry.refKey,b]
  have p:¬f.toList.any (·.refKey)=true:=by rw[a];exact NZ
  rw[if_neg p];exact congrArg some e
theorem ObjM.look{h:Heap}{x c C:Addr}{b:Str->Option Value}(I:ObjM h x c C b):∃a,PySem.W.InstAt h x (IB C c) C (some a)/\∀name,IV name a=some (b name):=
 let⟨a,d,e⟩:=Qba I.ns
 ⟨a,⟨I.obj,rfl,rfl,d⟩,e⟩
theorem RelO.some_of{v:V}{o:Option Value}(r:RelO (some v) o):∃u,o=some u/\RelV v u:=by
 cases o with
 |none=>exact(show False from r).elim
 |some u=>exact⟨u,rfl,r⟩
section
variable{P:Program}{w:World}{H H':Hp}{h h':Heap}{a C dx:Addr}{fs fs':List (Str×V)}
theorem Qff(c:HOk P w H h)(e:H a=some (.ins C dx fs)):∃b,ObjM h a dx C b/\(∀f,RelO (fs.lookup f) (b f))/\OP b (fs.map (·.1))/\fs.length<=1000/\H dx=some (.own a):=by
 obtain⟨d,z,ne,ob,b,n,r,q⟩:=(show ObjOk P w H h a (.ins C dx fs)from c a _ e)
 exact⟨b,⟨ob,n,ne⟩,r,q,z,d⟩
end
structure Cls(K:Nd)(C:Addr):Prop where
 pg:Of K C Str.empty=true
 hd:PySem.W.hasDictIn K C=true
 po:PySem.W.plainOver K C=true
 sa:IW K (.ref C) "__setattr__"=some (some (.builtin "object.__setattr__"))
theorem Cls.get{K:Nd}{C:Addr}(c:Cls K C)(f:Str):Of K C f=true:=c.pg
def QlO(K:Nd)(C:Addr)(f:Str):Prop:=IW K (.ref C) f=some none
section
variable{X:Cx}{pins:List (Addr×Obj)}{σ:St}{H:Hp}{s:Shared}{A:Around}{E:Value->Shared->Prop}{Q:Value->Shared->Prop}{c:Value}{b:Bool}
inductive TyOf(K:Nd)(H:Hp):V->Value->Prop where
 |non:TyOf K H .non (.type "NoneType")
 |bl (x:Bool):TyOf K H (.bl x) (.type "bool")
 |int (i:Int):TyOf K H (.int i) (.type "int")
 |str (x:Str):TyOf K H (.str x) (.type "str")
 |flt (x:UInt64):TyOf K H (.flt x) (.type "float")
 |lst {a:Addr} {xs:List V} (e:H a=some (.lst xs)):TyOf K H (.ref a) (.type "list")
 |frz {a:Addr} {o:Obj} {xs:List V} (e:H a=some (.frz o (.lst xs))):TyOf K H (.ref a) (.type "list")
 |tup {a:Addr} {xs:List V} (e:H a=some (.tup xs)):TyOf K H (.ref a) (.type "tuple")
 |dK {a:Addr} {kvs:List (Key×V)} (e:H a=some (.dK kvs)):TyOf K H (.ref a) (.type "dict")
 |dT {a:Addr} {kvs:List (Tr×Addr×V)} (e:H a=some (.dT kvs)):TyOf K H (.ref a) (.type "dict")
 | ins {a C dx:Addr} {fs:List (Str×V)} (e:H a=some (.ins C dx fs)) (cl:Cls K C) (ha:IW K (.ref C) "__class__"=some (some (.builtin "object.__class__")))
   (hn:PySem.W.specialIn K (.builtin "object.__class__") "__get__"=some (some (.builtin "getset_descriptor.__get__"))) (htk:PySem.W.takesIn K (.builtin "object.__class__")=some true)
   (hm:PySem.W.mroIn K C (.type "object")=some true):TyOf K H (.ref a) (.ref C)
theorem QaY{x:V}{u t:Value}(I:Inv X pins σ H s)(d:RelV x u)(ty:TyOf X.K H x t)(e:OE X.K t c=some b)(h:∀tk,Q (.bool b) { s with toks:=tk }) :
  wpAny (model X.prog X.w) A (call (.builtin "isinstance") [u,c]) Q E s:=by
 cases ty with
 |non=>cases(show u=Value.none from d);exact Eb PySem.W.kitx_none I.kIn True.intro e (fun z=>nomatch z) h
 |bl y=>cases(show u=Value.bool y from d);exact Eb PySem.W.kitx_bool I.kIn True.intro e (fun z=>nomatch z) h
 |int i=>obtain⟨t,q⟩:=(show∃t,u=Value.int i t from d);cases q;exact Eb PySem.W.kitx_int I.kIn True.intro e (fun z=>nomatch z) h
 |str y=>obtain⟨t,q⟩:=(show∃t,u=Value.str y t from d);cases q;exact Eb PySem.W.kitx_str I.kIn True.intro e (fun z=>nomatch z) h
 |flt y=>obtain⟨t,q⟩:=(show∃t,u=Value.float y t from d);cases q;exact Eb PySem.W.kitx_float I.kIn True.intro e (fun z=>nomatch z) h
 |@lst a j f=>
  cases(show u=Value.ref a from d);obtain⟨_,_,n,_,g⟩:=(show ObjOk X.prog X.w H s.heap a (.lst j)from I.hok a _ f)
  exact Eb FY I.kIn ⟨_,g,rfl⟩ e (fun z=>nomatch z) h
 |@frz a ob j f=>
  cases(show u=Value.ref a from d);obtain⟨_,_,_,n,_,g⟩:=(show ObjOk X.prog X.w H s.heap a (.frz ob (.lst j))from I.hok a _ f)
  exact Eb FY I.kIn ⟨_,g,rfl⟩ e (fun z=>nomatch z) h
 |@tup a j f=>
  cases(show u=Value.ref a from d);obtain⟨_,_,_,p⟩:=(show ObjOk X.prog X.w H s.heap a (.tup j)from I.hok a _ f)
  obtain⟨o,g,l,_⟩:=p;exact Eb LN I.kIn ⟨o,g,l⟩ e (fun z=>nomatch z) h
 |@dK a kvs f=>
  cases(show u=Value.ref a from d);obtain⟨_,_,M,_,p⟩:=(show ObjOk X.prog X.w H s.heap a (.dK kvs)from I.hok a _ f)
  obtain⟨o,G,L,g,l,_⟩:=p;exact Eb LZ I.kIn ⟨o,g,l.1⟩ e (fun z=>nomatch z) h
 |@dT a kvs f=>
  cases(show u=Value.ref a from d);obtain⟨_,_,j,_,o,G,L,g,l,_⟩:=(show ObjOk X.prog X.w H s.heap a (.dT kvs)from I.hok a _ f)
  exact Eb LZ I.kIn ⟨o,g,l.1⟩ e (fun z=>nomatch z) h
 |@ins a C R fs f r D v m B=>
  cases(show u=Value.ref a from d);obtain⟨P,O,_⟩:=Qff I.hok f;obtain⟨N,J,_⟩:=O.look;exact Eb (PySem.W.kitx_own (r.get _) r.hd D v m B) I.kIn J e (fun z=>nomatch z) h
end
structure Room(k:Nat)(A:Around):Prop where
 hd:A.handled=none
 dp:A.depth+3*k+5<recursionLimit
 un:A.units+16*k+200<cLine
theorem Room.mono{j k:Nat}{A:Around}(r:Room k A)(h:j<=k):Room j A:=⟨r.hd,by have:=r.dp;lia,by have:=r.un;lia⟩
theorem Room.deeper{k:Nat}{A:Around}(r:Room (k+1) A)(env:Env):Room k (A.deeper env):=
 ⟨r.hd,by have:=r.dp;show A.depth+1+3*k+5<_;lia,by have:=r.un;show A.units+3+16*k+200<_;lia⟩
theorem Room.depth{k:Nat}{A:Around}(r:Room k A):A.depth<recursionLimit:=by have:=r.dp;exact No (Nl (Nv _ _) (Nv _ _)) this
theorem Room.units{k:Nat}{A:Around}(r:Room k A):A.units+64<cLine:=by have:=r.un;lia
noncomputable def QlU:TA:=fun _ H Q=>Q [] H
noncomputable def Qkv(d:TE)(c:TA):TA:=fun a H Q=>d a H fun x f=>c a f fun b e=>Q (x::b) e
section
variable{X:Cx}{e:Expr}{es:List Expr}{te:TE}{t:TA}{pos:Pos}
theorem QhI:PA X [] QlU:=fun _ _ _ _ H Q I h=>EH ⟨[],H,I,.nil,h⟩
theorem QfE(m:PE X e te)(hr:PA X es t)(l:starEach (e::es) X.env=(false,eval e X.env)::starEach es X.env:=by rfl):PA X (e::es) (Qkv te t):=by
 intro pos a s b H Q I h;rw[l];show wpAny _ _ (spliced ((false,eval e X.env)::backTo pos (starEach es X.env))) _ _ s;refine EE (thn (m a s b H _ I h) fun u d ⟨x,o,I1,g,j⟩=>?_);exact thn (hr pos a d b o _ I1 j) fun p q ⟨c,n,I2,f,i⟩=>⟨x::c,n,I2,.cons g f,i⟩
noncomputable def Qm2(t:TA):TE:=fun c H Q=>t c H fun a b=>a.length<=sizeLine/\∀p,b p=none->Q (.ref p) (upd b p (.tup a))
noncomputable def QmO(t:TA):TE:=fun c H Q=>t c H fun a b=>a.length<=sizeLine/\∀p,b p=none->Q (.ref p) (upd b p (.lst a))
theorem Qhf{i}(h:PA X es t):PE X (.Tuple es i pos) (Qm2 t):=by
 intro a s f H Q I l;refine wpAny_Tuple_spliced (thn (h pos a s f H _ I l) fun j c ⟨g,d,I1,r,z,q⟩=>⟨by rw[<-r.length];exact z,?_⟩);have m:d c.heap.objs.size=none:=I1.hok.fresh (Nx _);refine⟨.ref c.heap.objs.size,upd d c.heap.objs.size (.tup g),I1.laid (t':=c.toks) (fun b u e=>Nk _ e) (Nx _) ?_,rfl,q _ m⟩;exact⟨z,j,r,⟨_,Nw _ rfl,rfl,_,rfl⟩⟩
theorem Qeo(h:PA X es t):PE X (.List es pos) (QmO t):=by
 intro a s f H Q I j;refine wpAny_List_spliced (thn (h pos a s f H _ I j) fun i c ⟨g,d,I1,r,z,q⟩=>⟨by rw[<-r.length];exact z,?_⟩);have l:d c.heap.objs.size=none:=I1.hok.fresh (Nx _);refine⟨.ref c.heap.objs.size,upd d c.heap.objs.size (.lst g),I1.laid (t':=c.toks) (fun b u e=>Nk _ e) (Nx _) ?_,rfl,q _ l⟩;exact⟨z,i,0,r,Nw _ rfl⟩
end
noncomputable abbrev Sp:=List V->Hp->VK->XK->Prop
noncomputable abbrev CXT:=List Env->Hp->Shared->XK->Value->Shared->Prop
structure Env0(P:Program)(w:World)(K:Nd)(mg:Str->Option Value)(base:Heap)(A:Around)(outer:List Env)(s:Shared)(H:Hp):Prop where
 frames:A.frames=some outer
 mod:Mod K mg base
 bs:∀b o,base.get? b=some o->s.heap.get? b=some o/\H b=none
 bsz:base.objs.size<=s.heap.objs.size
 funs:s.heap.FunFrames base outer
 frf:∀b∈frs outer,H b=none
 hok:HOk P w H s.heap
 bare:AllBare s.gens
def CE(a:List Env)(P:Program)(w:World)(H:Hp)(s:Shared)(Q:VK)(u:Value)(b:Shared):Prop:=
 ∃v c,b.os=s.os/\AllBare b.gens/\Un (frs a) [] H c s.heap b.heap/\HOk P w c b.heap/\RelV v u/\Q v c
def CR(CX:CXT)(a:List Env)(P:Program)(w:World)(H:Hp)(s:Shared)(Q:VK)(E:XK)(r:Result)(b:Shared):Prop:=
 match r with
 |.ok (.ret u)=>CE a P w H s Q u b
 |.ok _=>False
 |.error e=>CX a H s E e b
structure FnOk(P:Program)(w:World)(K:Nd)(mg:Str->Option Value)(base:Heap)(CX:CXT)(k:Nat)(f:Addr)(fd:FuncData)(ps:List Str)(sp:Sp):Prop where
 len:∀vs H Q E,sp vs H Q E->vs.length=ps.length
 run:∀(A:Around) (outer:List Env) (s:Shared) (H:Hp) (args:Args) (us:List Value) (vs:List V) (Q:VK) (E:XK),Room k A->Env0 P w K mg base A outer s H->BindsTo s fd args (ps.zip us)->Vals vs us->sp vs H Q E ->
  codeAny (model P w) A (.call (.ref f) args) (CR CX outer P w H s Q E) s
theorem FnOk.imp{P:Program}{w:World}{K:Nd}{d:Str->Option Value}{base:Heap}{CX:CXT}{k:Nat}{f:Addr}{fd:FuncData}{ps:List Str}{sp c:Sp}(F:FnOk P w K d base CX k f fd ps sp)
  (h:∀b H Q E,c b H Q E->sp b H Q E):FnOk P w K d base CX k f fd ps c:=
 ⟨fun b H Q E q=>F.len b H Q E (h _ _ _ _ q),fun A a s H args e b Q E hr j l g i=>F.run A a s H args e b Q E hr j l g (h _ _ _ _ i)⟩
section
variable{X:Cx}{pins:List (Addr×Obj)}{σ:St}{H:Hp}{s s':Shared}
theorem Inv.env0(I:Inv X pins σ H s):Env0 X.prog X.w X.K X.mg X.base X.A X.stack s H:=
 ⟨I.ok.frames,I.ok.mod,I.bs,Nl I.ok.bsz I.sz,I.stack,I.stkFree,I.hok,I.bare⟩
theorem Inv.after{Q:VK}{u:Value}(I:Inv X pins σ H s)(h:CE X.stack X.prog X.w H s Q u s'):EP X pins σ Q u s':=by
 obtain⟨v,f,os,bare,un,c,r,q⟩:=h;obtain⟨e,g,d,t,a⟩:=s';obtain rfl:a=s.os:=os;exact⟨v,f,I.call (h':=e) (g':=g) (d':=d) (t':=t) (ch:=[]) un c bare (fun b z=>absurd z (by simp)),r,q⟩
end
noncomputable def QiJ(sp:Sp)(a:List V)(E:XK)(t:TA):TE:=fun b H Q=>t b H fun c d=>sp (c++a) d Q E
def Binds(K:Nd)(fd:FuncData)(ps:List Str)(b:List Value):Prop:=
 ∀(s:Shared) (a:List Value),K.In s.heap->(a++b).length=ps.length->BindsTo s fd ⟨a,[]⟩ (ps.zip (a++b))
theorem Binds.all{K:Nd}{fd:FuncData}{ps:List Str}(h:∀a:List Value,a.length=ps.length->bindArgs fd ⟨a,[]⟩=pure (ps.zip a)):Binds K fd ps []:=fun s a _ b=>by
 rw[EI]at b ⊢;exact .of_eq (h a b)
def Gz(CX:CXT)(X:Cx)(E:XK):Prop:=∀(a:List (Addr×Obj)) (c:St) (H:Hp) (s:Shared) (e:Value) (b:Shared),Inv X a c H s->CX X.stack H s E e b->X.xe e b
section
variable{X:Cx}{CX:CXT}{k:Nat}{f C:Addr}{fd:FuncData}{ps:List Str}{sp:Sp}{dvs:List V}{ds:List Value}{E:XK}{x m:Str}{p pos apos:Pos}{e o:Expr}{es:List Expr}{ta:TE}{t:TA}
theorem QgX{a:List (Addr×Obj)}{σ:St}{H:Hp}{s:Shared}{Q:VK}{b:List Value}{d:List V}(F:FnOk X.prog X.w X.K X.mg X.base CX k f fd ps sp)(hr:Room k X.A)(n:Binds X.K fd ps ds)(hd:Vals dvs ds)(j:Gz CX X E)
  (I:Inv X a σ H s) (r:Vals d b) (h:sp (d++dvs) H Q E):wpAny (model X.prog X.w) X.A (call (.ref f) b) (EP X a σ Q) X.xe s:=by
 have g:Vals (d++dvs) (b++ds):=r.append hd;have l:(b++ds).length=ps.length:=by rw[<-g.length];exact F.len _ _ _ _ h
 refine wpAny_call (D0 (F.run X.A X.stack s H ⟨b,[]⟩ (b++ds) (d++dvs) Q E hr I.env0 (n s b I.kIn l) g h) fun r i c=>?_);cases r with
 |error e=>exact j a σ H s e i I c
 |ok fl=>
  cases fl with
  |ret u=>exact I.after c
  |next=>exact False.elim c
  |brk=>exact False.elim c
  |cont=>exact False.elim c
theorem QeP(F:FnOk X.prog X.w X.K X.mg X.base CX k f fd ps sp)(hr:Room k X.A)(n:Gl X x)(j:X.mg x=some (.ref f))(l:DF X.K (.ref f)=true)(v:Binds X.K fd ps ds)(hd:Vals dvs ds)(i:Gz CX X E)
  (y:PA X (e::es) t) (c:(x==("__debug__":Str))=false:=by decide) (u:starEach (e::es) X.env=(false,eval e X.env)::starEach es X.env:=by rfl) (b:(backTo pos (starEach es X.env)).any (·.1)=false:=by rfl) :
  PE X (.Call (.Name x p) (e::es) [] pos) (QiJ sp dvs E t):=by
 intro a s g H Q I h;refine Ee (Qcc I n j ?_ c);refine PySem.W.callWith_K (h₀:=X.base) I.ok.mod.kin l (thn (y pos a s g H _ I h) fun B D ⟨z,G,I1,r,q⟩=>⟨I1.kIn,?_⟩) u b;exact QgX F hr v hd i I1 r q
end
structure FnScope(N P:List Str)(sc:Scope):Prop where
 kind:sc.kind=.function
 co:sc.isCoroutine=false
 gen:sc.isGenerator=false
 nd:N.Nodup
 pre:N.take P.length=P
 par:∀x∈P,sc.names.lookup x=some .local\/sc.names.lookup x=some .cell
 nofree:∀y∈sc.names,y.2≠.free
theorem Ue{kindOf:Str->Option NameKind}{x:Str}:∀{binds:List (Str×Value)} {m:Str->Option Value},(∀v,(x,v)∉binds)->bindL kindOf binds m x=m x
 |[],_,_=>rfl
 | (n,v)::r,m,h=>by
  unfold bindL;rw[Ue fun w hw=>h w (Nq _ hw)];split
  ·have:x≠n:=by rintro rfl;exact h v Nt
   simp[this]
  ·rfl
theorem W5{kindOf:Str->Option NameKind}{x:Str}:∀{binds:List (Str×Value)} {m:Str->Option Value},(∀v,(x,v)∉binds)->bindC kindOf binds m x=m x
 |[],_,_=>rfl
 | (n,v)::r,m,h=>by
  unfold bindC;rw[W5 fun w hw=>h w (Nq _ hw)];split
  ·rfl
  ·have:x≠n:=by rintro rfl;exact h v Nt
   simp[this]
theorem Wz{kindOf:Str->Option NameKind}{x:Str}{v:Value}:∀{P:List Str} {a:List Value} {i:Nat} {m:Str->Option Value},P.Nodup->P[i]?=some x->a[i]?=some v->kindOf x=some .local ->
  bindL kindOf (P.zip a) m x=some v
 |[],_,_,_,_,h,_,_=>by simp at h
 |_::_,[],_,_,_,_,h,_=>by simp at h
 |p::P,w::a,0,m,d,c,b,e=>by
  simp at c b;subst c;subst b;show bindL kindOf ((p,w)::P.zip a) m p=_;unfold bindL;rw[Ue fun v f=>(Ef.mp d).1 (IC f).1,if_pos e];simp
 |p::P,w::a,i+1,m,d,c,b,e=>by
  show bindL kindOf ((p,w)::P.zip a) m x=_;unfold bindL;exact Wz (i:=i) (Ef.mp d).2 (by simpa using c) (by simpa using b) e
theorem Ug{kindOf:Str->Option NameKind}{x:Str}{v:Value}:∀{P:List Str} {a:List Value} {i:Nat} {m:Str->Option Value},P.Nodup->P[i]?=some x->a[i]?=some v->kindOf x≠some .local ->
  bindC kindOf (P.zip a) m x=some v
 |[],_,_,_,_,h,_,_=>by simp at h
 |_::_,[],_,_,_,_,h,_=>by simp at h
 |p::P,w::a,0,m,d,c,b,e=>by
  simp at c b;subst c;subst b;show bindC kindOf ((p,w)::P.zip a) m p=_;unfold bindC;rw[W5 fun v f=>(Ef.mp d).1 (IC f).1,if_neg e];simp
 |p::P,w::a,i+1,m,d,c,b,e=>by
  show bindC kindOf ((p,w)::P.zip a) m x=_;unfold bindC;exact Ug (i:=i) (Ef.mp d).2 (by simpa using c) (by simpa using b) e
noncomputable def start(N:List Str)(a:List V):St:=a.map some++List.replicate (N.length-a.length) none
noncomputable def Qef(CX:CXT)(P:Program)(w:World)(K:Nd)(mg:Str->Option Value)(base:Heap)(N:List Str)(b:Str)(a:Scope)(f:Addr)(cd:Value)(A:Around)(outer:List Env)(s:Shared)(H:Hp)(E:XK):Cx where
 prog:=P
 w:=w
 K:=K
 mg:=mg
 base:=base
 A:=A.deeper (envOfC b a s.heap.objs.size f cd)
 N:=N
 s₀:=s
 H₀:=H
 env:=envOfC b a s.heap.objs.size f cd
 outer:=outer
 stack:=envOfC b a s.heap.objs.size f cd::outer
 ex:=[]
 calm:=true
 fn:=fun _=>true
 pn:=[]
 xe:=fun e d=>wpAny (model P w) (A.deeper (envOfC b a s.heap.objs.size f cd)) (leaving (envOfC b a s.heap.objs.size f cd) e) (fun _ c=>CX outer H s E e c) (fun g c=>CX outer H s E g c) d
theorem GK{a:Scope}{n:Nat}{x:Str}(h:a.names.lookup x=some .cell):∃c,(cellsFrom n a.names []).lookup x=some c:=by
 have q:=IL a.names n [] (.inl h);exact Ii.mp q
theorem QaV{CX:CXT}{P:Program}{w:World}{K:Nd}{L:Str->Option Value}{base:Heap}{N ps:List Str}{j:Str}{d:Scope}{f:Addr}{cd:Value}{A:Around}{g:List Env}{s M:Shared}{H:Hp}{E:XK}{J:List Value}{o:List V}
  (S:FnScope N ps d) (hd:A.handled=none) (m:Env0 P w K L base A g s H) (T:o.length=ps.length) (r:Vals o J)
  (x:InCallC s s.heap.objs.size (bindL (envOfC j d s.heap.objs.size f cd).kindOf (ps.zip J) fun _=>none) (cellsFrom (s.heap.objs.size+1) d.names []) (bindC (envOfC j d s.heap.objs.size f cd).kindOf (ps.zip J) fun _=>none) M) :
  Inv (Qef CX P w K L base N j d f cd A g s H E) [] (start N o) H M:=by
 have R:ps.length<=N.length:=by have:=congrArg List.length S.pre;rw[DN]at this;exact Nl (Nr this.symm) (Fl _ _)
 obtain⟨I,tk,rfl,O⟩:=x.done;have t:∀b:Addr,b∉(Qef CX P w K L base N j d f cd A g s H E).ex:=fun b z=>absurd (show b∈([]:List Addr)from z) (by simp)
 refine⟨⟨m.mod,S.kind,rfl,rfl,Nx _,fun y z c I l=>?_,fun y B=>?_,fun y c _ h=>?_,fun _=>hd,Around.frames_deeper m.frames,.inr ⟨rfl,rfl⟩,fun b z=>absurd z (t b),m.bs,m.bsz,fun b _ _=>t b,fun b z=>absurd z (t b),m.funs,m.frf⟩,
  rfl,m.bare,Un.kept O,⟨_,x.toInCall.ns,fun i y v I l Y=>?_⟩,fun y c h=>⟨_,x.cell y c h⟩,m.hok.fresh (Nx _),fun y c h=>?_,fun p D=>absurd (show p∈([]:List (Addr×Obj))from D) (by simp),m.hok.kept O,?_⟩
 ·exact name_of_addr x.apart (Dr I) (Dr l)
 ·have B:d.names.lookup y=some .cell\/d.names.lookup y=some .free:=B
  rcases B with B|B
  ·exact GK B
  ·exact absurd rfl (S.nofree _ (Dr B))
 ·exact NB (x.above y c (Dr h))
 ·have G:i<o.length:=by
   unfold start at l
   by_cases G:i<o.length
   ·exact G
   ·rw[ER (by simpa using G)]at l;rw[Iv]at l;split at l<;>cases l
  have U:o[i]?=some v:=by
   unfold start at l;rw[NT (by simpa using G),Nz]at l;cases e:o[i]? with
   |none=>rw[e]at l;cases l
   |some a=>rw[e]at l;cases l;rfl
  obtain⟨u,hu,Q⟩:=r.get U
  have D:ps[i]?=some y:=by
   rw[<-S.pre,List.getElem?_take_of_lt (Nn G (Nr T))];exact I
  have C:ps.Nodup:=by rw[<-S.pre];exact S.nd.sublist (List.take_sublist _ _)
  refine⟨u,Q,?_⟩
  rcases S.par y (NN D)with k|k
  ·exact .inl ⟨k,Wz C D hu k⟩
  ·obtain⟨c,e⟩:=GK (n:=s.heap.objs.size+1) k;refine .inr ⟨.inl k,c,e,?_⟩;have q:=x.cell y c e;rw[Ug C D hu (by show d.names.lookup y≠_;rw[k];decide)]at q;exact q
 ·exact m.hok.fresh (NB (x.above y c (Dr h)))
 ·unfold start;show _=N.length;rw[Ny,NC,IX];lia
theorem QjK{CX:CXT}{P:Program}{w:World}{K:Nd}{G:Str->Option Value}{base:Heap}{k:Nat}{f:Addr}{name d:Str}{h:Arguments}{body:List Stmt}{a:Scope}{Y kV D pm g ct oc:Value}{Z od:Option Addr}
  {O:Array (Option Value)} {N ps:List Str} {sp:Sp} (lk:K.lookup f=some ⟨oc,od,.func (Dc name d h body a Y kV D pm Z g ct),O⟩) (T:FI K g d=true) (S:FnScope N ps a)
  (len:∀j H Q E,sp j H Q E->j.length=ps.length)
  (p:∀(A:Around) (c:List Env) (s:Shared) (H:Hp) (j:List V) (Q:VK) (E:XK),Room k (A.deeper (envOfC d a s.heap.objs.size f g))->sp j H Q E ->
   ∃t,PSs (Qef CX P w K G base N d a f g A c s H E) body t/\t { nx:=fun _ l=>Q .non l,rt:=Q } (start N j) H) :
  FnOk P w K G base CX (k+1) f (Dc name d h body a Y kV D pm Z g ct) ps sp:=by
 refine⟨len,fun A c s H args us j Q E hr C hb r B=>?_⟩;have hl:=len _ _ _ _ B;have KX:K.In s.heap:=C.mod.kin.keeps fun b o e=>(C.bs b o e).1;have R:s.heap.NoLimit:=C.mod.nolimit.keeps fun b o e=>(C.bs b o e).1
 have m:∀y∈ps.zip us,a.names.lookup y.1=some .local\/(a.names.lookup y.1=some .cell/\((cellsFrom (s.heap.objs.size+1) a.names []).lookup y.1).isSome=true):=fun⟨n,v⟩ hy=>by
  rcases S.par n (IC hy).1 with q|q
  ·exact .inl q
  ·exact .inr ⟨q,IL _ _ _ (.inl q)⟩
 refine codeAny_call_function hr.depth (KX _ _ lk) rfl S.co S.gen rfl (PySem.W.codeRec_of KX T) (hb _ _ _ _ ?_);refine wpAny_newFunctionEnv_cells S.kind m fun aa he U x=>?_;subst he;refine⟨R.keeps x.toInCall.keep,codeAny_func ?_⟩;obtain⟨t,ht,hq⟩:=p A c s H j Q E (hr.deeper _) B;have I:Inv (Qef CX P w K G base N d a f g A c s H E) [] (start N j) H U:=QaV S hr.hd C hl r x;refine N0 (ht [] U (start N j) H _ I hq) (fun fl L z=>?_) fun e L z=>z
 have fin:∀{i:St} {l:Hp} {v:V} {u:Value},Inv (Qef CX P w K G base N d a f g A c s H E) [] i l L->RelV v u->Q v l->CE c P w H s Q u L:=
  fun {i l v u} J M q=>⟨v,l,J.os,J.bare,J.base,J.hok,M,q⟩
 cases fl with
 |ret u=>
  obtain⟨v,i,l,J,M,q⟩:=z;exact fin J M q
 |next=>
  obtain⟨i,l,J,q⟩:=z;exact fin (v:=V.non) (u:=Value.none) J rfl q
 |brk=>
  obtain⟨_,_,_,q⟩:=z;exact False.elim q
 |cont=>
  obtain⟨_,_,_,q⟩:=z;exact False.elim q
section
variable{X:Cx}{x:Str}{p pos:Pos}{e:Expr}{es:List Expr}{t:TA}{id T:String}{r:List V->Hp->VK->Prop}
noncomputable def tCB(r:List V->Hp->VK->Prop)(t:TA):TE:=fun a H Q=>t a H fun b c=>r b c Q
theorem Qd1(v:CallR X (.builtin id) r)(q:Gl X x)(o:X.mg x=none)(m:bootBuiltins x=some (.builtin id))(w:PA X (e::es) t)(n:x≠"__name__":=by decide)(c:(x==("__debug__":Str))=false:=by decide)
  (u:starEach (e::es) X.env=(false,eval e X.env)::starEach es X.env:=by rfl) (b:(backTo pos (starEach es X.env)).any (·.1)=false:=by rfl):PE X (.Call (.Name x p) (e::es) [] pos) (tCB r t):=by
 intro a s d H Q I h;refine Ee (Jo I q o m ?_ n c);exact EY (thn (w pos a s d H _ I h) fun g i ⟨f,y,I1,j,l⟩=>v a i d y f g Q I1 j l) u b
theorem Qb7(v:CallR X (.type T) r)(q:Gl X x)(o:X.mg x=none)(m:bootBuiltins x=some (.type T))(w:PA X (e::es) t)(n:x≠"__name__":=by decide)(c:(x==("__debug__":Str))=false:=by decide)
  (u:starEach (e::es) X.env=(false,eval e X.env)::starEach es X.env:=by rfl) (b:(backTo pos (starEach es X.env)).any (·.1)=false:=by rfl):PE X (.Call (.Name x p) (e::es) [] pos) (tCB r t):=by
 intro a s d H Q I h;refine Ee (Jo I q o m ?_ n c);exact NV (thn (w pos a s d H _ I h) fun g i ⟨f,y,I1,j,l⟩=>v a i d y f g Q I1 j l) u b
end
end L2
namespace HT
open PySem PyProof.Rows
section
variable{prog:Program}{w:World}{A:Around}{E:Value->Shared->Prop}{s:Shared}
theorem cat_tup{t b:Addr}{c ws:List Value}{Q:Value->Shared->Prop}(r:IsTup s.heap t c.toArray)(u:IsTup s.heap b ws.toArray)(m:c≠[])
  (x:ws=[]->Q (.ref t) s) (v:ws≠[]->Q (.ref s.heap.objs.size) { s with heap:=s.heap.push { cls:=.type "tuple",data:=.seq (c++ws).toArray } })
  (hsz:c.length+ws.length<=sizeLine):wpAny (model prog w) A (binaryOp .Add (.ref t) (.ref b)) Q E s:=by
 obtain⟨⟨cls,p,data,j⟩,i,o,n,hd⟩:=id r;obtain⟨⟨q,h,data2,d⟩,a,g,l,f⟩:=id u;simp only at o hd g f;subst o hd g f;have e:c.toArray++ws.toArray=(c++ws).toArray:=by simp
 by_cases hw:ws=[]
 ·exact LO ⟨_,i,rfl⟩ ⟨_,a,rfl⟩ Ij Lv Fh D9 (D1 _ _)
   (tuple_addW1 t b c.toArray ws.toArray n l p h j d (by simpa using m) (by simp[hw])) ⟨i,a,x hw⟩
 ·refine LO ⟨_,i,rfl⟩ ⟨_,a,rfl⟩ Ij Lv Fh D9 (D1 _ _)
   (tuple_addW2 t b c.toArray ws.toArray n l p h j d (by simpa using m) (by simpa using hw) (by rw[Nj,Nj];exact hsz)) ⟨i,a,?_⟩
  rw[e];exact v hw
noncomputable def sIx(n d:Nat):Option Int->Nat
 |none=>d
 |some v=>if v<0 then(v+(n:Int)).toNat else min v.toNat n
theorem sIx_none(n d:Nat):sIx n d none=d:=rfl
theorem sIx_nat(n d k:Nat):sIx n d (some (k:Int))=min k n:=by
 show(if(k:Int)<0 then((k:Int)+(n:Int)).toNat else min (k:Int).toNat n)=min k n;rw[if_neg (by lia),EB]
theorem QgP(n d:Nat)(hd:d<=n)(o:Option Int):sIx n d o<=n:=by
 cases o with
 |none=>exact hd
 |some v=>
  show(if v<0 then(v+(n:Int)).toNat else min v.toNat n)<=n
  by_cases a:v<0
  ·rw[if_pos a];lia
  ·rw[if_neg a];exact Fl _ _
theorem QbX(v:Int)(n d:Nat):(if v<0 then max (v+(n:Int)) 0 else min v (n:Int))=((sIx n d (some v):Nat):Int):=by
 show(if v<0 then max (v+(n:Int)) 0 else min v (n:Int))=(((if v<0 then(v+(n:Int)).toNat else min v.toNat n):Nat):Int)
 by_cases a:v<0
 ·simp only[if_pos a];lia
 ·simp only[if_neg a];lia
theorem Qag(lo a:Option Int)(n:Nat):Builtin.Slice.sliceAdjust lo a 1 (n:Int)=(((sIx n 0 lo:Nat):Int),((sIx n n a:Nat):Int)):=by
 have b:¬((1:Int)<0):=by exact by decide
 unfold Builtin.Slice.sliceAdjust;simp only[b,if_false];refine Prod.ext ?_ ?_
 ·cases lo with
  |none=>rfl
  |some v=>exact QbX v n 0
 ·cases a with
  |none=>rfl
  |some v=>exact QbX v n n
theorem G7(i j:Nat):Builtin.Slice.slicePlaces (i:Int) (j:Int) 1=j-i:=by
 unfold Builtin.Slice.slicePlaces;have a:(1:Int)>0:=by exact by decide
 simp only[a,if_true,Int.ediv_one];split<;>lia
theorem Yu{v:Value}{o:Option Int}{Q:Option Int->Shared->Prop}(p:IsPart v o)(h:Q o s):wpAny (model prog w) A (Builtin.Slice.slicePartIndex v) Q E s:=by
 cases p with
 |none=>exact slicePart_none h
 |int i t=>exact slicePart_int h
theorem sliceApplied_gen{f:Addr}{e d:Value}{lo b:Option Int}{n:Nat}{Q:Int×Int×Nat->Shared->Prop}(j:s.heap.IsSliceOf f e d .none)(i:IsPart e lo)(g:IsPart d b)
  (h:Q (((sIx n 0 lo:Nat):Int),1,sIx n n b-sIx n 0 lo) s):wpAny (model prog w) A (Builtin.Slice.sliceApplied (.ref f) (pure (n:Int))) Q E s:=by
 obtain⟨os,a,l,c⟩:=id j;unfold Builtin.Slice.sliceApplied Builtin.Slice.sliceFields;refine Na (Na (Ey a c (x:=e) rfl (Na (Ey a c (x:=d) rfl (Na (Ey a c (x:=.none) rfl (Ng ?_)))))));refine Na (slicePart_none ?_);show wpAny _ _ (if((1:Int)==0)=true then _ else _) _ _ s;rw[if_neg (by decide)];refine Na (Yu i (Na (Yu g (Na (Ng ?_)))));show wpAny _ _ (match Builtin.Slice.sliceAdjust lo b 1 (n:Int)with|(lo,b)=>pure (lo,(1:Int),Builtin.Slice.slicePlaces lo b 1)) _ _ s;rw[Qag lo b n];show wpAny _ _ (pure (((sIx n 0 lo:Nat):Int),(1:Int),Builtin.Slice.slicePlaces ((sIx n 0 lo:Nat):Int) ((sIx n n b:Nat):Int) 1)) _ _ s;rw[G7];exact Ng h
theorem Qdq(xs:Array Value)(i k:Nat):((List.range k).filterMap fun(m:Nat)=>xs[((i:Int)+(m:Int)*1).toNat]?).toArray=((xs.toList.drop i).take k).toArray:=by
 have e:(fun(m:Nat)=>xs[((i:Int)+(m:Int)*1).toNat]?)=fun m=>xs[i+m]?:=by
  funext m;have:((i:Int)+(m:Int)*1).toNat=i+m:=by lia
  rw[this]
 rw[e];have:=pick_run xs i k;rw[List.filterMap_map]at this;have a:((fun x=>xs[x]?)∘fun x=>i+x)=fun m=>xs[i+m]?:=rfl;rw[a]at this;rw[this]
theorem getItem_tuple_cut{t d:Addr}{items:Array Value}{l j:Value}{lo b:Option Int}{Q:Value->Shared->Prop}(c:IsTup s.heap t items)(n:s.heap.IsSliceOf d l j .none)(r:IsPart l lo)(p:IsPart j b)
  (hw:¬(sIx items.size 0 lo=0/\sIx items.size items.size b=items.size))
  (h:Q (.ref s.heap.objs.size) { s with heap:=s.heap.push { cls:=.type "tuple",data:=.seq ((items.toList.drop (sIx items.size 0 lo)).take (sIx items.size items.size b-sIx items.size 0 lo)).toArray } })
  (hsz:items.size<=sizeLine):wpAny (model prog w) A (getItem (.ref t) (.ref d)) Q E s:=by
 have a:sizeOk (.seq ((items.toList.drop (sIx items.size 0 lo)).take (sIx items.size items.size b-sIx items.size 0 lo)).toArray):=by
  show((items.toList.drop (sIx items.size 0 lo)).take (sIx items.size items.size b-sIx items.size 0 lo)).toArray.size<=sizeLine;rw[Nj,DN,Ik,ND];exact Nl (Nl (Fl _ _) (Da _ _)) hsz
 have u:sIx items.size items.size b<=items.size:=QgP _ _ (Nx _) b;obtain⟨os,e,g,v⟩:=id n;have i:s.TypeIs (.ref d) "slice":=⟨os,e,g⟩
 unfold getItem
 try with_reducible refine Ek ?_
 first|refine Na (Ng ?_)|skip
 refine Na (L0 c.typeIs (by decide) ?_)
 refine Na (Ed (name:=Str.ofString "__getitem__") c.typeIs N2
  (N5 N2 c.typeIs LA ?_ (LP _ _)))
 show wpAny _ _ (Builtin.Tuple.tupleItemsOf (.ref t)>>=_) _ _ s;refine Na (tupleItemsOf_ c ?_);refine Na (D2 i ?_);rw[if_pos (by decide)];refine Na (sliceApplied_gen n r p ?_)
 have f:¬((((sIx items.size 0 lo:Nat):Int)==0&&(1:Int)==1&&(sIx items.size items.size b-sIx items.size 0 lo)==items.size)=true):=by
  intro q;rw[NK,NK]at q;have x:((sIx items.size 0 lo:Nat):Int)=0:=Dk q.1.1;have o:sIx items.size items.size b-sIx items.size 0 lo=items.size:=Dk q.2;exact hw ⟨by lia,by exact DW u (Nl (Nr o.symm) (Da _ _))⟩
 show wpAny _ _ (if(((sIx items.size 0 lo:Nat):Int)==0&&(1:Int)==1&&(sIx items.size items.size b-sIx items.size 0 lo)==items.size)=true then _ else _) _ _ s;rw[if_neg f,Qdq]
 first
  |exact Na (m:=Builtin.Tuple.tupleExact _) (N3 (Ng ⟨_,rfl,Ng h⟩) a)
  |exact Na (m:=Builtin.Tuple.tupleExact _) (N3 (Na (Ng (Ng ⟨_,rfl,Ng h⟩))) a)
  |exact Na (Na (m:=Builtin.Tuple.tupleExact _) (N3 (Ng (Ng ⟨_,rfl,Ng h⟩)) a))
  |exact Na (Na (m:=Builtin.Tuple.tupleExact _) (N3 (Ng ⟨_,rfl,Ng h⟩) a))
end
end HT
namespace L2
noncomputable abbrev TO:=St->Hp->(Option Int->Hp->Prop)->Prop
def PO(X:Cx)(e:Option Expr)(t:TO):Prop:=
 ∀(a:List (Addr×Obj)) (s:Shared) (b:St) (H:Hp) (Q:Option Int->Hp->Prop),Inv X a b H s->t b H Q ->
  wpAny (model X.prog X.w) X.A (evalPart e X.env) (fun u d=>∃o c,Inv X a b c d/\IsPart u o/\Q o c) X.xe s
noncomputable def Qgr:TO:=fun _ H Q=>Q none H
noncomputable def Qjq(t:TE):TO:=fun a H Q=>t a H fun x b=>∃i,x=.int i/\Q (some i) b
section
variable{X:Cx}{e:Expr}{te:TE}{lo hi:Option Expr}{tl th:TO}{pos p2:Pos}
theorem Qgq:PO X none Qgr:=by
 intro a s b H Q I h;rw[evalPart_none];exact Ng ⟨none,H,I,.none,h⟩
theorem Qfu(h:PE X e te):PO X (some e) (Qjq te):=by
 intro a s b H Q I hw;rw[evalPart_some];refine thn (h a s b H _ I hw) fun u g ⟨x,f,I1,c,d⟩=>?_;obtain⟨i,rfl,q⟩:=d;obtain⟨t,rfl⟩:=c;exact⟨some i,f,I1,.int i t,q⟩
def SlR(X:Cx)(r:V->Option Int->Option Int->Hp->VK->Prop):Prop:=
 ∀(a:List (Addr×Obj)) (s:Shared) (b:St) (H:Hp) (x:V) (v d c:Value) (lo hi:Option Int) (f:Addr) (Q:VK),Inv X a b H s->RelV x v->s.heap.IsSliceOf f d c .none->IsPart d lo->IsPart c hi->r x lo hi H Q ->
  ∃T id,typeLookup (.type T) "__getitem__"=pure (some (.builtin id))/\s.TypeIs v T/\wpAny (model X.prog X.w) X.A (getItem v (.ref f)) (EP X a b Q) X.xe s
theorem SlR.or{r i:V->Option Int->Option Int->Hp->VK->Prop}(h:SlR X r)(h':SlR X i):SlR X (fun x lo hi H Q=>r x lo hi H Q\/i x lo hi H Q):=by
 intro a s b H x v d c lo hi f Q I g m l j q
 rcases q with q|q
 ·exact h a s b H x v d c lo hi f Q I g m l j q
 ·exact h' a s b H x v d c lo hi f Q I g m l j q
noncomputable def tSl(r:V->Option Int->Option Int->Hp->VK->Prop)(te:TE)(tl th:TO):TE:=fun a H Q=>te a H fun x d=>tl a d fun l c=>th a c fun u b=>r x l u b Q
theorem QdC{r:V->Option Int->Option Int->Hp->VK->Prop}(hr:SlR X r)(E:PE X e te)(C:PO X lo tl)(hu:PO X hi th):PE X (.Subscript e (.Slice lo hi none p2) pos) (tSl r te tl th):=by
 intro a s d H Q I h;refine Ot (thn (E a s d H _ I h) fun v j ⟨x,L,I1,m,p⟩=>?_);refine wpAny_Slice (thn (C a j d L _ I1 p) fun f i ⟨l,J,I2,y,o⟩=>thn (hu a i d J _ I2 o) fun vu c ⟨u,g,I3,t,n⟩=>?_);rw[evalPart_none];refine Ng ?_;have I4:Inv X a d g { c with heap:=c.heap.push { cls:=.type "slice",data:=.fields #[f,vu,.none] } }:=I3.kept (t':=c.toks) fun b ob q=>Nk _ q;obtain⟨T,id,G,B,D⟩:=hr a { c with heap:=c.heap.push { cls:=.type "slice",data:=.fields #[f,vu,.none] } } d g x v f vu l u c.heap.objs.size Q I4 m (OW ..) y t n;show wpAny (model X.prog X.w) X.A (subscriptTail e (.Slice lo hi none p2) v (.ref c.heap.objs.size)) (EP X a d Q) X.xe { c with heap:=c.heap.push { cls:=.type "slice",data:=.fields #[f,vu,.none] } };exact tail_any (ops:=[.ref c.heap.objs.size,v]) B G D (by with_unfolding_all rfl)
noncomputable def QcX(xs:List V)(lo hi:Option Int):List V:=(xs.drop (HT.sIx xs.length 0 lo)).take (HT.sIx xs.length xs.length hi-HT.sIx xs.length 0 lo)
theorem KI(xs:List V)(lo hi:Option Int):(QcX xs lo hi).length<=xs.length:=by
 unfold QcX;rw[DN,Ik];exact Nl (Fl _ _) (Da _ _)
noncomputable def QlV(K:Nd):V->Option Int->Option Int->Hp->VK->Prop:=fun x lo hi H Q=>∃a b,x=.ref a/\SqT K H a b /\
 ¬(HT.sIx b.length 0 lo=0/\HT.sIx b.length b.length hi=b.length)/\∀p,H p=none->Q (.ref p) (upd H p (.tup (QcX b lo hi)))
theorem QgZ:SlR X (QlV X.K):=by
 intro g s u H x v y w lo hi A Q I l t n m h;obtain⟨a,d,rfl,p,hw,q⟩:=h;cases l;obtain⟨f,r,j,i⟩:=I.tuple p;have c:f.toArray.size=d.length:=by rw[Nj];exact r.length.symm
 refine⟨"tuple",_,N2.lookup,j.typeIs,?_⟩;refine HT.getItem_tuple_cut j t n m (by rw[c];exact hw) ?_ (by rw[c];exact i);rw[c];refine⟨.ref s.heap.objs.size,_,I.laid (t':=s.toks) (o:=.tup (QcX d lo hi)) (fun b ob q=>Nk _ q) (Nx _) ?_,rfl,q _ (I.hok.fresh (Nx _))⟩;exact⟨Nl (KI d lo hi) i,_,(r.drop (HT.sIx d.length 0 lo)).take (HT.sIx d.length d.length hi-HT.sIx d.length 0 lo),OI _ _⟩
noncomputable def QkE(K:Nd):R2:=fun x y H Q=>∃a b d c,x=.ref a/\y=.ref b/\SqT K H a d/\SqT K H b c/\d≠[]/\d.length+c.length<=sizeLine /\
 (c=[]->Q (.ref a) H)/\(c≠[]->∀p,H p=none->Q (.ref p) (upd H p (.tup (d++c))))
theorem Vals.nil_iff{xs:List V}{a:List Value}(r:Vals xs a):a=[]↔xs=[]:=by
 cases r with
 |nil=>simp
 |cons _ _=>simp
theorem Qfx:OpR X (binaryOp .Add) (QkE X.K):=by
 intro f s E H x y v u Q I n m h;obtain⟨a,b,l,j,rfl,rfl,D,C,B,i,r,p⟩:=h;cases n;cases m;obtain⟨A,d,t,_⟩:=I.tuple D;obtain⟨g,c,p2,_⟩:=I.tuple C;refine HT.cat_tup t p2 (fun z=>B (d.nil_iff.mp z)) (fun z=>⟨.ref a,H,I,rfl,r (c.nil_iff.mp z)⟩) (fun z=>?_) (by rw[<-d.length,<-c.length];exact i);refine⟨.ref s.heap.objs.size,_,I.laid (t':=s.toks) (o:=.tup (l++j)) (fun b ob q=>Nk _ q) (Nx _) ?_,rfl,p (fun w=>z (c.nil_iff.mpr w)) _ (I.hok.fresh (Nx _))⟩;exact⟨by rw[Ny];exact i,_,d.append c,OI _ _⟩
end
noncomputable def ixN(n:Nat)(i:Int):Option Nat:=if 0<=i then(if i<n then some i.toNat else none)else if -(n:Int)<=i then some (i+n).toNat else none
noncomputable def atI{a:Type}(xs:List a)(i:Int):Option a:=(ixN xs.length i).bind fun j=>xs[j]?
theorem QbM{n:Nat}{i:Int}{j:Nat}(h:ixN n i=some j):seqIndex? i n=some j/\j<n/\-(n:Int)<=i/\i<n:=by
 unfold ixN at h
 by_cases b:0<=i
 ·rw[if_pos b]at h
  by_cases a:i<n
  ·rw[if_pos a]at h;have e:i.toNat=j:=N1 h;exact⟨by rw[Oc b a,e],by lia,by lia,a⟩
  ·rw[if_neg a]at h;cases h
 ·rw[if_neg b]at h
  by_cases a:-(n:Int)<=i
  ·rw[if_pos a]at h;have e:(i+n).toNat=j:=N1 h;exact⟨by rw[LQ (F8.mp b) a,e],by lia,a,by lia⟩
  ·rw[if_neg a]at h;cases h
theorem UO{a:Type}{xs:List a}{i:Int}{v:a}(h:atI xs i=some v):∃j,seqIndex? i xs.length=some j/\xs[j]?=some v/\j<xs.length/\-(xs.length:Int)<=i/\i<xs.length:=by
 unfold atI at h;cases e:ixN xs.length i with
 |none=>rw[e]at h;cases h
 |some j=>
  rw[e]at h;obtain⟨f,d,c,b⟩:=QbM e;exact⟨j,f,h,d,c,b⟩
theorem QfV{a:Type}{xs:List a}{j:Nat}{v:a}(h:xs[j]?=some v):atI xs (j:Int)=some v:=by
 have b:j<xs.length:=(Nh.mp h).1
 have e:ixN xs.length (j:Int)=some j:=by
  unfold ixN;rw[if_pos (by lia),if_pos (by lia)];simp
 unfold atI;rw[e];exact h
def Y6(b:Expr):Prop:=∀o i,subscripted b false o i=operate [o,i] (getItem o i)
def IxR(X:Cx)(r:R2):Prop:=
 ∀(value slice:Expr) (a:List (Addr×Obj)) (s:Shared) (b:St) (H:Hp) (x y:V) (v u:Value) (Q:VK),Inv X a b H s->RelV x v->RelV y u->r x y H Q ->
  subscripted slice false v u=operate [v,u] (getItem v u)->wpAny (model X.prog X.w) X.A (subscriptTail value slice v u) (EP X a b Q) X.xe s
def MtR(X:Cx)(id:String)(r:V->List V->Hp->VK->Prop):Prop:=
 ∀(a:List (Addr×Obj)) (s:Shared) (b:St) (H:Hp) (x:V) (c:List V) (v:Value) (d:List Value) (Q:VK),Inv X a b H s->RelV x v->Vals c d->r x c H Q ->
  wpAny (model X.prog X.w) X.A (call (.builtin id) (v::d)) (EP X a b Q) X.xe s
section
variable{X:Cx}{a b:Expr}{ta tb:TE}{pos:Pos}
theorem IxR.or{r g:R2}(h:IxR X r)(h':IxR X g):IxR X (fun x y H Q=>r x y H Q\/g x y H Q):=by
 intro value slice c s d H x y v u Q I f e q i
 rcases q with q|q
 ·exact h value slice c s d H x y v u Q I f e q i
 ·exact h' value slice c s d H x y v u Q I f e q i
theorem Qin{r:R2}(hr:IxR X r)(l:PE X a ta)(j:PE X b tb)(i:Y6 b):PE X (.Subscript a b pos) (tOp r ta tb):=by
 intro c s d H Q I h;exact Ot (Qj2 l j I h fun v u e x y m I2 g f q=>hr a b c e d m x y v u Q I2 g f q (i _ _))
noncomputable def QkH(K:Nd):R2:=fun x y H Q=>∃p c i v,x=.ref p/\y=.int i/\SqL K H p c/\atI c i=some v/\Q v H
noncomputable def Qla(K:Nd):R2:=fun x y H Q=>∃p c i v,x=.ref p/\y=.int i/\SqT K H p c/\atI c i=some v/\Q v H
noncomputable def Qk4:R2:=fun x y H Q=>∃z i c,x=.str z/\y=.int i/\z.length<=sizeLine/\atI z.cps.toList i=some c/\Q (.str ⟨#[c]⟩) H
theorem ix_list:IxR X (QkH X.K):=by
 intro value slice c s n H x y v u Q I D C h o;obtain⟨p,O,i,z,rfl,rfl,E,J,q⟩:=h;cases D;obtain⟨t,rfl⟩:=C;obtain⟨l,r,g,P⟩:=I.list E;obtain⟨j,d,N,S,M,L⟩:=UO J;obtain⟨w,A,f⟩:=r.get N;have G:=r.length;have R:=KL;have fin:EP X c n Q w s:=⟨z,H,I,f,q⟩
 by_cases e:0<=i
 ·have m:i.toNat=j:=by
   rw[Oc e L]at d;exact N1 d
  exact item_listR g.isList e (by lia) (by rw[m];simpa using A) fin o
 ·have m:(i+(l.toArray.size:Int)).toNat=j:=by
   rw[LQ (F8.mp e) M]at d;rw[Nj,<-G];exact N1 d
  exact IM (x:=w) g.isList.typeIs L3.lookup
   (wpAny_getItem_list_neg (Q:=fun r B=>r=w/\EP X c n Q r B) g.isList (F8.mp e) (by rw[Nj]<;>lia) (by lia) (by rw[m];simpa using A) ⟨rfl,fin⟩) o
theorem ix_tup:IxR X (Qla X.K):=by
 intro value slice c s e H x y v u Q I m l h o;obtain⟨p,J,i,z,rfl,rfl,A,C,q⟩:=h;cases m;obtain⟨t,rfl⟩:=l;obtain⟨n,r,f,L⟩:=I.tuple A;obtain⟨j,E,D,P,O,N⟩:=UO C;obtain⟨w,G,d⟩:=r.get D;have B:=r.length;have M:=KL;have fin:EP X c e Q w s:=⟨z,H,I,d,q⟩
 exact IM (x:=w) f.typeIs N2.lookup
  (getItem_tuple (j:=j) (Q:=fun r g=>r=w/\EP X c e Q r g) f (by lia) (by lia) (by rw[Nj,<-B];exact E) (by simpa using G) ⟨rfl,fin⟩) o
theorem Qhx:IxR X Qk4:=by
 intro value slice d s B H x y v u Q I g f h l;obtain⟨z,i,c,rfl,rfl,D,n,q⟩:=h;obtain⟨t,rfl⟩:=g;obtain⟨C,rfl⟩:=f;obtain⟨j,e,r,G,p,o⟩:=UO n;have m:z.cps.toList.length=z.length:=by simp[Str.length]
 rw[m]at e p o;have E:=KL
 exact tail_any (Ou s z t) slot_str_getitem.lookup (getItem_str (c:=c) (by
  have A:decide (i < -(2^63:Int))=false:=decide_eq_false (by lia);have w:decide (i >= 2^63)=false:=decide_eq_false (by lia)
  rw[A,w,Lw]) (by rw[e];simpa using r) ⟨.str ⟨#[c]⟩,H,I.tok _,⟨_,rfl⟩,q⟩) l
noncomputable def rIx(K:Nd):R2:=fun x y H Q=>QkH K x y H Q\/Qla K x y H Q\/Qk4 x y H Q
theorem Qir:IxR X (rIx X.K):=ix_list.or (ix_tup.or Qhx)
theorem G9(its:List Value)(n j:Nat)(u:Value):Obj.mapSeq (·.setIfInBounds j u) { cls:=.type "list",data:=.seq its.toArray n }={ cls:=.type "list",data:=.seq (its.set j u).toArray n }:=by
 simp[Obj.mapSeq]
theorem Inv.lst{c:List (Addr×Obj)}{σ:St}{H:Hp}{s:Shared}{p:Addr}{xs:List V}(I:Inv X c σ H s)(h:H p=some (.lst xs)) :
  ∃(its:List Value) (n:Nat),Vals xs its/\s.heap.get? p=some { cls:=.type "list",data:=.seq its.toArray n }/\xs.length<=sizeLine:=by
 obtain⟨z,its,n,r,e⟩:=I.hok p _ h;exact⟨its,n,r,e,z⟩
theorem Inv.lstUpd{c:List (Addr×Obj)}{σ:St}{H:Hp}{s:Shared}{p:Addr}{xs d:List V}{its its':List Value}{n g:Nat}{f:Obj->Obj}(I:Inv X c σ H s)(h:H p=some (.lst xs))
  (j:s.heap.get? p=some { cls:=.type "list",data:=.seq its.toArray n }) (i:f { cls:=.type "list",data:=.seq its.toArray n }={ cls:=.type "list",data:=.seq its'.toArray g }) (r:Vals d its') (hz:d.length<=sizeLine) (t:Nat) :
  Inv X c σ (upd H p (.lst d)) { s with heap:=s.heap.update p f,toks:=t }:=by
 have e:(s.heap.update p f).get? p=some { cls:=.type "list",data:=.seq its'.toArray g }:=by
  rw[NU f j (by rw[i]<;>rfl),i]
 refine I.write (x:=p) (e:=p) (by rw[h];trivial) (.inl rfl) (fun b u l q=>(N9 _ _ (E2 l)).trans q) ⟨_,e⟩ ?_;exact⟨hz,its',g,r,e⟩
noncomputable def Qio:V->V->V->Hp->(Hp->Prop)->Prop:=fun o i v H Q=>∃p c k j,o=.ref p/\i=.int k/\H p=some (.lst c)/\ixN c.length k=some j/\Q (upd H p (.lst (c.set j v)))
theorem set_list:Qlu X Qio:=by
 intro c s A H o i v L M u Q I D E C h;obtain⟨p,B,k,j,rfl,rfl,w,J,q⟩:=h;cases D;obtain⟨t,rfl⟩:=E;obtain⟨d,n,r,g,G⟩:=I.lst w;obtain⟨e,O,y,x⟩:=QbM J;have l:=r.length;have N:=KL
 have z:Inv X c A (upd H p (.lst (B.set j v))) { s with heap:=s.heap.update p (Obj.mapSeq (·.setIfInBounds j u)) }:=
  I.lstUpd w g (G9 d n j u) (r.set C j) (by rw[Dg];exact G) s.toks
 by_cases f:0<=k
 ·have m:k.toNat=j:=by
   rw[Oc f x]at e;exact N1 e
  exact PySem.W.ki_setAt g f (by lia) (by rw[Nj,<-l];exact x) (by rw[m];exact⟨_,z,q⟩)
 ·have m:(k+(d.toArray.size:Int)).toNat=j:=by
   rw[LQ (F8.mp f) y]at e;rw[Nj,<-l];exact N1 e
  exact PySem.W.ki_setBack g (F8.mp f) (by rw[Nj,<-l];exact y) (by lia) (by rw[m];exact⟨_,z,q⟩)
theorem W1(lo c:Option Int)(n:Nat):(sliceBounds lo c none n).1=((HT.sIx n 0 lo:Nat):Int)/\(sliceBounds lo c none n).2.1=((HT.sIx n n c:Nat):Int)/\(sliceBounds lo c none n).2.2=1:=by
 refine⟨?_,?_,rfl⟩
 ·cases lo with
  |none=>simp[sliceBounds,HT.sIx]
  |some i=>
   simp only[sliceBounds,HT.sIx,Og,show(1:Int)>0 by decide,if_true]
   by_cases h:i<0
   ·simp only[h,if_true]<;>lia
   ·simp only[h,if_false]<;>lia
 ·cases c with
  |none=>simp[sliceBounds,HT.sIx]
  |some i=>
   simp only[sliceBounds,HT.sIx,Og,show(1:Int)>0 by decide,if_true]
   by_cases h:i<0
   ·simp only[h,if_true]<;>omega
   ·simp only[h,if_false]<;>omega
theorem YY(its:List Value)(lo c:Option Int):slicePick its.toArray lo c none=((its.drop (HT.sIx its.length 0 lo)).take (HT.sIx its.length its.length c-HT.sIx its.length 0 lo)).toArray:=by
 obtain⟨f,e,d⟩:=W1 lo c its.toArray.size;unfold slicePick;rw[f,e,d];simp only[sliceRange_one,pick_run,Nj]<;>rfl
noncomputable def QlT(K:Nd):V->Option Int->Option Int->Hp->VK->Prop:=fun x lo d H Q=>∃a c,x=.ref a/\SqL K H a c/\∀p,H p=none->Q (.ref p) (upd H p (.lst (QcX c lo d)))
theorem sl_list:SlR X (QlT X.K):=by
 intro f s u H x v y w lo e A Q I j t m l h;obtain⟨a,d,rfl,p,q⟩:=h;cases j;obtain⟨n,r,i,g⟩:=I.list p;have c:=r.length;refine⟨"list",_,L3.lookup,i.isList.typeIs,?_⟩;refine wpAny_getItem_list_slice i.isList t m l .none (by simp) ?_ (by rw[Nj]<;>exact Nl (Nr c.symm) g);rw[YY,<-c];refine⟨.ref s.heap.objs.size,_,I.laid (t':=s.toks) (o:=.lst (QcX d lo e)) (fun b ob q=>Nk _ q) (Nx _) ?_,rfl,q _ (I.hok.fresh (Nx _))⟩;exact⟨Nl (KI d lo e) g,_,0,(r.drop (HT.sIx d.length 0 lo)).take (HT.sIx d.length d.length e-HT.sIx d.length 0 lo),Nw _ rfl⟩
noncomputable def Qe1:V->Bool
 |.non=>true
 |.bl _=>true
 |.int _=>true
 |.str _=>true
 |_=>false
noncomputable def eqV:V->V->Bool
 |.non,.non=>true
 |.bl a,.bl b=>a==b
 |.bl a,.int b=>(if a then 1 else 0)==b
 |.int a,.bl b=>a==(if b then 1 else 0)
 |.int a,.int b=>a==b
 |.str a,.str b=>a==b
 |_,_=>false
theorem Qih{A:Around}{s:Shared}{y x:V}{u v:Value}(e:RelV y u)(c:RelV x v)(g:Qe1 y=true)(f:Qe1 x=true):SeqAt.EqAt A s u v (eqV y x):=by
 cases y with
 |non=>
  cases e;cases x with
  |non=>cases c;exact SeqAt.EqAt.same _
  |bl b=>cases c;exact SeqAt.EqAt.none_bool b
  |int b=>obtain⟨t,rfl⟩:=c;exact SeqAt.EqAt.none_int b t
  |str b=>obtain⟨t,rfl⟩:=c;exact SeqAt.EqAt.none_str b t
  |_=>exact absurd (show false=true from f) NZ
 |bl a=>
  cases e;cases x with
  |non=>cases c;exact SeqAt.EqAt.bool_none a
  |bl b=>cases c;exact SeqAt.EqAt.bool_bool a b
  |int b=>obtain⟨t,rfl⟩:=c;exact SeqAt.EqAt.bool_int a b t
  |str b=>obtain⟨t,rfl⟩:=c;exact SeqAt.EqAt.bool_str a b t
  |_=>exact absurd (show false=true from f) NZ
 |int a=>
  obtain⟨d,rfl⟩:=e;cases x with
  |non=>cases c;exact SeqAt.EqAt.int_none a d
  |bl b=>cases c;exact SeqAt.EqAt.int_bool a d b
  |int b=>obtain⟨t,rfl⟩:=c;exact SeqAt.EqAt.int_int a d b t
  |str b=>obtain⟨t,rfl⟩:=c;exact LJ a d b t
  |_=>exact absurd (show false=true from f) NZ
 |str a=>
  obtain⟨d,rfl⟩:=e;cases x with
  |non=>cases c;exact SeqAt.EqAt.str_none a d
  |bl b=>cases c;exact SeqAt.EqAt.str_bool a d b
  |int b=>obtain⟨t,rfl⟩:=c;exact LK a d b t
  |str b=>obtain⟨t,rfl⟩:=c;exact SeqAt.EqAt.str_str a d b t
  |_=>exact absurd (show false=true from f) NZ
 |_=>exact absurd (show false=true from g) NZ
theorem call_len_seq:CallR X (.builtin "len") (fun xs H Q=>∃p d,xs=[.ref p]/\(SqL X.K H p d\/SqT X.K H p d)/\Q (.int d.length) H):=by
 intro j s n H xs o Q I r h;obtain⟨p,d,rfl,e,q⟩:=h;obtain⟨u,rfl,l⟩:=Ua r;cases l;have t:=KL
 rcases e with e|e
 ·obtain⟨i,f,g,m⟩:=I.list e;have c:=f.length;exact Calls.call_len_list g.isList (by simp only[Nj]<;>lia) ⟨.int d.length,H,I.tok _,⟨s.toks+1,by rw[Nj,c]⟩,q⟩
 ·obtain⟨i,f,g,m⟩:=I.tuple e;have c:=f.length;exact len_tuple g (by simp only[Nj]<;>omega) ⟨.int d.length,H,I.tok _,⟨s.toks+1,by rw[Nj,c]⟩,q⟩
theorem WX:CallR X (.builtin "len") (fun xs H Q=>∃z,xs=[.str z]/\z.length<=sizeLine/\Q (.int z.length) H):=by
 intro c s d H xs e Q I r h;obtain⟨z,rfl,f,q⟩:=h;obtain⟨u,rfl,t,rfl⟩:=Ua r;have g:=KL;exact len_str (by lia) ⟨.int z.length,H,I.tok _,⟨_,rfl⟩,q⟩
theorem CallR.or{f:Value}{r i:List V->Hp->VK->Prop}(h:CallR X f r)(h':CallR X f i):CallR X f (fun xs H Q=>r xs H Q\/i xs H Q):=by
 intro c s d H xs e Q I g q
 rcases q with q|q
 ·exact h c s d H xs e Q I g q
 ·exact h' c s d H xs e Q I g q
theorem WR:CallR X (.type "list") (fun xs H Q=>∃p g,xs=[.ref p]/\(SqL X.K H p g\/SqT X.K H p g)/\∀l,H l=none->Q (.ref l) (upd H l (.lst g))):=by
 intro t s C H xs E Q I r h;obtain⟨p,g,rfl,x,q⟩:=h;obtain⟨u,rfl,D⟩:=Ua r;cases D
 have fin:∀(c:List Value),Vals g c->g.length<=sizeLine->∀(f:Heap) (m:Nat),(∀b B,s.heap.get? b=some B->f.get? b=some B) ->
   f.get? s.heap.objs.size=some { cls:=.type "list",dict:=none,data:=.seq c.toArray m,slots:=#[] }->EP X t C Q (.ref s.heap.objs.size) { s with heap:=f }:=fun c i j f m v e=>
  ⟨.ref s.heap.objs.size,_,I.laid (t':=s.toks) v (Nx _) (show ObjOk X.prog X.w _ f _ (.lst g)from⟨j,c,m,i,e⟩),rfl,q _ (I.hok.fresh (Nx _))⟩
 rcases x with x|x
 ·obtain⟨c,i,y,j⟩:=I.list x;have d:=i.length;obtain⟨o,z,A,n,hd⟩:=y.isList;exact call_list_seq p (.inl rfl) z A hd (fun f m v e=>fin c i j f m v e) (by simp only[Nj]<;>exact Nl (Nr d.symm) j)
 ·obtain⟨c,i,y,j⟩:=I.tuple x;have d:=i.length;obtain⟨o,z,A,n,hd⟩:=y;exact call_list_seq p (.inr rfl) z A hd (fun f m v e=>fin c i j f m v e) (by simp only[Nj]<;>exact Nl (Nr d.symm) j)
theorem Y5:CallR X (.type "tuple") (fun xs H Q=>∃p f,xs=[.ref p]/\((SqL X.K H p f/\∀l,H l=none->Q (.ref l) (upd H l (.tup f)))\/(SqT X.K H p f/\Q (.ref p) H))):=by
 intro c s v H xs A Q I r h;obtain⟨p,f,rfl,h⟩:=h;obtain⟨u,rfl,y⟩:=Ua r;cases y
 rcases h with⟨t,q⟩|⟨t,q⟩
 ·obtain⟨d,j,m,n⟩:=I.list t;have g:=j.length;refine call_tuple_list m.isList (fun i z=>?_) (by simp only[Nj]<;>exact Nl (Nr g.symm) n);have I1:Inv X c v H { s with heap:=i }:=I.kept (t':=s.toks) z
  have I2:Inv X c v (upd H i.objs.size (.tup f)) { s with heap:=i.push { cls:=.type "tuple",data:=.seq d.toArray } }:=
   I1.laid (t':=s.toks) (fun b o e=>Nk _ e) (Nx _) (show ObjOk X.prog X.w _ _ _ (.tup f)from⟨n,d,j,OI _ _⟩)
  exact⟨.ref i.objs.size,_,I2,rfl,q _ (I1.hok.fresh (Nx _))⟩
 ·obtain⟨d,j,m,n⟩:=I.tuple t;exact call_tuple_same m ⟨.ref p,H,I,rfl,q⟩
def tyV(K:Nd)(T:String)(x:V)(H:Hp):Prop:=match x with
 |.str _=>T="str"
 |.int _=>T="int"
 | .ref p=>(T="list"/\∃c,SqL K H p c)\/(T="tuple"/\∃o,K.lookup p=some o/\o.cls=.type "tuple"/\o.dict=none) \/
   (T="dict"/\((∃kvs,H p=some (.dK kvs))\/∃kvs,H p=some (.dT kvs)))\/(T="set"/\∃S n,H p=some (.set S n))
 |_=>False
theorem Qee{f:List (Addr×Obj)}{σ:St}{H:Hp}{s:Shared}{T:String}{x:V}{v:Value}(I:Inv X f σ H s)(r:RelV x v)(ty:tyV X.K T x H) :
  s.TypeIs v T/\∀a,v=.ref a->∃ob,s.heap.get? a=some ob/\ob.dict=none:=by
 cases x with
 |str z=>
  obtain⟨t,rfl⟩:=r;cases(show T="str"from ty);exact⟨Ou s z t,fun _ e=>nomatch e⟩
 |int i=>
  obtain⟨t,rfl⟩:=r;cases(show T="int"from ty);exact⟨typeIs_int s i t,fun _ e=>nomatch e⟩
 | ref p=>
  cases r
  rcases ty with⟨rfl,q,l⟩|⟨rfl,o,d,m,hd⟩|⟨rfl,d⟩|⟨rfl,S,n,d⟩
  ·obtain⟨j,_,h,_⟩:=I.list l;refine⟨h.isList.typeIs,fun a e=>?_⟩;cases e;obtain⟨o,n,e,c,hd,_⟩:=h;exact⟨o,e,hd⟩
  ·refine⟨⟨o,I.kIn p o d,m⟩,fun a e=>?_⟩;cases e;exact⟨o,I.kIn _ o d,hd⟩
  ·have z:∃o,s.heap.get? p=some o/\o.ExactDict:=by
    rcases d with⟨kvs,d⟩|⟨kvs,d⟩
    ·obtain⟨_,_,_,_,o,_,_,e,ex,_⟩:=I.hok p _ d;exact⟨o,e,ex⟩
    ·obtain⟨_,_,_,_,o,_,_,e,ex,_⟩:=I.hok p _ d;exact⟨o,e,ex⟩
   obtain⟨o,e,ex⟩:=z;refine⟨⟨o,e,ex.1⟩,fun a g=>?_⟩;cases g;exact⟨o,e,ex.2.1⟩
  ·obtain⟨o,_,_,_,e,ex,_⟩:=I.hok p _ d;refine⟨⟨o,e,ex.1⟩,fun a g=>?_⟩;cases g;exact⟨o,e,ex.2.1⟩
 |_=>exact False.elim ty
noncomputable def QmQ(K:Nd)(T:String)(r:V->List V->Hp->VK->Prop)(e:TE):TE:=fun d H Q=>e d H fun x c=>tyV K T x c/\r x [] c Q
noncomputable def tBM(K:Nd)(T:String)(r:V->List V->Hp->VK->Prop)(f:TE)(t:TA):TE:=fun c H Q=>f c H fun x d=>tyV K T x d/\t c d fun e g=>r x e g Q
variable{o e:Expr}{es:List Expr}{to:TE}{t:TA}{name:Str}{apos cpos:Pos}{T id:String}{r:V->List V->Hp->VK->Prop}
theorem Qim(n:PlainAttrs T)(slot:Slot T name id)(g:typeOf (.builtin id)=pure (.type "method_descriptor"))(q:MtR X id r)(p:PE X o to)
  (f:attributeBase o name X.env (eval o X.env)=eval o X.env:=by rfl) (d:(apos.endLine==cpos.line)=true:=by rfl):PE X (.Call (.Attribute o name apos) [] [] cpos) (QmQ X.K T r to):=by
 intro c s i H Q I h;refine wpAny_Call_method0_late f d (thn (p c s i H _ I h) fun v l ⟨x,y,I1,j,ty,m⟩=>?_);obtain⟨w,u⟩:=Qee I1 j ty;exact⟨T,id,n,slot,g,w,u,IN rfl (PySem.evalArgs_none (q c l i y x [] v [] Q I1 j .nil m))⟩
theorem QjY(B:PlainAttrs T)(slot:Slot T name id)(l:typeOf (.builtin id)=pure (.type "method_descriptor"))(E:MtR X id r)(D:PE X o to)(G:PA X (e::es) t)
  (g:attributeBase o name X.env (eval o X.env)=eval o X.env:=by rfl)
  (i:((backTo cpos (starEach (e::es) X.env)).all (fun x=>!x.1)&&(backToKw cpos (keywordEach [] X.env)).all (fun x=>x.1.isSome)
   && decide ((e::es).length+([]:List Keyword).length+(if([]:List Keyword).isEmpty then 0 else 1)<30))=true:=by rfl)
  (f:(apos.endLine==cpos.line)=true:=by rfl) (C:starEach (e::es) X.env=(false,eval e X.env)::starEach es X.env:=by rfl) (d:(backTo cpos (starEach es X.env)).any (·.1)=false:=by rfl) :
  PE X (.Call (.Attribute o name apos) (e::es) [] cpos) (tBM X.K T r to t):=by
 intro c s j H Q I h;refine wpAny_Call_method_late g i f rfl (thn (D c s j H _ I h) fun v w ⟨x,N,I1,m,ty,A⟩=>?_);obtain⟨L,J⟩:=Qee I1 m ty;refine⟨T,id,B,slot,l,L,J,?_⟩;have n:=G cpos c w j N _ I1 A;rw[C]at n ⊢;refine IN (by show(false ||(backTo cpos (starEach es X.env)).any (·.1))=false;rw[d]<;>rfl) (Calls.evalArgs_plain ?_);exact thn n fun q u ⟨p,M,I2,y,z⟩=>E c u j M x p v q Q I2 m y z
end
def MtM(X:Cx)(id:String)(r:V->List V->Hp->VK->Prop):Prop:=
 ∀(a:List (Addr×Obj)) (s:Shared) (b:St) (H:Hp) (x:V) (c:List V) (v:Value) (d:List Value) (Q:VK),Inv X a b H s->RelV x v->Vals c d->r x c H Q ->
  wpAny (model X.prog X.w) X.A (call (.builtin id) (v::d)) (EP X a b Q) X.xe s
theorem Vals.one:∀{x:V} {a:List Value},Vals [x] a->∃u,a=[u]/\RelV x u
 |_,_,.cons r .nil=>⟨_,rfl,r⟩
theorem Vals.zero:∀{a:List Value},Vals [] a->a=[]
 |_,.nil=>rfl
theorem Vals.dropLast{xs:List V}{a:List Value}(h:Vals xs a):Vals xs.dropLast a.dropLast:=by
 induction h with
 |nil=>exact .nil
 |cons r t b=>
  cases t with
  |nil=>exact .nil
  |cons q c=>exact .cons r b
theorem Vals.eraseIdx:∀{xs:List V} {a:List Value} (i:Nat),Vals xs a->Vals (xs.eraseIdx i) (a.eraseIdx i)
 |_,_,_,.nil=>.nil
 |_,_,0,.cons _ t=>t
 |_,_,i+1,.cons r t=>.cons r (Vals.eraseIdx i t)
theorem Vals.reverse{xs:List V}{a:List Value}(h:Vals xs a):Vals xs.reverse a.reverse:=by
 induction h with
 |nil=>exact .nil
 |cons r t b=>rw[E4,E4];exact Vals.append b (.cons r .nil)
theorem Qad{c:Type}(l:List c):l.eraseIdx (l.length-1)=l.dropLast:=by
 induction l with
 |nil=>rfl
 | cons a r d=>
  cases r with
  |nil=>rfl
  | cons b r=>
   have e:(a::b::r).length-1=((b::r).length-1)+1:=by
    have g:(a::b::r).length=r.length+2:=rfl;have f:(b::r).length=r.length+1:=rfl;exact rfl
   rw[e,List.eraseIdx_cons_succ,d]
   all_goals rfl
section
variable{X:Cx}{pins:List (Addr×Obj)}{σ:St}{H:Hp}{s:Shared}{l b:Addr}{xs ys zs:List V}
theorem Inv.lset{its its':List Value}{n:Nat}{f:Array Value->Array Value}{t':Nat}(I:Inv X pins σ H s)(g:H l=some (.lst xs))
  (e:s.heap.get? l=some { cls:=.type "list",data:=.seq its.toArray n }) (c:f its.toArray=its'.toArray) (a:Vals ys its') (hz:ys.length<=sizeLine) :
  Inv X pins σ (upd H l (.lst ys)) { s with heap:=s.heap.update l (Obj.mapSeq f),toks:=t' }:=by
 have q:=Oh e f;rw[c]at q;refine I.write (x:=l) (e:=l) (by rw[g];exact trivial) (.inl rfl) (fun h u d hu=>(N9 s.heap (Obj.mapSeq f) (E2 d)).trans hu) ⟨_,q⟩ ?_;exact⟨hz,its',_,a,q⟩
theorem Inv.lnew{its:List Value}{t':Nat}(I:Inv X pins σ H s)(a:Vals ys its)(hz:ys.length<=sizeLine) :
  Inv X pins σ (upd H s.heap.objs.size (.lst ys)) { s with heap:=s.heap.push { cls:=.type "list",data:=.seq its.toArray },toks:=t' }:=
 I.laid (fun _ _ q=>Nk _ q) (Nx _) ⟨hz,its,0,a,Nw _ rfl⟩
theorem Inv.fresh(I:Inv X pins σ H s):H s.heap.objs.size=none:=I.hok.fresh (Nx _)
theorem Inv.lstM(I:Inv X pins σ H s)(a:H l=some (.lst xs)):xs.length<=sizeLine/\∃(its:List Value) (n:Nat),Vals xs its/\xs.length=its.length/\s.heap.get? l=some { cls:=.type "list",data:=.seq its.toArray n }:=by
 obtain⟨z,its,n,r,e⟩:=I.hok l _ a;exact⟨z,its,n,r,r.length,e⟩
theorem GD{n:Nat}(h:n<=sizeLine):Builtin.List.listTooLong n=false:=by
 unfold Builtin.List.listTooLong;exact decide_eq_false (NQ.mpr h)
end
section
variable{X:Cx}
noncomputable def Qe6:V->List V->Hp->VK->Prop:=fun x b H Q=>∃l a y,x=.ref l/\b=[y]/\H l=some (.lst a)/\a.length<sizeLine/\Q .non (upd H l (.lst (a++[y])))
theorem Qbx:MtM X "list.append" Qe6:=by
 intro b s o H x t v w Q I g i h;obtain⟨l,p,y,rfl,rfl,f,d,q⟩:=h;cases g;obtain⟨u,rfl,j⟩:=i.one;obtain⟨z,a,n,r,m,e⟩:=I.lstM f;refine Fy Fz ⟨_,e,rfl⟩ LB (Li _ _) (L4 l a.toArray n u (by rw[Nj];exact NB (No (Nr m.symm) d))) ⟨e,?_⟩;refine⟨.non,_,I.lset (its':=a++[u]) f e (by simp) (r.append (.cons j .nil)) ?_,rfl,q⟩;rw[Ny,El];exact d
noncomputable def Qgv:V->List V->Hp->VK->Prop:=fun x d H Q=>∃l b c a,x=.ref l/\d=[.ref b]/\H l=some (.lst c)/\H b=some (.lst a)/\c.length+a.length<=sizeLine/\Q .non (upd H l (.lst (c++a)))
theorem Qb1:MtM X "list.extend" Qgv:=by
 intro g s E H x M v N Q I m o h;obtain⟨l,b,L,G,rfl,rfl,j,C,y,q⟩:=h;cases m;obtain⟨u,rfl,p⟩:=o.one;cases p;obtain⟨z,c,n,r,B,e⟩:=I.lstM j;obtain⟨J,a,w,t,A,D⟩:=I.lstM C;have f:c.toArray.size+a.toArray.size<=sizeLine:=by rw[Nj,Nj];lia
 have d:¬(!c.toArray.isEmpty&&Builtin.List.listTooLong (c.toArray.size+a.toArray.size))=true:=by
  rw[GD f,E7];exact NZ
 refine Fy EO ⟨_,e,rfl⟩ LC (Lj _ _)
  (AutoSeq1.list_extend_list_list_0 l c.toArray n b a.toArray w d (by rw[Nj];exact Nl (Nr B.symm) z) (Nl f (Nv _ _))) ⟨e,D,?_⟩
 refine⟨.non,_,I.lset (its':=c++a) j e (by simp) (r.append t) ?_,rfl,q⟩;rw[Ny];exact y
noncomputable def QmN:V->List V->Hp->VK->Prop:=fun x b H Q=>∃l a y,x=.ref l/\b=[]/\H l=some (.lst a)/\a[a.length-1]?=some y/\Q y (upd H l (.lst a.dropLast))
theorem Qg8:MtM X "list.pop" QmN:=by
 intro d s t H x A v B Q I j m h;obtain⟨l,w,y,rfl,rfl,i,p,q⟩:=h;cases j;have c:=m.zero;subst c;obtain⟨z,a,n,r,g,e⟩:=I.lstM i;obtain⟨u,hu,o⟩:=r.get p
 have b:a.toArray[a.toArray.size-1]?=some u:=by
  show a.toArray[a.length-1]?=some u;rw[<-N7,<-g];exact hu
 refine Fy DQ ⟨_,e,rfl⟩ F.entry_list_pop (F.args_list_pop_1 _) (MeetsSeq.list_pop_last l a.toArray n u b (by rw[Nj];exact Nl (Nr g.symm) z)) ⟨e,?_⟩;refine⟨y,_,I.lset (its':=a.dropLast) i e ?_ r.dropLast ?_,o,q⟩
 ·show a.toArray.eraseIdxIfInBounds (a.toArray.size-1)=a.dropLast.toArray;rw[Nj,List.eraseIdxIfInBounds_toArray,Qad]
 ·rw[Lk];exact Nl (Da _ _) z
noncomputable def Qni:R2:=fun x y H Q=>∃l b c a,x=.ref l/\y=.ref b/\H l=some (.lst c)/\H b=some (.lst a)/\c.length+a.length<=sizeLine/\∀p,H p=none->Q (.ref p) (upd H p (.lst (c++a)))
theorem Qix:OpR X (binaryOp .Add) Qni:=by
 intro d s A H x y v u Q I g f h;obtain⟨l,b,D,B,rfl,rfl,o,p,j,q⟩:=h;cases g;cases f;obtain⟨z,c,n,r,J,e⟩:=I.lstM o;obtain⟨C,a,G,i,m,w⟩:=I.lstM p;refine PySem.P.add_list e w ?_ (by rw[Nj,Nj];omega);have t:c.toArray++a.toArray=(c++a).toArray:=by simp
 rw[t];exact⟨.ref _,_,I.lnew (t':=s.toks) (r.append i) (by rw[Ny];exact j),rfl,q _ I.fresh⟩
end
end L2
namespace Att
open PySem PySem.W PySem.Calls PyProof.Rows
theorem Km{P:Params}{h:Heap}:∀(ns:List Int) (c:List Value),WellAll P h c (ns.map WData.int)->IntsAre c ns:=by
 intro ns
 induction ns with
 |nil=>
  intro c w;rw[Il]at w;cases w;exact .nil
 | cons n ns d=>
  intro c w;rw[NA]at w;cases w with
  |cons a b=>
   cases a;exact .cons _ _ (d _ b)
theorem QbA{l:OpenLaw}{n:Nat}(v:l.most=some n){P:Params}{h:Heap}{args:List WData}{vals:List Value}
  (b:l.row.toRowW.claim.pre args=true) (i:WellAll P h vals args) :
  ∃a m ns,vals=[Value.ref a]/\args=[WData.list (ns.map WData.int)]/\h.get? a=some { cls:=.type "list",data:=.seq m.toArray }/\IntsAre m ns/\ns.length<=n:=by
 have j:WShape.hasAll [] args [.list .int]=true:=(pre_splitW b).1;have o:l.pre.holds [] { args:=args }=true:=(pre_splitW b).2;obtain⟨d,r,rfl,y,x⟩:=hasAllW_cons j;obtain rfl:=hasAllW_nil x;obtain⟨z,rfl,w⟩:=hasW_list y;obtain⟨ns,rfl⟩:=items_int w
 have c:ns.length<=n:=by
  unfold OpenLaw.pre at o
  have g:(WTm.not (.lt (.lit (.int (n:Int))) (.len (.arg 0)))).holds [] { args:=[.list (ns.map .int)] }=true:=by
   have g:=(holds_andW o).1;rw[v]at g;exact g
  have f:=condW_of g (w_not (w_lt w_lit (w_len_list (w_arg rfl))));rw[NC]at f;refine Nat.le_of_not_lt fun q=>?_;have t:(n:Int)<((ns.length:Nat):Int):=by omega
  first
   |(rw[decide_eq_true t]at f;exact absurd f (by decide))
   |(simp at f;omega)
 cases i with
 |cons s p=>
  cases p;cases s with
  |list u e=>exact⟨_,_,ns,rfl,rfl,u,Km ns _ e,c⟩
theorem Qbb(l:OpenLaw)(args:List WData):l.row.toRowW.claim.post args (.bool true) args=true:=
 postW_of (r:=l.row.toRowW) (X:=(true==true))
  (show WShape.has [] (.bool true) .bool=true by first|rfl|decide|simp[WShape.has,WShape.arms,WShape.armsAll])
  (show(WTm.eq .res (.lit (.bool true))).value [] { args:=args,res:=some (.bool true),after:=args }=some (.bool (true==true))from w_eq_bool (w_res rfl) w_lit) rfl
theorem attach_call{l:OpenLaw}{n:Nat}{q:Program}{e:List Str}{E:(Str->Option Value)->Heap->Prop}{D:World->Heap->Prop}{d:DefRec}
  (L:l.most=some n) (z:d.params.defaults=[])
  (call:∀(w:World) (c b:Shared) (u v:Str->Option Value) (s:Addr) (o:Obj) (pm cd h:Value) (a:Addr) (i:List Value) (ns:List Int),
   Ground q e [] E w c u v b.heap->D w b.heap ->
   b.heap.get? s=some o->o.data=.func (docDef d.name d.params d.body d.scope pm cd h)->b.heap.CodeRec cd d.name->u d.name=some (.ref s) ->
   b.heap.get? a=some { cls:=.type "list",data:=.seq i.toArray }->IntsAre i ns->ns.length<=n->b.gens=#[] ->
   codeAny (model l.prog w) callerA (.call (.ref s) ⟨[.ref a],[]⟩) (fun r t=>r=.ok (.ret (.bool true))/\OldK b.heap t.heap/\t.os=b.os/\AllBare t.gens) b) :
  WalkO q e E D l.row.toRowW d [] (fun f i=>Ov f i):=by
 intro w c b u v G Y s o pm cd h S kV J hd A C y O args vals as j B H x N;obtain rfl:S=.none:=Dflts.none C z;obtain rfl:kV=.none:=Dflts.noKw C;obtain⟨a,i,ns,rfl,rfl,m,g,p⟩:=QbA L j x;refine enter_call (D0 (call w c b u v s o pm cd h a i ns G Y J (fd_plain hd) A y m g p O) fun r t I=>?_);obtain⟨rfl,R,Q,P⟩:=I;exact⟨.inl ⟨.bool true,.bool true,[],rfl,fun _=>rfl,.bool true,Qbb l _,fun _=>⟨List.Pairwise.nil,fun _ M=>(nomatch M)⟩⟩,R,Q,P⟩
end Att
namespace L2
theorem WC:∀{a:List Value} {ns:List Int},IntsAre a ns->Vals (ns.map V.int) a
 |_,_,.nil=>.nil
 |_,_,.cons n t h=>.cons ⟨t,rfl⟩ (WC h)
def QjC(H:Hp):Prop:=∀b,H b=none\/∃o a,H b=some (.frz o (.lst a))
theorem QdL{P:Program}{w:World}{K:Nd}{y N:Str->Option Value}{CX:CXT}{k:Nat}{T a:Addr}{fd:FuncData}{x:Str}{sp:Sp}{c:Shared}{l:List Value}{ns:List Int}
  (KX:K.In c.heap) (D:c.heap.Ns mainGlobals y) (g:c.heap.Ns builtinsNs N) (R:∀x:Str,x≠"__name__"->N x=bootBuiltins x) (E:c.heap.NoLimit) (hg:c.gens=#[])
  (L:c.heap.get? a=some { cls:=.type "list",data:=.seq l.toArray }) (hi:IntsAre l ns) (Z:ns.length<=sizeLine) (hr:Room k callerA)
  (F:∀base:Heap,K.In base->base.Ns mainGlobals y->FnOk P w K y base CX k T fd [x] sp) (p:∀(s:Shared) (u:Value),BindsTo s fd ⟨[u],[]⟩ [(x,u)])
  (O:∀H:Hp,QjC H->SqL K H a (ns.map V.int)->sp [.ref a] H (fun v _=>v=.bl true) fun _ _ _=>False)
  (S:∀H e i,CX [] H c (fun _ _ _=>False) e i->False) :
  codeAny (model P w) callerA (.call (.ref T) ⟨[.ref a],[]⟩) (fun r i=>r=.ok (.ret (.bool true))/\OldK c.heap i.heap/\i.os=c.os/\AllBare i.gens) c:=by
 have Y:=WC hi;have A:=hi.length
 have core:∀H:Hp,QjC H->SqL K H a (ns.map V.int)->HOk P w H c.heap->(∀b,H b≠none->b=a)->(H a≠none->K.lookup a=none) ->
   codeAny (model P w) callerA (.call (.ref T) ⟨[.ref a],[]⟩) (fun r i=>r=.ok (.ret (.bool true))/\OldK c.heap i.heap/\i.os=c.os/\AllBare i.gens) c:=by
  intro H hO hS C hA hK;have f:∀{b:Addr} {o:Obj},c.heap.get? b=some o->H b=none->(Qc1 c.heap H).get? b=some o:=fun e n=>Qda e n
  have M:∀{b:Addr} {o:Obj} {I:Array DictEntry} {J:Nat},c.heap.get? b=some o->o.data=.dict I J->H b=none:=fun {b o I J} e d=>by
   cases q:H b with
   |none=>rfl
   |some u=>
    have U:b=a:=hA b (by rw[q];simp);subst U;rw[L]at e;cases e;have d':Data.seq l.toArray _=Data.dict I J:=d;cases d'
  have j:∀{b:Addr} {m:Str->Option Value},c.heap.Ns b m->(Qc1 c.heap H).Ns b m:=fun {b m} ⟨o,I,J,e,d,r⟩=>⟨o,I,J,f e (M e d),d,r⟩
  have G:K.In (Qc1 c.heap H):=fun b o e=>f (KX b o e) (by
   cases q:H b with
   |none=>rfl
   |some u=>
    have U:b=a:=hA b (by rw[q];simp);subst U
    rw[hK (by rw[q];simp)]at e;cases e)
  have hM:Mod K y (Qc1 c.heap H):=⟨G,j D,⟨N,j g,R⟩,let⟨mc,h1,h2⟩:=E;⟨mc,j h1,h2⟩⟩
  have e0:Env0 P w K y (Qc1 c.heap H) callerA [] c H:=⟨rfl,hM,fun b o e=>QeG e,Nr (Qbc _ _),trivial,fun b g=>absurd (show b∈([]:List Addr)from g) (by simp),C,.of_eq hg⟩
  refine D0 ((F _ G (j D)).run callerA [] c H ⟨[.ref a],[]⟩ [.ref a] [.ref a] _ _ hr e0 (p c (.ref a)) (.cons rfl .nil) (O H hO hS)) fun r i h=>?_;cases r with
  |error e=>exact(S H e i h).elim
  | ok fl=>
   cases fl with
   |next=>exact False.elim h
   |brk=>exact False.elim h
   |cont=>exact False.elim h
   | ret u=>
    obtain⟨v,H',os,bare,un,B,r',q⟩:=h;have q':v=.bl true:=q;subst q';obtain rfl:u=Value.bool true:=r';refine⟨rfl,OldK.of_keep fun b o e=>?_,os,bare⟩;cases q:H b with
    |none=>exact un.keep b o e q (by intro z;exact absurd (show b∈([]:List Addr)from z) (by simp)) (by simp)
    |some u=>
     rcases hO b with z|⟨ob,xs,z⟩
     ·rw[q]at z;cases z
     ·have z2:=un.frzs b ob _ z;obtain⟨e1,_⟩:=C b _ z;obtain⟨e2,_⟩:=B b _ z2;rw[e]at e1;cases e1;exact e2
 cases Q:K.lookup a with
 |some o=>
  have e:=KX a o Q;rw[L]at e;cases e;refine core (fun _=>none) (fun _=>.inl rfl) (.inr ⟨_,l.toArray,_,Q,rfl,rfl,rfl,by rw[Nj,A];exact Z,by simpa using Y⟩) (fun b u z=>by have t:(none:Option HO)=some u:=z;cases t) (fun b z=>absurd rfl z) fun z=>absurd rfl z
 | none=>
  refine core (fun b=>if b=a then some (.frz { cls:=.type "list",data:=.seq l.toArray } (.lst (ns.map V.int)))else none) (fun b=>?_) (.inl (.inr ⟨{ cls:=.type "list",data:=.seq l.toArray },if_pos rfl⟩)) (fun b u z=>?_) (fun b z=>?_) fun _=>Q
  ·by_cases g:b=a
   ·exact .inr ⟨_,_,if_pos g⟩
   ·exact .inl (if_neg g)
  ·by_cases g:b=a
   ·have t:=(if_pos g).symm.trans z;cases t;subst g;exact⟨L,by rw[NC];exact Z,l,_,Y,L⟩
   ·have t:=(if_neg g).symm.trans z;cases t
  ·by_cases g:b=a
   ·exact g
   ·exact absurd (if_neg g) z
noncomputable abbrev KOf{K:Nd}{h:Heap}(_:K.In h):Nd:=K
theorem QfS{l:PySem.W.OpenLaw}{n k:Nat}{q:Program}{i:List Str}{XP:(Str->Option Value)->Heap->Prop}{J:World->Heap->Prop}{d:DefRec}{K:Params->Nd}{CX:World->CXT}{sp:World->Sp}{x:Str}
  (M:l.most=some n) (A:n<=sizeLine) (C:d.params.defaults=[]) (hr:Room k callerA)
  (Q:∀(w:World) (h:Heap),J w h->(K w.params).In h)
  (F:∀(w:World) (m:Str->Option Value) (t:Addr) (h:Heap),(K w.params).In h->h.Ns mainGlobals m->m d.name=some (.ref t) ->
   ∃fd:FuncData,(∀(s:Shared) (u:Value),BindsTo s fd ⟨[u],[]⟩ [(x,u)]) /\
    ∀base:Heap,(K w.params).In base->base.Ns mainGlobals m->FnOk l.prog w (K w.params) m base (CX w) k t fd [x] (sp w))
  (z:∀(w:World) (H:Hp) (a:Addr) (ns:List Int),ns.length<=n->QjC H->SqL (K w.params) H a (ns.map V.int)->sp w [.ref a] H (fun v _=>v=.bl true) fun _ _ _=>False)
  (D:∀(w:World) (H:Hp) (s:Shared) (e:Value) (y:Shared),CX w [] H s (fun _ _ _=>False) e y->False) :
  OK q i XP J l.row.toRowW d [] (fun f E=>Ov f E):=by
 refine Att.attach_call M C fun w I p m mb t o pm cd Z a E ns G Y ho hd O B r j c N=>?_;have L:=Q w _ Y;obtain⟨fd,P,U⟩:=F w m t _ L G.T.g B;exact QdL L G.T.g G.T.b G.T.builtins G.T.nolimit N r j (Nl c A) hr U P (fun H S R=>z w H a ns c S R) fun H e y=>D w H p e y
noncomputable def Xe(s:Stmt):Arguments:=match s with
 |.FunctionDef _ a _ _ _ _ _ _ _ _=>a
 |_=>{ posonlyargs:=[],args:=[],vararg:=none,kwonlyargs:=[],kw_defaults:=[],kwarg:=none,defaults:=[] }
noncomputable def JN(s:Stmt):List Stmt:=match s with
 |.FunctionDef _ _ b _ _ _ _ _ _ _=>b
 |_=>[]
noncomputable def Qe(s:Stmt):Scope:=match s with
 |.FunctionDef _ _ _ _ _ _ a _ _ _=>a
 |_=>{ kind:=.function,names:=[],isGenerator:=false,isCoroutine:=false }
noncomputable abbrev CX0:CXT:=fun _ _ _ _ _ _=>False
noncomputable abbrev E0:XK:=fun _ _ _=>False
theorem QjP{X:Cx}:Gz CX0 X E0:=fun _ _ _ _ _ _ _ h=>h.elim
structure Fun(K:Nd)(x qual:Str)(st:Stmt)(f:Addr)(fd:FuncData):Prop where
 ex:∃(oc:Value) (od:Option Addr) (kV doc pm:Value) (an:Option Addr) (cdv ct:Value) (osl:Array (Option Value)),
  fd=Dc x qual (Xe st) (JN st) (Qe st) .none kV doc pm an cdv ct/\K.lookup f=some ⟨oc,od,.func fd,osl⟩/\FI K cdv qual=true
 kp:DF K (.ref f)=true
section
variable{P:Program}{w:World}{K:Nd}{mg:Str->Option Value}{base:Heap}
theorem Fun.ok{x b:Str}{st:Stmt}{f:Addr}{fd:FuncData}{N ps:List Str}{k:Nat}{sp:Sp}(F:Fun K x b st f fd)(S:FnScope N ps (Qe st))(len:∀d H Q E,sp d H Q E->d.length=ps.length)
  (e:∀(c:Value) (A:Around) (a:List Env) (s:Shared) (H:Hp) (d:List V) (Q:VK) (E:XK),Room k (A.deeper (envOfC b (Qe st) s.heap.objs.size f c))->sp d H Q E ->
   ∃t,PSs (Qef CX0 P w K mg base N b (Qe st) f c A a s H E).nox (JN st) t/\t { nx:=fun _ m=>Q .non m,rt:=Q } (start N d) H):FnOk P w K mg base CX0 (k+1) f fd ps sp:=by
 obtain⟨o,n,kV,l,pm,p,c,ct,j,rfl,lk,i⟩:=F.ex;refine QjK lk i S len fun A a s H d Q E hr g=>?_;obtain⟨t,h,q⟩:=e c A a s H d Q E hr g;exact⟨t,h.nox,q⟩
theorem Fun.binds{x a:Str}{st:Stmt}{f:Addr}{fd:FuncData}{ps:List Str}(F:Fun K x a st f fd)
  (h:∀(kV b pm:Value) (e:Option Addr) (c ct:Value) (d:List Value),d.length=ps.length->bindArgs (Dc x a (Xe st) (JN st) (Qe st) .none kV b pm e c ct) ⟨d,[]⟩=pure (ps.zip d)):Binds K fd ps []:=by
 obtain⟨l,j,kV,b,pm,e,c,ct,g,rfl,lk,i⟩:=F.ex;exact .all (h kV b pm e c ct)
theorem Qep{x a:Str}{st:Stmt}{f:Addr}{i:Value}{h g:Option Addr}{e:Array (Option Value)}{kV d pm b ct:Value}(l:K.lookup f=some ⟨i,h,.func (Dc x a (Xe st) (JN st) (Qe st) .none kV d pm g b ct),e⟩)
  (c:FI K b a=true) (k:DF K (.ref f)=true):Fun K x a st f (Dc x a (Xe st) (JN st) (Qe st) .none kV d pm g b ct):=⟨⟨i,h,kV,d,pm,g,b,ct,e,rfl,l,c⟩,k⟩
end
theorem QeC{A B:Prop}(h:B):if false=true then A else B:=by
 rw[if_neg NZ];exact h
theorem Qew{A B:Prop}(h:A):if true=true then A else B:=by
 rw[if_pos rfl];exact h
section
variable{κ:Type}[DecidableEq κ]
noncomputable def Ge(kvs:List (κ×V))(k:κ):Option V:=(kvs.find? fun a=>decide (a.1=k)).map (·.2)
noncomputable def Qdi(kvs:List (κ×V))(k:κ)(v:V):List (κ×V):=
 if(kvs.any fun a=>decide (a.1=k))=true then kvs.map (fun a=>if a.1=k then(a.1,v)else a)else kvs++[(k,v)]
theorem Qdb{p:κ×V}{r:List (κ×V)}{k:κ}(e:p.1=k):Ge (p::r) k=some p.2:=by simp[Ge,Ep,e]
theorem Qds{p:κ×V}{r:List (κ×V)}{k:κ}(e:¬p.1=k):Ge (p::r) k=Ge r k:=by simp[Ge,Ep,e]
theorem Ut(kvs:List (κ×V))(k:κ)(v:V):(Qdi kvs k v).length<=kvs.length+1:=by
 unfold Qdi;split
 ·rw[NC];exact Nv _ _
 ·rw[Ny,NR,Dh];lia
theorem RelO.getD{o:Option V}{u:Option Value}{d:V}{d':Value}(r:RelO o u)(a:RelV d d'):RelV (o.getD d) (u.getD d'):=by
 cases o with
 |none=>cases u with
  |none=>exact a
  |some _=>exact(show False from r).elim
 |some _=>cases u with
  |none=>exact(show False from r).elim
  |some _=>exact r
theorem KV.val{kvs:List (κ×V)}{d:List (κ×Value)}(r:KV kvs d)(k:κ):RelO (Ge kvs k) (valueAt d k):=by
 unfold KV at r
 induction r with
 |nil=>exact True.intro
 | @cons p q ps a h t g=>
  obtain⟨f,i⟩:=h
  by_cases e:p.1=k
  ·have c:q.1=k:=f.symm.trans e;have b:valueAt (q::a) k=some q.2:=by simp[valueAt,Ep,c]
   rw[Qdb e,b];exact i
  ·have c:¬q.1=k:=fun z=>e (f.trans z);have b:valueAt (q::a) k=valueAt a k:=by simp[valueAt,Ep,c]
   rw[Qds e,b];exact g
theorem KV.any{kvs:List (κ×V)}{b:List (κ×Value)}(r:KV kvs b)(k:κ):(kvs.any fun a=>decide (a.1=k))=b.any fun a=>decide (a.1=k):=by
 unfold KV at r
 induction r with
 |nil=>rfl
 |cons h t c=>rw[ES,ES,c,h.1]
theorem KV.repl{kvs:List (κ×V)}{c:List (κ×Value)}(r:KV kvs c)(k:κ){y:V}{u:Value}(d:RelV y u) :
  KV (kvs.map fun a=>if a.1=k then(a.1,y)else a) (c.map fun a=>if a.1=k then(a.1,u)else a):=by
 unfold KV at r ⊢
 induction r with
 |nil=>exact .nil
 |@cons p q ps i h t f=>
  rw[NA,NA];refine .cons ?_ f;obtain⟨b,g⟩:=h
  by_cases e:p.1=k
  ·rw[if_pos e,if_pos (b.symm.trans e)];exact⟨b,d⟩
  ·rw[if_neg e,if_neg (fun z=>e (b.trans z))];exact⟨b,g⟩
theorem KV.put{kvs:List (κ×V)}{a:List (κ×Value)}(r:KV kvs a)(k:κ){y:V}{u:Value}(b:RelV y u):KV (Qdi kvs k y) (stored a k u):=by
 unfold Qdi stored;rw[r.any k]
 by_cases e:(a.any fun c=>decide (c.1=k))=true
 ·rw[if_pos e,if_pos e];exact r.repl k b
 ·rw[if_neg e,if_neg e];exact OU r ⟨rfl,b⟩
theorem KV.length{kvs:List (κ×V)}{a:List (κ×Value)}(r:KV kvs a):kvs.length=a.length:=EQ r
end
theorem Qgd{P:Program}{w:World}{k:Key}{u:Value}(r:RelV (kV k) u):(Vb P w).is k u=true:=by
 cases k with
 |inl i=>obtain⟨t,e⟩:=(show∃t,u=Value.int i t from r);subst e;exact U1 P w i t
 |inr x=>obtain⟨t,e⟩:=(show∃t,u=Value.str x t from r);subst e;exact UE P w x t
section
variable{P:Program}{w:World}{H:Hp}{h:Heap}{a:Addr}
theorem QkF{u:HO}(ok:HOk P w H h)(e:Rd H a u):ObjOk P w H h a u:=e.ok ok
theorem Qdk{kvs:List (Key×V)}(ok:HOk P w H h)(e:Rd H a (.dK kvs)):kvs.length<=sizeLine/\(a==sysModules)=false/\∃b,KV kvs b/\h.DictOf (Vb P w) a b:=
 show ObjOk P w H h a (.dK kvs)from QkF ok e
theorem Qkc{kvs:List (Key×V)}(ok:HOk P w H h)(e:H a=some (.dK kvs)):kvs.length<=sizeLine/\(a==sysModules)=false/\∃b,KV kvs b/\h.DictOf (Vb P w) a b:=Qdk ok (.inl e)
end
def DGet(H:Hp)(a:Addr)(y:V)(r:Option V):Prop:=∃kvs k,Rd H a (.dK kvs)/\y=kV k/\r=Ge kvs k
def DPut(H:Hp)(a:Addr)(y v:V)(b:Hp):Prop:=∃kvs k,H a=some (.dK kvs)/\y=kV k/\kvs.length<sizeLine/\b=upd H a (.dK (Qdi kvs k v))
theorem DGet.k{H:Hp}{a:Addr}{kvs:List (Key×V)}{k:Key}(e:H a=some (.dK kvs)):DGet H a (kV k) (Ge kvs k):=⟨kvs,k,.inl e,rfl,rfl⟩
theorem DPut.k{H:Hp}{a:Addr}{kvs:List (Key×V)}{k:Key}{v:V}(e:H a=some (.dK kvs))(b:kvs.length<sizeLine):DPut H a (kV k) v (upd H a (.dK (Qdi kvs k v))):=⟨kvs,k,e,rfl,b,rfl⟩
section
variable{X:Cx}{pins:List (Addr×Obj)}{σ:St}{H:Hp}{s:Shared}{a:Addr}{y v:V}{u r:Value}{o:Option V}{A:Around}{E:Value->Shared->Prop}
theorem Inv.big(I:Inv X pins σ H s):sysModules<s.heap.objs.size:=by
 have h:mainGlobals<s.heap.objs.size:=(I.mod.glob.keeps I.bk).lt;exact Ew (by decide) h
theorem QbK{Q:Value->Shared->Prop}(hu:A.units+1<cLine)(I:Inv X pins σ H s)(g:DGet H a y (some v))(i:RelV y u)(h:∀b d,Inv X pins σ H d->RelV v b->Q b d) :
  wpAny (model X.prog X.w) A (getItem (.ref a) u) Q E s:=by
 obtain⟨kvs,k,e,j,l⟩:=g;subst j;obtain⟨z,hd,f,rel,m⟩:=Qdk I.hok e;obtain⟨b,hw,c⟩:=RelO.some_of (v:=v) (o:=valueAt f k) (by rw[l];exact rel.val k);exact wpAny_getItem_of (Qgd i) m.mapOf hw (h b _ (I.tok _) c)
theorem QeY{h':Heap}{t':Nat}{ob:HO}(I:Inv X pins σ H s)(c:Mut (H a))(d:Heap.SameBut a s.heap h')(f:∃q,h'.get? a=some q)(new:ObjOk X.prog X.w (upd H a ob) h' a ob) :
  Inv X pins σ (upd H a ob) { s with heap:=h',toks:=t' }:=
 I.write (x:=a) (e:=a) c (.inl rfl) (fun b q g z=>(d.2 b g).trans z) f new
theorem Qia{P:Program}{w:World}{d:Hp}{h':Heap}{kvs:List (Key×V)}{b:List (Key×Value)}(z:kvs.length<=sizeLine)(hd:(a==sysModules)=false)(rel:KV kvs b)(c:h'.DictOf (Vb P w) a b) :
  ObjOk P w d h' a (.dK kvs):=⟨z,hd,b,rel,c⟩
theorem Qbi{d:Hp}{Q:Unit->Shared->Prop}(hu:A.units+1<cLine)(I:Inv X pins σ H s)(g:DPut H a y v d)(i:RelV y u)(j:RelV v r)(h:∀c,Inv X pins σ d c->Q () c) :
  wpAny (model X.prog X.w) A (setItem (.ref a) u r) Q E s:=by
 obtain⟨kvs,k,e,D,l,G⟩:=g;subst D G;obtain⟨z,hd,f,rel,J⟩:=Qkc I.hok e;have m:f.length<=sizeLine:=by rw[<-rel.length];exact z
 have x:(Qdi kvs k v).length<=sizeLine:=by have:=Ut kvs k v;lia
 refine wpAny_setItem_pairs (hsz:=m) (Qgd i) J fun C b p=>h _ ?_;have B:∃q,C.get? a=some q:=let⟨q,_,_,t,_⟩:=b;⟨q,t⟩
 exact QeY I (by rw[e];exact True.intro) p B (Qia x hd (rel.put k j) b)
end
def Qlb(i:Expr):Prop:=∀a b,subscripted i false a b=operate [a,b] (getItem a b)
theorem QfW{prog:Program}{w:World}{A:Around}{E:Value->Shared->Prop}{s:Shared}{env:Env}{value slice:Expr}{pos:Pos}{T id:String}{Q:Value->Shared->Prop}
  (l:typeLookup (.type T) "__getitem__"=pure (some (.builtin id))) (j:Qlb slice)
  (h:wpAny (model prog w) A (eval value env) (fun o d=>wpAny (model prog w) A (eval slice env) (fun i a=>a.TypeIs o T/\wpAny (model prog w) A (getItem o i) Q E a) E d) E s) :
  wpAny (model prog w) A (eval (.Subscript value slice pos) env) Q E s:=by
 refine Ot (N0 h (fun o d f=>N0 f (fun i a b=>?_) fun _ _ x=>x) fun _ _ x=>x);obtain⟨g,b⟩:=b;unfold subscriptTail;refine Na ?_;rw[getitemInPython_of_ne g.not_modules];refine Na (De g l ?_)
 have fin:wpAny (model prog w) A (subscripted slice false o i) (fun r c=>wpAny (model prog w) A (letTemporaryGo value o r>>=fun _=>pure r) Q E c) E a:=by
  rw[j o i];exact wpAny_operating (N0 b (fun r c e=>Na (wpAny_letTemporaryGo (Ng e))) fun _ _ x=>x)
 first
  |exact Ng (Na fin)
  |exact Na (Ng (Na fin))
  |exact Na fin
theorem Uu{X:Cx}{b:List (Addr×Obj)}{σ:St}{H:Hp}{s:Shared}{a:Addr}{y:V}{o:Option V}(I:Inv X b σ H s)(g:DGet H a y o):s.TypeIs (.ref a) "dict":=by
 obtain⟨kvs,k,e,_,_⟩:=g;obtain⟨_,_,d,_,c⟩:=Qdk I.hok e;exact c.typeIs
noncomputable def Qjt(d ty:TE):TE:=fun b H Q=>d b H fun x e=>ty b e fun y c=>∃a v,x=.ref a/\DGet c a y (some v)/\Q v c
noncomputable def Qid(e ty d:TE):TS:=fun D b H=>d b H fun v h=>e b h fun x g=>ty b g fun y f=>∃a c,x=.ref a/\DPut f a y v c/\D.nx b c
section
variable{X:Cx}{o i e value:Expr}{pos pos' tpos:Pos}{td ty tv:TE}
theorem QeL(hu:X.A.units+1<cLine)(q:PE X o td)(r:PE X i ty)(p:Qlb i):PE X (.Subscript o i pos) (Qjt td ty):=by
 intro b s d H Q I h;refine QfW F9.lookup p (thn (q b s d H _ I h) fun u f ⟨x,w,I1,l,n⟩=>thn (r b f d w _ I1 n) fun D C ⟨y,t,I2,j,a,v,ex,g,m⟩=>?_);subst ex;obtain rfl:u=Value.ref a:=l;exact⟨Uu I2 g,QbK hu I2 g j fun z B I3 c=>⟨v,t,I3,c,m⟩⟩
theorem Qgh(hu:X.A.units+1<cLine)(z:PE X o td)(B:PE X i ty)(t:PE X value tv)(w:swapsWith value (some (.Subscript o i pos')) pos.line X.env=pure false) :
  PS X (.Assign [.Subscript o i pos'] value pos) (Qid td ty tv):=by
 intro b s c H D I h;refine wpAny_Assign_Subscript (thn (t b s c H _ I h) fun r f ⟨v,G,I1,m,q⟩=>thn (z b f c G _ I1 q) fun u d ⟨x,E,I2,l,p⟩=>thn (B b d c E _ I2 p) fun M L ⟨y,N,I3,j,a,C,ex,g,n⟩=>?_) w;subst ex;obtain rfl:u=Value.ref a:=l;exact Qbi hu I3 g j m fun J I4=>⟨c,C,I4,n⟩
end
theorem QdH{P:Program}{w:World}{H:Hp}(h:Heap)(a:sysModules<h.objs.size):ObjOk P w H (h.push { cls:=.type "dict",data:=.dict #[] }) h.objs.size (.dK []):=
 ⟨NY _,beq_eq_false_iff_ne.mpr (E2 (NG a)),[],.nil,Heap.DictOf.new h⟩
noncomputable def Qhd:TE:=fun _ H Q=>∀p,H p=none->Q (.ref p) (upd H p (.dK []))
section
variable{X:Cx}{pos:Pos}
theorem Qd2:PE X (.Dict [] [] pos) Qhd:=fun b s c H Q I h=>
 wpAny_Dict_empty ⟨.ref s.heap.objs.size,_,I.laid (a:=s.heap.objs.size) (o:=.dK []) (t':=s.toks) (fun _ _ q=>Nk _ q) (Nx _) (QdH s.heap I.big),rfl,h _ (I.hok.fresh (Nx _))⟩
end
section
variable{X:Cx}{pins:List (Addr×Obj)}{σ:St}{H:Hp}{s:Shared}{a:Addr}{y d:V}{u r:Value}{o:Option V}{A:Around}{E:Value->Shared->Prop}
theorem QgI{Q:Value->Shared->Prop}(hu:A.units+1<cLine)(I:Inv X pins σ H s)(g:DGet H a y o)(i:RelV y u)(j:RelV d r)(h:∀b c,Inv X pins σ H c->RelV (o.getD d) b->Q b c) :
  wpAny (model X.prog X.w) A (call (.builtin "dict.get") [.ref a,u,r]) Q E s:=by
 obtain⟨kvs,k,e,m,l⟩:=g;subst m;obtain⟨z,hd,n,rel,f⟩:=Qdk I.hok e;refine call_meetsIn IY f.typeIs PySem.F.entry_dict_get (PySem.F.args_dict_get_3 _ _ _) (meets_dict_get_default (Vb X.prog X.w) a (Qgd i) hd r) ⟨_,f.mapOf,h _ _ (I.tok _) ?_⟩;rw[l];exact(rel.val k).getD j
end
end L2
namespace Mi
open L2
inductive W where
 |non|bl (b:Bool)|int (i:Int)|str (x:Str)|tup (ws:List W)|lst (ws:List W)|frz (ws:List W)|ref (n:Nat)|ty (n:String)
inductive MO where
 |lst (ws:List W)
 |dic (kvs:List (Key×W))
 |dct (kvs:List (W×W))
 |ins (C:Addr) (fs:List (Str×W))
noncomputable abbrev MH:=List MO
noncomputable abbrev MSt:=List (Option W)
structure Rn where
 ρ:Nat->Addr
 N:Nat
 F:Hp
 G:Hp
structure Ext(R R':Rn):Prop where
 n:R.N<=R'.N
 ρ:∀n,n<R.N->R'.ρ n=R.ρ n
 f:∀a o,R.F a=some o->R'.F a=some o
 g:R'.G=R.G
theorem Ext.refl(R:Rn):Ext R R:=⟨Nx _,fun _ _=>rfl,fun _ _ h=>h,rfl⟩
theorem Ext.trans{R R1 R2:Rn}(a:Ext R R1)(b:Ext R1 R2):Ext R R2:=
 ⟨Nl a.n b.n,fun n h=>(b.ρ n (Nn h a.n)).trans (a.ρ n h),fun x o h=>b.f x o (a.f x o h),b.g.trans a.g⟩
theorem QS{K:Nd}(e:∀a o,F a=some o->b a=some o)(h:SqT K F a xs):SqT K b a xs:=by
 rcases h with(h|⟨o,h⟩)|h
 ·exact .inl (.inl (e _ _ h))
 ·exact .inl (.inr ⟨o,e _ _ h⟩)
 ·exact .inr h
theorem JG{K:Nd}(e:∀a o,F a=some o->b a=some o)(h:SqL K F a xs):SqL K b a xs:=by
 rcases h with(h|⟨o,h⟩)|h
 ·exact .inl (.inl (e _ _ h))
 ·exact .inl (.inr ⟨o,e _ _ h⟩)
 ·exact .inr h
section
variable(K:Nd)
mutual
noncomputable def Rw(R:Rn):W->V->Prop
 |.non,v=>v=.non
 |.bl b,v=>v=.bl b
 |.int i,v=>v=.int i
 |.str x,v=>v=.str x
 |.tup ws,v=>∃a xs,v=.ref a/\SqT K R.F a xs/\Rws R ws xs
 |.lst ws,v=>∃a xs,v=.ref a/\R.F a=some (.lst xs)/\Rws R ws xs
 |.frz ws,v=>∃a xs,v=.ref a/\SqL K R.F a xs/\Rws R ws xs
 |.ref n,v=>n<R.N/\v=.ref (R.ρ n)
 |.ty n,v=>v=.ty n
noncomputable def Rws(R:Rn):List W->List V->Prop
 |[],b=>b=[]
 |w::ws,b=>∃v a,b=v::a/\Rw R w v/\Rws R ws a
end
end
section
variable{K:Nd}{R R':Rn}
mutual
theorem Rw.mono(e:Ext R R'):∀(w:W) (v:V),Rw K R w v->Rw K R' w v
 |.non,_,h=>by unfold Rw at h ⊢;exact h
 |.bl _,_,h=>by unfold Rw at h ⊢;exact h
 |.int _,_,h=>by unfold Rw at h ⊢;exact h
 |.str _,_,h=>by unfold Rw at h ⊢;exact h
 |.ty _,_,h=>by unfold Rw at h ⊢;exact h
 |.tup ws,_,h=>by
  unfold Rw at h ⊢;obtain⟨a,xs,b,c,d⟩:=h;exact⟨a,xs,b,QS e.f c,Rws.mono e ws xs d⟩
 |.lst ws,_,h=>by
  unfold Rw at h ⊢;obtain⟨a,xs,b,c,d⟩:=h;exact⟨a,xs,b,e.f a _ c,Rws.mono e ws xs d⟩
 |.frz ws,_,h=>by
  unfold Rw at h ⊢;obtain⟨a,xs,b,c,d⟩:=h;exact⟨a,xs,b,JG e.f c,Rws.mono e ws xs d⟩
 |.ref n,_,h=>by
  unfold Rw at h ⊢;obtain⟨b,c⟩:=h;exact⟨Nn b e.n,by rw[e.ρ n b];exact c⟩
theorem Rws.mono(e:Ext R R'):∀(ws:List W) (b:List V),Rws K R ws b->Rws K R' ws b
 |[],_,h=>by unfold Rws at h ⊢;exact h
 |w::ws,_,h=>by
  unfold Rws at h ⊢;obtain⟨v,a,f,d,c⟩:=h;exact⟨v,a,f,Rw.mono e w v d,Rws.mono e ws a c⟩
end
theorem Rws.nil_iff:Rws K R [] a↔a=[]:=by unfold Rws;exact Iff.rfl
theorem Rws.cons_iff:Rws K R (w::ws) b↔∃v a,b=v::a/\Rw K R w v/\Rws K R ws a:=by
 constructor
 ·intro h;unfold Rws at h;exact h
 ·intro h;unfold Rws;exact h
theorem Rws.nil:Rws K R [] []:=Rws.nil_iff.mpr rfl
theorem Rws.cons(a:Rw K R w v)(b:Rws K R ws c):Rws K R (w::ws) (v::c):=Rws.cons_iff.mpr ⟨v,c,rfl,a,b⟩
theorem Rws.paired:∀{ws:List W} {c:List V},Rws K R ws c->Paired (Rw K R) ws c
 |[],c,h=>by rw[Rws.nil_iff]at h;subst h;exact .nil
 |w::ws,c,h=>by
  rw[Rws.cons_iff]at h;obtain⟨v,d,rfl,a,b⟩:=h;exact .cons a (Rws.paired b)
theorem Rws.of:∀{ws:List W} {c:List V},Paired (Rw K R) ws c->Rws K R ws c
 |_,_,.nil=>Rws.nil
 |_,_,.cons a b=>Rws.cons a (Rws.of b)
theorem Rws.length(h:Rws K R ws a):ws.length=a.length:=EQ h.paired
theorem Rws.get:∀{ws:List W} {c:List V} {i:Nat} {w:W},Rws K R ws c->ws[i]?=some w->∃v,c[i]?=some v/\Rw K R w v
 |[],_,_,_,_,e=>by simp at e
 |w::ws,c,0,x,h,e=>by
  rw[Rws.cons_iff]at h;obtain⟨v,d,rfl,a,b⟩:=h;simp at e;subst e;exact⟨v,by simp,a⟩
 |w::ws,c,i+1,x,h,e=>by
  rw[Rws.cons_iff]at h;obtain⟨v,d,rfl,a,b⟩:=h;obtain⟨y,g,f⟩:=Rws.get (i:=i) b (by simpa using e);exact⟨y,by simpa using g,f⟩
theorem Rws.append:∀{ws d:List W} {c xs:List V},Rws K R ws c->Rws K R d xs->Rws K R (ws++d) (c++xs)
 |[],d,c,xs,h,q=>by rw[Rws.nil_iff]at h;subst h;exact q
 |w::ws,d,c,xs,h,q=>by
  rw[Rws.cons_iff]at h;obtain⟨v,e,rfl,a,b⟩:=h;exact Rws.cons a (Rws.append b q)
theorem Rws.take:∀{ws:List W} {c:List V} (n:Nat),Rws K R ws c->Rws K R (ws.take n) (c.take n)
 |_,_,0,_=>by simp;exact Rws.nil
 |[],c,n+1,h=>by rw[Rws.nil_iff]at h;subst h;simp;exact Rws.nil
 |w::ws,c,n+1,h=>by
  rw[Rws.cons_iff]at h;obtain⟨v,d,rfl,a,b⟩:=h;exact Rws.cons a (Rws.take n b)
theorem Rws.drop:∀{ws:List W} {c:List V} (n:Nat),Rws K R ws c->Rws K R (ws.drop n) (c.drop n)
 |_,_,0,h=>by simpa using h
 |[],c,n+1,h=>by rw[Rws.nil_iff]at h;subst h;simp;exact Rws.nil
 |w::ws,c,n+1,h=>by
  rw[Rws.cons_iff]at h;obtain⟨v,d,rfl,a,b⟩:=h;exact Rws.drop n b
theorem Rws.set:∀{ws:List W} {c:List V} {w:W} {v:V} (n:Nat),Rws K R ws c->Rw K R w v->Rws K R (ws.set n w) (c.set n v)
 |[],c,_,_,n,h,_=>by rw[Rws.nil_iff]at h;subst h;simp;exact Rws.nil
 |x::ws,c,w,v,0,h,q=>by
  rw[Rws.cons_iff]at h;obtain⟨y,d,rfl,a,b⟩:=h;exact Rws.cons q b
 |x::ws,c,w,v,n+1,h,q=>by
  rw[Rws.cons_iff]at h;obtain⟨y,d,rfl,a,b⟩:=h;exact Rws.cons a (Rws.set n b q)
end
noncomputable def Qeg:Nat->W->Option Tr
 |0,_=>none
 |_+1,.int i=>some (.i i)
 |_+1,.bl b=>some (.i (if b then 1 else 0))
 |_+1,.str x=>some (.s x)
 |n+1,.tup ws=>(ws.mapM (Qeg n)).map .t
 |_+1,_=>none
noncomputable def nrm:W->Option Tr
 |.tup ws=>Qeg 8 (.tup ws)
 |_=>none
section
variable(K:Nd)
noncomputable def Ro(R:Rn):MO->Option HO->Prop
 |.lst ws,o=>∃xs,o=some (.lst xs)/\Rws K R ws xs
 |.dic kvs,o=>∃a:List (Key×V),o=some (.dK a)/\Paired (fun p q=>p.1=q.1/\Rw K R p.2 q.2) kvs a
 |.dct kvs,o=>∃a:List (Tr×Addr×V),o=some (.dT a)/\Paired (fun p q=>Rw K R p.1 (.ref q.2.1)/\nrm p.1=some q.1/\Rw K R p.2 q.2.2) kvs a
 |.ins C fs,o=>∃(c:Addr) (b:List (Str×V)),o=some (.ins C c b)/\Paired (fun p q=>p.1=q.1/\Rw K R p.2 q.2) fs b
structure Rh(R:Rn)(h:MH)(H:Hp):Prop where
 len:R.N=h.length
 sub:∀a o,R.F a=some o->H a=some o
 sep:∀n,n<R.N->R.F (R.ρ n)=none
 inj:∀m n,m<R.N->n<R.N->R.ρ m=R.ρ n->m=n
 obj:∀n o,h[n]?=some o->Ro K R o (H (R.ρ n))
 gsub:∀a o,R.G a=some o->H a=some o
 gsep:∀n,n<R.N->R.G (R.ρ n)=none
 gf:∀a o,R.G a=some o->R.F a=none
def Rst(R:Rn)(a:MSt)(σ:L2.St):Prop:=a.length=σ.length/\∀(i:Nat) (w:W),a[i]?=some (some w)->∃v,σ[i]?=some (some v)/\Rw K R w v
end
section
variable{K:Nd}{R R':Rn}{h:MH}{H:Hp}{σi:MSt}{σ:L2.St}
theorem Ro.mono(e:Ext R R')(q:Ro K R o u):Ro K R' o u:=by
 cases o with
 |lst i=>obtain⟨g,d,c⟩:=q;exact⟨g,d,Rws.mono e i g c⟩
 |dic kvs=>obtain⟨f,d,c⟩:=q;exact⟨f,d,Paired.mapP c fun a b z=>⟨z.1,Rw.mono e _ _ z.2⟩⟩
 |dct kvs=>obtain⟨f,d,c⟩:=q;exact⟨f,d,Paired.mapP c fun a b z=>⟨Rw.mono e _ _ z.1,z.2.1,Rw.mono e _ _ z.2.2⟩⟩
 |ins C fs=>obtain⟨l,j,d,c⟩:=q;exact⟨l,j,d,Paired.mapP c fun a b z=>⟨z.1,Rw.mono e _ _ z.2⟩⟩
theorem Ro.some(q:Ro K R o u):∃x,u=some x:=by
 cases o with
 |lst e=>obtain⟨d,a,b⟩:=q;exact⟨_,a⟩
 |dic kvs=>obtain⟨c,a,b⟩:=q;exact⟨_,a⟩
 |dct kvs=>obtain⟨c,a,b⟩:=q;exact⟨_,a⟩
 |ins C fs=>obtain⟨g,f,a,b⟩:=q;exact⟨_,a⟩
theorem Rst.mono(e:Ext R R')(q:Rst K R σi σ):Rst K R' σi σ:=⟨q.1,fun i w h=>by
 obtain⟨v,b,a⟩:=q.2 i w h
 exact⟨v,b,Rw.mono e _ _ a⟩⟩
theorem Rst.set(q:Rst K R σi σ)(r:Rw K R w v):Rst K R (σi.set i (some w)) (σ.set i (some v)):=by
 refine⟨by rw[Dg,Dg];exact q.1,fun j u e=>?_⟩;rw[L5]at e ⊢
 by_cases a:i=j
 ·subst a;rw[if_pos rfl]at e ⊢
  by_cases b:i<σi.length
  ·rw[if_pos b]at e;rw[if_pos (q.1▸b)];cases e;exact⟨v,rfl,r⟩
  ·rw[if_neg b]at e;cases e
 ·rw[if_neg a]at e ⊢;exact q.2 j u e
theorem Rh.there(q:Rh K R h H)(b:n<R.N):∃o u,h[n]?=some o/\H (R.ρ n)=some u:=by
 have a:n<h.length:=q.len▸b;obtain⟨u,hu⟩:=(q.obj n h[n] (Ni a)).some;exact⟨h[n],u,Ni a,hu⟩
theorem Rh.ne(q:Rh K R h H)(a:H p=none)(b:n<R.N):R.ρ n≠p:=fun e=>by
 obtain⟨o,u,_,hu⟩:=q.there b;rw[e,a]at hu;cases hu
theorem Rh.fix(q:Rh K R h H)(c:H p=none) :
  Ext R { R with F:=upd R.F p o }/\Rh K { R with F:=upd R.F p o } h (upd H p o):=by
 have g:R.F p=none:=by
  cases e:R.F p with
  |none=>rfl
  |some u=>have:=q.sub p u e;rw[c]at this;cases this
 have x:Ext R { R with F:=upd R.F p o }:=⟨Nx _,fun _ _=>rfl,fun a u e=>by
  show upd R.F p o a=some u
  rw[Qo (fun z=>by rw[z,g]at e;cases e)];exact e,rfl⟩
 have f:∀a u,R.G a=some u->a≠p:=fun a u e z=>by have:=q.gsub a u e;rw[z,c]at this;cases this
 refine⟨x,q.len,fun a u e=>?_,fun n d=>?_,q.inj,fun n u e=>?_,fun a u e=>?_,q.gsep,fun a u e=>?_⟩
 rotate_right 2
 ·rw[Qo (f a u e)];exact q.gsub a u e
 ·show upd R.F p o a=none;rw[Qo (f a u e)];exact q.gf a u e
 ·by_cases z:a=p
  ·subst z;have b:upd R.F a o a=some u:=e;rw[Jf]at b ⊢;exact b
  ·have b:upd R.F p o a=some u:=e;rw[Qo z]at b ⊢;exact q.sub a u b
 ·show upd R.F p o (R.ρ n)=none;rw[Qo (q.ne c d)];exact q.sep n d
 ·have d:n<R.N:=by rw[q.len];exact(Nh.mp e).1
  show Ro K _ u (upd H p o (R.ρ n));rw[Qo (q.ne c d)];exact(q.obj n u e).mono x
theorem Rh.tup(q:Rh K R h H)(a:H p=none)(r:Rws K R ws xs) :
  ∃R',Ext R R'/\Rh K R' h (upd H p (.tup xs))/\Rw K R' (.tup ws) (.ref p):=by
 obtain⟨x,y⟩:=q.fix (o:=.tup xs) a;refine⟨_,x,y,?_⟩;unfold Rw;exact⟨p,xs,rfl,SqT.of Jf,Rws.mono x _ _ r⟩
theorem Rh.lstI(q:Rh K R h H)(a:H p=none)(r:Rws K R ws xs) :
  ∃R',Ext R R'/\Rh K R' h (upd H p (.lst xs))/\Rw K R' (.lst ws) (.ref p):=by
 obtain⟨x,y⟩:=q.fix (o:=.lst xs) a;refine⟨_,x,y,?_⟩;unfold Rw;exact⟨p,xs,rfl,Jf,Rws.mono x _ _ r⟩
theorem Rh.new(q:Rh K R h H)(f:H p=none)(r:∀R',Ext R R'->Ro K R' mo (some o)) :
  ∃R',Ext R R'/\Rh K R' (h++[mo]) (upd H p o)/\Rw K R' (.ref h.length) (.ref p):=by
 let R':Rn:={ ρ:=fun n=>if n=R.N then p else R.ρ n,N:=R.N+1,F:=R.F,G:=R.G }
 have hr:∀n,n<R.N->R'.ρ n=R.ρ n:=fun n b=>if_neg (NG b);have d:R'.ρ R.N=p:=if_pos rfl;have x:Ext R R':=⟨FO _,hr,fun _ _ e=>e,rfl⟩
 have i:∀a u,R.G a=some u->a≠p:=fun a u e z=>by have:=q.gsub a u e;rw[z,f]at this;cases this
 have j:R.F p=none:=by
  cases e:R.F p with
  |none=>rfl
  |some u=>have:=q.sub p u e;rw[f]at this;cases this
 have below:∀n,n<R.N+1->n<R.N\/n=R.N:=fun n b=>Nat.lt_or_eq_of_le (Fc b)
 have g:∀n,n<R.N+1->R.G (R'.ρ n)=none:=fun n b=>by
  rcases below n b with b|b
  ·rw[hr n b];exact q.gsep n b
  ·subst b;rw[d];cases e:R.G p with
   |none=>rfl
   |some u=>exact absurd rfl (i p u e)
 refine⟨R',x,⟨?_,fun a u e=>?_,fun n b=>?_,fun m n c b e=>?_,fun n u e=>?_,fun a u e=>by rw[Qo (i a u e)];exact q.gsub a u e,g,q.gf⟩,?_⟩
 ·show R.N+1=_;rw[Ny,q.len];rfl
 ·have z:a≠p:=fun z=>by have l:R.F a=some u:=e;rw[z,j]at l;cases l
  rw[Qo z];exact q.sub a u e
 ·rcases below n b with b|b
  ·rw[hr n b];exact q.sep n b
  ·subst b;rw[d];exact j
 ·rcases below m c with c|c<;>rcases below n b with b|b
  ·rw[hr m c,hr n b]at e;exact q.inj m n c b e
  ·subst b;rw[hr m c,d]at e;exact absurd e (q.ne f c)
  ·subst c;rw[hr n b,d]at e;exact absurd e.symm (q.ne f b)
  ·rw[c,b]
 ·have b:n<R.N+1:=by
   have:=(Nh.mp e).1;rw[Ny,<-q.len]at this;exact this
  rcases below n b with b|b
  ·rw[hr n b,Qo (q.ne f b)];rw[NT (by rw[<-q.len];exact b)]at e;exact(q.obj n u e).mono x
  ·subst b;rw[d,Jf];rw[ER (by rw[q.len];exact Nx _),q.len,Nat.sub_self]at e;cases e;exact r R' x
 ·unfold Rw;refine⟨by rw[<-q.len];exact Eg _,?_⟩;rw[<-q.len,d]
theorem Rh.put(q:Rh K R h H)(b:n<R.N)(r:Ro K R mo (some o)):Rh K R (h.set n mo) (upd H (R.ρ n) o):=by
 refine⟨by rw[Dg];exact q.len,fun a u e=>?_,q.sep,q.inj,fun m u e=>?_,fun a u e=>?_,q.gsep,q.gf⟩
 rotate_right
 ·have z:a≠R.ρ n:=fun z=>by rw[z,q.gsep n b]at e;cases e
  rw[Qo z];exact q.gsub a u e
 ·have z:a≠R.ρ n:=fun z=>by rw[z,q.sep n b]at e;cases e
  rw[Qo z];exact q.sub a u e
 ·by_cases z:n=m
  ·subst z;rw[Jf];rw[E9 (by rw[<-q.len];exact b)]at e;cases e;exact r
  ·have c:m<R.N:=by
    have:=(Nh.mp e).1;rw[Dg,<-q.len]at this;exact this
   rw[DM z]at e;rw[Qo (fun w=>z (q.inj m n c b w).symm)];exact q.obj m u e
theorem Rh.tupAt(q:Rh K R h H)(r:Rw K R (.tup ws) v):∃a xs,v=.ref a/\SqT K H a xs/\Rws K R ws xs:=by
 unfold Rw at r;obtain⟨a,xs,d,c,b⟩:=r;exact⟨a,xs,d,QS q.sub c,b⟩
theorem Rh.lstAt(q:Rh K R h H)(r:Rw K R (.lst ws) v):∃a xs,v=.ref a/\H a=some (.lst xs)/\Rws K R ws xs:=by
 unfold Rw at r;obtain⟨a,xs,d,c,b⟩:=r;exact⟨a,xs,d,q.sub a _ c,b⟩
theorem Rh.frzAt(q:Rh K R h H)(r:Rw K R (.frz ws) v):∃a xs,v=.ref a/\SqL K H a xs/\Rws K R ws xs:=by
 unfold Rw at r;obtain⟨a,xs,d,c,b⟩:=r;exact⟨a,xs,d,JG q.sub c,b⟩
noncomputable def lsW(h:MH):W->Option (List W)
 |.lst ws=>some ws
 |.frz ws=>some ws
 |.ref n=>match h[n]? with|some (.lst ws)=>some ws|_=>none
 |_=>none
noncomputable def loW(h:MH):W->Option (List W)
 |.lst ws=>some ws
 |.ref n=>match h[n]? with|some (.lst ws)=>some ws|_=>none
 |_=>none
theorem Rh.loAt(q:Rh K R h H)(r:Rw K R w v)(e:loW h w=some ws):∃a xs,v=.ref a/\H a=some (.lst xs)/\Rws K R ws xs:=by
 cases w with
 |lst b=>cases e;exact q.lstAt r
 |ref n=>
  simp only[loW]at e;split at e
  ·rename_i b c;cases e;unfold Rw at r;obtain⟨xs,f,d⟩:=q.obj n _ c;exact⟨_,xs,r.2,f,d⟩
  ·cases e
 |_=>cases e
theorem Rh.lsAt(q:Rh K R h H)(r:Rw K R w v)(e:lsW h w=some ws):∃a xs,v=.ref a/\SqL K H a xs/\Rws K R ws xs:=by
 cases w with
 |lst b=>cases e;obtain⟨a,xs,j,i,g⟩:=q.lstAt r;exact⟨a,xs,j,SqL.of i,g⟩
 |frz b=>cases e;exact q.frzAt r
 |ref n=>
  simp only[lsW]at e;split at e
  ·rename_i b c;cases e;unfold Rw at r;obtain⟨xs,f,d⟩:=q.obj n _ c;exact⟨_,xs,r.2,SqL.of f,d⟩
  ·cases e
 |_=>cases e
theorem Rh.refAt(q:Rh K R h H)(r:Rw K R (.ref n) v)(e:h[n]?=some (.lst ws)) :
  n<R.N/\v=.ref (R.ρ n)/\∃xs,H (R.ρ n)=some (.lst xs)/\Rws K R ws xs:=by
 unfold Rw at r;exact⟨r.1,r.2,q.obj n _ e⟩
end
theorem Rw.non_eq{K:Nd}(r:Rw K R .non v):v=.non:=by unfold Rw at r;exact r
theorem Rw.bl_eq{K:Nd}(r:Rw K R (.bl b) v):v=.bl b:=by unfold Rw at r;exact r
theorem Rw.int_eq{K:Nd}(r:Rw K R (.int i) v):v=.int i:=by unfold Rw at r;exact r
theorem Rw.str_eq{K:Nd}(r:Rw K R (.str x) v):v=.str x:=by unfold Rw at r;exact r
theorem Rw.ty_eq{K:Nd}(r:Rw K R (.ty n) v):v=.ty n:=by unfold Rw at r;exact r
theorem Rw.ty{K:Nd}(n:String):Rw K R (.ty n) (.ty n):=by unfold Rw;rfl
theorem Rw.non{K:Nd}:Rw K R .non .non:=by unfold Rw;rfl
theorem Rw.bl{K:Nd}(b:Bool):Rw K R (.bl b) (.bl b):=by unfold Rw;rfl
theorem Rw.int{K:Nd}(i:Int):Rw K R (.int i) (.int i):=by unfold Rw;rfl
theorem Rw.str{K:Nd}(x:Str):Rw K R (.str x) (.str x):=by unfold Rw;rfl
end Mi
namespace Mi
open L2
noncomputable abbrev ME:=MSt->MH->Option (W×MH)
noncomputable abbrev MT:=MSt->MH->Option (Bool×MH)
noncomputable abbrev MA:=MSt->MH->Option (List W×MH)
inductive MF where
 |nx (σ:MSt) (h:MH)|rt (w:W) (h:MH)|bk (σ:MSt) (h:MH)|ct (σ:MSt) (h:MH)
noncomputable abbrev SM:=MSt->MH->Option MF
noncomputable abbrev FM:=List W->MH->Option (W×MH)
section
variable(K:Nd)
def After(R:Rn)(w:W)(h':MH)(Q:VK):Prop:=∀a b v,Ext R a->Rh K a h' b->Rw K a w v->Q v b
noncomputable def tI(m:ME):TE:=fun c H Q=>∃R a h w b,Rh K R h H/\Rst K R a c/\m a h=some (w,b)/\After K R w b Q
noncomputable def tIT(m:MT):TT:=fun f H Q=>∃R a h b c,Rh K R h H/\Rst K R a f/\m a h=some (b,c)/\∀d e,Ext R d->Rh K d c e->Q b e
noncomputable def tIA(m:MA):TA:=fun g H Q=>∃R a h c e,Rh K R h H/\Rst K R a g/\m a h=some (c,e)/\∀b f d,Ext R b->Rh K b e f->Rws K b c d->Q d f
noncomputable def Ends(R:Rn)(D:L2.Ends):MF->Prop
 |.nx a h=>∀R' b σ,Ext R R'->Rh K R' h b->Rst K R' a σ->D.nx σ b
 |.bk a h=>∀R' b σ,Ext R R'->Rh K R' h b->Rst K R' a σ->D.bk σ b
 |.ct a h=>∀R' b σ,Ext R R'->Rh K R' h b->Rst K R' a σ->D.ct σ b
 |.rt w h=>After K R w h D.rt
noncomputable def tS(m:SM):TS:=fun D b H=>∃R a h r,Rh K R h H/\Rst K R a b/\m a h=some r/\Ends K R D r
noncomputable def spM(n:Nat)(m:FM):Sp:=fun c H Q _=>∃R a h w b,a.length=n/\Rh K R h H/\Rws K R a c/\m a h=some (w,b)/\After K R w b Q
end
def PM(X:Cx)(e:Expr)(m:ME):Prop:=PE X e (tI X.K m)
def PMT(X:Cx)(e:Expr)(m:MT):Prop:=PT X e (tIT X.K m)
def PMA(X:Cx)(es:List Expr)(m:MA):Prop:=PA X es (tIA X.K m)
def PMS(X:Cx)(st:Stmt)(m:SM):Prop:=PS X st (tS X.K m)
def Qcx(X:Cx)(st:List Stmt)(m:SM):Prop:=PSs X st (tS X.K m)
section
variable{K:Nd}{R R1 R2:Rn}
theorem After.ext(a:After K R w h' Q)(x:Ext R R1):After K R1 w h' Q:=fun b c v e=>a b c v (x.trans e)
theorem Ends.ext(a:Ends K R D r)(x:Ext R R1):Ends K R1 D r:=by
 cases r with
 |nx d h=>exact fun b c v e=>a b c v (x.trans e)
 |bk d h=>exact fun b c v e=>a b c v (x.trans e)
 |ct d h=>exact fun b c v e=>a b c v (x.trans e)
 |rt w h=>exact After.ext a x
end
theorem QM(h:PE X e t)(i:∀σ H Q,t' σ H Q->t σ H Q):PE X e t':=fun a s σ H Q I q=>h a s σ H Q I (i _ _ _ q)
theorem WH(h:PT X e t)(i:∀σ H Q,t' σ H Q->t σ H Q):PT X e t':=fun a s σ H Q I q=>h a s σ H Q I (i _ _ _ q)
theorem Qec(h:PW X e t)(i:∀σ H Q,t' σ H Q->t σ H Q):PW X e t':=fun b a s σ H Q I q=>h b a s σ H Q I (i _ _ _ q)
theorem QeA(h:PA X es t)(i:∀σ H Q,t' σ H Q->t σ H Q):PA X es t':=fun pos a s σ H Q I q=>h pos a s σ H Q I (i _ _ _ q)
theorem Vl{st:Stmt}(h:PS X st t)(i:∀D σ H,t' D σ H->t D σ H):PS X st t':=fun a s σ H D I q=>h a s σ H D I (i _ _ _ q)
theorem QaZ{st:List Stmt}(h:PSs X st t)(i:∀D σ H,t' D σ H->t D σ H):PSs X st t':=fun a s σ H D I q=>h a s σ H D I (i _ _ _ q)
noncomputable def Qb(i:Nat):ME:=fun a h=>match a[i]? with|some (some w)=>some (w,h)|_=>none
noncomputable def mC(w:W):ME:=fun _ h=>some (w,h)
section
variable{X:Cx}
theorem Qho(i:Nat)(hN:X.N[i]?=some x:=by rfl)(d:Vis X.env.scope x:=by first|exact Or.inl rfl|exact Or.inr (Or.inl rfl)|exact Or.inr (Or.inr rfl))(hd:(x==("__debug__":Str))=false:=by decide)
  (a:(x==("__classdict__":Str))=false:=by decide):PM X (.Name x pos) (Qb i):=QM (QgR hN d hd a) <|by
 rintro l H Q ⟨R,b,h,w,n,c,st,e,k⟩
 unfold Qb at e;split at e
 ·rename_i m j;cases e;obtain⟨v,g,f⟩:=st.2 i _ j;exact⟨v,g,k R H v (Ext.refl _) c f⟩
 ·cases e
theorem Qa3(r:∀R,Rw X.K R w v)(q:tI X.K (mC w) σ H Q):tC v σ H Q:=by
 obtain⟨R,a,h,c,d,b,st,e,k⟩:=q;cases e;exact k R H v (Ext.refl _) b (r R)
theorem QhK{i j pos}:PM X (.Constant (.int i) j pos) (mC (.int i)):=QM Qhj fun _ _ _=>Qa3 fun _=>Rw.int _
theorem Qjd{b j pos}:PM X (.Constant (.bool b) j pos) (mC (.bl b)):=QM Qkq fun _ _ _=>Qa3 fun _=>Rw.bl _
theorem Qfn(d:Gl X x)(c:X.mg x=none)(a:bootBuiltins x=some u)(r:RelV v u)(rw:∀R,Rw X.K R w v)(b:x≠"__name__":=by decide)(hd:(x==("__debug__":Str))=false:=by decide):PM X (.Name x pos) (mC w):=
 QM (QfO d c a r b hd) fun _ _ _=>Qa3 rw
theorem Qh9{x j pos}:PM X (.Constant (.str x) j pos) (mC (.str x)):=QM Qii fun _ _ _=>Qa3 fun _=>Rw.str _
theorem Qe7(b:Gl X x)(a:X.mg x=some u)(r:RelV v u)(rw:∀R,Rw X.K R w v)(hd:(x==("__debug__":Str))=false:=by decide):PM X (.Name x pos) (mC w):=
 QM (UR b a r hd) fun _ _ _=>Qa3 rw
end
noncomputable def Qf(f:W->W->MH->Option (W×MH))(c b:ME):ME:=fun a h=>(c a h).bind fun p=>(b a p.2).bind fun q=>f p.1 q.1 q.2
def F1(K:Nd)(f:W->MH->Option (W×MH))(x:V)(H:Hp)(Q:VK):Prop:=∃R h a w b,Rh K R h H/\Rw K R a x/\f a h=some (w,b)/\After K R w b Q
def F2(K:Nd)(f:W->W->MH->Option (W×MH))(x y:V)(H:Hp)(Q:VK):Prop:=∃R h a b w c,Rh K R h H/\Rw K R a x/\Rw K R b y/\f a b h=some (w,c)/\After K R w c Q
def Fs(K:Nd)(f:List W->MH->Option (W×MH))(xs:List V)(H:Hp)(Q:VK):Prop:=∃R h a w b,Rh K R h H/\Rws K R a xs/\f a h=some (w,b)/\After K R w b Q
noncomputable def mUn(f:W->MH->Option (W×MH))(b:ME):ME:=fun a h=>(b a h).bind fun p=>f p.1 p.2
noncomputable def mFn(f:List W->MH->Option (W×MH))(b:MA):ME:=fun a h=>(b a h).bind fun p=>f p.1 p.2
section
variable{K:Nd}{σ:L2.St}{H:Hp}{Q:VK}
theorem un1(q:tI K (mUn f m) σ H Q):tI K m σ H fun x g=>F1 K f x g Q:=by
 obtain⟨R,b,h,w,n,l,st,e,k⟩:=q;obtain⟨⟨a,d⟩,o,p⟩:=Nc.mp e;exact⟨R,b,h,a,d,l,st,o,fun R1 g x i c j=>⟨R1,d,a,w,n,c,j,p,k.ext i⟩⟩
theorem QgL(q:tI K (Qf f u t) σ H Q):tI K u σ H fun x o=>tI K t σ o fun y n=>F2 K f x y n Q:=by
 obtain⟨R,c,h,w,v,s,st,e,k⟩:=q;obtain⟨⟨a,m⟩,A,C⟩:=Nc.mp e;obtain⟨⟨b,l⟩,z,B⟩:=Nc.mp C
 exact⟨R,c,h,a,m,s,st,A,fun R1 o x j g r=>⟨R1,c,m,b,l,g,st.mono j,z,fun R2 n y i d p=>
  ⟨R2,l,a,b,w,v,d,Rw.mono i _ _ r,p,B,k.ext (j.trans i)⟩⟩⟩
theorem Qaf(q:tI K (mFn f m) σ H Q):tIA K m σ H fun xs g=>Fs K f xs g Q:=by
 obtain⟨R,b,h,w,n,l,st,e,k⟩:=q;obtain⟨⟨a,d⟩,o,p⟩:=Nc.mp e;exact⟨R,b,h,a,d,l,st,o,fun R1 g x i c j=>⟨R1,d,a,w,n,c,j,p,k.ext i⟩⟩
end
noncomputable def Z8:Expr->Bool
 |.Starred ..=>true
 |_=>false
noncomputable def V0(es:List Expr):Bool:=es.all fun e=>!Z8 e
theorem Qn(h:Z8 e=false):starEach (e::es) env=(false,eval e env)::starEach es env:=by
 cases e<;>first|rfl|cases h
theorem Zg(h:V0 es=true):(backTo pos (starEach es env)).any (·.1)=false:=by
 induction es with
 |nil=>rfl
 |cons e es a=>
  unfold V0 at h a;rw[Fj,NK]at h;have b:Z8 e=false:=by simpa using h.1
  rw[Qn b];have:=a h.2;unfold backTo at this ⊢;rw[NA,ES,this];rfl
theorem Qdd(h:V0 es=true):(backTo pos (starEach es env)).all (fun x=>!x.1)=true:=by
 have:=Zg (env:=env) (pos:=pos) h;rw[List.all_eq_not_any_not];simp only[Bool.not_not];rw[this];rfl
noncomputable def Qd:MA:=fun _ h=>some ([],h)
noncomputable def Qa(c:ME)(b:MA):MA:=fun a h=>(c a h).bind fun p=>(b a p.2).bind fun q=>some (p.1::q.1,q.2)
section
variable{X:Cx}{e:Expr}{es:List Expr}{m:ME}{ms:MA}{pos:Pos}
theorem Qfq:PMA X [] Qd:=QeA QhI <|by
 rintro c H Q ⟨R,a,h,d,f,b,st,e,k⟩
 cases e;exact k R H [] (Ext.refl _) b Rws.nil
theorem QcZ(s:PM X e m)(hr:PMA X es ms)(r:Z8 e=false:=by rfl):PMA X (e::es) (Qa m ms):=
 QeA (QfE s hr (Qn r)) fun A H Q l=>by
  obtain⟨R,c,h,B,C,q,st,e,k⟩:=l;obtain⟨⟨a,j⟩,v,y⟩:=Nc.mp e;obtain⟨⟨b,t⟩,u,w⟩:=Nc.mp y;cases w
  exact⟨R,c,h,a,j,q,st,v,fun R1 D x i f p=>⟨R1,c,j,b,t,f,st.mono i,u,fun R2 z n g d o=>
   k R2 z (x::n) (i.trans g) d (Rws.cons (Rw.mono g _ _ p) o)⟩⟩
noncomputable def JM(ws:List W)(h:MH):Option (W×MH):=if ws.length<=sizeLine then some (.tup ws,h)else none
noncomputable def UU(ws:List W)(h:MH):Option (W×MH):=if ws.length<=sizeLine then some (.lst ws,h)else none
noncomputable def U3(ws:List W)(h:MH):Option (W×MH):=if ws.length<=sizeLine then some (.ref h.length,h++[.lst ws])else none
theorem Qg0{d}(h:PMA X es ms):PM X (.Tuple es d pos) (mFn JM ms):=QM (Qhf h) fun C H Q q=>by
 obtain⟨R,c,z,o,y,t,st,e,k⟩:=Qaf q;refine⟨R,c,z,o,y,t,st,e,fun R1 B r d j s=>?_⟩;obtain⟨R2,E,n,w,D,i,a,b,u⟩:=k R1 B r d j s;unfold JM at b;split at b
 ·rename_i x;cases b;refine⟨by rw[<-a.length];exact x,fun p v=>?_⟩;obtain⟨A,l,g,f⟩:=i.tup v a;exact u A _ _ l g f
 ·cases b
theorem Vt(h:PMA X es ms):PM X (.List es pos) (mFn UU ms):=QM (Qeo h) fun C H Q q=>by
 obtain⟨R,c,z,o,y,t,st,e,k⟩:=Qaf q;refine⟨R,c,z,o,y,t,st,e,fun R1 B r l i s=>?_⟩;obtain⟨R2,E,n,w,D,g,a,b,u⟩:=k R1 B r l i s;unfold UU at b;split at b
 ·rename_i x;cases b;refine⟨by rw[<-a.length];exact x,fun p v=>?_⟩;obtain⟨A,j,f,d⟩:=g.lstI v a;exact u A _ _ j f d
 ·cases b
theorem Vi(h:PMA X es ms):PM X (.List es pos) (mFn U3 ms):=QM (Qeo h) fun E H Q q=>by
 obtain⟨R,c,B,t,A,v,st,e,k⟩:=Qaf q;refine⟨R,c,B,t,A,v,st,e,fun R1 D f r l u=>?_⟩;obtain⟨R2,J,d,w,I,j,a,b,x⟩:=k R1 D f r l u;unfold U3 at b;split at b
 ·rename_i z;cases b;refine⟨by rw[<-a.length];exact z,fun p y=>?_⟩;obtain⟨C,n,i,g⟩:=j.new (mo:=.lst d) (o:=.lst f) y fun L s=>⟨f,rfl,Rws.mono s _ _ a⟩
  exact x C _ _ n i g
 ·cases b
end
def OpM(K:Nd)(r:R2)(f:W->W->MH->Option (W×MH)):Prop:=∀x y H Q,F2 K f x y H Q->r x y H Q
def QfC(K:Nd)(r:List V->Hp->VK->Prop)(f:List W->MH->Option (W×MH)):Prop:=∀a H Q,Fs K f a H Q->r a H Q
section
variable{X:Cx}{a b c:Expr}{ma mb mc:ME}{pos:Pos}
theorem ZF{K:Nd}(h:tI K m σ H Q)(i:∀v H,Q v H->Q' v H):tI K m σ H Q':=by
 obtain⟨R,d,h,w,g,f,st,e,k⟩:=h;exact⟨R,d,h,w,g,f,st,e,fun j l v a b c=>i _ _ (k j l v a b c)⟩
theorem Wc{K:Nd}(h:tIA K m σ H Q)(i:∀v H,Q v H->Q' v H):tIA K m σ H Q':=by
 obtain⟨R,d,h,w,g,f,st,e,k⟩:=h;exact⟨R,d,h,w,g,f,st,e,fun j l v a b c=>i _ _ (k j l v a b c)⟩
theorem Vj(g:OpR X (binaryOp op) r)(h:OpM X.K r f)(j:PM X a ma)(i:PM X b mb):PM X (.BinOp a op b pos) (Qf f ma mb):=
 QM (Qjr g j i) fun _ _ _ q=>ZF (QgL q) fun _ _ e=>ZF e fun _ _ d=>h _ _ _ _ d
theorem Yv(g:OpR X (compareOp op) r)(i:OpM X.K r f)(l:PM X a ma)(j:PM X b mb)(h:behindInMarks op b=false:=by rfl):PM X (.Compare a [op] [b] pos) (Qf f ma mb):=
 QM (Qe5 g l j h) fun _ _ _ q=>ZF (QgL q) fun _ _ e=>ZF e fun _ _ d=>i _ _ _ _ d
noncomputable def Qi(m:ME):MT:=fun d h=>(m d h).bind fun p=>match p.1 with|.bl b=>some (b,p.2)|_=>none
theorem Wr{K:Nd}(q:tIT K (Qi m) σ H Q):tI K m σ H fun x i=>∃k,x=.bl k/\Q k i:=by
 obtain⟨R,d,h,b,r,l,st,e,k⟩:=q;obtain⟨⟨w,p⟩,n,g⟩:=Nc.mp e;cases w<;>simp only at g<;>first|(cases g;exact⟨R,d,h,_,_,l,st,n,fun o i v x f j=>⟨_,j.bl_eq,k o i x f⟩⟩)|(cases g)
theorem QW(g:OpR X (compareOp op) r)(i:OpM X.K r f)(l:PM X a ma)(j:PM X b mb)(h:behindInMarks op b=false:=by rfl):PMT X (.Compare a [op] [b] pos) (Qi (Qf f ma mb)):=
 WH (Qb8 g l j h) fun _ _ _ q=>ZF (QgL (Wr q)) fun _ _ e=>ZF e fun _ _ d=>i _ _ _ _ d
noncomputable def JV(f e:W->W->MH->Option (W×MH))(ma mb mc:ME):ME:=fun d h=>(ma d h).bind fun p=>(mb d p.2).bind fun q=>(f p.1 q.1 q.2).bind fun z=>match z.1 with
 |.bl true=>(mc d z.2).bind fun y=>e q.1 y.1 y.2
 |.bl false=>some (.bl false,z.2)
 |_=>none
theorem GJ{K:Nd}(O:OpM K r f)(u:OpM K N S)(q:tI K (JV f S ma mb mc) σ H Q):Qbp r N (tI K ma) (tI K mb) (tI K mc) σ H Q:=by
 obtain⟨R,g,h,w,P,M,st,e,k⟩:=q;obtain⟨⟨a,G⟩,Z,e2⟩:=Nc.mp e;obtain⟨⟨b,E⟩,Y,e3⟩:=Nc.mp e2;obtain⟨⟨z,D⟩,T,d⟩:=Nc.mp e3;refine⟨R,g,h,a,G,M,st,Z,fun R1 H1 x m s J=>⟨R1,g,G,b,E,s,st.mono m,Y,fun R2 H2 y l p B=>?_⟩⟩;refine O _ _ _ _ ⟨R2,E,a,b,z,D,p,Rw.mono l _ _ J,B,T,fun I H3 v j i L=>?_⟩;cases z with
 | bl t=>
  refine⟨t,L.bl_eq,?_⟩;cases t with
  |true=>
   obtain⟨⟨c,C⟩,U,e5⟩:=Nc.mp d;refine Qew ⟨I,g,D,c,C,i,st.mono (m.trans (l.trans j)),U,fun R4 H4 y' A o n=>?_⟩;exact u _ _ _ _ ⟨R4,C,b,c,w,P,o,Rw.mono (j.trans A) _ _ B,n,e5,k.ext (m.trans (l.trans (j.trans A)))⟩
  |false=>
   cases d;exact QeC (k I H3 _ (m.trans (l.trans j)) i (Rw.bl _))
 |non=>cases d
 |int _=>cases d
 |str _=>cases d
 |tup _=>cases d
 |lst _=>cases d
 |frz _=>cases d
 |ref _=>cases d
 |ty _=>cases d
theorem QcT(i:OpR X (compareOp op) r)(l:OpM X.K r f)(e:OpR X (compareOp d) h)(g:OpM X.K h p)(o:PM X a ma)(n:PM X b mb)(m:PM X c mc)
  (j:lastMarks [op,d] [b,c]=false:=by with_unfolding_all rfl):PM X (.Compare a [op,d] [b,c] pos) (JV f p ma mb mc):=QM (QdY i e o n m j) fun _ _ _ q=>GJ l g q
theorem WM(i:OpR X (compareOp op) r)(l:OpM X.K r f)(e:OpR X (compareOp d) h)(g:OpM X.K h p)(o:PM X a ma)(n:PM X b mb)(m:PM X c mc)
  (j:lastMarks [op,d] [b,c]=false:=by with_unfolding_all rfl):PMT X (.Compare a [op,d] [b,c] pos) (Qi (JV f p ma mb mc)):=WH (Qc7 i e o n m j) fun _ _ _ q=>GJ l g (Wr q)
noncomputable def Qd7(ma mb:ME):ME:=fun d h=>(ma d h).bind fun p=>match p.1 with|.bl true=>mb d p.2|.bl false=>some (.bl false,p.2)|_=>none
noncomputable def Xk(ma mb:MT):MT:=fun d h=>(ma d h).bind fun p=>match p.1 with|true=>mb d p.2|false=>some (false,p.2)
noncomputable def Wy(ma mb:MT):MT:=fun d h=>(ma d h).bind fun p=>match p.1 with|true=>some (true,p.2)|false=>mb d p.2
noncomputable def J4(ma:MT):MT:=fun d h=>(ma d h).bind fun p=>some (!p.1,p.2)
noncomputable def mIf(t:MT)(ma mb:ME):ME:=fun d h=>(t d h).bind fun p=>match p.1 with|true=>ma d p.2|false=>mb d p.2
variable{rest:List Expr}{ta tb:MT}
theorem W8{op}(h:PM X a ma):PM X (.BoolOp op [a] pos) ma:=Qha h
theorem Yi(o:PM X a ma)(n:PM X (.BoolOp .And (b::rest) pos) mb):PM X (.BoolOp .And (a::b::rest) pos) (Qd7 ma mb):=QM (QgT o n) <|by
 rintro s H Q ⟨R,f,h,w,p,m,st,e,k⟩
 obtain⟨⟨a,j⟩,q,d⟩:=Nc.mp e;refine⟨R,f,h,a,j,m,st,q,fun R1 r x i g l=>?_⟩;cases a with
 |bl t=>
  refine⟨t,l.bl_eq,?_⟩;cases t with
  |true=>exact Qew ⟨R1,f,j,w,p,g,st.mono i,d,k.ext i⟩
  |false=>cases d;exact QeC (k R1 r _ i g (Rw.bl _))
 |non=>cases d
 |int _=>cases d
 |str _=>cases d
 |tup _=>cases d
 |lst _=>cases d
 |frz _=>cases d
 |ref _=>cases d
 |ty _=>cases d
def PMW(X:Cx)(e:Expr)(m:MT):Prop:=PW X e (tIT X.K m)
theorem PMW.pt(h:PMW X e m):PMT X e m:=PW.pt h
theorem Qfd{K:Nd}(q:tIT K (Xk ta tb) σ H Q):QlE (tIT K ta) (tIT K tb) σ H Q:=by
 obtain⟨R,d,h,w,n,m,st,e,k⟩:=q;obtain⟨⟨a,i⟩,o,j⟩:=Nc.mp e;refine⟨R,d,h,a,i,m,st,o,fun R1 r g f=>?_⟩;cases a with
 |true=>exact Qew ⟨R1,d,i,w,n,f,st.mono g,j,fun R2 p l=>k R2 p (g.trans l)⟩
 |false=>cases j;exact QeC (k R1 r g f)
theorem Qhv{K:Nd}(q:tIT K (Wy ta tb) σ H Q):tOr (tIT K ta) (tIT K tb) σ H Q:=by
 obtain⟨R,d,h,w,n,m,st,e,k⟩:=q;obtain⟨⟨a,i⟩,o,j⟩:=Nc.mp e;refine⟨R,d,h,a,i,m,st,o,fun R1 r g f=>?_⟩;cases a with
 |true=>cases j;exact Qew (k R1 r g f)
 |false=>exact QeC ⟨R1,d,i,w,n,f,st.mono g,j,fun R2 p l=>k R2 p (g.trans l)⟩
theorem Ke(d:PMT X a ta):PMW X (.BoolOp .And [a] pos) ta:=Qe8 d
theorem Z7(d:PMT X a ta):PMW X (.BoolOp .Or [a] pos) ta:=QgW d
theorem XM(e:PMT X a ta)(d:PMW X (.BoolOp .And (b::rest) pos) tb):PMW X (.BoolOp .And (a::b::rest) pos) (Xk ta tb):=Qec (QhW e d) fun _ _ _=>Qfd
theorem QiB(e:PMT X a ta)(d:PMW X (.BoolOp .Or (b::rest) pos) tb):PMW X (.BoolOp .Or (a::b::rest) pos) (Wy ta tb):=Qec (QkA e d) fun _ _ _=>Qhv
theorem Qgg(j:PMT X a ta):PMT X (.UnaryOp .Not a pos) (J4 ta):=WH (Qhh j) <|by
 rintro p H Q ⟨R,d,h,w,q,i,st,e,k⟩
 obtain⟨⟨a,l⟩,m,n⟩:=Nc.mp e;cases n;exact⟨R,d,h,a,l,i,st,m,fun R1 o g f=>k R1 o g f⟩
theorem Qhe(n:PMT X c ta)(p:PM X a ma)(o:PM X b mb):PM X (.IfExp c a b pos) (mIf ta ma mb):=QM (QdP n p o) <|by
 rintro r H Q ⟨R,d,h,w,j,m,st,e,k⟩
 obtain⟨⟨t,i⟩,q,l⟩:=Nc.mp e;refine⟨R,d,h,t,i,m,st,q,fun R1 s g f=>?_⟩;cases t with
 |true=>exact Qew ⟨R1,d,i,w,j,f,st.mono g,l,k.ext g⟩
 |false=>exact QeC ⟨R1,d,i,w,j,f,st.mono g,l,k.ext g⟩
noncomputable def Qf1(h:MH):W->Option Bool
 |.non=>some false
 |.bl b=>some b
 |.int i=>some (i != 0)
 |.str x=>if x.length<=sizeLine then some ((x.length:Int) != 0)else none
 |.tup ws=>some (!ws.isEmpty)
 |.lst ws=>some (!ws.isEmpty)
 |.frz ws=>some (!ws.isEmpty)
 |.ref n=>match h[n]? with|some (.lst ws)=>some (!ws.isEmpty)|some (.dic kvs)=>some (!kvs.isEmpty)|_=>none
 |.ty _=>none
noncomputable def W6(m:ME):MT:=fun d h=>(m d h).bind fun p=>(Qf1 p.2 p.1).map fun b=>(b,p.2)
theorem Rws.isEmpty{K:Nd}(r:Rws K R ws d):ws.isEmpty=d.isEmpty:=by
 have:=r.length;cases ws<;>cases d<;>simp at this ⊢
theorem QhH{K:Nd}{v:V}{b:Bool}(j:Rh K R h H)(r:Rw K R w v)(e:Qf1 h w=some b):QjB K v H b:=by
 cases w with
 |non=>rw[r.non_eq];cases e;rfl
 |bl b=>rw[r.bl_eq];cases e;rfl
 |int i=>rw[r.int_eq];cases e;rfl
 |str x=>
  rw[r.str_eq];simp only[Qf1]at e;split at e
  ·rename_i p;cases e;exact⟨p,rfl⟩
  ·cases e
 |tup l=>
  obtain⟨a,g,rfl,f,d⟩:=j.tupAt r;cases e;exact .inr (.inl ⟨g,f,by rw[d.isEmpty]⟩)
 |lst l=>
  obtain⟨a,g,rfl,f,d⟩:=j.lstAt r;cases e;exact .inl ⟨g,SqL.of f,by rw[d.isEmpty]⟩
 |frz l=>
  obtain⟨a,g,rfl,f,d⟩:=j.frzAt r;cases e;exact .inl ⟨g,f,by rw[d.isEmpty]⟩
 |ref n=>
  simp only[Qf1]at e;split at e
  ·rename_i l m;cases e;obtain⟨_,rfl,g,f,d⟩:=j.refAt r m;exact .inl ⟨g,SqL.of f,by rw[d.isEmpty]⟩
  ·rename_i kvs m;cases e;unfold Rw at r;obtain⟨o,f,d⟩:=j.obj n _ m;rw[r.2];refine .inr (.inr ⟨o,f,?_⟩);have:=EQ d;cases kvs<;>cases o<;>simp at this ⊢
  ·cases e
 |ty _=>cases e
theorem QeW(n:PM X a ma)(m:∀whole,isTrue a X.env whole=(do let v <-whole;standAt a.pos;holding [v] (truthy v)):=by intro _;rfl):PMT X a (W6 ma):=
 WH (Qc6 n m) fun t H Q g=>by
  obtain⟨R,f,h,w,y,l,st,e,k⟩:=g;obtain⟨⟨a,u⟩,p,r⟩:=Nc.mp e;obtain⟨b,o,q⟩:=Nf.mp r;cases q;exact⟨R,f,h,a,_,l,st,p,fun R1 s x i d j=>⟨_,QhH d j o,k R1 s i d⟩⟩
end
noncomputable def W7:Expr->Bool
 |.ListComp ..=>true
 |.SetComp ..=>true
 |.DictComp ..=>true
 |_=>false
theorem Kh(h:W7 e=false):swapsWith e t l env=pure false:=by
 cases e<;>first|rfl|cases h
noncomputable def QV:SM:=fun a h=>some (.nx a h)
noncomputable def Qt(a b:SM):SM:=fun d h=>(a d h).bind fun r=>match r with|.nx c e=>b c e|r=>some r
noncomputable def Zo(m:ME):SM:=fun a h=>(m a h).map fun p=>.rt p.1 p.2
noncomputable def Jr(t:MT)(a b:SM):SM:=fun c h=>(t c h).bind fun p=>match p.1 with|true=>a c p.2|false=>b c p.2
noncomputable def ZN(m:ME):SM:=fun a h=>(m a h).map fun p=>.nx a p.2
noncomputable def Zb(i:Nat)(m:ME):SM:=fun a h=>(m a h).map fun p=>.nx (a.set i (some p.1)) p.2
noncomputable def Qd6(i:Nat)(f:W->W->MH->Option (W×MH))(m:ME):SM:=fun a h=>match a[i]? with
 |some (some x)=>(m a h).bind fun p=>(f x p.1 p.2).map fun q=>.nx (a.set i (some q.1)) q.2
 |_=>none
section
variable{X:Cx}{st:Stmt}{rest:List Stmt}{a b:SM}{e:Expr}{m:ME}{pos:Pos}
theorem QfN:Qcx X [] QV:=QaZ QeQ <|by
 rintro D d H ⟨R,c,h,r,f,s,e,k⟩
 cases e;exact k R H d (Ext.refl _) f s
theorem Qiw{K:Nd}(q:tS K (Qt a b) D σ H):Qk7 (tS K a) (tS K b) D σ H:=by
 obtain⟨R,g,h,r,p,s,e,k⟩:=q;obtain⟨j,t,f⟩:=Nc.mp e;refine⟨R,g,h,j,p,s,t,?_⟩;cases j with
 |nx c d=>exact fun R1 u l n i o=>⟨R1,c,d,r,i,o,f,Ends.ext k n⟩
 |rt w d=>cases f;exact k
 |bk c d=>cases f;exact k
 |ct c d=>cases f;exact k
theorem Qdm(d:PMS X st a)(c:Qcx X rest b):Qcx X (st::rest) (Qt a b):=QaZ (Qdz d c) fun _ _ _=>Qiw
theorem QfP(c:PMS X st a):Qcx X [st] a:=Qe4 c
theorem Qc8(l:PM X e m)(j:W7 e=false:=by rfl):PMS X (.Expr e pos) (ZN m):=Vl (Qgi l (Kh j)) <|by
 rintro D g H ⟨R,c,h,r,i,s,e,k⟩
 obtain⟨⟨w,n⟩,p,o⟩:=Nf.mp e;cases o;exact⟨R,c,h,w,n,i,s,p,fun R1 q v f d _=>k R1 q g f d (s.mono f)⟩
theorem Qfb(f:PM X e m):PMS X (.Return (some e) pos) (Zo m):=Vl (Qhy f) <|by
 rintro D l H ⟨R,c,h,r,d,s,e,k⟩
 obtain⟨⟨w,g⟩,j,i⟩:=Nf.mp e;cases i;exact⟨R,c,h,w,g,d,s,j,k⟩
theorem Qhp(p:PMT X c t)(u:Qcx X n a)(q:Qcx X l b):PMS X (.If c n l pos) (Jr t a b):=Vl (Qjm p u q) <|by
 rintro D w H ⟨R,d,h,r,o,s,e,k⟩
 obtain⟨⟨z,i⟩,v,j⟩:=Nc.mp e;refine⟨R,d,h,z,i,o,s,v,fun R1 x g f=>?_⟩;cases z with
 |true=>exact Qew ⟨R1,d,i,r,f,s.mono g,j,Ends.ext k g⟩
 |false=>exact QeC ⟨R1,d,i,r,f,s.mono g,j,Ends.ext k g⟩
theorem QeV(hN:X.N.Nodup)(p:X.N[i]?=some x)(n:Loc X.env.scope x)(t:PM X e m)(o:W7 e=false:=by rfl)(q:X.fn x=true\/X.env.scope.names.lookup x=some .local:=by first|exact .inl rfl|exact .inr rfl|assumption) :
  PMS X (.Assign [.Name x g] e pos) (Zb i m):=Vl (Qik hN p n t (Kh o) q) <|by
 rintro D B H ⟨R,c,h,r,l,s,e,k⟩
 obtain⟨⟨w,u⟩,z,y⟩:=Nf.mp e;cases y;exact⟨R,c,h,w,u,l,s,z,fun R1 A v f d j=>k R1 A _ f d ((s.mono f).set j)⟩
theorem Qh5(c:OpR X (inplaceOp op) r):PIp X op r:=c
theorem Y3(hN:X.N.Nodup)(L:X.N[i]?=some x)(I:Loc X.env.scope x)(J:OpR X (inplaceOp op) r)(M:OpM X.K r f)(O:PM X e m)
  (p:X.fn x=true\/X.env.scope.names.lookup x=some .local:=by first|exact .inl rfl|exact .inr rfl|assumption):PMS X (.AugAssign (.Name x t) op e pos) (Qd6 i f m):=
 Vl (Qiz hN L I O (Qh5 J) p) fun D Z H A=>by
  obtain⟨R,c,h,r,G,s,e,k⟩:=A;unfold Qd6 at e;split at e
  ·rename_i B n;obtain⟨⟨w,u⟩,U,T⟩:=Nc.mp e;obtain⟨⟨z,P⟩,S,Q⟩:=Nf.mp T;cases Q;obtain⟨v0,o,g⟩:=s.2 i _ n;refine⟨v0,o,R,c,h,w,u,G,s,U,fun R1 H1 v d l E=>?_⟩;exact M _ _ _ _ ⟨R1,u,B,w,z,P,l,Rw.mono d _ _ g,E,S,fun R2 Y y q j C=>k R2 Y _ (d.trans q) j ((s.mono (d.trans q)).set C)⟩
  ·cases e
end
noncomputable def Qhb(r:Option MF):Option (W×MH):=match r with|some (.rt w h)=>some (w,h)|some (.nx _ h)=>some (.non,h)|_=>none
noncomputable def QJ(more:Nat)(m:SM):FM:=fun a h=>Qhb (m (a.map some++List.replicate more none) h)
theorem Rst.start{K:Nd}(r:Rws K R ws d)(k:Nat)(f:N.length=ws.length+k):Rst K R (ws.map some++List.replicate k none) (start N d):=by
 have c:=r.length;unfold L2.start;refine⟨by simp[f,c],fun i w e=>?_⟩
 by_cases b:i<ws.length
 ·rw[NT (by simpa using b)]at e;rw[NT (by simpa[<-c]using b)];rw[Nz]at e ⊢;obtain⟨l,a,j⟩:=Nf.mp e;cases j;obtain⟨v,h,g⟩:=r.get a;exact⟨v,by rw[h];rfl,g⟩
 ·rw[ER (by simpa using b)]at e;rw[Iv]at e;split at e<;>cases e
section
variable{P:Program}{w:World}{K:Nd}{mg:Str->Option Value}{base:Heap}
theorem Qkg{st:Stmt}{N ps:List Str}{m:SM}(F:Fun K x c st f fd)(S:FnScope N ps (Qe st))(hN:N.length=ps.length+more)
  (g:∀(b:Value) (A:Around) (a:List Env) (s:Shared) (H:Hp) (E:XK),Room k (A.deeper (envOfC c (Qe st) s.heap.objs.size f b))->Qcx (Qef CX0 P w K mg base N c (Qe st) f b A a s H E).nox (JN st) m) :
  FnOk P w K mg base CX0 (k+1) f fd ps (spM K ps.length (QJ more m)):=by
 refine F.ok S (fun v H Q E q=>?_) (fun b A a s H v Q E hr q=>?_)
 ·obtain⟨R,u,h,w,z,l,j,d,_⟩:=q;rw[<-d.length];exact l
 ·refine⟨_,g b A a s H E hr,?_⟩;obtain⟨R,u,h,w,z,l,j,d,e,o⟩:=q;have st:=Rst.start (N:=N) d more (by rw[hN,l]);unfold QJ Qhb at e;split at e
  ·rename_i C y n;cases e;exact⟨R,_,h,_,j,st,n,o⟩
  ·rename_i p y n;cases e;exact⟨R,_,h,_,j,st,n,fun R1 B r t i _=>o R1 B .non t i Rw.non⟩
  ·cases e
end
section
variable{X:Cx}{CX:CXT}{k:Nat}{f:Addr}{fd:FuncData}{ps:List Str}{g:FM}{E:XK}{x:Str}{p pos:Pos}{e:Expr}{es:List Expr}{ms:MA}
noncomputable def Qg(n:Nat)(g:FM)(ms:MA):ME:=mFn (fun a h=>if a.length=n then g a h else none) ms
theorem QeS{K:Nd}(q:tI K (Qg n g ms) σ H Q):QiJ (spM K n g) [] E (tIA K ms) σ H Q:=by
 refine Wc (Qaf q) fun l m b=>?_;obtain⟨R,h,c,w,j,d,a,e,k⟩:=b;dsimp only at e;split at e
 ·rename_i i;exact⟨R,c,h,w,j,i,d,by rw[EI];exact a,e,k⟩
 ·cases e
theorem QfJ(F:FnOk X.prog X.w X.K X.mg X.base CX k f fd ps (spM X.K ps.length g))(hr:Room k X.A)(i:Gl X x)(d:X.mg x=some (.ref f))(h:DF X.K (.ref f)=true)(l:Binds X.K fd ps [])(c:Gz CX X E)
  (m:PMA X (e::es) ms) (b:(x==("__debug__":Str))=false:=by decide) (j:Z8 e=false:=by rfl) (a:V0 es=true:=by rfl) :
  PM X (.Call (.Name x p) (e::es) [] pos) (Qg ps.length g ms):=QM (QeP F hr i d h l .nil c m b (Qn j) (Zg a)) fun _ _ _=>QeS
end
section
variable{X:Cx}{x:Str}{p pos:Pos}{e:Expr}{es:List Expr}{ms:MA}{id T:String}{r:List V->Hp->VK->Prop}{f:List W->MH->Option (W×MH)}
theorem VP(m:CallR X (.builtin id) r)(j:QfC X.K r f)(i:Gl X x)(h:X.mg x=none)(d:bootBuiltins x=some (.builtin id))(n:PMA X (e::es) ms)(g:x≠"__name__":=by decide)(b:(x==("__debug__":Str))=false:=by decide)
  (l:Z8 e=false:=by rfl) (a:V0 es=true:=by rfl):PM X (.Call (.Name x p) (e::es) [] pos) (mFn f ms):=
 QM (Qd1 m i h d n g b (Qn l) (Zg a)) fun _ _ _ q=>Wc (Qaf q) fun _ _ c=>j _ _ _ c
theorem Uc(m:CallR X (.type T) r)(j:QfC X.K r f)(i:Gl X x)(h:X.mg x=none)(d:bootBuiltins x=some (.type T))(n:PMA X (e::es) ms)(g:x≠"__name__":=by decide)(b:(x==("__debug__":Str))=false:=by decide)
  (l:Z8 e=false:=by rfl) (a:V0 es=true:=by rfl):PM X (.Call (.Name x p) (e::es) [] pos) (mFn f ms):=
 QM (Qb7 m i h d n g b (Qn l) (Zg a)) fun _ _ _ q=>Wc (Qaf q) fun _ _ c=>j _ _ _ c
end
inductive Src where
 |l (n:Nat)
 |d (n:Nat)
 |r (n:Nat)
 |v (n:Nat)
 |i (n:Nat)
 |z (n m a b:Nat)
noncomputable def Src.ok(items:List W)(h:MH):Src->Prop
 |.l n=>h[n]?=some (.lst items)
 |.d n=>∃kvs,h[n]?=some (.dct kvs)/\kvs.map (·.1)=items
 |.r n=>h[n]?=some (.lst items.reverse)
 |.v n=>∃kvs,h[n]?=some (.dct kvs)/\kvs.map (·.2)=items
 |.i n=>∃kvs,h[n]?=some (.dct kvs)/\kvs.map (fun p=>.tup [p.1,p.2])=items
 |.z n m a b=>∃as bs,h[n]?=some (.lst as)/\h[m]?=some (.lst bs)/\(as.zip bs).map (fun q=>.tup [q.1,q.2])=items/\as.length=a/\bs.length=b
def live(a:Option Src)(items:List W)(h:MH):Prop:=∀n,a=some n->n.ok items h
noncomputable abbrev MI:=MSt->MH->Option (List W×Option Src×MH)
structure ItOk(K:Nd)(R:Rn)(J:It)(items:List W)(src:Option Src):Prop where
 go:∀i w R' h H,Ext R R'->Rh K R' h H->live src items h->items[i]?=some w->J.go i H
 yld:∀i w R' h H x H',Ext R R'->Rh K R' h H->live src items h->items[i]?=some w->J.yld i H x H'->∃R'',Ext R' R''/\Rh K R'' h H'/\Rw K R'' w x
 stop:∀i R' h H,Ext R R'->Rh K R' h H->live src items h->items.length<=i->J.stop i H
noncomputable def tII(K:Nd)(m:MI):TI:=fun f H C=>∃R a h items b d,Rh K R h H/\Rst K R a f/\m a h=some (items,b,d)/\∀c e J,Ext R c->Rh K c d e->ItOk K c J items b->C J e
def PMI(X:Cx)(a iter:Expr)(m:MI):Prop:=PI X a iter (tII X.K m)
theorem W4(h:PI X b iter t)(i:∀σ H C,t' σ H C->t σ H C):PI X b iter t':=fun a s σ H C I q=>h a s σ H C I (i _ _ _ q)
noncomputable abbrev MG:=W->MSt->MH->Option MSt
noncomputable def tIG(K:Nd)(b:MG):TG:=fun v g H C=>∃R a h w c,Rh K R h H/\Rst K R a g/\Rw K R w v/\b w a h=some c/\∀e f d,Ext R e->Rh K e h f->Rst K e c d->C d f
def PMG(X:Cx)(a:Expr)(b:MG):Prop:=PG X a (tIG X.K b)
theorem Qeh(h:PG X b t)(i:∀v σ H C,t' v σ H C->t v σ H C):PG X b t':=fun a s σ H v u C I r q=>h a s σ H v u C I r (i _ _ _ _ q)
noncomputable def ZJ(i:Nat):MG:=fun w a _=>some (a.set i (some w))
theorem Gb(hN:X.N.Nodup)(f:X.N[i]?=some x)(d:Loc X.env.scope x)(g:X.fn x=true\/X.env.scope.names.lookup x=some .local:=by first|exact .inl rfl|exact .inr rfl|assumption) :
  PMG X (.Name x pos) (ZJ i):=Qeh (QaR hN f d g) <|by
 rintro v j H C ⟨R,a,h,w,b,c,st,rw,e,k⟩
 cases e;exact k R H _ (Ext.refl _) c (st.set rw)
open Classical in
noncomputable def Ky(items:List W)(c:Option Src)(b:MG)(body:SM):List W->SM
 |[],σ,h=>if live c items h then some (.nx σ h)else none
 | w::r,σ,h=>if live c items h then(b w σ h).bind fun e=>(body e h).bind fun z=>match z with
   |.nx a d=>Ky items c b body r a d
   |.ct a d=>Ky items c b body r a d
   |.bk a d=>some (.nx a d)
   |.rt v d=>some (.rt v d)
  else none
noncomputable def VZ(mi:MI)(b:MG)(body:SM):SM:=fun a h=>(mi a h).bind fun p=>Ky p.1 p.2.1 b body p.1 a p.2.2
section
variable{X:Cx}{tg iter:Expr}{body:List Stmt}{mi:MI}{b:MG}{m:SM}{pos:Pos}
theorem Qig{K:Nd}(q:tS K (VZ mi b m) D σ H):Qlg (tII K mi) (tIG K b) (tS K m) D σ H:=by
 obtain⟨R,A,h,r,rh,s,e,k⟩:=q;obtain⟨⟨items,t,h1⟩,e1,e2⟩:=Nc.mp e;refine⟨R,A,h,items,t,h1,rh,s,e1,fun R1 H1 J x1 ab it=>?_⟩;refine⟨fun i n σ H=>i+n=items.length/\∃R2 g l,Ext R1 R2/\Rh K R2 l H/\Rst K R2 g σ/\∃r,Ky items t b m (items.drop i) g l=some r/\Ends K R2 D r,⟨items.length,by simp,R1,A,h1,Ext.refl _,ab,s.mono x1,r,by simpa using e2,Ends.ext k x1⟩,?_⟩
 rintro i n E T ⟨af,R2,g,l,I,j,s2,r2,d,M⟩
 by_cases N:i<items.length
 ·obtain⟨w,hw⟩:∃w,items[i]?=some w:=⟨items[i],Ni N⟩
  have hd:items.drop i=w::items.drop (i+1):=by
   rw[Ei N];rw[Ni N]at hw;cases hw;rfl
  rw[hd]at d;unfold Ky at d;split at d
  ·rename_i Q;obtain⟨C,e4,e5⟩:=Nc.mp d;obtain⟨z,e6,S⟩:=Nc.mp e5;refine .inr ⟨it.go i w R2 l T I j Q hw,fun G U=>∃y B h4,Ext R1 y/\Rh K y h4 U/\Rst K y B G/\∃r,Ky items t b m (items.drop (i+1)) B h4=some r/\Ends K y D r,fun G U hn=>⟨n-1,by omega,by omega,hn⟩,fun x U hy=>?_⟩;obtain⟨y,p,aa,Y⟩:=it.yld i w R2 l T x U I j Q hw hy;refine⟨y,g,l,w,C,aa,s2.mono p,Y,e4,fun R4 H4 ae u Z s4=>?_⟩;refine⟨R4,C,l,z,Z,s4,e6,?_⟩;cases z with
   |nx f O=>exact fun P H5 a o c L=>⟨P,f,O,I.trans (p.trans (u.trans o)),c,L,r2,S,Ends.ext M (p.trans (u.trans o))⟩
   |ct f O=>exact fun P H5 a o c L=>⟨P,f,O,I.trans (p.trans (u.trans o)),c,L,r2,S,Ends.ext M (p.trans (u.trans o))⟩
   |bk f O=>cases S;exact fun P H5 a o c L=>M P H5 a (p.trans (u.trans o)) c L
   |rt v O=>cases S;exact After.ext M (p.trans u)
  ·cases d
 ·have hd:items.drop i=[]:=Eh (NQ.mp N);rw[hd]at d;unfold Ky at d;split at d
  ·rename_i Q;cases d;exact .inl ⟨it.stop i R2 l T I j Q (NQ.mp N),M R2 T E (Ext.refl _) j s2⟩
  ·cases d
theorem Qf2(c:PassesOwn (model X.prog X.w) X.A X.env X.xe)(f:X.calm=true)(d:PMI X tg iter mi)(e:PMG X tg b)(g:Qcx X body m)
  (a:∀x,foldedSetIterable iter X.env x=pure x:=by intro _;rfl):PMS X (.For tg iter body [] pos) (VZ mi b m):=Vl (Qip c f d e g a) fun _ _ _=>Qig
end
noncomputable def QF(t:MT)(body:SM):Nat->SM
 |0,_,_=>none
 | n+1,σ,h=>(t σ h).bind fun p=>match p.1 with
  |false=>some (.nx σ p.2)
  |true=>(body σ p.2).bind fun z=>match z with
   |.nx a b=>QF t body n a b
   |.ct a b=>QF t body n a b
   |.bk a b=>some (.nx a b)
   |.rt v b=>some (.rt v b)
section
variable{X:Cx}{c:Expr}{body:List Stmt}{t:MT}{m:SM}{pos:Pos}
theorem Qde{K:Nd}(q:tS K (QF t m n) D σ H):Qex (tIT K t) (tS K m) D σ H:=by
 obtain⟨R,E,h,r,U,s,e,k⟩:=q;refine⟨fun n σ H=>∃R2 b B,Rh K R2 B H/\Rst K R2 b σ/\∃r,QF t m n b B=some r/\Ends K R2 D r,⟨n,R,E,h,U,s,r,e,k⟩,?_⟩
 rintro n j H2 ⟨R2,b,B,I,G,N,J,w⟩
 cases n with
 |zero=>cases J
 | succ n=>
  unfold QF at J;obtain⟨⟨z,P⟩,e3,Q⟩:=Nc.mp J;refine⟨R2,b,B,z,P,I,G,e3,fun S H3 g u=>?_⟩;cases z with
  |false=>
   cases Q;exact QeC (w S H3 j g u (G.mono g))
  |true=>
   obtain⟨y,Z,C⟩:=Nc.mp Q;refine Qew ⟨fun l T=>∃L i O,Rh K L O T/\Rst K L i l/\∃r,QF t m n i O=some r/\Ends K L D r,fun l T Y=>⟨n,Eg _,Y⟩,?_⟩;refine⟨S,b,P,y,u,G.mono g,Z,?_⟩;cases y with
   |nx f x=>exact fun A M a o d p=>⟨A,f,x,d,p,N,C,Ends.ext w (g.trans o)⟩
   |ct f x=>exact fun A M a o d p=>⟨A,f,x,d,p,N,C,Ends.ext w (g.trans o)⟩
   |bk f x=>cases C;exact fun A M a o d p=>w A M a (g.trans o) d p
   |rt v x=>cases C;exact After.ext w g
theorem KK(n:Nat)(a:PassesOwn (model X.prog X.w) X.A X.env X.xe)(b:PMT X c t)(d:Qcx X body m):PMS X (.While c body [] pos) (QF t m n):=Vl (Qdu a b d) fun _ _ _=>Qde
end
section
variable{prog:Program}{w:World}{A:Around}{E:Value->Shared->Prop}{R:Result->Shared->Prop}{s:Shared}
theorem Us(I:Nat->Shared->Prop)
  (q:∀n s,I n s->wpAny (model prog w) A (pyNext it) (fun r d=>match r with
   |none=>R (.ok .next) d
   | some v=>wpAny (model prog w) A (letOwnedTupleGo target it v) (fun _ b=>wpAny (model prog w) A (assign target env v) (fun _ i=>
     wpAny (model prog w) A (forIn t true fun c r=>if r=true then do let ok <-isTrue c env (eval c env);pure (ForInStep.yield ok)else pure (ForInStep.yield r)) (fun ok a=>
      if ok=true then wpAny (model prog w) A (eval B env) (fun x g=>
       wpAny (model prog w) A (call (.builtin "list.append") [C,x]) (fun _ f=>∃m,m<n/\I m f) (fun _ _=>False) g) (fun _ _=>False) a
      else∃m,m<n/\I m a) (fun _ _=>False) i) (fun _ _=>False) b) (fun _ _=>False) d) (fun _ _=>False) s)
  (n:Nat) (h:I n s) :
  codeAny (model prog w) A (.compLoop (.ListComp B [⟨target,iter,t,0⟩] o pos) 0 it C env) R s:=by
 refine codeAny_loop rfl I (fun n s D=>?_) n h;show wpAny _ A ((compTurn (.ListComp B [⟨target,iter,t,0⟩] o pos) 0 it C env).onRaise (fun x=>do noteFrame x env;theTreesLotGoes x)) _ _ s;refine wpAny_noted ?_;rw[compTurn_list];refine Na (Lu (Na (N0 (q n s D) (fun r d l=>?_) fun _ _ e=>e.elim)));cases r with
 |none=>exact Ng l
 | some v=>
  refine Na (N0 l (fun _ b p=>?_) fun _ _ e=>e.elim);refine Na (N0 p (fun _ i z=>Na (N0 z (fun ok a j=>?_) fun _ _ e=>e.elim)) fun _ _ e=>e.elim);cases ok with
  |false=>exact Ng ⟨rfl,j⟩
  |true=>
   exact Na (Na (N0 j (fun x g y=>Na (N0 y (fun _ f u=>Ng (Ng ⟨rfl,u⟩)) fun _ _ e=>e.elim)) fun _ _ e=>e.elim))
end
theorem sz{h:Heap}(e:h.get? b=some o)(a:h.objs.size<=n):¬b=n:=fun z=>by
 have c:@LT.lt Nat instLTNat b h.objs.size:=Nu e;subst z;exact Ev _ (Nn c a)
noncomputable abbrev blk(X:Cx)(a:Scope)(b:List (Str×Addr))(Nb:List Str)(s₀:Shared)(H₀:Hp)(C:Addr)(ex:List Addr)(pn:List (Addr×Obj)):Cx:=
 { X with N:=Nb,s₀:=s₀,H₀:=H₀,env:=compEnvC a b C X.env,outer:=X.stack,stack:=X.stack,ex:=ex,fn:=fun _=>false,pn:=pn,xe:=fun _ _=>False }
structure BlkOk(X:Cx)(scope:Scope)(cl:List (Str×Addr))(Nb:List Str)(cp:List (Option Nat)):Prop where
 clos:closureFor scope X.env=pure cl
 cell:∀y∈scope.names,y.2≠.cell
 kind:scope.kind=.function
 names:∀y∈scope.names,y.2=.local->scope.names.lookup y.1=some .local
 sub:∀x c,cl.lookup x=some c->X.env.cells.lookup x=some c
 has:∀x,((relabel scope X.env).names.lookup x=some .cell\/(relabel scope X.env).names.lookup x=some .free)->∃c,cl.lookup x=some c
 len:cp.length=Nb.length
 cap:∀(i j:Nat) (x:Str),cp[i]?=some (some j)->Nb[i]?=some x->X.N[j]?=some x/\Vis X.env.scope x/\(X.env.kindOf x=some .cell\/X.env.kindOf x=some .free)/\((relabel scope X.env).names.lookup x=some .cell\/(relabel scope X.env).names.lookup x=some .free)
noncomputable def WJ(cp:List (Option Nat))(σ:L2.St):L2.St:=cp.map fun o=>match o with|none=>none|some j=>match σ[j]? with|some v=>v|none=>none
noncomputable def QdT(l:TI)(cp:List (Option Nat))(g:TG)(tt:TT)(te:TE):TE:=fun f H Q=>l f H fun J p=>∃W:Nat->Nat->List V->L2.St->Hp->Prop,(∃m,W 0 m [] (WJ cp f) p)/\∀i m a e H,W i m a e H ->
 (J.stop i H/\∀D,H D=none->Q (.ref D) (upd H D (.lst a))) \/
 (J.go i H/\∀x j,J.yld i H x j->g x e j fun c o=>tt c o fun b h=>if b=true then te c h fun v n=>a.length<sizeLine/\∃d,d<m/\W (i+1) d (a++[v]) c n else∃d,d<m/\W (i+1) d a c h)
theorem Inv.track(I:Inv X d σ H s)(g:H D=none)(m:X.s₀.heap.objs.size<=D)(l:X.env.locals≠D)(j:∀x c,X.env.cells.lookup x=some c->c≠D)
  (i:∀p∈X.pn++d,p.1≠D) (ob:ObjOk X.prog X.w (upd H D o) s.heap D o):Inv X d σ (upd H D o) s where
 ok:=I.ok
 os:=I.os
 bare:=I.bare
 base:={
  keep:=I.base.keep
  slot:=I.base.slot
  free:=fun b q e n nx=>by
   have:b≠D:=sz e m;rw[Qo this];exact I.base.free b q e n nx
  there:=I.base.there
  tups:=fun b h e=>by
   have q:=I.base.tups b h e;rw[Qo (fun z=>by rw[z,g]at q;cases q)];exact q
  frzs:=fun b q u e=>by
   have z:=I.base.frzs b q u e;rw[Qo (fun y=>by rw[y,g]at z;cases z)];exact z
  tbls:=fun b ps e=>by
   obtain⟨more,q⟩:=I.base.tbls b ps e
   exact⟨more,by rw[Qo (fun z=>by rw[z,g]at q;cases q)];exact q⟩ }
 loc:=I.loc
 cell:=I.cell
 free:=by rw[Qo l];exact I.free
 freeC:=fun x c e=>by rw[Qo (j x c e)];exact I.freeC x c e
 pin:=fun p f=>by
  obtain⟨a,b,c⟩:=I.pin p f;exact⟨a,by rw[Qo (i p f)];exact b,c⟩
 hok:=fun a u e=>by
  by_cases z:a=D
  ·subst z;rw[Jf]at e;cases e;exact ob
  ·rw[Qo z]at e;refine(I.hok a u e).stay (fun _ _ _ q=>q) (fun b q=>?_) (fun b h q=>?_)
   ·rw[Qo (fun y=>by rw[y,g]at q;cases q)];exact q
   ·rw[Qo (fun y=>by rw[y,g]at q;cases q)];exact q
 len:=I.len
section
variable{X:Cx}{elt tg iter:Expr}{ifs:List Expr}{scope:Scope}{pos:Pos}{cl:List (Str×Addr)}{Nb:List Str}{cp:List (Option Nat)}{wi:TI}{g:TG}{tt:TT}{te:TE}
theorem Cx.Ok.blk(B:BlkOk X scope cl Nb cp)(I:Inv X d σ H s)(f:∀b∈l,Qaz X d H b)(i:∀b∈l,b<s.heap.objs.size)(j:s.heap.objs.size<=C) :
  (blk X scope cl Nb s H C l p).Ok where
 mod:=I.ok.mod
 kind:=B.kind
 glob:=I.ok.glob
 blt:=I.ok.blt
 above:=j
 inj:=fun x y c n m=>I.ok.inj x y c (B.sub x c n) (B.sub y c m)
 has:=fun x h=>B.has x h
 cab:=fun x c h=>absurd h (by simp)
 hd:=I.ok.hd
 frames:=I.ok.frames
 stk:=.inl rfl
 exf:=fun b a=>⟨fun z=>by have:=i b a;rw[z]at this;exact absurd j (FA.mpr this),fun x c e=>(f b a).2.2.2.2.1 x c (B.sub x c e)⟩
 bs:=I.bs
 bsz:=Nl I.ok.bsz I.sz
 noex:=fun b o e a=>by
  rcases(f b a).2.2.2.1 with z|z
  ·exact I.ok.noex b o e z
  ·exact sz e (Nl I.ok.bsz z) rfl
 exfs:=fun b a z=>by
  have:=I.stkSub b z
  rcases NH.mp this with q|q
  ·exact(f b a).2.1 q
  ·exact(f b a).2.2.1 q
 funs:=I.stack
 frf:=fun b a=>I.stkFree b a
theorem Qb6{cp:List (Option Nat)}{σ:L2.St}{i:Nat}{v:V}(e:(WJ cp σ)[i]?=some (some v)):∃j,cp[i]?=some (some j)/\σ[j]?=some (some v):=by
 unfold WJ at e;rw[Nz]at e;obtain⟨o,b,a⟩:=Nf.mp e;cases o with
 |none=>cases a
 |some j=>
  refine⟨j,b,?_⟩;simp only at a;split at a
  ·rename_i u hu;rw[hu,a]
  ·cases a
theorem Inv.blk{H:Hp}{C:Addr}{N:List Addr}{tk:Nat}(B:BlkOk X scope cl Nb cp)(I:Inv X f σ H s)(P:∀b∈N,Qaz X f H b)(G:∀b∈N,b<s.heap.objs.size)
  (J:s.heap.objs.size<=C) (D:h'.Ns C m) (y:∀b o,s.heap.get? b=some o->h'.get? b=some o):Inv (Mi.blk X scope cl Nb s H C N (X.pn++f)) [] (WJ cp σ) H { s with heap:=h',toks:=tk } where
 ok:=Cx.Ok.blk B I P G J
 os:=rfl
 bare:=I.bare
 base:=Un.kept y
 loc:=by
  refine⟨m,D,fun i x v hN e hv=>?_⟩;obtain⟨j,T,S⟩:=Qb6 e;obtain⟨R,t,E,w⟩:=B.cap i j x T hN;obtain⟨Z,Y,lk⟩:=I.loc;obtain⟨u,r,l⟩:=lk j x v R S t;refine⟨u,r,?_⟩
  rcases l with⟨h,_⟩|⟨_,c,Q,n⟩
  ·rcases E with z|z<;>rw[z]at h<;>cases h
  ·refine .inr ⟨w,?_⟩;obtain⟨U,A⟩:=B.has x w;have:=B.sub x U A;rw[Q]at this;cases this
   exact⟨c,A,by
    obtain⟨o,M,L⟩:=n
    exact⟨o,y _ _ M,L⟩⟩
 cell:=fun x c e=>by
  obtain⟨v,o,M,L⟩:=I.cell x c (B.sub x c e);exact⟨v,o,y _ _ M,L⟩
 free:=I.hok.fresh J
 freeC:=fun x c e=>I.freeC x c (B.sub x c e)
 pin:=fun p O=>by
  rw[EI]at O;obtain⟨a,b,c,d,e⟩:=I.pin p O;refine⟨y _ _ a,b,fun z=>?_,fun z=>?_,e⟩
  ·have:=Nu a;rw[z]at this;exact absurd J (FA.mpr this)
  ·rcases NH.mp (I.stkSub _ z)with q|q
   ·exact c q
   ·exact d q
 hok:=I.hok.kept y
 len:=by unfold WJ;rw[NC];exact B.len
def Qkj(X:Cx)(a:List (Addr×Obj))(σ:L2.St)(use:Option (Value->Sem Unit))(Q:VK)(Q':Value->Shared->Prop):Prop:=
 ∀(D C:Addr) (d:Hp) (b:Shared) (m:Str->Option Value),Inv X a σ d b->b.heap.Ns C m->d C=none->¬C=X.env.locals->X.s₀.heap.objs.size<=C->(∀x c,X.env.cells.lookup x=some c->c≠C)->(∀p∈X.pn++a,p.1≠C)->Q (.ref D) d ->
  compPost (model X.prog X.w) X.A X.xe use Q' (.ref D) C (.ok .next) b
theorem GC(hc:X.calm=true)(B:BlkOk X scope cl Nb cp)(hi:PI X tg iter wi)(hg:∀P S C ex pn,PG (Mi.blk X scope cl Nb P S C ex pn) tg g)
  (ht:∀P S C ex pn,∀(j:List (Addr×Obj)) (s:Shared) (τ:L2.St) (H:Hp) (Q:Bool->Hp->Prop),Inv (Mi.blk X scope cl Nb P S C ex pn) j τ H s->tt τ H Q ->
   wpAny (model X.prog X.w) X.A (forIn ifs true fun c r=>if r=true then do let ok <-isTrue c (compEnvC scope cl C X.env) (eval c (compEnvC scope cl C X.env));pure (ForInStep.yield ok)else pure (ForInStep.yield r)) (TP (Mi.blk X scope cl Nb P S C ex pn) j τ Q) (fun _ _=>False) s)
  (he:∀P S C ex pn,PE (Mi.blk X scope cl Nb P S C ex pn) elt te) (hs:∀x,foldedSetIterable iter X.env x=pure x)
  (I:Inv X j σ H s) (h:QdT wi cp g tt te σ H Q) (a4:Qkj X j σ use Q Q') :
  wpAny (model X.prog X.w) X.A (comprehension (.ListComp elt [⟨tg,iter,ifs,0⟩] scope pos) scope X.env bn (newList []) false (eval iter X.env) use) Q' X.xe s:=by
 refine wpAny_comprehension_free (use:=use) rfl hs B.clos B.kind B.names (N0 (hi j s σ H _ I h) (fun xv bm Y=>N0 Y (fun bo f a1=>?_) fun _ _ e=>e) fun _ _ e=>e);obtain⟨it,fp,tn,J,Z,rfl,I2,T,ar,f2,W,⟨m0,w0⟩,ay⟩:=a1
 have au:∀b∈fp,b<f.heap.objs.size:=fun b E=>by
  obtain⟨o,e,_⟩:=T.obj _ _ ar b E;exact Nu e
 refine N3 (wpAny_newFunctionEnv B.cell (by intro y hy;simp at hy) (fun Y N G=>?_) B.kind);dsimp only at N G ⊢;generalize av:f.heap.push { cls:=.type "list",dict:=none,data:=.seq ([]:List Value).toArray }=G2 at N G ⊢;have al:G2.objs.size=f.heap.objs.size+1:=by rw[<-av,D7]
 generalize be:G2.objs.size=C at N G ⊢;rw[be]at al;have ab:f.heap.objs.size<=C:=by exact Nl (Nv _ _) (Nr al.symm)
 have ai:f.heap.objs.size≠C:=by exact NG (Nn (Eg _) (Nr al.symm))
 have old:∀b o,f.heap.get? b=some o->Y.get? b=some o:=fun b o e=>G.extBut b o (sz e ab) (Nk _ (av▸Nk _ e));have an:Y.get? f.heap.objs.size=some { cls:=.type "list",data:=.seq ([]:List Value).toArray }:=G.extBut _ _ ai (Nk _ (av▸Nw _ rfl));generalize hD:f.heap.objs.size=D at an ai ab al ⊢;have m:f.heap.objs.size<=D:=Nr hD;have O:f.heap.objs.size<=C:=Nl m ab;have I3:=Inv.blk (tk:=f.toks+([]:List (Str×Value)).length) B I2 f2 au (C:=C) (Nl (Nr hD) ab) N old;have ao:D∉fp:=fun z=>Ev _ (Nn (au D z) m);have a5:C∉fp:=fun z=>Ev _ (Nn (au C z) O)
 have ax:∀x c,cl.lookup x=some c->c≠D:=fun x c e z=>by
  obtain⟨v,o,h3,_⟩:=I2.cell x c (B.sub x c e);exact sz h3 m z
 have ap:∀p∈X.pn++j,p.1≠D:=fun p R z=>sz (I2.pin p R).1 m z;have a7:∀p∈X.pn++j,p.1≠C:=fun p R z=>sz (I2.pin p R).1 O z
 have bg:D∉frs X.stack:=fun z=>by
  rcases NH.mp (I2.stkSub _ z)with q|q
  ·exact Ev _ (Nn (q▸I2.lt:D<f.heap.objs.size) m)
  ·exact I2.nofs m q
 have aj:∀{t:Hp} {pl:List (Addr×Obj)},(∀b∈fp,t b=none)->(∀p∈pl,p.1=D)->∀b∈fp,Qaz (Mi.blk X scope cl Nb f Z C fp (X.pn++j)) pl t b:=fun {t pl} hn bb b E=>
  ⟨hn b E,fun(z:b=C)=>a5 (z▸E),fun z=>by
   rcases NH.mp (I2.stkSub _ z)with q|q
   ·exact(f2 b E).2.1 q
   ·exact(f2 b E).2.2.1 q,.inl E,fun x c e=>(f2 b E).2.2.2.2.1 x c (B.sub x c e),fun p R z=>by
   rcases Eo.mp R with q|q
   ·exact(f2 b E).2.2.2.2.2 p q z
   ·rw[bb p q]at z;exact ao (z▸E)⟩
 have bp:∀{t:Hp},(∀b∈fp,t b=none)->∀b∈fp,Qaz X j t b:=fun hn b E=>⟨hn b E,(f2 b E).2⟩
 have fin:∀{τ:L2.St} {t:Hp} {M:Shared} {L:List V} {l:List Value} {n:Nat} {mC:Str->Option Value},Inv (Mi.blk X scope cl Nb f Z C fp (X.pn++j)) [] τ t M->t D=none->M.heap.get? D=some { cls:=.type "list",data:=.seq l.toArray n }->Vals L l->L.length<=sizeLine->M.heap.Ns C mC ->
   (∀D,t D=none->Q (.ref D) (upd t D (.lst L)))->compPost (model X.prog X.w) X.A X.xe use Q' (.ref D) C (.ok .next) M:=by
  intro τ t M L l n mC Ib ak aw r hz bc q;have Ie:Inv X j σ t M:=I2.call' (ch:=fp) (Ib.os) Ib.base Ib.hok Ib.bare fun b E=>⟨(f2 b E).2.2.2.1,(f2 b E).2.1,(f2 b E).2.2.2.2.1,(f2 b E).2.2.2.2.2⟩
  have a2:X.s₀.heap.objs.size<=f.heap.objs.size:=I2.sz
  have It:Inv X j σ (upd t D (.lst L)) M:=Inv.track Ie ak (Nl a2 m) (fun z=>Ev _ (Nn (z▸I2.lt:D<f.heap.objs.size) m)) (fun x c e z=>by
   obtain⟨v,o,h3,_⟩:=I2.cell x c e
   exact sz h3 m z) ap ⟨hz,l,n,r,aw⟩
  exact a4 D C _ M mC It bc (by rw[Qo (E2 ai)];exact Ib.free) (fun z=>Ev _ (Nn (z▸I2.lt:C<f.heap.objs.size) O)) (Nl a2 O) (fun x c e z=>by
   obtain⟨v,o,h3,_⟩:=I2.cell x c e
   exact sz h3 O z) a7 (q D ak)
 have am:∀af:Shared,af={ f with heap:=Y,toks:=f.toks+([]:List (Str×Value)).length } ->
   codeAny (model X.prog X.w) X.A (.compLoop (.ListComp elt [⟨tg,iter,ifs,0⟩] scope pos) 0 (.ref it) (.ref D) (compEnvC scope cl C X.env))
    (compPost (model X.prog X.w) X.A X.xe use Q' (.ref D) C) af:=by
  rintro af rfl
  refine Us (fun n M=>∃i τ t L l k,Inv (Mi.blk X scope cl Nb f Z C fp (X.pn++j)) [] τ t M/\tn i M.heap/\(∀b∈fp,t b=none)/\t D=none/\M.heap.get? D=some { cls:=.type "list",data:=.seq (l:List Value).toArray k }/\Vals L l/\L.length<=sizeLine/\W i n L τ t) ?_ m0
   ⟨0,WJ cp σ,Z,[],[],_,I3,T.keep _ _ _ ar (fun b E o e=>old b o e),fun b E=>(f2 b E).1,I2.hok.fresh m,an,.nil,NY _,w0⟩
  rintro n s3 ⟨i,τ,H3,L,l,k,Ib,az,a6,ak,aw,r3,as,w3⟩
  have a0:∀{U:L2.St} {t:Hp} {M:Shared},Inv (Mi.blk X scope cl Nb f Z C fp (X.pn++j)) [] U t M->t D=none->M.heap.get? D=some { cls:=.type "list",data:=.seq l.toArray k } ->
    Inv (Mi.blk X scope cl Nb f Z C fp (X.pn++j)) [(D,{ cls:=.type "list",data:=.seq l.toArray k })] U t M:=fun {U t M} I' hn ho=>I'.pins_of fun p R=>by
   rw[NO]at R;subst R;exact⟨ho,hn,ai,bg,by intro v;simp⟩
  have a8:=a0 Ib ak aw;have aa:∀p∈[(D,({ cls:=.type "list",data:=.seq l.toArray k }:Obj))],p.1=D:=fun p R=>by rw[NO]at R;subst R;rfl
  have a9:∀{U:L2.St} {t:Hp} {M:Shared},Inv (Mi.blk X scope cl Nb f Z C fp (X.pn++j)) [(D,{ cls:=.type "list",data:=.seq l.toArray k })] U t M->M.heap.get? D=some { cls:=.type "list",data:=.seq l.toArray k }/\t D=none:=fun I'=>by
   obtain⟨a,b,_⟩:=I'.pin (D,_) (NI _ (NO.mpr rfl));exact⟨a,b⟩
  rcases ay i n L τ H3 w3 with⟨stop,qn⟩|⟨go,step⟩
  ·refine N0 (T.done (Mi.blk X scope cl Nb f Z C fp (X.pn++j)) rfl rfl rfl hc i _ s3 τ H3 (fun _ _=>False) a8 (aj a6 aa) az stop) (fun r s4 ⟨hr,I4⟩=>?_) fun _ _ z=>z.elim;subst hr;obtain⟨o4,n4⟩:=a9 I4;obtain⟨m4,ba,_⟩:=I4.loc;have bj:Inv (Mi.blk X scope cl Nb f Z C fp (X.pn++j)) [] τ H3 s4:=I4.pins_of fun p R=>by cases R
   exact fin bj n4 o4 r3 as ba qn
  ·refine N0 (T.item (Mi.blk X scope cl Nb f Z C fp (X.pn++j)) rfl rfl rfl hc i _ s3 τ H3 (fun _ _=>False) a8 (aj a6 aa) az go) (fun r s4 ⟨u,hr,h4⟩=>?_) fun _ _ z=>z.elim;subst hr;refine N0 h4 (fun _ s5 z1=>?_) fun _ _ z=>z.elim;obtain⟨x,H5,I5,r5,y5,aq,bf⟩:=z1;have bi:=I5.pinned (aj bf aa) (T.obj _ _ aq);refine N0 (hg f Z C fp (X.pn++j) _ s5 τ H5 x u _ bi r5 (step x H5 y5)) (fun _ s6 ⟨ae,H6,I6,q6⟩=>?_) fun _ _ z=>z.elim;refine N0 (ht f Z C fp (X.pn++j) _ s6 ae H6 _ I6 q6) (fun ok s7 ⟨H7,I7,q7⟩=>?_) fun _ _ z=>z.elim
   have ah:∀{U:L2.St} {t:Hp} {M:Shared},Inv (Mi.blk X scope cl Nb f Z C fp (X.pn++j)) ([(D,{ cls:=.type "list",data:=.seq l.toArray k })]++WT fp s5.heap) U t M->tn (i+1) M.heap/\(∀b∈fp,t b=none)/\M.heap.get? D=some { cls:=.type "list",data:=.seq l.toArray k }/\t D=none:=fun {U t M} I'=>by
    refine⟨T.keep _ _ _ aq fun b E o e=>(I'.pin (b,o) (NI _ (NI _ (VF E e)))).1,fun b E=>?_,?_⟩
    ·obtain⟨o,e,d⟩:=T.obj _ _ aq b E;exact(I'.pin (b,o) (NI _ (NI _ (VF E e)))).2.1
    ·obtain⟨a,b,_⟩:=I'.pin (D,{ cls:=.type "list",data:=.seq l.toArray k }) (NI _ (NS _ (NO.mpr rfl)));exact⟨a,b⟩
   cases ok with
   |false=>
    rw[if_neg NZ]at q7 ⊢;obtain⟨m',hm,w7⟩:=q7;obtain⟨t7,f7,o7,n7⟩:=ah I7;exact⟨m',hm,i+1,ae,H7,L,l,k,I7.pins_of (fun p R=>by cases R),t7,f7,n7,o7,r3,as,w7⟩
   | true=>
    rw[if_pos rfl]at q7 ⊢;refine N0 (he f Z C fp (X.pn++j) _ s7 ae H7 _ I7 q7) (fun y s8 z1=>?_) fun _ _ z=>z.elim;obtain⟨v8,H8,I8,r8,bd,m',hm,w8⟩:=z1;obtain⟨t8,f8,o8,n8⟩:=ah I8;have a3:=r3.length;refine Fy Fz ⟨_,o8,rfl⟩ LB (Li _ _) (L4 D l.toArray k y (by rw[Nj];exact Nl (Nr a3.symm) as)) ⟨o8,?_⟩;have q:=Oh o8 (·.push y);have hf:l.toArray.push y=(l++[y]).toArray:=by simp
    rw[hf]at q;have bh:Inv (Mi.blk X scope cl Nb f Z C fp (X.pn++j)) [] ae H8 s8:=I8.pins_of fun p R=>by cases R
    have I9:Inv (Mi.blk X scope cl Nb f Z C fp (X.pn++j)) [] ae H8 { s8 with heap:=s8.heap.update D (Obj.mapSeq (·.push y)),toks:=s8.toks }:=
     bh.turned (it:=D) (fun b o E e=>(N9 s8.heap (Obj.mapSeq (·.push y)) (E2 E)).trans e) n8 ai (.inr m) (fun x c e=>ax x c e) fun p R=>by
      rw[EI]at R;exact ap p R
    refine⟨m',hm,i+1,ae,H8,L++[v8],l++[y],_,I9,T.keep _ _ _ t8 (fun b E o e=>(N9 s8.heap (Obj.mapSeq (·.push y)) (fun(z:D=b)=>ao (z▸E))).trans e),f8,n8,q,r3.append (.cons r8 .nil),by rw[Ny,El];exact bd,w8⟩
 exact codeAny_compStart_list (am _ rfl) (T.self _ 0 _ _ _ (T.keep _ _ _ ar (fun b E o e=>old b o e)) (am _ rfl))
theorem Qb0(L:X.calm=true)(B:BlkOk X scope cl Nb cp)(E:PI X tg iter wi)(G:∀a d C ex j,PG (Mi.blk X scope cl Nb a d C ex j) tg g)
  (u:∀a d C ex j,∀(f:List (Addr×Obj)) (s:Shared) (l:L2.St) (H:Hp) (Q:Bool->Hp->Prop),Inv (Mi.blk X scope cl Nb a d C ex j) f l H s->tt l H Q ->
   wpAny (model X.prog X.w) X.A (forIn ifs true fun c r=>if r=true then do let ok <-isTrue c (compEnvC scope cl C X.env) (eval c (compEnvC scope cl C X.env));pure (ForInStep.yield ok)else pure (ForInStep.yield r)) (TP (Mi.blk X scope cl Nb a d C ex j) f l Q) (fun _ _=>False) s)
  (J:∀a d C ex j,PE (Mi.blk X scope cl Nb a d C ex j) elt te) (v:∀x,foldedSetIterable iter X.env x=pure x:=by intro _;rfl) :
  PE X (.ListComp elt [⟨tg,iter,ifs,0⟩] scope pos) (QdT wi cp g tt te):=by
 intro f s T H Q I h;rw[eval_ListComp];refine GC L B E G u J v I h fun D C S t m R n z N O i y q=>⟨m,n,fun P p=>?_⟩
 exact⟨.ref D,S,R.turned (t':=t.toks) (it:=C) (fun b o M e=>p.extBut b o M e) z N (.inr O) i y,rfl,q⟩
theorem QaB(hN:X.N.Nodup)(O:X.N[i]?=some x)(U:Loc X.env.scope x)(hf:X.fn x=true\/X.env.scope.names.lookup x=some .local)(J:swapsWith (.ListComp elt [⟨tg,iter,ifs,0⟩] scope pos) (some (.Name x j)) t.line X.env=pure true)
  (hc:X.calm=true) (B:BlkOk X scope cl Nb cp) (hi:PI X tg iter wi) (hg:∀d f C ex p,PG (Mi.blk X scope cl Nb d f C ex p) tg g)
  (Y:∀d f C ex p,∀(l:List (Addr×Obj)) (s:Shared) (E:L2.St) (H:Hp) (Q:Bool->Hp->Prop),Inv (Mi.blk X scope cl Nb d f C ex p) l E H s->tt E H Q ->
   wpAny (model X.prog X.w) X.A (forIn ifs true fun c r=>if r=true then do let ok <-isTrue c (compEnvC scope cl C X.env) (eval c (compEnvC scope cl C X.env));pure (ForInStep.yield ok)else pure (ForInStep.yield r)) (TP (Mi.blk X scope cl Nb d f C ex p) l E Q) (fun _ _=>False) s)
  (he:∀d f C ex p,PE (Mi.blk X scope cl Nb d f C ex p) elt te) (Z:∀x,foldedSetIterable iter X.env x=pure x:=by intro _;rfl) :
  PS X (.Assign [.Name x j] (.ListComp elt [⟨tg,iter,ifs,0⟩] scope pos) t) (Qi9 (QdT wi cp g tt te) (Qbu i)):=by
 intro l s σ H D I h;rw[exec_Assign_Name_used _ _ _ _ J];refine Na (Lu (Na ?_));show wpAny _ X.A (do let _ <-comprehension (.ListComp elt [⟨tg,iter,ifs,0⟩] scope pos) scope X.env _ (newList []) false (eval iter X.env) (some (assign (.Name x j) X.env))) _ _ s;refine Na (N0 (GC (use:=some (assign (.Name x j) X.env)) (Q':=fun _ y=>SP X l D .next y) hc B hi hg Y he Z I h fun R C H' y m I' L hn P h0 n hp q=>?_) (fun _ y hq=>Ng (Ng hq)) fun _ _ e=>e);show wpAny _ X.A (assign (.Name x j) X.env (.ref R)) _ _ y;refine LY (W0 (v:=.ref R) I' hN O U rfl (fun T I5 ⟨a,S,u⟩=>?_) hf)
 have M:C≠a:=fun z=>by
  rcases u with u|u
  ·exact P (z.trans u)
  ·exact n x a u z.symm
 exact⟨m,L.sameBut S M,fun aa G=>⟨_,H',I5.turned (t':=T.toks) (it:=C) (fun b o hb e=>G.extBut b o hb e) hn P (.inr h0) n hp,q⟩⟩
end
def IterR(X:Cx)(c:Expr)(r:V->Hp->(It->Hp->Prop)->Prop):Prop:=
 ∀(a:List (Addr×Obj)) (s:Shared) (b:L2.St) (H:Hp) (x:V) (v:Value) (C:It->Hp->Prop),Inv X a b H s->RelV x v->r x H C->wpAny (model X.prog X.w) X.A (pyIter v) (PIE X a b c C) X.xe s
section
variable{X:Cx}{tg:Expr}
theorem IterR.or(h:IterR X tg r)(h':IterR X tg d):IterR X tg (fun x H C=>r x H C\/d x H C):=fun a s b H x v C I c q=>by
 rcases q with q|q
 ·exact h a s b H x v C I c q
 ·exact h' a s b H x v C I c q
theorem it_list:IterR X tg (fun x H C=>∃a,x=.ref a/\(∃xs,SqL X.K H a xs)/\C (Itl X.K a) H):=by
 intro d c m l x v C I1 f g;obtain⟨a,e,⟨xs,i⟩,q⟩:=g;subst e;cases f;obtain⟨h,r,p,s⟩:=I1.list i;refine FZ p.isList ?_;refine⟨c.heap.objs.size,[c.heap.objs.size],_,_,l,rfl,I1.kept (t':=c.toks) fun b o e=>Nk _ e,QaG a _,⟨_,Nw _ rfl,rfl,rfl⟩,fun b j=>?_,q⟩;have e:b=c.heap.objs.size:=by simpa using j
 subst e;exact I1.fpOk (Nx _) (I1.hok.fresh (Nx _))
theorem QiH:IterR X tg (fun x H C=>∃a,x=.ref a/\(∃xs,SqT X.K H a xs)/\C (Itt X.K a) H):=by
 intro f c m l x v C I1 g h;obtain⟨a,e,⟨xs,i⟩,q⟩:=h;subst e;cases g;obtain⟨d,r,p,s⟩:=I1.tuple i;refine D3 (show c.heap.IsTuple a d.toArray from p) ?_;refine⟨c.heap.objs.size,[c.heap.objs.size],_,_,l,rfl,I1.kept (t':=c.toks) fun b o e=>Nk _ e,Qah a _,⟨_,Nw _ rfl,rfl,rfl⟩,fun b j=>?_,q⟩;have e:b=c.heap.objs.size:=by simpa using j
 subst e;exact I1.fpOk (Nx _) (I1.hok.fresh (Nx _))
noncomputable def Its(x:Str):It:=⟨fun i _=>i<x.cps.size,fun i H v a=>a=H/\∃c,x.cps[i]?=some c/\v=.str ⟨#[c]⟩,fun i _=>x.cps.size<=i⟩
noncomputable def Xs(x:Str):List W:=x.cps.toList.map fun c=>.str ⟨#[c]⟩
theorem Qc4{P:Program}{w:World}{K:Nd}{tg:Expr}(it:Addr)(x:Str)(ty:String)(t:Tok)(f:ty="str_ascii_iterator"\/ty="str_iterator") :
  Turn P w K tg (Its x) [it] it (fun i h=>i<=x.cps.size/\h.IsStrIter it ty x t i) where
 mem:=by simp
 obj:=fun i h st b j=>by
  have e:b=it:=by simpa using j
  subst e;obtain⟨_,o,e,c,d⟩:=st;exact⟨o,e,fun v z=>by rw[d]at z;cases z⟩
 keep:=fun i h l st k=>⟨st.1,let⟨o,U,r⟩:=st.2;⟨o,k it (by simp) o U,r⟩⟩
 item:=by
  intro X M hw N L i a s J H E I q st p;subst M hw N;obtain⟨Y,st⟩:=st;obtain⟨G,f1,f2,D,C,B⟩:=q it (by simp);have g:i<x.cps.size:=p;have m:x.cps[i]?=some (x.cps[i]'g):=NL g
  have fin:∀l:Heap,l.IsStrIter it ty x t (i+1)->Heap.SameBut it s.heap l->∃u,some (Value.str ⟨#[x.cps[i]'g]⟩ s.toks)=some u/\wpAny (model X.prog X.w) X.A (letOwnedTupleGo tg (.ref it) u) (fun _ R=>∃y Q,Inv X a J Q R/\RelV y u/\(Its x).yld i H y Q/\(i+1<=x.cps.size/\R.heap.IsStrIter it ty x t (i+1))/\∀b∈[it],Q b=none) E { s with heap:=l,toks:=s.toks+1 }:=fun l n T=>by
   have I1:Inv X a J H { s with heap:=l,toks:=s.toks+1 }:=I.turned (fun b o j e=>(T.2 b j).trans e) G f1 D C B;obtain⟨o,e,c,d⟩:=id n;refine⟨_,rfl,G8 (s:={ s with heap:=l,toks:=s.toks+1 }) e c d (by rcases f with z|z<;>rw[z]<;>decide) ⟨.str ⟨#[x.cps[i]'g]⟩,H,I1,⟨_,rfl⟩,⟨rfl,_,m,rfl⟩,⟨p,n⟩,fun b j=>(q b j).1⟩⟩
  rcases f with z|z
  ·subst z;exact wpAny_pyNext_ascii_item st m fin
  ·subst z;exact wpAny_pyNext_wide_item st m fin
 done:=by
  intro X M hw N L i a s J H E I q st p;subst M hw N;obtain⟨Y,st⟩:=st;obtain⟨G,f1,f2,D,C,B⟩:=q it (by simp);have m:x.cps[i]?=none:=by have:x.cps.size<=i:=p;simp;exact this
  rcases f with z|z
  ·subst z;exact wpAny_pyNext_ascii_end (I.ok.hd L) st m fun l O=>⟨rfl,I.turned (t':=s.toks) (fun b o j e=>O b o j e) G f1 D C B⟩
  ·subst z;exact wpAny_pyNext_wide_end (I.ok.hd L) st m fun l O=>⟨rfl,I.turned (t':=s.toks) (fun b o j e=>O b o j e) G f1 D C B⟩
 self:=fun _ _ _ _ _ st h=>by
  rcases f with z|z
  ·subst z;exact wpAny_pyIter_striter_ascii st.2 h
  ·subst z;exact wpAny_pyIter_striter_wide st.2 h
theorem Qis:IterR X tg (fun x H C=>∃y,x=.str y/\C (Its y) H):=by
 intro c a g l x v C I1 h i;obtain⟨y,rfl,q⟩:=i;obtain⟨t,rfl⟩:=h
 have fin:∀ty,(ty="str_ascii_iterator"\/ty="str_iterator")->PIE X c g tg C (.ref a.heap.objs.size) { a with heap:=a.heap.push { cls:=.type ty,data:=.fields #[.str y t,.int 0 0] } }:=fun ty d=>by
  refine⟨a.heap.objs.size,[a.heap.objs.size],_,_,l,rfl,I1.kept (t':=a.toks) fun b o e=>Nk _ e,Qc4 _ y ty t d,⟨NY _,_,Nw _ rfl,rfl,rfl⟩,fun b j=>?_,q⟩;have e:b=a.heap.objs.size:=by simpa using j
  subst e;exact I1.fpOk (Nx _) (I1.hok.fresh (Nx _))
 cases f:y.cps.all (·<128)
 ·exact wpAny_pyIter_wide f (fin _ (.inr rfl))
 ·exact wpAny_pyIter_ascii f (fin _ (.inl rfl))
end
noncomputable def Qej(h:MH):W->Option (List W×Option Src)
 |.tup ws=>some (ws,none)
 |.lst ws=>some (ws,none)
 |.frz ws=>some (ws,none)
 |.str x=>some (Xs x,none)
 |.ref n=>match h[n]? with|some (.lst ws)=>some (ws,some (.l n))|_=>none
 |_=>none
noncomputable def Qr(m:ME):MI:=fun a h=>(m a h).bind fun p=>(Qej p.2 p.1).map fun q=>(q.1,q.2,p.2)
section
variable{K:Nd}{R:Rn}
theorem WA(d:SqL K R.F a xs)(r:Rws K R ws xs):ItOk K R (Itl K a) ws none where
 go:=fun i w j h H x c _ e=>by
  obtain⟨v,g,_⟩:=r.get e;exact⟨xs,v,JG (fun b o z=>c.sub b o (x.f b o z)) d,g⟩
 yld:=fun i w j h H x s e c _ q l=>by
  obtain⟨rfl,m⟩:=l;obtain⟨v,g,p⟩:=r.get q;have:=m xs (JG (fun b o z=>c.sub b o (e.f b o z)) d);rw[g]at this;cases this;exact⟨j,Ext.refl _,c,Rw.mono e _ _ p⟩
 stop:=fun i j h H x c _ n=>⟨xs,JG (fun b o z=>c.sub b o (x.f b o z)) d,by rw[<-r.length];exact n⟩
theorem QdX(d:SqT K R.F a xs)(r:Rws K R ws xs):ItOk K R (Itt K a) ws none where
 go:=fun i w j h H x c _ e=>by
  obtain⟨v,g,_⟩:=r.get e;exact⟨xs,v,QS (fun b o z=>c.sub b o (x.f b o z)) d,g⟩
 yld:=fun i w j h H x s e c _ q l=>by
  obtain⟨rfl,m⟩:=l;obtain⟨v,g,p⟩:=r.get q;have:=m xs (QS (fun b o z=>c.sub b o (e.f b o z)) d);rw[g]at this;cases this;exact⟨j,Ext.refl _,c,Rw.mono e _ _ p⟩
 stop:=fun i j h H x c _ n=>⟨xs,QS (fun b o z=>c.sub b o (x.f b o z)) d,by rw[<-r.length];exact n⟩
theorem QdM(g:n<R.N):ItOk K R (Itl K (R.ρ n)) ws (some (.l n)) where
 go:=fun i w o h H x b d e=>by
  obtain⟨c,a,f⟩:=b.obj n _ (d (.l n) rfl);obtain⟨v,m,_⟩:=f.get e;rw[x.ρ n g]at a;exact⟨c,v,SqL.of a,m⟩
 yld:=fun i w o h H x t e b d s p=>by
  obtain⟨rfl,q⟩:=p;obtain⟨c,a,f⟩:=b.obj n _ (d (.l n) rfl);obtain⟨v,m,r⟩:=f.get s;rw[e.ρ n g]at a;have:=q c (SqL.of a);rw[m]at this;cases this;exact⟨o,Ext.refl _,b,r⟩
 stop:=fun i o h H x b d j=>by
  obtain⟨c,a,f⟩:=b.obj n _ (d (.l n) rfl);rw[x.ρ n g]at a;exact⟨c,SqL.of a,by rw[<-f.length];exact j⟩
theorem Qc3:ItOk K R (Its x) (Xs x) none where
 go:=fun i w b h H _ _ _ e=>by
  have:=(Nh.mp e).1;show i<x.cps.size;simpa[Xs]using this
 yld:=fun i w b h H v l e d _ a f=>by
  obtain⟨rfl,c,j,rfl⟩:=f;unfold Xs at a;rw[Nz,N7,j]at a;cases a;exact⟨b,Ext.refl _,d,Rw.str _⟩
 stop:=fun i b h H _ _ _ g=>by
  show x.cps.size<=i;simpa[Xs]using g
theorem Yp{lo:Int}:ItOk K R (Itr lo n) ((List.range n).map fun(i:Nat)=>W.int (lo+(i:Int))) none where
 go:=fun i w b h H _ _ _ e=>by
  have:=(Nh.mp e).1;show i<n;simpa using this
 yld:=fun i w b h H v m e d _ c f=>by
  obtain⟨rfl,rfl⟩:=f;rw[Nz]at c;obtain⟨j,a,l⟩:=Nf.mp c;rw[EM (by have:=(Nh.mp a).1;simpa using this)]at a;cases a;cases l;exact⟨b,Ext.refl _,d,Rw.int _⟩
 stop:=fun i b h H _ _ _ g=>by
  show n<=i;simpa using g
end
section
variable{X:Cx}{tg a b c:Expr}{ma:ME}{ms:MA}{pos p:Pos}
theorem Qfv(Q:PM X a ma):PMI X tg a (Qr ma):=by
 intro j s E H C I q;obtain⟨R,u,h,items,G,h',L,st,e,k⟩:=q;obtain⟨⟨w,T⟩,e1,Z⟩:=Nc.mp e;obtain⟨⟨O,sr⟩,i,Y⟩:=Nf.mp Z;cases Y;refine thn (Q j s E H _ I ⟨R,u,h,w,T,L,st,e1,fun R1 m v o d g=>?_⟩) fun v J ⟨x,m,I1,M,N⟩=>((it_list.or QiH).or Qis) j J E m x v C I1 M N;cases w with
 |tup A=>
  cases i;obtain⟨ad,z,rfl,D,S⟩:=d.tupAt g;unfold Rw at g;obtain⟨t,f,U,l,r⟩:=g;cases U;exact .inl (.inr ⟨_,rfl,⟨z,D⟩,k R1 m _ o d (QdX l r)⟩)
 |lst A=>
  cases i;unfold Rw at g;obtain⟨t,f,rfl,l,r⟩:=g;exact .inl (.inl ⟨_,rfl,⟨f,SqL.of (d.sub _ _ l)⟩,k R1 m _ o d (WA (SqL.of l) r)⟩)
 |frz A=>
  cases i;unfold Rw at g;obtain⟨t,f,rfl,l,r⟩:=g;exact .inl (.inl ⟨_,rfl,⟨f,JG d.sub l⟩,k R1 m _ o d (WA l r)⟩)
 |str y=>
  cases i;rw[g.str_eq];exact .inr ⟨y,rfl,k R1 m _ o d Qc3⟩
 |ref n=>
  simp only[Qej]at i;split at i
  ·rename_i A P;cases i;obtain⟨B,rfl,z,D,S⟩:=d.refAt g P;exact .inl (.inl ⟨_,rfl,⟨z,SqL.of D⟩,k R1 m _ o d (QdM B)⟩)
  ·cases i
 |_=>cases i
noncomputable def QL(lo:Int)(n:Nat):List W:=(List.range n).map fun(i:Nat)=>W.int (lo+(i:Int))
noncomputable def GY(ms:MA):MI:=fun d h=>(ms d h).bind fun p=>match p.1 with
 |[.int j]=>if -(2^62)<=j/\j<2^62 then some (QL 0 j.toNat,none,p.2)else none
 |_=>none
noncomputable def QhN(ms:MA):MI:=fun d h=>(ms d h).bind fun p=>match p.1 with
 |[.int i,.int j]=>if -(2^62)<=i/\i<2^62/\-(2^62)<=j/\j<2^62 then some (QL i (j-i).toNat,none,p.2)else none
 |_=>none
theorem Yn(z:Gl X "range")(y:X.mg "range"=none)(A:PMA X [a] ms)(x:starEach [a] X.env=[(false,eval a X.env)]:=by rfl):PMI X tg (.Call (.Name "range" p) [a] [] pos) (GY ms):=
 W4 (Qbd z y A x) fun G H C o=>by
  obtain⟨R,f,h,items,t,J,u,st,e,k⟩:=o;obtain⟨⟨r,B⟩,D,d⟩:=Nc.mp e;refine⟨R,f,h,r,B,u,st,D,fun R1 E I q g i=>?_⟩;split at d
  ·rename_i j m;simp only at m;subst m;split at d
   ·rename_i n;cases d;rw[Rws.cons_iff]at i;obtain⟨v,s,rfl,w,l⟩:=i;rw[Rws.nil_iff]at l;subst l;rw[w.int_eq];exact⟨j,rfl,n.1,n.2,k R1 E _ q g Yp⟩
   ·cases d
  ·cases d
theorem QiK(E:Gl X "range")(D:X.mg "range"=none)(I:PMA X [a,b] ms)(B:starEach [a,b] X.env=[(false,eval a X.env),(false,eval b X.env)]:=by rfl)(l:starEach [b] X.env=[(false,eval b X.env)]:=by rfl):PMI X tg (.Call (.Name "range" p) [a,b] [] pos) (QhN ms):=
 W4 (Qa2 E D I B l) fun N H C r=>by
  obtain⟨R,f,h,items,x,Q,y,st,e,k⟩:=r;obtain⟨⟨t,J⟩,L,d⟩:=Nc.mp e;refine⟨R,f,h,t,J,y,st,L,fun R1 M O s g m=>?_⟩;split at d
  ·rename_i i j q;simp only at q;subst q;split at d
   ·rename_i G;cases d;rw[Rws.cons_iff]at m;obtain⟨v,w,rfl,A,o⟩:=m;rw[Rws.cons_iff]at o;obtain⟨P,u,rfl,z,n⟩:=o;rw[Rws.nil_iff]at n;subst n;rw[A.int_eq,z.int_eq];exact⟨i,j,rfl,G,k R1 M _ s g Yp⟩
   ·cases d
  ·cases d
end
noncomputable def QdI(cp:List (Option Nat))(σ:MSt):MSt:=cp.map fun o=>match o with|none=>none|some j=>match σ[j]? with|some v=>v|none=>none
theorem Rst.cap{K:Nd}(s:Rst K R b σ)(cp:List (Option Nat)):Rst K R (QdI cp b) (WJ cp σ):=by
 unfold QdI WJ;refine⟨by simp,fun i w e=>?_⟩;rw[Nz]at e ⊢;obtain⟨o,f,a⟩:=Nf.mp e;rw[f];cases o with
 |none=>cases a
 |some j=>
  simp only at a;split at a
  ·rename_i u hu;subst a;obtain⟨v,d,c⟩:=s.2 j w hu;exact⟨v,by simp[d],c⟩
  ·cases a
open Classical in
noncomputable def ZB(fin:List W->MH->Option (W×MH))(items:List W)(d:Option Src)(b:MG)(mt:MT)(me:ME):List W->List W->MSt->MH->Option (W×MH)
 |[],a,_,h=>if live d items h then fin a h else none
 | w::r,a,e,h=>if live d items h then(b w e h).bind fun c=>(mt c h).bind fun q=>match q.1 with
   |true=>(me c q.2).bind fun v=>if a.length<sizeLine then ZB fin items d b mt me r (a++[v.1]) c v.2 else none
   |false=>ZB fin items d b mt me r a c q.2
  else none
noncomputable def QN(fin:List W->MH->Option (W×MH))(mi:MI)(cp:List (Option Nat))(b:MG)(mt:MT)(me:ME):ME:=fun a h=>(mi a h).bind fun p=>ZB fin p.1 p.2.1 b mt me p.1 [] (QdI cp a) p.2.2
noncomputable def VV:MT:=fun _ h=>some (true,h)
noncomputable def Z2(a:List W)(h:MH):Option (W×MH):=some (.lst a,h)
noncomputable def QiQ(a:List W)(h:MH):Option (W×MH):=some (.ref h.length,h++[.lst a])
def Ux(K:Nd)(fin:List W->MH->Option (W×MH)):Prop:=∀R h H b a w d D,Rh K R h H->Rws K R b a->fin b h=some (w,d)->H D=none->∃c,Ext R c/\Rh K c d (upd H D (.lst a))/\Rw K c w (.ref D)
theorem Q1{K:Nd}:Ux K Z2:=fun R h H d a w f D b r e c=>by
 cases e;exact b.lstI c r
theorem Qfi{K:Nd}:Ux K QiQ:=fun R h H f a w g D c r e d=>by
 cases e;exact c.new d fun i b=>⟨a,rfl,Rws.mono b _ _ r⟩
section
variable{X:Cx}{elt tg iter c:Expr}{scope:Scope}{pos:Pos}{cl:List (Str×Addr)}{Nb:List Str}{cp:List (Option Nat)}{mi:MI}{b:MG}{mt:MT}{me:ME}{fin:List W->MH->Option (W×MH)}
theorem Wv{K:Nd}(hf:Ux K fin)(q:tI K (QN fin mi cp b mt me) σ H Q):QdT (tII K mi) cp (tIG K b) (tIT K mt) (tI K me) σ H Q:=by
 obtain⟨R,B,h,w,h',rh,s,e,k⟩:=q;obtain⟨⟨items,E,h1⟩,e1,e2⟩:=Nc.mp e;refine⟨R,B,h,items,E,h1,rh,s,e1,fun R1 H1 J x1 Z it=>?_⟩;refine⟨fun i n z τ H=>i+n=items.length/\∃R2 g o a,Ext R1 R2/\Rh K R2 o H/\Rst K R2 g τ/\Rws K R2 a z/\ZB fin items E b mt me (items.drop i) a g o=some (w,h')/\After K R2 w h' Q,⟨items.length,by simp,R1,QdI cp B,h1,[],Ext.refl _,Z,(s.mono x1).cap cp,Rws.nil,by simpa using e2,k.ext x1⟩,?_⟩
 rintro i n z τ T ⟨ae,R2,g,o,a,C,m,s2,N,f,k2⟩
 by_cases I:i<items.length
 ·obtain⟨y,O⟩:∃y,items[i]?=some y:=⟨items[i],Ni I⟩
  have hd:items.drop i=y::items.drop (i+1):=by
   rw[Ei I];rw[Ni I]at O;cases O;rfl
  rw[hd]at f;unfold ZB at f;split at f
  ·rename_i P;obtain⟨d,e4,e5⟩:=Nc.mp f;obtain⟨⟨t,h3⟩,e6,e7⟩:=Nc.mp e5;refine .inr ⟨it.go i y R2 o T C m P O,fun x H' aa=>?_⟩;obtain⟨R3,l,r,p⟩:=it.yld i y R2 o T x H' C m P O aa;refine⟨R3,g,o,y,d,r,s2.mono l,p,e4,fun R4 H4 ab A Y M=>?_⟩;refine⟨R4,d,o,t,h3,Y,M,e6,fun R5 H5 j G=>?_⟩;cases t with
   |true=>
    obtain⟨⟨v,h4⟩,e8,S⟩:=Nc.mp e7;dsimp only at S;split at S
    ·rename_i hz;refine Qew ⟨R5,d,h3,v,h4,G,M.mono j,e8,fun R6 H6 u L U rv=>⟨by rw[<-N.length];exact hz,n-1,by lia,by lia,R6,d,h4,a++[v],C.trans (l.trans (A.trans (j.trans L))),U,M.mono (j.trans L),?_,S,k2.ext (l.trans (A.trans (j.trans L)))⟩⟩;exact Rws.append (Rws.mono (l.trans (A.trans (j.trans L))) _ _ N) (Rws.cons rv Rws.nil)
    ·cases S
   |false=>
    exact QeC ⟨n-1,by lia,by lia,R5,d,h3,a,C.trans (l.trans (A.trans j)),G,M.mono j,Rws.mono (l.trans (A.trans j)) _ _ N,e7,k2.ext (l.trans (A.trans j))⟩
  ·cases f
 ·have hd:items.drop i=[]:=Eh (NQ.mp I);rw[hd]at f;unfold ZB at f;split at f
  ·rename_i P;refine .inl ⟨it.stop i R2 o T C m P (NQ.mp I),fun D hD=>?_⟩;obtain⟨R3,l,r,p⟩:=hf R2 o T a z w h' D m N f hD;exact k2 R3 _ _ l r p
  ·cases f
theorem Zj(p:Ux X.K fin)(u:X.calm=true)(B:BlkOk X scope cl Nb cp)(n:PMI X tg iter mi)(o:∀a d C ex f,PMG (Mi.blk X scope cl Nb a d C ex f) tg b)
  (r:∀a d C ex f,PM (Mi.blk X scope cl Nb a d C ex f) elt me) (m:∀x,foldedSetIterable iter X.env x=pure x:=by intro _;rfl) :
  PM X (.ListComp elt [⟨tg,iter,[],0⟩] scope pos) (QN fin mi cp b VV me):=
 QM (Qb0 (g:=tIG X.K b) (te:=tI X.K me) (tt:=tIT X.K VV) u B n o (fun a d C ex f i s v H Q I q=>wpAny_tests_nil (by
  obtain⟨R,j,h,t,z,l,st,e,k⟩:=q;cases e
  exact⟨H,I,k R H (Ext.refl _) l⟩)) r m) fun _ _ _ q=>Wv p q
theorem Gm(n:Ux X.K fin)(p:X.calm=true)(B:BlkOk X scope cl Nb cp)(l:PMI X tg iter mi)(m:∀a d C ex e,PMG (Mi.blk X scope cl Nb a d C ex e) tg b)
  (i:∀a d C ex e,PMT (Mi.blk X scope cl Nb a d C ex e) c mt)
  (o:∀a d C ex e,PM (Mi.blk X scope cl Nb a d C ex e) elt me) (j:∀x,foldedSetIterable iter X.env x=pure x:=by intro _;rfl) :
  PM X (.ListComp elt [⟨tg,iter,[c],0⟩] scope pos) (QN fin mi cp b mt me):=
 QM (Qb0 (g:=tIG X.K b) (te:=tI X.K me) (tt:=tIT X.K mt) p B l m (fun a d C ex e f s h H Q I q=>wpAny_tests_one (i a d C ex e f s h H Q I q)) o j) fun _ _ _ q=>Wv n q
end
open PySem.SeqAt
mutual
noncomputable def eqW:W->W->Bool
 |.non,.non=>true
 |.bl a,.bl b=>a==b
 |.bl a,.int b=>(if a then 1 else 0)==b
 |.int a,.bl b=>a==(if b then 1 else 0)
 |.int a,.int b=>a==b
 |.str a,.str b=>a==b
 |.tup a,.tup b=>K7 a b
 |.lst a,.lst b=>K7 a b
 |_,_=>false
noncomputable def K7:List W->List W->Bool
 |[],[]=>true
 |x::xs,y::a=>eqW x y&&K7 xs a
 |_,_=>false
end
noncomputable def ZL(f:b->Option a):List b->Option (List a)
 |[]=>some []
 |x::xs=>(f x).bind fun y=>(ZL f xs).map (y::·)
noncomputable def drf(h:MH):Nat->W->Option W
 |0,_=>none
 |n+1,w=>match w with
  |.tup ws=>(ZL (drf h n) ws).map .tup
  |.lst ws=>(ZL (drf h n) ws).map .lst
  |.frz ws=>(ZL (drf h n) ws).map .lst
  |.ref k=>match h[k]? with|some (.lst ws)=>(ZL (drf h n) ws).map .lst|_=>none
  |.ty _=>none
  |.non=>some .non
  |.bl b=>some (.bl b)
  |.int i=>some (.int i)
  |.str x=>some (.str x)
theorem Qu:∀{xs:List p} {a:List o},ZL f xs=some a->xs.length=a.length/\∀(i:Nat) x,xs[i]?=some x->∃y,a[i]?=some y/\f x=some y
 |[],a,e=>by cases e;exact⟨rfl,fun i x h=>by simp at h⟩
 |x::xs,a,e=>by
  obtain⟨y,n,m⟩:=Nc.mp e;obtain⟨r,j,g⟩:=Nf.mp m;subst g;obtain⟨l,q⟩:=Qu j;refine⟨by simp[l],fun i z b=>?_⟩;cases i with
  |zero=>simp at b;subst b;exact⟨y,by simp,n⟩
  |succ i=>simp at b;obtain⟨u,d,c⟩:=q i z b;exact⟨u,by simp[d],c⟩
theorem Xv:∀{a b:List W},a.length≠b.length->K7 a b=false
 |[],[],h=>absurd rfl h
 |[],_::_,_=>by unfold K7;rfl
 |_::_,[],_=>by unfold K7;rfl
 |x::xs,y::c,h=>by
  unfold K7;rw[Xv (a:=xs) (b:=c) (fun z=>h (by simp[z])),E7]
theorem Xz:∀{a b:List W},a.length=b.length->K7 a b=(List.range a.length).all fun j=>match a[j]?,b[j]? with|some x,some y=>eqW x y|_,_=>false
 |[],[],_=>by unfold K7;rfl
 |x::xs,y::c,h=>by
  have d:=Xz (a:=xs) (b:=c) (by simpa using h);unfold K7;rw[d,NR,IP,Fj,OQ];simp[F0]
inductive Kd(K:Nd)(R:Rn)(h:MH)(H:Hp)(n:Nat)(v:V):W->Prop where
 |flat {a:W} (f:Qe1 v=true) (e:(v=.non/\a=.non)\/(∃b,v=.bl b/\a=.bl b)\/(∃i,v=.int i/\a=.int i)\/∃x,v=.str x/\a=.str x):Kd K R h H n v a
 |lst {ad:Addr} {xs:List V} {ws as:List W} (e:v=.ref ad) (q:SqL K H ad xs) (r:Rws K R ws xs) (m:ZL (drf h n) ws=some as):Kd K R h H n v (.lst as)
 |tup {ad:Addr} {xs:List V} {ws as:List W} (e:v=.ref ad) (q:SqT K H ad xs) (r:Rws K R ws xs) (m:ZL (drf h n) ws=some as):Kd K R h H n v (.tup as)
theorem VT{K:Nd}{v:V}(g:Rh K R h H)(r:Rw K R w v)(e:drf h (n+1) w=some a):Kd K R h H n v a:=by
 cases w with
 |non=>rw[r.non_eq];cases e;exact .flat rfl (.inl ⟨rfl,rfl⟩)
 |bl b=>rw[r.bl_eq];cases e;exact .flat rfl (.inr (.inl ⟨b,rfl,rfl⟩))
 |int i=>rw[r.int_eq];cases e;exact .flat rfl (.inr (.inr (.inl ⟨i,rfl,rfl⟩)))
 |str x=>rw[r.str_eq];cases e;exact .flat rfl (.inr (.inr (.inr ⟨x,rfl,rfl⟩)))
 |tup l=>
  obtain⟨ad,j,f,q,c⟩:=g.tupAt r;obtain⟨as,m,d⟩:=Nf.mp e;subst d;exact .tup f q c m
 |lst l=>
  obtain⟨ad,j,f,q,c⟩:=g.lstAt r;obtain⟨as,m,d⟩:=Nf.mp e;subst d;exact .lst f (SqL.of q) c m
 |frz l=>
  obtain⟨ad,j,f,q,c⟩:=g.frzAt r;obtain⟨as,m,d⟩:=Nf.mp e;subst d;exact .lst f q c m
 |ref k=>
  simp only[drf]at e;split at e
  ·rename_i l o;obtain⟨as,m,d⟩:=Nf.mp e;subst d;obtain⟨_,f,j,q,c⟩:=g.refAt r o;exact .lst f (SqL.of q) c m
  ·cases e
 |ty _=>cases e
section
variable{X:Cx}{pins:List (Addr×Obj)}{σ:L2.St}{H:Hp}{s:Shared}{R:Rn}{h:MH}
theorem Kk{K:Nd}(r:∀q p v a b,Rw K R q v->Rw K R p v->drf h n q=some a->drf h n p=some b->a=b) :
  ∀{d c:List W} {xs:List V} {a b:List W},Rws K R d xs->Rws K R c xs->ZL (drf h n) d=some a->ZL (drf h n) c=some b->a=b
 |[],c,xs,a,b,f,e,i,g=>by
  rw[Rws.nil_iff]at f;subst f;cases c with
  |nil=>cases i;cases g;rfl
  |cons w ws=>rw[Rws.cons_iff]at e;obtain⟨_,_,z,_⟩:=e;cases z
 | w::d,c,xs,a,b,f,e,i,g=>by
  rw[Rws.cons_iff]at f;obtain⟨v,x,rfl,E,D⟩:=f;cases c with
  |nil=>rw[Rws.nil_iff]at e;cases e
  |cons A c=>
   rw[Rws.cons_iff]at e;obtain⟨_,_,z,C,B⟩:=e;cases z;obtain⟨y,L,J⟩:=Nc.mp i;obtain⟨M,I,G⟩:=Nf.mp J;obtain⟨u,o,m⟩:=Nc.mp g;obtain⟨t,l,j⟩:=Nf.mp m;subst G j;rw[r w A v y u E C L o,Kk r D B I l]
theorem XV(I:Inv X pins σ H s)(q:SqL X.K H a xs)(e:SqT X.K H a l):False:=by
 obtain⟨g,_,p,_⟩:=I.list q;obtain⟨d,_,f,_⟩:=I.tuple e;obtain⟨o,n,j,i,_⟩:=p;obtain⟨m,c,b,_⟩:=f;rw[j]at c;cases c;rw[i]at b;exact absurd b (by simp)
theorem Kg(I:Inv X pins σ H s)(g:Rh X.K R h H):∀(n:Nat) (l j:W) (v:V) (a b:W),Rw X.K R l v->Rw X.K R j v->drf h n l=some a->drf h n j=some b->a=b
 |0,_,_,_,_,_,_,_,e,_=>by cases e
 | n+1,l,j,v,a,b,y,o,A,u=>by
  have w:=Kg I g n;cases VT g y A with
  | flat f z=>
   cases VT g o u with
   |flat B x=>
    rcases z with⟨rfl,rfl⟩|⟨_,rfl,rfl⟩|⟨_,rfl,rfl⟩|⟨_,rfl,rfl⟩<;>rcases x with⟨i,rfl⟩|⟨_,i,rfl⟩|⟨_,i,rfl⟩|⟨_,i,rfl⟩<;>cases i<;>rfl
   |lst e=>subst e;cases f
   |tup e=>subst e;cases f
  |lst e q r m=>
   subst e;cases VT g o u with
   |flat f=>cases f
   |lst d c p t=>cases d;have:=I.list_inj q c;subst this;rw[Kk w r p m t]
   |tup d c=>cases d;exact(XV I q c).elim
  |tup e q r m=>
   subst e;cases VT g o u with
   |flat f=>cases f
   |lst d c=>cases d;exact(XV I c q).elim
   |tup d c p t=>cases d;have:=I.tuple_inj q c;subst this;rw[Kk w r p m t]
mutual
theorem Wq:∀(n:Nat) (w a:W),drf h n w=some a->eqW a a=true
 |0,_,_,e=>by cases e
 | n+1,w,a,e=>by
  cases w with
  |non=>cases e;unfold eqW;rfl
  |bl b=>cases e;unfold eqW;simp
  |int i=>cases e;unfold eqW;simp
  |str x=>cases e;unfold eqW;simp
  |tup ws=>obtain⟨as,m,c⟩:=Nf.mp e;subst c;unfold eqW;exact VA n ws as m
  |lst ws=>obtain⟨as,m,c⟩:=Nf.mp e;subst c;unfold eqW;exact VA n ws as m
  |frz ws=>obtain⟨as,m,c⟩:=Nf.mp e;subst c;unfold eqW;exact VA n ws as m
  |ref k=>
   simp only[drf]at e;split at e
   ·rename_i ws d;obtain⟨as,m,c⟩:=Nf.mp e;subst c;unfold eqW;exact VA n ws as m
   ·cases e
  |ty _=>cases e
theorem VA:∀(n:Nat) (ws as:List W),ZL (drf h n) ws=some as->K7 as as=true
 |n,[],_,m=>by cases m;unfold K7;rfl
 |n,w::ws,_,m=>by
  obtain⟨y,e,d⟩:=Nc.mp m;obtain⟨a,c,b⟩:=Nf.mp d;subst b;unfold K7;rw[Wq n w y e,VA n ws a c];rfl
end
theorem VG(N:∀g f v1 i r q a b,Rw X.K R g v1->Rw X.K R f i->RelV v1 r->RelV i q->drf h n g=some a->drf h n f=some b->EqAt A s r q (eqW a b))
  (z:Rws X.K R e xs) (v:Rws X.K R d B) (v1:Vals xs its) (i:Vals B c) (H:ZL (drf h n) e=some as) (G:ZL (drf h n) d=some bs)
  (j:Nat) (p:j<its.toArray.size) (o:j<c.toArray.size):EqAt A s its.toArray[j] c.toArray[j] (match as[j]?,bs[j]? with|some x,some y=>eqW x y|_,_=>false):=by
 have M:=z.length;have L:=v1.length;have J:=v.length;have I:=i.length;rw[Nj]at p o;obtain⟨g,m⟩:∃w,e[j]?=some w:=⟨e[j]'(Nn (Nn p (Nr L.symm)) (Nr M.symm)),Ni _⟩
 obtain⟨f,l⟩:∃w,d[j]?=some w:=⟨d[j]'(Nn (Nn o (Nr I.symm)) (Nr J.symm)),Ni _⟩
 obtain⟨x,P,D⟩:=z.get m;obtain⟨y,O,C⟩:=v.get l;obtain⟨u,hu,E⟩:=v1.get P;obtain⟨t,Q,rt⟩:=i.get O;obtain⟨a,T,Y⟩:=(Qu H).2 j g m;obtain⟨b,S,U⟩:=(Qu G).2 j f l;rw[T,S]
 have e1:its.toArray[j]=u:=by
  have:=hu;rw[Ni p]at this;simpa using this
 have Z:c.toArray[j]=t:=by
  have:=Q;rw[Ni o]at this;simpa using this
 rw[e1,Z];exact N g f x y u t a b D C E rt Y U
theorem Gv(I:Inv X q σ H s)(hu:A.units<cLine)(D:∀i g v1 c m l a b,Rw X.K R i v1->Rw X.K R g c->RelV v1 m->RelV c l->drf h n i=some a->drf h n g=some b->EqAt A.in1 s m l (eqW a b))
  {ad y:Addr} (C:SqL X.K H ad xs) (B:SqL X.K H y z) (p:Rws X.K R e xs) (o:Rws X.K R d z) (v:ZL (drf h n) e=some as) (u:ZL (drf h n) d=some bs):RcAt A s (.ref ad) (.ref y) (K7 as bs):=by
 obtain⟨f,v1,t,_⟩:=I.list C;obtain⟨w,c,r,_⟩:=I.list B;have P:=p.length;have O:=v1.length;have N:=o.length;have M:=c.length;have L:=(Qu v).1;have J:=(Qu u).1
 by_cases x:as.length=bs.length
 ·rw[Xz x];have:=RcAt.lists (A:=A) t.isList r.isList (by rw[Nj,Nj];lia) hu (fun j G E=>VG D p o v1 c v u j G E);rw[Nj]at this;rw[show as.length=f.length by lia];exact this
 ·rw[Xv x];exact RcAt.lists_lengths t.isList r.isList (by rw[Nj,Nj];simp;lia) hu
theorem QaK(I:Inv X t σ H s)(hu:A.units<cLine)(D:∀m l v1 e p o a b,Rw X.K R m v1->Rw X.K R l e->RelV v1 p->RelV e o->drf h n m=some a->drf h n l=some b->EqAt A.in1 s p o (eqW a b))
  {ad i:Addr} (z:SqT X.K H ad xs) (y:SqT X.K H i x) (r:Rws X.K R g xs) (q:Rws X.K R f x) (v:ZL (drf h n) g=some as) (u:ZL (drf h n) f=some bs):RcAt A s (.ref ad) (.ref i) (K7 as bs):=by
 obtain⟨d,v1,C,_⟩:=I.tuple z;obtain⟨c,e,B,_⟩:=I.tuple y;have P:=r.length;have O:=v1.length;have N:=q.length;have M:=e.length;have L:=(Qu v).1;have J:=(Qu u).1;have:=RcAt.tuples (A:=A) (show s.heap.IsTuple ad d.toArray from C) (show s.heap.IsTuple i c.toArray from B) hu (fun j G E=>VG D r q v1 e v u j G E);rw[Nj,Nj]at this
 by_cases w:as.length=bs.length
 ·rw[Xz w];rw[show min d.length c.length=as.length by lia,show(d.length==c.length)=true by simp;omega,Ls]at this;exact this
 ·rw[Xv w];rw[show(d.length==c.length)=false by simp;omega,E7]at this;exact this
theorem GL(I:Inv X aa σ H s)(o:Rh X.K R h H):∀(n:Nat) (A:Around),A.units+n<cLine->∀(E l:W) (v1 M:V) (O N:Value) (a b:W),Rw X.K R E v1->Rw X.K R l M->RelV v1 O->RelV M N->drf h n E=some a->drf h n l=some b->EqAt A s O N (eqW a b)
 |0,_,_,_,_,_,_,_,_,_,_,_,_,_,_,e,_=>by cases e
 | n+1,A,hu,E,l,v1,M,O,N,a,b,P,G,i,g,Z,x=>by
  have c:A.units<cLine:=by exact No (Nv _ _) hu
  have ih:=GL I o n A.in1 (by show A.units+1+n<cLine;lia)
  have w:∀{ad:Addr} {L:List V},SqL X.K H ad L->∃d:Array Value,s.heap.IsList ad d:=fun q=>by
   obtain⟨d,_,p,_⟩:=I.list q;exact⟨_,p.isList⟩
  have v:∀{ad:Addr} {L:List V},SqT X.K H ad L->∃d:Array Value,s.heap.IsTuple ad d:=fun q=>by
   obtain⟨d,_,p,_⟩:=I.tuple q;exact⟨_,p⟩
  cases VT o P Z with
  | flat f z=>
   cases VT o G x with
   |flat Y D=>
    have:=Qih (A:=A) (s:=s) i g f Y
    rcases z with⟨rfl,rfl⟩|⟨_,rfl,rfl⟩|⟨_,rfl,rfl⟩|⟨_,rfl,rfl⟩<;>rcases D with⟨rfl,rfl⟩|⟨_,rfl,rfl⟩|⟨_,rfl,rfl⟩|⟨_,rfl,rfl⟩<;>(unfold eqW;exact this)
   |lst e q=>
    subst e;cases g;obtain⟨d,p⟩:=w q
    rcases z with⟨rfl,rfl⟩|⟨_,rfl,rfl⟩|⟨_,rfl,rfl⟩|⟨_,rfl,rfl⟩
    ·cases i;unfold eqW;exact EqAt.none_list p c
    ·cases i;unfold eqW;exact EqAt.bool_list _ p c
    ·obtain⟨t,rfl⟩:=i;unfold eqW;exact EqAt.int_list _ t p c
    ·obtain⟨t,rfl⟩:=i;unfold eqW;exact EqAt.str_list _ t p c
   |tup e q=>
    subst e;cases g;obtain⟨d,p⟩:=v q
    rcases z with⟨rfl,rfl⟩|⟨_,rfl,rfl⟩|⟨_,rfl,rfl⟩|⟨_,rfl,rfl⟩
    ·cases i;unfold eqW;exact EqAt.none_tuple p c
    ·cases i;unfold eqW;exact EqAt.bool_tuple _ p c
    ·obtain⟨t,rfl⟩:=i;unfold eqW;exact EqAt.int_tuple _ t p c
    ·obtain⟨t,rfl⟩:=i;unfold eqW;exact EqAt.str_tuple _ t p c
  | @lst C _ _ _ e q r m=>
   subst e;cases i;obtain⟨d,p⟩:=w q;have U:=VT o G x;cases U with
   |flat Y D=>
    rcases D with⟨rfl,rfl⟩|⟨_,rfl,rfl⟩|⟨_,rfl,rfl⟩|⟨_,rfl,rfl⟩
    ·cases g;unfold eqW;exact EqAt.list_none p c
    ·cases g;unfold eqW;exact EqAt.list_bool _ p c
    ·obtain⟨t,rfl⟩:=g;unfold eqW;exact EqAt.list_int _ t p c
    ·obtain⟨t,rfl⟩:=g;unfold eqW;exact EqAt.list_str _ t p c
   |@lst B _ _ _ y u Q T=>
    subst y;cases g
    by_cases j:C=B
    ·subst j;have:=Kg I o (n+1) E l _ _ _ P G Z x;rw[this,Wq (n+1) l _ x];exact EqAt.same _
    ·unfold eqW;exact EqAt.of_refs j (Gv I c ih q u r Q m T)
   |tup y u=>
    subst y;cases g;obtain⟨J,S⟩:=v u;unfold eqW;exact EqAt.list_tuple p S c
  | @tup C _ _ _ e q r m=>
   subst e;cases i;obtain⟨d,p⟩:=v q;have U:=VT o G x;cases U with
   |flat Y D=>
    rcases D with⟨rfl,rfl⟩|⟨_,rfl,rfl⟩|⟨_,rfl,rfl⟩|⟨_,rfl,rfl⟩
    ·cases g;unfold eqW;exact EqAt.tuple_none p c
    ·cases g;unfold eqW;exact EqAt.tuple_bool _ p c
    ·obtain⟨t,rfl⟩:=g;unfold eqW;exact EqAt.tuple_int _ t p c
    ·obtain⟨t,rfl⟩:=g;unfold eqW;exact EqAt.tuple_str _ t p c
   |lst y u=>
    subst y;cases g;obtain⟨J,S⟩:=w u;unfold eqW;exact EqAt.tuple_list p S c
   |@tup B _ _ _ y u Q T=>
    subst y;cases g
    by_cases j:C=B
    ·subst j;have:=Kg I o (n+1) E l _ _ _ P G Z x;rw[this,Wq (n+1) l _ x];exact EqAt.same _
    ·unfold eqW;exact EqAt.of_refs j (QaK I c ih q u r Q m T)
end
end Mi
namespace Mi
open L2 PySem.SeqAt
section
variable{X:Cx}{pins:List (Addr×Obj)}{σ:L2.St}{H:Hp}{s:Shared}{R:Rn}{h:MH}
theorem Qal(I:Inv X pins σ H s)(hu:A.units<cLine)(C:∀i g v1 c m l a b,Rw X.K R i v1->Rw X.K R g c->RelV v1 m->RelV c l->drf h n i=some a->drf h n g=some b->EqAt A.in1 s m l (eqW a b))
  {ad x:Addr} (B:SqL X.K H ad xs) (z:SqL X.K H x y) (p:Rws X.K R e xs) (o:Rws X.K R d y) (u:ZL (drf h n) e=some as) (t:ZL (drf h n) d=some bs):RcNeAt A s (.ref ad) (.ref x) (!K7 as bs):=by
 obtain⟨f,v1,r,_⟩:=I.list B;obtain⟨v,c,q,_⟩:=I.list z;have O:=p.length;have N:=v1.length;have M:=o.length;have L:=c.length;have J:=(Qu u).1;have G:=(Qu t).1
 by_cases w:as.length=bs.length
 ·rw[Xz w];have:=RcNeAt.lists (A:=A) r.isList q.isList (by rw[Nj,Nj];lia) hu (fun j E D=>VG C p o v1 c u t j E D);rw[Nj]at this;rw[show as.length=f.length by lia];exact this
 ·rw[Xv w];exact RcNeAt.lists_lengths r.isList q.isList (by rw[Nj,Nj];simp;lia) hu
theorem QbL(I:Inv X pins σ H s)(hu:A.units<cLine)(C:∀m l v1 e p o a b,Rw X.K R m v1->Rw X.K R l e->RelV v1 p->RelV e o->drf h n m=some a->drf h n l=some b->EqAt A.in1 s p o (eqW a b))
  {ad i:Addr} (y:SqT X.K H ad xs) (x:SqT X.K H i w) (r:Rws X.K R g xs) (q:Rws X.K R f w) (u:ZL (drf h n) g=some as) (t:ZL (drf h n) f=some bs):RcNeAt A s (.ref ad) (.ref i) (!K7 as bs):=by
 obtain⟨d,v1,B,_⟩:=I.tuple y;obtain⟨c,e,z,_⟩:=I.tuple x;have O:=r.length;have N:=v1.length;have M:=q.length;have L:=e.length;have J:=(Qu u).1;have G:=(Qu t).1;have:=RcNeAt.tuples (A:=A) (show s.heap.IsTuple ad d.toArray from B) (show s.heap.IsTuple i c.toArray from z) hu (fun j E D=>VG C r q v1 e u t j E D);rw[Nj,Nj]at this
 by_cases v:as.length=bs.length
 ·rw[Xz v];rw[show min d.length c.length=as.length by lia,show(d.length==c.length)=true by simp;omega,Ls]at this;exact this
 ·rw[Xv v];rw[show(d.length==c.length)=false by simp;omega,E7]at this;exact this
theorem Qhn(I:Inv X pins σ H s)(x:Rh X.K R h H)(n:Nat)(A:Around)(hu:A.units+n<cLine)(O N:W)(v1 P:V)(S Q:Value)(a b:W)(r1:Rw X.K R O v1)(C:Rw X.K R N P)(j:RelV v1 S)(c:RelV P Q)(Y:drf h n O=some a)(L:drf h n N=some b):RcAt A s S Q (eqW a b):=by
 cases n with
 |zero=>cases Y
 | succ n=>
  have d:A.units<cLine:=by exact No (Nv _ _) hu
  have T:=GL I x n A.in1 (by show A.units+1+n<cLine;lia)
  have u:∀{ad:Addr} {B:List V},SqL X.K H ad B->∃i:Array Value,s.heap.IsList ad i:=fun q=>by
   obtain⟨i,_,p,_⟩:=I.list q;exact⟨_,p.isList⟩
  have o:∀{ad:Addr} {B:List V},SqT X.K H ad B->∃i:Array Value,s.heap.IsTuple ad i:=fun q=>by
   obtain⟨i,_,p,_⟩:=I.tuple q;exact⟨_,p⟩
  cases VT x r1 Y with
  | flat f z=>
   cases VT x C L with
   | flat U w=>
    rcases z with⟨rfl,rfl⟩|⟨_,rfl,rfl⟩|⟨_,rfl,rfl⟩|⟨_,rfl,rfl⟩<;>rcases w with⟨rfl,rfl⟩|⟨_,rfl,rfl⟩|⟨_,rfl,rfl⟩|⟨_,rfl,rfl⟩<;>first|(obtain⟨Z,rfl⟩:=j)|cases j
    ·first|(obtain⟨g,rfl⟩:=c)|cases c
     unfold eqW;exact RcAt.none_none
    ·first|(obtain⟨g,rfl⟩:=c)|cases c
     unfold eqW;exact RcAt.none_bool _
    ·first|(obtain⟨g,rfl⟩:=c)|cases c
     unfold eqW;exact RcAt.none_int _ _
    ·first|(obtain⟨g,rfl⟩:=c)|cases c
     unfold eqW;exact RcAt.none_str _ _
    ·first|(obtain⟨g,rfl⟩:=c)|cases c
     unfold eqW;exact RcAt.bool_none _
    ·first|(obtain⟨g,rfl⟩:=c)|cases c
     unfold eqW;exact RcAt.bool_bool _ _
    ·first|(obtain⟨g,rfl⟩:=c)|cases c
     unfold eqW;exact RcAt.bool_int _ _ _
    ·first|(obtain⟨g,rfl⟩:=c)|cases c
     unfold eqW;exact RcAt.bool_str _ _ _
    ·first|(obtain⟨g,rfl⟩:=c)|cases c
     unfold eqW;exact RcAt.int_none _ _
    ·first|(obtain⟨g,rfl⟩:=c)|cases c
     unfold eqW;exact RcAt.int_bool _ _ _
    ·first|(obtain⟨g,rfl⟩:=c)|cases c
     unfold eqW;exact RcAt.int_int _ _ _ _
    ·first|(obtain⟨g,rfl⟩:=c)|cases c
     unfold eqW;exact RcAt.int_str _ _ _ _
    ·first|(obtain⟨g,rfl⟩:=c)|cases c
     unfold eqW;exact RcAt.str_none _ _
    ·first|(obtain⟨g,rfl⟩:=c)|cases c
     unfold eqW;exact RcAt.str_bool _ _ _
    ·first|(obtain⟨g,rfl⟩:=c)|cases c
     unfold eqW;exact RcAt.str_int _ _ _ _
    ·first|(obtain⟨g,rfl⟩:=c)|cases c
     unfold eqW;exact RcAt.str_str _ _ _ _
   |lst e q=>
    subst e;cases c;obtain⟨i,p⟩:=u q
    rcases z with⟨rfl,rfl⟩|⟨_,rfl,rfl⟩|⟨_,rfl,rfl⟩|⟨_,rfl,rfl⟩
    ·cases j;unfold eqW;exact RcAt.none_list p d
    ·cases j;unfold eqW;exact RcAt.bool_list _ p d
    ·obtain⟨t,rfl⟩:=j;unfold eqW;exact RcAt.int_list _ t p d
    ·obtain⟨t,rfl⟩:=j;unfold eqW;exact RcAt.str_list _ t p d
   |tup e q=>
    subst e;cases c;obtain⟨i,p⟩:=o q
    rcases z with⟨rfl,rfl⟩|⟨_,rfl,rfl⟩|⟨_,rfl,rfl⟩|⟨_,rfl,rfl⟩
    ·cases j;unfold eqW;exact RcAt.none_tuple p d
    ·cases j;unfold eqW;exact RcAt.bool_tuple _ p d
    ·obtain⟨t,rfl⟩:=j;unfold eqW;exact RcAt.int_tuple _ t p d
    ·obtain⟨t,rfl⟩:=j;unfold eqW;exact RcAt.str_tuple _ t p d
  | @lst M _ _ _ e q r m=>
   subst e;cases j;obtain⟨i,p⟩:=u q;have J:=VT x C L;cases J with
   |flat U w=>
    rcases w with⟨rfl,rfl⟩|⟨_,rfl,rfl⟩|⟨_,rfl,rfl⟩|⟨_,rfl,rfl⟩
    ·cases c;unfold eqW;exact RcAt.list_none p d
    ·cases c;unfold eqW;exact RcAt.list_bool _ p d
    ·obtain⟨t,rfl⟩:=c;unfold eqW;exact RcAt.list_int _ t p d
    ·obtain⟨t,rfl⟩:=c;unfold eqW;exact RcAt.list_str _ t p d
   |tup v l=>
    subst v;cases c;obtain⟨y,E⟩:=o l;unfold eqW;exact RcAt.list_tuple p E d
   |lst v l D G=>
    subst v;cases c;unfold eqW;exact Gv I d T q l r D m G
  | @tup M _ _ _ e q r m=>
   subst e;cases j;obtain⟨i,p⟩:=o q;have J:=VT x C L;cases J with
   |flat U w=>
    rcases w with⟨rfl,rfl⟩|⟨_,rfl,rfl⟩|⟨_,rfl,rfl⟩|⟨_,rfl,rfl⟩
    ·cases c;unfold eqW;exact RcAt.tuple_none p d
    ·cases c;unfold eqW;exact RcAt.tuple_bool _ p d
    ·obtain⟨t,rfl⟩:=c;unfold eqW;exact RcAt.tuple_int _ t p d
    ·obtain⟨t,rfl⟩:=c;unfold eqW;exact RcAt.tuple_str _ t p d
   |lst v l=>
    subst v;cases c;obtain⟨y,E⟩:=u l;unfold eqW;exact RcAt.tuple_list p E d
   |tup v l D G=>
    subst v;cases c;unfold eqW;exact QaK I d T q l r D m G
theorem Qdc(I:Inv X pins σ H s)(x:Rh X.K R h H)(n:Nat)(A:Around)(hu:A.units+n<cLine)(O N:W)(v1 P:V)(S Q:Value)(a b:W)(r1:Rw X.K R O v1)(C:Rw X.K R N P)(j:RelV v1 S)(c:RelV P Q)(Y:drf h n O=some a)(L:drf h n N=some b):RcNeAt A s S Q (!eqW a b):=by
 cases n with
 |zero=>cases Y
 | succ n=>
  have d:A.units<cLine:=by exact No (Nv _ _) hu
  have T:=GL I x n A.in1 (by show A.units+1+n<cLine;omega)
  have u:∀{ad:Addr} {B:List V},SqL X.K H ad B->∃i:Array Value,s.heap.IsList ad i:=fun q=>by
   obtain⟨i,_,p,_⟩:=I.list q;exact⟨_,p.isList⟩
  have o:∀{ad:Addr} {B:List V},SqT X.K H ad B->∃i:Array Value,s.heap.IsTuple ad i:=fun q=>by
   obtain⟨i,_,p,_⟩:=I.tuple q;exact⟨_,p⟩
  cases VT x r1 Y with
  | flat f z=>
   cases VT x C L with
   | flat U w=>
    rcases z with⟨rfl,rfl⟩|⟨_,rfl,rfl⟩|⟨_,rfl,rfl⟩|⟨_,rfl,rfl⟩<;>rcases w with⟨rfl,rfl⟩|⟨_,rfl,rfl⟩|⟨_,rfl,rfl⟩|⟨_,rfl,rfl⟩<;>first|(obtain⟨Z,rfl⟩:=j)|cases j
    ·first|(obtain⟨g,rfl⟩:=c)|cases c
     unfold eqW;exact RcNeAt.none_none
    ·first|(obtain⟨g,rfl⟩:=c)|cases c
     unfold eqW;exact RcNeAt.none_bool _
    ·first|(obtain⟨g,rfl⟩:=c)|cases c
     unfold eqW;exact RcNeAt.none_int _ _
    ·first|(obtain⟨g,rfl⟩:=c)|cases c
     unfold eqW;exact RcNeAt.none_str _ _
    ·first|(obtain⟨g,rfl⟩:=c)|cases c
     unfold eqW;exact RcNeAt.bool_none _
    ·first|(obtain⟨g,rfl⟩:=c)|cases c
     unfold eqW;exact RcNeAt.bool_bool _ _
    ·first|(obtain⟨g,rfl⟩:=c)|cases c
     unfold eqW;exact RcNeAt.bool_int _ _ _
    ·first|(obtain⟨g,rfl⟩:=c)|cases c
     unfold eqW;exact RcNeAt.bool_str _ _ _
    ·first|(obtain⟨g,rfl⟩:=c)|cases c
     unfold eqW;exact RcNeAt.int_none _ _
    ·first|(obtain⟨g,rfl⟩:=c)|cases c
     unfold eqW;exact RcNeAt.int_bool _ _ _
    ·first|(obtain⟨g,rfl⟩:=c)|cases c
     unfold eqW;exact RcNeAt.int_int _ _ _ _
    ·first|(obtain⟨g,rfl⟩:=c)|cases c
     unfold eqW;exact RcNeAt.int_str _ _ _ _
    ·first|(obtain⟨g,rfl⟩:=c)|cases c
     unfold eqW;exact RcNeAt.str_none _ _
    ·first|(obtain⟨g,rfl⟩:=c)|cases c
     unfold eqW;exact RcNeAt.str_bool _ _ _
    ·first|(obtain⟨g,rfl⟩:=c)|cases c
     unfold eqW;exact RcNeAt.str_int _ _ _ _
    ·first|(obtain⟨g,rfl⟩:=c)|cases c
     unfold eqW;exact RcNeAt.str_str _ _ _ _
   |lst e q=>
    subst e;cases c;obtain⟨i,p⟩:=u q
    rcases z with⟨rfl,rfl⟩|⟨_,rfl,rfl⟩|⟨_,rfl,rfl⟩|⟨_,rfl,rfl⟩
    ·cases j;unfold eqW;exact RcNeAt.none_list p d
    ·cases j;unfold eqW;exact RcNeAt.bool_list _ p d
    ·obtain⟨t,rfl⟩:=j;unfold eqW;exact RcNeAt.int_list _ t p d
    ·obtain⟨t,rfl⟩:=j;unfold eqW;exact RcNeAt.str_list _ t p d
   |tup e q=>
    subst e;cases c;obtain⟨i,p⟩:=o q
    rcases z with⟨rfl,rfl⟩|⟨_,rfl,rfl⟩|⟨_,rfl,rfl⟩|⟨_,rfl,rfl⟩
    ·cases j;unfold eqW;exact RcNeAt.none_tuple p d
    ·cases j;unfold eqW;exact RcNeAt.bool_tuple _ p d
    ·obtain⟨t,rfl⟩:=j;unfold eqW;exact RcNeAt.int_tuple _ t p d
    ·obtain⟨t,rfl⟩:=j;unfold eqW;exact RcNeAt.str_tuple _ t p d
  | @lst M _ _ _ e q r m=>
   subst e;cases j;obtain⟨i,p⟩:=u q;have J:=VT x C L;cases J with
   |flat U w=>
    rcases w with⟨rfl,rfl⟩|⟨_,rfl,rfl⟩|⟨_,rfl,rfl⟩|⟨_,rfl,rfl⟩
    ·cases c;unfold eqW;exact RcNeAt.list_none p d
    ·cases c;unfold eqW;exact RcNeAt.list_bool _ p d
    ·obtain⟨t,rfl⟩:=c;unfold eqW;exact RcNeAt.list_int _ t p d
    ·obtain⟨t,rfl⟩:=c;unfold eqW;exact RcNeAt.list_str _ t p d
   |tup v l=>
    subst v;cases c;obtain⟨y,E⟩:=o l;unfold eqW;exact RcNeAt.list_tuple p E d
   |lst v l D G=>
    subst v;cases c;unfold eqW;exact Qal I d T q l r D m G
  | @tup M _ _ _ e q r m=>
   subst e;cases j;obtain⟨i,p⟩:=o q;have J:=VT x C L;cases J with
   |flat U w=>
    rcases w with⟨rfl,rfl⟩|⟨_,rfl,rfl⟩|⟨_,rfl,rfl⟩|⟨_,rfl,rfl⟩
    ·cases c;unfold eqW;exact RcNeAt.tuple_none p d
    ·cases c;unfold eqW;exact RcNeAt.tuple_bool _ p d
    ·obtain⟨t,rfl⟩:=c;unfold eqW;exact RcNeAt.tuple_int _ t p d
    ·obtain⟨t,rfl⟩:=c;unfold eqW;exact RcNeAt.tuple_str _ t p d
   |lst v l=>
    subst v;cases c;obtain⟨y,E⟩:=u l;unfold eqW;exact RcNeAt.tuple_list p E d
   |tup v l D G=>
    subst v;cases c;unfold eqW;exact QbL I d T q l r D m G
end
noncomputable def wEq(a b:W)(h:MH):Option (W×MH):=(drf h 40 a).bind fun x=>(drf h 40 b).map fun y=>(.bl (eqW x y),h)
noncomputable def wNe(a b:W)(h:MH):Option (W×MH):=(drf h 40 a).bind fun x=>(drf h 40 b).map fun y=>(.bl (!eqW x y),h)
theorem Qj{K:Nd}:OpM K (F2 K f) f:=fun _ _ _ _ q=>q
section
variable{X:Cx}
theorem Qet(hu:X.A.units+64<cLine):OpR X (compareOp .Eq) (F2 X.K wEq):=by
 intro d s t H x y v u Q I g f q;obtain⟨R,h,a,b,w,z,c,j,i,e,k⟩:=q;obtain⟨r,o,n⟩:=Nc.mp e;obtain⟨p,m,l⟩:=Nf.mp n;cases l;exact Qhn I c 40 X.A (Ew (Ej (by decide) _) hu) a b x y v u r p j i g f o m _ _ _ _ ⟨.bl _,H,I,rfl,k R H _ (Ext.refl _) c (Rw.bl _)⟩
theorem Yq(hu:X.A.units+64<cLine):OpR X (compareOp .NotEq) (F2 X.K wNe):=by
 intro d s t H x y v u Q I g f q;obtain⟨R,h,a,b,w,z,c,j,i,e,k⟩:=q;obtain⟨r,o,n⟩:=Nc.mp e;obtain⟨p,m,l⟩:=Nf.mp n;cases l;exact Qdc I c 40 X.A (Ew (Ej (by decide) _) hu) a b x y v u r p j i g f o m _ _ _ _ ⟨.bl _,H,I,rfl,k R H _ (Ext.refl _) c (Rw.bl _)⟩
noncomputable def inW(x:W)(xs:List W):Bool:=xs.any fun y=>eqW y x
noncomputable def wIn(neg:Bool)(a b:W)(h:MH):Option (W×MH):=match b with
 |.tup d=>(drf h 40 a).bind fun x=>(ZL (drf h 40) d).map fun c=>(.bl (if neg then !inW x c else inW x c),h)
 |b=>(lsW h b).bind fun d=>(drf h 40 a).bind fun x=>(ZL (drf h 40) d).map fun c=>(.bl (if neg then !inW x c else inW x c),h)
open Classical in
noncomputable def QaA(K:Nd)(R:Rn)(h:MH)(x:W)(u:Value):Bool:=decide (∃w v a,Rw K R w v/\RelV v u/\drf h 40 w=some a/\eqW a x=true)
open Classical in
theorem UN(I:Inv X c σ H s)(i:Rh X.K R h H)(r:Rw X.K R w v)(t:RelV v u)(e:drf h 40 w=some a):QaA X.K R h x u=eqW a x:=by
 unfold QaA
 by_cases q:eqW a x=true
 ·rw[q];exact decide_eq_true ⟨w,v,a,r,t,e,q⟩
 ·have b:eqW a x=false:=by simpa using q
  rw[b];refine decide_eq_false fun d=>?_;obtain⟨f,n,m,j,g,l,z⟩:=d;have:=t.inj g;subst this;rw[Kg I i 40 w f v a m r j e l,z]at b;cases b
theorem UB(I:Inv X c σ H s)(b:Rh X.K R h H):∀{ws as:List W} {xs:List V} {a:List Value},Rws X.K R ws xs->Vals xs a->ZL (drf h 40) ws=some as->a.any (QaA X.K R h x)=inW x as
 |[],_,_,_,r,t,m=>by
  rw[Rws.nil_iff]at r;subst r;cases t;cases m;rfl
 | w::ws,_,_,_,r,t,m=>by
  rw[Rws.cons_iff]at r;obtain⟨v,e,rfl,j,i⟩:=r;cases t with
  |cons g f=>
   obtain⟨y,p,o⟩:=Nc.mp m;obtain⟨q,n,l⟩:=Nf.mp o;subst l;have d:=UB I b (x:=x) i f n;unfold inW at d ⊢;rw[ES,ES,UN I b j g p,d]
theorem Xo(I:Inv X j σ H s)(g:Rh X.K R h H)(hu:A.units+40<cLine)(z:Rw X.K R a v)(q:RelV v u)(G:drf h 40 a=some x) 
  (r:Rws X.K R ws xs) (t:Vals xs p) (m:ZL (drf h 40) ws=some as):∀y∈p,EqAt A s y u (QaA X.K R h x y):=by
 intro y D;obtain⟨i,l,e⟩:=List.mem_iff_getElem.mp D;have C:=r.length;have B:=t.length;obtain⟨w,hw⟩:∃w,ws[i]?=some w:=⟨ws[i]'(Nn (Nn l (Nr B.symm)) (Nr C.symm)),Ni _⟩
 obtain⟨o,E,d⟩:=r.get hw;obtain⟨J,c,f⟩:=t.get E;rw[Ni l,e]at c;cases c;obtain⟨b,L,n⟩:=(Qu m).2 i w hw;rw[UN I g d f n];exact GL I g 40 A hu w a o v y u b x d z f q n G
theorem GV(hu:X.A.units+64<cLine):OpR X (compareOp .In) (F2 X.K (wIn false)):=by
 intro p s T H x y v u Q I O N q;obtain⟨R,h,a,b,w,M,l,S,P,e,k⟩:=q;have B:X.A.in1.units+40<cLine:=by show X.A.units+1+40<cLine;lia
 have main:∀g,((drf h 40 a).bind fun x=>(ZL (drf h 40) g).map fun c=>((W.bl (if false then !inW x c else inW x c),h):W×MH))=some (w,M)->∃d c,drf h 40 a=some d/\ZL (drf h 40) g=some c/\w=.bl (inW d c)/\M=h:=fun g e=>by
  obtain⟨d,j,Y⟩:=Nc.mp e;obtain⟨c,i,U⟩:=Nf.mp Y;cases U;exact⟨d,c,j,i,rfl,rfl⟩
 have fin:∀{d:W} {c E:List W} {m:List V} {f:List Value},Rws X.K R E m->Vals m f->drf h 40 a=some d->ZL (drf h 40) E=some c->w=.bl (inW d c)->M=h->EP X p T Q (.bool (f.toArray.any (QaA X.K R h d))) s:=fun {d c E m f} r t ea em C D=>by
  subst C D;rw[Oi,UB I l r t em];exact⟨.bl _,H,I,rfl,k R H _ (Ext.refl _) l (Rw.bl _)⟩
 unfold wIn at e;split at e
 ·rename_i g;obtain⟨d,c,j,i,C,D⟩:=main g e;obtain⟨ad,m,rfl,G,o⟩:=l.tupAt P;cases N;obtain⟨f,n,J,_⟩:=I.tuple G;exact in_tupleAt (QaA X.K R h d) (show s.heap.IsTuple ad f.toArray from J) (fun z L=>Xo I l B S O j o n i z (by simpa using L)) (fin o n j i C D)
 ·obtain⟨g,Z,e⟩:=Nc.mp e;obtain⟨d,c,j,i,C,D⟩:=main g e;obtain⟨ad,m,rfl,G,o⟩:=l.lsAt P Z;cases N;obtain⟨f,n,J,_⟩:=I.list G;exact in_listAt (QaA X.K R h d) J.isList (fun z L=>Xo I l B S O j o n i z (by simpa using L)) (fin o n j i C D)
theorem QaM(hu:X.A.units+64<cLine):OpR X (compareOp .NotIn) (F2 X.K (wIn true)):=by
 intro p s T H x y v u Q I O N q;obtain⟨R,h,a,b,w,M,l,S,P,e,k⟩:=q;have B:X.A.in1.units+40<cLine:=by show X.A.units+1+40<cLine;omega
 have main:∀g,((drf h 40 a).bind fun x=>(ZL (drf h 40) g).map fun c=>((W.bl (if true then !inW x c else inW x c),h):W×MH))=some (w,M)->∃d c,drf h 40 a=some d/\ZL (drf h 40) g=some c/\w=.bl (!inW d c)/\M=h:=fun g e=>by
  obtain⟨d,j,Y⟩:=Nc.mp e;obtain⟨c,i,U⟩:=Nf.mp Y;cases U;exact⟨d,c,j,i,rfl,rfl⟩
 have fin:∀{d:W} {c E:List W} {m:List V} {f:List Value},Rws X.K R E m->Vals m f->drf h 40 a=some d->ZL (drf h 40) E=some c->w=.bl (!inW d c)->M=h->EP X p T Q (.bool (!f.toArray.any (QaA X.K R h d))) s:=fun {d c E m f} r t ea em C D=>by
  subst C D;rw[Oi,UB I l r t em];exact⟨.bl _,H,I,rfl,k R H _ (Ext.refl _) l (Rw.bl _)⟩
 unfold wIn at e;split at e
 ·rename_i g;obtain⟨d,c,j,i,C,D⟩:=main g e;obtain⟨ad,m,rfl,G,o⟩:=l.tupAt P;cases N;obtain⟨f,n,J,_⟩:=I.tuple G;exact notIn_tupleAt (QaA X.K R h d) (show s.heap.IsTuple ad f.toArray from J) (fun z L=>Xo I l B S O j o n i z (by simpa using L)) (fin o n j i C D)
 ·obtain⟨g,Z,e⟩:=Nc.mp e;obtain⟨d,c,j,i,C,D⟩:=main g e;obtain⟨ad,m,rfl,G,o⟩:=l.lsAt P Z;cases N;obtain⟨f,n,J,_⟩:=I.list G;exact notIn_listAt (QaA X.K R h d) J.isList (fun z L=>Xo I l B S O j o n i z (by simpa using L)) (fin o n j i C D)
end
noncomputable def X2(a b:W)(h:MH):Option (W×MH):=match a,b with
 |.int i,.int j=>some (.int (i+j),h)
 |.str x,.str y=>if x.length+y.length<=sizeLine then some (.str (x++y),h)else none
 |.tup d,.tup c=>if d.length+c.length<=sizeLine then some (.tup (d++c),h)else none
 |a,b=>(loW h a).bind fun d=>(loW h b).bind fun c=>if d.length+c.length<=sizeLine then some (.lst (d++c),h)else none
noncomputable def Qa8(a b:W)(h:MH):Option (W×MH):=match a,b with|.int i,.int j=>some (.int (i-j),h)|_,_=>none
noncomputable def Qg3(a b:W)(h:MH):Option (W×MH):=match a,b with|.int i,.int j=>if(-(2^64)<i/\i<2^64)\/(-(2^64)<j/\j<2^64)then some (.int (i*j),h)else none|_,_=>none
noncomputable def QfI(a b:W)(h:MH):Option (W×MH):=match a,b with|.int i,.int j=>if 0<j/\j<1073741824 then some (.int (i/j),h)else none|_,_=>none
noncomputable def Qco(a b:W)(h:MH):Option (W×MH):=match a,b with|.int i,.int j=>if 0<j then some (.int (i%j),h)else none|_,_=>none
noncomputable def Qfs(a b:W)(h:MH):Option (W×MH):=match a,b with|.int i,.int j=>if 0<=j/\j<=1000000/\i.natAbs<2^64 then some (.int (i^j.toNat),h)else none|_,_=>none
noncomputable def wLt(a b:W)(h:MH):Option (W×MH):=match a,b with|.int i,.int j=>some (.bl (decide (i<j)),h)|.str x,.str y=>some (.bl (decide (x.cps.toList<y.cps.toList)),h)|_,_=>none
noncomputable def wLe(a b:W)(h:MH):Option (W×MH):=match a,b with|.int i,.int j=>some (.bl (decide (i<=j)),h)|.str x,.str y=>some (.bl (!decide (y.cps.toList<x.cps.toList)),h)|_,_=>none
noncomputable def wGt(a b:W)(h:MH):Option (W×MH):=match a,b with|.int i,.int j=>some (.bl (decide (j<i)),h)|_,_=>none
noncomputable def wGe(a b:W)(h:MH):Option (W×MH):=match a,b with|.int i,.int j=>some (.bl (decide (j<=i)),h)|_,_=>none
noncomputable def QhQ:W->Bool
 |.non=>true
 |_=>false
noncomputable def wIs(a b:W)(h:MH):Option (W×MH):=match b with
 |.non=>some (.bl (QhQ a),h)
 |.bl y=>match a with|.bl x=>some (.bl (x==y),h)|_=>none
 |_=>none
section
variable{X:Cx}
noncomputable def QjT(K:Nd):R2:=fun x y H Q=>∃a b c d,x=.ref a/\y=.ref b/\SqT K H a c/\SqT K H b d/\c.length+d.length<=sizeLine /\
 (c=[]->Q (.ref b) H)/\(c≠[]->d=[]->Q (.ref a) H)/\(c≠[]->d≠[]->∀p,H p=none->Q (.ref p) (upd H p (.tup (c++d))))
theorem op_catA:OpR X (binaryOp .Add) (QjT X.K):=by
 intro c s A H x y v u Q I p o h;obtain⟨a,b,m,B,rfl,rfl,w,t,P,J,G,E⟩:=h
 by_cases i:m=[]
 ·subst i;cases p;cases o;obtain⟨O,D,M,_⟩:=I.tuple w;obtain⟨d,S,L,_⟩:=I.tuple t;cases D;obtain⟨⟨cls,R,data,C⟩,q,r,n,hd⟩:=id M;obtain⟨⟨z,l,data2,j⟩,e,g,N,f⟩:=id L;simp only at r hd g f;subst r hd g f
  exact LO ⟨_,q,rfl⟩ ⟨_,e,rfl⟩ Ij Lv Fh D9 (D1 _ _)
   (tuple_addW0 a b #[] d.toArray n N R l C j (by simp)) ⟨q,e,⟨.ref b,H,I,rfl,J rfl⟩⟩
 ·exact Qfx c s A H _ _ v u Q I p o ⟨a,b,m,B,rfl,rfl,w,t,i,P,G i,E i⟩
theorem Qbn:OpR X (compareOp .LtE) (fun x y H Q=>∃i j,x=.str i/\y=.str j/\Q (.bl (!decide (j.cps.toList<i.cps.toList))) H):=by
 intro a s d H x y v u Q I c b h;obtain⟨i,j,rfl,rfl,q⟩:=h;obtain⟨t,rfl⟩:=c;obtain⟨e,rfl⟩:=b;exact PySem.P.le_str ⟨.bl _,H,I,rfl,q⟩
theorem Qfy:OpR X (binaryOp .Add) (F2 X.K X2):=by
 intro m s P H x y v u Q I T S q;refine(op_add.or (op_add_str.or (op_catA.or Qix))) m s P H x y v u Q I T S ?_;obtain⟨R,h,a,b,w,U,c,i,g,e,k⟩:=q;unfold X2 at e;split at e
 ·cases e;exact .inl ⟨_,_,i.int_eq,g.int_eq,k R H _ (Ext.refl _) c (Rw.int _)⟩
 ·split at e
  ·rename_i E;cases e;exact .inr (.inl ⟨_,_,i.str_eq,g.str_eq,E,k R H _ (Ext.refl _) c (Rw.str _)⟩)
  ·cases e
 ·split at e
  ·rename_i M L E;cases e;obtain⟨ad,t,o,C,l⟩:=c.tupAt i;obtain⟨G,r,n,B,j⟩:=c.tupAt g;have O:=l.length;have N:=j.length;refine .inr (.inr (.inl ⟨ad,G,t,r,o,n,C,B,by lia,fun z=>?_,fun _ z=>?_,fun _ _ p D=>?_⟩))
   ·subst z;have:M=[]:=NM.mp O;subst this;exact k R H _ (Ext.refl _) c (n▸g)
   ·subst z;have:L=[]:=NM.mp N;subst this;rw[EI]at k;exact k R H _ (Ext.refl _) c (o▸i)
   ·obtain⟨J,A,f,d⟩:=c.tup D (Rws.append l j);exact k J _ _ A f d
  ·cases e
 ·obtain⟨M,o,e⟩:=Nc.mp e;obtain⟨L,n,e⟩:=Nc.mp e;split at e
  ·rename_i E;cases e;obtain⟨ad,t,f1,C,l⟩:=c.loAt i o;obtain⟨G,r,f2,B,j⟩:=c.loAt g n;have O:=l.length;have N:=j.length;refine .inr (.inr (.inr ⟨ad,G,t,r,f1,f2,C,B,by omega,fun p D=>?_⟩));obtain⟨J,A,f,d⟩:=c.lstI D (Rws.append l j);exact k J _ _ A f d
  ·cases e
theorem Qft:OpR X (binaryOp .Sub) (F2 X.K Qa8):=by
 intro c s d H x y v u Q I g f q;refine QiD c s d H x y v u Q I g f ?_;obtain⟨R,h,a,b,w,m,i,l,j,e,k⟩:=q;unfold Qa8 at e;split at e
 ·cases e;exact⟨_,_,l.int_eq,j.int_eq,k R H _ (Ext.refl _) i (Rw.int _)⟩
 ·cases e
theorem QeK:OpR X (binaryOp .Mult) (F2 X.K Qg3):=by
 intro c s d H x y v u Q I g f q;refine QhZ c s d H x y v u Q I g f ?_;obtain⟨R,h,a,b,w,n,i,l,j,e,k⟩:=q;unfold Qg3 at e;split at e
 ·split at e
  ·rename_i m;cases e;exact⟨_,_,l.int_eq,j.int_eq,m,k R H _ (Ext.refl _) i (Rw.int _)⟩
  ·cases e
 ·cases e
theorem QaJ:OpR X (binaryOp .FloorDiv) (F2 X.K QfI):=by
 intro c s d H x y v u Q I g f q;refine QeU c s d H x y v u Q I g f ?_;obtain⟨R,h,a,b,w,n,i,l,j,e,k⟩:=q;unfold QfI at e;split at e
 ·split at e
  ·rename_i m;cases e;exact⟨_,_,l.int_eq,j.int_eq,m,k R H _ (Ext.refl _) i (Rw.int _)⟩
  ·cases e
 ·cases e
theorem XH:OpR X (binaryOp .Mod) (F2 X.K Qco):=by
 intro c s d H x y v u Q I g f q;refine QhP c s d H x y v u Q I g f ?_;obtain⟨R,h,a,b,w,n,i,l,j,e,k⟩:=q;unfold Qco at e;split at e
 ·split at e
  ·rename_i m;cases e;exact⟨_,_,l.int_eq,j.int_eq,m,k R H _ (Ext.refl _) i (Rw.int _)⟩
  ·cases e
 ·cases e
theorem Qbj:OpR X (binaryOp .Pow) (F2 X.K Qfs):=by
 intro c s d H x y v u Q I g f q;refine Qie c s d H x y v u Q I g f ?_;obtain⟨R,h,a,b,w,n,i,l,j,e,k⟩:=q;unfold Qfs at e;split at e
 ·split at e
  ·rename_i m;cases e;exact⟨_,_,l.int_eq,j.int_eq,m,k R H _ (Ext.refl _) i (Rw.int _)⟩
  ·cases e
 ·cases e
theorem Gc:OpR X (compareOp .Lt) (F2 X.K wLt):=by
 intro c s i H x y v u Q I l j q;refine(op_lt.or QaE) c s i H x y v u Q I l j ?_;obtain⟨R,h,a,b,w,m,d,g,f,e,k⟩:=q;unfold wLt at e;split at e
 ·cases e;exact .inl ⟨_,_,g.int_eq,f.int_eq,k R H _ (Ext.refl _) d (Rw.bl _)⟩
 ·cases e;exact .inr ⟨_,_,g.str_eq,f.str_eq,k R H _ (Ext.refl _) d (Rw.bl _)⟩
 ·cases e
theorem Xu:OpR X (compareOp .LtE) (F2 X.K wLe):=by
 intro c s i H x y v u Q I l j q;refine(op_le.or Qbn) c s i H x y v u Q I l j ?_;obtain⟨R,h,a,b,w,m,d,g,f,e,k⟩:=q;unfold wLe at e;split at e
 ·cases e;exact .inl ⟨_,_,g.int_eq,f.int_eq,k R H _ (Ext.refl _) d (Rw.bl _)⟩
 ·cases e;exact .inr ⟨_,_,g.str_eq,f.str_eq,k R H _ (Ext.refl _) d (Rw.bl _)⟩
 ·cases e
theorem Qg6:OpR X (compareOp .Gt) (F2 X.K wGt):=by
 intro c s d H x y v u Q I g f q;refine QjW c s d H x y v u Q I g f ?_;obtain⟨R,h,a,b,w,m,i,l,j,e,k⟩:=q;unfold wGt at e;split at e
 ·cases e;exact⟨_,_,l.int_eq,j.int_eq,k R H _ (Ext.refl _) i (Rw.bl _)⟩
 ·cases e
theorem QgJ:OpR X (compareOp .GtE) (F2 X.K wGe):=by
 intro c s d H x y v u Q I g f q;refine QjH c s d H x y v u Q I g f ?_;obtain⟨R,h,a,b,w,m,i,l,j,e,k⟩:=q;unfold wGe at e;split at e
 ·cases e;exact⟨_,_,l.int_eq,j.int_eq,k R H _ (Ext.refl _) i (Rw.bl _)⟩
 ·cases e
noncomputable def Qa1(a:W)(h:MH):Option (W×MH):=match a with|.int i=>some (.int (-i),h)|_=>none
theorem XZ(f:PM X a d):PM X (.UnaryOp .USub a pos) (mUn Qa1 d):=QM (Qkh Qg4 f) fun i H Q q=>ZF (un1 q) <|by
 rintro x g ⟨R,h,a,w,j,b,c,e,k⟩
 unfold Qa1 at e;split at e
 ·cases e;exact⟨_,c.int_eq,k R g _ (Ext.refl _) b (Rw.int _)⟩
 ·cases e
noncomputable def wIx(a b:W)(h:MH):Option (W×MH):=match b with
 |.int i=>match a with
  |.tup d=>(atI d i).map fun w=>(w,h)
  |.str x=>if x.length<=sizeLine then(atI x.cps.toList i).map fun c=>(.str ⟨#[c]⟩,h)else none
  |a=>(lsW h a).bind fun d=>(atI d i).map fun w=>(w,h)
 |_=>none
theorem QbG{K:Nd}(r:Rws K R ws xs)(e:atI ws i=some w):∃v,atI xs i=some v/\Rw K R w v:=by
 unfold atI at e ⊢;rw[<-r.length];obtain⟨j,d,c⟩:=Nc.mp e;obtain⟨v,b,a⟩:=r.get c;exact⟨v,by rw[d];exact b,a⟩
theorem QfH:IxR X (F2 X.K wIx):=by
 intro value slice f s z H x y v u Q I D C q E;refine Qir value slice f s z H x y v u Q I D C ?_ E;obtain⟨R,h,a,b,w,L,d,n,m,e,k⟩:=q;unfold wIx at e;split at e
 ·rename_i i;split at e
  ·rename_i A;obtain⟨B,j,g⟩:=Nf.mp e;cases g;obtain⟨ad,l,rfl,r,p⟩:=d.tupAt n;obtain⟨v1,t,o⟩:=QbG p j;exact .inr (.inl ⟨ad,l,i,v1,rfl,m.int_eq,r,t,k R H _ (Ext.refl _) d o⟩)
  ·split at e
   ·rename_i G;obtain⟨c,j,g⟩:=Nf.mp e;cases g;exact .inr (.inr ⟨_,i,c,n.str_eq,m.int_eq,G,j,k R H _ (Ext.refl _) d (Rw.str _)⟩)
   ·cases e
  ·obtain⟨A,J,e⟩:=Nc.mp e;obtain⟨B,j,g⟩:=Nf.mp e;cases g;obtain⟨ad,l,rfl,r,p⟩:=d.lsAt n J;obtain⟨v1,t,o⟩:=QbG p j;exact .inl ⟨ad,l,i,v1,rfl,m.int_eq,r,t,k R H _ (Ext.refl _) d o⟩
 ·cases e
theorem QjJ(i:PM X a f)(h:PM X b e)(g:Y6 b:=by intro _ _;rfl):PM X (.Subscript a b pos) (Qf wIx f e):=
 QM (Qin QfH i h g) fun _ _ _ q=>ZF (QgL q) fun _ _ d=>ZF d fun _ _ c=>c
noncomputable def JC(ws:List W)(h:MH):Option (W×MH):=match ws with
 |[.str x]=>if x.length<=sizeLine then some (.int x.length,h)else none
 |[.tup ws]=>some (.int ws.length,h)
 |[a]=>(lsW h a).map fun ws=>(.int ws.length,h)
 |_=>none
theorem Jw{K:Nd}:QfC K (Fs K f) f:=fun _ _ _ q=>q
theorem UF{K:Nd}(r:Rws K R [a] xs):∃v,xs=[v]/\Rw K R a v:=by
 rw[Rws.cons_iff]at r;obtain⟨v,d,rfl,c,b⟩:=r;rw[Rws.nil_iff]at b;subst b;exact⟨v,rfl,c⟩
theorem Qi4{K:Nd}(r:Rws K R [a,b] xs):∃v u,xs=[v,u]/\Rw K R a v/\Rw K R b u:=by
 rw[Rws.cons_iff]at r;obtain⟨v,f,rfl,e,d⟩:=r;obtain⟨u,rfl,c⟩:=UF d;exact⟨v,u,rfl,e,c⟩
theorem QaP:CallR X (.builtin "len") (Fs X.K JC):=by
 intro d s i H a j Q I r q;refine(call_len_seq.or WX) d s i H a j Q I r ?_;obtain⟨R,h,p,w,t,b,rw,e,k⟩:=q;unfold JC at e;split at e
 ·split at e
  ·rename_i l;cases e;obtain⟨v,rfl,c⟩:=UF rw;exact .inr ⟨_,by rw[c.str_eq],l,k R H _ (Ext.refl _) b (Rw.int _)⟩
  ·cases e
 ·cases e;obtain⟨v,rfl,c⟩:=UF rw;obtain⟨ad,a,rfl,g,f⟩:=b.tupAt c;exact .inl ⟨ad,a,rfl,.inr g,by rw[<-f.length];exact k R H _ (Ext.refl _) b (Rw.int _)⟩
 ·obtain⟨o,n,m⟩:=Nf.mp e;cases m;obtain⟨v,rfl,c⟩:=UF rw;obtain⟨ad,a,rfl,g,f⟩:=b.lsAt c n;exact .inl ⟨ad,a,rfl,.inl g,by rw[<-f.length];exact k R H _ (Ext.refl _) b (Rw.int _)⟩
 ·cases e
noncomputable def Jj(ws:List W)(h:MH):Option (W×MH):=match ws with
 |[.tup ws]=>some (.tup ws,h)
 |[a]=>(lsW h a).map fun ws=>(.tup ws,h)
 |_=>none
noncomputable def Qdw(ws:List W)(h:MH):Option (W×MH):=match ws with
 |[.tup ws]=>some (.lst ws,h)
 |[a]=>(lsW h a).map fun ws=>(.lst ws,h)
 |_=>none
theorem UD:CallR X (.type "tuple") (Fs X.K Jj):=by
 intro b s l H a n Q I r q;refine Y5 b s l H a n Q I r ?_;obtain⟨R,h,z,w,A,c,rw,e,k⟩:=q;unfold Jj at e;split at e
 ·cases e;obtain⟨v,rfl,d⟩:=UF rw;obtain⟨ad,a,rfl,i,j⟩:=c.tupAt d;exact⟨ad,a,rfl,.inr ⟨i,k R H _ (Ext.refl _) c d⟩⟩
 ·obtain⟨y,u,t⟩:=Nf.mp e;cases t;obtain⟨v,rfl,d⟩:=UF rw;obtain⟨ad,a,rfl,i,j⟩:=c.lsAt d u;refine⟨ad,a,rfl,.inl ⟨i,fun p o=>?_⟩⟩;obtain⟨x,m,g,f⟩:=c.tup o j;exact k x _ _ m g f
 ·cases e
theorem Qas:CallR X (.type "list") (Fs X.K Qdw):=by
 intro d s o H c t Q I r q;refine WR d s o H c t Q I r ?_;obtain⟨R,h,z,w,A,f,rw,e,k⟩:=q;unfold Qdw at e;split at e
 ·cases e;obtain⟨v,rfl,j⟩:=UF rw;obtain⟨ad,c,rfl,l,i⟩:=f.tupAt j;refine⟨ad,c,rfl,.inr l,fun p m=>?_⟩;obtain⟨n,g,b,a⟩:=f.lstI m i;exact k n _ _ g b a
 ·obtain⟨y,x,u⟩:=Nf.mp e;cases u;obtain⟨v,rfl,j⟩:=UF rw;obtain⟨ad,c,rfl,l,i⟩:=f.lsAt j x;refine⟨ad,c,rfl,.inl l,fun p m=>?_⟩;obtain⟨n,g,b,a⟩:=f.lstI m i;exact k n _ _ g b a
 ·cases e
noncomputable def QeJ:List W->Option (List Bool)
 |[]=>some []
 |.bl b::r=>(QeJ r).map (b::·)
 |_=>none
noncomputable def U5(ws:List W)(h:MH):Option (W×MH):=match ws with
 |[a]=>(lsW h a).bind fun ws=>(QeJ ws).map fun bs=>(.bl (bs.all id),h)
 |_=>none
theorem Qbr{K:Nd}:∀{ws:List W} {xs:List V} {bs:List Bool},Rws K R ws xs->QeJ ws=some bs->xs=bs.map V.bl
 |[],xs,bs,r,e=>by rw[Rws.nil_iff]at r;subst r;cases e;rfl
 |w::ws,xs,bs,r,e=>by
  rw[Rws.cons_iff]at r;obtain⟨v,f,rfl,b,a⟩:=r;cases w<;>simp only[QeJ]at e<;>first|cases e|skip
  obtain⟨g,d,c⟩:=Nf.mp e;subst c;rw[b.bl_eq,Qbr a d];rfl
theorem Gd:∀{bs:List Bool} {a:List Value},Vals (bs.map V.bl) a->a=bs.map Value.bool
 |[],a,r=>by cases r;rfl
 |b::bs,a,r=>by
  cases r with
  |cons d c=>cases d;rw[Gd c];rfl
theorem GX:∀bs:List Bool,(List.range bs.length).all (fun i=>bs.getD i false)=bs.all id
 |[]=>rfl
 |b::bs=>by rw[NR,IP,Fj,OQ,Fj,<-GX bs];rfl
theorem QaC(U:X.calm=true):CallR X (.builtin "all") (Fs X.K U5):=by
 intro y s σ H B us Q I r q;obtain⟨R,h,ws,w,g,t,rw,e,k⟩:=q;unfold U5 at e;split at e
 ·rename_i a;obtain⟨ys,e1,e⟩:=Nc.mp e;obtain⟨bs,e2,m⟩:=Nf.mp e;cases m;obtain⟨v,rfl,J⟩:=UF rw;obtain⟨ad,B,rfl,L,G⟩:=t.lsAt J e1;obtain⟨u,rfl,E⟩:=Ua r;cases E;obtain⟨M,C,j,hz⟩:=I.list L;have f:=Qbr G e2;subst f;have T:=Gd C;subst T;refine call_all_walk (FZ j.isList ?_)
  have l:ad≠s.heap.objs.size:=fun z=>by
   obtain⟨o,n,Z,_⟩:=j;exact sz Z (Nx _) z
  refine⟨s.heap.objs.size,_,_,_,_,_,fun i=>bs.getD i false,rfl,Walks.list (A:=X.A.in1) (show X.A.in1.handled=none from I.ok.hd U) _ ad l (bs.map Value.bool).toArray,?_,?_,fun g tk S=>?_⟩
  ·exact⟨⟨_,Nw _ rfl,rfl,rfl⟩,j.isList.at fun o e=>Nk _ e⟩
  ·intro i v s' Q' E' N O;have d:(bs.map Value.bool)[i]?=some v:=by simpa using N
   rw[Nz]at d;obtain⟨b,f,rfl⟩:=Nf.mp d;refine E3 ?_;have:bs.getD i false=b:=by rw[ET,f];rfl
   exact this▸O
  ·have m:(List.range (bs.map Value.bool).toArray.size).all (fun i=>bs.getD i false)=bs.all id:=by
    rw[Nj,NC];exact GX bs
   rw[m];have I0:=I.kept (t':=s.toks) (h':=s.heap.push { cls:=.type "list_iterator",data:=.fields #[.ref ad,.int 0 0] }) fun b o e=>Nk _ e
   have I':=I0.turned (t':=tk) (h':=g) (it:=s.heap.objs.size) (fun b o f e=>S b o (by simpa using f) e) (I.hok.fresh (Nx _)) (fun z=>Ev _ (z▸I.lt:s.heap.objs.size<s.heap.objs.size)) (.inr I.sz) (fun x c e z=>by
    obtain⟨v,o,Y,_⟩:=I.cell x c e
    exact sz Y (Nx _) z) fun p P z=>sz (I.pin p P).1 (Nx _) z
   exact⟨.bl _,H,I',rfl,k R H _ (Ext.refl _) t (Rw.bl _)⟩
 ·cases e
end
section
variable{prog:Program}{w:World}{A:Around}{E:Value->Shared->Prop}{s:Shared}
theorem Xb{lo b:Option Int}(a:IsTup s.heap t items)(i:s.heap.IsSliceOf g l j .none)(o:IsPart l lo)(n:IsPart j b)
  (hw:HT.sIx items.size 0 lo=0/\HT.sIx items.size items.size b=items.size) (h:Q (.ref t) s):wpAny (model prog w) A (getItem (.ref t) (.ref g)) Q E s:=by
 obtain⟨os,c,e,p⟩:=id i;have f:s.TypeIs (.ref g) "slice":=⟨os,c,e⟩
 unfold getItem
 try with_reducible refine Ek ?_
 first|refine Na (Ng ?_)|skip
 refine Na (L0 a.typeIs (by decide) ?_)
 refine Na (Ed (name:=Str.ofString "__getitem__") a.typeIs N2
  (N5 N2 a.typeIs LA ?_ (LP _ _)))
 show wpAny _ _ (Builtin.Tuple.tupleItemsOf (.ref t)>>=_) _ _ s;refine Na (tupleItemsOf_ a ?_);refine Na (D2 f ?_);rw[if_pos (by decide)];refine Na (HT.sliceApplied_gen i o n ?_)
 have d:((((HT.sIx items.size 0 lo:Nat):Int)==0&&(1:Int)==1&&(HT.sIx items.size items.size b-HT.sIx items.size 0 lo)==items.size)=true):=by
  rw[hw.1,hw.2];simp
 show wpAny _ _ (if(((HT.sIx items.size 0 lo:Nat):Int)==0&&(1:Int)==1&&(HT.sIx items.size items.size b-HT.sIx items.size 0 lo)==items.size)=true then _ else _) _ _ s;rw[if_pos d];refine Na (m:=Builtin.Tuple.tupleIsExact _) ?_;unfold Builtin.Tuple.tupleIsExact;refine Na (D2 a.typeIs (Ng ?_));rw[if_pos (by decide)];exact Na (Dw (Ng ⟨_,rfl,Ng h⟩))
end
noncomputable def QcF(xs:List a)(lo b:Option Int):List a:=(xs.drop (HT.sIx xs.length 0 lo)).take (HT.sIx xs.length xs.length b-HT.sIx xs.length 0 lo)
noncomputable def wSl(a:W)(lo c:Option Int)(h:MH):Option (W×MH):=match a with
 |.tup b=>some (.tup (QcF b lo c),h)
 |.str x=>if x.length<=sizeLine then some (.str (Txt.slice x lo c),h)else none
 |a=>(lsW h a).map fun b=>(.lst (QcF b lo c),h)
theorem Qbw{K:Nd}{ws:List W}(r:Rws K R ws xs)(lo a:Option Int):Rws K R (QcF ws lo a) (QcX xs lo a):=by
 unfold QcF QcX;rw[r.length];exact(r.drop _).take _
theorem Qaw{xs:List b}{lo a:Option Int}(h:HT.sIx xs.length 0 lo=0/\HT.sIx xs.length xs.length a=xs.length):QcF xs lo a=xs:=by
 unfold QcF;rw[h.1,h.2];simp
noncomputable abbrev MOp:=MSt->MH->Option (Option Int×MH)
noncomputable def tIO(K:Nd)(m:MOp):TO:=fun e H Q=>∃R a h o b,Rh K R h H/\Rst K R a e/\m a h=some (o,b)/\∀c d,Ext R c->Rh K c b d->Q o d
def PMO(X:Cx)(e:Option Expr)(m:MOp):Prop:=PO X e (tIO X.K m)
noncomputable def XE:MOp:=fun _ h=>some (none,h)
noncomputable def XF(m:ME):MOp:=fun a h=>(m a h).bind fun p=>match p.1 with|.int i=>some (some i,p.2)|_=>none
noncomputable def mSl(d:ME)(b c:MOp):ME:=fun a h=>(d a h).bind fun p=>(b a p.2).bind fun q=>(c a q.2).bind fun r=>wSl p.1 q.1 r.1 r.2
section
variable{X:Cx}
theorem sl_tupA:SlR X (fun x lo b H Q=>∃a xs,x=.ref a/\SqT X.K H a xs/\((HT.sIx xs.length 0 lo=0/\HT.sIx xs.length xs.length b=xs.length)->Q (.ref a) H) /\
  (¬(HT.sIx xs.length 0 lo=0/\HT.sIx xs.length xs.length b=xs.length)->∀p,H p=none->Q (.ref p) (upd H p (.tup (QcX xs lo b))))):=by
 intro c s n H x v q o lo b t Q I f m i g h;obtain⟨a,xs,rfl,j,w,u⟩:=h
 by_cases hw:HT.sIx xs.length 0 lo=0/\HT.sIx xs.length xs.length b=xs.length
 ·cases f;obtain⟨e,r,l,y⟩:=I.tuple j;have d:e.toArray.size=xs.length:=by rw[Nj];exact r.length.symm
  refine⟨"tuple",_,N2.lookup,l.typeIs,?_⟩;exact Xb l m i g (by rw[d];exact hw) ⟨.ref a,H,I,rfl,w hw⟩
 ·exact QgZ c s n H (.ref a) v q o lo b t Q I f m i g ⟨a,xs,rfl,j,hw,u hw⟩
theorem Qh7:SlR X (fun x lo f H Q=>∃z,x=.str z/\z.length<=sizeLine/\Q (.str (Txt.slice z lo f)) H):=by
 intro a s n H x v w r lo f y Q I o c p m h;obtain⟨z,rfl,b,q⟩:=h;obtain⟨t,rfl⟩:=o;refine⟨"str",_,PySem.F.slot_str_getitem.lookup,Ou _ _ _,?_⟩;have fin:∀(e:Tok) (k:Nat),EP X a n Q (.str (Txt.slice z lo f) e) { s with toks:=k }:=fun e k=>⟨.str _,H,I.tok _,⟨e,rfl⟩,q⟩
 cases p with
 |none=>
  cases m with
  |none=>exact Dv (l:=none) (u:=none) (st:=none) c rfl (FB ⟨Nl (Im z _ _) b,fin⟩)
  |int j d=>exact Dv (l:=none) (u:=some (j,d)) (st:=none) c rfl (FB ⟨Nl (Im z _ _) b,fin⟩)
 |int i g=>
  cases m with
  |none=>exact Dv (l:=some (i,g)) (u:=none) (st:=none) c rfl (FB ⟨Nl (Im z _ _) b,fin⟩)
  |int j d=>exact Dv (l:=some (i,g)) (u:=some (j,d)) (st:=none) c rfl (FB ⟨Nl (Im z _ _) b,fin⟩)
theorem VI:PMO X none XE:=fun a s c H Q I d=>by
 obtain⟨R,b,h,o,g,f,st,e,k⟩:=d;cases e;exact Qgq a s c H Q I (k R H (Ext.refl _) f)
theorem VO(n:PM X e m):PMO X (some e) (XF m):=fun a s f H Q I g=>by
 obtain⟨R,b,h,o,u,l,st,r,k⟩:=g;refine Qfu n a s f H Q I ?_;obtain⟨⟨w,p⟩,q,d⟩:=Nc.mp r;refine⟨R,b,h,w,p,l,st,q,fun R1 t v i c j=>?_⟩;cases w<;>simp only at d<;>first|(cases d;exact⟨_,j.int_eq,k R1 t i c⟩)|cases d
theorem VJ{lo B:Option Expr}{pos M:Pos}(Y:PM X a P)(T:PMO X lo N)(U:PMO X B O):PM X (.Subscript a (.Slice lo B none M) pos) (mSl P N O):=
 QM (QdC (sl_list.or (sl_tupA.or Qh7)) Y T U) fun σ H Q I=>by
  obtain⟨R,f,h,w,h',L,st,e,k⟩:=I;obtain⟨⟨a,D⟩,ea,e2⟩:=Nc.mp e;obtain⟨⟨l,C⟩,el,e3⟩:=Nc.mp e2;obtain⟨⟨u,Z⟩,eu,d⟩:=Nc.mp e3;refine⟨R,f,h,a,D,L,st,ea,fun R1 H1 x r t J=>⟨R1,f,D,l,C,t,st.mono r,el,fun R2 H2 q s=>⟨R2,f,C,u,Z,s,st.mono (r.trans q),eu,fun E G A b=>?_⟩⟩⟩;have c:=Rw.mono (q.trans A) _ _ J;have j:=k.ext (r.trans (q.trans A));dsimp only at d;unfold wSl at d;split at d
  ·cases d;obtain⟨ad,n,rfl,v,m⟩:=b.tupAt c;refine .inr (.inl ⟨ad,n,rfl,v,fun hw=>?_,fun _ p y=>?_⟩)
   ·rw[Qaw (by rw[m.length];exact hw)]at j;exact j E G _ (Ext.refl _) b c
   ·obtain⟨z,o,i,g⟩:=b.tup y (Qbw m l u);exact j z _ _ o i g
  ·split at d
   ·rename_i S;cases d;exact .inr (.inr ⟨_,c.str_eq,S,j E G _ (Ext.refl _) b (Rw.str _)⟩)
   ·cases d
  ·obtain⟨ys,e5,e6⟩:=Nf.mp d;cases e6;obtain⟨ad,n,rfl,v,m⟩:=b.lsAt c e5;refine .inl ⟨ad,n,rfl,v,fun p y=>?_⟩;obtain⟨z,o,i,g⟩:=b.lstI y (Qbw m l u);exact j z _ _ o i g
end
def Qem(X:Cx)(id:String)(f:W->List W->MH->Option (W×MH)):Prop:=
 MtR X id (fun x d H Q=>∃R h a b w c,Rh X.K R h H/\Rw X.K R a x/\Rws X.K R b d/\f a b h=some (w,c)/\After X.K R w c Q)
noncomputable def tyW(h:MH)(T:String):W->Bool
 |.str _=>T=="str"
 |.int _=>T=="int"
 |.lst _=>T=="list"
 |.frz _=>T=="list"
 |.ref n=>match h[n]? with|some (.lst _)=>T=="list"|some (.dic _)=>T=="dict"|some (.dct _)=>T=="dict"|_=>false
 |_=>false
noncomputable def mMt(T:String)(f:W->List W->MH->Option (W×MH))(mo:ME)(b:MA):ME:=fun a h=>(mo a h).bind fun p=>if tyW p.2 T p.1=true then(b a p.2).bind fun q=>f p.1 q.1 q.2 else none
theorem QeB{K:Nd}{x:V}(c:Rh K R h H)(r:Rw K R a x)(e:tyW h T a=true):tyV K T x H:=by
 cases a with
 |str _=>rw[r.str_eq];exact Dk e
 |int _=>rw[r.int_eq];exact Dk e
 |lst _=>
  obtain⟨ad,b,rfl,q,_⟩:=c.lstAt r;exact .inl ⟨Dk e,b,SqL.of q⟩
 |frz _=>
  obtain⟨ad,b,rfl,q,_⟩:=c.frzAt r;exact .inl ⟨Dk e,b,q⟩
 |ref n=>
  simp only[tyW]at e;split at e
  ·rename_i i d;obtain⟨_,rfl,b,f,_⟩:=c.refAt r d;exact .inl ⟨Dk e,b,SqL.of f⟩
  ·rename_i kvs d;unfold Rw at r;obtain⟨g,f,_⟩:=c.obj n _ d;rw[r.2];exact .inr (.inr (.inl ⟨Dk e,.inl ⟨g,f⟩⟩))
  ·rename_i kvs d;unfold Rw at r;obtain⟨g,f,_⟩:=c.obj n _ d;rw[r.2];exact .inr (.inr (.inl ⟨Dk e,.inr ⟨g,f⟩⟩))
  ·cases e
 |_=>cases e
section
variable{X:Cx}{o e:Expr}{es:List Expr}{mo:ME}{ms:MA}{name:Str}{apos cpos:Pos}{T id:String}{f:W->List W->MH->Option (W×MH)}
theorem QgN{X:Cx}{e:Expr}{es:List Expr}{cpos:Pos}(a:decide ((e::es).length<30)=true)(c:Z8 e=false)(b:V0 es=true) :
  ((backTo cpos (starEach (e::es) X.env)).all (fun x=>!x.1)&&(backToKw cpos (keywordEach [] X.env)).all (fun x=>x.1.isSome)
   && decide ((e::es).length+([]:List Keyword).length+(if([]:List Keyword).isEmpty then 0 else 1)<30))=true:=by
 rw[Qdd (by unfold V0 at b ⊢;rw[Fj,c,b];rfl)];exact a
theorem WF(B:PlainAttrs T)(slot:Slot T name id)(p:typeOf (.builtin id)=pure (.type "method_descriptor"))(E:Qem X id f)(D:PM X o mo)(G:PMA X (e::es) ms)
  (d:attributeBase o name X.env (eval o X.env)=eval o X.env:=by rfl) (j:decide ((e::es).length<30)=true:=by rfl)
  (c:(apos.endLine==cpos.line)=true:=by rfl) (u:Z8 e=false:=by rfl) (b:V0 es=true:=by rfl) :
  PM X (.Call (.Attribute o name apos) (e::es) [] cpos) (mMt T f mo ms):=
 QM (QjY B slot p E D G d (QgN j u b) c (Qn u) (Zg b)) fun M H Q z=>by
  obtain⟨R,g,h,w,I,A,st,e,k⟩:=z;obtain⟨⟨a,y⟩,J,l⟩:=Nc.mp e;dsimp only at l;split at l
  ·rename_i C;obtain⟨⟨s,v⟩,es,L⟩:=Nc.mp l;exact⟨R,g,h,a,y,A,st,J,fun R1 P x r i t=>⟨QeB i t C,R1,g,y,s,v,i,st.mono r,es,fun R2 O N q n m=>⟨R2,v,a,s,w,I,n,Rw.mono q _ _ t,m,L,k.ext (r.trans q)⟩⟩⟩
  ·cases l
theorem QaT(r:PlainAttrs T)(slot:Slot T name id)(j:typeOf (.builtin id)=pure (.type "method_descriptor"))(u:Qem X id f)(t:PM X o mo)
  (c:attributeBase o name X.env (eval o X.env)=eval o X.env:=by rfl) (b:(apos.endLine==cpos.line)=true:=by rfl):PM X (.Call (.Attribute o name apos) [] [] cpos) (mMt T f mo Qd):=
 QM (Qim r slot j u t c b) fun A H Q n=>by
  obtain⟨R,i,h,w,v,q,st,e,k⟩:=n;obtain⟨⟨a,m⟩,y,g⟩:=Nc.mp e;dsimp only at g;split at g
  ·rename_i s;obtain⟨⟨B,C⟩,es,z⟩:=Nc.mp g;cases es;exact⟨R,i,h,a,m,q,st,y,fun R1 D x p d l=>⟨QeB d l s,R1,m,a,[],w,v,d,l,Rws.nil,z,k.ext p⟩⟩
  ·cases g
end
noncomputable def QR(a:W)(ws:List W)(h:MH):Option (W×MH):=match a,ws with
 |.ref n,[w]=>match h[n]? with|some (.lst b)=>if b.length<sizeLine then some (.non,h.set n (.lst (b++[w])))else none|_=>none
 |_,_=>none
noncomputable def Kn(a:W)(ws:List W)(h:MH):Option (W×MH):=match a,ws with
 |.ref n,[w]=>match h[n]? with|some (.lst c)=>(loW h w).bind fun b=>if c.length+b.length<=sizeLine then some (.non,h.set n (.lst (c++b)))else none|_=>none
 |_,_=>none
noncomputable def QgH(a:W)(ws:List W)(h:MH):Option (W×MH):=match a,ws with
 |.ref n,[]=>match h[n]? with|some (.lst b)=>(b[b.length-1]?).map fun w=>(w,h.set n (.lst b.dropLast))|_=>none
 |_,_=>none
section
variable{X:Cx}
theorem Rws.dropLast{K:Nd}(r:Rws K R ws a):Rws K R ws.dropLast a.dropLast:=by
 rw[IZ,IZ,r.length];exact r.take _
theorem Qai:Qem X "list.append" QR:=by
 intro b s i H x l v m Q I p r q;refine Qbx b s i H x l v m Q I p r ?_;obtain⟨R,h,a,C,w,E,f,t,c,e,k⟩:=q;unfold QR at e;split at e
 ·rename_i n D;split at e
  ·rename_i B u;split at e
   ·rename_i z;cases e;obtain⟨d,rfl,j,A,g⟩:=f.refAt t u;obtain⟨y,rfl,o⟩:=UF c;refine⟨_,j,y,rfl,rfl,A,by rw[<-g.length];exact z,?_⟩;exact k R _ _ (Ext.refl _) (f.put d ⟨_,rfl,Rws.append g (Rws.cons o Rws.nil)⟩) Rw.non
   ·cases e
  ·cases e
 ·cases e
theorem Yr:Qem X "list.extend" Kn:=by
 intro b s j H x o v p Q I t u q;refine Qb1 b s j H x o v p Q I t u ?_;obtain⟨R,h,a,M,w,O,d,z,c,e,k⟩:=q;unfold Kn at e;split at e
 ·rename_i n N;split at e
  ·rename_i L A;obtain⟨J,E,e⟩:=Nc.mp e;split at e
   ·rename_i B;cases e;obtain⟨f,rfl,m,D,i⟩:=d.refAt z A;obtain⟨y,rfl,r⟩:=UF c;obtain⟨G,l,rfl,C,g⟩:=d.loAt r E;refine⟨_,G,m,l,rfl,rfl,D,C,by rw[<-i.length,<-g.length];exact B,?_⟩;exact k R _ _ (Ext.refl _) (d.put f ⟨_,rfl,Rws.append i g⟩) Rw.non
   ·cases e
  ·cases e
 ·cases e
theorem UC:Qem X "list.pop" QgH:=by
 intro c s i H x l v m Q I p r q;refine Qg8 c s i H x l v m Q I p r ?_;obtain⟨R,h,a,E,w,J,g,t,b,e,k⟩:=q;unfold QgH at e;split at e
 ·rename_i n;split at e
  ·rename_i D u;obtain⟨G,C,B⟩:=Nf.mp e;cases B;obtain⟨f,rfl,j,z,d⟩:=g.refAt t u;rw[Rws.nil_iff]at b;subst b;obtain⟨y,A,o⟩:=d.get C;refine⟨_,j,y,rfl,rfl,z,by rw[<-d.length];exact A,?_⟩;exact k R _ _ (Ext.refl _) (g.put f ⟨_,rfl,d.dropLast⟩) o
  ·cases e
 ·cases e
end
noncomputable def Qce(h:MH):W->Option String
 |.non=>some "NoneType"
 |.bl _=>some "bool"
 |.int _=>some "int"
 |.str _=>some "str"
 |.tup _=>some "tuple"
 |.lst _=>some "list"
 |.frz _=>some "list"
 |.ref n=>match h[n]? with|some (.lst _)=>some "list"|some (.dic _)=>some "dict"|some (.dct _)=>some "dict"|_=>none
 |.ty _=>none
noncomputable def ZO(k T:String):Bool:=k==T ||(k=="bool"&&T=="int")
noncomputable def Yk(T:String):Bool:=T=="str" ||T=="int" ||T=="bool" ||T=="list" ||T=="tuple" ||T=="dict"
noncomputable def K4(ws:List W)(h:MH):Option (W×MH):=match ws with
 |[a,.ty T]=>if Yk T=true then(Qce h a).map fun k=>(.bl (ZO k T),h)else none
 |_=>none
theorem KH{K:Nd}(c:k="NoneType"\/k="bool"\/k="int"\/k="str"\/k="tuple"\/k="list"\/k="dict")(b:Yk T=true):OE K (.type k) (.type T)=some (ZO k T):=by
 have a:T="str"\/T="int"\/T="bool"\/T="list"\/T="tuple"\/T="dict":=by
  unfold Yk at b;simp only[E1,beq_iff_eq]at b
  rcases b with((((h|h)|h)|h)|h)|h<;>simp[h]
 rcases c with rfl|rfl|rfl|rfl|rfl|rfl|rfl<;>rcases a with rfl|rfl|rfl|rfl|rfl|rfl<;>first|rfl|decide +kernel
section
variable{X:Cx}
theorem Qa4:CallR X (.builtin "isinstance") (Fs X.K K4):=by
 intro g s M H Z us Q I r q;obtain⟨R,h,ws,w,h',j,D,e,k⟩:=q;unfold K4 at e;split at e
 ·rename_i a T;split at e
  ·rename_i J;obtain⟨N,c,Y⟩:=Nf.mp e;cases Y;obtain⟨x,y,rfl,d,O⟩:=Qi4 D;obtain⟨u,u2,rfl,E,l⟩:=QcW r;rw[O.ty_eq]at l;cases l;have fin:∀tk,EP X g M Q (.bool (ZO N T)) { s with toks:=tk }:=fun tk=>⟨.bl _,H,I.tok _,rfl,k R H _ (Ext.refl _) j (Rw.bl _)⟩
   have one:∀{t:String},TyOf X.K H x (.type t)->N=t->(t="NoneType"\/t="bool"\/t="int"\/t="str"\/t="tuple"\/t="list"\/t="dict")->wpAny (model X.prog X.w) X.A (call (.builtin "isinstance") [u,.type T]) (EP X g M Q) X.xe s:=fun {t} ty U S=>by
    subst U;exact QaY I E ty (KH S J) fin
   cases a with
   |non=>cases c;rw[d.non_eq]at one;exact one .non rfl (by simp)
   |bl b=>cases c;rw[d.bl_eq]at one;exact one (.bl b) rfl (by simp)
   |int i=>cases c;rw[d.int_eq]at one;exact one (.int i) rfl (by simp)
   |str z=>cases c;rw[d.str_eq]at one;exact one (.str z) rfl (by simp)
   |tup C=>
    cases c;obtain⟨ad,B,rfl,m,_⟩:=j.tupAt d;cases E;obtain⟨G,_,p,_⟩:=I.tuple m;obtain⟨o,f,L,_⟩:=p;exact Eb LN I.kIn ⟨o,f,L⟩ (KH (by simp) J) (fun z=>nomatch z) fin
   |lst C=>
    cases c;obtain⟨ad,B,rfl,m,_⟩:=j.lstAt d;exact one (.lst m) rfl (by simp)
   |frz C=>
    cases c;obtain⟨ad,B,rfl,m,_⟩:=j.frzAt d;cases E;obtain⟨G,_,p,_⟩:=I.list m;obtain⟨o,n,f,L,_⟩:=p;exact Eb FY I.kIn ⟨o,f,L⟩ (KH (by simp) J) (fun z=>nomatch z) fin
   |ref n=>
    simp only[Qce]at c;split at c
    ·rename_i C v;cases c;obtain⟨_,rfl,B,f,_⟩:=j.refAt d v;exact one (.lst f) rfl (by simp)
    ·rename_i kvs v;cases c;unfold Rw at d;obtain⟨P,f,_⟩:=j.obj n _ v;rw[d.2]at one;exact one (.dK f) rfl (by simp)
    ·rename_i kvs v;cases c;unfold Rw at d;obtain⟨P,f,_⟩:=j.obj n _ v;rw[d.2]at one;exact one (.dT f) rfl (by simp)
    ·cases c
   |ty _=>cases c
  ·cases e
 ·cases e
end
structure Cal(P:Program)(w:World)(K:Nd)(mg:Str->Option Value)(base:Heap)(k:Nat)(x:Str)(ps:List Str)(g:FM):Prop where
 ex:∃(f:Addr) (fd:FuncData),FnOk P w K mg base CX0 k f fd ps (spM K ps.length g)/\mg x=some (.ref f)/\DF K (.ref f)=true/\Binds K fd ps []/\∃(oc:Value) (od:Option Addr) (osl:Array (Option Value)),K.lookup f=some ⟨oc,od,.func fd,osl⟩
structure DefAt(K:Nd)(mg:Str->Option Value)(x:Str)(st:Stmt)(ps:List Str):Prop where
 ex:∃(f:Addr) (fd:FuncData),Fun K x x st f fd/\mg x=some (.ref f)/\Binds K fd ps []
theorem Kb{K:Nd}{h:Heap}{x:Str}{st:Stmt}{f:Addr}{j:Value}{kV d pm cd ct:Value}(X:K.In h)(G:h.Ns mainGlobals m)
  (a:D4 K mainGlobals x=some (some (.ref f))) (l:K.lookup f=some ⟨j,o,.func (Dc x x (Xe st) (JN st) (Qe st) .none kV d pm i cd ct),n⟩) (c:FI K cd x=true) (k:DF K (.ref f)=true)
  (b:∀(kV d pm:Value) (i:Option Addr) (g ct:Value) (e:List Value),e.length=ps.length->bindArgs (Dc x x (Xe st) (JN st) (Qe st) .none kV d pm i g ct) ⟨e,[]⟩=pure (ps.zip e)):DefAt K m x st ps:=
 ⟨f,_,Qep l c k,DR X G a,(Qep l c k).binds b⟩
structure Glob(K:Nd)(mg:Str->Option Value)(x:Str)(w:W):Prop where
 ex:∃(v:V) (u:Value),mg x=some u/\RelV v u/\∀R,Rw K R w v
theorem Ju{K:Nd}(X:K.In h)(G:h.Ns mainGlobals b)(a:D4 K mainGlobals x=some (some (.int i t))):Glob K b x (.int i):=
 ⟨.int i,_,DR X G a,⟨t,rfl⟩,fun _=>Rw.int i⟩
noncomputable def QbS:List Str->List W:=List.map W.str
theorem Gn{K:Nd}:∀(a:List Str),Rws K R (QbS a) (a.map V.str)
 |[]=>Rws.nil
 |y::a=>Rws.cons (Rw.str y) (Gn a)
theorem WE:∀{its:List Value} {a:List Str},StrsAre its a->Vals (a.map V.str) its
 |_,_,.nil=>.nil
 |_,_,.cons y t r=>.cons ⟨t,rfl⟩ (WE r)
theorem Qby{K:Nd}{h:Heap}{x:Str}{c:Addr}{n:Nat}(X:K.In h)(G:h.Ns mainGlobals d)(a:D4 K mainGlobals x=some (some (.ref c)))
  (l:K.lookup c=some ⟨.type "tuple",g,.seq its n,f⟩) (hz:its.size<=sizeLine) (e:StrsAre its.toList b):Glob K d x (.tup (QbS b)):=
 ⟨.ref c,_,DR X G a,rfl,fun R=>by
  unfold Rw
  exact⟨c,_,rfl,.inr ⟨_,its,n,l,rfl,rfl,hz,WE e⟩,Gn b⟩⟩
section
variable{X:Cx}{k n:Nat}{g:FM}{x:Str}{ps:List Str}{p pos:Pos}{e:Expr}{es:List Expr}{ms:MA}
theorem QcS(C:Cal X.prog X.w X.K X.mg X.base k x ps g)(hr:Room k X.A)(i:Gl X x)(m:PMA X (e::es) ms)(c:ps.length=n:=by rfl)
  (b:(x==("__debug__":Str))=false:=by decide) (j:Z8 e=false:=by rfl) (a:V0 es=true:=by rfl) :
  PM X (.Call (.Name x p) (e::es) [] pos) (Qg n g ms):=by
 obtain⟨f,fd,F,d,h,l,_⟩:=C.ex;subst c;exact QfJ F hr i d h l QjP m b j a
theorem ZX(C:Glob X.K X.mg x w)(b:Gl X x)(hd:(x==("__debug__":Str))=false:=by decide):PM X (.Name x pos) (mC w):=by
 obtain⟨v,u,a,r,rw⟩:=C.ex;exact Qe7 b a r rw hd
theorem Qgu(d:Gl X x)(c:X.mg x=none)(a:bootBuiltins x=some (.type T))(b:x≠"__name__":=by decide)(hd:(x==("__debug__":Str))=false:=by decide):PM X (.Name x pos) (mC (.ty T)):=
 Qfn d c a (v:=.ty T) rfl (fun _=>Rw.ty _) b hd
end
section
variable{P:Program}{w:World}{K:Nd}{mg:Str->Option Value}{base:Heap}
theorem Qy{st:Stmt}(d:DefAt K mg x st ps)(S:FnScope N ps (Qe st))(hN:N.length=ps.length+more)
  (c:∀(f:Addr) (b:Value) (A:Around) (a:List Env) (s:Shared) (H:Hp) (E:XK),Room k (A.deeper (envOfC x (Qe st) s.heap.objs.size f b))->Qcx (Qef CX0 P w K mg base N x (Qe st) f b A a s H E).nox (JN st) m) :
  Cal P w K mg base (k+1) x ps (QJ more m):=by
 obtain⟨f,fd,F,j,n⟩:=d.ex;obtain⟨i,h,kV,o,pm,p,b,ct,g,e,lk,l⟩:=F.ex;exact⟨f,fd,Qkg F S hN (fun b A a s H E hr=>c f b A a s H E hr),j,F.kp,n,i,h,g,lk⟩
theorem Cal.imp(C:Cal P w K mg base k x ps g)(h:∀a H Q E,spM K ps.length g' a H Q E->spM K ps.length g a H Q E):Cal P w K mg base k x ps g':=by
 obtain⟨f,fd,F,r⟩:=C.ex;exact⟨f,fd,F.imp h,r⟩
theorem Cal.eq(C:Cal P w K mg base k x ps g)(h:∀ws a r,ws.length=ps.length->g' ws a=some r->g ws a=some r):Cal P w K mg base k x ps g':=
 C.imp fun _ _ _ _ z=>by
  obtain⟨R,ws,a,w,f,c,d,b,e,k⟩:=z;exact⟨R,ws,a,w,f,c,d,b,h ws a _ c e,k⟩
end
theorem Ws{K:Nd}:∀(ns:List Int),Rws K R (ns.map W.int) (ns.map V.int)
 |[]=>Rws.nil
 |n::ns=>Rws.cons (Rw.int n) (Ws ns)
theorem Qje{l:PySem.W.OpenLaw}{d:DefRec}{K:Params->Nd}{st:Stmt}{sem:FM}{k:Nat}(y:l.most=some 63)(B:d.params.defaults=[])(hr:Room k callerA)(A:d.name="law")
  (T:∀(w:World) (h:Heap),Z w h->(K w.params).In h)
  (S:∀(kV c pm:Value) (C:Option Addr) (g ct:Value) (s:Shared) (u:Value),BindsTo s (Dc "law" "law" (Xe st) (JN st) (Qe st) .none kV c pm C g ct) ⟨[u],[]⟩ [("script",u)])
  (F:∀(w:World) (i:Str->Option Value) (h:Heap),(K w.params).In h->h.Ns mainGlobals i ->
   DefAt (K w.params) i "law" st ["script"]/\∀base:Heap,(K w.params).In base->base.Ns mainGlobals i->Cal l.prog w (K w.params) i base k "law" ["script"] sem)
  (main:∀ns:List Int,ns.length<=63->∃h',sem [.frz (ns.map W.int)] []=some (.bl true,h')) :
  OK q t XP Z l.row.toRowW d [] (fun f I=>Ov f I):=by
 refine L2.QfS (n:=63) (k:=k) (x:="script") (CX:=fun _=>CX0) (sp:=fun w=>spM (K w.params) 1 sem) y (by decide) B hr T ?_ ?_ fun _ _ _ _ _ z=>z
 ·intro w i fa h KX G b;obtain⟨D,Fn⟩:=F w i h KX G;obtain⟨f,fd,Fu,r,_⟩:=D.ex;rw[A]at b;rw[r]at b;cases b;obtain⟨oc,od,kV,c,pm,C,g,ct,L,e,lk,R⟩:=Fu.ex;refine⟨fd,fun s u=>?_,fun base P O=>?_⟩
  rotate_left
  ·obtain⟨f',Y,F',p,_,_,N,M,E,j⟩:=(Fn base P O).ex;rw[r]at p;cases p;rw[lk]at j;cases j;exact F'
  rw[e];exact S kV c pm C g ct s u
 ·intro w H a ns Q hO U;obtain⟨h',e⟩:=main ns Q;refine⟨⟨fun _=>0,0,H,fun _=>none⟩,[.frz (ns.map W.int)],[],.bl true,h',rfl,⟨rfl,fun _ _ z=>z,fun n y=>absurd y (Dx _),fun m n r=>absurd r (Dx _),(fun n o z=>by simp at z),(fun _ _ z=>by cases z),(fun _ _=>rfl),(fun _ _ z=>by cases z)⟩,?_,e,fun R' H' v _ _ J=>J.bl_eq⟩;refine Rws.cons ?_ Rws.nil;unfold Rw;exact⟨a,_,rfl,U,Ws ns⟩
noncomputable def QbR(a:Scope):Bool:=a.names.all fun y=>y.2 != .cell&&(y.2 != .local ||a.names.lookup y.1==some .local)
noncomputable def Qjf(N:List Str)(xs a:Scope)(cp:List (Option Nat))(Nb:List Str):Bool:=(cp.zip Nb).all fun p=>match p.1 with
 |none=>true
 |some j=>N[j]?==some p.2&&(xs.names.lookup p.2==some .cell ||xs.names.lookup p.2==some .free)&&a.names.lookup p.2==some .free
noncomputable def Qen(a:Scope)(ks:List Str):Bool:=a.names.all fun y=>y.2 != .free ||ks.contains y.1
theorem Jk{env:Env}:∀{names:List (Str×NameKind)} {x:Str},names.lookup x=some .free ->
  (names.map fun(n,k)=>if(k==NameKind.free&&env.scope.kind==.function&&env.kindOf n==some .cell)then(n,NameKind.cell)else(n,k)).lookup x=some .cell \/
  (names.map fun(n,k)=>if(k==NameKind.free&&env.scope.kind==.function&&env.kindOf n==some .cell)then(n,NameKind.cell)else(n,k)).lookup x=some .free
 |[],_,h=>by simp at h
 | (n,k)::r,x,h=>by
  have c:=@Jk env r x;rw[NA];dsimp only;cases a:x==n with
  |true=>
   simp only[N8,a]at h;cases h
   by_cases b:(NameKind.free==NameKind.free&&env.scope.kind==.function&&env.kindOf n==some .cell)=true
   ·rw[if_pos b];exact .inl (by simp[N8,a])
   ·rw[if_neg b];exact .inr (by simp[N8,a])
  |false=>
   simp only[N8,a]at h
   by_cases b:(k==NameKind.free&&env.scope.kind==.function&&env.kindOf n==some .cell)=true
   ·rw[if_pos b];simp only[N8,a];exact c h
   ·rw[if_neg b];simp only[N8,a];exact c h
theorem Zd{env:Env}:∀{names:List (Str×NameKind)} {x:Str} {b:NameKind},(∀y∈names,y.2≠.cell)->(b=.cell\/b=.free) ->
  (names.map fun(n,k)=>if(k==NameKind.free&&env.scope.kind==.function&&env.kindOf n==some .cell)then(n,NameKind.cell)else(n,k)).lookup x=some b->(x,NameKind.free)∈names
 |[],_,_,_,_,h=>by simp at h
 | (n,k)::r,x,b,d,e,h=>by
  rw[NA]at h;dsimp only at h;have f:=@Zd env r x b (fun y g=>d y (Nq _ g)) e;cases c:x==n with
  | true=>
   have:x=n:=Dk c;subst this
   by_cases a:(k==NameKind.free&&env.scope.kind==.function&&env.kindOf x==some .cell)=true
   ·have:k=.free:=by
     simp only[NK,beq_iff_eq]at a;exact a.1.1
    subst this;exact Nt
   ·rw[if_neg a]at h;simp[N8]at h;subst h
    rcases e with z|z
    ·exact absurd z (d (x,k) Nt)
    ·subst z;exact Nt
  |false=>
   refine Nq _ (f ?_)
   by_cases a:(k==NameKind.free&&env.scope.kind==.function&&env.kindOf n==some .cell)=true
   ·rw[if_pos a]at h;simpa only[N8,c]using h
   ·rw[if_neg a]at h;simpa only[N8,c]using h
theorem Qao{d:List (Str×Addr)}(h:d.lookup x=some c):(x,c)∈d:=by
 induction d with
 |nil=>simp at h
 | cons p r e=>
  obtain⟨n,a⟩:=p;cases b:x==n with
  |true=>
   simp only[N8,b]at h;cases h;rw[Dk b];exact Nt
  |false=>
   simp only[N8,b]at h;exact Nq _ (e h)
theorem YK{d:List (Str×Addr)}(h:x∈d.map (·.1)):∃c,d.lookup x=some c:=by
 induction d with
 |nil=>simp at h
 | cons p r e=>
  obtain⟨n,a⟩:=p;cases b:x==n with
  |true=>exact⟨a,by simp only[N8,b]⟩
  |false=>
   rcases NH.mp h with z|z
   ·dsimp only at z;rw[z,beq_self_eq_true]at b;cases b
   ·obtain⟨c,f⟩:=e z;exact⟨c,by simp only[N8,b];exact f⟩
theorem K8(g:closureFor d X.env=pure o)(kind:d.kind=.function)(r:QbR d=true)(u:o.map (·.1)=ks)(n:Qen d ks=true)
  (f:∀p∈o,X.env.cells.lookup p.1=some p.2) (hN:X.N=N) (q:X.env.scope=xs) (m:cp.length=Nb.length) (v:Qjf N xs d cp Nb=true):BlkOk X d o Nb cp:=by
 have e:∀y∈d.names,y.2≠.cell:=fun y l=>by
  have:=Es.mp r y l;simp only[NK,bne_iff_ne]at this;exact this.1
 refine⟨g,e,kind,fun y l m=>?_,fun x c h=>f _ (Qao h),fun x h=>?_,m,fun i j x A w=>?_⟩
 ·have:=Es.mp r y l;simp only[NK,E1,bne_iff_ne,beq_iff_eq]at this
  rcases this.2 with z|z
  ·exact absurd m z
  ·exact z
 ·have t:(x,NameKind.free)∈d.names:=by
   rcases h with h|h
   ·exact Zd e (.inl rfl) h
   ·exact Zd e (.inr rfl) h
  have:=Es.mp n _ t;simp only[E1,bne_iff_ne,ne_eq,not_true_eq_false,false_or,La]at this;exact YK (by rw[u];exact this)
 ·have s:(cp.zip Nb)[i]?=some (some j,x):=by rw[List.getElem?_zip_eq_some];exact⟨A,w⟩
  have:=Es.mp v _ (NN s);simp only[NK,E1,beq_iff_eq]at this;obtain⟨⟨a,b⟩,c⟩:=this;refine⟨by rw[hN];exact a,?_,?_,Jk c⟩
  ·rw[q]
   rcases b with b|b
   ·exact .inr (.inl b)
   ·exact .inr (.inr b)
  ·unfold Env.kindOf;rw[q];exact b
theorem QT(kind:a.kind=.function)(l:QbR a=true)(g:Qen a []=true)(f:cp.length=Nb.length)(n:cp.all (·.isNone)=true):BlkOk X a [] Nb cp:=by
 have d:∀y∈a.names,y.2≠.free:=fun y e z=>by
  have:=Es.mp g y e;simp[z]at this
 have b:∀y∈a.names,y.2≠.cell:=fun y e=>by
  have:=Es.mp l y e;simp only[NK,bne_iff_ne]at this;exact this.1
 refine⟨closureFor_none d,b,kind,fun y e f=>?_,fun x c h=>by simp at h,fun x h=>?_,f,fun i j x o p=>?_⟩
 ·have:=Es.mp l y e;simp only[NK,E1,bne_iff_ne,beq_iff_eq]at this
  rcases this.2 with z|z
  ·exact absurd f z
  ·exact z
 ·have m:(x,NameKind.free)∈a.names:=by
   rcases h with h|h
   ·exact Zd b (.inl rfl) h
   ·exact Zd b (.inr rfl) h
  exact absurd rfl (d _ m)
 ·have:=Es.mp n _ (NN o);simp at this
theorem Ze(items:List W)(h:MH):live none items h:=fun _ z=>by cases z
theorem VD{mt:MT}{me:ME}{h:MH}:∀(rest a:List W) (o:Option W),
  (∀w∈rest,mt (some w::caps) h=some (p w,h))->(∀w∈rest,p w=true->me (some w::caps) h=some (f w,h))->a.length+rest.length<=sizeLine ->
  ZB fin items none (ZJ 0) mt me rest a (o::caps) h=fin (a++(rest.filter p).map f) h
 |[],a,o,_,_,_=>by
  unfold ZB;rw[if_pos (Ze _ _)];simp
 | w::rest,a,o,d,e,i=>by
  unfold ZB;rw[if_pos (Ze _ _)];have j:ZJ 0 w (o::caps) h=some (some w::caps):=rfl;rw[j,Np,d w Nt,Np];have g:a.length+(rest.length+1)<=sizeLine:=by simpa using i
  cases c:p w with
  |true=>
   simp only[c];rw[e w Nt c,Np,if_pos (by lia)];rw[VD rest (a++[f w]) (some w) (fun x b=>d x (Nq _ b)) (fun x b=>e x (Nq _ b)) (by simp;lia)];simp[Oj,c]
  |false=>
   simp only[c];rw[VD rest a (some w) (fun x b=>d x (Nq _ b)) (fun x b=>e x (Nq _ b)) (by lia)];simp[Oj,c]
theorem QbO(g:a->Bool):∀xs:List a,QeJ (xs.map fun x=>W.bl (g x))=some (xs.map g)
 |[]=>rfl
 |x::xs=>by simp[QeJ,QbO g xs]
theorem Qd4:Ky items none b body [] σ h=some (.nx σ h):=by
 rw[Ky,if_pos (Ze _ _)]
section
variable{σ σ1:MSt}{h h1 h2 h3:MH}{a b c w:W}{ws:List W}{ma mb mc:ME}{ms:MA}{mt mu:MT}{s1 s2:SM}{f f':W->W->MH->Option (W×MH)}{g:List W->MH->Option (W×MH)}{z:MF}
theorem UQ(l:ma σ h=some (a,h))(j:mb σ h=some (b,h))(i:f a b h=some (.bl t,h))(e:mc σ h=some (c,h))(d:f' b c h=some (.bl u,h)):JV f f' ma mb mc σ h=some (.bl (t&&u),h):=by
 unfold JV;rw[l,Np,j,Np];simp only;rw[i,Np];cases t<;>simp[e,d]
end
theorem QcE(c:(-(2^64)<i/\i<2^64)\/(-(2^64)<j/\j<2^64)):Qg3 (.int i) (.int j) h=some (.int (i*j),h):=by unfold Qg3;exact if_pos c
theorem Qgl(c:0<j/\j<1073741824):QfI (.int i) (.int j) h=some (.int (i/j),h):=by unfold QfI;exact if_pos c
theorem Qe3(c:0<j):Qco (.int i) (.int j) h=some (.int (i%j),h):=by unfold Qco;exact if_pos c
theorem Qgy(c:0<=j/\j<=1000000/\i.natAbs<2^64):Qfs (.int i) (.int j) h=some (.int (i^j.toNat),h):=by unfold Qfs;exact if_pos c
theorem Qfa(a:x.length<=sizeLine)(e:atI x.cps.toList i=some d):wIx (.str x) (.int i) h=some (.str ⟨#[d]⟩,h):=by
 unfold wIx;simp only;rw[if_pos a,e];rfl
noncomputable def QeH(mo mi c:ME):SM:=fun a h=>(c a h).bind fun v=>(mo a v.2).bind fun o=>(mi a o.2).bind fun i=>match o.1,i.1 with
 |.ref n,.int k=>match i.2[n]? with
  |some (.lst b)=>(ixN b.length k).map fun j=>.nx a (i.2.set n (.lst (b.set j v.1)))
  |_=>none
 |_,_=>none
section
variable{X:Cx}{o i e:Expr}{mo mi mv:ME}{pos pos':Pos}
theorem QiM{K:Nd}(q:tS K (QeH mo mi mv) D σ H):Qi9 (tI K mv) (QkW (tI K mo) (tI K mi) Qio) D σ H:=by
 obtain⟨R,a,h,r,G,s,e,k⟩:=q;obtain⟨⟨v,w⟩,Z,Y⟩:=Nc.mp e;obtain⟨⟨ob,u⟩,U,T⟩:=Nc.mp Y;obtain⟨⟨J,N⟩,S,b⟩:=Nc.mp T;refine⟨R,a,h,v,w,G,s,Z,fun R1 H1 x g m E=>⟨R1,a,w,ob,u,m,s.mono g,U,fun R2 H2 y f l C=>⟨R2,a,u,J,N,l,s.mono (g.trans f),S,fun R3 H3 z d c B=>?_⟩⟩⟩;dsimp only at b;split at b
 ·rename_i n I;split at b
  ·rename_i xs L;obtain⟨j,Q,P⟩:=Nf.mp b;cases P;obtain⟨p,O,A,M,t⟩:=c.refAt (Rw.mono d _ _ C) L;refine⟨_,A,I,j,O,B.int_eq,M,by rw[<-t.length];exact Q,?_⟩;exact k R3 _ σ (g.trans (f.trans d)) (c.put p ⟨_,rfl,t.set j (Rw.mono (f.trans d) _ _ E)⟩) (s.mono (g.trans (f.trans d)))
  ·cases b
 ·cases b
theorem Wm(d:PM X o mo)(f:PM X i mi)(g:PM X e mv)
  (h:∀v,assign (.Subscript o i pos') X.env v=(do
   let a <-holding [v] (eval o X.env)
   let b <-holding [v,a] (eval i X.env)
   standAt pos'
   holding [v,a,b] (setItem a b v)
   release [v,a,b] []):=by intro _;rfl)
  (c:W7 e=false:=by rfl) (hw:swappedStores [.Subscript o i pos'] e X.env=pure none:=by rfl):PMS X (.Assign [.Subscript o i pos'] e pos) (QeH mo mi mv):=
 Vl (Qiu g (Qic d f set_list h) (show swapsWith e (some (.Subscript o i pos')) pos.line X.env=pure false from Kh c) hw rfl) fun _ _ _=>QiM
end
noncomputable def UG(a b:W)(h:MH):Option (W×MH):=match a,b with|.int i,.int j=>some (.int (i+j),h)|_,_=>none
section
variable{X:Cx}{o i e:Expr}{mo mi mv:ME}{pos pos':Pos}
theorem Kf:OpR X (inplaceOp .Add) (F2 X.K UG):=by
 intro c s d H x y v u Q I g f q;refine QeT c s d H x y v u Q I g f ?_;obtain⟨R,h,a,b,w,n,j,m,l,e,k⟩:=q;unfold UG at e;split at e
 ·cases e;exact⟨_,_,m.int_eq,l.int_eq,k R H _ (Ext.refl _) j (Rw.int _)⟩
 ·cases e
end
noncomputable def Xw(a:W)(ws:List W)(h:MH):Option (W×MH):=match ws with
 |[w]=>(lsW h a).bind fun c=>(drf h 40 w).bind fun x=>(ZL (drf h 40) c).bind fun b=>(b.findIdx? fun y=>eqW y x).map fun j=>(.int (j:Nat),h)
 |_=>none
theorem Uj(hu:X.A.units+64<cLine):Qem X "list.index" Xw:=by
 intro U s σ H x xs v us Q I rx rv q;obtain⟨R,h,a,ws,w,h',p,ra,C,e,k⟩:=q;unfold Xw at e;split at e
 ·rename_i w1;obtain⟨T,e1,e⟩:=Nc.mp e;obtain⟨r,e2,e⟩:=Nc.mp e;obtain⟨S,P,e⟩:=Nc.mp e;obtain⟨j,e4,e5⟩:=Nf.mp e;cases e5;obtain⟨y,rfl,ry⟩:=UF C;obtain⟨u,rfl,ru⟩:=Ua rv;obtain⟨ad,xv,rfl,q1,G⟩:=p.lsAt ra e1;cases rx;obtain⟨c,B,p1,hz⟩:=I.list q1;have N:X.A.in1.units+40<cLine:=by show X.A.units+1+40<cLine;lia
  have l1:=G.length;have l2:=B.length;have l3:=(Qu P).1;obtain⟨hj,l,d⟩:=NW.mp e4
  have o:∀m (f:m<c.toArray.size),QaA X.K R h r c.toArray[m]=eqW (S[m]'(by rw[Nj]at f;lia)) r:=by
   intro m f;rw[Nj]at f;obtain⟨t,g⟩:∃t,T[m]?=some t:=⟨T[m]'(Nn (Nn f (Nr l2.symm)) (Nr l1.symm)),Ni _⟩
   obtain⟨v2,L,D⟩:=G.get g;obtain⟨u2,M,E⟩:=B.get L;obtain⟨b,hb,eb⟩:=(Qu P).2 m t g;have eu:c.toArray[m]=u2:=by have:=M;rw[Ni f]at this;simpa using this
   have ez:S[m]'(by omega)=b:=by have:=hb;rw[Ni (by omega)]at this;simpa using this
   rw[eu,ez];exact UN I p D E eb
  obtain⟨ob,n,Y,Z,ab,hd⟩:=p1;obtain⟨cls,dd,data,sl⟩:=ob;simp only at Z hd;subst Z hd;have i:j<c.toArray.size:=by rw[Nj];lia
  refine Fy Fa ⟨_,Y,rfl⟩ PySem.F.entry_list_index (PySem.F.args_list_index_2 _ _)
   (list_indexAt ad c.toArray n dd sl u (QaA X.K R h r) j i ?_ ?_ ?_) ⟨Y,fun z J=>Xo I p N ry ru e2 G B P z (by simpa using J),?_⟩
  ·have:(sizeLine:Nat)<2^62:=by decide
   have aa:j<2^62:=by lia
   lia
  ·rw[o j i];exact l
  ·intro m f O;rw[o m f];simpa using d m O
  ·exact⟨.int j,H,I.tok _,⟨_,rfl⟩,k R H _ (Ext.refl _) p (Rw.int _)⟩
 ·cases e
inductive TabIs:List DictEntry->List (Str×Int)->Prop where
 |nil:TabIs [] []
 |cons {e:DictEntry} {x:Str} {i:Int} {t t':Tok} {es:List DictEntry} {tab:List (Str×Int)} (hk:e.key=.str x t) (hv:e.val=.int i t') (r:TabIs es tab):TabIs (e::es) ((x,i)::tab)
noncomputable def KC(tab:List (Str×Int))(k:Str):Option Int:=(tab.find? fun p=>p.1==k).map (·.2)
noncomputable def Qjj:Option Int->Option Value->Prop
 |none,u=>u=none
 |some i,u=>∃t,u=some (.int i t)
theorem GQ:∀{es:List DictEntry} {tab:List (Str×Int)} (k:Str),TabIs es tab->Qjj (KC tab k) ((es.find? fun e=>Value.isStrOf k e.key).map (·.val))
 |_,_,k,.nil=>rfl
 | _,_,k,.cons (x:=x) (i:=i) (t':=t') c b r=>by
  have a:=GQ k r;unfold KC at a ⊢;rw[Ep,Ep,c];simp only[Value.isStrOf]
  by_cases e:(x==k)=true
  ·rw[e];exact⟨t',by simp[b]⟩
  ·have d:(x==k)=false:=by simpa using e
   rw[d];exact a
structure GTab(w:World)(K:Nd)(mg:Str->Option Value)(x:Str)(tab:List (Str×Int)):Prop where
 ex:∃(a:Addr) (es:List DictEntry) (n:Nat),mg x=some (.ref a)/\K.lookup a=some ⟨.type "dict",none,.dict es.toArray n,#[]⟩/\DX w.params es/\(a==sysModules)=false/\TabIs es tab
theorem Qfm{K:Nd}{x:Str}{c:Addr}{n:Nat}(X:K.In h)(G:h.Ns mainGlobals b)(a:D4 K mainGlobals x=some (some (.ref c)))
  (l:K.lookup c=some ⟨.type "dict",none,.dict es.toArray n,#[]⟩) (k:DX w.params es) (s:(c==sysModules)=false) (t:TabIs es tab):GTab w K b x tab:=
 ⟨c,es,n,DR X G a,l,k,s,t⟩
noncomputable def QgC(neg:Bool)(tab:List (Str×Int))(a:W)(h:MH):Option (W×MH):=match a with
 |.str x=>some (.bl (if neg then !(KC tab x).isSome else(KC tab x).isSome),h)
 |_=>none
noncomputable def QhX(tab:List (Str×Int))(a:W)(h:MH):Option (W×MH):=match a with
 |.str x=>(KC tab x).map fun i=>(.int i,h)
 |_=>none
theorem Qa9(r:Qjj o u):u.isSome=o.isSome:=by
 cases o with
 |none=>rw[show u=none from r];rfl
 |some i=>obtain⟨t,rfl⟩:=(show∃t,u=some (.int i t)from r);rfl
section
variable{X:Cx}{c:Addr}{es:List DictEntry}{n:Nat}{tab:List (Str×Int)}
theorem Qcq(b:X.K.lookup c=some ⟨.type "dict",none,.dict es.toArray n,#[]⟩)(d:DX X.w.params es)(I:Inv X a σ H s):s.heap.MapOf (strKind X.prog X.w) c (fun k=>findBy Value.isStrOf es.toArray k):=
 PySem.W.mapOf_K I.kIn b (by simpa using d)
theorem QbQ(a:TabIs es tab)(k:Str):Qjj (KC tab k) (findBy Value.isStrOf es.toArray k):=by
 have:=GQ k a;unfold findBy;rw[List.find?_toArray];exact this
theorem Qcr(g:X.K.lookup c=some ⟨.type "dict",none,.dict es.toArray n,#[]⟩)(i:DX X.w.params es)(f:(c==sysModules)=false)(e:TabIs es tab) :
  OpR X (compareOp .NotIn) (fun x y H Q=>∃k,x=.str k/\y=.ref c/\Q (.bl (!(KC tab k).isSome)) H):=by
 intro a s j H x y v u Q I d b h;obtain⟨k,rfl,rfl,q⟩:=h;obtain⟨t,rfl⟩:=d;cases b;refine wpAny_notIn_of (strKind_is X.prog X.w k t) f (Qcq g i I) ?_;rw[Qa9 (QbQ e k)];exact⟨.bl _,H,I.tok _,rfl,q⟩
theorem Qmp(o:X.K.lookup c=some ⟨.type "dict",none,.dict es.toArray n,#[]⟩)(p:DX X.w.params es)(l:TabIs es tab) :
  IxR X (fun x y H Q=>∃k i,x=.ref c/\y=.str k/\KC tab k=some i/\Q (.int i) H):=by
 intro value slice b s z H x y v u Q I j g h m;obtain⟨k,i,rfl,rfl,e,q⟩:=h;obtain⟨t,rfl⟩:=g;cases j;have d:=Qcq o p I;have r:=QbQ l k;rw[e]at r;obtain⟨f,a⟩:=(show∃t,findBy Value.isStrOf es.toArray k=some (.int i t)from r)
 exact tail_any d.typeIs F9.lookup (wpAny_getItem_of (strKind_is X.prog X.w k t) d a ⟨.int i,H,I.tok _,⟨f,rfl⟩,q⟩) m
variable{a:Expr}{ma:ME}{x:Str}{pos pos':Pos}
theorem QiF{K:Nd}(q:tI K (mUn (QgC neg tab) ma) σ H Q):tI K ma σ H fun v b=>∃k,v=.str k/\Q (.bl (if neg then !(KC tab k).isSome else(KC tab k).isSome)) b:=
 ZF (un1 q) fun v b d=>by
  obtain⟨R,h,w,i,j,g,f,e,k⟩:=d;unfold QgC at e;split at e
  ·cases e;exact⟨_,f.str_eq,k R b _ (Ext.refl _) g (Rw.bl _)⟩
  ·cases e
theorem Qac(G:GTab X.w X.K X.mg x tab)(l:Gl X x)(m:PM X a ma)(hd:(x==("__debug__":Str))=false:=by decide)(h:behindInMarks .NotIn (.Name x pos')=false:=by rfl):PMT X (.Compare a [.NotIn] [.Name x pos'] pos) (Qi (mUn (QgC true tab) ma)):=by
 obtain⟨c,es,n,b,i,j,g,f⟩:=G.ex;exact WH (Qb8 (Qcr i j g f) m (UR (v:=.ref c) l b rfl hd) h) fun o H Q q=>ZF (QiF (Wr q)) fun v p ⟨k,e,d⟩=>⟨k,e,rfl,d⟩
theorem QgO(G:GTab X.w X.K X.mg x tab)(p:Gl X x)(r:PM X a ma)(hd:(x==("__debug__":Str))=false:=by decide)(l:Y6 a:=by intro _ _;rfl):PM X (.Subscript (.Name x pos') a pos) (mUn (QhX tab) ma):=by
 obtain⟨c,es,n,b,m,o,_,j⟩:=G.ex;refine QM (Qin (Qmp m o j) (UR (v:=.ref c) p b rfl hd) r l) fun y H Q q=>?_
 exact ZF (un1 q) fun v u d=>by
  obtain⟨R,h,w,z,A,g,f,e,k⟩:=d;unfold QhX at e;split at e
  ·obtain⟨i,t,s⟩:=Nf.mp e;cases s;exact⟨_,i,rfl,f.str_eq,t,k R u _ (Ext.refl _) g (Rw.int _)⟩
  ·cases e
end
theorem Qgk(a b:Int)(h:MH):wEq (.int a) (.int b) h=some (.bl (a==b),h):=by unfold wEq;simp[drf,eqW]
theorem QfK(a b:Int)(h:MH):wNe (.int a) (.int b) h=some (.bl (!(a==b)),h):=by unfold wNe;simp[drf,eqW]
theorem QeN(a b:Str)(h:MH):wEq (.str a) (.str b) h=some (.bl (a==b),h):=by unfold wEq;simp[drf,eqW]
theorem GG:∀a:List Str,(∀z∈a,z.length<=m)->(a.map (·.length)).sum<=a.length*m
 |[],_=>NY _
 |z::a,h=>by
  rw[NA,DS,NR,Nat.succ_mul];have:=GG a fun x b=>h x (Nq _ b);have c:=h z Nt;lia
noncomputable def Qi5(lo c:Int)(n:Nat):It:=⟨fun i _=>i<n,fun i H x a=>a=H/\x=.int (lo+i*c),fun i _=>n<=i⟩
theorem Qa0{K:Nd}(it:Addr)(lo c:Int)(n:Nat):Turn P w K L (Qi5 lo c n) [it] it (fun i h=>IsRangeIter h it (lo+(i:Nat)*c) ((n:Int)-(i:Nat)) c) where
 mem:=by simp
 obj:=fun i h st b d=>by
  have e:b=it:=by simpa using d
  subst e
  exact⟨_,st,fun v z=>by
   have C:Data.fields _=Data.cell v:=z
   cases C⟩
 keep:=fun i h j st k=>k it (by simp) _ st
 item:=by
  intro X p hw q m i a s A H E I g st l;subst p hw q;obtain⟨y,f1,f2,x,u,r⟩:=g it (by simp);have W:=OS (prog:=X.prog) (w:=X.w) (I.ok.hd m) it lo c n;refine W.item i s _ _ l st fun v j tk G f D=>?_;obtain⟨t,rfl⟩:=G;have I1:Inv X a A H { s with heap:=j,toks:=tk }:=I.turned (fun b o d e=>D b o (by simpa using d) e) y f1 x u r;exact⟨_,rfl,G8 (s:={ s with heap:=j,toks:=tk }) (n:="range_iterator") f rfl rfl (by decide) ⟨.int (lo+i*c),H,I1,⟨t,rfl⟩,⟨rfl,rfl⟩,f,fun b d=>(g b d).1⟩⟩
 done:=by
  intro X p hw q m i a s A H E I g st l;subst p hw q;obtain⟨y,f1,f2,x,u,r⟩:=g it (by simp);exact II (I.ok.hd m) st (by have:n<=i:=l;lia) fun j J=>⟨rfl,I.turned (t':=s.toks) (fun b o d e=>J b o d e) y f1 x u r⟩
 self:=fun _ _ _ _ _ st h=>IJ st h
theorem WB(d:c≠0):0<=Builtin.Range.rangeSize a b c:=by
 unfold Builtin.Range.rangeSize;split
 ·split
  ·have:0<=(b-a-1)/c:=Ox (by lia) (by lia);omega
  ·exact IQ _
 ·split
  ·have:0<=(a-b-1)/(-c):=Ox (by lia) (by lia);omega
  ·exact IQ _
section
variable{X:Cx}{tg:Expr}
theorem Qfh{σ:L2.St}{H:Hp}{lo d c:Int}{tk:Nat}(I:Inv X f σ H s)(g:c≠0)(i:Builtin.Range.small lo d c=true)
  (q:R (Qi5 lo c (Builtin.Range.rangeSize lo d c).toNat) H):wpAny (model X.prog X.w) X.A (pyIter (.ref s.heap.objs.size)) (PIE X f σ tg R) E { s with heap:=s.heap.push { cls:=.type "range",data:=.fields #[.int lo t,.int d u,.int c v] },toks:=tk }:=by
 refine LM (OT ..) i ?_;have I1:Inv X f σ H { s with heap:=s.heap.push { cls:=.type "range",data:=.fields #[.int lo t,.int d u,.int c v] },toks:=tk }:=I.kept fun b o e=>Nk _ e
 refine⟨(s.heap.push { cls:=.type "range",data:=.fields #[.int lo t,.int d u,.int c v] }).objs.size,[(s.heap.push { cls:=.type "range",data:=.fields #[.int lo t,.int d u,.int c v] }).objs.size],_,_,H,rfl,
  I1.kept (t':=tk) fun b o e=>Nk _ e,Qa0 _ lo c (Builtin.Range.rangeSize lo d c).toNat,?_,fun b h=>?_,q⟩
 ·have l:lo+((0:Nat):Int)*c=lo:=by simp
  have j:(((Builtin.Range.rangeSize lo d c).toNat:Nat):Int)-((0:Nat):Int)=Builtin.Range.rangeSize lo d c:=by
   have:=WB (a:=lo) (b:=d) g;lia
  show IsRangeIter _ _ (lo+((0:Nat):Int)*c) ((((Builtin.Range.rangeSize lo d c).toNat:Nat):Int)-((0:Nat):Int)) c;rw[l,j];exact Nw _ rfl
 ·have e:b=(s.heap.push { cls:=.type "range",data:=.fields #[.int lo t,.int d u,.int c v] }).objs.size:=by simpa using h
  subst e;exact I1.fpOk (Nx _) (I1.hok.fresh (Nx _))
noncomputable def Qku(d:TA):TI:=fun a H R=>d a H fun b e=>∃i j c:Int,b=[.int i,.int j,.int c]/\(c≠0/\c.natAbs<1073741824/\Builtin.Range.small i j c=true)/\R (Qi5 i c (Builtin.Range.rangeSize i j c).toNat) e
theorem Qca(D:Gl X "range")(C:X.mg "range"=none)(E:PA X [a,b,d] v)(B:starEach [a,b,d] X.env=[(false,eval a X.env),(false,eval b X.env),(false,eval d X.env)]:=by rfl)(l:starEach [b,d] X.env=[(false,eval b X.env),(false,eval d X.env)]:=by rfl) :
  PI X tg (.Call (.Name "range" p) [a,b,d] [] pos) (Qku v):=by
 intro g s o H R I h;refine Call_ (Jo I D C Os (NV (thn (E pos g s o H _ I h) fun J M u=>?_) (by rw[B,l]) (by rw[l];rfl)));obtain⟨G,N,I1,x,m⟩:=u;obtain⟨i,j,c,e,⟨m,A,z⟩,q⟩:=m;subst e;cases x with
 | cons r f=>
  cases f with
  | cons y f=>
   cases f with
   |cons n f=>
    cases f;obtain⟨t,rfl⟩:=r;obtain⟨L,rfl⟩:=y;obtain⟨w,rfl⟩:=n;exact call_range_3 m (Qfh I1 m z q) (.inl (IK A))
end
noncomputable def JT(lo c:Int)(n:Nat):List W:=(List.range n).map fun(i:Nat)=>W.int (lo+(i:Int)*c)
section
variable{K:Nd}{R:Rn}
theorem QbE{lo c:Int}:ItOk K R (Qi5 lo c n) (JT lo c n) none where
 go:=fun i w d h H _ _ _ e=>by
  have:=(Nh.mp e).1;show i<n;simpa[JT]using this
 yld:=fun i w d h H v o e f _ b g=>by
  obtain⟨rfl,rfl⟩:=g;unfold JT at b;rw[Nz]at b;obtain⟨j,a,m⟩:=Nf.mp b;rw[EM (by have:=(Nh.mp a).1;simpa using this)]at a;cases a;cases m;exact⟨d,Ext.refl _,f,Rw.int _⟩
 stop:=fun i d h H _ _ _ l=>by
  show n<=i;simpa[JT]using l
end
noncomputable def Qi8(b:MA):MI:=fun a h=>(b a h).bind fun p=>match p.1 with
 |[.int i,.int j,.int c]=>if c≠0/\c.natAbs<1073741824/\Builtin.Range.small i j c=true then some (JT i c (Builtin.Range.rangeSize i j c).toNat,none,p.2)else none
 |_=>none
section
variable{X:Cx}{tg a b d:Expr}{ms:MA}{p pos:Pos}
theorem Qg9(L:Gl X "range")(J:X.mg "range"=none)(N:PMA X [a,b,d] ms)(I:starEach [a,b,d] X.env=[(false,eval a X.env),(false,eval b X.env),(false,eval d X.env)]:=by rfl)(m:starEach [b,d] X.env=[(false,eval b X.env),(false,eval d X.env)]:=by rfl):PMI X tg (.Call (.Name "range" p) [a,b,d] [] pos) (Qi8 ms):=
 W4 (Qca L J N I m) fun S H C t=>by
  obtain⟨R,g,h,items,A,Z,B,st,e,k⟩:=t;obtain⟨⟨w,O⟩,P,f⟩:=Nc.mp e;refine⟨R,g,h,w,O,B,st,P,fun R1 Q T u l n=>?_⟩;split at f
  ·rename_i i j c s;simp only at s;subst s;split at f
   ·rename_i M;cases f;rw[Rws.cons_iff]at n;obtain⟨v,z,rfl,G,r⟩:=n;rw[Rws.cons_iff]at r;obtain⟨Y,y,rfl,E,q⟩:=r;rw[Rws.cons_iff]at q;obtain⟨U,x,rfl,D,o⟩:=q;rw[Rws.nil_iff]at o;subst o;rw[G.int_eq,E.int_eq,D.int_eq];exact⟨i,j,c,rfl,M,k R1 Q _ u l QbE⟩
   ·cases f
  ·cases f
end
noncomputable def Qay(kvs:List (Key×W))(k:Key):Option W:=(kvs.find? fun a=>decide (a.1=k)).map (·.2)
noncomputable def Qe0(kvs:List (Key×W))(k:Key)(v:W):List (Key×W):=
 if(kvs.any fun a=>decide (a.1=k))=true then kvs.map (fun a=>if a.1=k then(a.1,v)else a)else kvs++[(k,v)]
noncomputable def QgF:W->Option Key
 |.int i=>some (.inl i)
 |.str x=>some (.inr x)
 |_=>none
section
variable{K:Nd}{R:Rn}
noncomputable abbrev DicR(K:Nd)(R:Rn):List (Key×W)->List (Key×V)->Prop:=Paired fun p q=>p.1=q.1/\Rw K R p.2 q.2
theorem Y9(r:Rw K R w v)(e:QgF w=some k):v=kV k:=by
 cases w with
 |int i=>cases e;exact r.int_eq
 |str x=>cases e;exact r.str_eq
 |_=>cases e
theorem UP:∀{kvs:List (Key×W)} {a:List (Key×V)},DicR K R kvs a->(Qay kvs k=none/\Ge a k=none)\/∃w v,Qay kvs k=some w/\Ge a k=some v/\Rw K R w v
 |_,_,.nil=>.inl ⟨rfl,rfl⟩
 | p::ps,q::c,.cons h t=>by
  by_cases e:p.1=k
  ·have b:q.1=k:=h.1▸e;exact .inr ⟨p.2,q.2,by simp[Qay,Ep,e],by simp[Ge,Ep,b],h.2⟩
  ·have b:¬q.1=k:=h.1▸e;have f:Qay (p::ps) k=Qay ps k:=by simp only[Qay,Ep,e,decide_false]
   have d:Ge (q::c) k=Ge c k:=by simp only[Ge,Ep,b,decide_false]
   rcases UP (k:=k) t with z|⟨w,v,j,i,g⟩
   ·exact .inl ⟨f.trans z.1,d.trans z.2⟩
   ·exact .inr ⟨w,v,f.trans j,d.trans i,g⟩
theorem QaD:∀{kvs:List (Key×W)} {d:List (Key×V)},DicR K R kvs d->(kvs.any fun c=>decide (c.1=k))=d.any fun c=>decide (c.1=k)
 |_,_,.nil=>rfl
 |_,_,.cons (a:=p) (b:=q) h t=>by
  rw[ES,ES,QaD t,h.1]
theorem Gi(r:Rw K R w v):∀{kvs:List (Key×W)} {d:List (Key×V)},DicR K R kvs d->DicR K R (kvs.map (fun c=>if c.1=k then(c.1,w)else c)) (d.map (fun c=>if c.1=k then(c.1,v)else c))
 |_,_,.nil=>.nil
 |_,_,.cons (a:=p) (b:=q) h t=>by
  rw[NA,NA];refine .cons ?_ (Gi r t)
  by_cases e:p.1=k
  ·rw[if_pos e,if_pos (h.1▸e)];exact⟨h.1,r⟩
  ·rw[if_neg e,if_neg (h.1▸e)];exact h
theorem QgA(d:DicR K R kvs a)(r:Rw K R w v):DicR K R (Qe0 kvs k w) (Qdi a k v):=by
 unfold Qe0 Qdi;rw[QaD d];split
 ·exact Gi r d
 ·exact OU d ⟨rfl,r⟩
theorem Rh.dicAt(q:Rh K R h H)(r:Rw K R (.ref n) v)(e:h[n]?=some (.dic kvs)) :
  n<R.N/\v=.ref (R.ρ n)/\∃a,H (R.ρ n)=some (.dK a)/\DicR K R kvs a:=by
 unfold Rw at r;exact⟨r.1,r.2,q.obj n _ e⟩
end
noncomputable def Qd0:ME:=fun _ h=>some (.ref h.length,h++[.dic []])
noncomputable def QeR(h:MH):W->Option (List (Key×W))
 |.ref n=>match h[n]? with|some (.dic kvs)=>some kvs|_=>none
 |_=>none
theorem GZ(e:QeR h a=some kvs):∃n,a=.ref n/\h[n]?=some (.dic kvs):=by
 cases a with
 |ref n=>
  simp only[QeR]at e;split at e
  ·rename_i c b;cases e;exact⟨n,rfl,b⟩
  ·cases e
 |_=>cases e
noncomputable def QiZ(a b:W)(h:MH):Option (W×MH):=(QeR h a).bind fun kvs=>(QgF b).bind fun k=>(Qay kvs k).map fun v=>(v,h)
noncomputable def QaI(mo mi b:ME):SM:=fun a h=>(b a h).bind fun v=>(mo a v.2).bind fun o=>(mi a o.2).bind fun i=>(QgF i.1).bind fun k=>match o.1 with
 |.ref n=>match i.2[n]? with
  |some (.dic kvs)=>if kvs.length<sizeLine then some (.nx a (i.2.set n (.dic (Qe0 kvs k v.1))))else none
  |_=>none
 |_=>none
section
variable{X:Cx}{o i e a b:Expr}{mo mi mv ma mb:ME}{pos pos':Pos}
theorem Qbq:PM X (.Dict [] [] pos) Qd0:=QM Qd2 fun n H Q q=>by
 obtain⟨R,f,h,w,s,j,st,e,k⟩:=q;cases e;intro p l;obtain⟨m,g,d,c⟩:=j.new (mo:=.dic []) (o:=.dK []) l fun t r=>⟨[],rfl,.nil⟩
 exact k m _ _ g d c
theorem QhT(hu:X.A.units+64<cLine)(E:PM X a ma)(D:PM X b mb)(B:Y6 b:=by intro _ _;rfl):PM X (.Subscript a b pos) (Qf QiZ ma mb):=
 QM (QeL (Ew (Ej (by decide) _) hu) E D B) fun T H Q q=>ZF (QgL q) fun x H1 s=>ZF s fun y S l=>by
  obtain⟨R,h,a,b,w,Z,d,r,p,e,k⟩:=l;unfold QiZ at e;obtain⟨kvs,O,N⟩:=Nc.mp e;obtain⟨t,M,L⟩:=Nc.mp N;obtain⟨v,c,J⟩:=Nf.mp L;cases J;obtain⟨n,rfl,C⟩:=GZ O;obtain⟨_,G,Y,u,P⟩:=d.dicAt r C;have I:=Y9 p M;subst I
  rcases UP (k:=t) P with z|⟨U,m,j,g,f⟩
  ·rw[z.1]at c;cases c
  ·rw[j]at c;cases c;exact⟨_,m,G,by rw[<-g];exact DGet.k u,k R S _ (Ext.refl _) d f⟩
theorem QfL{K:Nd}(q:tS K (QaI mo mi mv) D σ H):Qid (tI K mo) (tI K mi) (tI K mv) D σ H:=by
 obtain⟨R,d,h,r,I,s,e,k⟩:=q;obtain⟨⟨v,B⟩,e1,Z⟩:=Nc.mp e;obtain⟨⟨ob,A⟩,Y,U⟩:=Nc.mp Z;obtain⟨⟨J,N⟩,T,S⟩:=Nc.mp U;obtain⟨kk,Q,c⟩:=Nc.mp S;refine⟨R,d,h,v,B,I,s,e1,fun R1 H1 x m t G=>⟨R1,d,B,ob,A,t,s.mono m,Y,fun R2 H2 y l p E=>⟨R2,d,A,J,N,p,s.mono (m.trans l),T,fun R3 H3 z j f C=>?_⟩⟩⟩;dsimp only at c;split at c
 ·rename_i n;split at c
  ·rename_i kvs L;split at c
   ·rename_i g;cases c;obtain⟨u,P,kx,M,w⟩:=f.dicAt (Rw.mono j _ _ E) L;have O:=Y9 C Q;subst O;refine⟨_,_,P,DPut.k M (by rw[<-EQ w];exact g),?_⟩;exact k R3 _ σ (m.trans (l.trans j)) (f.put u ⟨_,rfl,QgA w (Rw.mono (l.trans j) _ _ G)⟩) (s.mono (m.trans (l.trans j)))
   ·cases c
  ·cases c
 ·cases c
theorem Qdr(hu:X.A.units+64<cLine)(d:PM X o mo)(f:PM X i mi)(g:PM X e mv)(c:W7 e=false:=by rfl):PMS X (.Assign [.Subscript o i pos'] e pos) (QaI mo mi mv):=
 Vl (Qgh (Ew (Ej (by decide) _) hu) d f g (show swapsWith e (some (.Subscript o i pos')) pos.line X.env=pure false from Kh c)) fun _ _ _=>QfL
end
theorem Qdx(xs:List a)(x:a):atI (xs++[x]) (-1)=some x:=by
 unfold atI ixN;rw[if_neg (by decide),if_pos (by simp;lia),Np];have:((-1:Int)+((xs++[x]).length:Nat)).toNat=xs.length:=by simp;lia
 rw[this];simp
theorem Yc{lo c:Int}(e:(JT lo c n)[j]?=some w):j<n/\w=.int (lo+(j:Int)*c):=by
 unfold JT at e;rw[Nz]at e;obtain⟨i,d,rfl⟩:=Nf.mp e;obtain⟨a,b⟩:=Nh.mp d;rw[Fe]at a;rw[List.getElem_range]at b;subst b;exact⟨a,rfl⟩
mutual
noncomputable def pur:W->Bool
 |.tup ws=>Js ws
 |.lst ws=>Js ws
 |.frz ws=>Js ws
 |.ref _=>false
 |_=>true
noncomputable def Js:List W->Bool
 |[]=>true
 |w::ws=>pur w&&Js ws
end
noncomputable def Qfp:MO->Bool
 |.lst ws=>Js ws
 |.dic kvs=>Js (kvs.map (·.2))
 |.dct kvs=>Js (kvs.map (·.2))
 |.ins _ _=>false
mutual
noncomputable def th(f:Nat->Option W):W->Option W
 |.tup ws=>(ths f ws).map .tup
 |.lst ws=>(ths f ws).map .lst
 |.frz ws=>(ths f ws).map .frz
 |.ref j=>f j
 |w=>some w
noncomputable def ths(f:Nat->Option W):List W->Option (List W)
 |[]=>some []
 |w::ws=>(th f w).bind fun x=>(ths f ws).map (x::·)
end
noncomputable def thO(f:Nat->Option W):MO->Option MO
 |.lst ws=>(ths f ws).map .lst
 |.dic kvs=>(ths f (kvs.map (·.2))).map fun a=>.dic ((kvs.map (·.1)).zip a)
 |.dct kvs=>(ths f (kvs.map (·.2))).map fun a=>.dct ((kvs.map (·.1)).zip a)
 |.ins _ _=>none
noncomputable def res(a:Nat->Option Nat)(g:MH):Nat->Nat->Option W
 |0,j=>(a j).map .ref
 | d+1,j=>match a j with
  |some n=>some (.ref n)
  |none=>match g[j]? with
   |some (.lst ws)=>(ths (res a g d) ws).map .lst
   |_=>none
noncomputable def WD(ns a:List Nat)(N j:Nat):Option Nat:=match ns[j]? with
 |some n=>some n
 |none=>(a.findIdx? (·==j)).map (N+·)
noncomputable def Ks:Nat->List W->Option (List W×List Nat)
 |_,[]=>some ([],[])
 |k,.ref n::ws=>(Ks (k+1) ws).map fun p=>(.ref k::p.1,n::p.2)
 |k,w::ws=>if pur w then(Ks k ws).map fun p=>(w::p.1,p.2)else none
noncomputable def QO:List Nat->List MO->MH->MH
 |n::ns,o::os,h=>QO ns os (h.set n o)
 |_,_,h=>h
noncomputable def QcG(h:MH)(n:Nat):Option MO:=match h[n]? with|some o=>if Qfp o then some o else none|none=>none
noncomputable def Qfw(a:W->List Nat)(m:FM)(as:List W)(ns:List Nat)(h:MH):Option (W×MH):=
 if ns.Nodup then(ZL (QcG h) ns).bind fun c=>(m as c).bind fun p=>
  if(a p.1).Nodup/\(∀j∈a p.1,ns.length<=j)then
   (th (res (WD ns (a p.1) h.length) p.2 3) p.1).bind fun w=>
   (ZL (fun j=>(p.2[j]?).bind (thO (res (WD ns (a p.1) h.length) p.2 3))) (List.range ns.length)).bind fun os=>
   (ZL (fun j=>(p.2[j]?).bind (thO (res (WD ns (a p.1) h.length) p.2 3))) (a p.1)).map fun b=>
   (w,QO ns os h++b)
  else none
 else none
noncomputable def box(c:W->List Nat)(m:FM):FM:=fun b h=>(Ks 0 b).bind fun a=>Qfw c m a.1 a.2 h
section
variable{K:Nd}{R R':Rn}
mutual
theorem Rw.pur_mono(b:∀a o,R.F a=some o->R'.F a=some o):∀(w:W) (v:V),pur w=true->Rw K R w v->Rw K R' w v
 |.non,_,_,h=>by unfold Rw at h ⊢;exact h
 |.bl _,_,_,h=>by unfold Rw at h ⊢;exact h
 |.int _,_,_,h=>by unfold Rw at h ⊢;exact h
 |.str _,_,_,h=>by unfold Rw at h ⊢;exact h
 |.ty _,_,_,h=>by unfold Rw at h ⊢;exact h
 |.tup ws,_,p,h=>by
  unfold Rw at h ⊢;obtain⟨a,xs,e,d,c⟩:=h;exact⟨a,xs,e,QS b d,Rws.pur_mono b ws xs (by unfold pur at p;exact p) c⟩
 |.lst ws,_,p,h=>by
  unfold Rw at h ⊢;obtain⟨a,xs,e,d,c⟩:=h;exact⟨a,xs,e,b a _ d,Rws.pur_mono b ws xs (by unfold pur at p;exact p) c⟩
 |.frz ws,_,p,h=>by
  unfold Rw at h ⊢;obtain⟨a,xs,e,d,c⟩:=h;exact⟨a,xs,e,JG b d,Rws.pur_mono b ws xs (by unfold pur at p;exact p) c⟩
 |.ref n,_,p,h=>by unfold pur at p;cases p
theorem Rws.pur_mono(d:∀a o,R.F a=some o->R'.F a=some o):∀(ws:List W) (c:List V),Js ws=true->Rws K R ws c->Rws K R' ws c
 |[],_,_,h=>by unfold Rws at h ⊢;exact h
 |w::ws,_,p,h=>by
  unfold Rws at h ⊢;obtain⟨v,b,g,f,e⟩:=h;unfold Js at p;rw[NK]at p;exact⟨v,b,g,Rw.pur_mono d w v p.1 f,Rws.pur_mono d ws b p.2 e⟩
end
mutual
theorem Rw.th_ok(c:∀a o,R.F a=some o->R'.F a=some o)(hr:∀j v w,Rw K R (.ref j) v->f j=some w->Rw K R' w v):∀(w:W) (v:V) (q:W),th f w=some q->Rw K R w v->Rw K R' q v
 |.non,_,_,e,h=>by unfold th at e;cases e;unfold Rw at h ⊢;exact h
 |.bl _,_,_,e,h=>by unfold th at e;cases e;unfold Rw at h ⊢;exact h
 |.int _,_,_,e,h=>by unfold th at e;cases e;unfold Rw at h ⊢;exact h
 |.str _,_,_,e,h=>by unfold th at e;cases e;unfold Rw at h ⊢;exact h
 |.ty _,_,_,e,h=>by unfold th at e;cases e;unfold Rw at h ⊢;exact h
 |.tup ws,_,_,e,h=>by
  unfold th at e;obtain⟨d,i,g⟩:=Nf.mp e;subst g;unfold Rw at h ⊢;obtain⟨a,b,p,m,l⟩:=h;exact⟨a,b,p,QS c m,Rws.th_ok c hr ws b d i l⟩
 |.lst ws,_,_,e,h=>by
  unfold th at e;obtain⟨d,i,g⟩:=Nf.mp e;subst g;unfold Rw at h ⊢;obtain⟨a,b,p,m,l⟩:=h;exact⟨a,b,p,c a _ m,Rws.th_ok c hr ws b d i l⟩
 |.frz ws,_,_,e,h=>by
  unfold th at e;obtain⟨d,i,g⟩:=Nf.mp e;subst g;unfold Rw at h ⊢;obtain⟨a,b,p,m,l⟩:=h;exact⟨a,b,p,JG c m,Rws.th_ok c hr ws b d i l⟩
 |.ref n,v,q,e,h=>by unfold th at e;exact hr n v q h e
theorem Rws.th_ok(g:∀a o,R.F a=some o->R'.F a=some o)(hr:∀j v w,Rw K R (.ref j) v->f j=some w->Rw K R' w v):∀(ws:List W) (d:List V) (b:List W),ths f ws=some b->Rws K R ws d->Rws K R' b d
 |[],_,_,e,h=>by unfold ths at e;cases e;unfold Rws at h ⊢;exact h
 |w::ws,_,_,e,h=>by
  unfold ths at e;obtain⟨x,p,n⟩:=Nc.mp e;obtain⟨i,m,l⟩:=Nf.mp n;subst l;unfold Rws at h;obtain⟨v,c,s,r,q⟩:=h;subst s;exact Rws.cons (Rw.th_ok g hr w v x p r) (Rws.th_ok g hr ws c i m q)
end
theorem DicR.vals:∀{kvs:List (Key×W)} {a:List (Key×V)},Paired (fun p q=>p.1=q.1/\Rw K R p.2 q.2) kvs a->Rws K R (kvs.map (·.2)) (a.map (·.2))/\kvs.map (·.1)=a.map (·.1):=by
 intro kvs a p
 induction p with
 |nil=>exact⟨Rws.nil,rfl⟩
 |cons h t b=>exact⟨Rws.cons h.2 b.1,by rw[NA,NA,b.2,h.1]⟩
theorem DicR.zip:∀{ks:List Key} {b:List (Key×V)} {a:List W},ks=b.map (·.1)->Rws K R a (b.map (·.2))->Paired (fun p q=>p.1=q.1/\Rw K R p.2 q.2) (ks.zip a) b
 |_,[],a,e,h=>by
  subst e;exact .nil
 | _,q::b,a,e,h=>by
  subst e;rw[NA]at h;cases a with
  |nil=>rw[Rws.nil_iff]at h;cases h
  |cons u a=>
   rw[Rws.cons_iff]at h;obtain⟨v,g,f,d,c⟩:=h;cases f;exact .cons ⟨rfl,d⟩ (DicR.zip rfl c)
theorem GM:∀(n:Nat) (w:W) (k:Tr),Qeg n w=some k->pur w=true
 |0,_,_,e=>by simp[Qeg]at e
 | n+1,w,k,e=>by
  cases w with
  | tup ws=>
   simp only[Qeg]at e;obtain⟨ks,b,f⟩:=Nf.mp e;unfold pur;clear e f
   induction ws generalizing ks with
   |nil=>rfl
   |cons x ws d=>
    rw[List.mapM_cons]at b;obtain⟨c,h,i⟩:=Nc.mp b;obtain⟨a,g,_⟩:=Nc.mp i;unfold Js;rw[GM n x c h,d a g];rfl
  |lst ws=>simp[Qeg]at e
  |frz ws=>simp[Qeg]at e
  |ref j=>simp[Qeg]at e
  |_=>rfl
theorem Qb5(e:nrm w=some k):pur w=true:=by
 cases w with
 |tup a=>exact GM 8 _ k e
 |_=>cases e
theorem DctR.vals:∀{kvs:List (W×W)} {a:List (Tr×Addr×V)},Paired (fun p q=>Rw K R p.1 (.ref q.2.1)/\nrm p.1=some q.1/\Rw K R p.2 q.2.2) kvs a->Rws K R (kvs.map (·.2)) (a.map (·.2.2))/\Paired (fun p q=>Rw K R p (.ref q.2.1)/\nrm p=some q.1) (kvs.map (·.1)) a:=by
 intro kvs a p
 induction p with
 |nil=>exact⟨Rws.nil,.nil⟩
 |cons h t b=>exact⟨Rws.cons h.2.2 b.1,.cons ⟨h.1,h.2.1⟩ b.2⟩
theorem DctR.zip:∀{ks:List W} {b:List (Tr×Addr×V)} {a:List W},Paired (fun p q=>Rw K R p (.ref q.2.1)/\nrm p=some q.1) ks b->Rws K R a (b.map (·.2.2))->Paired (fun p q=>Rw K R p.1 (.ref q.2.1)/\nrm p.1=some q.1/\Rw K R p.2 q.2.2) (ks.zip a) b
 |_,[],a,.nil,h=>.nil
 | _,q::b,a,.cons e t,h=>by
  rw[NA]at h;cases a with
  |nil=>rw[Rws.nil_iff]at h;cases h
  |cons u a=>
   rw[Rws.cons_iff]at h;obtain⟨v,g,f,d,c⟩:=h;cases f;exact .cons ⟨e.1,e.2,d⟩ (DctR.zip t c)
theorem GB(m:∀a o,R.F a=some o->R'.F a=some o)(hr:∀j v w,Rw K R (.ref j) v->f j=some w->Rw K R' w v)(e:thO f o=some t)(h:Ro K R o u):Ro K R' t u:=by
 cases o with
 |lst s=>
  unfold thO at e;obtain⟨c,g,d⟩:=Nf.mp e;subst d;obtain⟨r,l,i⟩:=h;exact⟨r,l,Rws.th_ok m hr s r c g i⟩
 |dic kvs=>
  unfold thO at e;obtain⟨c,g,d⟩:=Nf.mp e;subst d;obtain⟨n,l,i⟩:=h;obtain⟨a,b⟩:=DicR.vals i;exact⟨n,l,DicR.zip b (Rws.th_ok m hr _ _ c g a)⟩
 |dct kvs=>
  unfold thO at e;obtain⟨c,g,d⟩:=Nf.mp e;subst d;obtain⟨n,l,i⟩:=h;obtain⟨a,b⟩:=DctR.vals i;exact⟨n,l,DctR.zip (Paired.mapP b fun p q z=>⟨Rw.pur_mono m _ _ (Qb5 z.2) z.1,z.2⟩) (Rws.th_ok m hr _ _ c g a)⟩
 |ins C fs=>cases e
theorem U0(e:∀a o,R.F a=some o->R'.F a=some o)(p:Qfp o=true)(h:Ro K R o u):Ro K R' o u:=by
 cases o with
 |lst j=>
  obtain⟨i,c,d⟩:=h;exact⟨i,c,Rws.pur_mono e j i p d⟩
 | dic kvs=>
  obtain⟨f,c,d⟩:=h;refine⟨f,c,?_⟩;have b:Js (kvs.map (·.2))=true:=p;clear p c;revert b
  induction d with
  |nil=>exact fun _=>.nil
  |cons h t g=>
   intro b;rw[NA]at b;unfold Js at b;rw[NK]at b;exact .cons ⟨h.1,Rw.pur_mono e _ _ b.1 h.2⟩ (g b.2)
 | dct kvs=>
  obtain⟨f,c,d⟩:=h;refine⟨f,c,?_⟩;have b:Js (kvs.map (·.2))=true:=p;clear p c;revert b
  induction d with
  |nil=>exact fun _=>.nil
  |cons h t g=>
   intro b;rw[NA]at b;unfold Js at b;rw[NK]at b;exact .cons ⟨Rw.pur_mono e _ _ (Qb5 h.2.1) h.1,h.2.1,Rw.pur_mono e _ _ b.1 h.2.2⟩ (g b.2)
 |ins C fs=>cases p
theorem UZ(g:∀a o,R.F a=some o->R0.F a=some o)(b:∀(i n:Nat),all[i]?=some n->i<R0.N/\R0.ρ i=R.ρ n):∀{ws:List W} {d:List V} {pre:List Nat} {as:List W} {ns:List Nat},Ks pre.length ws=some (as,ns)->all=pre++ns->Rws K R ws d->Rws K R0 as d
 |[],d,pre,as,ns,e,f,h=>by
  unfold Ks at e;cases e;rw[Rws.nil_iff]at h;subst h;exact Rws.nil
 | w::ws,d,pre,as,ns,e,f,h=>by
  rw[Rws.cons_iff]at h;obtain⟨v,x,rfl,j,s⟩:=h
  by_cases hw:∃n,w=.ref n
  ·obtain⟨n,rfl⟩:=hw;unfold Ks at e;obtain⟨⟨r,c⟩,m,l⟩:=Nf.mp e;cases l;refine Rws.cons ?_ (UZ g b (pre:=pre++[n]) (ns:=c) (by rw[Ny];exact m) (by rw[f];simp) s);obtain⟨u,t⟩:=b pre.length n (by rw[f];simp);unfold Rw at j ⊢;exact⟨u,by rw[t];exact j.2⟩
  ·have q:(if pur w then(Ks pre.length ws).map fun p=>(w::p.1,p.2)else none)=some (as,ns):=by
    rw[<-e];cases w<;>first|(exact absurd ⟨_,rfl⟩ hw)|(conv=>rhs;unfold Ks)
   split at q
   ·rename_i y;obtain⟨⟨r,c⟩,m,l⟩:=Nf.mp q;cases l;exact Rws.cons (Rw.pur_mono g w v y j) (UZ g b m f s)
   ·cases q
theorem ZR:∀(ns:List Nat) (os:List MO) (h:MH),(QO ns os h).length=h.length
 |[],_,h=>by unfold QO;rfl
 |_::_,[],h=>by unfold QO;rfl
 |n::ns,o::os,h=>by unfold QO;rw[ZR ns os,Dg]
theorem V7:∀(ns:List Nat) (os:List MO) (h:MH) (n:Nat),n∉ns->(QO ns os h)[n]?=h[n]?
 |[],_,h,n,_=>by unfold QO;rfl
 |_::_,[],h,n,_=>by unfold QO;rfl
 |m::ns,o::os,h,n,a=>by
  unfold QO;rw[V7 ns os _ n (fun z=>a (Nq _ z)),DM (fun z=>a (by rw[z];exact Nt))]
theorem Yl:∀(ns:List Nat) (os:List MO) (h:MH) (i n:Nat),ns.Nodup->ns.length=os.length->ns[i]?=some n->n<h.length->(QO ns os h)[n]?=os[i]?
 |[],_,h,i,n,_,_,e,_=>by simp at e
 |m::ns,[],h,i,n,_,a,_,_=>by simp at a
 |m::ns,o::os,h,0,n,hd,a,e,b=>by
  simp at e;subst e;unfold QO;rw[V7 ns os _ m (Ef.mp hd).1,E9 b];rfl
 |m::ns,o::os,h,i+1,n,hd,a,e,b=>by
  unfold QO;rw[Yl ns os (h.set m o) i n (Ef.mp hd).2 (by simpa using a) (by simpa using e) (by rw[Dg];exact b)];simp
end
end Mi
namespace Mi
open L2
theorem Wg:∀{ws:List W} {k:Nat} {as:List W} {ns:List Nat},Ks k ws=some (as,ns)->as.length=ws.length
  |[],k,as,ns,e=>by unfold Ks at e;cases e;rfl
  | w::ws,k,as,ns,e=>by
    cases w<;>unfold Ks at e<;>first
      | (obtain⟨⟨d,a⟩,c,b⟩:=Nf.mp e
         cases b
         simp[Wg c])
      | (split at e
         · obtain⟨⟨d,a⟩,c,b⟩:=Nf.mp e;cases b;simp[Wg c]
         · cases e)
theorem Ul{a:List Nat}(e:a.findIdx? (·==j)=some i):a[i]?=some j:=by
 rw[NW]at e;obtain⟨h,b,_⟩:=e;rw[Ni h];simp at b;rw[b]
theorem WG{js:List Nat}(e:js.findIdx? (·==j)=none):j∉js:=by
 rw[DY]at e;intro z;have:=e j z;simp at this
theorem QcC(e:QcG h n=some o):h[n]?=some o/\Qfp o=true:=by
 unfold QcG at e;split at e
 ·rename_i c b;split at e
  ·rename_i a;cases e;exact⟨b,a⟩
  ·cases e
 ·cases e
theorem WL{a:List Nat}(h:a.Nodup){i b j:Nat}(e:a[i]?=some j)(c:a[b]?=some j):i=b:=
 (List.getElem?_inj (Nh.mp e).1 h).mp (e.trans c.symm)
section
variable{K:Nd}
open Classical in
theorem Qht(q:spM K n (box fr m) vs H Q E):spM K n m vs H Q E:=by
 obtain⟨R,ws,h,wx,h2,hl,L,ay,e,k⟩:=q;unfold box at e;obtain⟨⟨as,A⟩,e1,e2⟩:=Nc.mp e;unfold Qfw at e2;split at e2
 case isFalse=>cases e2
 rename_i hd;obtain⟨h0,e3,e4⟩:=Nc.mp e2;obtain⟨⟨w,g⟩,e5,e6⟩:=Nc.mp e4;dsimp only at e6;split at e6
 case isFalse=>cases e6
 rename_i hj;obtain⟨a5,a4⟩:=hj;obtain⟨wy,e7,e8⟩:=Nc.mp e6;obtain⟨os,e9,a9⟩:=Nc.mp e8;obtain⟨us,an,a8⟩:=Nf.mp a9;cases a8;generalize ba:fr w=js at *
 have Y:∀(i x:Nat),A[i]?=some x->x<R.N/\∃o,h[x]?=some o/\h0[i]?=some o/\Qfp o=true:=fun i x l=>by
  obtain⟨o,D,t⟩:=(Qu e3).2 i x l;obtain⟨z3,z4⟩:=QcC t;exact⟨by rw[L.len];exact(Nh.mp z3).1,o,z3,D,z4⟩
 have ah:∀x,x∈A->∃i:Nat,A[i]?=some x:=fun x l=>NE.mp l
 let R0:Rn:={ ρ:=fun i=>R.ρ (A.getD i 0),N:=A.length,F:=R.F,G:=fun a=>if∃x,x<R.N/\x∉A/\R.ρ x=a then H a else R.G a }
 have T:∀(i x:Nat),A[i]?=some x->i<R0.N/\R0.ρ i=R.ρ x:=fun i x l=>by
  refine⟨(Nh.mp l).1,?_⟩;show R.ρ (A.getD i 0)=_;rw[ET,l];rfl
 have ai:∀i:Nat,i<A.length->∃x,A[i]?=some x:=fun i O=>⟨A[i],Ni O⟩
 have am:∀x,x<R.N->x∉A->R0.G (R.ρ x)=H (R.ρ x):=fun x l hn=>if_pos ⟨x,l,hn,rfl⟩
 have al:∀a o,R.G a=some o->R0.G a=some o:=fun a o z=>by
  show(if∃x,x<R.N/\x∉A/\R.ρ x=a then H a else R.G a)=some o;split
  ·exact L.gsub a o z
  ·exact z
 have az:Rh K R0 h0 H:=by
  refine⟨(Qu e3).1,L.sub,fun i O=>?_,fun i j O hj ee=>?_,fun i o O=>?_,fun a o ha=>?_,fun i O=>?_,fun a o ha=>?_⟩
  ·obtain⟨x,l⟩:=ai i O;rw[(T i x l).2];exact L.sep x (Y i x l).1
  ·obtain⟨x,l⟩:=ai i O;obtain⟨y,U⟩:=ai j hj;rw[(T i x l).2,(T j y U).2]at ee;have:=L.inj x y (Y i x l).1 (Y j y U).1 ee;subst this;exact WL hd l U
  ·have a7:i<A.length:=by rw[(Qu e3).1];exact(Nh.mp O).1
   obtain⟨x,l⟩:=ai i a7;obtain⟨_,o',D,t,z3⟩:=Y i x l;rw[O]at t;cases t;rw[(T i x l).2];exact U0 (R:=R) (R':=R0) (fun _ _ z=>z) z3 (L.obj x o D)
  ·have J:(if∃x,x<R.N/\x∉A/\R.ρ x=a then H a else R.G a)=some o:=ha;split at J
   ·exact J
   ·exact L.gsub a o J
  ·obtain⟨x,l⟩:=ai i O;rw[(T i x l).2];show(if∃y,y<R.N/\y∉A/\R.ρ y=R.ρ x then H (R.ρ x)else R.G (R.ρ x))=none;rw[if_neg]
   ·exact L.gsep x (Y i x l).1
   ·rintro⟨y,U,a0,ey⟩
    have:=L.inj y x U (Y i x l).1 ey;subst this;exact a0 (NE.mpr ⟨i,l⟩)
  ·have J:(if∃x,x<R.N/\x∉A/\R.ρ x=a then H a else R.G a)=some o:=ha;split at J
   ·rename_i l;obtain⟨x,l,_,rfl⟩:=l;exact L.sep x l
   ·exact L.gf a o J
 refine⟨R0,as,h0,w,g,(Wg e1).trans hl,az,UZ (R:=R) (R0:=R0) (pre:=[]) (fun _ _ z=>z) T e1 rfl ay,e5,fun R1 H1 v x1 s rv=>?_⟩;have ae:R1.G=R0.G:=x1.g
 have ab:∀(i x:Nat),A[i]?=some x->i<R1.N/\R1.ρ i=R.ρ x:=fun i x l=>by
  obtain⟨D,t⟩:=T i x l;exact⟨Nn D x1.n,(x1.ρ i D).trans t⟩
 have Z:∀(i j:Nat),js[i]?=some j->A.length<=j/\j<R1.N/\∃o u,us[i]?=some u/\g[j]?=some o/\thO (res (WD A js h.length) g 3) o=some u:=fun i j p=>by
  obtain⟨u,D,t⟩:=(Qu an).2 i j p;obtain⟨o,z3,z4⟩:=Nc.mp t;exact⟨a4 j (NE.mpr ⟨i,p⟩),by rw[s.len];exact(Nh.mp z3).1,o,u,D,z3,z4⟩
 have P:∀x,x<R.N->∀j,A.length<=j->j<R1.N->R1.ρ j≠R.ρ x:=fun x l j hj ar ee=>by
  by_cases hm:x∈A
  ·obtain⟨i,O⟩:=ah x hm;obtain⟨D,t⟩:=ab i x O;have:=s.inj j i ar D (ee.trans t.symm);have:=(Nh.mp O).1;lia
  ·have z:=s.gsep j ar;rw[ae,ee,am x l hm]at z;obtain⟨_,u,_,hu⟩:=L.there l;rw[hu]at z;cases z
 let R2:Rn:={ ρ:=fun n=>if n<R.N then R.ρ n else R1.ρ (js.getD (n-R.N) 0),N:=R.N+js.length,F:=fun a=>match R1.F a with|some o=>some o|none=>if∃j,A.length<=j/\j<R1.N/\j∉js/\R1.ρ j=a then H1 a else none,G:=R.G }
 have C:∀x,x<R.N->R2.ρ x=R.ρ x:=fun x l=>if_pos l
 have I:∀(i j:Nat),js[i]?=some j->R2.ρ (R.N+i)=R1.ρ j:=fun i j p=>by
  show(if R.N+i<R.N then R.ρ (R.N+i)else R1.ρ (js.getD (R.N+i-R.N) 0))=_;rw[if_neg (NQ.mpr (Nv _ _)),Iw,ET,p];rfl
 have f1:∀a o,R1.F a=some o->R2.F a=some o:=fun a o z=>by
  show(match R1.F a with|some o=>some o|none=>if∃j,A.length<=j/\j<R1.N/\j∉js/\R1.ρ j=a then H1 a else none)=some o;rw[z]
 have aa:∀a,R1.F a=none->(¬∃j,A.length<=j/\j<R1.N/\j∉js/\R1.ρ j=a)->R2.F a=none:=fun a D t=>by
  show(match R1.F a with|some o=>some o|none=>if∃j,A.length<=j/\j<R1.N/\j∉js/\R1.ρ j=a then H1 a else none)=none;rw[D];exact if_neg t
 have au:∀j,A.length<=j->j<R1.N->j∉js->R2.F (R1.ρ j)=H1 (R1.ρ j):=fun j a b c=>by
  show(match R1.F (R1.ρ j)with|some o=>some o|none=>if∃j',A.length<=j'/\j'<R1.N/\j'∉js/\R1.ρ j'=R1.ρ j then H1 (R1.ρ j)else none)=_;rw[s.sep j b];exact if_pos ⟨j,a,b,c,rfl⟩
 have ak:Ext R R2:=⟨Nv _ _,fun x l=>C x l,fun a o z=>f1 a o (x1.f a o z),rfl⟩
 have B:∀x,x<R2.N->x<R.N\/∃i j:Nat,x=R.N+i/\js[i]?=some j:=fun x l=>by
  have aj:x<R.N+js.length:=l
  by_cases z:x<R.N
  ·exact .inl z
  ·exact .inr ⟨x-R.N,js[x-R.N]'(DZ (NQ.mp z) aj),by lia,Ni (DZ (NQ.mp z) aj)⟩
 have hr:∀d j v w,Rw K R1 (.ref j) v->res (WD A js h.length) g d j=some w->Rw K R2 w v:=by
  have af:∀j v x,Rw K R1 (.ref j) v->WD A js h.length j=some x->Rw K R2 (.ref x) v:=fun j v x r z=>by
   unfold Rw at r ⊢;unfold WD at z;split at z
   ·rename_i y U;cases z;obtain⟨D,t⟩:=ab j x U;have ao:=(Y j x U).1;exact⟨Nn ao ak.n,by rw[C x ao,<-t];exact r.2⟩
   ·obtain⟨i,D,t⟩:=Nf.mp z;have p:=Ul D;subst t;rw[<-L.len,I i j p];exact⟨Ej (Nh.mp p).1 _,r.2⟩
  intro d
  induction d with
  |zero=>
   intro j v w r z;unfold res at z;obtain⟨x,D,t⟩:=Nf.mp z;subst t;exact af j v x r D
  | succ d ih=>
   intro j v w r z;unfold res at z;split at z
   ·rename_i x l;cases z;exact af j v x r l
   ·rename_i M;split at z
    ·rename_i aw hg;obtain⟨ax,D,t⟩:=Nf.mp z;subst t;obtain⟨xs,o1,o2⟩:=s.obj j _ hg;have ap:j<R1.N/\v=.ref (R1.ρ j):=by unfold Rw at r;exact r
     unfold WD at M;split at M
     ·cases M
     ·rename_i a3;have aq:j∉js:=WG (by simpa using M);unfold Rw;refine⟨R1.ρ j,xs,ap.2,?_,Rws.th_ok f1 ih aw xs ax D o2⟩;rw[au j (Ia.mp a3) ap.1 aq];exact o1
    ·cases z
 refine k R2 H1 v ak ⟨?_,fun a o ha=>?_,fun x l=>?_,fun x y l U ee=>?_,fun x o l=>?_,fun a o ha=>?_,fun x l=>?_,fun a o ha=>?_⟩ (Rw.th_ok f1 (hr 3) w v _ e7 rv)
 ·show R.N+js.length=_;rw[Ny,ZR,<-(Qu an).1,L.len]
 ·have J:(match R1.F a with|some o=>some o|none=>if∃j,A.length<=j/\j<R1.N/\j∉js/\R1.ρ j=a then H1 a else none)=some o:=ha;split at J
  ·rename_i o' a2;cases J;exact s.sub a _ a2
  ·split at J
   ·exact J
   ·cases J
 ·rcases B x l with l|⟨i,j,rfl,p⟩
  ·rw[C x l];refine aa _ ?_ (fun⟨j,a,b,_,c⟩=>P x l j a b c)
   by_cases hm:x∈A
   ·obtain⟨i,O⟩:=ah x hm;obtain⟨D,t⟩:=ab i x O;rw[<-t];exact s.sep i D
   ·obtain⟨_,u,_,hu⟩:=L.there l;exact s.gf _ u (by rw[ae,am x l hm];exact hu)
  ·obtain⟨D,t,_⟩:=Z i j p;rw[I i j p];refine aa _ (s.sep j t) (fun⟨j',a,b,c,d⟩=>?_);have:=s.inj j' j b t d;subst this;exact c (NE.mpr ⟨i,p⟩)
 ·rcases B x l with l|⟨i,j,rfl,p⟩<;>rcases B y U with U|⟨i',j',rfl,S⟩
  ·rw[C x l,C y U]at ee;exact L.inj x y l U ee
  ·rw[C x l,I i' j' S]at ee;obtain⟨D,t,_⟩:=Z i' j' S;exact absurd ee.symm (P x l j' D t)
  ·rw[C y U,I i j p]at ee;obtain⟨D,t,_⟩:=Z i j p;exact absurd ee (P y U j D t)
  ·rw[I i j p,I i' j' S]at ee;obtain⟨_,t,_⟩:=Z i j p;obtain⟨_,av,_⟩:=Z i' j' S;have:=s.inj j j' t av ee;subst this;rw[WL a5 p S]
 ·have aj:x<R2.N:=by
   have:=(Nh.mp l).1;rw[Ny,ZR,<-(Qu an).1,<-L.len]at this;exact this
  rcases B x aj with hn|⟨i,j,rfl,p⟩
  ·rw[NT (by rw[ZR,<-L.len];exact hn)]at l;rw[C x hn]
   by_cases hm:x∈A
   ·obtain⟨i,O⟩:=ah x hm;obtain⟨D,t⟩:=ab i x O;have a6:=(Nh.mp O).1;rw[Yl A os h i x hd (by rw[<-(Qu e9).1,Fe]) O (by rw[<-L.len];exact hn)]at l;obtain⟨u,y1,y2⟩:=(Qu e9).2 i i (by rw[EM a6]);rw[l]at y1;cases y1;obtain⟨o',y3,y4⟩:=Nc.mp y2;rw[<-t];exact GB f1 (hr 3) y4 (s.obj i o' y3)
   ·rw[V7 A os h x hm]at l;obtain⟨_,u,_,hu⟩:=L.there hn;have a1:H1 (R.ρ x)=some u:=s.gsub _ u (by rw[ae,am x hn hm];exact hu);have:=L.obj x o l;rw[hu]at this;rw[a1];exact this.mono ak
  ·obtain⟨D,t,o',u,y1,y2,y3⟩:=Z i j p;rw[ER (by rw[ZR,<-L.len];exact Nv _ _),ZR,<-L.len,Iw,y1]at l;cases l;rw[I i j p];exact GB f1 (hr 3) y3 (s.obj j o' y2)
 ·exact s.gsub a o (by rw[ae];exact al a o ha)
 ·rcases B x l with l|⟨i,j,rfl,p⟩
  ·rw[C x l];exact L.gsep x l
  ·rw[I i j p];obtain⟨_,t,_⟩:=Z i j p;cases z:R2.G (R1.ρ j)with
   |none=>rfl
   |some u=>
    have z3:=s.gsep j t;rw[ae,al _ u z]at z3;cases z3
 ·have hg:R1.G a=some o:=by rw[ae];exact al a o ha
  refine aa a (s.gf a o hg) (fun⟨j,_,b,_,d⟩=>?_);have z3:=s.gsep j b;rw[d,hg]at z3;cases z3
theorem Cal.box(b:W->List Nat)(C:Cal P w K a base k x ps g):Cal P w K a base k x ps (Mi.box b g):=
 C.imp fun _ _ _ _ q=>Qht q
end
noncomputable def frN:W->List Nat:=fun _=>[]
noncomputable def frR:W->List Nat
 |.ref j=>[j]
 |_=>[]
noncomputable def QdU:List Nat->List W->MSt->Option MSt
 |[],[],σ=>some σ
 |i::is,w::ws,σ=>QdU is ws (σ.set i (some w))
 |_,_,_=>none
noncomputable def VS(is:List Nat):MG:=fun w a _=>match w with|.tup b=>QdU is b a|_=>none
noncomputable def Qap:List Nat->TGs
 |[]=>QkV
 |i::is=>Qhl (Qbu i) (Qap is)
theorem X7:PGs X [] (Qap []):=QeM
theorem Vx(hN:X.N.Nodup)(b:X.N[i]?=some x)(a:Loc X.env.scope x)(h:PGs X es (Qap is))(c:X.fn x=true\/X.env.scope.names.lookup x=some .local)
  : PGs X (.Name x pos::es) (Qap (i::is)):=Qdg (QaR hN b a c) h
theorem Gq{K:Nd}:∀{is:List Nat} {ws:List W} {xs:List V} {a b:MSt} {σ:L2.St},QdU is ws a=some b->Rws K R ws xs->Rst K R a σ->(∀c,Rst K R b c->C c H)->Qap is xs σ H C
 |[],[],xs,a,b,σ,e,r,s,k=>by
  cases e;rw[Rws.nil_iff]at r;exact⟨r,k σ s⟩
 |i::is,w::ws,xs,a,b,σ,e,r,s,k=>by
  rw[Rws.cons_iff]at r;obtain⟨v,d,rfl,g,f⟩:=r;exact⟨v,d,rfl,Gq (is:=is) e f (s.set g) k⟩
 |[],_::_,_,_,_,_,e,_,_,_=>by cases e
 |_::_,[],_,_,_,_,e,_,_,_=>by cases e
theorem WI:∀{is:List Nat} {ws:List W} {σ a:MSt},QdU is ws σ=some a->ws.length=is.length
 |[],[],_,_,_=>rfl
 |i::is,w::ws,σ,a,e=>by
  have:=WI (is:=is) (ws:=ws) e;simp[this]
 |[],_::_,_,_,e=>by cases e
 |_::_,[],_,_,e=>by cases e
theorem Ka{is:List Nat}(o:X.calm=true)(h:PGs X es (Qap is))(n:(assignEach es X.env).length=is.length)(m:(assignEach es X.env).findIdx? (·.1)=none):PMG X (.Tuple es k pos) (VS is):=
 Qeh (Qh4 o h n m) fun v p H C g=>by
  obtain⟨R,d,h,w,f,b,st,rw,e,q⟩:=g;unfold VS at e;split at e
  ·rename_i r;obtain⟨ad,i,rfl,l,c⟩:=b.tupAt rw;exact⟨ad,i,rfl,l,by rw[<-c.length];exact WI e,Gq e c st fun a j=>q R H a (Ext.refl _) b j⟩
  ·cases e
noncomputable def QgG(ws:List W)(h:MH):Option (W×MH):=match ws with
 |[.int i,.int j]=>some (.int (if j>i then j else i),h)
 |_=>none
noncomputable def QhU(ws:List W)(h:MH):Option (W×MH):=match ws with
 |[.int i,.int j]=>some (.int (if j<i then j else i),h)
 |_=>none
section
variable{X:Cx}
theorem Ub(j:X.calm=true):CallR X (.builtin "max") (Fs X.K QgG):=by
 intro a s b H c d Q I r q;refine Qbt j a s b H c d Q I r ?_;obtain⟨R,h,l,w,m,f,rw,e,k⟩:=q;unfold QgG at e;split at e
 ·cases e;obtain⟨v,u,rfl,i,g⟩:=Qi4 rw;exact⟨_,_,by rw[i.int_eq,g.int_eq],k R H _ (Ext.refl _) f (Rw.int _)⟩
 ·cases e
theorem QaX(j:X.calm=true):CallR X (.builtin "min") (Fs X.K QhU):=by
 intro a s b H c d Q I r q;refine QaQ j a s b H c d Q I r ?_;obtain⟨R,h,l,w,m,f,rw,e,k⟩:=q;unfold QhU at e;split at e
 ·cases e;obtain⟨v,u,rfl,i,g⟩:=Qi4 rw;exact⟨_,_,by rw[i.int_eq,g.int_eq],k R H _ (Ext.refl _) f (Rw.int _)⟩
 ·cases e
noncomputable def rep(x:Str)(n:Int):Str:=⟨((List.replicate n.toNat x.cps.toList).flatten).toArray⟩
theorem Uh:∀(l:List (Array Nat)) (a:Array Nat),l.foldl (·++·) a=(a.toList++(l.map Array.toList).flatten).toArray
 |[],a=>by simp
 |b::l,a=>by rw[ID,Uh l];simp
theorem Qeu(x:Str)(n:Int):(⟨(List.replicate n.toNat x.cps).foldl (·++·) #[]⟩:Str)=rep x n:=by
 unfold rep;rw[Uh];simp
theorem Qdn(x:Str)(h:n<1):Str.empty=rep x n:=by
 unfold rep;rw[show n.toNat=0 by lia];rfl
theorem Qgf(x:Str):x=rep x 1:=by
 unfold rep;simp
theorem Qfr(n:Int)(h:(x.length==0)=true):x=rep x n:=by
 unfold rep
 have:x.cps=#[]:=by
  have:x.cps.size=0:=by simpa[Str.length]using h
  exact FC this
 obtain⟨c⟩:=x;simp at this;subst this;simp
noncomputable def Xl(a b:W)(h:MH):Option (W×MH):=match a,b with
 |.str x,.int n=>if n<1000/\-1000<n/\x.length<1000 then some (.str (rep x n),h)else none
 |a,b=>Qg3 a b h
theorem QfT:OpR X (binaryOp .Mult) (fun x y H Q=>∃z n,x=.str z/\y=.int n/\(n<1000/\-1000<n/\z.length<1000)/\Q (.str (rep z n)) H):=by
  intro b s e H x y v u Q I h g ⟨z,n,o,m,⟨B,A,w⟩,q⟩;subst o m;obtain⟨t,rfl⟩:=h;obtain⟨r,rfl⟩:=g
  have i:z.length*n.toNat<1000000:=by
    calc z.length*n.toNat<=999*999:=OF (by lia) (by lia)
      _<1000000:=by decide
  refine PySem.P.mul_str (by rw[decide_eq_false (by lia),decide_eq_false (by lia)];rfl) (fun a _=>?_) (fun a _=>?_) ?_
  · have:(2^63-1)/n >= 1000:=by
      rw[ge_iff_le,Int.le_ediv_iff_mul_le (by lia)];lia
    lia
  · unfold Builtin.Str.tooLong
    exact decide_eq_false (by show¬_;have:sizeLine=16777216:=by decide
                              lia)
  · have done:∀(y:Str) (tk:Tok) (d:Shared),y=rep z n->Inv X b e H d->EP X b e Q (.str y tk) d:=fun y tk d l p=>⟨.str y,H,p,⟨_,rfl⟩,by rw[l];exact q⟩
    split
    · rename_i f;exact⟨by decide,done _ _ _ (Qdn z f) (I.tok _)⟩
    · split
      · rename_i f c;rw[E1]at c;refine done _ _ _ ?_ I
        rcases c with c|c
        · have:n=1:=by simpa using c
          subst this;exact Qgf z
        · exact Qfr n c
      · refine⟨?_,done _ _ _ (Qeu z n) (I.tok _)⟩;rw[Qeu]
        have j:(rep z n).length=n.toNat*z.length:=by
          unfold rep Str.length;simp
        rw[j,Nat.mul_comm];have:sizeLine=16777216:=by decide
        exact NB (Nn (Ew i (by decide)) (Nr this.symm))
theorem VE:OpR X (binaryOp .Mult) (F2 X.K Xl):=by
 intro c s d H x y v u Q I g f q;obtain⟨R,h,a,b,w,n,i,l,j,e,k⟩:=q;unfold Xl at e;split at e
 ·split at e
  ·rename_i m;cases e;exact QfT c s d H x y v u Q I g f ⟨_,_,l.str_eq,j.int_eq,m,k R H _ (Ext.refl _) i (Rw.str _)⟩
  ·cases e
 ·exact QeK c s d H x y v u Q I g f ⟨R,h,a,b,w,n,i,l,j,e,k⟩
end
section
variable{X:Cx}{elt tg iter c:Expr}{scope:Scope}{pos pos' spos:Pos}{cl:List (Str×Addr)}{Nb:List Str}{cp:List (Option Nat)}{mi:MI}{b:MG}{mt:MT}{me m:ME}{fin:List W->MH->Option (W×MH)}{i:Nat}{x:Str}{e:Expr}
theorem QaN{K:Nd}(q:tS K (Zb i m) D σ H):tI K m σ H fun v f=>Qbu i v σ f D.nx:=by
 obtain⟨R,a,h,r,l,s,e,k⟩:=q;obtain⟨⟨w,n⟩,p,o⟩:=Nf.mp e;cases o;exact⟨R,a,h,w,n,l,s,p,fun R1 f v g d j=>k R1 f _ g d ((s.mono g).set j)⟩
theorem Kr(hN:X.N.Nodup)(l:X.N[i]?=some x)(u:Loc X.env.scope x)(n:X.fn x=true\/X.env.scope.names.lookup x=some .local)(z:Ux X.K fin)(D:X.calm=true)(B:BlkOk X scope cl Nb cp)(w:PMI X tg iter mi)(y:∀a d C ex f,PMG (Mi.blk X scope cl Nb a d C ex f) tg b)
  (A:∀a d C ex f,PM (Mi.blk X scope cl Nb a d C ex f) elt me) (v:∀x,foldedSetIterable iter X.env x=pure x) (j:swapsWith (.ListComp elt [⟨tg,iter,[],0⟩] scope pos) (some (.Name x pos')) spos.line X.env=pure true) :
  PMS X (.Assign [.Name x pos'] (.ListComp elt [⟨tg,iter,[],0⟩] scope pos) spos) (Zb i (QN fin mi cp b VV me)):=
 Vl (QaB (g:=tIG X.K b) (te:=tI X.K me) (tt:=tIT X.K VV) hN l u n j D B w y (fun a d C ex f o s E H Q I q=>wpAny_tests_nil (by
  obtain⟨R,p,h,t,L,r,st,e,k⟩:=q;cases e
  exact⟨H,I,k R H (Ext.refl _) r⟩)) A v) fun _ _ _ q=>Wv z (QaN q)
theorem QbI(hN:X.N.Nodup)(l:X.N[i]?=some x)(p:Loc X.env.scope x)(n:X.fn x=true\/X.env.scope.names.lookup x=some .local)(w:Ux X.K fin)(z:X.calm=true)(B:BlkOk X scope cl Nb cp)(u:PMI X tg iter mi)(v:∀a d C ex f,PMG (Mi.blk X scope cl Nb a d C ex f) tg b)
  (r:∀a d C ex f,PMT (Mi.blk X scope cl Nb a d C ex f) c mt)
  (y:∀a d C ex f,PM (Mi.blk X scope cl Nb a d C ex f) elt me) (t:∀x,foldedSetIterable iter X.env x=pure x) (j:swapsWith (.ListComp elt [⟨tg,iter,[c],0⟩] scope pos) (some (.Name x pos')) spos.line X.env=pure true) :
  PMS X (.Assign [.Name x pos'] (.ListComp elt [⟨tg,iter,[c],0⟩] scope pos) spos) (Zb i (QN fin mi cp b mt me)):=
 Vl (QaB (g:=tIG X.K b) (te:=tI X.K me) (tt:=tIT X.K mt) hN l p n j z B u v (fun a d C ex f h s o H Q I q=>wpAny_tests_one (r a d C ex f h s o H Q I q)) y t) fun _ _ _ q=>Wv w (QaN q)
end
set_option checkBinderAnnotations false in
noncomputable def ob[f:b->Option a](x:Option b):Option a:=x.bind f
set_option checkBinderAnnotations false in
noncomputable def om[f:b->a](x:Option b):Option a:=x.map f
@[simp]theorem Qgp:@ob _ _ f (some a)=f a:=id rfl
@[simp]theorem QjI:@om _ _ f (some a)=some (f a):=id rfl
noncomputable def Qji(b:SM):MF->Option MF
 |.nx σ h=>b σ h
 |r=>some r
section
variable{σ σ':MSt}{h h':MH}{a b:SM}{m ma mb mc:ME}{t u:MT}{ms:MA}{w x y:W}{ws:List W}
@[simp]theorem Qkn:Qji b (.nx σ h)=b σ h:=id rfl
@[simp]theorem QjX:Qji b (.rt w h)=some (.rt w h):=id rfl
@[simp]theorem Qm9:Qt a b σ h=@ob _ _ (Qji b) (a σ h):=by
 unfold Qt;refine congrArg (fun c=>@ob _ _ c (a σ h)) (funext fun r=>?_);cases r<;>rfl
@[simp]theorem QkZ:QV σ h=some (.nx σ h):=id rfl
@[simp]theorem Qnb:Zo m σ h=@om _ _ (fun p=>.rt p.1 p.2) (m σ h):=id rfl
noncomputable def onB(a b:SM)(σ:MSt)(p:Bool×MH):Option MF:=if p.1=true then a σ p.2 else b σ p.2
@[simp]theorem Qjz(c:Bool):onB a b σ (c,h)=if c=true then a σ h else b σ h:=id rfl
@[simp]theorem QmU:Jr t a b σ h=@ob _ _ (onB a b σ) (t σ h):=by
 unfold Jr;refine congrArg (fun d=>@ob _ _ d (t σ h)) (funext fun p=>?_);obtain⟨c,h⟩:=p;cases c<;>rfl
@[simp]theorem QlG:ZN m σ h=@om _ _ (fun p=>.nx σ p.2) (m σ h):=id rfl
@[simp 500]theorem Qna:Zb i m σ h=@om _ _ (fun p=>.nx (σ.set i (some p.1)) p.2) (m σ h):=id rfl
@[simp]theorem Qm1:Qd6 i f m σ h=@ob _ _ (fun x=>@ob _ _ (fun p=>@om _ _ (fun q=>.nx (σ.set i (some q.1)) q.2) (f x.1 p.1 p.2)) (m σ h)) (Qb i σ h):=by
 unfold Qd6 Qb
 rcases σ[i]? with _|_|x<;>rfl
@[simp 1100]theorem Ql8{v0 x:Option W}{r:MSt}:List.set (v0::r) 0 x=x::r:=id rfl
@[simp 1100]theorem Qmo{v0 v1 x:Option W}{r:MSt}:List.set (v0::v1::r) 1 x=v0::x::r:=id rfl
@[simp 1100]theorem Qm6{v0 v1 c x:Option W}{r:MSt}:List.set (v0::v1::c::r) 2 x=v0::v1::x::r:=id rfl
@[simp 1100]theorem QmG{v0 v1 c d x:Option W}{r:MSt}:List.set (v0::v1::c::d::r) 3 x=v0::v1::c::x::r:=id rfl
@[simp 1100]theorem Qm3{v0 v1 d c v4 x:Option W}{r:MSt}:List.set (v0::v1::d::c::v4::r) 4 x=v0::v1::d::c::x::r:=id rfl
@[simp 1100]theorem Qmz{v0 v1 d c v4 e x:Option W}{r:MSt}:List.set (v0::v1::d::c::v4::e::r) 5 x=v0::v1::d::c::v4::x::r:=id rfl
@[simp 1100]theorem QmA{v0 v1 e d v4 c v6 x:Option W}{r:MSt}:List.set (v0::v1::e::d::v4::c::v6::r) 6 x=v0::v1::e::d::v4::c::x::r:=id rfl
@[simp 1100]theorem Qnh{v0 v1 e d v4 c v6 f x:Option W}{r:MSt}:List.set (v0::v1::e::d::v4::c::v6::f::r) 7 x=v0::v1::e::d::v4::c::v6::x::r:=id rfl
@[simp 1100]theorem QmW{v0 v1 f e v4 d v6 c g x:Option W}{r:MSt}:List.set (v0::v1::f::e::v4::d::v6::c::g::r) 8 x=v0::v1::f::e::v4::d::v6::c::x::r:=id rfl
@[simp 1100]theorem Qnm{v0 v1 g f v4 e v6 d c i x:Option W}{r:MSt}:List.set (v0::v1::g::f::v4::e::v6::d::c::i::r) 9 x=v0::v1::g::f::v4::e::v6::d::c::x::r:=id rfl
@[simp]theorem QhD:Qb 0 (some o::r) h=some (o,h):=id rfl
@[simp]theorem Qlj:Qb 1 (v0::some o::r) h=some (o,h):=id rfl
@[simp]theorem Qk3:Qb 2 (v0::v1::some o::r) h=some (o,h):=id rfl
@[simp]theorem Qlq:Qb 3 (v0::v1::c::some o::r) h=some (o,h):=id rfl
@[simp]theorem Qld:Qb 4 (v0::v1::d::c::some o::r) h=some (o,h):=id rfl
@[simp]theorem Qlc:Qb 5 (v0::v1::d::c::v4::some o::r) h=some (o,h):=id rfl
@[simp]theorem QkR:Qb 6 (v0::v1::e::d::v4::c::some o::r) h=some (o,h):=id rfl
@[simp]theorem QlF:Qb 7 (v0::v1::e::d::v4::c::v6::some o::r) h=some (o,h):=id rfl
@[simp]theorem Qle:Qb 8 (v0::v1::f::e::v4::d::v6::c::some o::r) h=some (o,h):=id rfl
@[simp]theorem Qlx:Qb 9 (v0::v1::g::f::v4::e::v6::d::c::some o::r) h=some (o,h):=id rfl
@[simp]theorem s_c:mC w σ h=some (w,h):=id rfl
@[simp 500]theorem Qm0:Qf f ma mb σ h=@ob _ _ (fun p=>@ob _ _ (fun q=>f p.1 q.1 q.2) (mb σ p.2)) (ma σ h):=id rfl
@[simp]theorem QnC:mUn f ma σ h=@ob _ _ (fun p=>f p.1 p.2) (ma σ h):=id rfl
@[simp]theorem QmY:mFn f ms σ h=@ob _ _ (fun p=>f p.1 p.2) (ms σ h):=id rfl
@[simp]theorem QlI:Qg n g ms σ h=@ob _ _ (fun p=>if p.1.length=n then g p.1 p.2 else none) (ms σ h):=id rfl
@[simp]theorem Qkx:Qd σ h=some ([],h):=id rfl
@[simp 600]theorem QlQ:Qf f ma (mC w) σ h=@ob _ _ (fun p=>f p.1 w p.2) (ma σ h):=id rfl
@[simp 600]theorem QjU:Qa (mC w) ms σ h=@ob _ _ (fun q=>some (w::q.1,q.2)) (ms σ h):=id rfl
@[simp 610]theorem QjQ:Qa m Qd σ h=@ob _ _ (fun p=>some ([p.1],p.2)) (m σ h):=id rfl
@[simp 620]theorem QiU:Qa (mC w) Qd σ h=some ([w],h):=id rfl
@[simp 600]theorem QlA:Zb i (mC w) σ h=some (.nx (σ.set i (some w)) h):=id rfl
@[simp 500]theorem QhL:Qa m ms σ h=@ob _ _ (fun p=>@ob _ _ (fun q=>some (p.1::q.1,q.2)) (ms σ p.2)) (m σ h):=id rfl
noncomputable def asB(p:W×MH):Option (Bool×MH):=match p.1 with|.bl b=>some (b,p.2)|_=>none
@[simp]theorem Qlf(c:Bool):asB (.bl c,h)=some (c,h):=id rfl
@[simp 500]theorem QkU:Qi m σ h=@ob _ _ asB (m σ h):=id rfl
@[simp]theorem Qk6:J4 t σ h=@om _ _ (fun p=>(!p.1,p.2)) (t σ h):=by
 unfold J4
 first|rfl|(cases t σ h<;>rfl)
noncomputable def Qhz(u:MT)(σ:MSt)(p:Bool×MH):Option (Bool×MH):=if p.1=true then u σ p.2 else some (false,p.2)
noncomputable def QlD(u:MT)(σ:MSt)(p:Bool×MH):Option (Bool×MH):=if p.1=true then some (true,p.2)else u σ p.2
@[simp]theorem QiG(c:Bool):Qhz u σ (c,h)=if c=true then u σ h else some (false,h):=id rfl
@[simp]theorem Qjb(c:Bool):QlD u σ (c,h)=if c=true then some (true,h)else u σ h:=id rfl
@[simp 500]theorem Gg:Xk t u σ h=@ob _ _ (Qhz u σ) (t σ h):=by
 unfold Xk;refine congrArg (fun d=>@ob _ _ d (t σ h)) (funext fun p=>?_);obtain⟨c,h⟩:=p;cases c<;>rfl
@[simp 500]theorem Ql7:Wy t u σ h=@ob _ _ (QlD u σ) (t σ h):=by
 unfold Wy;refine congrArg (fun d=>@ob _ _ d (t σ h)) (funext fun p=>?_);obtain⟨c,h⟩:=p;cases c<;>rfl
noncomputable def QlP(ma mb:ME)(σ:MSt)(p:Bool×MH):Option (W×MH):=if p.1=true then ma σ p.2 else mb σ p.2
@[simp]theorem QiS(c:Bool):QlP ma mb σ (c,h)=if c=true then ma σ h else mb σ h:=id rfl
@[simp]theorem Qny:mIf t ma mb σ h=@ob _ _ (QlP ma mb σ) (t σ h):=by
 unfold mIf;refine congrArg (fun d=>@ob _ _ d (t σ h)) (funext fun p=>?_);obtain⟨c,h⟩:=p;cases c<;>rfl
@[simp]theorem QmZ:W6 m σ h=@ob _ _ (fun p=>@om _ _ (fun b=>(b,p.2)) (Qf1 p.2 p.1)) (m σ h):=by
 unfold W6;rfl
@[simp]theorem Qno:mMt T f m ms σ h=@ob _ _ (fun p=>if tyW p.2 T p.1=true then@ob _ _ (fun q=>f p.1 q.1 q.2) (ms σ p.2)else none) (m σ h):=id rfl
end
section
variable{h:MH}{i j:Int}{x y:Str}{ws us:List W}{w:W}
@[simp]theorem Ql6:X2 (.int i) (.int j) h=some (.int (i+j),h):=id rfl
@[simp]theorem QlY:Qa8 (.int i) (.int j) h=some (.int (i-j),h):=id rfl
@[simp]theorem Qnx:wLt (.int i) (.int j) h=some (.bl (decide (i<j)),h):=id rfl
@[simp]theorem QnB:wLe (.int i) (.int j) h=some (.bl (decide (i<=j)),h):=id rfl
@[simp]theorem Qnr:wGt (.int i) (.int j) h=some (.bl (decide (j<i)),h):=id rfl
@[simp]theorem Qnq:wGe (.int i) (.int j) h=some (.bl (decide (j<=i)),h):=id rfl
@[simp]theorem Qmb:Qa1 (.int i) h=some (.int (-i),h):=id rfl
@[simp]theorem QlR:UG (.int i) (.int j) h=some (.int (i+j),h):=id rfl
@[simp]theorem QmC(c:0<j):Qco (.int i) (.int j) h=some (.int (i%j),h):=Qe3 c
@[simp]theorem Qm4(c:0<j)(a:j<1073741824):QfI (.int i) (.int j) h=some (.int (i/j),h):=Qgl ⟨c,a⟩
@[simp]theorem Qlh(c:-18446744073709551616<j)(a:j<18446744073709551616):Xl (.int i) (.int j) h=some (.int (i*j),h):=QcE (.inr ⟨c,a⟩)
@[simp]theorem QkI(c:-18446744073709551616<i)(a:i<18446744073709551616):Xl (.int i) (.int j) h=some (.int (i*j),h):=QcE (.inl ⟨c,a⟩)
@[simp]theorem QlX(c:0<=j)(b:j<=1000000)(a:i.natAbs<18446744073709551616):Qfs (.int i) (.int j) h=some (.int (i^j.toNat),h):=Qgy ⟨c,b,a⟩
theorem QbW(c:j<1000/\-1000<j/\x.length<1000):Xl (.str x) (.int j) h=some (.str (rep x j),h):=if_pos c
@[simp]theorem Qjw:QgG [.int i,.int j] h=some (.int (if j>i then j else i),h):=id rfl
@[simp]theorem Qjg:QhU [.int i,.int j] h=some (.int (if j<i then j else i),h):=id rfl
@[simp]theorem QlZ:JM ws h=if ws.length<=sizeLine then some (.tup ws,h)else none:=id rfl
@[simp]theorem Qnc:UU ws h=if ws.length<=sizeLine then some (.lst ws,h)else none:=id rfl
@[simp]theorem QlW:U3 ws h=if ws.length<=sizeLine then some (.ref h.length,h++[.lst ws])else none:=id rfl
@[simp]theorem QmP:wIx (.tup ws) (.int i) h=@om _ _ (fun w=>(w,h)) (atI ws i):=id rfl
@[simp]theorem Qmc:wIx (.lst ws) (.int i) h=@om _ _ (fun w=>(w,h)) (atI ws i):=id rfl
@[simp]theorem QmF:wIx (.frz ws) (.int i) h=@om _ _ (fun w=>(w,h)) (atI ws i):=id rfl
@[simp]theorem Ql1:wIx (.ref n) (.int i) h=@ob _ _ (fun(ws:List W)=>@om _ _ (fun w=>(w,h)) (atI ws i)) (match h[n]? with|some (.lst ws)=>some ws|_=>none):=id rfl
@[simp]theorem QkL:JC [.tup ws] h=some (.int ws.length,h):=id rfl
@[simp]theorem QkQ:JC [.lst ws] h=some (.int ws.length,h):=id rfl
@[simp]theorem QgV:JC [.frz ws] h=some (.int ws.length,h):=id rfl
@[simp]theorem Qlp:JC [.ref n] h=@om _ _ (fun(ws:List W)=>(.int ws.length,h)) (match h[n]? with|some (.lst ws)=>some ws|_=>none):=id rfl
@[simp]theorem Qlr:JC [.str x] h=if x.length<=sizeLine then some (.int x.length,h)else none:=id rfl
theorem Zu{xs:List a}{n:Nat}:atI xs (n:Int)=xs[n]?:=by
 cases e:xs[n]? with
 |some x=>exact QfV e
 |none=>
  unfold atI ixN;have:xs.length<=n:=Ia.mp e;rw[if_pos (by lia)];rw[if_neg (by lia)];rfl
@[simp]theorem Qnj:atI xs 0=xs[0]?:=Zu (n:=0)
@[simp]theorem Qnt:atI xs 1=xs[1]?:=Zu (n:=1)
@[simp]theorem QlB{a:Type}{xs:List a}{y:a}:atI (xs++[y]) (-1)=some y:=Qdx xs y
@[simp]theorem Ql4:ixN (n+1) 0=some 0:=by unfold ixN;rw[if_pos (by decide),if_pos (by lia)];rfl
@[simp]theorem Qng:ixN (n+2) 1=some 1:=by unfold ixN;rw[if_pos (by decide),if_pos (by lia)];rfl
@[simp]theorem Qlk:ixN (n+1) (-1)=some n:=by unfold ixN;rw[if_neg (by decide),if_pos (by lia)];congr 1;lia
noncomputable def Qhm(o i v:W)(σ:MSt)(h:MH):Option MF:=match o,i with
 |.ref n,.int k=>match h[n]? with
  |some (.lst a)=>@om _ _ (fun j=>.nx σ (h.set n (.lst (a.set j v)))) (ixN a.length k)
  |_=>none
 |_,_=>none
@[simp]theorem Qmm:QeH mo mi a σ h=@ob _ _ (fun v=>@ob _ _ (fun o=>@ob _ _ (fun i=>Qhm o.1 i.1 v.1 σ i.2) (mi σ o.2)) (mo σ v.2)) (a σ h):=id rfl
@[simp]theorem QjZ:Qhm (.ref n) (.int i) v σ h=match h[n]? with
  |some (.lst xs)=>@om _ _ (fun j=>.nx σ (h.set n (.lst (xs.set j v)))) (ixN xs.length i)
  |_=>none:=id rfl
@[simp]theorem Qli{w:W}:Qhb (some (.rt w h))=some (w,h):=id rfl
@[simp]theorem QkK:Qhb (some (.nx σ h))=some (.non,h):=id rfl
@[simp]theorem Qi7{n:Nat}{w:W}:QR (.ref n) [w] h=match h[n]? with|some (.lst xs)=>if xs.length<sizeLine then some (.non,h.set n (.lst (xs++[w])))else none|_=>none:=id rfl
@[simp]theorem QiV{n:Nat}{w:W}:Kn (.ref n) [w] h=match h[n]? with|some (.lst xs)=>@ob _ _ (fun a=>if xs.length+a.length<=sizeLine then some (.non,h.set n (.lst (xs++a)))else none) (loW h w)|_=>none:=id rfl
@[simp]theorem Ql0:loW h (.lst ws)=some ws:=id rfl
@[simp]theorem Qml:loW h (.ref n)=match h[n]? with|some (.lst ws)=>some ws|_=>none:=id rfl
@[simp]theorem Qm8:QgH (.ref n) [] h=match h[n]? with|some (.lst xs)=>@om _ _ (fun w=>(w,h.set n (.lst xs.dropLast))) (xs[xs.length-1]?)|_=>none:=id rfl
@[simp]theorem Qma:tyW h T (.ref n)=match h[n]? with|some (.lst _)=>T=="list"|some (.dic _)=>T=="dict"|some (.dct _)=>T=="dict"|_=>false:=id rfl
@[simp]theorem QmM:tyW h T (.lst ws)=(T=="list"):=id rfl
@[simp]theorem QkX:Qf1 h (.ref n)=match h[n]? with|some (.lst ws)=>some (!ws.isEmpty)|some (.dic kvs)=>some (!kvs.isEmpty)|_=>none:=id rfl
@[simp]theorem Qk9:Qf1 h (.bl b)=some b:=id rfl
@[simp]theorem QiX:Jj [.lst ws] h=some (.tup ws,h):=id rfl
@[simp]theorem Qi0:Jj [.ref n] h=@om _ _ (fun(ws:List W)=>(.tup ws,h)) (match h[n]? with|some (.lst ws)=>some ws|_=>none):=id rfl
@[simp]theorem Qns:mSl c a b σ h=@ob _ _ (fun p=>@ob _ _ (fun q=>@ob _ _ (fun r=>wSl p.1 q.1 r.1 r.2) (b σ q.2)) (a σ p.2)) (c σ h):=id rfl
@[simp]theorem Qnu:XE σ h=some (none,h):=id rfl
noncomputable def asI(p:W×MH):Option (Option Int×MH):=match p.1 with|.int i=>some (some i,p.2)|_=>none
@[simp]theorem Qjn:asI (.int i,h)=some (some i,h):=id rfl
@[simp]theorem QnA:XF m σ h=@ob _ _ asI (m σ h):=id rfl
@[simp]theorem QmR{lo a:Option Int}:wSl (.tup ws) lo a h=some (.tup (QcF ws lo a),h):=id rfl
@[simp]theorem QmK{lo a:Option Int}:wSl (.lst ws) lo a h=some (.lst (QcF ws lo a),h):=id rfl
@[simp]theorem Qk0:X2 (.str x) (.str y) h=if x.length+y.length<=sizeLine then some (.str (x++y),h)else none:=id rfl
@[simp]theorem QmV:K4 [a,.ty T] h=if Yk T=true then@om _ _ (fun k=>(.bl (ZO k T),h)) (Qce h a)else none:=id rfl
@[simp]theorem QmT:Qce h (.str x)=some "str":=id rfl
@[simp]theorem Qme:Qce h (.tup ws)=some "tuple":=id rfl
@[simp]theorem Qnv:Yk "str"=true:=by decide
@[simp]theorem Qnz:Yk "tuple"=true:=by decide
end
mutual
noncomputable def pln:W->Bool
 |.tup ws=>Ye ws
 |.lst ws=>Ye ws
 |.frz _=>false
 |.ref _=>false
 |.ty _=>false
 |_=>true
noncomputable def Ye:List W->Bool
 |[]=>true
 |w::ws=>pln w&&Ye ws
end
mutual
noncomputable def dep:W->Nat
 |.tup ws=>Uy ws+1
 |.lst ws=>Uy ws+1
 |_=>1
noncomputable def Uy:List W->Nat
 |[]=>0
 |w::ws=>max (dep w) (Uy ws)
end
mutual
theorem V6(h:MH):∀(w:W) (n:Nat),pln w=true->dep w<=n->drf h n w=some w
 |.non,n+1,_,_=>rfl
 |.bl _,n+1,_,_=>rfl
 |.int _,n+1,_,_=>rfl
 |.str _,n+1,_,_=>rfl
 |.tup ws,n+1,p,d=>by
  unfold pln at p;unfold dep at d;show(ZL (drf h n) ws).map W.tup=_;rw[J5 h ws n p (by lia)];rfl
 |.lst ws,n+1,p,d=>by
  unfold pln at p;unfold dep at d;show(ZL (drf h n) ws).map W.lst=_;rw[J5 h ws n p (by omega)];rfl
 |.frz _,_,p,_=>by unfold pln at p;cases p
 |.ref _,_,p,_=>by unfold pln at p;cases p
 |.ty _,_,p,_=>by unfold pln at p;cases p
 |.non,0,_,d=>by unfold dep at d;lia
 |.bl _,0,_,d=>by unfold dep at d;omega
 |.int _,0,_,d=>by unfold dep at d;omega
 |.str _,0,_,d=>by unfold dep at d;omega
 |.tup _,0,_,d=>by unfold dep at d;lia
 |.lst _,0,_,d=>by unfold dep at d;omega
theorem J5(h:MH):∀(ws:List W) (n:Nat),Ye ws=true->Uy ws<=n->ZL (drf h n) ws=some ws
 |[],_,_,_=>rfl
 |w::ws,n,p,d=>by
  unfold Ye at p;unfold Uy at d;rw[NK]at p;rw[ZL,V6 h w n p.1 (Nl (Nat.le_max_left _ _) d),Np,J5 h ws n p.2 (Nl (Nat.le_max_right _ _) d)];rfl
end
mutual
theorem GO:∀(w:W),pln w=true->eqW w w=true
 |.non,_=>by unfold eqW;rfl
 |.bl _,_=>by unfold eqW;simp
 |.int _,_=>by unfold eqW;simp
 |.str _,_=>by unfold eqW;simp
 |.tup ws,p=>by unfold pln at p;unfold eqW;exact KO ws p
 |.lst ws,p=>by unfold pln at p;unfold eqW;exact KO ws p
 |.frz _,p=>by unfold pln at p;cases p
 |.ref _,p=>by unfold pln at p;cases p
 |.ty _,p=>by unfold pln at p;cases p
theorem KO:∀(ws:List W),Ye ws=true->K7 ws ws=true
 |[],_=>by unfold K7;rfl
 |w::ws,p=>by
  unfold Ye at p;rw[NK]at p;unfold K7;rw[GO w p.1,KO ws p.2];rfl
end
theorem Qmd(d:pln a=true)(c:pln b=true)(f:dep a<=40)(e:dep b<=40):wNe a b h=some (.bl (!eqW a b),h):=by
 unfold wNe;rw[V6 h a 40 d f,V6 h b 40 c e];rfl
@[simp]theorem Qjy:wEq (.int i) (.int j) h=some (.bl (i==j),h):=Qgk i j h
@[simp]theorem Qke:wEq (.str x) (.str y) h=some (.bl (x==y),h):=QeN x y h
@[simp]theorem Qm5:wNe (.int i) (.int j) h=some (.bl (!(i==j)),h):=QfK i j h
@[simp]theorem Qnd:wNe (.str x) (.str y) h=some (.bl (!(x==y)),h):=by unfold wNe;simp[drf,eqW]
mutual
theorem YW:∀(w:W),pln w=true->pur w=true
 |.non,_=>rfl
 |.bl _,_=>rfl
 |.int _,_=>rfl
 |.str _,_=>rfl
 |.tup ws,p=>by unfold pln at p;unfold pur;exact Vo ws p
 |.lst ws,p=>by unfold pln at p;unfold pur;exact Vo ws p
 |.frz _,p=>by unfold pln at p;cases p
 |.ref _,p=>by unfold pln at p;cases p
 |.ty _,p=>by unfold pln at p;cases p
theorem Vo:∀(ws:List W),Ye ws=true->Js ws=true
 |[],_=>rfl
 |w::ws,p=>by
  unfold Ye at p;rw[NK]at p;unfold Js;rw[YW w p.1,Vo ws p.2];rfl
end
mutual
theorem Ga(f:Nat->Option W):∀(w:W),pur w=true->th f w=some w
 |.non,_=>rfl
 |.bl _,_=>rfl
 |.int _,_=>rfl
 |.str _,_=>rfl
 |.ty _,_=>rfl
 |.tup ws,p=>by unfold pur at p;unfold th;rw[Xd f ws p];rfl
 |.lst ws,p=>by unfold pur at p;unfold th;rw[Xd f ws p];rfl
 |.frz ws,p=>by unfold pur at p;unfold th;rw[Xd f ws p];rfl
 |.ref _,p=>by unfold pur at p;cases p
theorem Xd(f:Nat->Option W):∀(ws:List W),Js ws=true->ths f ws=some ws
 |[],_=>rfl
 |w::ws,p=>by
  unfold Js at p;rw[NK]at p;unfold ths;rw[Ga f w p.1,Xd f ws p.2];rfl
end
theorem QC(b:Js ws=true)(e:m ws []=some (w,g))(hw:pur w=true):box frN m ws h=some (w,h):=by
 have hr:Ks 0 ws=some (ws,[]):=by
  generalize 0=k;clear e
  induction ws with
  |nil=>rfl
  |cons a r c=>
   unfold Js at b;rw[NK]at b;have:=c b.2;cases a<;>first|(unfold pur at b;cases b.1;done)|(unfold Ks;rw[if_pos b.1,this];rfl)
 unfold box;rw[hr,Np];unfold Qfw;rw[if_pos EV];simp only[ZL,Np,e,frN,Dh,Oy];rw[if_pos ⟨EV,by simp⟩,Ga _ w hw];simp[QO]
theorem YO(b:Js ws=true)(e:m ws []=some (.ref j,g))(f:g[j]?=some (.lst c))(hu:Js c=true):box frN m ws h=some (.lst c,h):=by
 have hr:Ks 0 ws=some (ws,[]):=by
  generalize 0=k;clear e
  induction ws with
  |nil=>rfl
  |cons a r d=>
   unfold Js at b;rw[NK]at b;have:=d b.2;cases a<;>first|(unfold pur at b;cases b.1;done)|(unfold Ks;rw[if_pos b.1,this];rfl)
 unfold box;rw[hr,Np];unfold Qfw;rw[if_pos EV];simp only[ZL,Np,e,frN,Dh,Oy];rw[if_pos ⟨EV,by simp⟩]
 have:th (res (WD [] [] h.length) g 3) (.ref j)=some (.lst c):=by
  unfold th res;simp only[WD,List.getElem?_nil,List.findIdx?_nil,Option.map_none,f];rw[Xd _ c hu];rfl
 rw[this];simp[QO]
theorem ZT(b:Js ws=true)(s:h[n]?=some o)(q:Qfp o=true)(e:m (.ref 0::ws) [o]=some (w,l::g))(hw:pur w=true)(j:∃c,l=.lst c/\Js c=true):box frN m (.ref n::ws) h=some (w,h.set n l):=by
 obtain⟨c,rfl,d⟩:=j
 have hr:∀k,Ks k ws=some (ws,[]):=by
  clear e
  induction ws with
  |nil=>intro k;rfl
  |cons a r p=>
   intro k;unfold Js at b;rw[NK]at b;have:=p b.2 k;cases a<;>first|(unfold pur at b;cases b.1;done)|(unfold Ks;rw[if_pos b.1,this];rfl)
 unfold box
 have f:Ks 0 (.ref n::ws)=some (.ref 0::ws,[n]):=by
  unfold Ks;rw[hr];rfl
 rw[f,Np];unfold Qfw;rw[if_pos (by simp)];have i:QcG h n=some o:=by unfold QcG;rw[s];simp[q]
 simp only[ZL,i,Np,Oz,e,frN,El];rw[if_pos ⟨EV,by simp⟩,Ga _ w hw];simp[QO,List.range_succ,ZL,thO,Xd _ c d]
theorem U8{os os':List MO}(hr:Ks 0 args=some (as,ns))(hd:ns.Nodup)(t:ZL (QcG h) ns=some os)(e:m as os=some (w,os'++g))(u:os'.length=ns.length)
  (d:∀o∈os',∃a,o=.lst a/\Js a=true) (hw:th (res (WD ns [] h.length) (os'++g) 3) w=some f):box frN m args h=some (f,QO ns os' h):=by
 unfold box;rw[hr,Np];unfold Qfw;rw[if_pos hd,t];simp only[Np,e];rw[if_pos (show(frN w).Nodup/\∀j∈frN w,ns.length<=j from⟨EV,fun j v=>by simp[frN]at v⟩)];show(th (res (WD ns [] h.length) (os'++g) 3) w).bind _=_;rw[hw,Np];show(ZL (fun j=>((os'++g)[j]?).bind (thO (res (WD ns [] h.length) (os'++g) 3))) (List.range ns.length)).bind (fun os=>(ZL (fun j=>((os'++g)[j]?).bind (thO (res (WD ns [] h.length) (os'++g) 3))) []).map fun a=>(f,QO ns os h++a))=_
 have:ZL (fun j=>((os'++g)[j]?).bind (thO (res (WD ns [] h.length) (os'++g) 3))) (List.range ns.length)=some os':=by
  rw[<-u]
  have key:∀(k:Nat) (b:List MO),(∀i o,b[i]?=some o->(os'++g)[k+i]?=some o)->(∀o∈b,∃a,o=.lst a/\Js a=true)->ZL (fun j=>((os'++g)[j]?).bind (thO (res (WD ns [] h.length) (os'++g) 3))) (List.range' k b.length)=some b:=by
   intro k b
   induction b generalizing k with
   |nil=>intro _ _;rfl
   |cons x b q=>
    intro n l;obtain⟨a,hu,s⟩:=l x Nt;rw[NR,List.range'_succ];unfold ZL;have p:=n 0 x rfl;rw[Nat.add_zero]at p;rw[p,Np,q (k+1) (fun i o c=>by have:=n (i+1) o (by simpa using c);rw[show k+1+i=k+(i+1) by exact D5 _ _ _];exact this) fun o r=>l o (Nq _ r),hu];show((ths _ a).map MO.lst).bind _=_;rw[Xd _ a s];rfl
  rw[List.range_eq_range'];exact key 0 os' (fun i o c=>by rw[NX,NT (Nh.mp c).1];exact c) d
 rw[this];simp[ZL]
theorem Go(e:h[n]?=some (.lst a))(b:Js a=true):QcG h n=some (.lst a):=by unfold QcG;rw[e];simp[Qfp,b]
theorem ZC(f:W->W)(c:mi σ h=some (items,none,h))(a:∃o,QdI cp σ=o::caps)(d:∀w∈items,me (some w::caps) h=some (f w,h))(b:items.length<=sizeLine) :
  QN fin mi cp (ZJ 0) VV me σ h=fin (items.map f) h:=by
 obtain⟨o,a⟩:=a;unfold QN;rw[c,Np];simp only[a];rw[VD (p:=fun _=>true) (f:=f) items [] o (fun _ _=>rfl) (fun w hw _=>d w hw) (by simpa using b),LD.mpr (fun _ _=>rfl)];rfl
theorem Uq{mt:MT}{me:ME}{h:MH}(f:W->W)(p:W->Bool)(d:mi σ h=some (items,none,h))(a:∃o,QdI cp σ=o::caps)(b:∀w∈items,mt (some w::caps) h=some (p w,h))(e:∀w∈items,p w=true->me (some w::caps) h=some (f w,h))(c:items.length<=sizeLine) :
  QN fin mi cp (ZJ 0) mt me σ h=fin ((items.filter p).map f) h:=by
 obtain⟨o,a⟩:=a;unfold QN;rw[d,Np];simp only[a];rw[VD (p:=p) (f:=f) items [] o b e (by simpa using c)];simp
theorem GT(P:List l->MSt->MH->Prop)(f:l->W):∀(rest:List W) (a:List l) (e:MSt) (h:MH),P a e h->a.length+rest.length<=sizeLine ->
  (∀w∈rest,∀a e h,P a e h->∃d x i,b w e h=some d/\me d h=some (f x,i)/\P (a++[x]) d i) ->
  ∃c g h',ZB fin items none b VV me rest (a.map f) e h=fin (c.map f) h'/\P c g h'/\c.length=a.length+rest.length
 |[],a,e,h,j,_,_=>⟨a,e,h,by unfold ZB;rw[if_pos (Ze _ _)],j,by simp⟩
 |w::rest,a,e,h,j,t,m=>by
  have s:a.length+(rest.length+1)<=sizeLine:=by simpa using t
  obtain⟨d,x,i,v,u,p⟩:=m w Nt a e h j;obtain⟨c,g,h',n,o,q⟩:=GT (items:=items) (b:=b) (me:=me) (fin:=fin) P f rest (a++[x]) d i p (by simp;lia) fun y r=>m y (Nq _ r);refine⟨c,g,h',?_,o,by rw[q];simp;exact D5 _ _ _⟩;unfold ZB;rw[if_pos (Ze _ _),v,Np];show(some (true,h)).bind _=_;rw[Np];simp only[u,Np];rw[if_pos (by rw[NC];lia)];rw[EJ,NA,Il]at n;exact n
theorem ZS(P:Nat->MSt->MH->Prop):∀(r:List W) (n:Nat) (σ:MSt) (h:MH),P n σ h ->
  (∀(j:Nat) (w:W),r[j]?=some w->∀σ h,P (n+j) σ h->∃c,b w σ h=some c/\∃a f,(body c h=some (.nx a f)\/body c h=some (.ct a f))/\P (n+j+1) a f) ->
  ∃d h',Ky items none b body r σ h=some (.nx d h')/\P (n+r.length) d h'
 |[],n,σ,h,e,_=>⟨σ,h,Qd4,e⟩
 | w::r,n,σ,h,e,i=>by
  obtain⟨c,q,a,f,g,m⟩:=i 0 w rfl σ h e
  obtain⟨d,h',p,l⟩:=ZS (items:=items) (b:=b) (body:=body) P r (n+1) a f m fun j x o σ h e=>by
   have:=i (j+1) x (by simpa using o) σ h (by rw[show n+(j+1)=n+1+j by lia];exact e);rw[show n+(j+1)+1=n+1+j+1 by exact D5 _ _ _]at this;exact this
  refine⟨d,h',?_,by rw[NR,show n+(r.length+1)=n+1+r.length by lia];exact l⟩;rw[Ky,if_pos (Ze _ _),q,Np]
  rcases g with g|g<;>rw[g]<;>exact p
theorem KE(P:Nat->MSt->MH->Prop):∀(n f:Nat) (σ:MSt) (h:MH),n<f->P n σ h ->
  (∀n σ h,P n σ h->(t σ h=some (false,h)/\n=0)\/(t σ h=some (true,h)/\∃m a c,m<n/\(body σ h=some (.nx a c)\/body σ h=some (.ct a c))/\P m a c)) ->
  ∃b h',QF t body f σ h=some (.nx b h')/\P 0 b h'
 |n,0,_,_,p,_,_=>by lia
 | n,f+1,σ,h,p,i,g=>by
  rcases g n σ h i with⟨e,o⟩|⟨e,m,a,c,r,d,l⟩
  ·subst o;exact⟨σ,h,by rw[QF,e];rfl,i⟩
  ·obtain⟨b,h',q,j⟩:=KE P m f a c (by lia) l g;refine⟨b,h',?_,j⟩;rw[QF,e]
   rcases d with d|d<;>simp only[Np,d]<;>exact q
noncomputable def eqS(y:Str)(p:W×MH):Option (Bool×MH):=@ob _ _ asB (wEq p.1 (.str y) p.2)
noncomputable def eqN(j:Int)(p:W×MH):Option (Bool×MH):=@ob _ _ asB (wEq p.1 (.int j) p.2)
@[simp 650]theorem Qk2:Qi (Qf wEq a (mC (.str y))) σ h=@ob _ _ (eqS y) (a σ h):=by
 unfold Qi Qf mC eqS ob;cases a σ h<;>rfl
@[simp 650]theorem Qlw:Qi (Qf wEq a (mC (.int j))) σ h=@ob _ _ (eqN j) (a σ h):=by
 unfold Qi Qf mC eqN ob;cases a σ h<;>rfl
@[simp]theorem QjO:eqS y (.str x,h)=some (x==y,h):=by unfold eqS;rw[Qke];rfl
@[simp]theorem Qjx:eqN j (.int i,h)=some (i==j,h):=by unfold eqN;rw[Qjy];rfl
end Mi
namespace Mi
open L2
noncomputable def Qls(ws:List W)(h:MH):Option (W×MH):=match ws with
 |[.tup ws]=>some (.ref h.length,h++[.lst ws])
 |[a]=>(lsW h a).map fun ws=>(.ref h.length,h++[.lst ws])
 |_=>none
noncomputable def QmE(a:W)(ws:List W)(h:MH):Option (W×MH):=match a,ws with
 |.ref n,[.int 0]=>match h[n]? with|some (.lst (x::b))=>some (x,h.set n (.lst b))|_=>none
 |_,_=>none
theorem QbV{st:List Stmt}:Qcx X st fun _ _=>none:=fun a s c H D I q=>by
 obtain⟨R,b,h,r,d,st,e,k⟩:=q;cases e
section
open PySem.AutoSeq1
theorem G5(l:Addr)(its:Array Value)(n:Nat)(b:Addr)(a:Array Value)(q:Nat)(c:Obj)(t:c.cls=.type "tuple")(hd:c.data=.seq a q)(r:¬(!its.isEmpty&&Builtin.List.listTooLong (its.size+a.size))=true)(i:its.size<=sizeLine)(f:its.size+a.size<=sizeLine+1) :
  Meets (Builtin.«list.extend» ⟨[.ref l,.ref b],[]⟩) (fun _ R s=>s.heap.get? l=some { cls:=.type "list",dict:=none,data:=.seq its n,slots:=#[] }/\s.heap.get? b=some c /\
   R (.ok (.ret Value.none)) { s with heap:=s.heap.update l (Obj.mapSeq fun x=>x++a),toks:=s.toks }):=
 .of_wp fun j w A R s h=>by
  obtain⟨G,E,v,p⟩:=c;subst t hd;obtain⟨z,g,d,tk,os⟩:=s;obtain⟨m,u,h⟩:=h;have f1:=idx_int;have f2:=AutoSeq1.sub_tuple_tuple;have D:=AutoSeq1.sub_list_list;have C:=AutoSeq1.sub_tuple_list;have B:=AutoSeq1.sub_list_tuple;have e:(its++a).size<=sizeLine+1:=by rw[Array.size_append];exact f
  wp_walk using(Dy m rfl (hz:=i) (_hz':=e)),EZ m,EZ u
  exact⟨_,rfl,h⟩
end
section
variable{X:Cx}
theorem Qae:MtM X "list.extend" (fun x i H Q=>∃l b xs g,x=.ref l/\i=[.ref b]/\H l=some (.lst xs)/\SqT X.K H b g/\xs.length+g.length<=sizeLine/\Q .non (upd H l (.lst (xs++g)))):=by
 intro m s N H x i v O Q I w y h;obtain⟨l,b,xs,g,rfl,rfl,t,L,D,q⟩:=h;cases w;obtain⟨u,rfl,A⟩:=y.one;cases A;obtain⟨z,c,n,r,G,e⟩:=I.lstM t;obtain⟨a,j,⟨B,M,J,C,hd⟩,E⟩:=I.tuple L;have p:=j.length;have f:c.toArray.size+a.toArray.size<=sizeLine:=by rw[Nj,Nj];lia
 have d:¬(!c.toArray.isEmpty&&Builtin.List.listTooLong (c.toArray.size+a.toArray.size))=true:=by
  rw[GD f,E7];exact NZ
 refine Fy EO ⟨_,e,rfl⟩ LC (Lj _ _)
  (G5 l c.toArray n b a.toArray C B J hd d (by rw[Nj];exact Nl (Nr G.symm) z) (Nl f (Nv _ _))) ⟨e,M,?_⟩
 refine⟨.non,_,I.lset (its':=c++a) t e (by simp) (r.append j) ?_,rfl,q⟩;rw[Ny];exact D
noncomputable def XB(a:W)(ws:List W)(h:MH):Option (W×MH):=match a,ws with
 |.ref n,[.tup b]=>match h[n]? with|some (.lst c)=>if c.length+b.length<=sizeLine then some (.non,h.set n (.lst (c++b)))else none|_=>none
 |_,_=>none
theorem KJ:Qem X "list.extend" XB:=by
 intro b s j H x o v p Q I t u q;refine Qae b s j H x o v p Q I t u ?_;obtain⟨R,h,a,L,w,M,d,z,c,e,k⟩:=q;unfold XB at e;split at e
 ·rename_i n G;split at e
  ·rename_i J A;split at e
   ·rename_i B;cases e;obtain⟨f,rfl,m,D,i⟩:=d.refAt z A;obtain⟨y,rfl,r⟩:=UF c;obtain⟨E,l,rfl,C,g⟩:=d.tupAt r;refine⟨_,E,m,l,rfl,rfl,D,C,by rw[<-i.length,<-g.length];exact B,?_⟩;exact k R _ _ (Ext.refl _) (d.put f ⟨_,rfl,Rws.append i g⟩) Rw.non
   ·cases e
  ·cases e
 ·cases e
@[simp]theorem Qhs:XB (.ref n) [.tup a] h=match h[n]? with|some (.lst xs)=>if xs.length+a.length<=sizeLine then some (.non,h.set n (.lst (xs++a)))else none|_=>none:=id rfl
end
end Mi
namespace L2
section
variable{X:Cx}{pins:List (Addr×Obj)}{σ:St}{H:Hp}{s:Shared}{h':Heap}{t':Nat}{ch:List Addr}
theorem Inv.turnedL(I:Inv X pins σ H s)(k:∀b o,b∉ch->s.heap.get? b=some o->h'.get? b=some o)(f:∀b∈ch,Qaz X pins H b)(d:∀b u,H b=some u->i b=some u)(x:∀b o,s.heap.get? b=some o->H b=none->i b=none)
  (new:∀b u,H b=none->i b=some u->ObjOk X.prog X.w i h' b u):Inv X pins σ i { s with heap:=h',toks:=t' }:=by
 have g:∀b u,H b=some u->b∉ch:=fun b u e z=>by rw[(f b z).1]at e;cases e
 refine I.step (g':=s.gens) (d':=s.drawn) (ch:=ch) (fun b h=>⟨(f b h).2.2.2.1,(f b h).2.1,(f b h).2.2.2.2.1,(f b h).2.2.2.2.2⟩) (fun b o _ _ a e _=>k b o a e) (fun b o _ _ a e _=>⟨o.slots,k b o a e⟩) (fun b o _ e n=>x b o e n)
  (fun b o a e=>⟨o,k b o a e⟩) (fun b j e=>d b _ e) (fun b o u e=>d b _ e) (fun b ps e=>⟨#[],by rw[d b _ e];simp⟩) (fun m y=>?_) (fun b u e=>?_) I.bare
 ·obtain⟨o,A,B,t,r⟩:=y;exact⟨o,A,B,k _ o (fun z=>(f _ z).2.1 rfl) t,r⟩
 ·cases q:H b with
  |none=>exact new b u q e
  |some l=>
   rw[d b l q]at e;cases e;refine(I.hok b _ q).stay (fun c v a p=>k c v ?_ p) (fun c z=>d c _ z) fun c j z=>d c _ z
   rcases a with z|z
   ·rw[z];exact g b _ q
   ·exact g c _ z
theorem Inv.turnedN(I:Inv X pins σ H s)(k:∀b o,b∉ch->s.heap.get? b=some o->h'.get? b=some o)(d:∀b∈ch,Qaz X pins H b)(a:s.heap.objs.size<=T)(new:ObjOk X.prog X.w (upd H T (.tup xs)) h' T (.tup xs)) :
  Inv X pins σ (upd H T (.tup xs)) { s with heap:=h',toks:=t' }:=by
 have c:=I.hok.fresh a;refine I.turnedL k d (fun b u e=>by rw[Qo (Ji e c)];exact e) (fun b o e n=>by rw[Qo (fun z=>by rw[z]at e;exact absurd (Nu e) (NQ.mpr a))];exact n) fun b u n e=>?_
 by_cases z:b=T
 ·subst z;rw[Jf]at e;cases e;exact new
 ·rw[Qo z,n]at e;cases e
end
end L2
namespace St
theorem K0(t:SetTable)(n:Nat):(t.orStandIn n).led=t.led/\(t.plain=false->(t.orStandIn n).plain=false):=by
 unfold SetTable.orStandIn;split
 ·exact⟨rfl,id⟩
 ·exact⟨rfl,fun _=>rfl⟩
theorem UV(t:SetTable)(es:Array (Int×Value))(g:Int)(x:Value):(layNew t es g x).2.1.led=t.led/\(t.plain=false->(layNew t es g x).2.1.plain=false):=by
 unfold layNew;split
 ·exact K0 _ _
 ·exact⟨rfl,fun _=>rfl⟩
theorem QcA(e:SetTable.laid m f v l p b=some r):r.1.led=l/\r.1.plain=p:=by
 unfold SetTable.laid at e;obtain⟨o,_,a⟩:=Nc.mp e;cases a;exact⟨rfl,rfl⟩
theorem Y2(t:SetTable)(es:Array (Int×Value))(n:Nat):(relayAll t es n).2.1.led=t.led/\(t.plain=false->(relayAll t es n).2.1.plain=false):=by
 unfold relayAll;split
 ·rename_i c d e;have a:=QcA e;dsimp only;split
  ·exact⟨a.1,fun b=>a.2.trans b⟩
  ·exact⟨rfl,fun _=>rfl⟩
 ·exact⟨rfl,fun _=>rfl⟩
section
variable{prog:Program}{w:World}{A:Around}{E:Value->Shared->Prop}{s:Shared}
def SetL(prog:Program)(w:World)(h:Heap)(a:Addr)(ks:List Str)(led:Bool):Prop:=
 ∃o b c t,h.get? a=some o/\o.ExactSet/\o.data=.set b c t/\ElemsOf (strKind prog w) b.toList/\b.size<scanBound/\t.fits b.size=true/\t.led=led/\(b.size=0\/t.plain=false)/\ks.Nodup/\b.size=ks.length/\∀k,k∈ks↔∃e∈b.toList,(strKind prog w).is k e.2=true
theorem SetL.at{h h':Heap}{a:Addr}{ks:List Str}{led:Bool}(x:SetL prog w h a ks led)(e:∀o,h.get? a=some o->h'.get? a=some o):SetL prog w h' a ks led:=by obtain⟨o,c,d,t,b,r⟩:=x;exact⟨o,c,d,t,e _ b,r⟩
theorem SetL.lt{h:Heap}{a:Addr}{ks:List Str}{led:Bool}(x:SetL prog w h a ks led):a<h.objs.size:=by obtain⟨_,_,_,_,b,_⟩:=x;exact Nu b
theorem SetL.typeIs{a:Addr}{ks:List Str}{led:Bool}(x:SetL prog w s.heap a ks led):s.TypeIs (.ref a) "set":=by obtain⟨o,_,_,_,c,b,_⟩:=x;exact⟨o,c,b.1⟩
theorem stored{h:Heap}{o:Obj}(f:h.get? a=some o)(d:o.ExactSet)(hd:o.data=.set es q t)(p:ElemsOf (strKind prog w) es'.toList)(n:es'.size<scanBound)(m:t'.fits es'.size=true)(l:es'.size=0\/t'.plain=false)(j:ks.Nodup)(i:es'.size=ks.length)(g:∀k,k∈ks↔∃e∈es'.toList,(strKind prog w).is k e.2=true) :
  (h.update a (Obj.putSet es' t')).get? a=some (Obj.putSet es' t' o)/\(Obj.putSet es' t' o).ExactSet/\(∃b,(Obj.putSet es' t' o).data=.set es' b t')/\SetL prog w (h.update a (Obj.putSet es' t')) a ks t'.led:=by
 have g1:(h.update a (Obj.putSet es' t')).get? a=some (Obj.putSet es' t' o):=NU _ f (by rw[putSet_of es' t' hd];rfl);have g2:(Obj.putSet es' t' o).ExactSet:=by rw[putSet_of es' t' hd];exact d
 have g3:∃b,(Obj.putSet es' t' o).data=.set es' b t':=by rw[putSet_of es' t' hd];exact⟨_,rfl⟩
 obtain⟨b,c⟩:=g3;exact⟨g1,g2,⟨b,c⟩,_,es',b,t',g1,g2,c,p,n,m,rfl,l,j,i,g⟩
theorem G0(x:Str)(c:Tok):(strKind prog w).is x (.str x c)=true:=by
 show Value.isStrOf x (.str x c)=true;simp[Value.isStrOf]
theorem QkO{a:Addr}{ks:List Str}{led:Bool}{x:Str}{c:Tok}{Q:Bool->Shared->Prop}(hS:SetL prog w s.heap a ks led)(room:ks.length+1<scanBound)
  (h:∀b h',Heap.SameBut a s.heap h'->SetL prog w h' a (if x∈ks then ks else ks++[x]) led->Q b { s with heap:=h' }) :
  wpAny (model prog w) A (setAddHashed a (.str x c) ((strKind prog w).hash x)) Q E s:=by
 obtain⟨o,J,ep,t,T,hx,hd,y,hb,hf,m,aa,U,hn,i⟩:=hS;have hk:(strKind prog w).is x (.str x c)=true:=G0 x c;have H:(Value.str x c).scannable=true:=rfl;have quiet:∀(b:Bool) {B:Shared} {D:Unit->Shared->Prop},D () B->wpAny (model prog w) A (match b with|true=>rule "set.scan.the-table-gave-way"|false=>pure ()) D E B:=fun b _ _ q=>by cases b<;>first|exact Ng q|exact Dw q
 unfold setAddHashed setAddHashedIn;refine Ek (Na (NJ T hd hf ?_));dsimp only;rw[byScan_of H hb y,if_pos rfl];unfold setAddByScan;refine Na (Na (Dw (Na (wpAny_setScan_of hk T hd hf y ?_))));cases hr:List.findIdx? (fun e=>(strKind prog w).is x e.2) J.toList with
 |some j=>
  obtain⟨hj,pj,_⟩:=NW.mp hr;have f:x∈ks:=(i x).mpr ⟨J.toList[j],Io hj,pj⟩;refine Ng (Ng ?_);have q:=h false s.heap (DC a s.heap) ⟨o,J,ep,t,T,hx,hd,y,hb,hf,m,aa,by rw[if_pos f];exact U,by rw[if_pos f];exact hn,by rw[if_pos f];exact i⟩;exact q
 | none=>
  have f:x∉ks:=fun f=>by
   obtain⟨e,z,p⟩:=(i x).mp f;have:=DY.mp hr e z;rw[p]at this;cases this
  rw[if_neg f]at h;have pm:=layNew_perm t J ((strKind prog w).hash x) (.str x c);have ft:=layNew_fits t J ((strKind prog w).hash x) (.str x c);have kp:=UV t J ((strKind prog w).hash x) (.str x c);dsimp only;generalize layNew t J ((strKind prog w).hash x) (.str x c)=L at pm ft kp ⊢;obtain⟨d,t1,ab,gv⟩:=L;dsimp only at pm ft kp ⊢;rw[L6]at pm;have Z:ElemsOf (strKind prog w) d.toList:=(y.push hk H).perm pm;have G:d.size=(ks++[x]).length:=by rw[<-ND,pm.length_eq,Ny,ND,Ny,hn];rfl
  have b1:d.size<scanBound:=by rw[G,Ny,El];exact room
  have S:(ks++[x]).Nodup:=by
   rw[F3];exact⟨U,by simp,fun u hu v hv e=>f (by rw[NO.mp hv]at e;rw[<-e];exact hu)⟩
  have C:∀k,k∈ks++[x]↔∃e∈d.toList,(strKind prog w).is k e.2=true:=fun k=>by
   rw[Eo,NO,i k];constructor
   ·rintro(⟨e,z,p⟩|rfl)
    ·exact⟨e,pm.mem_iff.mpr (NS _ z),p⟩
    ·exact⟨_,pm.mem_iff.mpr (NI _ (NO.mpr rfl)),hk⟩
   ·rintro⟨e,z,p⟩
    rcases Eo.mp (pm.mem_iff.mp z)with q|q
    ·exact .inl ⟨e,q,p⟩
    ·rw[NO.mp q]at p;exact .inr ((strKind prog w).inj _ _ _ p hk)
  have fin:∀(g:SetTable),g.fits d.size=true->g.led=led->g.plain=false->wpAny (model prog w) A (do
    storeSet a d g
    if(!ab&&g.tooFull)=true then do
      (match (relayAll g d (SetTable.grown d.size)).2.2 with|true=>rule "set.scan.the-table-gave-way"|false=>pure ())
      storeSet a (relayAll g d (SetTable.grown d.size)).1 (relayAll g d (SetTable.grown d.size)).2.1
      pure (some true)
     else pure (some true)) (fun r O=>∃v,r=some v/\∃h',Heap.SameBut a s.heap h'/\SetL prog w h' a (ks++[x]) led/\O={ s with heap:=h' }) E s:=by
   intro g f2 l2 p2;refine Na (Ff T hd ?_ (F4 b1));obtain⟨g1,g2,⟨af,g3⟩,g4⟩:=stored (prog:=prog) (w:=w) T hx hd Z b1 f2 (.inr p2) S G C;rw[l2]at g4;have sb:=NP s.heap a (Obj.putSet d g);split
   ·have l:=relayAll_perm g d (SetTable.grown d.size);have I:=relayAll_fits g d (SetTable.grown d.size);have n:=Y2 g d (SetTable.grown d.size);generalize relayAll g d (SetTable.grown d.size)=R at l I n ⊢;obtain⟨Y,t3,ae⟩:=R;dsimp only at l I n ⊢;have N:Y.size=d.size:=by rw[<-ND,l.length_eq,ND]
    have b2:Y.size<scanBound:=by rw[N];exact b1
    refine Na (quiet _ (Na (Ff g1 g3 (Ng ⟨true,rfl,_,sb.trans (NP _ a _),?_,rfl⟩) (F4 b2))));obtain⟨_,_,_,g5⟩:=stored (prog:=prog) (w:=w) (ks:=ks++[x]) g1 g2 g3 (Z.perm l) b2 I (.inr (n.2 p2)) S (N.trans G) (fun k=>(C k).trans ⟨fun⟨e,z,q⟩=>⟨e,l.mem_iff.mpr z,q⟩,fun⟨e,z,q⟩=>⟨e,l.mem_iff.mp z,q⟩⟩);rw[n.1,l2]at g5;exact g5
   ·exact Ng ⟨true,rfl,_,sb,g4,rfl⟩
  have P:∀r O,(∃v,r=some v/\∃h',Heap.SameBut a s.heap h'/\SetL prog w h' a (ks++[x]) led/\O={ s with heap:=h' })->wpAny (model prog w) A (match r with|some M=>pure M|none=>setAddHashedIn a (.str x c) ((strKind prog w).hash x) 99999) Q E O:=by
   rintro r O ⟨v,rfl,h',q1,q2,rfl⟩
   exact Ng (h v h' q1 q2)
  refine Na (quiet _ ?_);cases hp:t1.plain with
  |true=>
   rw[if_pos rfl,hashByValue_scannable 8 H];refine Na (Ng ?_);exact N0 (fin { t1 with plain:=false } (SetTable.fits_plain_off ft) (kp.1.trans m) rfl) P fun _ _ q=>q
  |false=>
   rw[if_neg (by simp)];refine Na (Ng ?_);exact N0 (fin t1 ft (kp.1.trans m) hp) P fun _ _ q=>q
end
noncomputable def uniq(l:List Str):List Str:=l.foldl (fun u x=>if x∈u then u else u++[x]) []
theorem uniq_snoc(l:List Str)(x:Str):uniq (l++[x])=if x∈uniq l then uniq l else uniq l++[x]:=by unfold uniq;rw[List.foldl_append];rfl
theorem QdF:∀(n:Nat) (l:List Str),l.length=n->(uniq l).length<=n:=by
 intro n
 induction n with
 |zero=>intro l h;rw[NM.mp h];exact Nx _
 |succ n a=>
  intro l h;obtain⟨u,x,rfl⟩:∃u x,l=u++[x]:=⟨l.dropLast,l.getLast (fun z=>by rw[z]at h;cases h),(E8 _).symm⟩
  rw[uniq_snoc];have:=a u (by simp at h;exact h);split
  ·exact Nl this (Nv _ _)
  ·rw[Ny,El];exact Nat.add_le_add_right this _
theorem uniq_mem:∀(n:Nat) (l:List Str),l.length=n->∀y,y∈uniq l↔y∈l:=by
 intro n
 induction n with
 |zero=>intro l h y;rw[NM.mp h];exact Iff.rfl
 |succ n a=>
  intro l h y;obtain⟨u,x,rfl⟩:∃u x,l=u++[x]:=⟨l.dropLast,l.getLast (fun z=>by rw[z]at h;cases h),(E8 _).symm⟩
  have q:=a u (by simp at h;exact h);rw[uniq_snoc,Eo,NO];split
  ·rename_i b;rw[q y];exact⟨.inl,fun z=>z.elim id fun e=>by rw[e];exact(q x).mp b⟩
  ·rw[Eo,NO,q y]
section
variable{prog:Program}{w:World}{A:Around}{R:Result->Shared->Prop}{I:Addr}{fp wr:List Addr}{G:Array GenState->Array GenState->Prop}{n:Nat}{P:Nat->Value->Prop}{St':Nat->Shared->Prop}
theorem Qkb(W:WalksS prog w A.in1 I fp wr G n P St')(S:Addr)(f:S∉fp)(led:Bool)(l:List Str)(J:l.length=n)(H:∀i v,P i v->∃x c,l[i]?=some x/\v=.str x c)(Q:n+1<scanBound) :
  ∀(k i:Nat) (s:Shared),n-i=k->i<=n->St' i s->SetL prog w s.heap S (uniq (l.take i)) led ->
   (∀a,Moved (S::wr) G s a->SetL prog w a.heap S (uniq l) led->R (.ok (.ret .none)) a) ->
   codeAny (model prog w) A (.builtin "set.update.loop" ⟨[.ref S,.ref I],[]⟩) R s:=by
 have C:S∉wr:=fun z=>f (W.sub _ z);have sub:∀b∈wr,b∈S::wr:=fun b z=>Nq _ z;intro k
 induction k with
 |zero=>
  intro i s L M st g u;obtain rfl:i=n:=by lia
  refine Dz Iy ?_;rw[DO Fb _];show wpAny _ A.in1 (pyNext (.ref I)>>=_) _ _ s;refine Na (W.done s _ _ st fun a d=>Ng (u a (d.mono sub) ?_));rw[IR (Nr J)]at g;exact g.at fun o e=>d.heap S _ C e
 | succ k D=>
  intro i s L M st g u;have lt:i<n:=by lia
  refine Dz Iy ?_;rw[DO Fb _];show wpAny _ A.in1 (pyNext (.ref I)>>=_) _ _ s;refine Na (W.item i s _ _ lt st fun v a N h d=>?_);obtain⟨x,c,E,rfl⟩:=H i v N;have t:SetL prog w a.heap S (uniq (l.take i)) led:=g.at fun o e=>d.heap S _ C e;show wpAny _ A.in1 (holding [Value.str x c] (setAdd S (.str x c))>>=_) _ _ a;refine Na (Ek ?_);unfold setAdd;refine Ek (Na ((strKind prog w).pyHash (k:=x) (G0 x c) ?_))
  have room:(uniq (l.take i)).length+1<scanBound:=by
   have:=QdF _ (l.take i) rfl;rw[DN]at this;lia
  refine QkO (s:={ a with toks:=a.toks+1 }) t room fun b O B r=>?_
  have p:SetL prog w O S (uniq (l.take (i+1))) led:=by
   rw[E5,E,Option.toList_some,uniq_snoc];exact r
  refine Ng ⟨DT Fb _,D (i+1) _ (by lia) lt (W.frame _ a _ _ h (FO _) fun b z o e=>?_) p fun j m q=>?_⟩
  ·exact(B.2 b (fun y:b=S=>f (by rw[<-y];exact z))).trans e
  ·refine u j (Moved.trans W.gtrans ((d.mono sub).then_heap (FO _) fun b o z e=>?_) m) q;exact(B.2 b (fun y:b=S=>z (by rw[y];exact Nt))).trans e
end
section
variable{prog:Program}{w:World}{A:Around}{E:Value->Shared->Prop}{s:Shared}
noncomputable abbrev ledW(w:World):Bool:=!(w.params.followText "set-order")
noncomputable abbrev Qp(b:Bool):Obj:={ cls:=.type "set",dict:=none,data:=.set #[] 0 (.fresh 0 0 b) }
theorem Qnl(a:Value)(h:Q₁ (.ref s.heap.objs.size) { s with heap:=s.heap.push (Qp (ledW w)) }) :
  codeAny (model prog w) A (.call (.builtin "set.__new__") ⟨[.type "set",a],[]⟩) (wants Q₁ E) s:=by
 refine codeAny_of_tree (show wpAny _ A.in1 (do checkBuiltinCall "set.__new__" ⟨[.type "set",a],[]⟩;again (.builtin "set.__new__" ⟨[.type "set",a],[]⟩)) _ _ s from ?_);refine Na (Ez (F.newCall_set_1 a) (Ng ⟨DT OA _,Dz (F.entry_set_new) ?_⟩));rw[DO OA _];unfold Builtin.«set.__new__» Builtin.Frozenset.newClass;have b:=LR;obtain⟨c,g,d,tk,os⟩:=s;dsimp only
 wp_walk
 refine Et (Ng ?_);dsimp only;simp only[newObj];exact Na (wpAny_alloc (Ng (Ng h)))
theorem Ym(e:h.get? a=some (Qp b)):SetL prog w h a [] b:=
 ⟨_,#[],0,_,e,⟨rfl,rfl,rfl⟩,rfl,fun x c=>by simp at c,by decide,rfl,rfl,.inl rfl,EV,rfl,fun k=>by simp⟩
theorem Qj9{Q:Value->Shared->Prop}(P:A.handled=none)(O:s.heap.IsList l items)(D:StrsAre items.toList ss)(R:items.size+1<scanBound)
  (h:∀(h':Heap) (tk:Nat),SetL prog w h' s.heap.objs.size (uniq ss) (ledW w)->(∀b o,b<s.heap.objs.size->s.heap.get? b=some o->h'.get? b=some o)->Q (.ref s.heap.objs.size) { s with heap:=h',toks:=tk }) :
  wpAny (model prog w) A (Builtin.«set.__init__» ⟨[.ref s.heap.objs.size,.ref l],[]⟩) (fun fin u=>fin=.done (.ret .none)/\Q (.ref s.heap.objs.size) u) E { s with heap:=s.heap.push (Qp (ledW w)) }:=by
 have J:(s.heap.push (Qp (ledW w))).get? s.heap.objs.size=some (Qp (ledW w)):=Nw _ rfl;have hT:Shared.TypeIs { s with heap:=s.heap.push (Qp (ledW w)) } (.ref s.heap.objs.size) "set":=⟨_,J,rfl⟩
 obtain⟨ol,j,q,nl,p⟩:=O;obtain⟨I,f,z,a⟩:=ol;simp only at q p;subst q p;have g:(s.heap.push (Qp (ledW w))).get? l=some { cls:=.type "list",dict:=f,data:=.seq items nl,slots:=a }:=Nk _ j;have n:(s.heap.push (Qp (ledW w))).IsList l items:=⟨_,g,rfl,nl,rfl⟩
 have n1:=F.sub_list_set;have n2:=F.sub_list_frozenset;have n3:(Value.type "list"==Value.type "dict")=false:=by decide
 unfold Builtin.«set.__init__» noKeywords Builtin.Frozenset.updateFrom;generalize H:pyIter=PI
 wp_walk
 subst H;refine FZ n (Na (wpAny_runValue ?_));have m:l<s.heap.objs.size:=Nu j;have d:(s.heap.push (Qp (ledW w))).objs.size=s.heap.objs.size+1:=D7 _ _;have B:l≠(s.heap.push (Qp (ledW w))).objs.size:=by rw[d];exact NG (Fg m)
 have M:s.heap.objs.size∉[(s.heap.push (Qp (ledW w))).objs.size,l]:=by
  rw[d];simp only[NH,EF,or_false,not_or];exact⟨NG (Eg _),Db m⟩
 have C:ss.length=items.size:=by have:=FJ D;rw[ND]at this;exact this.symm
 have N:∀(i:Nat) (v:Value),items[i]?=some v->∃x c,ss[i]?=some x/\v=.str x c:=fun i v e=>by
  have L:items.toList[i]?=some v:=by rw[N7];exact e
  obtain⟨x,c,rfl⟩:=D.all v (NE.mpr ⟨i,L⟩);refine⟨x,c,?_,rfl⟩;rw[<-D.strs,Nz,L];rfl
 refine Qkb ((Walks.list (show A.in1.handled=none by simp[P]) _ l B items).toS) s.heap.objs.size M (ledW w) ss C N R (items.size-0) 0 _ rfl (NY _) ⟨⟨_,Nw _ rfl,rfl,rfl⟩,n.push _⟩ (Ym (Nk _ J)) fun u r G=>?_;obtain⟨h',S,Z,t,y⟩:=u;have U:S=s.gens:=r.gens;have Y:Z=s.drawn:=r.drawn;have T:y=s.os:=r.os;subst U Y T;refine Ng (Ng ⟨rfl,h h' t G fun b o lt e=>?_⟩);refine r.heap b o ?_ (Nk _ (Nk _ e));simp only[NH,EF,or_false,not_or];exact⟨NG lt,by rw[d];exact NG (Fg lt)⟩
theorem set_list(v:A.handled=none)(t:s.heap.IsList l items)(u:StrsAre items.toList ss)(x:items.size+1<scanBound)
  (h:∀(h':Heap) (tk:Nat),SetL prog w h' s.heap.objs.size (uniq ss) (ledW w)->(∀b o,b<s.heap.objs.size->s.heap.get? b=some o->h'.get? b=some o)->Q (.ref s.heap.objs.size) { s with heap:=h',toks:=tk }) :
  wpAny (model prog w) A (call (.type "set") [.ref l]) Q E s:=by
 have body:∀(j:Around),j.handled=none->wpAny (model prog w) j (Builtin.«set.__init__» ⟨[.ref s.heap.objs.size,.ref l],[]⟩) (fun fin m=>fin=.done (.ret .none)/\Q (.ref s.heap.objs.size) m) E { s with heap:=s.heap.push (Qp (ledW w)) }:=by
  intro j B;exact Qj9 B t u x h
 obtain⟨c,C,n⟩:=Dl.mro;have M:=Dl.made;have L:=Dl.sub;refine wpAny_call (codeAny_of_tree (show wpAny _ _ (callAny (.type "set") _) _ _ _ from ?_));refine Ng ⟨LS _ (by decide +kernel),Dz (F.entry_type_call) ?_⟩;rw[Around.under_plain (weight_type_call_type "set" [Value.ref l] []) rfl];have J:=Dl.notType;have I:=Dl.canCreate;have H:=F.typeCall_set_1 (Value.ref l)
 repeat (any_goals (first|assumption|wp_step))
 refine D0 (Qnl (Value.ref l) (E:=E) (Q₁:=fun obj f=>obj=.ref s.heap.objs.size/\f={ s with heap:=s.heap.push (Qp (ledW w)) }) ⟨rfl,rfl⟩) fun r f hr=>?_;cases r with
 |error e=>exact hr
 | ok fl=>
  cases fl with
  | ret obj=>
   obtain⟨rfl,rfl⟩:=hr;have z:(s.heap.push (Qp (ledW w))).get? s.heap.objs.size=some (Qp (ledW w)):=Nw _ rfl;have y:Shared.TypeIs { s with heap:=s.heap.push (Qp (ledW w)) } (.ref s.heap.objs.size) "set":=⟨_,z,rfl⟩
   have G:=Dl.init.lookup;have D:=Dl.init.bind (.ref s.heap.objs.size)
   repeat (any_goals (first|assumption|wp_step))
   refine D0 (codeAny_call_builtin (R:=wants (fun r d=>r=.none/\Q (.ref s.heap.objs.size) d) E) Dl.init.plain F.entry_set_init (check_set_init_1 y (N0 (body _ (by simp[v])) (fun fin m q=>?_) fun _ _ q=>q))) fun i d a=>?_
   ·obtain⟨rfl,q⟩:=q;exact⟨rfl,q⟩
   ·cases i with
    |error e=>exact a
    | ok g=>
     cases g with
     |ret r=>
      obtain⟨rfl,q⟩:=a
      repeat (any_goals (first|assumption|wp_step))
     |_=>exact a.elim
  |_=>exact hr.elim
end
theorem slotN:Slot "set_iterator" "__next__" "set_iterator.__next__":=.of (owner:="set_iterator") (n:="__next__") (by rw[EK,Ec];kernel_rfl) (by decide +kernel) (by decide +kernel) (by decide +kernel) (by first|exact .inl (by decide +kernel)|exact .inr (by decide +kernel)) (by rw[EG];kernel_rfl)
theorem Qd9:entryFor table "set_iterator.__next__"=some Builtin.«set_iterator.__next__»:=Ip (by kernel_rfl)
theorem QgQ(a:Value):argsOk "set_iterator.__next__" ⟨[a],[]⟩:=by unfold argsOk;kernel_rfl
theorem QhB:entryFor table "set.__iter__"=some Builtin.«frozenset.__iter__»:=FK (id':="frozenset.__iter__") (by kernel_rfl) rfl (by decide +kernel) (by kernel_rfl)
theorem Yz(lt:j<l.length):List.Perm (l[j]::l.eraseIdx j) l:=by
 rw[List.eraseIdx_eq_take_drop_succ];have e:l=l.take j++l[j]::l.drop (j+1):=by rw[<-Ei lt,Em]
 conv=>rhs;rw[e]
 exact List.perm_middle.symm
theorem QbN(nx:Nat->Nat):∀(f k:Nat) (l:List a) (o:Array a),f=l.length->List.Perm (pickOrder.go nx f k l o).toList (o.toList++l)
 |0,k,l,o,h=>by
  rw[NM.mp h.symm,EI];exact .rfl
 |f+1,k,l,o,h=>by
  unfold pickOrder.go;have lt:nx k%l.length<l.length:=Ic _ (Nn (DG _) (Nr h));generalize nx k%l.length=j at lt;rw[Ni lt];refine(QbN nx f (k+1) (l.eraseIdx j) (o.push l[j]) (by rw[FU lt];lia)).trans ?_;rw[L6,DD,List.singleton_append];exact List.Perm.append_left _ (Yz lt)
theorem Uk(nx:Nat->Nat)(xs:Array a):List.Perm (pickOrder nx xs).toList xs.toList:=by
 have:=QbN nx xs.size 0 xs.toList #[] (by simp);simpa[pickOrder]using this
section
variable{prog:Program}{w:World}{A:Around}{E:Value->Shared->Prop}{s:Shared}
theorem Qg5(b:n≠0)(h:∀j d,j<n->Q j { s with drawn:=d }):wpAny M A (choose a n) Q E s:=fun c p _=>by
 show Sem.wp M c (.choose a n fun i=>pure i) _ _ p s;rw[Sem.wp_choose];exact⟨b,h _ _ (Ic _ (Nat.pos_of_ne_zero b))⟩
theorem KP:∀(n:Nat) (xs:List c) (s:Shared) (Q:List c->Shared->Prop),n=xs.length->(∀b d,List.Perm b xs->Q b { s with drawn:=d })->wpAny (model prog w) A (drawOrder n xs) Q E s
 |0,xs,s,Q,a,h=>by
  have e:=NM.mp a.symm;subst e;exact Ng (h [] s.drawn .rfl)
 |n+1,[],s,Q,a,h=>by cases a
 |n+1,x::xs,s,Q,a,h=>by
  unfold drawOrder;refine Na (Qg5 (by simp) fun j f lt=>?_);rw[Ni lt];refine Na (KP n _ _ _ (by rw[FU lt];simp at a ⊢;exact a) fun b d p=>Ng (h _ d ?_));exact(p.cons _).trans (Yz lt)
end
end St
namespace Sb
open PySem SetTable
noncomputable abbrev At(xs:Array Nat)(i:Nat):Nat:=xs.getD i 0
def Up(xs:Array Nat):Prop:=∀i j,i<j->j<xs.size->At xs i<At xs j
theorem We(up:Up xs):∀(f lo c:Nat),c-lo<=f->lo<=c->c<=xs.size->(∀i,i<lo->At xs i<j)->(∀i,c<=i->i<xs.size->j<=At xs i) ->
  below.go xs j f lo c<=xs.size/\(∀i,i<below.go xs j f lo c->At xs i<j)/\∀i,below.go xs j f lo c<=i->i<xs.size->j<=At xs i
 |0,lo,c,s,q,m,l,h=>by
  have:lo=c:=by lia
  subst this;exact⟨m,l,h⟩
 | f+1,lo,c,s,q,m,l,h=>by
  unfold below.go
  by_cases d:lo<c
  ·rw[if_pos d];have p:(lo+c)/2<xs.size:=by lia
   have e:xs.getD ((lo+c)/2) j=At xs ((lo+c)/2):=by simp[Array.getD,p]
   have rel:∀a b,a<=b->b<xs.size->At xs a<=At xs b:=fun a b o n=>by
    rcases DH a b with z|z
    ·exact NB (up a b z n)
    ·rw[show a=b by exact DW o z];exact Nx _
   dsimp only;rw[e]
   by_cases g:At xs ((lo+c)/2)<j
   ·rw[if_pos g];exact We up f _ c (by omega) (by lia) m (fun i r=>No (rel i _ (by lia) p) g) h
   ·rw[if_neg g];exact We up f lo _ (by omega) (by lia) (NB p) l (fun i o n=>Nl (NQ.mp g) (rel _ i o n))
  ·rw[if_neg d];have:lo=c:=by exact DW q (NQ.mp d)
   subst this;exact⟨m,l,h⟩
theorem GE(up:Up xs)(j:Nat):below xs j<=xs.size/\(∀i,i<below xs j->At xs i<j)/\∀i,below xs j<=i->i<xs.size->j<=At xs i:=
 We up xs.size 0 xs.size (Da _ _) (NY _) (Nx _) (fun i h=>absurd h (Dx _)) (fun i b a=>by omega)
theorem below_next(up:Up xs)(a:i<xs.size):below xs (At xs i+1)=i+1:=by
 obtain⟨d,c,b⟩:=GE up (At xs i+1)
 rcases Nat.lt_trichotomy (below xs (At xs i+1)) (i+1)with z|z|z
 ·have:=b i (by omega) a;lia
 ·exact z
 ·have:=c (i+1) z;have:=up i (i+1) (Eg _) (Nn z d);omega
theorem below_zero(up:Up xs):below xs 0=0:=by
 obtain⟨c,a,b⟩:=GE up 0
 rcases Nat.eq_zero_or_pos (below xs 0)with z|z
 ·exact z
 ·exact absurd (a 0 z) (Dx _)
theorem at_get(a:i<xs.size):xs[i]?=some (At xs i):=by simp[Array.getD,a]
noncomputable def adv(m:Nat)(p:Probe):Probe:=
 if p.more>0 then { p with j:=p.j+1,more:=p.more-1 }else
 let(i,perturb):=leap m p.i p.perturb
 { p with j:=i,more:=runEnd m i-i,i,perturb }
noncomputable def sq(m:Nat)(h:Int):Nat->Probe
 |0=>{ j:=bits h%(m+1),more:=runEnd m (bits h%(m+1))-bits h%(m+1),i:=bits h%(m+1),perturb:=bits h,dummy:=none }
 |n+1=>adv m (sq m h n)
noncomputable abbrev sj(m:Nat)(h:Int)(n:Nat):Nat:=(sq m h n).j
noncomputable def bk(m:Nat)(h:Int):Nat->Nat×Nat
 |0=>(bits h%(m+1),bits h)
 |k+1=>leap m (bk m h k).1 (bk m h k).2
noncomputable def ps(m:Nat)(h:Int):Nat->Nat
 |0=>0
 |k+1=>ps m h k+(runEnd m (bk m h k).1-(bk m h k).1)+1
theorem QbC(m:Nat)(h:Int)(n i a:Nat)(e:sq m h n={ j:=i,more:=runEnd m i-i,i:=i,perturb:=a,dummy:=none }):∀c,c<=runEnd m i-i->sq m h (n+c)={ j:=i+c,more:=runEnd m i-i-c,i:=i,perturb:=a,dummy:=none }
 |0,_=>e
 |c+1,b=>by
  rw[show n+(c+1)=(n+c)+1 from rfl];show adv m (sq m h (n+c))=_;rw[QbC m h n i a e c (NB b)];unfold adv;rw[if_pos (by show runEnd m i-i-c>0;omega)];rfl
theorem Qh2(m:Nat)(h:Int):∀k,sq m h (ps m h k)={ j:=(bk m h k).1,more:=runEnd m (bk m h k).1-(bk m h k).1,i:=(bk m h k).1,perturb:=(bk m h k).2,dummy:=none }
 |0=>rfl
 |k+1=>by
  show adv m (sq m h (ps m h k+(runEnd m (bk m h k).1-(bk m h k).1)))=_;rw[QbC m h _ _ _ (Qh2 m h k) _ (Nx _)];unfold adv;rw[if_neg (by show¬(runEnd m (bk m h k).1-(bk m h k).1-(runEnd m (bk m h k).1-(bk m h k).1)>0);lia)];rfl
theorem Qga(m:Nat)(h:Int)(k c:Nat)(a:c<=runEnd m (bk m h k).1-(bk m h k).1):sj m h (ps m h k+c)=(bk m h k).1+c:=by
 show(sq m h (ps m h k+c)).j=_;rw[QbC m h _ _ _ (Qh2 m h k) c a]
theorem U9(m i:Nat):i<=runEnd m i:=by unfold runEnd;split<;>lia
theorem QbY(a:i<=m):runEnd m i<=m:=by unfold runEnd;split<;>omega
theorem Qfk(m:Nat)(h:Int):∀k,(bk m h k).1<=m
 |0=>Fc (Ic _ (DG _))
 |k+1=>Fc (Ic _ (DG _))
theorem Qhq(m:Nat)(h:Int):∀k,(bk m h k).2=bits h/32^k
 |0=>(Nat.div_one _).symm
 |k+1=>by
  show(bk m h k).2/32=_;rw[Qhq m h k,Nat.div_div_eq_div_mul,Nat.pow_succ]
theorem QgB(h:Int):bits h<2^64:=by
 unfold bits;have:=EW h (show(0:Int)<2^64 by decide);have:=EL h (show((2:Int)^64)≠0 by decide);lia
theorem Qg2(m:Nat)(h:Int)(a:13<=k):(bk m h k).2=0:=by
 rw[Qhq];apply Nat.div_eq_of_lt;have:=QgB h;have c:32^13<=32^k:=Nat.pow_le_pow_right (by decide) a;have b:(2:Nat)^64<=32^13:=by decide
 exact Nn (Nn this b) c
noncomputable def lcg(m:Nat):Nat->Nat->Nat
 |0,i=>i
 |r+1,i=>(lcg m r i*5+1)%(m+1)
theorem Qer(m:Nat)(h:Int):∀r,(bk m h (12+r)).1=lcg m r (bk m h 12).1
 |0=>rfl
 |r+1=>by
  show((bk m h (12+r)).1*5+1+(bk m h (12+r)).2/32)%(m+1)=_;rw[Qer m h r];have:(bk m h (12+r)).2/32=0:=Qg2 m h (k:=12+r+1) (by lia);rw[this];rfl
theorem KS(m:Nat)(a i:Nat):∀b,lcg m (a+b) i=lcg m b (lcg m a i)
 |0=>rfl
 |b+1=>by
  show(lcg m (a+b) i*5+1)%(m+1)=_;rw[KS m a i b];rfl
noncomputable def orb(m:Nat):Nat->Nat->List Nat
 |0,_=>[]
 |r+1,i=>i::orb m r ((i*5+1)%(m+1))
theorem Qgm(m i:Nat):lcg m 1 i=(i*5+1)%(m+1):=rfl
theorem QcB(m:Nat):∀(r i x:Nat),x∈orb m r i->∃b,b<r/\lcg m b i=x
 |0,_,_,h=>nomatch h
 |r+1,i,x,h=>by
  rcases NH.mp h with rfl|h
  ·exact⟨0,by exact DG _,rfl⟩
  ·obtain⟨b,a,e⟩:=QcB m r _ x h;refine⟨1+b,by lia,?_⟩;rw[KS,Qgm];exact e
def Full(m:Nat):Prop:=(List.range (m+1)).all (fun x=>(orb m (m+1) 0).contains x)=true/\lcg m (m+1) 0=0
theorem full7:Full 7:=by unfold Full;decide +kernel
theorem full31:Full 31:=by unfold Full;decide +kernel
theorem GA(F:Full m)(a:x<=m):∃b,b<m+1/\lcg m b 0=x:=by
 have:=Es.mp F.1 x (Ea.mpr (No a (Eg _)));rw[La]at this;exact QcB m _ _ _ this
theorem QfF(F:Full m)(d:i<=m)(c:x<=m):∃r,r<m+1/\lcg m r i=x:=by
 obtain⟨a,f,rfl⟩:=GA F d;obtain⟨b,e,rfl⟩:=GA F c
 by_cases h:a<=b
 ·exact⟨b-a,by exact No (Da _ _) e,by rw[<-KS];congr 1;exact FG h⟩
 ·refine⟨m+1-a+b,by lia,?_⟩;rw[<-KS,show a+(m+1-a+b)=(m+1)+b by lia,KS,F.2]
theorem QfX(F:Full m)(h:Int)(a:x<=m):∃k,k<=m+12/\(bk m h k).1=x:=by
 obtain⟨r,hr,e⟩:=QfF F (Qfk m h 12) a;exact⟨12+r,by lia,(Qer m h r).trans e⟩
theorem QaL[BEq b][LawfulBEq b]:∀(l k:List b),l.Nodup->(∀x∈l,x∈k)->l.length<=k.length
 |[],_,_,_=>NY _
 |x::l,k,a,c=>by
  rw[Ef]at a;have e:=c x Nt;have:=QaL l (k.erase x) a.2 fun y d=>(FD (fun z=>a.1 (by rw[<-z];exact d))).mpr (c y (Nq _ d));rw[D6 e]at this;have:0<k.length:=IS e;simp only[NR];lia
theorem Qhw{l:List Nat}(b:l.length<=m):∃x,x<=m/\x∉l:=by
 refine EX fun z=>?_;have:=QaL (List.range (m+1)) l Fm fun x a=>EX fun y=>z ⟨x,by have:=Ea.mp a;lia,y⟩;rw[Fe]at this;exact Iq b this
end Sb
namespace St
theorem Qev:Slot "set_iterator" "__iter__" "set_iterator.__iter__":=.of (owner:="set_iterator") (n:="__iter__") (by rw[EK,Ec];kernel_rfl) (by decide +kernel) (by decide +kernel) (by decide +kernel) (by first|exact .inl (by decide +kernel)|exact .inr (by decide +kernel)) (by rw[EG];kernel_rfl)
theorem Qe2:entryFor table "set_iterator.__iter__"=some Builtin.«dict_keyiterator.__iter__»:=FK (id':="dict_keyiterator.__iter__") (by kernel_rfl) rfl (by decide +kernel) (by kernel_rfl)
theorem Qh1(a:Value):argsOk "set_iterator.__iter__" ⟨[a],[]⟩:=by unfold argsOk;kernel_rfl
section
variable{prog:Program}{w:World}{A:Around}{E:Value->Shared->Prop}{s:Shared}
noncomputable abbrev Qc2(f:Value)(i:Nat)(S:Addr)(n a:Nat):Obj:={ cls:=.type "set_iterator",data:=.fields #[f,.int i 0,.ref S,.int n 0,.int a 0] }
inductive How(w:World)(S T:Addr)(h:Heap)(es:Array (Int×Value))(ep:Nat)(t:SetTable)(vs:List Value):Nat->Value->Prop where
 |tup {i:Nat} {ps:List Nat} (hT:h.get? T=some { cls:=.type "tuple",data:=.seq (ps.map fun(p:Nat)=>rawInt p).toArray 0 }) (hl:ps.length=vs.length) (hp:∀(j p:Nat),ps[j]?=some p->∃e,es[p]?=some e/\vs[j]?=some e.2):How w S T h es ep t vs i (.ref T)
 |text {i:Nat} (c:Nat) (hb:w.params.followText "set-order"=true) (hv:vs=(pickOrder (w.params.setOrder S ep) es).toList.map (·.2)):How w S T h es ep t vs i (.int c 0)
 |slots {i:Nat} (c:Nat) (hb:w.params.followText "set-order"=false) (hled:t.led=true) (hs:t.plain=true\/es.size<=1) (hv:vs=es.toList.map (·.2)) (hc:SetTable.below t.place c=i):How w S T h es ep t vs i (.int c 0)
def ItT(w:World)(I S T:Addr)(b:List Value)(i:Nat)(h:Heap):Prop:=
 ∃f o a c t,h.get? I=some (Qc2 f i S b.length c)/\h.get? S=some o/\o.data=.set a c t/\t.fits a.size=true/\(t.plain=true\/a.size<=1->Sb.Up t.place)/\a.size=b.length/\How w S T h a c t b i f
theorem Gy{t:SetTable}(a:t.fits n=true):t.place.size=n:=by
 simp only[SetTable.fits,NK,beq_iff_eq]at a;exact a.1
theorem How.keep(x:How w S T h es p t e i f)(k:∀o,h.get? T=some o->h'.get? T=some o):How w S T h' es p t e i f:=by
 cases x with
 |tup n l j=>exact .tup (k _ n) l j
 |text c d b=>exact .text c d b
 |slots c d a g b m=>exact .slots c d a g b m
theorem QeO(k:Nat):rawInt (k:Int)=Value.int k 0:=rfl
theorem QmB:(#[f,a,b,c,d]:Array Value).setIfInBounds 0 x=#[x,a,b,c,d]:=by rfl
theorem Qmj:(#[f,a,b,c,d]:Array Value).setIfInBounds 1 x=#[f,x,b,c,d]:=by rfl
theorem GH{h:Heap}(e:h.get? I=some (Qc2 f i S n a))(k:Nat)(x:Value):(h.update I (Obj.mapFields (·.setIfInBounds k x))).get? I=some { cls:=.type "set_iterator",data:=.fields ((#[f,.int i 0,.ref S,.int n 0,.int a 0]:Array Value).setIfInBounds k x) }:=NU _ e rfl
theorem Ql2{h:Heap}(e:h.get? I=some (Qc2 f i S n a)):((h.update I (Obj.mapFields (·.setIfInBounds 0 x))).update I (Obj.mapFields (·.setIfInBounds 1 y))).get? I=some { cls:=.type "set_iterator",data:=.fields #[x,y,.ref S,.int n 0,.int a 0] }:=by
 have g1:=GH e 0 x;rw[QmB]at g1;exact NU (Obj.mapFields (·.setIfInBounds 1 y)) g1 rfl
theorem XO(g:s.heap.get? S=some o)(f:o.data=.set es d t)(b:t.fits es.size=true)(a:w.params.followText "set-order"=true)
  (h:Q (((pickOrder (w.params.setOrder S d) es)[i]?).map fun e=>(e.2,c)) s):wpAny (model prog w) A (setNext S c i d) Q E s:=by
 unfold setNext;refine Na (NJ g f b ?_);dsimp only;unfold setsByText;refine Na (Na (Et (Ng ?_)));show wpAny _ _ (if(w.params.followText "set-order")=true then _ else _) _ _ _;rw[if_pos a];rw[if_neg (by simp)];refine Na ?_;unfold setWalk;refine Na (NJ g f b ?_);dsimp only;unfold setsByText;refine Na (Na (Et (Ng ?_)));show wpAny _ _ (if(w.params.followText "set-order")=true then _ else _) _ _ _;rw[if_pos a];refine Na (Et (Ng ?_));exact Ng h
theorem Y1(f:s.heap.get? S=some o)(d:o.data=.set es c t)(b:t.fits es.size=true)(a:es[p]?=some e)(h:Q e.2 s):wpAny (model prog w) A (setNextDrawn S p c) Q E s:=by
 unfold setNextDrawn;refine Na (NJ f d b ?_);dsimp only;rw[if_neg (by simp),a];exact Ng h
theorem Xh(l:s.heap.get? S=some o)(g:o.data=.set es f t)(e:t.fits es.size=true)(d:w.params.followText "set-order"=false)(a:t.led=true)(b:t.plain=true\/es.size<=1)
  (h:Q (match es[SetTable.below t.place c]?,t.place[SetTable.below t.place c]? with|some (_,x),some j=>some (x,j+1)|_,_=>none) s):wpAny (model prog w) A (setNext S c i f) Q E s:=by
 unfold setNext;refine Na (NJ l g e ?_);dsimp only;unfold setsByText;refine Na (Na (Et (Ng ?_)));show wpAny _ _ (if(w.params.followText "set-order")=true then _ else _) _ _ _;rw[if_neg (by rw[d];simp)];show wpAny _ _ (if(!t.plain&&decide (es.size>1))=true then _ else _) _ _ _
 rw[if_neg (by
  rcases b with z|z
  ·rw[z];simp
  ·have:¬es.size>1:=by exact NQ.mpr z
   simp[this])]
 show wpAny _ _ ((if(!t.led&&!es.isEmpty)=true then unsupported "set:maker-not-led"else pure ())>>=_) _ _ _;rw[if_neg (by rw[a];simp)];exact Na (Ng (Ng h))
theorem next_item{i:Nat}(H:S≠I)(G:T≠I)(st:ItT w I S T u i s.heap)(O:i<u.length)
  (hQ:∀v h',u[i]?=some v->ItT w I S T u (i+1) h'->Heap.SameBut I s.heap h'->Q (some v) { s with heap:=h' }):wpAny (model prog w) A (pyNext (.ref I)) Q E s:=by
 obtain⟨f,o,m,J,t,l,r,n,j,up,d,hw⟩:=st;have Z:s.TypeIs (.ref I) "set_iterator":=⟨_,l,rfl⟩
 unfold pyNext;refine Na (DU (Ed (name:=Str.ofString "__next__") Z slotN (N5 slotN Z Qd9 ?_ (QgQ _))));unfold Builtin.«set_iterator.__next__»;refine Na (Ng (Na (wpAny_fieldsOf l rfl ?_)));dsimp only;refine Na (FH r n j ?_);rw[if_neg (by simp[d])];have two:∀(x y:Value),Heap.SameBut I s.heap ((s.heap.update I (Obj.mapFields (·.setIfInBounds 0 x))).update I (Obj.mapFields (·.setIfInBounds 1 y))):=fun x y=>(NP ..).trans (NP ..)
 have R:∀(x:Value) (nx:Nat),u[i]?=some x->How w S T s.heap m J t u (i+1) (.int nx 0)->wpAny (model prog w) A.in1 (do
   setField (Value.ref I) 0 (rawInt (nx:Int))
   setField (Value.ref I) 1 (rawInt ((i:Int)+1))
   ret x) (fun fin L=>∃v,fin=Fin.done (Flow.ret v)/\wpAny (model prog w) A (pure (some v)) Q E L) (fun e L=>wpAny (model prog w) A (do if(<-isInstance e (Value.type "StopIteration"))=true then pure none else throw e) Q E L) s:=by
  intro x nx hx M;refine Na (EA l rfl (by simp) (Na (EA (GH l 0 _) rfl (by simp) (Ng ⟨x,rfl,Ng (hQ x _ hx ?_ (two _ _))⟩))));refine⟨.int nx 0,o,m,J,t,Ql2 l,?_,n,j,up,d,M.keep fun o' e=>?_⟩
  ·rw[(two _ _).2 S H];exact r
  ·rw[(two _ _).2 T G];exact e
 cases hw with
 |@tup ps D Y U=>
  simp only[EB];refine Na (DE D rfl ?_);dsimp only;have h:ps[i]?=some ps[i]:=Ni (Nn O (Nr Y.symm));generalize ps[i]=q at h;obtain⟨e,he,z⟩:=U i q h;have:((ps.map fun(p:Nat)=>rawInt p).toArray)[i]?=some (Value.int (q:Int) 0):=by simp[h,QeO]
  rw[this];dsimp only;refine Na (Y1 r n j (p:=q) he (Na (EA l rfl (by simp) (Ng ⟨e.2,rfl,Ng (hQ e.2 _ z ?_ (NP ..))⟩))));have P:Heap.SameBut I s.heap (s.heap.update I (Obj.mapFields (·.setIfInBounds 1 (rawInt ((i:Int)+1))))):=NP ..;refine⟨.ref T,o,m,J,t,?_,by rw[P.2 S H];exact r,n,j,up,d,How.keep (.tup D Y U) fun o' e=>by rw[P.2 T G];exact e⟩;have g:=GH l 1 (rawInt ((i:Int)+1));rw[Qmj]at g;exact g
 |text c C z=>
  simp only[EB];refine Na (XO r n j (i:=i) (c:=c) C ?_);subst z;have a:i<(pickOrder (w.params.setOrder S J) m).size:=by simpa using O
  rw[NL a];exact R _ c (by rw[Nz,N7,NL a];rfl) (.text c C rfl)
 |slots c C b N z hc=>
  simp only[EB];refine Na (Xh r n j (i:=i) (c:=c) C b N ?_);subst z;have a:i<m.size:=by simpa using O
  have B:i<t.place.size:=by rw[Gy j];exact a
  rw[hc,NL a,Sb.at_get B];exact R m[i].2 (Sb.At t.place i+1) (by rw[Nz,N7,NL a];rfl) (.slots _ C b N rfl (Sb.below_next (up N) B))
theorem Gh(d:B.handled=none)(f:∀h',(∀b o,s.heap.get? b=some o->h'.get? b=some o)->Q none { s with heap:=h' }) :
  wpAny (model prog w) B (newExc (.type "StopIteration") []>>=raiseNew) (fun(fin:Fin) c=>∃v,fin=Fin.done (Flow.ret v)/\wpAny (model prog w) A (pure (some v)) Q E c) (fun e c=>wpAny (model prog w) A (do if(<-isInstance e (Value.type "StopIteration"))=true then pure none else throw e) Q E c) s:=by
 refine Na ?_;simp only[newExc,newTuple];refine Na (N3 ?_ (by size_fits));refine Na (m:=firstArgMember _ _) (Ez (a:=Value.none) (by first|rfl|(simp only[firstArgMember];rfl)) (N3 ?_ (by size_fits)));simp only[raiseNew];refine Na (Lx ?_);rw[d];refine Na (Ng (Od ?_));refine Na (DL (T:="StopIteration") (b:=true) ⟨_,Nw _ rfl,rfl⟩ isSubtype_stop ?_);refine Ng (f _ ?_);exact fun b o e=>Nk _ (Nk _ e)
theorem next_end(H:A.handled=none)(M:S≠I)(L:T≠I)(st:ItT w I S T d d.length s.heap)
  (z:∀h',Heap.ExtBut I s.heap h'->Q none { s with heap:=h' }):wpAny (model prog w) A (pyNext (.ref I)) Q E s:=by
 obtain⟨f,o,C,N,t,j,u,r,q,up,g,hw⟩:=st;have y:s.TypeIs (.ref I) "set_iterator":=⟨_,j,rfl⟩
 unfold pyNext;refine Na (DU (Ed (name:=Str.ofString "__next__") y slotN (N5 slotN y Qd9 ?_ (QgQ _))));unfold Builtin.«set_iterator.__next__»;refine Na (Ng (Na (wpAny_fieldsOf j rfl ?_)));dsimp only;refine Na (FH u r q ?_);rw[if_neg (by simp[g])];have B:A.in1.handled=none:=H
 have one:wpAny (model prog w) A.in1 (do
   setField (Value.ref I) 2 Value.none
   raiseNew (<-newExc (Value.type "StopIteration") [])) (fun(fin:Fin) l=>∃v,fin=Fin.done (Flow.ret v)/\wpAny (model prog w) A (pure (some v)) Q E l) (fun e l=>wpAny (model prog w) A (do if(<-isInstance e (Value.type "StopIteration"))=true then pure none else throw e) Q E l) s:=by
  refine Na (EA j rfl (by simp) (Gh B fun h' k=>z h' fun b m a e=>k b m ?_));rw[(NP ..).2 b a];exact e
 cases hw with
 |@tup ps n G O=>
  simp only[EB];refine Na (DE n rfl ?_);dsimp only;rw[show((ps.map fun(p:Nat)=>rawInt p).toArray)[d.length]?=none by simp[G]];refine Na (EA j rfl (by simp) (Na (EA (GH j 0 _) rfl (by simp) (Gh B fun h' k=>z h' fun b m a e=>k b m ?_))));rw[((NP s.heap I _).trans (NP ..)).2 b a];exact e
 |text c a x=>
  simp only[EB];refine Na (XO u r q (i:=d.length) (c:=c) a ?_);rw[show(pickOrder (w.params.setOrder S N) C)[d.length]?=none by rw[x];simp];exact one
 |slots c a h D x J=>
  simp only[EB];refine Na (Xh u r q (i:=d.length) (c:=c) a h D ?_);rw[J,show C[d.length]?=none from IT (Nr g)];exact one
theorem Qjo(st:ItT w I S T c i s.heap)(h:Q (.ref I) s):wpAny (model prog w) A (pyIter (.ref I)) Q E s:=by
 obtain⟨f,o,d,e,t,b,_⟩:=st;have a:s.TypeIs (.ref I) "set_iterator":=⟨_,b,rfl⟩
 refine F5 a Qev (N5 Qev a Qe2 ?_ (Qh1 _));exact Ng ⟨_,rfl,"set_iterator",_,a,slotN.lookup,h⟩
theorem walksT(y:A.handled=none)(I S T:Addr)(d:S≠I)(c:T≠I)(j:List Value) :
  Walks prog w A I [I,S,T] [I] j.length (fun i v=>j[i]?=some v) (fun i h=>ItT w I S T j i h) where
 sub:=fun b a=>by simp at a;simp[a]
 frame:=fun i h g z k=>by
  obtain⟨f,o,C,D,t,J,H,G,B,up,m,hw⟩:=z;exact⟨f,o,C,D,t,k I (by simp) _ J,k S (by simp) _ H,G,B,up,m,hw.keep fun o e=>k T (by simp) o e⟩
 item:=fun i s Q E u st n=>next_item d c st u fun v g r l p=>n v g s.toks r l fun b o a e=>by rw[p.2 b (fun z=>a (by simp[z]))];exact e
 done:=fun s Q E st n=>next_end y d c st fun g x=>n g s.toks fun b o a e=>x b o (fun z=>a (by simp[z])) e
 self:=fun i s Q E st q=>Qjo st q
noncomputable abbrev atP(es:Array (Int×Value))(i:Nat):Value:=(es.getD i (0,.none)).2
theorem Qat{ps:List Nat}(p:ps.Perm (List.range es.size)):(ps.map (atP es)).Perm (es.toList.map (·.2))/\∀(j q:Nat),ps[j]?=some q->∃e,es[q]?=some e/\(ps.map (atP es))[j]?=some e.2:=by
 constructor
 ·refine(p.map _).trans ?_
  have:(List.range es.size).map (atP es)=es.toList.map (·.2):=by
   apply DB;intro j;rw[Nz,Nz]
   by_cases lt:j<es.size
   ·simp[atP,Array.getD,lt]
   ·rw[N6 (by simpa using lt),N6 (by simpa using lt)];rfl
  rw[this]
 ·intro j q a;have lt:q<es.size:=Ea.mp (p.mem_iff.mp (NE.mpr ⟨j,a⟩));refine⟨es[q],NL lt,?_⟩;rw[Nz,a];simp[atP,Array.getD,lt]
theorem Qjp{es:Array (Int×Value)}(g:s.heap.get? S=some o)(O:o.ExactSet)(x:o.data=.set es B t)(u:t.fits es.size=true)(up:t.plain=true\/es.size<=1->Sb.Up t.place)(y:t.led=ledW w)(hz:es.size<=sizeLine)
  (h:∀h' d I T (f:List Value),(∀b o,s.heap.get? b=some o->h'.get? b=some o)->s.heap.objs.size<=I->(T=S\/s.heap.objs.size<=T)->S≠I->T≠I->f.Perm (es.toList.map (·.2))->f.length=es.size->ItT w I S T f 0 h'->Q (.ref I) { s with heap:=h',drawn:=d }) :
  wpAny (model prog w) A (pyIter (.ref S)) Q E s:=by
 have H:s.TypeIs (.ref S) "set":=⟨o,g,O.1⟩
 have m:=Nu g;refine F5 H OB (N5 OB H QhB ?_ (F.args_set_iter_1 _));unfold Builtin.«frozenset.__iter__» Builtin.Frozenset.slot0;refine Na (Na (Ng (Ng ?_)));unfold Builtin.Frozenset.sizeOf;refine Na (Na (FH g x u (Ng ?_)));refine Na (Na (NJ g x u ?_));dsimp only;unfold setsByText;refine Na (Na (Et (Ng (Ng ?_))));show wpAny _ _ (if(!(w.params.followText "set-order")&&(!t.plain&&decide (es.size>1)))=true then _ else _) _ _ _
 have made:∀(c:Int) (f:List Value),c=0->f.Perm (es.toList.map (·.2))->How w S S (s.heap.push (Qc2 (.int (0:Nat) 0) 0 S es.size B)) es B t f 0 (.int (0:Nat) 0)->wpAny (model prog w) A.in1 (do
   let first <-pure (rawInt c)
   ret (<-newFields "set_iterator" [first,rawInt 0,Value.ref S,rawInt (es.size:Int),rawInt ((<-setEpoch S):Int)])) (fun fin G=>∃v,fin=Fin.done (Flow.ret v)/\∃J r,G.TypeIs v J/\typeLookup (Value.type J) (Str.ofString "__next__")=pure (some r)/\Q v G) E s:=by
  intro c f R p hw;subst R;refine Na (Ng (Na (L7 g x u (Na (N3 (Ng ⟨_,rfl,"set_iterator",_,⟨_,Nw _ rfl,rfl⟩,slotN.lookup,?_⟩))))));have a:es.size=f.length:=by rw[p.length_eq,NC,ND]
  refine h _ s.drawn s.heap.objs.size S f (fun b N e=>Nk _ e) (Nx _) (.inl rfl) (NG m) (NG m) p a.symm ?_;exact⟨.int (0:Nat) 0,o,es,B,t,by rw[<-a];exact Nw _ rfl,Nk _ g,x,u,up,a,hw⟩
 cases q:w.params.followText "set-order"with
 |true=>
  rw[if_neg (by simp)];exact made 0 ((pickOrder (w.params.setOrder S B) es).toList.map (·.2)) rfl ((Uk _ es).map _) (.text 0 q rfl)
 | false=>
  have n:t.led=true:=by rw[y];simp[ledW,q]
  by_cases D:t.plain=false/\es.size>1
  ·rw[if_pos (by simp[D.1,D.2])];refine Na (KP es.size (List.range es.size) s _ (by simp) fun ps d p=>?_);have C:ps.length=es.size:=by rw[p.length_eq,Fe]
   refine Na (wpAny_newTuple ?_ (by rw[NC,C];exact hz));refine Na (L7 (s:={ s with drawn:=d,heap:=s.heap.push { cls:=.type "tuple",data:=.seq (ps.map fun(i:Nat)=>rawInt i).toArray } }) (Nk _ g) x u ?_);refine Na (N3 (Ng ⟨_,rfl,"set_iterator",_,⟨_,Nw _ rfl,rfl⟩,slotN.lookup,?_⟩));obtain⟨M,L⟩:=Qat p;have a:es.size=(ps.map (atP es)).length:=by rw[NC,C]
   have j:(s.heap.push { cls:=.type "tuple",data:=.seq (ps.map fun(i:Nat)=>rawInt i).toArray }).objs.size=s.heap.objs.size+1:=D7 _ _;refine h _ d _ s.heap.objs.size (ps.map (atP es)) (fun b N e=>Nk _ (Nk _ e)) (by show s.heap.objs.size<=(s.heap.push _).objs.size;rw[j];exact Nv _ _) (.inr (Nx _)) (by show S≠(s.heap.push _).objs.size;rw[j];exact NG (Fg m)) (by show s.heap.objs.size≠(s.heap.push _).objs.size;rw[j];exact NG (Eg _)) M a.symm ?_;refine⟨.ref s.heap.objs.size,o,es,B,t,by rw[<-a];exact Nw _ rfl,Nk _ (Nk _ g),x,u,up,a,.tup (ps:=ps) (Nk _ (Nw _ rfl)) (by rw[<-a,C]) L⟩
  ·have l:t.plain=true\/es.size<=1:=by
    cases P:t.plain with
    |true=>exact .inl rfl
    |false=>
     right
     rcases DH 1 es.size with z|z
     ·exact absurd ⟨P,z⟩ D
     ·exact z
   rw[if_neg (by
    rcases l with z|z
    ·rw[z];simp
    ·have:¬es.size>1:=by exact NQ.mpr z
     simp[this])]
   exact made 0 (es.toList.map (·.2)) rfl .rfl (.slots 0 q n l rfl (Sb.below_zero (up l)))
theorem Qkr(d:s.TypeIs (.ref S) "set")(h:Q false s):wpAny (model prog w) A (Builtin.List.listLengthHint (.ref S)) Q E s:=by
 unfold Builtin.List.listLengthHint;refine Na (De d F.slot_set_len.lookup ?_);generalize a:("set.__len__":String)=c
 wp_delta
 rw[show splitId c=some ("set","__len__")from by subst a;decide +kernel];subst a;refine Na (DL (T:="set") (b:=true) d (by rw[EG];kernel_rfl) ?_);refine IE (fun z=>absurd z (by decide)) (fun _=>IE (fun _=>?_) (fun z=>absurd (by decide +kernel) z));exact Na (D2 d (Ng h))
noncomputable abbrev lsO(xs:Array Value)(c:Nat):Obj:={ cls:=.type "list",dict:=none,data:=.seq xs c,slots:=#[] }
theorem Qe9(hh:A.handled=none)(e2:s.heap.get? S=some o)(L:o.ExactSet)(e3:o.data=.set es ep t)(ft:t.fits es.size=true)(up:t.plain=true\/es.size<=1->Sb.Up t.place)(B:t.led=ledW w)(n:N≠S)(res:Value)(l:Nat)(hN:s.heap.get? N=some (lsO #[] l))(hz:es.size<=sizeLine)
  (hR:∀h' d tk (h:List Value) u,h.Perm (es.toList.map (·.2))->(∀b o,b≠N->s.heap.get? b=some o->h'.get? b=some o)->h'.get? N=some (lsO h.toArray u)->R (.ok (.ret res)) { s with heap:=h',drawn:=d,toks:=tk }) :
  wpAny (model prog w) A.in1 (Builtin.List.listExtendWith (.ref N) (.ref S) res) (fun fin m=>match fin with|.done f=>R (.ok f) m|.again u=>u.quiet=true/\codeAny (model prog w) A u R m) (fun e m=>R (.error e) m) s:=by
 unfold Builtin.List.listExtendWith;refine Na (D2 (T:="set") ⟨o,e2,L.1⟩ ?_);have n1:Builtin.List.listSameRef (.ref N) (.ref S)=false:=by simp[Builtin.List.listSameRef,n]
 have n2:(Value.type "set"==Value.type "list")=false:=by decide
 have n3:(Value.type "set"==Value.type "tuple")=false:=by decide
 simp only[n1,n2,n3,Lw,EU,if_false];refine Na (Qjp e2 L e3 ft up B hz fun h1 d I T h G hI O Q P str M st=>?_);have p:=G _ _ hN;have x:N<s.heap.objs.size:=Nu hN;have Y:N≠I:=fun z=>absurd hI (by rw[<-z];exact FA.mpr x)
 have U:N≠T:=by
  rcases O with z|z
  ·rw[z];exact n
  ·exact fun e=>absurd z (by rw[<-e];exact FA.mpr x)
 have nf:N∉[I,S,T]:=by
  simp only[NH,EF,or_false,not_or];exact⟨Y,n,U⟩
 have W:=walksT (prog:=prog) (w:=w) (A:=A.in1.in1) (by simp[hh]) I S T Q P h
 have key:∀(D:Heap) (a:Nat),ItT w I S T h 0 D->(∀b o,b≠N->s.heap.get? b=some o->D.get? b=some o)->D.get? N=some (lsO #[] a)->codeAny (model prog w) A (.builtin "list.extend.loop" ⟨[.ref N,.ref I,res],[]⟩) R { s with heap:=D,drawn:=d }:=by
  intro D a J k2 g;refine Ll (Walks.of_in1 W).toS (by rw[M];exact hz) N nf res h.length 0 _ #[] a rfl (NY _) J g (OV _) fun m r u hm C i=>?_;rw[OL hm]
  have ea:r=h.toArray:=by
   apply Array.ext_getElem?;intro j
   by_cases H:j<r.size
   ·have q:=i.2 j r[j] (NL H);rw[NL H,DI,q]
   ·rw[IT (NQ.mp H),DI,N6 (by have:=i.1;exact Nl (Nr this.symm) (NQ.mp H))]
  rw[ea]at C;refine hR m.heap d m.toks h u str (fun b o c e=>hm.heap b o (fun y=>?_) (k2 b o c e)) C
  rcases NH.mp y with z|z
  ·exact c z
  ·rw[NO.mp z]at e;exact absurd (Nu e) (NQ.mpr hI)
 refine Na (Ek (Qkr ⟨o,G _ _ e2,L.1⟩ ?_));refine IE (fun _=>?_) (fun _=>Ng ⟨DT DA _,key h1 l st (fun b o _ e=>G b o e) p⟩);refine Na (Dw (Na ?_));show wpAny _ _ (updateSeq N (·.push .none)>>=fun _=>updateSeq N (·.pop)) _ _ _;refine Na (Dy p rfl ?_);have g:=NU (Obj.mapSeq (·.push Value.none)) p rfl;refine Dy (hz:=by seq_fits) g rfl ?_;have Z:=NU (Obj.mapSeq (·.pop)) g rfl;have v:∀b o,b≠N->h1.get? b=some o->((h1.update N (Obj.mapSeq (·.push Value.none))).update N (Obj.mapSeq (·.pop))).get? b=some o:=fun b o c e=>(N9 _ _ (E2 c)).trans ((N9 _ _ (E2 c)).trans e);refine Ng ⟨DT DA _,key _ _ (W.frame 0 _ _ st fun b c o e=>v b o (fun z=>nf (by rw[<-z];exact c)) e) (fun b o c e=>v b o c (G b o e)) Z⟩
theorem QdO(x:A.handled=none)(n:s.heap.get? S=some o)(u:o.ExactSet)(z:o.data=.set es B t)(y:t.fits es.size=true)(up:t.plain=true\/es.size<=1->Sb.Up t.place)(l:t.led=ledW w)(hz:es.size<=sizeLine)
  (h:∀h' d tk (c:List Value),c.Perm (es.toList.map (·.2))->(∀b o,s.heap.get? b=some o->h'.get? b=some o)->s.heap.objs.size<=h'.objs.size->Q c { s with heap:=h',drawn:=d,toks:=tk }):wpAny (model prog w) A (collect (.ref S)) Q E s:=by
 unfold collect;refine Na (wpAny_runValue (Dz entry_proto_collect' (show wpAny _ _ (do again (.builtin "list.__iadd__" ⟨[<-newList [],.ref S],[]⟩)) _ _ s from ?_)));refine Na (wpAny_newList (Ng ⟨LS _ (by decide +kernel),Dz (entry_list_iadd') ?_⟩));have m:=Nu n;rw[DO F.plain_list_iadd _]
 have fin:∀(r:Result) (g:Shared),(r=.ok (.ret (.ref s.heap.objs.size))/\∃h' d tk,∃c:List Value,∃i,c.Perm (es.toList.map (·.2))/\(∀b o,s.heap.get? b=some o->h'.get? b=some o)/\h'.get? s.heap.objs.size=some (lsO c.toArray i)/\g={ s with heap:=h',drawn:=d,toks:=tk })->(match r with
   | .ok (.ret v)=>wpAny (model prog w) A (match v with
    |.ref a=>do
     match (<-load a).data with
     |.seq p _=>pure p.toList
     |_=>unsupported "internal:collect"
    |_=>unsupported "internal:collect") Q E g
   |.ok _=>False
   |.error e=>E e g):=by
  rintro r g ⟨rfl,h',d,tk,c,i,str,k,hN,rfl⟩
  refine Na (wpAny_load hN ?_);show wpAny _ _ (pure c.toArray.toList) Q E _;rw[E6];exact Ng (h h' d tk c str k (NB (Nu hN)))
 refine N0 (Qe9 (A:=A) (s:={ s with heap:=s.heap.push (lsO #[] 0) }) (R:=fun r g=>r=.ok (.ret (.ref s.heap.objs.size))/\∃h' d tk,∃c:List Value,∃i,c.Perm (es.toList.map (·.2))/\(∀b o,s.heap.get? b=some o->h'.get? b=some o)/\h'.get? s.heap.objs.size=some (lsO c.toArray i)/\g={ s with heap:=h',drawn:=d,toks:=tk }) x (Nk _ n) u z y up l (Db m) (.ref s.heap.objs.size) 0 (Nw _ rfl) hz fun h' d tk c i str k hN=>⟨rfl,h',d,tk,c,i,str,fun b o e=>k b o (NG (Nu e)) (Nk _ e),hN,rfl⟩) ?_ ?_
 ·intro f g q;cases f with
  |done f=>exact fin _ _ q
  |again i=>exact⟨q.1,D0 q.2 fun r j hr=>fin r j hr⟩
 ·intro e g q;exact fin _ _ q
end
theorem Yf:∀(ks a:List Str),ks.Nodup->(∀k∈ks,k∈a)->a.length=ks.length->a.Perm ks
 |[],a,_,_,h=>by rw[NM.mp h]
 |k::r,a,b,c,h=>by
  have e:=c k Nt;rw[Ef]at b;refine(Lm e).trans (List.Perm.cons k (Yf r (a.erase k) b.2 (fun x d=>?_) ?_))
  ·exact(FD (fun z=>b.1 (by rw[<-z];exact d))).mpr (c x (Nq _ d))
  ·rw[D6 e,h];rfl
section
variable{prog:Program}{w:World}{A:Around}{E:Value->Shared->Prop}{s:Shared}
theorem Qf9{h:Heap}{a:Addr}{led:Bool}{es:Array (Int×Value)}(o:ElemsOf (strKind prog w) es.toList)(n:ks.Nodup)(m:es.size=ks.length)(l:∀k,k∈ks↔∃e∈es.toList,(strKind prog w).is k e.2=true)(p:b.Perm (es.toList.map (·.2))):∃ss,StrsAre b ss/\ss.Perm ks:=by
 have d:∀v∈b,∃x c,v=.str x c:=fun v d=>by
  obtain⟨e,i,rfl⟩:=NF.mp (p.mem_iff.mp d);obtain⟨⟨k,g,_⟩,_⟩:=o e i;obtain⟨c,j⟩:=Dn g;exact⟨k,c,j⟩
 refine⟨b.map strOf,strsAre_map b d,Yf ks _ n (fun k g=>?_) ?_⟩
 ·obtain⟨e,i,f⟩:=(l k).mp g;obtain⟨c,j⟩:=Dn f;exact NF.mpr ⟨e.2,p.mem_iff.mpr (NF.mpr ⟨e,i,rfl⟩),by rw[j];rfl⟩
 ·rw[NC,p.length_eq,NC,ND,m]
theorem Qd5{t:SetTable}(b:t.fits n=true)(c:n<=1):Sb.Up t.place:=fun i j d a=>by
 rw[Gy b]at a;omega
theorem QdA(q:A.handled=none)(r:SetL prog w s.heap S ks (ledW w))(hz:ks.length<=sizeLine)
  (h:∀h' d tk f,(∃ss,StrsAre f ss/\ss.Perm ks)->(∀b o,s.heap.get? b=some o->h'.get? b=some o)->s.heap.objs.size<=h'.objs.size->Q f { s with heap:=h',drawn:=d,toks:=tk }):wpAny (model prog w) A (collect (.ref S)) Q E s:=by
 obtain⟨o,B,C,t,v,n,u,j,x,l,e,g,i,m,c⟩:=r;refine QdO q v n u l (fun z=>?_) e (by rw[m];exact hz) fun h' d tk f p=>h h' d tk f (Qf9 (h:=s.heap) (a:=S) (led:=true) j i m c p)
 rcases z with z|z
 ·rcases g with y|y
  ·exact Qd5 l (NB (No (Nr y) (by decide)))
  ·rw[z]at y;cases y
 ·exact Qd5 l z
theorem sortedS'(v:A.handled=none)(y:SetL prog w s.heap S ks (ledW w))(hz:ks.length<64)
  (h:∀(D:Addr) h' d tk (a:List Value) (ss:List Str) c,StrsAre a ss->ss.Perm ks->sortedS ss=true->(∀b o,s.heap.get? b=some o->h'.get? b=some o)->s.heap.objs.size<=D->h'.get? D=some (lsO a.toArray c)->Q (.ref D) { s with heap:=h',drawn:=d,toks:=tk }) :
  wpAny (model prog w) A (call (.builtin "sorted") [.ref S]) Q E s:=by
 refine Calls.call_function_entry kind_sorted plain_sorted entry_sorted (args_sorted1 _) ?_;unfold Builtin.«sorted»;refine Na (m:=checkCount "sorted" 1 1 _) (Ng (Na (QdA (by simp[v]) y (by rw[Dj];exact NB (Ew hz (by decide))) fun n d tk a str r l=>?_)));obtain⟨ss,st,pm⟩:=str;have i:a.length<64:=by rw[FJ st,pm.length_eq];exact hz
 refine Na (wpAny_newList ?_ (by rw[Dj];exact NB (Ew i (by decide))));have f:(n.push (seqObj "list" a.toArray 0)).get? n.objs.size=some (seqObj "list" a.toArray 0):=Nw _ rfl;refine Na (Ek (N5 slot_list_sort ⟨_,f,rfl⟩ entry_list_sort (list_sort_treeK (κ:=PyProof.Rows.strKind) strKind_oneLt f st.keysOf (fun q p rest e=>keyKind_strs (by rw[<-e];exact st)) i fun g H G=>⟨_,rfl,?_⟩) (args_list_sort _)));obtain⟨j,C,B,z⟩:=sorted_out_str st H G;obtain⟨c,x⟩:=sortedHeap_at (out:=(arrOf g).map (·.2)) f;refine Ng ⟨_,rfl,h n.objs.size _ d tk ((arrOf g).map (·.2)).toList j c C (B.trans pm) z (fun b o e=>?_) l ?_⟩
 ·have t:=Nk (seqObj "list" a.toArray 0) (r b o e);rw[sortedHeap_old (NG (Nu (r b o e))) (Nu t)];exact t
 ·rw[Array.toArray_toList];exact x
end
theorem le_of_lt{a b:Str}:ltCps b.cps.toList a.cps.toList=false↔a.cps.toList<=b.cps.toList:=by
 rw[ltCps_eq,decide_eq_false_iff_not];exact Iff.rfl
theorem XN:∀(x:Str) (r:List Str),risingS x r=true->∀z∈r,x.cps.toList<=z.cps.toList
 |x,[],_,z,hz=>by cases hz
 |x,y::r,h,z,hz=>by
  have h':(!ltCps y.cps.toList x.cps.toList&&risingS y r)=true:=h;rw[NK,Bool.not_eq_true']at h';have a:=le_of_lt.mp h'.1
  rcases NH.mp hz with rfl|hz
  ·exact a
  ·exact OM a (XN y r h'.2 z hz)
theorem Kw(h:sortedS (x::r)=true):sortedS r=true:=by
 cases r with
 |nil=>rfl
 |cons y r=>
  have a:(!ltCps y.cps.toList x.cps.toList&&risingS y r)=true:=h;rw[NK]at a;exact a.2
theorem str_eq{a b:Str}(h:a.cps.toList=b.cps.toList):a=b:=by
 obtain⟨a⟩:=a;obtain⟨b⟩:=b;congr 1;exact Array.toList_inj.mp h
theorem YA:∀(a b:List Str),a.Perm b->sortedS a=true->sortedS b=true->a=b
 |[],b,p,_,_=>(List.nil_perm.mp p).symm
 |x::r,[],p,_,_=>by cases List.perm_nil.mp p
 | x::r,y::t,p,d,c=>by
  have e:x=y:=by
   have g:y∈x::r:=p.mem_iff.mpr Nt;have f:x∈y::t:=p.mem_iff.mp Nt
   rcases NH.mp g with z|z
   ·exact z.symm
   ·rcases NH.mp f with q|q
    ·exact q
    ·exact str_eq (List.le_antisymm (XN x r d y z) (XN y t c x q))
  subst e;rw[YA r t (List.Perm.cons_inv p) (Kw d) (Kw c)]
open Classical in
noncomputable def srt(ks:List Str):List Str:=if h:∃a:List Str,a.Perm ks/\sortedS a=true then h.choose else[]
theorem srt_eq(p:ss.Perm ks)(h:sortedS ss=true):srt ks=ss:=by
 have a:∃ss:List Str,ss.Perm ks/\sortedS ss=true:=⟨ss,p,h⟩
 unfold srt;rw[dif_pos a];exact YA _ _ (a.choose_spec.1.trans p.symm) a.choose_spec.2 h
end St
namespace Mi
open L2
noncomputable def txW:List W->Option (List Str)
 |[]=>some []
 |.str x::r=>(txW r).map (x::·)
 |_=>none
@[simp]theorem UL(l:List Str):txW (l.map .str)=some l:=by
 induction l with
 |nil=>rfl
 |cons x l a=>rw[NA,txW,a];rfl
theorem Qbf:∀{ws:List W} {ss:List Str},txW ws=some ss->ws=ss.map .str
 |[],ss,e=>by cases e;rfl
 |.str x::r,ss,e=>by
  obtain⟨t,b,a⟩:=Nf.mp e;subst a;rw[Qbf b];rfl
theorem QbD{K:Nd}:∀{ss:List Str} {xs:List V} {a:List Value},Rws K R (ss.map .str) xs->Vals xs a->StrsAre a ss
 |[],xs,a,r,v=>by
  rw[Il,Rws.nil_iff]at r;subst r;cases v;exact .nil
 | x::ss,xs,a,r,v=>by
  rw[NA]at r;unfold Rws at r;obtain⟨y,e,rfl,b,d⟩:=r;unfold Rw at b;subst b;cases v with
  |cons h t=>
   obtain⟨c,rfl⟩:=h;exact .cons x c (QbD d t)
theorem UM{K:Nd}:∀{ss:List Str} {d:List Value},StrsAre d ss->Vals (ss.map V.str) d/\Rws K R (ss.map W.str) (ss.map V.str)
 |[],_,.nil=>⟨.nil,by unfold Rws;rfl⟩
 |_::_,_,.cons x c h=>by
  obtain⟨a,b⟩:=UM (K:=K) (R:=R) h;refine⟨.cons ⟨c,rfl⟩ a,?_⟩;rw[NA,NA];unfold Rws;exact⟨_,_,rfl,by unfold Rw;rfl,b⟩
noncomputable def Qmv(ws:List W)(h:MH):Option (W×MH):=match ws with
 |[a]=>(lsW h a).bind fun c=>(txW c).bind fun b=>if b.length<64 then some (.lst ((St.srt b).map .str),h)else none
 |_=>none
noncomputable def Vp(ws:List W)(h:MH):Option (W×MH):=match ws with
 |[a]=>(lsW h a).bind fun c=>(txW c).bind fun b=>if b.length<4000/\(St.uniq b).length<64 then some (.ref h.length,h++[.lst ((St.srt (St.uniq b)).map .str)])else none
 |_=>none
section
variable{X:Cx}
theorem Inv.drew(I:Inv X a σ H s)(d:Drawn):Inv X a σ H { s with drawn:=d }:=⟨I.ok,I.os,I.bare,I.base,I.loc,I.cell,I.free,I.freeC,I.pin,I.hok,I.len⟩
theorem X1{p1 N l g:Pos}(T:X.calm=true)(hg:Gl X "sorted")(hm:X.mg "sorted"=none)(E:Gl X "set")(A:X.mg "set"=none)(he:PM X e me)(S:Z8 e=false:=by rfl) :
  PM X (.Call (.Name "sorted" p1) [.Call (.Name "set" N) [e] [] g] [] l) (mFn Vp (Qa me Qd)):=by
 intro m s σ H Q I ⟨R,p,h,w,h',rh,st,e1,O⟩;obtain⟨⟨as,h2⟩,e2,e3⟩:=Nc.mp e1;obtain⟨⟨a,Y⟩,e4,e5⟩:=Nc.mp e2;obtain⟨⟨bs,h3⟩,e6,e7⟩:=Nc.mp e5;cases e6;cases e7;refine Ee (Jo I hg hm boot_sorted (EY ?_ (Qn rfl) (Zg rfl)) (by decide) (by decide));rw[Qn (e:=.Call (.Name "set" N) [e] [] g) rfl];refine EE (Ee (Jo I E A boot_set (NV ?_ (Qn S) (Zg rfl)) (by decide) (by decide)));rw[Qn S];refine EE (thn (he m s σ H (fun v H2=>∃R2,Ext R R2/\Rh X.K R2 Y H2/\Rw X.K R2 a v) I ⟨R,p,h,a,Y,rh,st,e4,fun R2 H2 v x f z=>⟨R2,x,f,z⟩⟩) fun u L ⟨v,H1,I1,ru,R2,x2,f,z⟩=>EH ?_);obtain⟨ys,e8,e9⟩:=Nc.mp e3;obtain⟨ss,G,j⟩:=Nc.mp e9;split at j
 ·rename_i P;cases j;obtain⟨ad,xs,rfl,q1,M⟩:=f.lsAt z e8;cases ru;rw[Qbf G]at M;obtain⟨aa,rv,pl,hl⟩:=I1.list q1;have U:=QbD M rv;have B:=FJ U;refine St.set_list (I1.ok.hd T) pl.isList (by rw[E6];exact U) (by rw[Nj,B];show ss.length+1<4096;lia) fun g1 r i k1=>EH ?_;refine St.sortedS' (s:={ L with heap:=g1,toks:=r }) (I1.ok.hd T) i P.2 fun D g2 d q vs J c b1 Z b3 k2 C hD=>?_;obtain⟨v1,v2⟩:=UM (K:=X.K) (R:=R2) b1;have n:L.heap.objs.size<=D:=Nl (NB i.lt) C;have hp:=I1.hok.fresh n;have eq:=St.srt_eq Z b3;obtain⟨R3,x3,y,t⟩:=f.new (mo:=.lst (J.map .str)) (o:=.lst (J.map V.str)) hp fun R' x'=>⟨_,rfl,(UM (K:=X.K) (R:=R') b1).2⟩
  rw[eq]at O;refine⟨.ref D,_,Inv.drew (I1.laid (t':=q) (fun b o e=>k2 b o (k1 b o (Nu e) e)) n (show ObjOk X.prog X.w _ _ _ (.lst _)from⟨?_,vs,c,v1,hD⟩)) d,rfl,O R3 _ _ (x2.trans x3) y t⟩;rw[NC,Z.length_eq,Dj];exact NB (Ew P.2 (by decide))
 ·cases j
end
end Mi
namespace St
open AutoSeq1 (wpAny_loadPart')
theorem QdS(l:Addr)(items:Array Value)(n:Nat)(dct:Option Addr)(i:Array (Option Value)) :
  Meets (Builtin.«enumerate.__new__» ⟨[.type "enumerate",.ref l],[]⟩) (fun _ R s=>s.heap.get? l=some { cls:=.type "tuple",dict:=dct,data:=.seq items n,slots:=i } /\
   R (.ok (.ret (.ref (s.heap.push { cls:=.type "tuple_iterator",data:=.fields #[.ref l,.int 0 0] }).objs.size)))
    { s with heap:=(s.heap.push { cls:=.type "tuple_iterator",data:=.fields #[.ref l,.int 0 0] }).push { cls:=.type "enumerate",data:=.fields #[.none,.bool false,.ref s.heap.objs.size,rawInt 0,.none,.none] } }):=
 .of_wp fun e w A R s h=>by
  obtain⟨j,g,d,tk,os⟩:=s;obtain⟨a,h⟩:=h;have f:=sub_enumerate;have b:Heap.IsTuple (Shared.heap ⟨j,g,d,tk,os⟩) l items:=⟨_,a,rfl,n,rfl⟩
  wp_walk using EZ a
  refine wpAny_stack_any fun st=>Ng ?_;split
  ·rename_i c _ _ _ _ _;cases(c==Value.type "enumerate")
   ·wp_walk using EZ a,D3 b
    exact⟨_,rfl,h⟩
   ·wp_walk using EZ a,D3 b
    exact⟨_,rfl,h⟩
  ·wp_walk using EZ a,D3 b
   exact⟨_,rfl,h⟩
section
variable{prog:Program}{w:World}{A:Around}{E:Value->Shared->Prop}{s:Shared}
theorem enumT(i:s.heap.IsTuple l items)
  (h:∀h',IsEnum h' (s.heap.objs.size+1) s.heap.objs.size 0 .none->h'.IsTupleIter s.heap.objs.size l 0->(∀b o,s.heap.get? b=some o->h'.get? b=some o)->Q (.ref (s.heap.objs.size+1)) { s with heap:=h' }) :
  wpAny (model prog w) A (call (.type "enumerate") [.ref l]) Q E s:=by
 obtain⟨⟨c,dct,j,f⟩,g,e,n,hd⟩:=i;simp only at e hd;subst e hd;refine callType_new F.called_enumerate (by decide) (F.typeCall_enumerate_1 _) (F.newCall_enumerate_1 _) (fun obj=>Lp obj _) F.entry_enumerate_new (QdS l items n dct f) ⟨g,?_⟩;have a:(s.heap.push { cls:=.type "tuple_iterator",data:=.fields #[.ref l,.int 0 0] }).objs.size=s.heap.objs.size+1:=D7 ..;show _/\_;rw[a]
 have d:IsEnum ((s.heap.push { cls:=.type "tuple_iterator",data:=.fields #[.ref l,.int 0 0] }).push { cls:=.type "enumerate",data:=.fields #[.none,.bool false,.ref s.heap.objs.size,rawInt 0,.none,.none] }) (s.heap.objs.size+1) s.heap.objs.size 0 .none:=by
  rw[<-a];exact Nw _ rfl
 exact⟨⟨_,d,rfl⟩,h _ d ⟨_,Nk _ (Nw _ rfl),rfl,rfl⟩ fun b o x=>Nk _ (Nk _ x)⟩
theorem Qar(hit:s.heap.IsTupleIter it l i)(e:s.heap.IsTuple l items)(d:items[i]?=some x)
  (g:∀h',h'.IsTupleIter it l (i+1)->Heap.SameBut it s.heap h'->Q x { s with heap:=h' }):wpAny (model prog w) A (Builtin.SmallTypes.nextOf (.ref it)) Q E s:=by
 obtain⟨o,a,f,hd⟩:=id hit;obtain⟨ol,b,_,nl,c⟩:=e;unfold Builtin.SmallTypes.nextOf;refine Na (Ed (name:=Str.ofString "__next__") hit.typeIs Di (N5 Di hit.typeIs FQ ?_ (FL _)));refine(show wpAny _ _ (field (.ref it) 0>>=_) _ _ s from Na (Ey a hd (x:=.ref l) rfl (show wpAny _ _ (if(Value.ref l==Value.none)=true then _ else _) _ _ s from ?_)));rw[if_neg (show¬((Value.ref l==Value.none)=true)from NZ)];refine(show wpAny _ _ (field (.ref it) 1>>=_) _ _ s from Na (Ey a hd (x:=.int i 0) rfl ?_));refine(show wpAny _ _ (seqItems? (.ref l)>>=_) _ _ s from Na (DE b c ?_));simp only[EB,d];refine Na (EA a hd (by simp) (Ng ⟨x,rfl,Ng (g _ ⟨_,NU _ a (Fq (Dd hd _)),(L8 ..).trans f,by rw[Dd hd];simp[rawInt]⟩ (NP ..))⟩))
theorem QbF(f:A.handled=none)(hit:s.heap.IsTupleIter it l i)(h:s.heap.IsTuple l items)(g:items[i]?=none)
  (j:∀h' e,Heap.ExtBut it s.heap h'->(∃o,h'.get? e=some o/\o.cls=.type "StopIteration")->E (.ref e) { s with heap:=h' }):wpAny (model prog w) A (Builtin.SmallTypes.nextOf (.ref it)) Q E s:=by
 obtain⟨o,c,n,hd⟩:=id hit;obtain⟨ol,b,_,nl,d⟩:=h;unfold Builtin.SmallTypes.nextOf;refine Na (Ed (name:=Str.ofString "__next__") hit.typeIs Di (N5 Di hit.typeIs FQ ?_ (FL _)));refine(show wpAny _ _ (field (.ref it) 0>>=_) _ _ s from Na (Ey c hd (x:=.ref l) rfl (show wpAny _ _ (if(Value.ref l==Value.none)=true then _ else _) _ _ s from ?_)));rw[if_neg (show¬((Value.ref l==Value.none)=true)from NZ)];refine(show wpAny _ _ (field (.ref it) 1>>=_) _ _ s from Na (Ey c hd (x:=.int i 0) rfl ?_));refine(show wpAny _ _ (seqItems? (.ref l)>>=_) _ _ s from Na (DE b d ?_));simp only[EB,g];refine Na (Dw (Na (EA c hd (by simp) (Na ?_))));simp only[newExc,newTuple];refine Na (N3 ?_ (by size_fits));refine Na (m:=firstArgMember _ _) (Ez (a:=Value.none) (by first|rfl|(simp only[firstArgMember];rfl)) (N3 ?_ (by size_fits)));simp only[raiseNew];refine Na (Lx ?_)
 first|rw[show A.in1.handled=none from f]|rw[f]
 exact Na (Ng (Od (j _ _ (((NP ..).extBut.push _).push _) ⟨_,Nw _ rfl,rfl⟩)))
theorem tit_at{h h':Heap}(x:h.IsTupleIter a t i)(e:∀o,h.get? a=some o->h'.get? a=some o):h'.IsTupleIter a t i:=by obtain⟨o,b,r⟩:=x;exact⟨o,e _ b,r⟩
theorem tup_at{h h':Heap}(x:h.IsTuple a items)(e:∀o,h.get? a=some o->h'.get? a=some o):h'.IsTuple a items:=by obtain⟨o,b,r⟩:=x;exact⟨o,e _ b,r⟩
theorem drawsT(g:A.handled=none)(it l:Addr)(b:l≠it)(items:Array Value):Draws prog w A it [it,l] items.size (fun i v=>items[i]?=some v) (fun i h=>h.IsTupleIter it l i/\h.IsTuple l items) where
 live:=fun _ _ x=>let⟨o,h,_⟩:=x.1;⟨o,h⟩
 frame:=fun _ _ _ st d=>⟨tit_at st.1 fun o e=>d it (by simp) o e,tup_at st.2 fun o e=>d l (by simp) o e⟩
 item:=fun i s Q E f st j=>Qar st.1 st.2 (x:=items[i]) (by simp[f]) fun n a c=>j _ n s.toks (by simp[f]) ⟨a,st.2.extBut c.extBut b⟩ c
 done:=fun s Q E st m=>QbF g st.1 st.2 (by simp) m
end
end St
namespace L2
noncomputable def Ite(K:Nd)(a:Addr)(n:Nat):It:=
  ⟨fun i H=>i<n/\∃b,SqT K H a b/\b.length=n,
   fun i H v c=>∃T x,v=.ref T/\H T=none/\c=upd H T (.tup [.int i,x])/\∀b,SqT K H a b->b[i]?=some x,
   fun i H=>n<=i/\∃b,SqT K H a b/\b.length=n⟩
theorem QbB{K:Nd}(l e it:Addr)(n:Nat)(c:e≠it)(C:l≠e)(B:l≠it):Turn P w K (.Tuple M kk pos) (Ite K l n) [e,it] e (fun i h=>i<=n/\(∃old,IsEnum h e it i old)/\h.IsTupleIter it l i) where
 mem:=by simp
 obj:=fun i h st b d=>by
  obtain⟨_,⟨old,g⟩,⟨o1,N,c1,d1⟩⟩:=st;have j:b=e\/b=it:=by simpa using d
  rcases j with rfl|rfl
  ·exact⟨_,g,fun v q=>nomatch q⟩
  ·exact⟨o1,N,fun v q=>by rw[d1]at q;cases q⟩
 keep:=fun i h h' st k=>by
  obtain⟨m,⟨old,g⟩,h1⟩:=st;exact⟨m,⟨old,k e (by simp) _ g⟩,St.tit_at h1 fun o x=>k it (by simp) o x⟩
 item:=by
  intro X L hw hK hc i z s σ H E I Z st hg;subst L hw hK;obtain⟨m,O,U,hn⟩:=hg;obtain⟨a,S,p,hz⟩:=I.tuple U;have hl:=S.length;obtain⟨_,Q,R⟩:=st;have W:=L9 (prog:=X.prog) (w:=X.w) (St.drawsT (A:=X.A.in1) (I.ok.hd hc) it l B a.toArray) e c (by simp[c,E2 C]) (by simp);refine W.item i s _ _ (by rw[Nj];exact Nn (Nn m (Nr hn.symm)) (Nr hl)) ⟨Q,R,p⟩ fun T vals h' tk L hT G f hk=>?_;obtain⟨t,u,hu,rfl⟩:=L;refine⟨.ref T,rfl,W.go M kk pos i T _ _ _ f fun ai J D=>?_⟩;obtain⟨x,hx⟩:∃x,O[i]?=some x:=⟨O[i]'(Nn m (Nr hn.symm)),Ni _⟩
  obtain⟨v,hv,r⟩:=S.get hx;have N:v=u:=by have:=hu;rw[DI,hv]at this;exact N1 this
  subst N;have ae:=W.apart i T _ f
  have af:IsTup ai T #[.int i t,v]:=by
   obtain⟨o,Y,ab,q⟩:=G;exact⟨o,D T o ae Y,ab,q⟩
  have ah:=I.hok.fresh hT;refine⟨.ref T,_,I.turnedN (ch:=[e,it]) (t':=tk) (xs:=[.int i,x]) (fun b o d e=>D b o d (hk b o d e)) Z hT ⟨by simp[Dj],[.int i t,v],.cons ⟨t,rfl⟩ (.cons r .nil),af⟩,rfl,⟨T,x,rfl,ah,rfl,fun ys hy=>by rw[I.tuple_inj hy U];exact hx⟩,⟨m,J.1,J.2.1⟩,fun b d=>?_⟩;rw[Qo (fun q=>?_)]
  ·exact(Z b d).1
  ·obtain⟨o,Y,_⟩:∃o,s.heap.get? b=some o/\True:=by
    obtain⟨old,g⟩:=Q;obtain⟨o1,N,_⟩:=R;have j:b=e\/b=it:=by simpa using d
    rcases j with rfl|rfl
    ·exact⟨_,g,trivial⟩
    ·exact⟨o1,N,trivial⟩
   rw[q]at Y;exact absurd (Nu Y) (NQ.mpr hT)
 done:=by
  intro X L hw hK hc i z s σ H E I Z st hg;subst L hw hK;obtain⟨m,O,U,hn⟩:=hg;obtain⟨a,S,p,hz⟩:=I.tuple U;have hl:=S.length;obtain⟨aj,Q,R⟩:=st;have W:=L9 (prog:=X.prog) (w:=X.w) (St.drawsT (A:=X.A.in1) (I.ok.hd hc) it l B a.toArray) e c (by simp[c,E2 C]) (by simp);have aa:a.toArray.size=i:=by rw[Nj];lia
  refine W.done s _ _ (by rw[aa];exact⟨Q,R,p⟩) fun h' tk hk=>⟨rfl,?_⟩
  exact I.turnedL (ch:=[e,it]) (fun b o d e=>hk b o d e) Z (fun _ _ e=>e) (fun _ _ _ n=>n) fun b u n e=>by rw[n]at e;cases e
 self:=fun _ _ _ _ _ st h=>let⟨_,g⟩:=st.2.1;Oa g h
noncomputable def QjM(K:Nd)(f:TA):TI:=fun d H R=>f d H fun e c=>∃a b,e=[.ref a]/\SqT K c a b/\R (Ite K a b.length) c
theorem QfM{X:Cx}{i:List Expr}(G:Gl X "enumerate")(D:X.mg "enumerate"=none)(J:PA X [a] v)(A:starEach [a] X.env=[(false,eval a X.env)]:=by rfl) :
  PI X (.Tuple i Q j) (.Call (.Name "enumerate" p) [a] [] pos) (QjM X.K v):=by
 intro d s o H R I h;refine Call_ (Jo I G D boot_enumerate (NV (thn (J pos d s o H _ I h) fun N c r=>?_) A rfl));obtain⟨M,L,I1,x,y⟩:=r;obtain⟨ad,t,e,B,q⟩:=y;subst e;obtain⟨u,rfl,w⟩:=Ua x;cases w;obtain⟨z,P,l,S⟩:=I1.tuple B;have f:ad<c.heap.objs.size:=let⟨_,C,_⟩:=l;Nu C
 refine St.enumT l fun T m hit E=>Oa m ?_;refine⟨c.heap.objs.size+1,[c.heap.objs.size+1,c.heap.objs.size],_,_,L,rfl,I1.kept (t':=c.toks) E,QbB ad _ _ t.length (Nat.succ_ne_self _) (NG (Fg f)) (NG f),⟨NY _,⟨_,m⟩,hit⟩,fun b n=>?_,q⟩
 have g:c.heap.objs.size<=b:=by
  simp at n
  rcases n with h|h<;>(rw[h];first|exact Nx _|exact Nv _ _)
 exact I1.fpOk g (I1.hok.fresh g)
end L2
namespace Mi
open L2
noncomputable def K1(ws:List W):List W:=ws.zipIdx.map fun q=>.tup [.int q.2,q.1]
noncomputable def Gr(c:MA):MI:=fun a h=>(c a h).bind fun p=>match p.1 with
 |[.tup b]=>some (K1 b,none,p.2)
 |_=>none
section
variable{K:Nd}{R:Rn}
theorem Qcu(l:SqT K R.F a xs)(r:Rws K R ws xs):ItOk K R (Ite K a xs.length) (K1 ws) none where
 go:=fun i w p h H x d _ e=>by
  have c:=(Nh.mp e).1;have g:=r.length;unfold K1 at c;rw[NC,LU]at c;exact⟨by exact Nn c (Nr g),xs,QS (fun b o z=>d.sub b o (x.f b o z)) l,rfl⟩
 yld:=fun i w p h H x E e d _ m q=>by
  obtain⟨T,B,rfl,t,rfl,s⟩:=q;unfold K1 at m;rw[Nz,Lq]at m;obtain⟨⟨D,j⟩,A,rfl⟩:=Nf.mp m;obtain⟨C,y,u⟩:=Nf.mp A;cases u;obtain⟨v,g1,g2⟩:=r.get y;have n:=s xs (QS (fun b o z=>d.sub b o (e.f b o z)) l);rw[g1]at n;cases n;rw[NX];exact d.tup t (Rws.cons (by unfold Rw;rfl) (Rws.cons (Rw.mono e _ _ g2) Rws.nil))
 stop:=fun i p h H x d _ c=>by
  have g:=r.length;unfold K1 at c;rw[NC,LU]at c;exact⟨by exact Nl (Nr g.symm) c,xs,QS (fun b o z=>d.sub b o (x.f b o z)) l,rfl⟩
end
section
variable{X:Cx}{tg a:Expr}{ms:MA}{p pos tpos:Pos}{elts:List Expr}{kk:Nat}
theorem Qdj(w:Gl X "enumerate")(u:X.mg "enumerate"=none)(x:PMA X [a] ms)(t:starEach [a] X.env=[(false,eval a X.env)]:=by rfl):PMI X (.Tuple elts kk tpos) (.Call (.Name "enumerate" p) [a] [] pos) (Gr ms):=
 W4 (QfM w u x t) fun B H C j=>by
  obtain⟨R,c,h,items,o,G,s,st,e,k⟩:=j;obtain⟨⟨n,y⟩,z,d⟩:=Nc.mp e;refine⟨R,c,h,n,y,s,st,z,fun R1 A D m b q=>?_⟩;split at d
  ·rename_i E g;simp only at g;subst g;cases d;obtain⟨v,rfl,f⟩:=UF q;unfold Rw at f;obtain⟨ad,l,rfl,i,r⟩:=f;exact⟨ad,l,rfl,QS b.sub i,k R1 A _ m b (Qcu i r)⟩
  ·cases d
end
theorem QiP{K:Nd}(X:K.In h)(G:h.Ns mainGlobals b)(a:D4 K mainGlobals x=some (some (.str y t))):Glob K b x (.str y):=
 ⟨.str y,_,DR X G a,⟨t,rfl⟩,fun _=>Rw.str y⟩
noncomputable def frD:W->List Nat
 |.tup (.ref j::_)=>[j]
 |_=>[]
@[simp]theorem QkS:QeR h (.ref n)=match h[n]? with|some (.dic kvs)=>some kvs|_=>none:=id rfl
@[simp]theorem Qmq:QiZ a (.str x) h=@ob _ _ (fun kvs=>@om _ _ (fun v=>(v,h)) (Qay kvs (.inr x))) (QeR h a):=id rfl
noncomputable def QbH(o:W)(k:Key)(v:W)(σ:MSt)(h:MH):Option MF:=match o with
 |.ref n=>match h[n]? with
  |some (.dic kvs)=>if kvs.length<sizeLine then some (.nx σ (h.set n (.dic (Qe0 kvs k v))))else none
  |_=>none
 |_=>none
@[simp]theorem QlK:QaI mo mi a σ h=@ob _ _ (fun v=>@ob _ _ (fun o=>@ob _ _ (fun i=>@ob _ _ (fun k=>QbH o.1 k v.1 σ i.2) (QgF i.1)) (mi σ o.2)) (mo σ v.2)) (a σ h):=by
 unfold QaI ob QbH;rfl
@[simp]theorem QkY:QgF (.str x)=some (.inr x):=id rfl
@[simp]theorem QiY:QbH (.ref n) k v σ h=match h[n]? with
  |some (.dic kvs)=>if kvs.length<sizeLine then some (.nx σ (h.set n (.dic (Qe0 kvs k v))))else none
  |_=>none:=id rfl
@[simp]theorem Qlm:Qd0 σ h=some (.ref h.length,h++[.dic []]):=id rfl
noncomputable def QdG(a:W)(ws:List W)(h:MH):Option (W×MH):=match ws with
 |[b,v]=>(QeR h a).bind fun kvs=>(QgF b).map fun k=>((Qay kvs k).getD v,h)
 |_=>none
section
variable{X:Cx}
theorem Qc9(hu:X.A.units+64<cLine):Qem X "dict.get" QdG:=by
 intro g s U H x Y v us Q I u B q;obtain⟨R,h,a,Z,w,h',f,E,d,e,k⟩:=q;unfold QdG at e;split at e
 ·rename_i b dv;obtain⟨kvs,S,P⟩:=Nc.mp e;obtain⟨i,O,N⟩:=Nf.mp P;cases N;obtain⟨n,rfl,J⟩:=GZ S;obtain⟨y,z,rfl,D,C⟩:=Qi4 d;obtain⟨uy,uz,rfl,t,r⟩:=QcW B;obtain⟨_,L,kx,G,T⟩:=f.dicAt E J;have M:=Y9 D O;subst M L;obtain rfl:v=Value.ref (R.ρ n):=u;refine QgI (Ew (Ej (by decide) _) hu) I (DGet.k (k:=i) G) t r fun p s' j c=>?_
  rcases UP (k:=i) T with z|⟨p,v',o,m,l⟩
  ·rw[z.2]at c;rw[z.1]at k;exact⟨_,H,j,c,k R H _ (Ext.refl _) f C⟩
  ·rw[m]at c;rw[o]at k;exact⟨_,H,j,c,k R H _ (Ext.refl _) f l⟩
 ·cases e
@[simp]theorem QkP:QdG a [.str x,v] h=@ob _ _ (fun kvs=>some ((Qay kvs (.inr x)).getD v,h)) (QeR h a):=id rfl
end
end Mi
namespace Sb
open PySem SetTable
noncomputable abbrev pz(t:SetTable)(es:Array (Int×Value)):List (Nat×(Int×Value)):=t.place.toList.zip es.toList
structure Tab(t:SetTable)(es:Array (Int×Value)):Prop where
 up:Up t.place
 dum:t.dummies=#[]
 len:t.place.size=es.size
 le:∀j∈t.place.toList,j<=t.mask
 own:∀q∈pz t es,∃n,sj t.mask q.2.1 n=q.1/\∀k,k<n->sj t.mask q.2.1 k∈t.place.toList
theorem Tab.fill(T:Tab t es):t.fill=es.size:=by
 unfold SetTable.fill;rw[T.dum,T.len];rfl
theorem Tab.fits(T:Tab t es)(h:es.size<=t.mask):t.fits es.size=true:=by
 unfold SetTable.fits;rw[T.fill,T.len];simp[h]
theorem Qgj:Up xs↔xs.toList.Pairwise (·<·):=by
 rw[Ig];constructor
 ·intro up i j d c a;have b:j<xs.size:=by rwa[ND]at c
  have:=up i j a b;simpa[At,Array.getD,b,show i<xs.size by exact Ew a b]using this
 ·intro h i j a c;have:=h i j (by rw[ND];exact Ew a c) (by rw[ND];exact c) a;simpa[At,Array.getD,c,show i<xs.size by exact Ew a c]using this
theorem Qfz(m:Nat)(h:Int):∀n,sj m h n<=m/\(sq m h n).j+(sq m h n).more<=m
 |0=>by
  have b:=Qfk m h 0;have c:=QbY b;have a:=U9 m (bk m h 0).1;exact⟨b,show(bk m h 0).1+(runEnd m (bk m h 0).1-(bk m h 0).1)<=m by lia⟩
 |n+1=>by
  obtain⟨b,c⟩:=Qfz m h n;show(adv m (sq m h n)).j<=m/\(adv m (sq m h n)).j+(adv m (sq m h n)).more<=m;unfold adv;split
  ·rename_i d;exact⟨by show(sq m h n).j+1<=m;lia,by show(sq m h n).j+1+((sq m h n).more-1)<=m;lia⟩
  ·have a:(leap m (sq m h n).i (sq m h n).perturb).1<=m:=Fc (Ic _ (DG _));have f:=QbY a;have e:=U9 m (leap m (sq m h n).i (sq m h n).perturb).1;exact⟨a,show(leap m (sq m h n).i (sq m h n).perturb).1+(runEnd m (leap m (sq m h n).i (sq m h n).perturb).1-(leap m (sq m h n).i (sq m h n).perturb).1)<=m by lia⟩
noncomputable abbrev Ow(o:Array (Option Nat))(j:Nat):Option Nat:=o.getD j none
structure Lay(m:Nat)(hs:List Int)(o:Array (Option Nat)):Prop where
 size:o.size=m+1
 own:∀j k,Ow o j=some k->∃h,hs[k]?=some h/\∃n,sj m h n=j/\∀i,i<n->(Ow o (sj m h i)).isSome=true
 all:∀k,k<hs.length->∃j,Ow o j=some k
 one:∀j j' k,Ow o j=some k->Ow o j'=some k->j=j'
theorem Qjh(h:Ow o j=some k):j<o.size:=by
 rcases DH j o.size with z|z
 ·exact z
 ·simp[Ow,Array.getD,NQ.mpr z]at h
theorem Qf5(L:Lay m a o)(d:a.length<=m):∃x,x<=m/\Ow o x=none:=by
 obtain⟨x,b,c⟩:=Qhw (m:=m) (l:=(List.range a.length).map fun k=>if h:k<a.length then Classical.choose (L.all k h)else 0) (by simp;exact d);refine⟨x,b,?_⟩;cases e:Ow o x with
 |none=>rfl
 |some k=>
  exfalso;obtain⟨h,f,_⟩:=L.own x k e;have lt:k<a.length:=(Nh.mp f).1;refine c (NF.mpr ⟨k,Ea.mpr lt,?_⟩);rw[dif_pos lt];exact L.one _ _ k (Ft (L.all k lt)) e
theorem Qb4{m:Nat}(h:Int){o:Array (Option Nat)}(s:o.size=m+1){K:Nat}(j:Ow o (bk m h K).1=none):∀(f k:Nat),k<=K->K<k+f->(∀n,n<ps m h k->(Ow o (sj m h n)).isSome=true) ->
  ∃n,layClean.free m o f (bk m h k).1 (bk m h k).2=some (sj m h n)/\Ow o (sj m h n)=none/\∀i,i<n->(Ow o (sj m h i)).isSome=true
 |0,k,p,u,_=>by omega
 | f+1,k,p,u,l=>by
  unfold layClean.free
  have g:∀c,c<=runEnd m (bk m h k).1-(bk m h k).1->(bk m h k).1+c<o.size:=fun c a=>by
   have:=QbY (Qfk m h k);have:=U9 m (bk m h k).1;omega
  have get:∀c,c<=runEnd m (bk m h k).1-(bk m h k).1->o.getD ((bk m h k).1+c) (some 0)=Ow o (sj m h (ps m h k+c)):=fun c a=>by
   rw[Qga m h k c a];simp[Ow,Array.getD,g c a]
  have hr:runEnd m (bk m h k).1+1-(bk m h k).1=runEnd m (bk m h k).1-(bk m h k).1+1:=by
   have:=U9 m (bk m h k).1;lia
  rw[hr];split
  ·rename_i c a;rw[List.find?_range_eq_some]at a;obtain⟨r,w,v⟩:=a;rw[Ea]at w;rw[get c (by lia)]at r;refine⟨ps m h k+c,by rw[Qga m h k c (by omega)],by simpa using r,fun i t=>?_⟩
   rcases DH i (ps m h k)with z|z
   ·exact l i z
   ·have q:=v (i-ps m h k) (DZ z t);rw[get _ (by lia),show ps m h k+(i-ps m h k)=i by exact FG z]at q;revert q;cases Ow o (sj m h i)<;>simp
  ·rename_i a
   have b:∀n,n<ps m h (k+1)->(Ow o (sj m h n)).isSome=true:=by
    intro n x
    rcases DH n (ps m h k)with z|z
    ·exact l n z
    ·have e:ps m h (k+1)=ps m h k+(runEnd m (bk m h k).1-(bk m h k).1)+1:=rfl;rw[List.find?_eq_none]at a;have:=a (n-ps m h k) (Ea.mpr (by lia));rw[get _ (by lia),show ps m h k+(n-ps m h k)=n by exact FG z]at this;revert this;cases Ow o (sj m h n)<;>simp
   have d:k<K:=by
    rcases DH k K with z|z
    ·exact z
    ·have:k=K:=by exact DW p z
     subst this;have:=b (ps m h k+0) (by show _<ps m h k+_+1;lia);rw[Qga m h k 0 (NY _),Nat.add_zero,j]at this;cases this
   exact Qb4 h s j f (k+1) d (by lia) b
theorem Yh(a:j<o.size):Ow (o.setIfInBounds j (some k)) i=if i=j then some k else Ow o i:=by
 by_cases c:i=j
 ·subst c;simp[Ow,Array.getD,a]
 ·rw[if_neg c];unfold Ow;rw[DK,DK,Array.getElem?_setIfInBounds_ne (E2 c)]
theorem Qgn(F:Full m)(L:Lay m p o)(G:p.length<=m)(h:Int) :
  ∃j,layClean.free m o (turns m) (bits h%(m+1)) (bits h)=some j/\Lay m (p++[h]) (o.setIfInBounds j (some p.length)):=by
 obtain⟨x,E,s⟩:=Qf5 L G;obtain⟨K,H,e⟩:=QfX F h E;obtain⟨n,B,A,y⟩:=Qb4 h L.size (K:=K) (by rw[e];exact s) (turns m) 0 (NY _) (by unfold turns;lia) (fun n s=>absurd s (Dx _))
 have f:sj m h n<o.size:=by
  have:=(Qfz m h n).1;rw[L.size];exact No this (Eg _)
 refine⟨sj m h n,B,?_,?_,?_,?_⟩
 ·rw[Array.size_setIfInBounds];exact L.size
 ·intro j k d;rw[Yh f]at d;split at d
  ·rename_i z;cases d;refine⟨h,by simp,n,z.symm,fun i t=>?_⟩;rw[Yh f];split
   ·rfl
   ·exact y i t
  ·obtain⟨u,r,C,w,v⟩:=L.own j k d;refine⟨u,?_,C,w,fun i t=>?_⟩
   ·rw[NT (Nh.mp r).1];exact r
   ·rw[Yh f];split
    ·rfl
    ·exact v i t
 ·intro k d;rw[Ny,El]at d
  rcases DH k p.length with z|z
  ·obtain⟨j,c⟩:=L.all k z;refine⟨j,?_⟩;rw[Yh f,if_neg]
   ·exact c
   ·rintro rfl
    rw[A]at c;cases c
  ·refine⟨sj m h n,?_⟩;rw[Yh f,if_pos rfl];congr 1;lia
 ·have l:∀j,Ow o j≠some p.length:=fun j z=>by
   obtain⟨u,r,_⟩:=L.own j _ z;have:=(Nh.mp r).1;exact Iq (NB this) this
  intro j D k q g;rw[Yh f]at q g;split at q
  ·cases q;split at g
   ·rename_i a b;rw[a,b]
   ·exact absurd g (l _)
  ·split at g
   ·cases g;exact absurd q (l _)
   ·exact L.one j D k q g
theorem GW(F:Full m):∀(rest a:List Int) (o:Array (Option Nat)),Lay m a o->a.length+rest.length<=m ->
  ∃b,(rest.foldl (init:=some (o,a.length)) fun c h=>do
   let(owner,k) <-c
   let j <-layClean.free m owner (turns m) (bits h%(m+1)) (bits h)
   pure (owner.setIfInBounds j (some k),k+1))=some (b,a.length+rest.length)/\Lay m (a++rest) b
 |[],a,o,L,_=>⟨o,by simp,by simpa using L⟩
 | h::rest,a,o,L,d=>by
  rw[NR]at d;obtain⟨j,l,i⟩:=Qgn F L (Nl (Nv _ _) d) h;obtain⟨b,g,f⟩:=GW F rest (a++[h]) _ i (by rw[Ny,El];lia);refine⟨b,?_,by simpa using f⟩;rw[ID]
  have e:((some (o,a.length):Option (Array (Option Nat)×Nat))>>=fun p=>layClean.free m p.1 (turns m) (bits h%(m+1)) (bits h)>>=fun j=>pure (p.1.setIfInBounds j (some p.2),p.2+1))=some (o.setIfInBounds j (some a.length),(a++[h]).length):=by
   show(layClean.free m o (turns m) (bits h%(m+1)) (bits h)>>=fun j=>pure (o.setIfInBounds j (some a.length),a.length+1))=_;rw[l,Ny];rfl
  refine(congrArg (fun z=>List.foldl _ z rest) e).trans (g.trans ?_);simp;exact D5 _ _ _
theorem QfR(m:Nat):Lay m [] (Array.replicate (m+1) none):=by
 have e:∀j,Ow (Array.replicate (m+1) none) j=none:=fun j=>by
  unfold Ow;rw[DK,Array.getElem?_replicate];split<;>rfl
 refine⟨Array.size_replicate,fun j k h=>?_,fun k h=>absurd h (Dx _),fun j a k h=>?_⟩
 ·rw[e]at h;cases h
 ·rw[e]at h;cases h
theorem Uv(F:Full m)(a:Array Int)(b:a.size<=m):∃o,layClean m a=some o/\Lay m a.toList o:=by
 obtain⟨o,d,c⟩:=GW F a.toList [] _ (QfR m) (by simpa using b);refine⟨o,?_,by simpa using c⟩;unfold layClean;rw[<-Array.foldl_toList];exact congrArg (fun z=>Option.map (·.1) z) d
theorem YR(f:c->Option d):∀(l:List c),((l.filterMap fun j=>(f j).map (j,·)).map (·.1)).Sublist l
 |[]=>.slnil
 |a::l=>by
  rw[Dq];cases f a with
  |none=>exact(YR f l).cons a
  |some b=>exact(YR f l).cons_cons a
theorem Qd3{f:c->Option m}{l:List c}:p∈(l.filterMap fun j=>(f j).map (j,·))↔p.1∈l/\f p.1=some p.2:=by
 rw[FP];constructor
 ·rintro⟨a,g,e⟩
  obtain⟨b,d,rfl⟩:=Nf.mp e;exact⟨g,d⟩
 ·rintro⟨i,h⟩
  exact⟨p.1,i,by rw[h];rfl⟩
theorem Qa7(f:b->d)(g:b->c):∀l:List b,(l.map f).zip (l.map g)=l.map fun x=>(f x,g x)
 |[]=>rfl
 |a::l=>by simp[Qa7 f g l]
theorem Qeb:∀(l:List d),(∀a∈l,f a=some (g a))->l.filterMap f=l.map g
 |[],_=>rfl
 |a::l,h=>by
  rw[Dq,h a Nt,NA,Qeb l fun b c=>h b (Nq _ c)]
theorem WW[BEq d][LawfulBEq d]:∀(l k:List d),l.Nodup->k.Nodup->(∀x,x∈l↔x∈k)->l.Perm k
 |[],k,_,_,h=>by
  have:k=[]:=List.eq_nil_iff_forall_not_mem.mpr fun x b=>nomatch (h x).mpr b
  rw[this]
 | a::l,k,c,e,h=>by
  have f:=(h a).mp Nt;rw[Ef]at c;refine(List.Perm.cons a (WW l (k.erase a) c.2 (e.erase a) fun x=>?_)).trans (Lm f).symm;rw[e.mem_erase_iff];constructor
  ·exact fun b=>⟨fun z=>c.1 (by rw[<-z];exact b),(h x).mp (Nq _ b)⟩
  ·rintro⟨z,b⟩
   rcases NH.mp ((h x).mpr b)with y|y
   ·exact absurd y z
   ·exact y
theorem laid_ok(F:Full m)(es:Array (Int×Value))(O:es.size<=m)(D C:Nat)(led t:Bool) :
  ∃t' u,laid m D C led t (es.map (·.1))=some (t',u)/\t'.mask=m/\t'.led=led/\t'.plain=t/\Tab t' (u.filterMap (es[·]?))/\(u.filterMap (es[·]?)).toList.Perm es.toList:=by
 obtain⟨o,M,L⟩:=Uv F (es.map (·.1)) (by simpa using O);have d:(es.map (·.1)).toList.length=es.size:=by simp
 let live:=(List.range (m+1)).filterMap fun j=>(o.getD j none).map (j,·)
 let g:Nat->Int×Value:=fun k=>es.getD k (0,.none)
 have e:∀p,p∈live↔p.1<m+1/\Ow o p.1=some p.2:=fun p=>by
  show p∈(List.range (m+1)).filterMap (fun j=>(o.getD j none).map (j,·))↔_;rw[Qd3 (f:=fun j=>o.getD j none),Ea]
 have lk:∀p∈live,p.2<es.size:=fun p a=>by
  obtain⟨h,q,_⟩:=L.own p.1 p.2 ((e p).mp a).2;have:=(Nh.mp q).1;rwa[d]at this
 have lt:(live.map (·.1)).Pairwise (·<·):=List.Pairwise.sublist (YR (fun j=>o.getD j none) (List.range (m+1))) List.pairwise_lt_range;have y:∀k,k<es.size->es[k]?=some (g k):=fun k b=>by simp[g,Array.getD,b]
 have A:(((live.map (·.2)).toArray).filterMap (es[·]?)).toList=live.map fun p=>g p.2:=by
  rw[Array.toList_filterMap,E6,Qeb (f:=fun k=>es[k]?) (g:=g),DJ]
  ·rfl
  ·intro k b;obtain⟨p,a,rfl⟩:=NF.mp b;exact y _ (lk p a)
 refine⟨{ mask:=m,place:=(live.map (·.1)).toArray,dummies:=#[],finger:=D,led:=led,moves:=C,plain:=t },(live.map (·.2)).toArray,?_,rfl,rfl,rfl,⟨?_,rfl,?_,?_,?_⟩,?_⟩
 ·unfold laid;rw[M];rfl
 ·rw[Qgj];show((live.map (·.1)).toArray).toList.Pairwise _;rw[E6];exact lt
 ·have:=congrArg List.length A;rw[ND,NC]at this;rw[this];simp
 ·intro j s;have x:j∈live.map (·.1):=by simpa using s
  obtain⟨p,a,rfl⟩:=NF.mp x;have:=((e p).mp a).1;show p.1<=m;lia
 ·intro q r;unfold pz at r;rw[A]at r;have l:q∈(live.map (·.1)).zip (live.map fun p=>g p.2):=by simpa using r
  rw[Qa7]at l;obtain⟨p,a,rfl⟩:=NF.mp l;obtain⟨h,B,n,H,G⟩:=L.own p.1 p.2 ((e p).mp a).2
  have E:(g p.2).1=h:=by
   have P:=y p.2 (lk p a);rw[N7,Array.getElem?_map,P]at B;exact N1 B
  refine⟨n,?_,fun k b=>?_⟩
  ·show sj m (g p.2).1 n=p.1;rw[E];exact H
  ·show sj m (g p.2).1 k∈((live.map (·.1)).toArray).toList;rw[E,E6];have:=G k b;obtain⟨N,w⟩:=Ii.mp this;exact NF.mpr ⟨(sj m h k,N),(e _).mpr ⟨by have:=(Qfz m h k).1;show sj m h k<m+1;exact No this (Eg _),w⟩,rfl⟩
 ·rw[A]
  have J:(live.map (·.2)).Perm (List.range es.size):=by
   refine WW _ _ ?_ Fm fun k=>?_
   ·unfold List.Nodup;rw[F6];rw[F6]at lt;refine Ir ?_ lt;intro p q a r v z;have:=L.one p.1 q.1 p.2 ((e p).mp a).2 (by rw[z];exact((e q).mp r).2);exact Iq (Nr this.symm) v
   ·rw[Ea];constructor
    ·intro b;obtain⟨p,a,rfl⟩:=NF.mp b;exact lk p a
    ·intro b;obtain⟨j,s⟩:=L.all k (by rw[d];exact b);have:=Qjh s;rw[L.size]at this;exact NF.mpr ⟨(j,k),(e _).mpr ⟨this,s⟩,rfl⟩
  have I:(live.map fun p=>g p.2).Perm ((List.range es.size).map g):=by
   have:=J.map g;rwa[DJ]at this
  refine I.trans ?_
  have:(List.range es.size).map g=es.toList:=by
   apply DB;intro i;rw[Nz]
   by_cases c:i<es.size
   ·rw[EM c];exact(y i c).symm.trans (N7 ..).symm
   ·rw[N6 (by simpa using c),N6 (by simpa using c)];rfl
  rw[this]
end Sb
namespace Mi
open L2
theorem Rws.reverse{K:Nd}{R:Rn}:∀{ws:List W} {a:List V},Rws K R ws a->Rws K R ws.reverse a.reverse
 |[],_,h=>by rw[Rws.nil_iff]at h;subst h;exact Rws.nil
 |w::ws,_,h=>by
  rw[Rws.cons_iff]at h;obtain⟨v,a,rfl,c,b⟩:=h;rw[E4,E4];exact Rws.append (Rws.reverse b) (Rws.cons c Rws.nil)
end Mi
namespace St
open SetTable
theorem Qg7:Sb.Full 15:=by unfold Sb.Full;decide +kernel
theorem Qhg:Sb.Full 63:=by unfold Sb.Full;decide +kernel
theorem Gx(h:n<=62):∃m,sizeAbove n=m+1/\Sb.Full m/\n<=m/\m<=63:=by
 have key:∀k:Fin 63,(sizeAbove k.val=8/\k.val<=7)\/(sizeAbove k.val=16/\k.val<=15)\/(sizeAbove k.val=32/\k.val<=31)\/(sizeAbove k.val=64/\k.val<=63):=by decide
 rcases key ⟨n,Ob h⟩with z|z|z|z
 ·exact⟨7,z.1,Sb.full7,z.2,by decide⟩
 ·exact⟨15,z.1,Qg7,z.2,by decide⟩
 ·exact⟨31,z.1,Sb.full31,z.2,by decide⟩
 ·exact⟨63,z.1,Qhg,z.2,by decide⟩
section
variable{prog:Program}{w:World}{A:Around}{E:Value->Shared->Prop}{s:Shared}
theorem Qcw{a:Addr}{ks:List Str}{es es':Array (Int×Value)}{o:Obj}{v:Nat}{t t':SetTable}{i:Array (Int×Value)}{Q:Unit->Shared->Prop}(j:s.heap.get? a=some o)(m:o.ExactSet)(hd:o.data=.set i v t)
  (f:ElemsOf (strKind prog w) es.toList) (l:es.size<scanBound) (pm:es'.toList.Perm es.toList) (q:t'.fits es'.size=true) (c:es.size=0\/t'.plain=false) (d:ks.Nodup) (n:es.size=ks.length) (b:∀k,k∈ks↔∃e∈es.toList,(strKind prog w).is k e.2=true)
  (h:∀h',Heap.SameBut a s.heap h'->SetL prog w h' a ks t'.led->Q () { s with heap:=h' }):wpAny (model prog w) A (storeSet a es' t') Q E s:=by
 have sz:es'.size=es.size:=by rw[<-ND,pm.length_eq,ND]
 obtain⟨g1,g2,⟨u,g3⟩,r⟩:=stored (prog:=prog) (w:=w) (es':=es') (t':=t') (ks:=ks) j m hd (f.perm pm) (by rw[sz];exact l) q (by rw[sz];exact c) d (by rw[sz];exact n) fun k=>by
  rw[b k];exact⟨fun⟨e,g,p⟩=>⟨e,pm.mem_iff.mpr g,p⟩,fun⟨e,g,p⟩=>⟨e,pm.mem_iff.mp g,p⟩⟩
 exact Ff j hd (h _ (NP ..) r) (F4 (by rw[sz];exact l))
theorem Qit{a:Addr}{ks:List Str}{led:Bool}{c:Nat}{Q:Unit->Shared->Prop}(J:SetL prog w s.heap a ks led)(hw:c<=62)(M:ks.length<=c)
  (h:∀h',Heap.SameBut a s.heap h'->SetL prog w h' a ks led->Q () { s with heap:=h' }):wpAny (model prog w) A (setRelay a c) Q E s:=by
 obtain⟨o,b,O,t,q,D,hd,l,I,H,f,i,j,G,e⟩:=J;obtain⟨m,r,F,N,L⟩:=Gx hw;unfold setRelay;refine Na (NJ q hd H ?_);dsimp only;have big:¬sizeAbove c>sizeLine:=by rw[r,Dj];exact NQ.mpr (No L (by decide))
 rw[if_neg big];obtain⟨n,g,C,B,y,x,v,p⟩:=Sb.laid_ok F b (by omega) t.finger (t.movedTo m) t.led t.plain
 have rel:t.relaid (b.map (·.1)) c=some (n,g):=by
  unfold relaid;rw[r];exact C
 rw[rel];refine Na ?_;have d:(g.filterMap (b[·]?)).size=b.size:=by rw[<-ND,p.length_eq,ND]
 show wpAny _ _ (do
  if(g.filterMap (b[·]?)).size != b.size then unsupported "internal:set-table-lost-an-element"
  pure (g.filterMap (b[·]?),n)) _ _ _
 rw[if_neg (by rw[d];simp)];refine Na (Ng (Ng ?_));dsimp only;refine Qcw (ks:=ks) q D hd l I p (v.fits (by rw[d,B];omega)) ?_ j G e fun h' u z=>h h' u (by rw[<-f,<-y];exact z)
 rcases i with z|z
 ·exact .inl z
 ·exact .inr (x.trans z)
end
section
variable{prog:Program}{w:World}{A:Around}{E:Value->Shared->Prop}{s:Shared}
def Emp(h:Heap)(a:Addr)(led:Bool)(n:Nat):Prop:=∃o b t,h.get? a=some o/\o.ExactSet/\o.data=.set #[] b t/\t.fill=0/\t.fits 0=true/\t.led=led/\Sb.Full t.mask/\n<=t.mask
theorem Qko{r:Addr}{led:Bool}{n:Nat}{Q:Unit->Shared->Prop}(hr:s.heap.get? r=some (Qp led))(u:n<=31)
  (h:∀h',Heap.SameBut r s.heap h'->Emp h' r led n->Q () { s with heap:=h' }):wpAny (model prog w) A (setRoomFor r n) Q E s:=by
 unfold setRoomFor;refine Na (NJ hr rfl (show(fresh 0 0 led).fits 0=true from rfl) ?_)
 have q:(fresh 0 0 led).roomFor n=if n*5 >= 21 then some (n*2)else none:=by
  show(if(0+n)*5 >= 7*3 then some ((0+n)*2)else none)=_;rw[NX]
 dsimp only;rw[q]
 by_cases g:n*5 >= 21
 ·rw[if_pos g];dsimp only;obtain⟨m,e,F,v,p⟩:=Gx (n:=n*2) (by omega);unfold setRelay;refine Na (NJ hr rfl (show(fresh 0 0 led).fits 0=true from rfl) ?_);dsimp only;have big:¬sizeAbove (n*2)>sizeLine:=by rw[e,Dj];exact NQ.mpr (No p (by decide))
  rw[if_neg big];obtain⟨a,b,o,l,j,t,d,i⟩:=Sb.laid_ok F #[] (NY _) (fresh 0 0 led).finger ((fresh 0 0 led).movedTo m) (fresh 0 0 led).led (fresh 0 0 led).plain
  have rel:(fresh 0 0 led).relaid ((#[]:Array (Int×Value)).map (·.1)) (n*2)=some (a,b):=by
   unfold relaid;rw[e];exact o
  rw[rel];refine Na ?_;have c:(b.filterMap ((#[]:Array (Int×Value))[·]?)).size=0:=by rw[<-ND,i.length_eq];rfl
  have f:b.filterMap ((#[]:Array (Int×Value))[·]?)=#[]:=FC c
  show wpAny _ _ (do
   if(b.filterMap ((#[]:Array (Int×Value))[·]?)).size != (#[]:Array (Int×Value)).size then unsupported "internal:set-table-lost-an-element"
   pure (b.filterMap ((#[]:Array (Int×Value))[·]?),a)) _ _ _
  rw[if_neg (by rw[c];simp)];refine Na (Ng (Ng ?_));dsimp only;rw[f];rw[f]at d;refine Ff hr rfl (h _ (NP ..) ?_) (by decide);have g1:(s.heap.update r (Obj.putSet #[] a)).get? r=some (Obj.putSet #[] a (Qp led)):=NU _ hr rfl;exact⟨_,_,a,g1,⟨rfl,rfl,rfl⟩,rfl,d.fill,d.fits (NY _),j,by rw[l];exact F,by omega⟩
 ·rw[if_neg g];exact Ng (h s.heap (DC r s.heap) ⟨_,_,_,hr,⟨rfl,rfl,rfl⟩,rfl,rfl,rfl,rfl,Sb.full7,by show n<=7;omega⟩)
theorem Qez{r o:Addr}{ks:List Str}{led:Bool}{y:Sem Unit}{Q:Unit->Shared->Prop}(hr:s.heap.get? r=some (Qp led))(hS:SetL prog w s.heap o ks led)(H:r≠o)(hk:ks.length<=31)
  (h:∀h',Heap.SameBut r s.heap h'->SetL prog w h' r ks led->(ks=[]->h'=s.heap)->Q () { s with heap:=h' }):wpAny (model prog w) A (setMerge r o y) Q E s:=by
 obtain⟨ob,a,ep,t,ho,hx,hd,x,T,S,e,G,q,I,d⟩:=hS;unfold setMerge;rw[if_neg (by simpa using H)];refine Na (NJ ho hd S ?_);dsimp only
 by_cases B:a.isEmpty=true
 ·rw[if_pos B];have O:a.size=0:=by simpa[Array.isEmpty]using B
  have J:ks=[]:=NM.mp (by omega);subst J;exact Ng (h s.heap (DC r s.heap) (Ym hr) fun _=>rfl)
 ·rw [if_neg B];have O:a.size≠0:=by simpa[Array.isEmpty]using B
  have f:ks≠[]:=fun z=>O (by rw[I,z];rfl);refine Na (Qko hr (n:=a.size) (by omega) fun N l em=>?_);obtain⟨o1,aa,j,g,m,i,M,L,v,F1,u⟩:=em;have c:t.plain=false:=by rcases G with z|z;exact absurd z O;exact z
  refine Na (NJ (s:={ s with heap:=N }) g i L ?_);dsimp only;unfold road;rw[if_neg (by rw[M];decide)];split
  ·rename_i b;split at b
   ·exact Qcw (s:={ s with heap:=N }) (ks:=ks) (es:=a) g m i x T (Lb _) S (.inr (by show(j.plain&&t.plain)=false;rw[c,E7])) q I d fun h' C z=>h h' (l.trans C) (by
     have:(j.led&&t.led)=led:=by rw[v,e,ON]
     rw[<-this];exact z) fun z=>absurd z f
   ·cases b
  ·rename_i b;obtain⟨P,D,l1,l2,Z,Y,U,R⟩:=Sb.laid_ok F1 a u j.finger j.moves (j.led&&t.led) (j.plain&&t.plain);rw[l1];have p:(D.filterMap (a[·]?)).size=a.size:=by rw[<-ND,R.length_eq,ND]
   refine Na ?_
   show wpAny _ _ (do
    if(D.filterMap (a[·]?)).size != a.size then unsupported "internal:set-table-lost-an-element"
    pure (D.filterMap (a[·]?),P)) _ _ _
   rw[if_neg (by rw[p];simp)];refine Na (Ng (Ng ?_));dsimp only
   exact Qcw (s:={ s with heap:=N }) (ks:=ks) (es:=a) g m i x T R (U.fits (by rw[p,l2];exact u)) (.inr (by rw[Y,c,E7])) q I d fun h' C z=>h h' (l.trans C) (by
     have:P.led=led:=by rw[Z,v,e,ON]
     rw[<-this];exact z) fun z=>absurd z f
  ·rename_i b;split at b<;>cases b
end
section
variable{prog:Program}{w:World}{A:Around}{E:Value->Shared->Prop}{s:Shared}
theorem Qkp{o:Addr}{ob:Obj}{es:Array (Int×Value)}{f:Nat}{t:SetTable}{Q:Array (Int×Value)->Shared->Prop}(c:s.heap.get? o=some ob)(hd:ob.data=.set es f t)(e:t.fits es.size=true)(a:es.size=0\/t.plain=false)
  (h:∀xs d,xs.toList.Perm es.toList->Q xs { s with drawn:=d }):wpAny (model prog w) A (setWalk o) Q E s:=by
 unfold setWalk;refine Na (NJ c hd e ?_);dsimp only;unfold setsByText;refine Na (Na (Et (Ng ?_)));dsimp only;split
 ·exact Na (Et (Ng (h _ s.drawn (Uk _ _))))
 ·show wpAny _ _ (if(!t.plain&&decide (es.size>1))=true then(do return(<-drawOrder es.size es.toList).toArray)else do
   (if(!t.led&&decide (es.size>1))=true then unsupported "set:maker-not-led"else pure ())
   return es) _ _ _
  split
  ·exact Na (KP _ _ _ _ (ND).symm fun g d p=>Ng (h _ d (by simpa using p)))
  ·rename_i b
   have i:¬es.size>1:=fun z=>b (by
    rcases a with q|q
    ·omega
    ·rw[q];simpa using z)
   rw[if_neg (by simp;intro _;omega)];exact Na (Ng (Ng (h _ s.drawn (Lb _))))
theorem QhO{es:List (Int×Value)}(a:ElemsOf (strKind prog w) es):∀e∈es,∃x c,e.2=.str x c:=fun e d=>by
 obtain⟨⟨k,b,_⟩,_⟩:=a e d;obtain⟨c,f⟩:=Dn b;exact⟨k,c,f⟩
end
section
variable{prog:Program}{w:World}{A:Around}{E:Value->Shared->Prop}{s:Shared}
theorem Qav{Q:Bool->Shared->Prop}{d:List Addr}(y:∀a∈d,∃ks led,SetL prog w s.heap a ks led)(h:Q true s):wpAny (model prog w) A (setsQuiet d) Q E s:=by
 unfold setsQuiet;refine Na (wpAny_forIn_list _ (fun l b j=>(∀a∈l,∃ks led,SetL prog w j.heap a ks led)/\b.1=none/\j=s) _ ?_ ?_ d _ ⟨y,rfl,rfl⟩)
 ·rintro a rest b j ⟨q,i,rfl⟩
  obtain⟨ks,led,o,H,J,t,z,I,hd,p,D,B,_⟩:=q a Nt;unfold setEntries;refine Na (Na (NJ z hd B (Ng ?_)));dsimp only;refine Na (LV _ (fun l b f=>(∀e∈l,∃x c,e.2=.str x c)/\b.1=none/\f=j) _ ?_ ?_ H _ ⟨QhO p,rfl,rfl⟩)
  ·rintro e n b f ⟨m,i,rfl⟩
   obtain⟨x,c,r⟩:=m e Nt;obtain⟨g,v⟩:=e;dsimp only at r;subst r;exact Ng ⟨fun e C=>m e (Nq _ C),rfl,rfl⟩
  ·rintro⟨b,u⟩ f ⟨_,i,rfl⟩
   dsimp only at i;subst i;exact Ng ⟨fun a G=>q a (Nq _ G),rfl,rfl⟩
 ·rintro⟨b,u⟩ j ⟨_,i,rfl⟩
  dsimp only at i;subst i;exact Ng h
theorem Qgo{o r:Addr}{ob:Obj}{es:Array (Int×Value)}{M:Nat}{t:SetTable}{c g:List Str}{led:Bool}{Q:Array (Int×Value)->Shared->Prop}(v:s.heap.get? o=some ob)(hd:ob.data=.set es M t)(y:t.fits es.size=true)(i:es.size=0\/t.plain=false)(f:t.led=led)
  (I:SetL prog w s.heap o g led) (hr:SetL prog w s.heap r c led) (m:c≠[])
  (h:∀xs d,xs.toList.Perm es.toList->Q xs { s with drawn:=d }):wpAny (model prog w) A (setWalkUnseen o [r] (some r)) Q E s:=by
 unfold setWalkUnseen;refine Na (NJ v hd y ?_);dsimp only;unfold setsByText;refine Na (Na (Et (Ng ?_)));dsimp only;split
 ·exact Qkp v hd y i h
 ·refine Na (Qav (fun a u=>?_) ?_)
  ·rcases NH.mp u with rfl|u
   ·exact⟨_,_,I⟩
   ·rw[NO.mp u];exact⟨_,_,hr⟩
  ·rw[if_neg (by decide)];refine Na (Dw ?_);obtain⟨N,J,L,C,l,D,q,B,H,p,b,e,x,G,n⟩:=hr
   have j:C.plain=false:=by
    rcases e with z|z
    ·exact absurd (NM.mp (by omega)) m
    ·exact z
   refine Na (NJ l q p ?_);dsimp only;rw[if_neg (by rw[b,f,j];cases led<;>simp)];exact Ng (h es s.drawn (Lb _))
end
section
variable{prog:Program}{w:World}{A:Around}{E:Value->Shared->Prop}{s:Shared}
theorem QjD{r:Addr}{ks:List Str}{led:Bool}{n:Nat}{Q:Unit->Shared->Prop}(hr:SetL prog w s.heap r ks led)(v:ks.length+n<=31)
  (h:∀h',Heap.SameBut r s.heap h'->SetL prog w h' r ks led->Q () { s with heap:=h' }):wpAny (model prog w) A (setRoomFor r n) Q E s:=by
 have b:=hr;obtain⟨o,p,y,t,j,u,hd,m,x,d,g,i,l,c,f⟩:=hr;unfold setRoomFor;refine Na (NJ j hd d ?_)
 have e:t.place.size=p.size:=by
  unfold SetTable.fits at d;simp at d;exact d.1
 dsimp only;unfold roomFor;split
 ·rename_i q a;split at a
  ·cases a;exact Qit b (by rw[e,c];omega) (by rw[e,c];omega) h
  ·cases a
 ·exact Ng (h s.heap (DC r s.heap) b)
theorem Qh8{r o:Addr}{f a:List Str}{led:Bool}{id:String}{Q:Unit->Shared->Prop}(hr:SetL prog w s.heap r f led)(hS:SetL prog w s.heap o a led)(i:r≠o)(h1:f≠[])(hk:f.length+a.length<=31)
  (h:∀h' d m,Heap.SameBut r s.heap h'->SetL prog w h' r m led->(∀k,k∈m↔k∈f\/k∈a)->Q () { s with heap:=h',drawn:=d }):wpAny (model prog w) A (Builtin.Frozenset.merge id r o) Q E s:=by
 have aq:=hS;obtain⟨ob,es,ep,t,U,hx,hd,an,hb,P,O,ae,aw,hn,N⟩:=hS;unfold Builtin.Frozenset.merge setEpoch;refine Na (Na (NJ U hd P (Ng ?_)));dsimp only;unfold setMerge;rw[if_neg (by simpa using i)];refine Na (NJ U hd P ?_);dsimp only
 by_cases hz:es.isEmpty=true
 ·rw[if_pos hz];have h0:es.size=0:=by simpa[Array.isEmpty]using hz
  have ak:a=[]:=NM.mp (by omega);subst ak;exact Ng (h s.heap s.drawn f (DC r s.heap) hr fun k=>by simp)
 ·rw [if_neg hz];refine Na (QjD hr (n:=es.size) (by omega) fun j y J=>?_);have af:j.get? o=some ob:=by rw[y.2 o i.symm];exact U
  have ap:SetL prog w j o a led:=aq.at fun o' e=>by rw[y.2 o i.symm];exact e
  have v:=J;obtain⟨o1,az,a0,t1,M,av,ao,au,ay,G,ai,ar,as,ax,ah⟩:=J;refine Na (NJ (s:={ s with heap:=j }) M ao G ?_);dsimp only
  have D:t1.fill≠0:=by
   unfold SetTable.fits at G;simp at G;have:f.length≠0:=fun z=>h1 (NM.mp z);unfold SetTable.fill;omega
  have B:t1.road t=.oneByOne:=by
   unfold road;rw[if_pos (by simpa using D)]
  rw[B];dsimp only;refine Na (Qgo (s:={ s with heap:=j }) af hd P ae O ap v h1 fun T d pm=>?_)
  have hex:∀e∈T.toList,∃x c,e=((strKind prog w).hash x,Value.str x c):=fun e g=>by
   obtain⟨⟨k,am,al⟩,_⟩:=an e (pm.mem_iff.mp g);obtain⟨c,hc⟩:=Dn am;exact⟨k,c,by rw[<-al,<-hc]⟩
  have S:∀k,k∈a↔∃e∈T.toList,(strKind prog w).is k e.2=true:=fun k=>by
   rw[N k];exact⟨fun⟨e,g,p⟩=>⟨e,pm.mem_iff.mpr g,p⟩,fun⟨e,g,p⟩=>⟨e,pm.mem_iff.mp g,p⟩⟩
  have aa:T.toList.length=a.length:=by rw[pm.length_eq,ND,hn]
  refine Na (LV _ (fun l _ Z=>∃h' m,Z={ s with heap:=h',drawn:=d }/\Heap.SameBut r s.heap h'/\SetL prog w h' r m led/\(∀e∈l,∃x c,e=((strKind prog w).hash x,Value.str x c))/\(∀k,(k∈m\/∃e∈l,(strKind prog w).is k e.2=true)↔k∈f\/k∈a)/\m.length+l.length<=62) _ ?_ ?_ T _ ⟨j,f,rfl,y,v,hex,fun k=>by rw[S k],by rw[aa];omega⟩)
  ·rintro e rest b Z ⟨h2,m,rfl,u,hu,R,C,aj⟩
   obtain⟨x,c,rfl⟩:=R e Nt;rw[NR]at aj;dsimp only;refine Na (Ek (QkO (s:={ s with heap:=h2,drawn:=d }) hu (by have:scanBound=4096:=rfl;omega) fun b' Y H ab=>?_));have L:Y.get? o=some ob:=by rw[H.2 o i.symm,u.2 o i.symm];exact U
   unfold Builtin.Frozenset.unchanged setEpoch;refine Na (Na (Na (NJ (s:={ s with heap:=Y,drawn:=d }) L hd P (Ng ?_))));rw[if_neg (by simp)];refine Ng (Na (NJ (s:={ s with heap:=Y,drawn:=d }) L hd P ?_));rw[if_neg (by simp)];refine Ng ⟨Y,_,rfl,u.trans H,ab,fun e g=>R e (Nq _ g),fun k=>?_,?_⟩
   ·rw [<-C k];have I:(strKind prog w).is k (Value.str x c)=true↔k=x:=⟨fun z=>(strKind prog w).inj _ _ _ z (G0 x c),fun z=>by rw[z];exact G0 x c⟩
    constructor
    ·rintro(z|⟨e,g,p⟩)
     ·split at z
      ·exact .inl z
      ·rcases Eo.mp z with z|z
       ·exact .inl z
       ·exact .inr ⟨_,Nt,I.mpr (NO.mp z)⟩
     ·exact .inr ⟨e,Nq _ g,p⟩
    ·rintro(z|⟨e,g,p⟩)
     ·left;split
      ·exact z
      ·exact NS _ z
     ·rcases NH.mp g with rfl|g
      ·left;have:=I.mp p;split
       ·rename_i q;rw[this];exact q
       ·rw[this];simp
      ·exact .inr ⟨e,g,p⟩
   ·split
    ·omega
    ·rw[Ny,El];omega
  ·rintro b Z ⟨h2,m,rfl,u,hu,_,C,_⟩
   exact Ng (h h2 d m u hu fun k=>by simpa using C k)
end
theorem QiE:entryFor table "set.__or__"=some Builtin.«frozenset.__or__»:=FK (id':="frozenset.__or__") (by kernel_rfl) rfl (by decide +kernel) (by kernel_rfl)
theorem QjG(a b:Value):argsOk "set.__or__" ⟨[a,b],[]⟩:=by unfold argsOk;kernel_rfl
section
variable{prog:Program}{w:World}{A:Around}{E:Value->Shared->Prop}{s:Shared}
theorem Qj6{S:Addr}{Q:Bool->Shared->Prop}(t:s.TypeIs (.ref S) "set")(h:Q true s):wpAny (model prog w) A (Builtin.Frozenset.isAnySet (.ref S)) Q E s:=by
 obtain⟨o,g,f⟩:=t;obtain⟨d,b,c,a⟩:=o;simp only at f;subst f;have e:=LR;unfold Builtin.Frozenset.isAnySet
 wp_walk
 exact h
end
section
variable{prog:Program}{w:World}{A:Around}{E:Value->Shared->Prop}{s:Shared}
theorem SetL.ty{h:Heap}{a:Addr}{ks:List Str}{led:Bool}(d:SetL prog w h a ks led){s:Shared}(e:s.heap=h):s.TypeIs (.ref a) "set":=by
 subst e;obtain⟨o,f,g,t,c,b,hr⟩:=d;exact⟨o,c,b.1⟩
theorem Qmh{r o:Addr}{a b:List Str}{id:String}{Q:Unit->Shared->Prop}(hr:SetL prog w s.heap r a (ledW w))(e:SetL prog w s.heap o b (ledW w))(c:r≠o)(z:a=[]->s.heap.get? r=some (Qp (ledW w)))(n:a.length+b.length<=31)
  (h:∀h' d i,Heap.SameBut r s.heap h'->SetL prog w h' r i (ledW w)->(∀k,k∈i↔k∈a\/k∈b)->Q () { s with heap:=h',drawn:=d }):wpAny (model prog w) A (Builtin.Frozenset.updateFrom id r (.ref o)) Q E s:=by
 unfold Builtin.Frozenset.updateFrom;refine Na (Qj6 (e.ty rfl) ?_);rw[if_pos rfl];refine Na (Ng ?_)
 by_cases j:a=[]
 ·subst j;unfold Builtin.Frozenset.merge;have g:=e;obtain⟨ob,G,H,t,u,B,hd,y,D,x,m,q,v,C,l⟩:=e;unfold setEpoch;refine Na (Na (NJ u hd x (Ng ?_)));exact Qez (z rfl) g c (by simpa using n) fun h' p f _=>h h' s.drawn b p f fun k=>by simp
 ·exact Qh8 hr e c j n h
theorem unionL{a b:Addr}{g f:List Str}{Q:Value->Shared->Prop}(J:SetL prog w s.heap a g (ledW w))(I:SetL prog w s.heap b f (ledW w))(C:a≠b)(hk:g.length+f.length<=31)
  (h:∀h' d u,(∀c o,s.heap.get? c=some o->h'.get? c=some o)->SetL prog w h' s.heap.objs.size u (ledW w)->(∀k,k∈u↔k∈g\/k∈f)->Q (.ref s.heap.objs.size) { s with heap:=h',drawn:=d }) :
  wpAny (model prog w) A (binaryOp .BitOr (.ref a) (.ref b)) Q E s:=by
 have L:s.TypeIs (.ref a) "set":=J.ty rfl;have S:s.TypeIs (.ref b) "set":=I.ty rfl;refine wpAny_binaryOp_same (T:="set") L S F.fills_set_or F.slot_set_or ?_;refine N5 F.slot_set_or L QiE ?_ (QjG _ _);have t:=J;have r:=I;obtain⟨⟨c1,d1,q1,Y⟩,ae,ah,R,aa,⟨q,n,l⟩,r1⟩:=J;obtain⟨⟨c2,d2,q2,U⟩,ab,af,P,Z,⟨p,m,j⟩,r2⟩:=I;simp only at q n l p m j;subst q n l p m j;have N:=LR;unfold Builtin.«frozenset.__or__»
 wp_walk
 refine Et (Ng ?_);dsimp only;simp only[if_true,newObj];have O:(s.heap.push (Qp (ledW w))).get? s.heap.objs.size=some (Qp (ledW w)):=Nw _ rfl;have H:SetL prog w (s.heap.push (Qp (ledW w))) a g (ledW w):=t.at fun o e=>Nk _ e;have x:s.heap.objs.size≠a:=Db t.lt;have i:s.heap.objs.size≠b:=Db r.lt;refine Na (wpAny_alloc (Ng ?_))
 show wpAny _ _ (do
  setMerge s.heap.objs.size a
  pure (Value.ref s.heap.objs.size)) _ _ _
 refine Na (Qez (s:={ s with heap:=s.heap.push (Qp (ledW w)) }) O H x (by omega) fun h' M G he=>Ng ?_);dsimp only;have B:SetL prog w h' b f (ledW w):=r.at fun o e=>by rw[M.2 b i.symm];exact Nk _ e
 have y:((Value.ref b != Value.ref a)=true):=by simp[bne];exact fun z=>C z.symm
 simp only[EU,if_false];rw[if_pos y];refine Na (Ng ?_);refine Na (Ek (Qmh (s:={ s with heap:=h' }) G B i (fun z=>by rw[he z];exact O) hk fun h3 d u v D hm=>Ng (Ng ?_)));refine⟨_,rfl,by simp,h h3 d u (fun c o e=>?_) D hm⟩;rw[v.2 c (NG (Nu e)),M.2 c (NG (Nu e))];exact Nk _ e
end
theorem uniq_nd:∀(n:Nat) (l:List PySem.Str),l.length=n->(uniq l).Nodup:=by
 intro n
 induction n with
 |zero=>intro l h;rw[NM.mp h];exact EV
 |succ n d=>
  intro l h;have c:l≠[]:=fun z=>by rw[z]at h;cases h
  rw[<-E8 c,uniq_snoc];have hd:=d l.dropLast (by rw[Lk,h];rfl);split
  ·exact hd
  ·rename_i q;exact F3.mpr ⟨hd,List.pairwise_singleton _ _,fun a f b e z=>q (by rw[NO.mp e]at z;rw[<-z];exact f)⟩
theorem nd_lenEq{a b:List PySem.Str}(d:a.Nodup)(c:b.Nodup)(h:∀k,k∈a↔k∈b):a.length=b.length:=((List.perm_ext_iff_of_nodup d c).mpr h).length_eq
end St
namespace Mi
open L2
noncomputable def YN(ws:List W)(h:MH):Option (W×MH):=match ws with
 |[a]=>(lsW h a).bind fun c=>(txW c).bind fun b=>if b.length<4000 then some (.int (St.uniq b).length,h)else none
 |_=>none
noncomputable def GP(ws:List W)(h:MH):Option (W×MH):=match ws with
 |[a,b]=>(lsW h a).bind fun f=>(txW f).bind fun d=>(lsW h b).bind fun e=>(txW e).bind fun c=>if d.length<4000/\c.length<4000/\(St.uniq d).length+(St.uniq c).length<=31 then some (.int (St.uniq (d++c)).length,h)else none
 |_=>none
section
variable{X:Cx}
theorem YF{e:Expr}{me:ME}{p2 i:Pos}{c:List (Addr×Obj)}{s:Shared}{σ:L2.St}{H:Hp}{R:Rn}{g:MSt}{h l:MH}{a:W}{D:List W}{ss:List Str}(hc:X.calm=true)(B:Gl X "set")(r:X.mg "set"=none)(he:PM X e me)(G:Z8 e=false)
  (I:Inv X c σ H s) (Z:Rh X.K R h H) (st:Rst X.K R g σ) (e4:me g h=some (a,l)) (e8:lsW l a=some D) (C:txW D=some ss) (hz:ss.length<4000) {Q:Value->Shared->Prop}
  (k:∀S o m O R2,Inv X ((S,o)::c) σ O m->St.SetL X.prog X.w m.heap S (St.uniq ss) (St.ledW X.w)->m.heap.get? S=some o->Ext R R2->Rh X.K R2 l O->(∀p∈c,p.1≠S)->Q (.ref S) m) :
  wpAny (model X.prog X.w) X.A (eval (.Call (.Name "set" p2) [e] [] i) X.env) Q X.xe s:=by
 refine Ee (Jo I B r boot_set (NV ?_ (Qn G) (Zg rfl)) (by decide) (by decide));rw[Qn G];refine EE (thn (he c s σ H (fun v M=>∃R2,Ext R R2/\Rh X.K R2 l M/\Rw X.K R2 a v) I ⟨R,g,h,a,l,Z,st,e4,fun R2 M v x d q=>⟨R2,x,d,q⟩⟩) fun u T ⟨v,N,I1,Y,R2,P,d,q⟩=>EH ?_);obtain⟨ad,xs,rfl,q1,E⟩:=d.lsAt q e8;cases Y;rw[Qbf C]at E;obtain⟨aa,U,pl,hl⟩:=I1.list q1;have L:=QbD E U;have y:=FJ L;refine St.set_list (I1.ok.hd hc) pl.isList (by rw[E6];exact L) (by rw[Nj,y];show ss.length+1<4096;lia) fun g1 n f k1=>?_;obtain⟨o,es,ep,t,J,hx,hd,hr⟩:=id f;have I2:Inv X c σ N { T with heap:=g1,toks:=n }:=I1.kept fun b u e=>k1 b u (Nu e) e;refine k _ o _ N R2 (I2.pins_of fun p j=>?_) f J P d fun p j=>NG (Nu (I1.pin p (NI _ j)).1)
 rcases NH.mp j with rfl|j
 ·exact⟨J,I1.fresh,Db I1.lt,I1.nofs (Nx _),fun v z=>by rw[hd]at z;cases z⟩
 ·exact I2.pin p (NI _ j)
theorem Gf{a pins':List (Addr×Obj)}{s:Shared}{σ:L2.St}{H:Hp}{S:Addr}{b:List Str}(I:Inv X a σ H s)(p:St.SetL X.prog X.w s.heap S b (St.ledW X.w)){Q:Value->Shared->Prop}(k:∀t c,Inv X a σ H c->Q (.int b.length t) c) :
  wpAny (model X.prog X.w) X.A (call (.builtin "len") [.ref S]) Q X.xe s:=by
 obtain⟨o,q,r,t,h,f,hd,m,n,l,e,g,i,j,d⟩:=p;refine call_len_set h f hd l (by have:scanBound=4096:=rfl;rw[this]at n;lia) ?_;rw[j];exact k _ _ (I.tok _)
theorem QbT{x n d b:Pos}(G:X.calm=true)(D:Gl X "len")(C:X.mg "len"=none)(j:Gl X "set")(i:X.mg "set"=none)(E:PM X e me)(A:Z8 e=false:=by rfl) :
  PM X (.Call (.Name "len" x) [.Call (.Name "set" n) [e] [] b] [] d) (mFn YN (Qa me Qd)):=by
 intro m s σ H Q I ⟨R,q,h,w,h',v,st,Z,y⟩;obtain⟨⟨as,h2⟩,Y,U⟩:=Nc.mp Z;obtain⟨⟨a,h1⟩,T,P⟩:=Nc.mp Y;obtain⟨⟨bs,h3⟩,O,N⟩:=Nc.mp P;cases O;cases N;refine Ee (Jo I D C Lc (EY ?_ (Qn rfl) (Zg rfl)) (by decide) (by decide));rw[Qn (e:=.Call (.Name "set" n) [e] [] b) rfl];obtain⟨ys,M,L⟩:=Nc.mp U;obtain⟨u,l,c⟩:=Nc.mp L;split at c
 ·rename_i z;cases c;refine EE (YF G j i E A I v st T M l z fun S o s1 H1 R2 I1 J ho r f _=>EH (Gf (pins':=[]) I1 J fun t s2 I2=>?_));exact⟨.int (St.uniq u).length,H1,I2.pins_of fun p B=>I2.pin p (NI _ (Nq _ B)),⟨t,rfl⟩,y R2 _ _ r f (by unfold Rw;rfl)⟩
 ·cases c
theorem QdB{p1 p2 p3 m j f c:Pos}{i:Nat}{e y:Expr}{me:ME}(hc:X.calm=true)(hg:Gl X "len")(L:X.mg "len"=none)(u:Gl X "set")(r:X.mg "set"=none)(he:PM X e me)(M:PM X y (Qb i))(hs:Z8 e=false:=by rfl)(E:Z8 y=false:=by rfl) :
  PM X (.Call (.Name "len" p1) [.BinOp (.Call (.Name "set" p2) [e] [] j) .BitOr (.Call (.Name "set" p3) [y] [] f) c] [] m) (mFn GP (Qa me (Qa (Qb i) Qd))):=by
 intro n s σ H Q I ⟨R,aa,h,w,h',rh,st,e1,kk⟩;obtain⟨⟨as,h2⟩,e2,e3⟩:=Nc.mp e1;obtain⟨⟨a,h1⟩,e4,e5⟩:=Nc.mp e2;obtain⟨⟨bs,h3⟩,e6,e7⟩:=Nc.mp e5;cases e7;obtain⟨⟨b,h4⟩,v,f5⟩:=Nc.mp e6;cases f5
 have hh:h4=h1:=by
  unfold Qb at v;split at v
  ·cases v;rfl
  ·cases v
 subst hh;obtain⟨ys,e8,e9⟩:=Nc.mp e3;obtain⟨ss,Y,U⟩:=Nc.mp e9;obtain⟨zs,f8,f9⟩:=Nc.mp U;obtain⟨tt,P,l⟩:=Nc.mp f9;refine Ee (Jo I hg L Lc (EY ?_ (Qn rfl) (Zg rfl)) (by decide) (by decide));rw[Qn (e:=.BinOp (.Call (.Name "set" p2) [e] [] j) .BitOr (.Call (.Name "set" p3) [y] [] f) c) rfl];split at l
 ·rename_i D;cases l;refine EE (wpAny_BinOp (YF hc u r he hs I rh st e4 e8 Y D.1 fun S o s1 H1 R2 I1 hS ho Z B _=>?_));refine YF hc u r M E I1 B (st.mono Z) v f8 P D.2.1 fun T o2 x H2 R3 I2 hT ab x3 A q=>?_;have G:=I2.pin (S,o) (NI _ (Nq _ Nt));have O:St.SetL X.prog X.w x.heap S (St.uniq ss) (St.ledW X.w):=hS.at fun o' z=>by rw[ho]at z;cases z;exact G.1
  have N:S≠T:=q _ Nt;refine St.unionL O hT N D.2.2 fun g d us kp hU L=>EH ?_;have I3:Inv X ((T,o2)::(S,o)::n) σ H2 { x with heap:=g,drawn:=d }:=Inv.drew (s:={ x with heap:=g }) (I2.kept (t':=x.toks) kp) d;refine Gf (pins':=[]) I3 hU fun t s3 I4=>?_
  have hl:us.length=(St.uniq (ss++tt)).length:=by
   obtain⟨_,_,_,_,_,_,_,_,_,_,_,_,J,_⟩:=id hU;refine St.nd_lenEq J (St.uniq_nd _ _ rfl) fun k=>?_;rw[L k,St.uniq_mem _ _ rfl,St.uniq_mem _ _ rfl,St.uniq_mem _ _ rfl,Eo]
  rw[<-hl]at kk;exact⟨.int us.length,H2,I4.pins_of fun p hp=>I4.pin p (NI _ (Nq _ (Nq _ hp))),⟨t,rfl⟩,kk R3 _ _ (Z.trans x3) A (by unfold Rw;rfl)⟩
 ·cases l
end
theorem Qcs:∀{b:List Value} {a:List Int},IntsAre b a->Vals (a.map V.int) b
 |_,_,.nil=>.nil
 |_,_,.cons _ t h=>.cons ⟨t,rfl⟩ (Qcs h)
theorem Qb2{K:Nd}{h:Heap}{x:Str}{c:Addr}{n:Nat}(X:K.In h)(G:h.Ns mainGlobals d)(a:D4 K mainGlobals x=some (some (.ref c)))
  (l:K.lookup c=some ⟨.type "tuple",g,.seq its n,f⟩) (hz:its.size<=sizeLine) (e:IntsAre its.toList b):Glob K d x (.tup (b.map .int)):=
 ⟨.ref c,_,DR X G a,rfl,fun R=>by
  unfold Rw
  exact⟨c,_,rfl,.inr ⟨_,its,n,l,rfl,rfl,hz,Qcs e⟩,Ws b⟩⟩
end Mi
namespace Rv
theorem slot_rev_next:Slot "reversed" "__next__" "reversed.__next__":=.of (owner:="reversed") (n:="__next__") (by rw[EK,Ec];kernel_rfl) (by decide +kernel) (by decide +kernel) (by decide +kernel) (by first|exact .inl (by decide +kernel)|exact .inr (by decide +kernel)) (by rw[EG];kernel_rfl)
theorem XA:Slot "reversed" "__iter__" "reversed.__iter__":=.of (owner:="reversed") (n:="__iter__") (by rw[EK,Ec];kernel_rfl) (by decide +kernel) (by decide +kernel) (by decide +kernel) (by first|exact .inl (by decide +kernel)|exact .inr (by decide +kernel)) (by rw[EG];kernel_rfl)
theorem Wp:Slot "reversed" "__init__" "object.__init__":=.of (owner:="object") (n:="__init__") (by rw[EK,Ec];kernel_rfl) (by decide +kernel) (by decide +kernel) (by decide +kernel) (by first|exact .inl (by decide +kernel)|exact .inr (by decide +kernel)) (by rw[EG];kernel_rfl)
theorem VW:entryFor table "reversed.__next__"=some Builtin.«reversed.__next__»:=Ip (by kernel_rfl)
theorem Xr(a:Value):argsOk "reversed.__next__" ⟨[a],[]⟩:=by unfold argsOk;kernel_rfl
theorem Y7(a:Value):argsOk "reversed.__iter__" ⟨[a],[]⟩:=by unfold argsOk;kernel_rfl
theorem K3:entryFor table "reversed.__iter__"=some Builtin.«dict_keyiterator.__iter__»:=
 FK (id':="dict_keyiterator.__iter__") (by kernel_rfl) (by first|rfl|decide +kernel|(unfold String.splitOn;simp +decide [String.splitOnAux])) (by decide +kernel) (by kernel_rfl)
theorem Qak:TypeCalled "reversed" "reversed.__new__" "object.__init__":=
 ⟨by decide +kernel,by decide +kernel,⟨_,_,F.mro_reversed⟩,F.made_reversed,by decide +kernel,by rw[EG];kernel_rfl,Wp⟩
theorem Qhk:typeLookup (.type "tuple") "__reversed__"=pure none:=by rw[EK,Ec];kernel_rfl
section
variable{prog:Program}{w:World}{A:Around}{E:Value->Shared->Prop}{s:Shared}
def IsRev(h:Heap)(a l:Addr)(i:Int):Prop:=∃o,h.get? a=some o/\o.cls=.type "reversed"/\o.data=.fields #[.ref l,rawInt i]
theorem IsRev.typeIs{a l:Addr}{i:Int}(x:IsRev s.heap a l i):s.TypeIs (.ref a) "reversed":=let⟨o,b,c,_⟩:=x;⟨o,b,c⟩
theorem IsRev.at{h h':Heap}{a l:Addr}{i:Int}(x:IsRev h a l i)(e:∀o,h.get? a=some o->h'.get? a=some o):IsRev h' a l i:=let⟨o,b,r⟩:=x;⟨o,e _ b,r⟩
theorem Qcn(l:Addr)(items:Array Value)(hz:(items.size:Int)<2^62):Meets (Builtin.«reversed.__new__» ⟨[.type "reversed",.ref l],[]⟩) (fun _ R s=>IsTup s.heap l items /\
      R (.ok (.ret (.ref s.heap.objs.size))) { s with heap:=s.heap.push { cls:=.type "reversed",data:=.fields #[.ref l,rawInt ((items.size:Int)-1)] },toks:=s.toks+1+1 }):=
  .of_wp fun prog w A R s h=>by
    obtain⟨f,h⟩:=h;have b:=f;obtain⟨⟨c,d,q,j⟩,i,g,n,hd⟩:=f;simp only at g hd;subst g hd;have e:isSubtype (.type "tuple") (.type "dict")=pure false:=by rw[EG];kernel_rfl
    unfold Builtin.«reversed.__new__»;refine Na (Ez (newClass_reversed _) ?_)
    try dsimp only
    refine Na (Ez (a:=()) (by first|rfl|kernel_rfl) ?_);refine Na (Ez (a:=()) (by first|rfl|kernel_rfl) ?_)
    try dsimp only
    refine Na (De b.typeIs Qhk ?_)
    try dsimp only
    wp_walk using AutoSeq1.wpAny_loadPart' i
    refine Ez (show typeLookup (.type "tuple") (Str.ofString "__getitem__")=pure (some (.builtin "tuple.__getitem__"))from N2.lookup) ?_;dsimp only;rw[if_pos (by decide +kernel)];refine Ng ?_;rw[if_neg (by simp)];refine Na (len_tuple b (by omega) ?_);refine Na (Ez (a:=some (items.size:Int)) rfl ?_);dsimp only;refine Na ?_;unfold Builtin.SmallTypes.newRecord;dsimp only;refine N3 ?_ (by size_fits);exact Ng ⟨_,rfl,h⟩
theorem call_rev{l:Addr}{items:Array Value}{Q:Value->Shared->Prop}(a:IsTup s.heap l items)(hz:(items.size:Int)<2^62)
  (h:Q (.ref s.heap.objs.size) { s with heap:=s.heap.push { cls:=.type "reversed",data:=.fields #[.ref l,rawInt ((items.size:Int)-1)] },toks:=s.toks+1+1 }):wpAny (model prog w) A (call (.type "reversed") [.ref l]) Q E s:=
 callType_new Qak (by decide) (F.typeCall_reversed_1 _) (F.newCall_reversed_1 _) (fun obj=>Lp obj _) F.entry_reversed_new (Qcn l items hz) ⟨a,⟨_,Nw _ rfl,rfl⟩,h⟩
theorem next_item{it l:Addr}{i:Nat}{items:Array Value}{x:Value}{Q:Option Value->Shared->Prop}(hit:IsRev s.heap it l (i:Int))(d:IsTup s.heap l items)(c:items[i]?=some x)(hz:(items.size:Int)<2^62)
  (f:∀h' tk,IsRev h' it l ((i:Int)-1)->Heap.SameBut it s.heap h'->Q (some x) { s with heap:=h',toks:=tk }):wpAny (model prog w) A (pyNext (.ref it)) Q E s:=by
 obtain⟨o,b,e,hd⟩:=id hit;have g:i<items.size:=(Array.getElem?_eq_some_iff.mp c).1;unfold pyNext
 refine Na (DU (Ed (name:=Str.ofString "__next__") hit.typeIs slot_rev_next
  (N5 slot_rev_next hit.typeIs VW ?_ (Xr _))))
 unfold Builtin.«reversed.__next__»;refine Na (Ez (a:=(Value.ref it,[])) rfl ?_)
 try dsimp only
 refine Na (Ey b hd (x:=.ref l) rfl ?_);refine Na (Ey b hd (x:=rawInt (i:Int)) rfl ?_);show wpAny _ _ (if(i:Int)<0 then _ else _) _ _ s;rw[if_neg (by omega)];refine Na (De d.typeIs N2.lookup ?_);rw[if_neg (by simp)];refine Na (FN ?_);refine Na (DU (getItem_tuple (s:={ s with toks:=s.toks+1 }) d (by omega) (by omega) (j:=i) (by unfold seqIndex?;simp;omega) c ?_));refine Na (Ey (s:={ s with toks:=s.toks+1 }) b hd (x:=rawInt (i:Int)) rfl ?_);refine Na (EA (s:={ s with toks:=s.toks+1 }) b hd (by simp) ?_);refine Ng ⟨x,rfl,Ng (f _ _ ?_ (NP ..))⟩
 exact⟨_,NU _ b (Fq (Dd hd _)),(L8 ..).trans e,by
  rw[Dd hd];simp⟩
theorem next_end{it l:Addr}{Q:Option Value->Shared->Prop}(e:A.handled=none)(hit:IsRev s.heap it l (-1))
  (f:∀h' tk,Heap.ExtBut it s.heap h'->Q none { s with heap:=h',toks:=tk }):wpAny (model prog w) A (pyNext (.ref it)) Q E s:=by
 obtain⟨o,c,g,hd⟩:=id hit;unfold pyNext
 refine Na (DU (Ed (name:=Str.ofString "__next__") hit.typeIs slot_rev_next
  (N5 slot_rev_next hit.typeIs VW ?_ (Xr _))))
 unfold Builtin.«reversed.__next__»;refine Na (Ez (a:=(Value.ref it,[])) rfl ?_)
 try dsimp only
 refine Na (Ey c hd (x:=.ref l) rfl ?_);refine Na (Ey c hd (x:=rawInt (-1)) rfl ?_);show wpAny _ _ (if(-1:Int)<0 then _ else _) _ _ s;rw[if_pos (by decide)];refine Na (Dw ?_);refine Na (show wpAny _ _ (setField (.ref it) 1 (rawInt (-1))>>=fun _=>setField (.ref it) 0 .none) _ _ _ from ?_);refine Na (EA c hd (by simp) ?_);have d:(s.heap.update it (Obj.mapFields fun x=>x.setIfInBounds 1 (rawInt (-1)))).get? it=some (Obj.mapFields (fun x=>x.setIfInBounds 1 (rawInt (-1))) o):=NU _ c (Fq (Dd hd _));refine EA (s:={ s with heap:=s.heap.update it (Obj.mapFields fun x=>x.setIfInBounds 1 (rawInt (-1))) }) d (Dd hd _) (by simp) ?_
 first
 |show wpAny _ _ (newExc (.type "StopIteration") []>>=_) _ _ _
 |(refine Na ?_;show wpAny _ _ (newExc (.type "StopIteration") []>>=_) _ _ _)
 refine Na ?_;simp only[newExc,newTuple];refine Na (N3 ?_ (by size_fits));refine Na (m:=firstArgMember _ _) (Ez (a:=Value.none) (by first|rfl|(simp only[firstArgMember];rfl)) ?_);refine N3 ?_ (by size_fits);simp only[raiseNew];refine Na (Lx ?_)
 first|rw[show A.in1.handled=none from e]|rw[e]
 refine Na (Ng (Od ?_));refine Na (DL (T:="StopIteration") (b:=true) ⟨_,Nw _ rfl,rfl⟩ isSubtype_stop ?_);refine Ng (f _ _ ((Ol (Ol ?_ _) _)));exact(LF (NP ..)).trans (LF (NP ..))
theorem iter_self{it l:Addr}{i:Int}{Q:Value->Shared->Prop}(hit:IsRev s.heap it l i)(h:Q (.ref it) s):wpAny (model prog w) A (pyIter (.ref it)) Q E s:=by
 refine F5 hit.typeIs XA (N5 XA hit.typeIs K3 ?_ (Y7 _));show wpAny _ _ (ret (.ref it)) _ _ s;exact Ng ⟨_,rfl,"reversed",_,hit.typeIs,slot_rev_next.lookup,h⟩
end
theorem small{n:Nat}(h:n<=sizeLine):(n:Int)<2^62:=by rw[Dj]at h;omega
theorem tup_at{h h':Heap}{a:Addr}{items:Array Value}(x:IsTup h a items)(e:∀o,h.get? a=some o->h'.get? a=some o):IsTup h' a items:=let⟨o,b,r⟩:=x;⟨o,e _ b,r⟩
theorem walksT{prog:Program}{w:World}{A:Around}(t:A.handled=none)(I l:Addr)(j:l≠I)(items:Array Value)(hz:(items.size:Int)<2^62) :
  Walks prog w A I [I,l] [I] items.size (fun i v=>items[items.size-1-i]?=some v) (fun i h=>i<=items.size/\IsRev h I l ((items.size:Int)-1-(i:Int))/\IsTup h l items) where
 sub:=fun b c=>by simp at c;simp[c]
 frame:=fun _ _ _ x q=>⟨x.1,x.2.1.at fun o e=>q I (by simp) o e,tup_at x.2.2 fun o e=>q l (by simp) o e⟩
 item:=fun i s Q E r x f=>by
  have e:(items.size:Int)-1-(i:Int)=((items.size-1-i:Nat):Int):=by omega
  have hit:=x.2.1;rw[e]at hit;have p:items[items.size-1-i]?=some (items[items.size-1-i]'(by omega)):=NL (by omega);refine next_item hit x.2.2 p hz fun n tk a d=>?_;have u:((items.size-1-i:Nat):Int)-1=(items.size:Int)-1-((i+1:Nat):Int):=by omega
  rw[u]at a;exact f _ n tk p ⟨r,a,tup_at x.2.2 fun o g=>(d.2 l j).trans g⟩ fun b o c g=>d.extBut b o (fun h=>c (by simp[h])) g
 done:=fun s Q E x f=>by
  have e:(items.size:Int)-1-(items.size:Int)=-1:=by omega
  have hit:=x.2.1;rw[e]at hit;exact next_end t hit fun n tk m=>f n tk fun b o c g=>m b o (fun h=>c (by simp[h])) g
 self:=fun _ _ _ _ x f=>iter_self x.2.1 f
end Rv
namespace L2
theorem QcR:typeLookup (.type "reversed") "__len__"=pure none:=by
 rw[EK,Ec]
 kernel_rfl
theorem Qgx:typeLookup (.type "reversed") "__length_hint__"=pure (some (.builtin "reversed.__length_hint__")):=by
 rw[EK,Ec]
 kernel_rfl
section
variable{prog:Program}{w:World}{A:Around}{E:Value->Shared->Prop}{s:Shared}{r d:Addr}{its:Array Value}
theorem slot_rh:Slot "reversed" "__length_hint__" "reversed.__length_hint__":=.of (owner:="reversed") (n:="__length_hint__") (by rw[EK,Ec];kernel_rfl) (by decide +kernel) (by decide +kernel) (by decide +kernel) (by first|exact .inl (by decide +kernel)|exact .inr (by decide +kernel)) (by rw[EG];kernel_rfl)
theorem QcO:entryFor table "reversed.__length_hint__"=some Builtin.«reversed.__length_hint__»:=Ip (by kernel_rfl)
theorem Qf6(a:Value):argsOk "reversed.__length_hint__" ⟨[a],[]⟩:=by unfold argsOk;kernel_rfl
theorem QhF{Q:Value->Shared->Prop}(hit:Rv.IsRev s.heap r d ((its.size:Int)-1))(e:IsTup s.heap d its)(c:its.size<=sizeLine)(h:∀t tk,Q (.int its.size t) { s with toks:=tk }):wpAny (model prog w) A (call (.builtin "reversed.__length_hint__") [.ref r]) Q E s:=by
 obtain⟨o,b,f,hd⟩:=id hit;refine N5 slot_rh hit.typeIs QcO ?_ (Qf6 _);unfold Builtin.«reversed.__length_hint__»;refine Na (Ez (a:=Value.ref r) rfl ?_);refine Na (Ey b hd (x:=.ref d) rfl ?_);rw[if_neg (show¬((Value.ref d==Value.none)=true)from NZ)];refine Na (len_tuple e (by have:=Rv.small c;omega) ?_);refine Na (Ez (a:=some (its.size:Int)) rfl ?_);dsimp only;refine Na (Ey (s:={ s with toks:=s.toks+1+1 }) b hd (x:=rawInt ((its.size:Int)-1)) rfl ?_);show wpAny _ _ (if(its.size:Int)<(its.size:Int)-1+1 then _ else _) _ _ _;rw[if_neg (by omega)];refine Na (FN (Ng ⟨_,rfl,?_⟩));rw[show(its.size:Int)-1+1=its.size by omega];exact h _ _
theorem Qgb{Q:Bool->Shared->Prop}(hit:Rv.IsRev s.heap r d ((its.size:Int)-1))(g:IsTup s.heap d its)(e:its.size<=sizeLine)(h:∀tk,Q ((its.size:Int) != 0) { s with toks:=tk }):wpAny (model prog w) A (Builtin.List.listLengthHint (.ref r)) Q E s:=by
 have f:=hit.typeIs;unfold Builtin.List.listLengthHint;refine Na (De f QcR (show wpAny _ A (specialOf (Value.ref r) (Str.ofString "__length_hint__")>>=_) _ _ _ from Na (De f Qgx ?_)));generalize a:("reversed.__length_hint__":String)=c
 wp_delta
 rw[show splitId c=some ("reversed","__length_hint__")from by subst a;decide +kernel];subst a;refine Na (DL (b:=true) f (by rw[EG];kernel_rfl) ?_);dsimp only;rw[if_neg (by decide),if_neg (by decide +kernel)];refine Na (Dw ?_);refine Na (Ez (slot_rh.bind _) ?_);dsimp only;refine Na (DU (QhF hit g e fun t tk=>?_));dsimp only;have l:asInt? (Value.int (its.size:Int) t)=pure (some (its.size:Int)):=rfl;rw[l,pure_bind];dsimp only;have m:=Rv.small e;have j:Builtin.List.listFitsIndex (its.size:Int)=true:=by unfold Builtin.List.listFitsIndex;simp;omega
 have i:Builtin.List.listTooLong (its.size:Int).toNat=false:=by unfold Builtin.List.listTooLong;simp;exact e
 rw[j,if_neg (by decide),if_neg (by omega),i,if_neg (by decide)];exact Ng (h tk)
theorem Qbo{R:Result->Shared->Prop}(Q:A.handled=none)(hit:Rv.IsRev s.heap r d ((its.size:Int)-1))(P:IsTup s.heap d its)(S:Addr)(l:S≠r)(q:S≠d)(C:d≠r)(res:Value)(g:Nat)(L:s.heap.get? S=some { cls:=.type "list",data:=.seq #[] g })(y:its.size<=sizeLine)
  (U:∀h' tk a m,(∀b o,b≠S->b≠r->s.heap.get? b=some o->h'.get? b=some o)->h'.get? S=some { cls:=.type "list",dict:=none,data:=.seq a m,slots:=#[] }->ItemsOf (fun i v=>its[its.size-1-i]?=some v) a its.size->R (.ok (.ret res)) { s with heap:=h',toks:=tk }) :
  wpAny (model prog w) A.in1 (Builtin.List.listExtendWith (.ref S) (.ref r) res)
   (fun fin j=>match fin with|.done f=>R (.ok f) j|.again m=>m.quiet=true/\codeAny (model prog w) A m R j) (fun e j=>R (.error e) j) s:=by
 have W:=Rv.walksT (prog:=prog) (w:=w) (A:=A.in1) Q r d C its (Rv.small y);unfold Builtin.List.listExtendWith;refine Na (D2 (T:="reversed") hit.typeIs ?_);have Y:Builtin.List.listSameRef (.ref S) (.ref r)=false:=by simp[Builtin.List.listSameRef,l]
 rw[if_neg (by rw[Y];decide)];refine Na (Rv.iter_self hit (Na (Ek (Qgb hit P y fun h=>?_))));have G:S∉[r,d]:=by simp[l,q]
 have fin:∀(u:Heap) (M:Nat),(∀b o,b≠S->s.heap.get? b=some o->u.get? b=some o)->u.get? S=some { cls:=.type "list",data:=.seq #[] M }->codeAny (model prog w) A (.builtin "list.extend.loop" ⟨[.ref S,.ref r,res],[]⟩) R { s with heap:=u,toks:=h }:=fun u M B I=>by
  refine Ll W.toS y S G res its.size 0 _ #[] M rfl (NY _) ⟨NY _,by simpa using hit.at fun o e=>B r o l.symm e,Rv.tup_at P fun o e=>B d o q.symm e⟩ I (OV _) fun j a m O J p=>?_;rw[OL O];refine U j.heap j.toks a m (fun b o n D e=>O.heap b o (fun c=>?_) (B b o n e)) J p
  rcases NH.mp c with Z|c
  ·exact n Z
  ·exact D (NO.mp c)
 by_cases N:its.size=0
 ·rw[if_neg (by rw[N];decide +kernel)];exact Ng ⟨DT DA _,fin s.heap g (fun _ _ _ e=>e) L⟩
 ·rw[if_pos (by rw[E1];exact .inl (bne_iff_ne.mpr fun z=>N (Int.ofNat_eq_zero.mp z)))];refine Na (Dw ?_);refine Na (show wpAny _ _ (updateSeq S (·.push .none)>>=fun _=>updateSeq S (·.pop)) _ _ _ from Na (Dy (s:={ s with toks:=h }) L rfl ?_));have t:=NU (Obj.mapSeq (fun x:Array Value=>x.push .none)) L rfl;refine Dy (s:={ s with heap:=s.heap.update S (Obj.mapSeq (fun x:Array Value=>x.push .none)),toks:=h }) t rfl ?_;have H:=NU (Obj.mapSeq (fun x:Array Value=>x.pop)) t rfl;exact Ng ⟨DT DA _,fin _ _ (fun b o n e=>(N9 _ _ (E2 n)).trans ((N9 _ _ (E2 n)).trans e)) H⟩
theorem Qfe{Q:Value->Shared->Prop}(D:A.handled=none)(hit:Rv.IsRev s.heap r d ((its.size:Int)-1))(y:IsTup s.heap d its)(m:d≠r)(B:its.size<=sizeLine)
  (G:∀h' tk a t,(∀b o,b≠r->s.heap.get? b=some o->h'.get? b=some o)->h'.get? s.heap.objs.size=some { cls:=.type "list",dict:=none,data:=.seq a t,slots:=#[] }->ItemsOf (fun i v=>its[its.size-1-i]?=some v) a its.size->Q (.ref s.heap.objs.size) { s with heap:=h',toks:=tk }) :
  wpAny (model prog w) A (call (.type "list") [.ref r]) Q E s:=by
 refine callType_codes (Q₁:=fun obj c=>obj=.ref s.heap.objs.size/\c={ s with heap:=s.heap.push { cls:=.type "list",data:=.seq #[] } }) PySem.F.called_list (PySem.F.typeCall_list_1 _) PySem.F.entry_list_init (code_list_new _ ⟨rfl,rfl⟩) fun obj c g=>?_;obtain⟨rfl,rfl⟩:=g;have j:(s.heap.push { cls:=.type "list",data:=.seq #[] }).get? s.heap.objs.size=some { cls:=.type "list",data:=.seq #[] }:=Nw _ rfl;have x:r<s.heap.objs.size:=let⟨_,l,_⟩:=hit;Nu l
 have u:d<s.heap.objs.size:=let⟨_,l,_⟩:=y;Nu l
 refine⟨⟨_,j,rfl⟩,PySem.F.args_list_init_2 _ _,?_⟩;refine(show wpAny _ _ (do let old <-Builtin.List.listItems (.ref s.heap.objs.size);Builtin.List.listUpdate (.ref s.heap.objs.size) (fun _=>#[]);letGo old.toList.reverse;Builtin.List.listExtendWith (.ref s.heap.objs.size) (.ref r) .none) _ _ _ from Na ?_);unfold Builtin.List.listItems;refine Na (DE j rfl (Ng ?_));refine(show wpAny _ _ (updateSeq s.heap.objs.size (fun _=>#[])>>=fun _=>letGo (#[]:Array Value).toList.reverse>>=fun _=>Builtin.List.listExtendWith (.ref s.heap.objs.size) (.ref r) .none) _ _ _ from Na (Dy j rfl ?_));have p:=NU (Obj.mapSeq (fun _=>(#[]:Array Value))) j rfl
 have f:∀b o,b≠s.heap.objs.size->s.heap.get? b=some o->((s.heap.push { cls:=.type "list",data:=.seq #[] }).update s.heap.objs.size (Obj.mapSeq (fun _=>(#[]:Array Value)))).get? b=some o:=
  fun b o n e=>(N9 _ _ (E2 n)).trans (Nk _ e)
 refine Na (wpAny_letGo ?_);refine Qbo (A:=A.in1) D (hit.at fun o e=>f r o (NG x) e) (Rv.tup_at y fun o e=>f d o (NG u) e) _ (Db x) (Db u) m .none _ p B fun h' tk a t C q h=>?_;exact⟨rfl,G h' tk a t (fun b o n e=>C b o (NG (Nu e)) n (f b o (NG (Nu e)) e)) q h⟩
end
section
variable{X:Cx}
noncomputable def Qky(K:Nd)(a:Addr)(n:Nat):It:=⟨fun i H=>i<n/\∃b,SqT K H a b/\b.length=n,fun i H x c=>c=H/\∀b,SqT K H a b->b[n-1-i]?=some x,fun i _=>n<=i⟩
theorem Qfc{K:Nd}(a it:Addr)(n:Nat):Turn P w K tg (Qky K a n) [it] it (fun i h=>i<=n/\Rv.IsRev h it a ((n:Int)-1-(i:Int))) where
 mem:=by simp
 obj:=fun i h st b j=>by
  have e:b=it:=by simpa using j
  subst e;obtain⟨_,o,e,c,d⟩:=st;exact⟨o,e,fun v z=>by rw[d]at z;cases z⟩
 keep:=fun i h m st k=>⟨st.1,st.2.at fun o e=>k it (by simp) o e⟩
 item:=by
  intro X r hw t N i f s D H E I l st q;subst r hw t;obtain⟨Z,G,M,hl⟩:=q;obtain⟨S,J,p,T⟩:=I.tuple M;obtain⟨x,L⟩:∃x,G[n-1-i]?=some x:=⟨G[n-1-i]'(by omega),Ni _⟩
  obtain⟨u,hu,R⟩:=J.get L;obtain⟨C,f1,f2,B,A,y⟩:=l it (by simp);have e:(n:Int)-1-(i:Int)=((n-1-i:Nat):Int):=by omega
  have hit:=st.2;rw[e]at hit;refine Rv.next_item hit p (x:=u) (by simpa using hu) (Rv.small (by rw[Nj,<-J.length];exact T)) fun m tk g Q=>?_;have e2:((n-1-i:Nat):Int)-1=(n:Int)-1-((i+1:Nat):Int):=by lia
  rw[e2]at g;have I1:Inv X f D H { s with heap:=m,toks:=tk }:=I.turned (t':=tk) (fun b o j e=>(Q.2 b j).trans e) C f1 B A y;obtain⟨o,e,c,d⟩:=id g;exact⟨u,rfl,G8 (s:={ s with heap:=m,toks:=tk }) e c d (by decide) ⟨x,H,I1,R,⟨rfl,fun ys U=>by rw[I.tuple_inj U M];exact L⟩,⟨Z,g⟩,fun b j=>(l b j).1⟩⟩
 done:=by
  intro X r hw t N i f s D H E I l st q;subst r hw t;obtain⟨C,f1,f2,B,A,y⟩:=l it (by simp);have Y:n<=i:=q;have e:(n:Int)-1-(i:Int)=-1:=by have:=st.1;lia
  have hit:=st.2;rw[e]at hit;exact Rv.next_end (I.ok.hd N) hit fun m tk eb=>⟨rfl,I.turned (t':=tk) (fun b o j e=>eb b o j e) C f1 B A y⟩
 self:=fun _ _ _ _ _ st h=>Rv.iter_self st.2 h
noncomputable def iRt(K:Nd)(f:TA):TI:=fun d H R=>f d H fun e c=>∃a b,e=[.ref a]/\SqT K c a b/\R (Qky K a b.length) c
theorem Qkm{r a:Expr}(E:Gl X "reversed")(D:X.mg "reversed"=none)(J:PA X [a] t)(B:starEach [a] X.env=[(false,eval a X.env)]:=by rfl):PI X r (.Call (.Name "reversed" p) [a] [] pos) (iRt X.K t):=by
 intro c s m H R I h;refine Call_ (Jo I E D boot_reversed (NV (thn (J pos c s m H _ I h) fun N f n=>?_) B rfl));obtain⟨M,L,I1,x,y⟩:=n;obtain⟨ad,g,e,C,q⟩:=y;subst e;obtain⟨u,rfl,w⟩:=Ua x;cases w;obtain⟨d,v,z,A⟩:=I1.tuple C;have j:=v.length;refine Rv.call_rev z (Rv.small (by rw[Nj,<-j];exact A)) ?_;refine Rv.iter_self (l:=ad) (i:=(d.toArray.size:Int)-1) ⟨_,Nw _ rfl,rfl,rfl⟩ ?_;refine⟨f.heap.objs.size,[f.heap.objs.size],_,_,L,rfl,I1.kept (t':=f.toks+1+1) fun b o e=>Nk _ e,Qfc ad _ g.length,⟨NY _,?_⟩,fun b G=>?_,q⟩
 ·refine⟨_,Nw _ rfl,rfl,?_⟩;have:((d.toArray.size:Nat):Int)-1=(g.length:Int)-1-((0:Nat):Int):=by rw[Nj,j];simp
  rw[<-this]
 ·have e:b=f.heap.objs.size:=by simpa using G
  subst e;exact I1.fpOk (Nx _) (I1.hok.fresh (Nx _))
end
end L2
namespace Mi
open L2
noncomputable def QgD(ws:List W)(h:MH):Option (W×MH):=match ws with
 |[.tup ws]=>some (.ref h.length,h++[.lst ws.reverse])
 |_=>none
noncomputable def Qi2(c:MA):MI:=fun a h=>(c a h).bind fun p=>match p.1 with
 |[.tup b]=>some (b.reverse,none,p.2)
 |_=>none
section
variable{K:Nd}{R:Rn}
theorem QfZ(l:SqT K R.F a xs)(r:Rws K R ws xs):ItOk K R (Qky K a xs.length) ws.reverse none where
 go:=fun i w j h H x d _ e=>by
  have c:=(Nh.mp e).1;rw[Ds,r.length]at c;exact⟨c,xs,QS (fun b o z=>d.sub b o (x.f b o z)) l,rfl⟩
 yld:=fun i w j h H x s e d _ g m=>by
  obtain⟨rfl,n⟩:=m;have c:=(Nh.mp g).1;rw[Ds]at c;rw[Fv c]at g;obtain⟨v,q,p⟩:=r.get g;have:=n xs (QS (fun b o z=>d.sub b o (e.f b o z)) l);rw[<-r.length,q]at this;cases this;exact⟨j,Ext.refl _,d,Rw.mono e _ _ p⟩
 stop:=fun i j h H x d _ c=>by rw[Ds,r.length]at c;exact c
end
section
variable{X:Cx}{tg a:Expr}{ms:MA}{p pos:Pos}
theorem Qh6(w:Gl X "reversed")(u:X.mg "reversed"=none)(x:PMA X [a] ms)(t:starEach [a] X.env=[(false,eval a X.env)]:=by rfl):PMI X tg (.Call (.Name "reversed" p) [a] [] pos) (Qi2 ms):=
 W4 (Qkm w u x t) fun B H C j=>by
  obtain⟨R,c,h,items,o,G,s,st,e,k⟩:=j;obtain⟨⟨n,y⟩,z,d⟩:=Nc.mp e;refine⟨R,c,h,n,y,s,st,z,fun R1 A D m b q=>?_⟩;split at d
  ·rename_i E g;simp only at g;subst g;cases d;obtain⟨v,rfl,f⟩:=UF q;unfold Rw at f;obtain⟨ad,l,rfl,i,r⟩:=f;exact⟨ad,l,rfl,QS b.sub i,k R1 A _ m b (QfZ i r)⟩
  ·cases d
theorem Uo{p1 T r l:Pos}(hc:X.calm=true)(hg:Gl X "list")(hm:X.mg "list"=none)(O:Gl X "reversed")(L:X.mg "reversed"=none)(he:PM X e me)(U:Z8 e=false:=by rfl) :
  PM X (.Call (.Name "list" p1) [.Call (.Name "reversed" T) [e] [] l] [] r) (mFn QgD (Qa me Qd)):=by
 intro t s σ H Q I ⟨R,D,h,w,Z,rh,st,e1,kk⟩;obtain⟨⟨as,h2⟩,e2,C⟩:=Nc.mp e1;obtain⟨⟨a,q⟩,e4,e5⟩:=Nc.mp e2;obtain⟨⟨bs,h3⟩,e6,e7⟩:=Nc.mp e5;cases e6;cases e7;refine Ee (Jo I hg hm On (NV ?_ (Qn rfl) (Zg rfl)) (by decide) (by decide));rw[Qn (e:=.Call (.Name "reversed" T) [e] [] l) rfl];refine EE (Ee (Jo I O L boot_reversed (NV ?_ (Qn U) (Zg rfl)) (by decide) (by decide)));rw[Qn U];refine EE (thn (he t s σ H (fun v H2=>∃R2,Ext R R2/\Rh X.K R2 q H2/\Rw X.K R2 a v) I ⟨R,D,h,a,q,rh,st,e4,fun R2 H2 v x i B=>⟨R2,x,i,B⟩⟩) fun u f ⟨v,H1,I1,ru,R2,x2,i,B⟩=>EH ?_);unfold QgD at C;split at C
 ·rename_i ys n;simp only[OC,and_true]at n;subst n;cases C;unfold Rw at B;obtain⟨ad,P,rfl,hF,r2⟩:=B;have q1:=QS i.sub hF;cases ru;obtain⟨d,S,J,N⟩:=I1.tuple q1;have y:=S.length;refine Rv.call_rev J (Rv.small (by rw[Nj,<-y];exact N)) (EH ?_);have Y:∀b o,f.heap.get? b=some o->(f.heap.push { cls:=.type "reversed",data:=.fields #[.ref ad,rawInt ((d.toArray.size:Int)-1)] }).get? b=some o:=fun b o e=>Nk _ e;have z1:(f.heap.push { cls:=.type "reversed",data:=.fields #[.ref ad,rawInt ((d.toArray.size:Int)-1)] }).objs.size=f.heap.objs.size+1:=D7 ..;have M:ad<f.heap.objs.size:=let⟨_,ho,_⟩:=J;Nu ho
  refine Qfe (s:={ f with toks:=f.toks+1+1,heap:=f.heap.push { cls:=.type "reversed",data:=.fields #[.ref ad,rawInt ((d.toArray.size:Int)-1)] } }) (its:=d.toArray) (I1.ok.hd hc) ⟨_,Nw _ rfl,rfl,rfl⟩ (Rv.tup_at J fun o e=>Y _ o e) (NG M) (by rw[Nj,<-y];exact N) fun Z tk g c kp eL m=>?_
  have hv:Vals P.reverse g.toList:=by
   have:g.toList=d.reverse:=by
    apply DB;intro j;have q:=m.1;rw[Nj]at q
    by_cases n:j<d.length
    ·have z:j<g.size:=Nn n (Nr q.symm);have:=m.2 j g[j] (NL z);rw[Nj,DI]at this;rw[N7,NL z,Fv n,this]
    ·rw[N6 (by simpa[q]using NQ.mp n),N6 (by simpa using NQ.mp n)]
   rw[this];exact Vals.reverse S
  have hp:=I1.hok.fresh (FO f.heap.objs.size);obtain⟨R3,x3,G,E⟩:=i.new (mo:=.lst ys.reverse) (o:=.lst P.reverse) (p:=f.heap.objs.size+1) hp fun R' x'=>⟨_,rfl,Rws.mono x' _ _ (Rws.reverse r2)⟩
  have A:=eL;rw[z1]at A ⊢;exact⟨.ref (f.heap.objs.size+1),_,I1.laid (t':=tk) (fun b o e=>kp b o (NG (Nu e)) (Y b o e)) (FO _) (show ObjOk X.prog X.w _ Z _ (.lst _)from⟨by rw[Ds];exact N,g.toList,c,hv,by rw[A]⟩),rfl,kk R3 _ _ (x2.trans x3) G E⟩
 ·cases C
end
noncomputable def Kt(a b:W)(h:MH):Option (W×MH):=match a,b with
 |.bl x,.bl y=>some (.bl (!(x==y)),h)
 |_,_=>none
@[simp]theorem Qi1{x y:Bool}{h:MH}:Kt (.bl x) (.bl y) h=some (.bl (!(x==y)),h):=id rfl
section
variable{X:Cx}
theorem Qcy:OpR X (compareOp .IsNot) (fun x y H Q=>∃i j,x=.bl i/\y=.bl j/\Q (.bl (!(i==j))) H):=by
 intro a s d H x y v u Q I c b h;obtain⟨i,j,rfl,rfl,q⟩:=h;cases c;cases b;refine wpAny_isNot_plain (by cases i<;>cases j<;>rfl) ?_;refine⟨.bl _,H,I,?_,q⟩;cases i<;>cases j<;>rfl
theorem Yy:OpR X (compareOp .IsNot) (F2 X.K Kt):=by
 intro c s d H x y v u Q I g f q;refine Qcy c s d H x y v u Q I g f ?_;obtain⟨R,h,a,b,w,m,i,l,j,e,k⟩:=q;unfold Kt at e;split at e
 ·cases e;exact⟨_,_,l.bl_eq,j.bl_eq,k R H _ (Ext.refl _) i (Rw.bl _)⟩
 ·cases e
end
section
variable{p:List Value->Prop}
theorem ar0(h:p [])(a:List Value)(e:a.length=0):p a:=List.eq_nil_of_length_eq_zero e▸h
theorem arS{n:Nat}(h:∀a b,b.length=n->p (a::b)):∀b:List Value,b.length=n+1->p b
 |a::b,e=>h a b (Nat.succ.inj e)
theorem ar1(h:∀a,p [a]):∀b:List Value,b.length=1->p b:=arS fun a=>ar0 (h a)
theorem ar2(h:∀a b,p [a,b]):∀c:List Value,c.length=2->p c:=arS fun a=>ar1 (h a)
theorem ar3(h:∀a b c,p [a,b,c]):∀d:List Value,d.length=3->p d:=arS fun a=>ar2 (h a)
theorem ar4(h:∀a b c d,p [a,b,c,d]):∀e:List Value,e.length=4->p e:=arS fun a=>ar3 (h a)
theorem ar5(h:∀a b c d e,p [a,b,c,d,e]):∀f:List Value,f.length=5->p f:=arS fun a=>ar4 (h a)
theorem ar6(h:∀a b c d e f,p [a,b,c,d,e,f]):∀g:List Value,g.length=6->p g:=arS fun a=>ar5 (h a)
end
end Mi
namespace My
open L2 Mi
set_option maxHeartbeats 4000000
local macro_rules|`(tactic|walk_at $s:str)=>do
 let l:=s.getString.toList
 if l.head? != some '~'then Lean.Macro.throwUnsupported
 let mut r:Array (Lean.TSyntax `tactic):=#[]
 let mut f:=false
 for c in l.tail do
  if c=='!'then f:=true
  else
   r:=r.push (<-match f,c with
    |false,'#'=>`(tactic|refine QcZ ?_ ?_)
    |false,'$'=>`(tactic|exact rfl)
    |false,'%'=>`(tactic|exact Qho _)
    |false,'&'=>`(tactic|refine QcS (by assumption) ?_ ?_ ?_ ?_ ?_ ?_ ?_)
    |false,'('=>`(tactic|exact Qfq)
    |false,')'=>`(tactic|exact QhK)
    |false,'*'=>`(tactic|first|exact .inl rfl|exact .inr rfl)
    |false,'+'=>`(tactic|refine Qdm ?_ ?_)
    |false,','=>`(tactic|refine QjJ ?_ ?_)
    |false,'-'=>`(tactic|exact $(Lean.mkIdent `hr.mono) (by decide))
    |false,'.'=>`(tactic|refine QeV ?_ ?_ ?_ ?_ ?_ ?_)
    |false,'/'=>`(tactic|refine QfP ?_)
    |false,'0'=>`(tactic|decide)
    |false,'1'=>`(tactic|refine WF N4 Fz PySem.F.type_list_append Qai ?_ ?_)
    |false,'2'=>`(tactic|refine VP QaP Jw ?_ ?_ Lc ?_ ?_ ?_ ?_ ?_)
    |false,'3'=>`(tactic|refine Qfb ?_)
    |false,'4'=>`(tactic|exact Gb (by dsimp only[blk];decide +kernel) rfl (Or.inl rfl))
    |false,'5'=>`(tactic|refine QW (Qet ?_) Qj ?_ ?_)
    |false,'6'=>`(tactic|refine Qhp ?_ ?_ ?_)
    |false,'7'=>`(tactic|exact(Or.inl rfl))
    |false,'8'=>`(tactic|assumption)
    |false,'9'=>`(tactic|refine VP Qa4 Jw ?_ ?_ PyProof.Rows.boot_isinstance ?_ ?_ ?_ ?_ ?_)
    |false,':'=>`(tactic|refine Uc UD Jw ?_ ?_ Iz ?_ ?_ ?_ ?_ ?_)
    |false,';'=>`(tactic|exact $(Lean.mkIdent `nd_))
    |false,'<'=>`(tactic|have $(Lean.mkIdent `hu):ident:=$(Lean.mkIdent `hr.units))
    |false,'='=>`(tactic|exact Qh9)
    |false,'>'=>`(tactic|refine Qg0 ?_)
    |false,'?'=>`(tactic|refine Vj Qfy Qj ?_ ?_)
    |false,'@'=>`(tactic|exact QfN)
    |false,'A'=>`(tactic|refine Qc8 ?_)
    |false,'B'=>`(tactic|exact $(Lean.mkIdent `hu))
    |false,'C'=>`(tactic|refine VP (QaC ?_) Jw ?_ ?_ PyProof.Rows.boot_all ?_ ?_ ?_ ?_ ?_)
    |false,'D'=>`(tactic|refine QW Qg6 Qj ?_ ?_)
    |false,'E'=>`(tactic|exact fun _=>rfl)
    |false,'F'=>`(tactic|refine Qf2 ?_ ?_ ?_ ?_ ?_ ?_)
    |false,'G'=>`(tactic|refine Qfv ?_)
    |false,'H'=>`(tactic|exact Qgu rfl $(Lean.mkIdent `b_tuple) Iz)
    |false,'I'=>`(tactic|exact Gb $(Lean.mkIdent `nd_) rfl (Or.inl rfl))
    |false,'J'=>`(tactic|exact PassesOwn.never)
    |false,'K'=>`(tactic|exact Qjd)
    |false,'L'=>`(tactic|refine Qgg ?_)
    |false,'M'=>`(tactic|refine QiB ?_ ?_)
    |false,'N'=>`(tactic|refine PMW.pt ?_)
    |false,'O'=>`(tactic|refine QeW ?_)
    |false,'P'=>`(tactic|refine Vj Qft Qj ?_ ?_)
    |false,'Q'=>`(tactic|refine Vx (by dsimp only[blk];decide +kernel) rfl (Or.inl rfl) ?_ ?_)
    |_,_=>Lean.Macro.throwUnsupported)
   f:=false
 `(tactic|($[$r]*))
noncomputable def top(i:Nat):Stmt:=IF.main.body.getD i (.Pass ⟨0,0,0,0⟩)
noncomputable abbrev KA:W:=.tup (QbS ["pair","first","second","none","tell","back","either","or","again","end","do","part"])
noncomputable abbrev Jh:W:=.int 500
noncomputable abbrev ZY:W:=.int 6
noncomputable abbrev Z9:W:=.int 5
noncomputable abbrev QK:W:=.int 8
noncomputable abbrev Je:W:=.int 48
noncomputable abbrev Za:W:=.int 5
noncomputable abbrev JA:W:=.int 24
noncomputable abbrev Jb:W:=.int 5
noncomputable abbrev Qx:List (Str×Int):=[("pair",4),("first",2),("second",2),("same",2),("none",1),("tell",1),("back",1),("either",0),("or",0),("again",0),("end",0),("do",1)]
noncomputable abbrev Zx:W:=.tup [.int 1,.int 0,.int 0,.int 0]
section
variable{P:Program}{w:World}{K:Nd}{mg:Str->Option Value}{base:Heap}
noncomputable abbrev JJ:Stmt:=top 40
theorem XX:FnScope ["feed","many","found"] ["feed","many"] (Qe JJ):=⟨rfl,rfl,rfl,by decide +kernel,rfl,by decide +kernel,by decide +kernel⟩
noncomputable def Jc:FM:=QJ 1
  (Qt (Jr (Qi (Qf wGt (Qf wIx (Qb 0) (mC (.int 0))) (mC (.int 0)))) (Qt (Zb 2 (Qf Qco (Qf wIx (Qb 0) (mC (.int 0))) (Qb 1)))
  (Qt (QeH (Qb 0) (mC (.int 0)) (Qf QfI (Qf wIx (Qb 0) (mC (.int 0))) (Qb 1)))
  (Zo (Qb 2)))) QV)
  (Qt (QeH (Qb 0) (mC (.int 1)) (Qf Qco (Qf X2 (Qf Xl (Qf wIx (Qb 0) (mC (.int 1))) (mC (.int 69621))) (mC (.int 12345))) (mC (.int 2147483647))))
  (Zo (Qf Qco (Qf QfI (Qf wIx (Qb 0) (mC (.int 1))) (mC (.int 8191))) (Qb 1)))))
theorem Wi(d:DefAt K mg "_law_take" JJ ["feed","many"]):Cal P w K mg base 1 "_law_take" ["feed","many"] Jc:=by
 refine Qy (k:=0) (more:=1) d XX rfl fun _ _ _ _ _ _ _ hr=>?_;have nd_:=(XX).nd
 walk_at"~<+6D,%))+.;$7"
 refine Vj XH Qj ?_ ?_
 walk_at"~,%)%$*+"
 refine Wm ?_ ?_ ?_ ?_ ?_ ?_
 walk_at"~%)"
 refine Vj QaJ Qj ?_ ?_
 walk_at"~,%)%E$$/3%@+"
 refine Wm ?_ ?_ ?_ ?_ ?_ ?_
 walk_at"~%)"
 refine Vj XH Qj ?_ ?_
 walk_at"~?"
 refine Vj VE Qj ?_ ?_
 walk_at"~,%))))E$$/3"
 refine Vj XH Qj ?_ ?_;refine Vj QaJ Qj ?_ ?_
 walk_at"~,%))%"
noncomputable def Qc:FM:=box frN Jc
noncomputable abbrev Q7:Stmt:=top 41
theorem Xq:FnScope ["feed","many","letters","filler","first","step","size","place","back"] ["feed","many"] (Qe Q7):=⟨rfl,rfl,rfl,by decide +kernel,rfl,by decide +kernel,by decide +kernel⟩
noncomputable def Z0:FM:=QJ 7
  (Qt (Zb 2 (mC (.str "abcdefghijklmnopqrstuvwxyz")))
  (Qt (Zb 3 (Qf wIx (Qb 2) (Qg 2 Qc (Qa (Qb 0) (Qa (mC (.int 26)) Qd)))))
  (Qt (Jr (Qi (Qf wEq (Qg 2 Qc (Qa (Qb 0) (Qa (mC (.int 3)) Qd))) (mC (.int 0)))) (Zo (QN Z2 (GY (Qa (Qb 1) Qd)) [none,some 3] (ZJ 0) VV (Qf Xl (Qb 1) (Qf X2 (Qb 0) (mC (.int 1)))))) QV)
  (Qt (Zb 4 (Qg 2 Qc (Qa (Qb 0) (Qa (mC (.int 26)) Qd))))
  (Qt (Zb 5 (Qf wIx (mFn UU (Qa (mC (.int 1)) (Qa (mC (.int 3)) (Qa (mC (.int 5)) (Qa (mC (.int 7)) (Qa (mC (.int 9)) (Qa (mC (.int 11)) Qd))))))) (Qg 2 Qc (Qa (Qb 0) (Qa (mC (.int 6)) Qd)))))
  (Qt (Zb 6 (Qf wIx (mFn UU (Qa (mC (.int 1)) (Qa (mC (.int 3)) (Qa (mC (.int 4)) (Qa (mC (.int 5)) (Qa (mC (.int 6)) (Qa (mC (.int 7)) (Qa (mC (.int 8)) (Qa (mC (.int 1)) Qd))))))))) (Qg 2 Qc (Qa (Qb 0) (Qa (mC (.int 8)) Qd)))))
  (Qt (Zb 7 (Qg 2 Qc (Qa (Qb 0) (Qa (Qb 6) Qd))))
  (Qt (Zb 8 (Qf Xl (Qb 3) (Qf Qa8 (Qf Qa8 (Qb 6) (mC (.int 1))) (Qb 7))))
  (Zo (QN Z2 (GY (Qa (Qb 1) Qd)) [none,some 8,some 3,some 7,some 2,some 4,some 5] (ZJ 0) VV (Qf X2 (Qf X2 (Qf Xl (Qb 2) (Qb 3)) (Qf wIx (Qb 4) (Qf Qco (Qf X2 (Qb 5) (Qf Xl (Qb 6) (Qb 0))) (mC (.int 26))))) (Qb 1))))))))))))
theorem KT(d:DefAt K mg "_law_names" Q7 ["feed","many"])(b_range:mg "range"=none)(c__law_take:Cal P w K mg base 1 "_law_take" ["feed","many"] Qc):Cal P w K mg base 2 "_law_names" ["feed","many"] Z0:=by
 refine Qy (k:=1) (more:=7) d Xq rfl fun _ _ _ _ _ _ _ hr=>?_;have nd_:=(Xq).nd
 walk_at"~<+.;$"
 exact(Or.inr rfl)
 walk_at"~=$*+.;$"
 exact(Or.inr rfl)
 walk_at"~,%&-$#%#)($0$$$*+65B&-$#%#)($0$$)/3"
 refine Zj Q1 ?_ (K8 (ks:=["filler"]) (Nb:=["k","filler"]) (cp:=[none,some 3]) (N:=["feed","many","letters","filler","first","step","size","place","back"]) (xs:=(Qe Q7)) rfl rfl (by decide +kernel) rfl (by decide +kernel) (by intro p hp;simp only[NH,EF,or_false]at hp;rcases hp with rfl<;>rfl) rfl rfl rfl (by decide +kernel)) ?_ (fun _ _ _ _ _=>?_) (fun _ _ _ _ _=>?_)
 walk_at"~$"
 refine Yn ?_ ?_ ?_ ?_
 walk_at"~$8#%($4"
 refine Vj VE Qj ?_ ?_
 walk_at"~%?%)@+.;$"
 exact(Or.inr rfl)
 walk_at"~&-$#%#)($0$$$*+.;$"
 exact(Or.inr rfl)
 walk_at"~,"
 refine Vt ?_
 walk_at"~#)#)#)#)#)#)(&-$#%#)($0$$$*+.;$7,"
 refine Vt ?_
 walk_at"~#)#)#)#)#)#)#)#)(&-$#%#)($0$$$*+.;$"
 exact(Or.inr rfl)
 walk_at"~&-$#%#%($0$$$*+.;$"
 exact(Or.inr rfl);refine Vj VE Qj ?_ ?_
 walk_at"~%PP%)%$*/3"
 refine Zj Q1 ?_ (K8 (ks:=["step","place","letters","first","filler","back"]) (Nb:=["k","back","filler","place","letters","first","step"]) (cp:=[none,some 8,some 3,some 7,some 2,some 4,some 5]) (N:=["feed","many","letters","filler","first","step","size","place","back"]) (xs:=(Qe Q7)) rfl rfl (by decide +kernel) rfl (by decide +kernel) (by intro p hp;simp only[NH,EF,or_false]at hp;rcases hp with rfl|rfl|rfl|rfl|rfl|rfl<;>rfl) rfl rfl rfl (by decide +kernel)) ?_ (fun _ _ _ _ _=>?_) (fun _ _ _ _ _=>?_)
 walk_at"~$"
 refine Yn ?_ ?_ ?_ ?_
 walk_at"~$8#%($4??"
 refine Vj VE Qj ?_ ?_
 walk_at"~%%,%"
 refine Vj XH Qj ?_ ?_
 walk_at"~?%"
 refine Vj VE Qj ?_ ?_
 walk_at"~%%)%"
noncomputable def QB:FM:=box frN Z0
noncomputable abbrev ZA:Stmt:=top 43
theorem Vs:FnScope ["lines","opened"] ["lines","opened"] (Qe ZA):=⟨rfl,rfl,rfl,by decide +kernel,rfl,by decide +kernel,by decide +kernel⟩
noncomputable def Zi:FM:=QJ 0
  (Jr (Qi (Qf wEq (Qf wIx (Qb 1) (mUn Qa1 (mC (.int 1)))) (mC (.str "either")))) (Qt (ZN (mMt "list" QR (Qb 0) (Qa (mFn JM (Qa (mC (.str "or")) Qd)) Qd)))
  (QeH (Qb 1) (mUn Qa1 (mC (.int 1))) (mC (.str "or")))) (Qt (ZN (mMt "list" QR (Qb 0) (Qa (mFn JM (Qa (mC (.str "end")) Qd)) Qd)))
  (ZN (mMt "list" QgH (Qb 1) Qd))))
theorem X4(d:DefAt K mg "_law_step_on" ZA ["lines","opened"]):Cal P w K mg base 1 "_law_step_on" ["lines","opened"] Zi:=by
 refine Qy (k:=0) (more:=0) d Vs rfl fun _ _ _ _ _ _ _ hr=>?_;have nd_:=(Vs).nd
 walk_at"~</65B,%"
 refine XZ ?_
 walk_at"~)=+A1%#>#=((/"
 refine Wm ?_ ?_ ?_ ?_ ?_ ?_
 walk_at"~%"
 refine XZ ?_
 walk_at"~)=E$$+A1%#>#=((/A"
 refine QaT N4 DQ Fw UC ?_
 walk_at"~%"
noncomputable def Qs:FM:=box frN Zi
noncomputable abbrev Ja:Stmt:=top 42
theorem Xp:FnScope ["feed","boxes","words","way","x","y","z"] ["feed","boxes","words"] (Qe Ja):=⟨rfl,rfl,rfl,by decide +kernel,rfl,by decide +kernel,by decide +kernel⟩
noncomputable def ZU:FM:=QJ 4
  (Qt (Zb 3 (Qg 2 Qc (Qa (Qb 0) (Qa (mC (.int 10)) Qd))))
  (Qt (Zb 4 (Qf wIx (Qb 1) (Qg 2 Qc (Qa (Qb 0) (Qa (mFn JC (Qa (Qb 1) Qd)) Qd)))))
  (Qt (Zb 5 (Qf wIx (Qb 1) (Qg 2 Qc (Qa (Qb 0) (Qa (mFn JC (Qa (Qb 1) Qd)) Qd)))))
  (Qt (Jr (Qi (Qf wLt (Qb 3) (mC (.int 4)))) (Qt (Zb 6 (Qf wIx (Qb 1) (Qg 2 Qc (Qa (Qb 0) (Qa (mFn JC (Qa (Qb 1) Qd)) Qd)))))
  (Zo (mFn JM (Qa (mC (.str "pair")) (Qa (Qb 4) (Qa (Qf wIx (Qb 2) (Qg 2 Qc (Qa (Qb 0) (Qa (mFn JC (Qa (Qb 2) Qd)) Qd)))) (Qa (Qb 5) (Qa (Qb 6) Qd)))))))) QV)
  (Zo (Qf wIx (mFn UU (Qa (mFn JM (Qa (mC (.str "first")) (Qa (Qb 4) (Qa (Qb 5) Qd)))) (Qa (mFn JM (Qa (mC (.str "second")) (Qa (Qb 4) (Qa (Qb 5) Qd)))) (Qa (mFn JM (Qa (mC (.str "same")) (Qa (Qb 4) (Qa (Qb 5) Qd)))) (Qa (mFn JM (Qa (mC (.str "none")) (Qa (Qb 4) Qd))) (Qa (mFn JM (Qa (mC (.str "tell")) (Qa (Qb 5) Qd))) (Qa (mFn JM (Qa (mC (.str "tell")) (Qa (Qb 4) Qd))) Qd))))))) (Qf Qa8 (Qb 3) (mC (.int 4)))))))))
theorem KW(d:DefAt K mg "_law_plain" Ja ["feed","boxes","words"])(b_len:mg "len"=none)(c__law_take:Cal P w K mg base 1 "_law_take" ["feed","many"] Qc):Cal P w K mg base 2 "_law_plain" ["feed","boxes","words"] ZU:=by
 refine Qy (k:=1) (more:=4) d Xp rfl fun _ _ _ _ _ _ _ hr=>?_;have nd_:=(Xp).nd
 walk_at"~<+.;$7&-$#%#)($0$$$*+.;$7,%&-$#%#2$8#%(00$$($0$$$*+.;$7,%&-$#%#2$8#%(00$$($0$$$*+6"
 refine QW Gc Qj ?_ ?_
 walk_at"~%)+.;$7,%&-$#%#2$8#%(00$$($0$$$*/3>#=#%#,%&-$#%#2$8#%(00$$($0$$#%#%(@/3,"
 refine Vt ?_
 walk_at"~#>#=#%#%(#>#=#%#%(#>#=#%#%(#>#=#%(#>#=#%(#>#=#%((P%)"
noncomputable def QD:FM:=box frN ZU
noncomputable abbrev Jz:Stmt:=top 44
theorem XQ:FnScope ["feed","size","menus","later","opens","dos","lines","opened","k","way"] ["feed","size","menus","later","opens","dos"] (Qe Jz):=⟨rfl,rfl,rfl,by decide +kernel,rfl,by decide +kernel,by decide +kernel⟩
noncomputable abbrev ZV:SM:=(Qt (Zb 9 (Qg 2 Qc (Qa (Qb 0) (Qa (mC (.int 14)) Qd))))
  (Jr (Xk (Qi (Qf wLt (Qb 9) (mC (.int 3)))) (Qi (Qf wGt (Qb 4) (mC (.int 0))))) (Qt (ZN (mMt "list" QR (Qb 7) (Qa (Qf wIx (mFn UU (Qa (mC (.str "either")) (Qa (mC (.str "again")) (Qa (mC (.str "either")) Qd)))) (Qb 9)) Qd)))
  (Qt (ZN (mMt "list" QR (Qb 6) (Qa (mFn JM (Qa (Qf wIx (Qb 7) (mUn Qa1 (mC (.int 1)))) Qd)) Qd)))
  (Zb 4 (Qf Qa8 (Qb 4) (mC (.int 1)))))) (Jr (Xk (Qi (Qf wLt (Qb 9) (mC (.int 6)))) (Qi (Qf wGt (mFn JC (Qa (Qb 7) Qd)) (mC (.int 0))))) (ZN (Qg 2 Qs (Qa (Qb 6) (Qa (Qb 7) Qd)))) (Jr (Xk (Qi (Qf (wIn false) (Qb 9) (mFn UU (Qa (mC (.int 6)) (Qa (mC (.int 7)) Qd))))) (Xk (Qi (Qf wGt (Qb 5) (mC (.int 0)))) (Qi (Qf wGt (mFn JC (Qa (Qb 3) Qd)) (mC (.int 0)))))) (Qt (ZN (mMt "list" QR (Qb 6) (Qa (mFn JM (Qa (mC (.str "do")) (Qa (Qf wIx (Qb 3) (Qg 2 Qc (Qa (Qb 0) (Qa (mFn JC (Qa (Qb 3) Qd)) Qd)))) Qd))) Qd)))
  (Zb 5 (Qf Qa8 (Qb 5) (mC (.int 1))))) (ZN (mMt "list" QR (Qb 6) (Qa (Qg 3 QD (Qa (Qb 0) (Qa (Qf wIx (Qb 2) (mC (.int 0))) (Qa (Qf wIx (Qb 2) (mC (.int 1))) Qd)))) Qd)))))))
noncomputable abbrev VX:SM:=(ZN (Qg 2 Qs (Qa (Qb 6) (Qa (Qb 7) Qd))))
noncomputable def JY:FM:=QJ 4
  (Qt (Zb 6 (mFn U3 Qd))
  (Qt (Zb 7 (mFn U3 Qd))
  (Qt (VZ (GY (Qa (Qb 1) Qd)) (ZJ 8)
  ZV)
  (Qt (QF (Qi (Qf wGt (mFn JC (Qa (Qb 7) Qd)) (mC (.int 0)))) VX 1000000)
  (Zo (mFn Jj (Qa (Qb 6) Qd)))))))
theorem Ww(d:DefAt K mg "_law_part" Jz ["feed","size","menus","later","opens","dos"])(b_len:mg "len"=none)(b_range:mg "range"=none)(b_tuple:mg "tuple"=none)(c__law_plain:Cal P w K mg base 2 "_law_plain" ["feed","boxes","words"] QD)(c__law_step_on:Cal P w K mg base 1 "_law_step_on" ["lines","opened"] Qs)(c__law_take:Cal P w K mg base 1 "_law_take" ["feed","many"] Qc):Cal P w K mg base 3 "_law_part" ["feed","size","menus","later","opens","dos"] JY:=by
 refine Qy (k:=2) (more:=4) d XQ rfl fun _ _ _ _ _ _ _ hr=>?_;have nd_:=(XQ).nd
 walk_at"~<+.;$7"
 refine Vi ?_
 walk_at"~($*+.;$7"
 refine Vi ?_
 walk_at"~($*+FJ$"
 refine Yn ?_ ?_ ?_ ?_
 walk_at"~$8#%($I+.;$7&-$#%#)($0$$$*/6N"
 refine XM ?_ ?_;refine QW Gc Qj ?_ ?_
 walk_at"~%)"
 refine Ke ?_
 walk_at"~D%)+A1%#,"
 refine Vt ?_
 walk_at"~#=#=#=(%(+A1%#>#,%"
 refine XZ ?_
 walk_at"~)((/.;$7P%)$*/6N"
 refine XM ?_ ?_;refine QW Gc Qj ?_ ?_
 walk_at"~%)"
 refine Ke ?_
 walk_at"~D2$8#%(00$$)/A&-$#%#%($0$$/6N"
 refine XM ?_ ?_;refine QW (GV ?_) Qj ?_ ?_
 walk_at"~B%"
 refine Vt ?_
 walk_at"~#)#)("
 refine XM ?_ ?_
 walk_at"~D%)"
 refine Ke ?_
 walk_at"~D2$8#%(00$$)+A1%#>#=#,%&-$#%#2$8#%(00$$($0$$((/.;$7P%)$*/A1%#&-$#%#,%)#,%)($0$$(E+"
 refine KK 1000000 ?_ ?_ ?_
 walk_at"~JD2$8#%(00$$)/A&-$#%#%($0$$/3:$8#%(00$$"
noncomputable def Q0:FM:=box frN JY
noncomputable abbrev Zy:Stmt:=top 45
theorem Vn:FnScope ["feed","bounds","menus","names","size","found","k"] ["feed","bounds"] (Qe Zy):=⟨rfl,rfl,rfl,by decide +kernel,rfl,by decide +kernel,by decide +kernel⟩
noncomputable abbrev JS:SM:=(ZN (mMt "list" QR (Qb 5) (Qa (mFn JM (Qa (Qf wIx (Qb 3) (Qb 6)) (Qa (Qg 6 Q0 (Qa (Qb 0) (Qa (Qg 2 Qc (Qa (Qb 0) (Qa (mC (.int 4)) Qd))) (Qa (Qb 2) (Qa (mSl (Qb 3) (XF (Qf X2 (Qb 6) (mC (.int 1)))) XE) (Qa (mC (.int 1)) (Qa (mC (.int 1)) Qd))))))) Qd))) Qd)))
noncomputable def Z6:FM:=QJ 5
  (Qt (Zb 2 (mFn JM (Qa (Qg 2 QB (Qa (Qb 0) (Qa (Qf X2 (mC (.int 1)) (Qg 2 Qc (Qa (Qb 0) (Qa (Qf wIx (Qb 1) (mC (.int 0))) Qd)))) Qd))) (Qa (Qg 2 QB (Qa (Qb 0) (Qa (Qf X2 (mC (.int 1)) (Qg 2 Qc (Qa (Qb 0) (Qa (Qf wIx (Qb 1) (mC (.int 1))) Qd)))) Qd))) Qd))))
  (Qt (Zb 3 (Qg 2 QB (Qa (Qb 0) (Qa (Qf X2 (mC (.int 1)) (Qg 2 Qc (Qa (Qb 0) (Qa (Qf wIx (Qb 1) (mC (.int 2))) Qd)))) Qd))))
  (Qt (Zb 4 (Qf Qa8 (Qf wIx (Qb 1) (mC (.int 3))) (Qg 2 Qc (Qa (Qb 0) (Qa (mC (.int 3)) Qd)))))
  (Qt (Jr (Qi (Qf wEq (Qg 2 Qc (Qa (Qb 0) (Qa (mC (.int 4)) Qd))) (mC (.int 0)))) (Zb 4 (Qg 2 Qc (Qa (Qb 0) (Qa (Qf X2 (Qb 4) (mC (.int 1))) Qd)))) QV)
  (Qt (Zb 5 (mFn U3 (Qa (mFn JM (Qa (Qf wIx (Qb 3) (mC (.int 0))) (Qa (Qg 6 Q0 (Qa (Qb 0) (Qa (Qb 4) (Qa (Qb 2) (Qa (mSl (Qb 3) (XF (mC (.int 1))) XE) (Qa (mC (.int 2)) (Qa (mC (.int 2)) Qd))))))) Qd))) Qd)))
  (Qt (VZ (QhN (Qa (mC (.int 1)) (Qa (mFn JC (Qa (Qb 3) Qd)) Qd))) (ZJ 6)
  JS)
  (Zo (mFn Jj (Qa (Qb 5) Qd)))))))))
theorem X5(d:DefAt K mg "_law_program" Zy ["feed","bounds"])(b_len:mg "len"=none)(b_range:mg "range"=none)(b_tuple:mg "tuple"=none)(c__law_names:Cal P w K mg base 2 "_law_names" ["feed","many"] QB)(c__law_part:Cal P w K mg base 3 "_law_part" ["feed","size","menus","later","opens","dos"] Q0)(c__law_take:Cal P w K mg base 1 "_law_take" ["feed","many"] Qc):Cal P w K mg base 4 "_law_program" ["feed","bounds"] Z6:=by
 refine Qy (k:=3) (more:=5) d Vn rfl fun _ _ _ _ _ _ _ hr=>?_;have nd_:=(Vn).nd
 walk_at"~<+.;$7>#&-$#%#?)&-$#%#,%)($0$$($0$$#&-$#%#?)&-$#%#,%)($0$$($0$$($*+.;$7&-$#%#?)&-$#%#,%)($0$$($0$$$*+.;$7P,%)&-$#%#)($0$$$*+65B&-$#%#)($0$$)/.;$7&-$#%#?%)($0$$$*@+.;$7"
 refine Vi ?_
 walk_at"~#>#,%)#&-$#%#%#%#"
 refine VJ ?_ ?_ ?_
 walk_at"~%"
 refine VO ?_
 walk_at"~)"
 exact VI
 walk_at"~#)#)($0$$(($*+FJ$"
 refine QiK ?_ ?_ ?_ ?_ ?_
 walk_at"~$8#)#2$8#%(00$$($$I/A1%#>#,%%#&-$#%#&-$#%#)($0$$#%#"
 refine VJ ?_ ?_ ?_
 walk_at"~%"
 refine VO ?_
 walk_at"~?%)"
 exact VI
 walk_at"~#)#)($0$$((E/3:$8#%(00$$"
noncomputable def Jl:FM:=box frN Z6
noncomputable abbrev Q8:Stmt:=top 46
theorem Xt:FnScope ["feed","menus","names","way","lines","small","many","opened","k"] ["feed"] (Qe Q8):=⟨rfl,rfl,rfl,by decide +kernel,rfl,by decide +kernel,by decide +kernel⟩
noncomputable abbrev ZE:SM:=(Qt (ZN (mMt "list" QR (Qb 4) (Qa (Qg 3 QD (Qa (Qb 0) (Qa (Qf wIx (Qb 1) (mC (.int 0))) (Qa (Qf wIx (Qb 1) (mC (.int 1))) Qd)))) Qd)))
  (Qt (ZN (mMt "list" QR (Qb 7) (Qa (Qf wIx (mFn UU (Qa (mC (.str "either")) (Qa (mC (.str "again")) Qd))) (Qg 2 Qc (Qa (Qb 0) (Qa (mC (.int 2)) Qd)))) Qd)))
  (ZN (mMt "list" QR (Qb 4) (Qa (mFn JM (Qa (Qf wIx (Qb 7) (mUn Qa1 (mC (.int 1)))) Qd)) Qd)))))
noncomputable abbrev Jn:SM:=(Qt (ZN (mMt "list" QR (Qb 4) (Qa (Qg 3 QD (Qa (Qb 0) (Qa (Qf wIx (Qb 1) (mC (.int 0))) (Qa (Qf wIx (Qb 1) (mC (.int 1))) Qd)))) Qd)))
  (ZN (Qg 2 Qs (Qa (Qb 4) (Qa (Qb 7) Qd)))))
noncomputable def Zw:SM:=(Qt (Jr (Qi (Qf wEq (Qb 3) (mC (.int 0)))) (Qt (Zb 4 (QN QiQ (GY (Qa (Qf X2 (mC (.int 40)) (Qg 2 Qc (Qa (Qb 0) (Qa (mC (.int 9)) Qd)))) Qd)) [none,some 0,some 1] (ZJ 0) VV (Qg 3 QD (Qa (Qb 1) (Qa (Qf wIx (Qb 2) (mC (.int 0))) (Qa (Qf wIx (Qb 2) (mC (.int 1))) Qd))))))
  (Zo (mFn JM (Qa (mFn JM (Qa (Qf wIx (Qb 2) (mC (.int 0))) (Qa (mFn Jj (Qa (Qb 4) Qd)) Qd))) Qd)))) QV)
  (Qt (Jr (Qi (Qf wEq (Qb 3) (mC (.int 1)))) (Qt (Zb 5 (Qg 6 Q0 (Qa (Qb 0) (Qa (Qg 2 Qc (Qa (Qb 0) (Qa (mC (.int 2)) Qd))) (Qa (Qb 1) (Qa (mFn UU Qd) (Qa (mC (.int 0)) (Qa (mC (.int 0)) Qd))))))))
  (Qt (Zb 6 (Qf X2 (mC (.int 20)) (Qg 2 Qc (Qa (Qb 0) (Qa (mC (.int 4)) Qd)))))
  (Zo (mFn JM (Qa (mFn JM (Qa (Qf wIx (Qb 2) (mC (.int 0))) (Qa (mFn Jj (Qa (QN Z2 (GY (Qa (Qb 6) Qd)) [none,some 2] (ZJ 0) VV (mFn JM (Qa (mC (.str "do")) (Qa (Qf wIx (Qb 1) (mC (.int 1))) Qd)))) Qd)) Qd))) (Qa (mFn JM (Qa (Qf wIx (Qb 2) (mC (.int 1))) (Qa (Qb 5) Qd))) Qd)))))) QV)
  (Qt (Zb 4 (mFn U3 Qd))
  (Qt (Zb 7 (mFn U3 Qd))
  (Qt (VZ (GY (Qa (mC (.int 6)) Qd)) (ZJ 8)
  ZE)
  (Qt (QF (Qi (Qf wGt (mFn JC (Qa (Qb 7) Qd)) (mC (.int 0)))) Jn 1000000)
  (Zo (mFn Jj (Qa (Qf X2 (mFn UU (Qa (mFn JM (Qa (Qf wIx (Qb 2) (mC (.int 0))) (Qa (mFn Jj (Qa (Qb 4) Qd)) Qd))) Qd)) (QN Z2 (Qr (mSl (Qb 2) (XF (mC (.int 1))) XE)) [none] (ZJ 0) VV (mFn JM (Qa (Qb 0) (Qa (mFn JM Qd) Qd))))) Qd)))))))))
noncomputable def ZW:FM:=QJ 8
  (Qt (Zb 1 (mFn JM (Qa (Qg 2 QB (Qa (Qb 0) (Qa (mC (.int 5)) Qd))) (Qa (Qg 2 QB (Qa (Qb 0) (Qa (mC (.int 5)) Qd))) Qd))))
  (Qt (Zb 2 (Qg 2 QB (Qa (Qb 0) (Qa (mC (.int 5)) Qd))))
  (Qt (Zb 3 (Qg 2 Qc (Qa (Qb 0) (Qa (mC (.int 3)) Qd))))
  Zw)))
theorem K2(d:DefAt K mg "_law_great" Q8 ["feed"])(b_len:mg "len"=none)(b_range:mg "range"=none)(b_tuple:mg "tuple"=none)(c__law_names:Cal P w K mg base 2 "_law_names" ["feed","many"] QB)(c__law_part:Cal P w K mg base 3 "_law_part" ["feed","size","menus","later","opens","dos"] Q0)(c__law_plain:Cal P w K mg base 2 "_law_plain" ["feed","boxes","words"] QD)(c__law_step_on:Cal P w K mg base 1 "_law_step_on" ["lines","opened"] Qs)(c__law_take:Cal P w K mg base 1 "_law_take" ["feed","many"] Qc):Cal P w K mg base 4 "_law_great" ["feed"] ZW:=by
 refine Qy (k:=3) (more:=8) d Xt rfl fun _ _ _ _ _ _ _ hr=>?_;have nd_:=(Xt).nd
 walk_at"~<+.;$"
 exact(Or.inr rfl)
 walk_at"~>#&-$#%#)($0$$#&-$#%#)($0$$($*+.;$"
 exact(Or.inr rfl)
 walk_at"~&-$#%#)($0$$$*+.;$7&-$#%#)($0$$$*+65B%)+"
 refine Kr nd_ rfl (Or.inl rfl) ?_ Qfi ?_ (K8 (ks:=["menus","feed"]) (Nb:=["k","feed","menus"]) (cp:=[none,some 0,some 1]) (N:=["feed","menus","names","way","lines","small","many","opened","k"]) (xs:=(Qe Q8)) rfl rfl (by decide +kernel) rfl (by decide +kernel) (by intro p hp;simp only[NH,EF,or_false]at hp;rcases hp with rfl|rfl<;>rfl) rfl rfl rfl (by decide +kernel)) ?_ (fun _ _ _ _ _=>?_) (fun _ _ _ _ _=>?_) ?_ ?_
 walk_at"~*$"
 refine Yn ?_ ?_ ?_ ?_
 walk_at"~$8#?)&-$#%#)($0$$($4&-$#%#,%)#,%)($0$$E$/3>#>#,%)#:$8#%(00$$((@+65B%)+.;$7&-$#%#&-$#%#)($0$$#%#"
 refine Vt ?_
 walk_at"~(#)#)($0$$$*+.;$7?)&-$#%#)($0$$$*/3>#>#,%)#:$8#"
 refine Zj Q1 ?_ (K8 (ks:=["names"]) (Nb:=["k","names"]) (cp:=[none,some 2]) (N:=["feed","menus","names","way","lines","small","many","opened","k"]) (xs:=(Qe Q8)) rfl rfl (by decide +kernel) rfl (by decide +kernel) (by intro p hp;simp only[NH,EF,or_false]at hp;rcases hp with rfl<;>rfl) rfl rfl rfl (by decide +kernel)) ?_ (fun _ _ _ _ _=>?_) (fun _ _ _ _ _=>?_)
 walk_at"~$"
 refine Yn ?_ ?_ ?_ ?_
 walk_at"~$8#%($4>#=#,%)((00$$(#>#,%)#%((@+.;$7"
 refine Vi ?_
 walk_at"~($*+.;$7"
 refine Vi ?_
 walk_at"~($*+FJ$"
 refine Yn ?_ ?_ ?_ ?_
 walk_at"~$8#)($I+A1%#&-$#%#,%)#,%)($0$$(+A1%#,"
 refine Vt ?_
 walk_at"~#=#=(&-$#%#)($0$$(/A1%#>#,%"
 refine XZ ?_
 walk_at"~)((E+"
 refine KK 1000000 ?_ ?_ ?_
 walk_at"~JD2$8#%(00$$)+A1%#&-$#%#,%)#,%)($0$$(/A&-$#%#%($0$$/3:$8#?"
 refine Vt ?_
 walk_at"~#>#,%)#:$8#%(00$$(("
 refine Zj Q1 ?_ (QT (Nb:=["name"]) (cp:=[none]) rfl (by decide +kernel) (by decide +kernel) rfl rfl) ?_ (fun _ _ _ _ _=>?_) (fun _ _ _ _ _=>?_)
 walk_at"~$G"
 refine VJ ?_ ?_ ?_
 walk_at"~%"
 refine VO ?_
 walk_at"~)"
 exact VI
 walk_at"~4>#%#>(((00$$"
noncomputable def J6:FM:=box frN ZW
noncomputable abbrev J3:Stmt:=top 47
theorem Kq:FnScope ["feed","bounds"] ["feed","bounds"] (Qe J3):=⟨rfl,rfl,rfl,by decide +kernel,rfl,by decide +kernel,by decide +kernel⟩
noncomputable def JF:FM:=QJ 0
  (Qt (Jr (Qi (Qf wEq (Qg 2 Qc (Qa (Qb 0) (Qa (mC (.int 8)) Qd))) (mC (.int 5)))) (Zo (Qg 1 J6 (Qa (Qb 0) Qd))) QV)
  (Zo (Qg 2 Jl (Qa (Qb 0) (Qa (Qb 1) Qd)))))
theorem WU(d:DefAt K mg "_law_any" J3 ["feed","bounds"])(c__law_great:Cal P w K mg base 4 "_law_great" ["feed"] J6)(c__law_program:Cal P w K mg base 4 "_law_program" ["feed","bounds"] Jl)(c__law_take:Cal P w K mg base 1 "_law_take" ["feed","many"] Qc):Cal P w K mg base 5 "_law_any" ["feed","bounds"] JF:=by
 refine Qy (k:=4) (more:=0) d Kq rfl fun _ _ _ _ _ _ _ hr=>?_;have nd_:=(Kq).nd
 walk_at"~<+65B&-$#%#)($0$$)/3&-$#%($0$$@/3&-$#%#%($0$$"
noncomputable def V4:FM:=box frN JF
noncomputable abbrev Jv:Stmt:=top 39
theorem XS:FnScope ["script","k","cell","digits"] ["script","k"] (Qe Jv):=⟨rfl,rfl,rfl,by decide +kernel,rfl,by decide +kernel,by decide +kernel⟩
noncomputable def Zz:FM:=QJ 2
  (Qt (Zb 2 (mC (.int 0)))
  (Qt (Jr (Qi (Qf wLt (Qb 1) (mFn JC (Qa (Qb 0) Qd)))) (Zb 2 (Qf wIx (Qb 0) (Qb 1))) QV)
  (Qt (Zb 3 (mC (.int 0)))
  (Qt (Jr (Qi (Qf wGe (Qb 2) (Qf Qfs (mC (.int 10)) (mC (.int 18))))) (Zb 3 (Qf Qa8 (Qb 2) (Qf Qfs (mC (.int 10)) (mC (.int 18))))) QV)
  (Zo (mFn U3 (Qa (Qb 3) (Qa (Qf X2 (Qf Qco (Qf Xl (Qf Qco (Qb 2) (mC (.int 2147483647))) (mC (.int 48271))) (mC (.int 2147483647))) (Qb 1)) Qd))))))))
theorem Wf(d:DefAt K mg "_law_feed" Jv ["script","k"])(b_len:mg "len"=none):Cal P w K mg base 1 "_law_feed" ["script","k"] Zz:=by
 refine Qy (k:=0) (more:=2) d XS rfl fun _ _ _ _ _ _ _ hr=>?_;have nd_:=(XS).nd
 walk_at"~<+.;$7)$*+6"
 refine QW Gc Qj ?_ ?_
 walk_at"~%2$8#%(00$$/.;$7,%%$*@+.;$7)$*+6"
 refine QW QgJ Qj ?_ ?_
 walk_at"~%"
 refine Vj Qbj Qj ?_ ?_
 walk_at"~))/.;$7P%"
 refine Vj Qbj Qj ?_ ?_
 walk_at"~))$*@/3"
 refine Vi ?_
 walk_at"~#%#?"
 refine Vj XH Qj ?_ ?_;refine Vj VE Qj ?_ ?_;refine Vj XH Qj ?_ ?_
 walk_at"~%)))%("
noncomputable def Zr:FM:=box frR Zz
noncomputable abbrev J1:Stmt:=top 49
theorem KM:FnScope ["program","names","found","waiting","line"] ["program"] (Qe J1):=⟨rfl,rfl,rfl,by decide +kernel,rfl,by decide +kernel,by decide +kernel⟩
noncomputable abbrev Q9:SM:=(Qt (Zb 4 (mMt "list" QgH (Qb 3) Qd))
  (Jr (Qi (Qf wEq (Qf wIx (Qb 4) (mC (.int 0))) (mC (.str "do")))) (ZN (mMt "list" Kn (Qb 3) (Qa (mFn QgD (Qa (Qf wIx (Qf wIx (Qb 0) (mMt "list" Xw (Qb 1) (Qa (Qf wIx (Qb 4) (mC (.int 1))) Qd))) (mC (.int 1))) Qd)) Qd))) (ZN (mMt "list" QR (Qb 2) (Qa (Qb 4) Qd)))))
noncomputable def Vu:FM:=QJ 4
  (Qt (Zb 1 (QN Z2 (Qr (Qb 0)) [none] (ZJ 0) VV (Qf wIx (Qb 0) (mC (.int 0)))))
  (Qt (Zb 2 (mFn U3 Qd))
  (Qt (Zb 3 (mFn QgD (Qa (Qf wIx (Qf wIx (Qb 0) (mC (.int 0))) (mC (.int 1))) Qd)))
  (Qt (QF (Qi (Qf wGt (mFn JC (Qa (Qb 3) Qd)) (mC (.int 0)))) Q9 1000000)
  (Zo (mFn JM (Qa (mFn JM (Qa (Qf wIx (Qf wIx (Qb 0) (mC (.int 0))) (mC (.int 0))) (Qa (mFn Jj (Qa (Qb 2) Qd)) Qd))) Qd)))))))
theorem Uf(d:DefAt K mg "_law_due" J1 ["program"])(b_len:mg "len"=none)(b_list:mg "list"=none)(b_reversed:mg "reversed"=none)(b_tuple:mg "tuple"=none):Cal P w K mg base 1 "_law_due" ["program"] Vu:=by
 refine Qy (k:=0) (more:=4) d KM rfl fun _ _ _ _ _ _ _ hr=>?_;have nd_:=(KM).nd
 walk_at"~<+"
 refine Kr nd_ rfl (Or.inl rfl) ?_ Q1 ?_ (QT (Nb:=["part"]) (cp:=[none]) rfl (by decide +kernel) (by decide +kernel) rfl rfl) ?_ (fun _ _ _ _ _=>?_) (fun _ _ _ _ _=>?_) ?_ ?_
 walk_at"~*$G%4,%)E$+.;$7"
 refine Vi ?_
 walk_at"~($*+.;$7"
 refine Uo ?_ ?_ ?_ ?_ ?_ ?_ ?_
 walk_at"~$$8$8,,%))$$*+"
 refine KK 1000000 ?_ ?_ ?_
 walk_at"~JD2$8#%(00$$)+.;$7"
 refine QaT N4 DQ Fw UC ?_
 walk_at"~%$*/65B,%)=/A"
 refine WF N4 EO Dm Yr ?_ ?_
 walk_at"~%#"
 refine Uo ?_ ?_ ?_ ?_ ?_ ?_ ?_
 walk_at"~$$8$8,,%"
 refine WF N4 Fa IA (Uj ?_) ?_ ?_
 walk_at"~B%#,%)()$(/A1%#%(/3>#>#,,%))#:$8#%(00$$(("
noncomputable def J9:FM:=box frN Vu
noncomputable abbrev ZZ:Stmt:=top 28
theorem VY:FnScope ["program","name"] ["program","name"] (Qe ZZ):=⟨rfl,rfl,rfl,by decide +kernel,rfl,by decide +kernel,by decide +kernel⟩
noncomputable def Jm:FM:=QJ 0
  (Zo (mMt "list" Xw (QN Z2 (Qr (Qb 0)) [none] (ZJ 0) VV (Qf wIx (Qb 0) (mC (.int 0)))) (Qa (Qb 1) Qd)))
theorem KR(d:DefAt K mg "part_number" ZZ ["program","name"]):Cal P w K mg base 1 "part_number" ["program","name"] Jm:=by
 refine Qy (k:=0) (more:=0) d VY rfl fun _ _ _ _ _ _ _ hr=>?_;have nd_:=(VY).nd
 walk_at"~</3"
 refine WF N4 Fa IA (Uj ?_) ?_ ?_
 walk_at"~B"
 refine Zj Q1 ?_ (QT (Nb:=["part"]) (cp:=[none]) rfl (by decide +kernel) (by decide +kernel) rfl rfl) ?_ (fun _ _ _ _ _=>?_) (fun _ _ _ _ _=>?_)
 walk_at"~$G%4,%)#%("
noncomputable def QU:FM:=box frN Jm
noncomputable abbrev Q3:Stmt:=top 37
theorem J8:FnScope ["program","part","lines","line"] ["program","part"] (Qe Q3):=⟨rfl,rfl,rfl,by decide +kernel,rfl,by decide +kernel,by decide +kernel⟩
noncomputable abbrev Vq(a:FM):SM:=(Jr (Qi (Qf wEq (Qf wIx (Qb 3) (mC (.int 0))) (mC (.str "do")))) (ZN (mMt "list" XB (Qb 2) (Qa (Qg 2 a (Qa (Qb 0) (Qa (Qg 2 QU (Qa (Qb 0) (Qa (Qf wIx (Qb 3) (mC (.int 1))) Qd))) Qd))) Qd))) (ZN (mMt "list" QR (Qb 2) (Qa (Qb 3) Qd))))
noncomputable def JP(a:FM):FM:=QJ 2
  (Qt (Zb 2 (mFn U3 Qd))
  (Qt (VZ (Qr (Qf wIx (Qf wIx (Qb 0) (Qb 1)) (mC (.int 1)))) (ZJ 3)
  (Vq a))
  (Zo (mFn Jj (Qa (Qb 2) Qd)))))
theorem KU{k:Nat}{rec_:FM}(hk:1<=k)(d:DefAt K mg "flat_lines" Q3 ["program","part"])(b_tuple:mg "tuple"=none)(c_part_number:Cal P w K mg base 1 "part_number" ["program","name"] QU)(c_rec:Cal P w K mg base k "flat_lines" ["program","part"] rec_):Cal P w K mg base (k+1) "flat_lines" ["program","part"] (JP rec_):=by
 refine Qy (k:=k) (more:=2) d J8 rfl fun _ _ _ _ _ _ _ hr=>?_;have nd_:=(J8).nd
 walk_at"~<+.;$7"
 refine Vi ?_
 walk_at"~($*+FJ$G,,%%)I/65B,%)=/A"
 refine WF N4 EO Dm KJ ?_ ?_
 walk_at"~%#&"
 exact hr.mono (by omega)
 walk_at"~$#%#&"
 exact hr.mono (by omega)
 walk_at"~$#%#,%)($0$$($0$$(/A1%#%(E/3:$8#%(00$$"
noncomputable def Zc:Nat->FM
 |0=>QJ 2 fun _ _=>none
 |n+1=>box frN (JP (Zc n))
theorem VU(d:DefAt K mg "flat_lines" Q3 ["program","part"])(b_tuple:mg "tuple"=none)(a:Cal P w K mg base 1 "part_number" ["program","name"] QU):∀n,Cal P w K mg base (2+n) "flat_lines" ["program","part"] (Zc n)
 |0=>Qy (k:=1) (more:=2) d J8 rfl fun _ _ _ _ _ _ _ _=>QbV
 |n+1=>(KU (k:=2+n) (by omega) d b_tuple a (VU d b_tuple a n)).box frN
noncomputable def ZH:FM:=Zc 6
theorem KY(d:DefAt K mg "flat_lines" Q3 ["program","part"])(b_tuple:mg "tuple"=none)(a:Cal P w K mg base 1 "part_number" ["program","name"] QU):Cal P w K mg base 8 "flat_lines" ["program","part"] ZH:=VU d b_tuple a 6
noncomputable abbrev YI:Stmt:=top 36
theorem Qbs:FnScope ["program"] ["program"] (Qe YI):=⟨rfl,rfl,rfl,by decide +kernel,rfl,by decide +kernel,by decide +kernel⟩
noncomputable def YH:FM:=QJ 0
  (Zo (mFn JM (Qa (mFn JM (Qa (Qf wIx (Qf wIx (Qb 0) (mC (.int 0))) (mC (.int 0))) (Qa (Qg 2 ZH (Qa (Qb 0) (Qa (mC (.int 0)) Qd))) Qd))) Qd)))
theorem QcM(d:DefAt K mg "flat" YI ["program"])(c_flat_lines:Cal P w K mg base 8 "flat_lines" ["program","part"] ZH):Cal P w K mg base 9 "flat" ["program"] YH:=by
 refine Qy (k:=8) (more:=0) d Qbs rfl fun _ _ _ _ _ _ _ hr=>?_;have nd_:=(Qbs).nd
 walk_at"~</3>#>#,,%))#&-$#%#)($0$$(("
noncomputable def XG:FM:=box frN YH
noncomputable abbrev QG:Stmt:=top 30
theorem JI:FnScope ["parts","names","number","part","behind"] ["parts"] (Qe QG):=⟨rfl,rfl,rfl,by decide +kernel,rfl,by decide +kernel,by decide +kernel⟩
noncomputable abbrev QA:SM:=(Qt (Zb 4 (mSl (Qb 1) (XF (Qf X2 (Qb 2) (mC (.int 1)))) XE))
  (Jr (J4 (W6 (mFn U5 (Qa (QN Z2 (Qr (Qf wIx (Qb 3) (mC (.int 1)))) [none,some 4] (ZJ 0) (Qi (Qf wEq (Qf wIx (Qb 0) (mC (.int 0))) (mC (.str "do")))) (Qf (wIn false) (Qf wIx (Qb 0) (mC (.int 1))) (Qb 1))) Qd)))) (Zo (mC (.bl false))) QV))
noncomputable def Zn:FM:=QJ 4
  (Qt (Zb 1 (QN Z2 (Qr (Qb 0)) [none] (ZJ 0) VV (Qf wIx (Qb 0) (mC (.int 0)))))
  (Qt (Jr (Qi (Qf wNe (mFn YN (Qa (Qb 1) Qd)) (mFn JC (Qa (Qb 1) Qd)))) (Zo (mC (.bl false))) QV)
  (Qt (VZ (Gr (Qa (Qb 0) Qd)) (VS [2,3])
  QA)
  (Zo (mC (.bl true))))))
theorem V1(d:DefAt K mg "has_right_names" QG ["parts"])(b_all:mg "all"=none)(b_enumerate:mg "enumerate"=none)(b_len:mg "len"=none)(b_set:mg "set"=none):Cal P w K mg base 1 "has_right_names" ["parts"] Zn:=by
 refine Qy (k:=0) (more:=4) d JI rfl fun _ _ _ _ _ _ _ hr=>?_;have nd_:=(JI).nd
 walk_at"~<+"
 refine Kr nd_ rfl (Or.inl rfl) ?_ Q1 ?_ (QT (Nb:=["part"]) (cp:=[none]) rfl (by decide +kernel) (by decide +kernel) rfl rfl) ?_ (fun _ _ _ _ _=>?_) (fun _ _ _ _ _=>?_) ?_ ?_
 walk_at"~*$G%4,%)E$+6"
 refine QW (Yq ?_) Qj ?_ ?_
 walk_at"~B"
 refine QbT ?_ ?_ ?_ ?_ ?_ ?_ ?_
 walk_at"~$$8$8%$2$8#%(00$$/3K@+FJ$"
 refine Qdj ?_ ?_ ?_ ?_
 walk_at"~$8#%($"
 refine Ka ?_ ?_ ?_ ?_
 walk_at"~$"
 refine Vx nd_ rfl (Or.inl rfl) ?_ ?_;refine Vx nd_ rfl (Or.inl rfl) ?_ ?_;exact X7
 walk_at"~**$$+.;$"
 exact(Or.inr rfl);refine VJ ?_ ?_ ?_
 walk_at"~%"
 refine VO ?_
 walk_at"~?%)"
 exact VI
 walk_at"~$*/6LOC$$8#"
 refine Gm Q1 ?_ (K8 (ks:=["behind"]) (Nb:=["line","behind"]) (cp:=[none,some 4]) (N:=["parts","names","number","part","behind"]) (xs:=(Qe QG)) rfl rfl (by decide +kernel) rfl (by decide +kernel) (by intro p hp;simp only[NH,EF,or_false]at hp;rcases hp with rfl<;>rfl) rfl rfl rfl (by decide +kernel)) ?_ (fun _ _ _ _ _=>?_) (fun _ _ _ _ _=>?_) (fun _ _ _ _ _=>?_)
 walk_at"~$G,%)45B,%)="
 refine Yv (GV ?_) Qj ?_ ?_
 walk_at"~B,%)%(00$$/3K@E/3K"
noncomputable def QY:FM:=box frN Zn
noncomputable abbrev Zt:Stmt:=top 2
theorem Vz:FnScope ["line"] ["line"] (Qe Zt):=⟨rfl,rfl,rfl,by decide +kernel,rfl,by decide +kernel,by decide +kernel⟩
noncomputable def Qz:FM:=QJ 0
  (Qt (Jr (Wy (Qi (Qf wEq (Qf wIx (Qb 0) (mC (.int 0))) (mC (.str "either")))) (Qi (Qf wEq (Qf wIx (Qb 0) (mC (.int 0))) (mC (.str "again"))))) (Zo (mC (.int 1))) QV)
  (Zo (mIf (Qi (Qf wEq (Qf wIx (Qb 0) (mC (.int 0))) (mC (.str "end")))) (mUn Qa1 (mC (.int 1))) (mC (.int 0)))))
theorem X3(d:DefAt K mg "level_change" Zt ["line"]):Cal P w K mg base 1 "level_change" ["line"] Qz:=by
 refine Qy (k:=0) (more:=0) d Vz rfl fun _ _ _ _ _ _ _ hr=>?_;have nd_:=(Vz).nd
 walk_at"~<+6NM5B,%)="
 refine Z7 ?_
 walk_at"~5B,%)=/3)@/3"
 refine Qhe ?_ ?_ ?_
 walk_at"~5B,%)="
 refine XZ ?_
 walk_at"~))"
noncomputable def Jp:FM:=box frN Qz
noncomputable abbrev JD:Stmt:=top 16
theorem XW:FnScope ["line","sizes"] ["line","sizes"] (Qe JD):=⟨rfl,rfl,rfl,by decide +kernel,rfl,by decide +kernel,by decide +kernel⟩
noncomputable def QI:FM:=QJ 0
  (Qt (Jr (Qi (Qf wEq (Qf wIx (Qb 0) (mC (.int 0))) (mC (.str "do")))) (Zo (mMt "dict" QdG (Qb 1) (Qa (Qf wIx (Qb 0) (mC (.int 1))) (Qa (mC Zx) Qd)))) QV)
  (Zo (mIf (Qi (Qf wEq (Qf wIx (Qb 0) (mC (.int 0))) (mC (.str "back")))) (mFn JM (Qa (mC (.int 0)) (Qa (mC (.int 1)) (Qa (mC (.int 0)) (Qa (mC (.int 0)) Qd))))) (mFn JM (Qa (mC (.int 1)) (Qa (mC (.int 0)) (Qa (mC (.int 0)) (Qa (mC (.int 0)) Qd))))))))
theorem Wj(d:DefAt K mg "line_size" JD ["line","sizes"])(g_UNENTERED_DO:Glob K mg "UNENTERED_DO" Zx):Cal P w K mg base 1 "line_size" ["line","sizes"] QI:=by
 refine Qy (k:=0) (more:=0) d XW rfl fun _ _ _ _ _ _ _ hr=>?_;have nd_:=(XW).nd
 walk_at"~<+65B,%)=/3"
 refine WF PySem.F.plainAttrs_dict IY PySem.F.type_dict_get (Qc9 ?_) ?_ ?_
 walk_at"~B%#,%)#"
 exact ZX g_UNENTERED_DO rfl
 walk_at"~(@/3"
 refine Qhe ?_ ?_ ?_
 walk_at"~5B,%)=>#)#)#)#)(>#)#)#)#)("
noncomputable abbrev JB:Stmt:=top 15
theorem XR:FnScope ["lines","sizes","plain","backs","level","deepest","ways","line","inner"] ["lines","sizes"] (Qe JB):=⟨rfl,rfl,rfl,by decide +kernel,rfl,by decide +kernel,by decide +kernel⟩
noncomputable abbrev JQ:SM:=(Qt (Qd6 4 UG (Qg 1 Jp (Qa (Qb 7) Qd)))
  (Qt (Zb 8 (Qg 2 QI (Qa (Qb 7) (Qa (Qb 1) Qd))))
  (Qt (Qd6 2 UG (Qf wIx (Qb 8) (mC (.int 0))))
  (Qt (Qd6 3 UG (Qf wIx (Qb 8) (mC (.int 1))))
  (Qt (Zb 5 (mFn QgG (Qa (Qb 5) (Qa (Qf X2 (Qb 4) (Qf wIx (Qb 8) (mC (.int 2)))) Qd))))
  (Qd6 6 UG (Qf wIx (Qb 8) (mC (.int 3)))))))))
noncomputable def Qv:FM:=QJ 7
  (Qt (Zb 2 (mC (.int 0)))
  (Qt (Zb 3 (mC (.int 0)))
  (Qt (Zb 4 (mC (.int 0)))
  (Qt (Zb 5 (mC (.int 0)))
  (Qt (Zb 6 (mC (.int 1)))
  (Qt (VZ (Qr (Qb 0)) (ZJ 7)
  JQ)
  (Zo (mFn JM (Qa (Qb 2) (Qa (Qb 3) (Qa (Qb 5) (Qa (Qb 6) Qd))))))))))))
theorem YU(d:DefAt K mg "size_with" JB ["lines","sizes"])(b_max:mg "max"=none)(c_level_change:Cal P w K mg base 1 "level_change" ["line"] Jp)(c_line_size:Cal P w K mg base 1 "line_size" ["line","sizes"] QI):Cal P w K mg base 2 "size_with" ["lines","sizes"] Qv:=by
 refine Qy (k:=1) (more:=7) d XR rfl fun _ _ _ _ _ _ _ hr=>?_;have nd_:=(XR).nd
 walk_at"~<+.;$7)$*+.;$7)$*+.;$7)$*+.;$7)$*+.;$7)$*+FJ$G%I+"
 refine Y3 ?_ ?_ ?_ Kf Qj ?_ ?_
 walk_at"~;$7&-$#%($0$$*+.;$7&-$#%#%($0$$$*+"
 refine Y3 ?_ ?_ ?_ Kf Qj ?_ ?_
 walk_at"~;$7,%)*+"
 refine Y3 ?_ ?_ ?_ Kf Qj ?_ ?_
 walk_at"~;$7,%)*+.;$7"
 refine VP (Ub ?_) Jw ?_ ?_ Ld ?_ ?_ ?_ ?_ ?_
 walk_at"~$$8#%#?%,%)(00$$$*/"
 refine Y3 ?_ ?_ ?_ Kf Qj ?_ ?_
 walk_at"~;$7,%)*E/3>#%#%#%#%("
noncomputable abbrev Jx:Stmt:=top 14
theorem XU:FnScope ["program","sizes","name","lines"] ["program"] (Qe Jx):=⟨rfl,rfl,rfl,by decide +kernel,rfl,by decide +kernel,by decide +kernel⟩
noncomputable abbrev JL:SM:=(QaI (Qb 1) (Qb 2) (Qg 2 Qv (Qa (Qb 3) (Qa (Qb 1) Qd))))
noncomputable def Vc:FM:=QJ 3
  (Qt (Zb 1 Qd0)
  (Qt (VZ (Qi2 (Qa (Qb 0) Qd)) (VS [2,3])
  JL)
  (Zo (Qf QiZ (Qb 1) (Qf wIx (Qf wIx (Qb 0) (mC (.int 0))) (mC (.int 0)))))))
theorem YC(d:DefAt K mg "flat_size" Jx ["program"])(b_reversed:mg "reversed"=none)(c_size_with:Cal P w K mg base 2 "size_with" ["lines","sizes"] Qv):Cal P w K mg base 3 "flat_size" ["program"] Vc:=by
 refine Qy (k:=2) (more:=3) d XU rfl fun _ _ _ _ _ _ _ hr=>?_;have nd_:=(XU).nd
 walk_at"~<+.;$7"
 exact Qbq
 walk_at"~$*+FJ$"
 refine Qh6 ?_ ?_ ?_ ?_
 walk_at"~$8#%($"
 refine Ka ?_ ?_ ?_ ?_
 walk_at"~$"
 refine Vx nd_ rfl (Or.inl rfl) ?_ ?_;refine Vx nd_ rfl (Or.inl rfl) ?_ ?_;exact X7
 walk_at"~**$$/"
 refine Qdr ?_ ?_ ?_ ?_ ?_
 walk_at"~B%%&-$#%#%($0$$$E/3"
 refine QhT ?_ ?_ ?_
 walk_at"~B%,,%))"
noncomputable def Jy:FM:=box frN Vc
noncomputable abbrev Va:Stmt:=top 32
theorem Ko:FnScope ["size"] ["size"] (Qe Va):=⟨rfl,rfl,rfl,by decide +kernel,rfl,by decide +kernel,by decide +kernel⟩
noncomputable def Z1:FM:=QJ 0
  (Zo (Qd7 (Qf wLe (Qf wIx (Qb 0) (mC (.int 0))) (mC Je)) (Qd7 (Qf wLe (Qf wIx (Qb 0) (mC (.int 1))) (mC Jh)) (Qf wLe (Qf wIx (Qb 0) (mC (.int 2))) (mC ZY)))))
theorem Ud(d:DefAt K mg "is_small" Va ["size"])(g_MOST_BACKS:Glob K mg "MOST_BACKS" Jh)(g_MOST_BLOCKS:Glob K mg "MOST_BLOCKS" ZY)(g_MOST_LINES:Glob K mg "MOST_LINES" Je):Cal P w K mg base 1 "is_small" ["size"] Z1:=by
 refine Qy (k:=0) (more:=0) d Ko rfl fun _ _ _ _ _ _ _ hr=>?_;have nd_:=(Ko).nd
 walk_at"~</3"
 refine Yi ?_ ?_;refine Yv Xu Qj ?_ ?_
 walk_at"~,%)"
 exact ZX g_MOST_LINES rfl;refine Yi ?_ ?_;refine Yv Xu Qj ?_ ?_
 walk_at"~,%)"
 exact ZX g_MOST_BACKS rfl;refine W8 ?_;refine Yv Xu Qj ?_ ?_
 walk_at"~,%)"
 exact ZX g_MOST_BLOCKS rfl
noncomputable def Zq:FM:=box frN Z1
noncomputable abbrev JH:Stmt:=top 33
theorem X0:FnScope ["program","lines","part"] ["program"] (Qe JH):=⟨rfl,rfl,rfl,by decide +kernel,rfl,by decide +kernel,by decide +kernel⟩
noncomputable abbrev JK:SM:=(ZN (mMt "list" XB (Qb 1) (Qa (Qf wIx (Qb 2) (mC (.int 1))) Qd)))
noncomputable def Ve:FM:=QJ 2
  (Qt (Zb 1 (mFn U3 Qd))
  (Qt (VZ (Qr (Qb 0)) (ZJ 2)
  JK)
  (Zo (Qb 1))))
theorem Wa(d:DefAt K mg "all_lines" JH ["program"]):Cal P w K mg base 1 "all_lines" ["program"] Ve:=by
 refine Qy (k:=0) (more:=2) d X0 rfl fun _ _ _ _ _ _ _ hr=>?_;have nd_:=(X0).nd
 walk_at"~<+.;$7"
 refine Vi ?_
 walk_at"~($*+FJ$G%I/A"
 refine WF N4 EO Dm KJ ?_ ?_
 walk_at"~%#,%)(E/3%"
noncomputable def Qk:FM:=box frN Ve
noncomputable abbrev J2:Stmt:=top 34
theorem Kv:FnScope ["line"] ["line"] (Qe J2):=⟨rfl,rfl,rfl,by decide +kernel,rfl,by decide +kernel,by decide +kernel⟩
noncomputable def Z4:FM:=QJ 0
  (Qt (Jr (Qi (Qf wEq (Qf wIx (Qb 0) (mC (.int 0))) (mC (.str "pair")))) (Zo (mFn UU (Qa (Qf wIx (Qb 0) (mC (.int 1))) (Qa (Qf wIx (Qb 0) (mC (.int 3))) (Qa (Qf wIx (Qb 0) (mC (.int 4))) Qd))))) QV)
  (Qt (Jr (Qi (Qf (wIn false) (Qf wIx (Qb 0) (mC (.int 0))) (mFn JM (Qa (mC (.str "first")) (Qa (mC (.str "second")) (Qa (mC (.str "same")) (Qa (mC (.str "none")) (Qa (mC (.str "tell")) Qd)))))))) (Zo (mFn Qdw (Qa (mSl (Qb 0) (XF (mC (.int 1))) XE) Qd))) QV)
  (Zo (mFn UU Qd))))
theorem W2(d:DefAt K mg "boxes_in" J2 ["line"])(b_list:mg "list"=none):Cal P w K mg base 1 "boxes_in" ["line"] Z4:=by
 refine Qy (k:=0) (more:=0) d Kv rfl fun _ _ _ _ _ _ _ hr=>?_;have nd_:=(Kv).nd
 walk_at"~<+65B,%)=/3"
 refine Vt ?_
 walk_at"~#,%)#,%)#,%)(@+6"
 refine QW (GV ?_) Qj ?_ ?_
 walk_at"~B,%)>#=#=#=#=#=(/3"
 refine Uc Qas Jw ?_ ?_ On ?_ ?_ ?_ ?_ ?_
 walk_at"~$8#"
 refine VJ ?_ ?_ ?_
 walk_at"~%"
 refine VO ?_
 walk_at"~)"
 exact VI
 walk_at"~(00$$@/3"
 refine Vt ?_
 walk_at"~("
noncomputable def ZQ:FM:=box frN Z4
noncomputable abbrev Vd:Stmt:=top 26
theorem KD:FnScope ["program","boxes","line"] ["program"] (Qe Vd):=⟨rfl,rfl,rfl,by decide +kernel,rfl,by decide +kernel,by decide +kernel⟩
noncomputable abbrev J0:SM:=(ZN (mMt "list" Kn (Qb 1) (Qa (Qg 1 ZQ (Qa (Qb 2) Qd)) Qd)))
noncomputable def Vk:FM:=QJ 2
  (Qt (Zb 1 (mFn U3 Qd))
  (Qt (VZ (Qr (Qg 1 Qk (Qa (Qb 0) Qd))) (ZJ 2)
  J0)
  (Zo (mFn Vp (Qa (Qb 1) Qd)))))
theorem WK(d:DefAt K mg "boxes_of" Vd ["program"])(b_set:mg "set"=none)(b_sorted:mg "sorted"=none)(c_all_lines:Cal P w K mg base 1 "all_lines" ["program"] Qk)(c_boxes_in:Cal P w K mg base 1 "boxes_in" ["line"] ZQ):Cal P w K mg base 2 "boxes_of" ["program"] Vk:=by
 refine Qy (k:=1) (more:=2) d KD rfl fun _ _ _ _ _ _ _ hr=>?_;have nd_:=(KD).nd
 walk_at"~<+.;$7"
 refine Vi ?_
 walk_at"~($*+FJ$G&-$#%($0$$I/A"
 refine WF N4 EO Dm Yr ?_ ?_
 walk_at"~%#&-$#%($0$$(E/3"
 refine X1 ?_ ?_ ?_ ?_ ?_ ?_ ?_
 walk_at"~$$8$8%$"
noncomputable def V8:FM:=box frN Vk
noncomputable abbrev Vg:Stmt:=top 27
theorem Kp:FnScope ["program"] ["program"] (Qe Vg):=⟨rfl,rfl,rfl,by decide +kernel,rfl,by decide +kernel,by decide +kernel⟩
noncomputable def Vv:FM:=QJ 0
  (Zo (mFn Vp (Qa (QN Z2 (Qr (Qg 1 Qk (Qa (Qb 0) Qd))) [none] (ZJ 0) (Qi (Qf wEq (Qf wIx (Qb 0) (mC (.int 0))) (mC (.str "pair")))) (Qf wIx (Qb 0) (mC (.int 2)))) Qd)))
theorem WY(d:DefAt K mg "words_of" Vg ["program"])(b_set:mg "set"=none)(b_sorted:mg "sorted"=none)(c_all_lines:Cal P w K mg base 1 "all_lines" ["program"] Qk):Cal P w K mg base 2 "words_of" ["program"] Vv:=by
 refine Qy (k:=1) (more:=0) d Kp rfl fun _ _ _ _ _ _ _ hr=>?_;have nd_:=(Kp).nd
 walk_at"~</3"
 refine X1 ?_ ?_ ?_ ?_ ?_ ?_ ?_
 walk_at"~$$8$8"
 refine Gm Q1 ?_ (QT (Nb:=["line"]) (cp:=[none]) rfl (by decide +kernel) (by decide +kernel) rfl rfl) ?_ (fun _ _ _ _ _=>?_) (fun _ _ _ _ _=>?_) (fun _ _ _ _ _=>?_)
 walk_at"~$G&-$#%($0$$45B,%)=,%)$"
noncomputable def Xa:FM:=box frN Vv
noncomputable abbrev J7:Stmt:=top 13
theorem KB:FnScope ["lines"] ["lines"] (Qe J7):=⟨rfl,rfl,rfl,by decide +kernel,rfl,by decide +kernel,by decide +kernel⟩
noncomputable def Vm:FM:=QJ 0
  (Zo (Qg 2 Qv (Qa (Qb 0) (Qa Qd0 Qd))))
theorem WV(d:DefAt K mg "own_size" J7 ["lines"])(c_size_with:Cal P w K mg base 2 "size_with" ["lines","sizes"] Qv):Cal P w K mg base 3 "own_size" ["lines"] Vm:=by
 refine Qy (k:=2) (more:=0) d KB rfl fun _ _ _ _ _ _ _ hr=>?_;have nd_:=(KB).nd
 walk_at"~</3&-$#%#"
 exact Qbq
 walk_at"~($0$$"
noncomputable def Jq:FM:=box frN Vm
noncomputable abbrev ZG:Stmt:=top 31
theorem Vr:FnScope ["parts","backs","whole"] ["parts"] (Qe ZG):=⟨rfl,rfl,rfl,by decide +kernel,rfl,by decide +kernel,by decide +kernel⟩
noncomputable def Z5:FM:=QJ 2
  (Qt (Jr (Qi (Qf wGt (mFn JC (Qa (Qg 1 V8 (Qa (Qb 0) Qd)) Qd)) (mC Z9))) (Zo (mC (.bl false))) QV)
  (Qt (Zb 1 (QN Z2 (Qr (Qg 1 Qk (Qa (Qb 0) Qd))) [none] (ZJ 0) (Qi (Qf wEq (Qf wIx (Qb 0) (mC (.int 0))) (mC (.str "back")))) (Qf wIx (Qb 0) (mC (.int 1)))))
  (Qt (Jr (Qi (Qf wGt (mFn GP (Qa (Qg 1 Xa (Qa (Qb 0) Qd)) (Qa (Qb 1) Qd))) (mC Jb))) (Zo (mC (.bl false))) QV)
  (Qt (Zb 2 (Qg 1 Jy (Qa (Qb 0) Qd)))
  (Qt (Jr (Qi (Qf wGt (Qf wIx (Qb 2) (mC (.int 3))) (mC JA))) (Zo (mC (.bl false))) QV)
  (Zo (Qd7 (Qg 1 Zq (Qa (Qb 2) Qd)) (mFn U5 (Qa (QN Z2 (Qr (Qb 0)) [none,none] (VS [0,1]) VV (Qg 1 Zq (Qa (Qg 1 Jq (Qa (Qb 1) Qd)) Qd))) Qd)))))))))
theorem X6(d:DefAt K mg "keeps_bounds" ZG ["parts"])(g_MOST_BOXES:Glob K mg "MOST_BOXES" Z9)(g_MOST_WAYS:Glob K mg "MOST_WAYS" JA)(g_MOST_WORDS:Glob K mg "MOST_WORDS" Jb)(b_all:mg "all"=none)(b_len:mg "len"=none)(b_set:mg "set"=none)(c_all_lines:Cal P w K mg base 1 "all_lines" ["program"] Qk)(c_boxes_of:Cal P w K mg base 2 "boxes_of" ["program"] V8)(c_flat_size:Cal P w K mg base 3 "flat_size" ["program"] Jy)(c_is_small:Cal P w K mg base 1 "is_small" ["size"] Zq)(c_own_size:Cal P w K mg base 3 "own_size" ["lines"] Jq)(c_words_of:Cal P w K mg base 2 "words_of" ["program"] Xa):Cal P w K mg base 4 "keeps_bounds" ["parts"] Z5:=by
 refine Qy (k:=3) (more:=2) d Vr rfl fun _ _ _ _ _ _ _ hr=>?_;have nd_:=(Vr).nd
 walk_at"~<+6D2$8#&-$#%($0$$(00$$"
 exact ZX g_MOST_BOXES rfl
 walk_at"~/3K@+"
 refine QbI nd_ rfl (Or.inl rfl) ?_ Q1 ?_ (QT (Nb:=["line"]) (cp:=[none]) rfl (by decide +kernel) (by decide +kernel) rfl rfl) ?_ (fun _ _ _ _ _=>?_) (fun _ _ _ _ _=>?_) (fun _ _ _ _ _=>?_) ?_ ?_
 walk_at"~*$G&-$#%($0$$45B,%)=,%)E$+6D"
 refine QdB ?_ ?_ ?_ ?_ ?_ ?_ ?_ ?_ ?_
 walk_at"~$$8$8&-$#%($0$$%$$"
 exact ZX g_MOST_WORDS rfl
 walk_at"~/3K@+.;$7&-$#%($0$$$*+6D,%)"
 exact ZX g_MOST_WAYS rfl
 walk_at"~/3K@/3"
 refine Yi ?_ ?_
 walk_at"~&-$#%($0$$"
 refine W8 ?_
 walk_at"~C$$8#"
 refine Zj Q1 ?_ (QT (Nb:=["name","lines"]) (cp:=[none,none]) rfl (by decide +kernel) (by decide +kernel) rfl rfl) ?_ (fun _ _ _ _ _=>?_) (fun _ _ _ _ _=>?_)
 walk_at"~$G%"
 refine Ka ?_ ?_ ?_ ?_
 walk_at"~$QQ"
 exact X7
 walk_at"~**$$&-$#&-$#%($0$$($0$$(00$$"
noncomputable def ZI:FM:=box frN Z5
noncomputable abbrev JE:Stmt:=top 1
theorem XT:FnScope ["lines","opened","line"] ["lines"] (Qe JE):=⟨rfl,rfl,rfl,by decide +kernel,rfl,by decide +kernel,by decide +kernel⟩
noncomputable abbrev Zf:SM:=(Jr (Wy (Qi (Qf wEq (Qf wIx (Qb 2) (mC (.int 0))) (mC (.str "either")))) (Qi (Qf wEq (Qf wIx (Qb 2) (mC (.int 0))) (mC (.str "again"))))) (ZN (mMt "list" QR (Qb 1) (Qa (Qf wIx (Qb 2) (mC (.int 0))) Qd))) (Jr (Qi (Qf wEq (Qf wIx (Qb 2) (mC (.int 0))) (mC (.str "or")))) (Qt (Jr (Wy (J4 (W6 (Qb 1))) (Qi (Qf wNe (Qf wIx (Qb 1) (mUn Qa1 (mC (.int 1)))) (mC (.str "either"))))) (Zo (mC (.bl false))) QV)
  (QeH (Qb 1) (mUn Qa1 (mC (.int 1))) (mC (.str "or")))) (Jr (Qi (Qf wEq (Qf wIx (Qb 2) (mC (.int 0))) (mC (.str "end")))) (Qt (Jr (Wy (J4 (W6 (Qb 1))) (Qi (Qf wEq (Qf wIx (Qb 1) (mUn Qa1 (mC (.int 1)))) (mC (.str "either"))))) (Zo (mC (.bl false))) QV)
  (ZN (mMt "list" QgH (Qb 1) Qd))) QV)))
noncomputable def Vf:FM:=QJ 2
  (Qt (Zb 1 (mFn U3 Qd))
  (Qt (VZ (Qr (Qb 0)) (ZJ 2)
  Zf)
  (Zo (Qf wEq (mFn JC (Qa (Qb 1) Qd)) (mC (.int 0))))))
theorem YV(d:DefAt K mg "is_blocks" JE ["lines"])(b_len:mg "len"=none):Cal P w K mg base 1 "is_blocks" ["lines"] Vf:=by
 refine Qy (k:=0) (more:=2) d XT rfl fun _ _ _ _ _ _ _ hr=>?_;have nd_:=(XT).nd
 walk_at"~<+.;$7"
 refine Vi ?_
 walk_at"~($*+FJ$G%I/6NM5B,%)="
 refine Z7 ?_
 walk_at"~5B,%)=/A1%#,%)(/65B,%)=+6NMLO%"
 refine Z7 ?_;refine QW (Yq ?_) Qj ?_ ?_
 walk_at"~B,%"
 refine XZ ?_
 walk_at"~)=/3K@/"
 refine Wm ?_ ?_ ?_ ?_ ?_ ?_
 walk_at"~%"
 refine XZ ?_
 walk_at"~)=E$$/65B,%)=+6NMLO%"
 refine Z7 ?_
 walk_at"~5B,%"
 refine XZ ?_
 walk_at"~)=/3K@/A"
 refine QaT N4 DQ Fw UC ?_
 walk_at"~%@E/3"
 refine Yv (Qet ?_) Qj ?_ ?_
 walk_at"~B2$8#%(00$$)"
noncomputable def Vy:FM:=box frN Vf
noncomputable abbrev QX:Stmt:=top 7
theorem Jt:FnScope ["sign"] ["sign"] (Qe QX):=⟨rfl,rfl,rfl,by decide +kernel,rfl,by decide +kernel,by decide +kernel⟩
noncomputable def Zp:FM:=QJ 0
  (Zo (JV wLe wLe (mC (.str "a")) (Qb 0) (mC (.str "z"))))
theorem V9(d:DefAt K mg "is_small_letter" QX ["sign"]):Cal P w K mg base 1 "is_small_letter" ["sign"] Zp:=by
 refine Qy (k:=0) (more:=0) d Jt rfl fun _ _ _ _ _ _ _ hr=>?_;have nd_:=(Jt).nd
 walk_at"~</3"
 refine QcT Xu Qj Xu Qj ?_ ?_ ?_
 walk_at"~=%="
noncomputable def QZ:FM:=box frN Zp
noncomputable abbrev VC:Stmt:=top 6
theorem Yt:FnScope ["thing"] ["thing"] (Qe VC):=⟨rfl,rfl,rfl,by decide +kernel,rfl,by decide +kernel,by decide +kernel⟩
noncomputable def V5:FM:=QJ 0
  (Qt (Jr (J4 (W6 (mFn K4 (Qa (Qb 0) (Qa (mC (.ty "str")) Qd))))) (Zo (mC (.bl false))) QV)
  (Qt (Jr (J4 (Qi (JV wLe wLe (mC (.int 1)) (mFn JC (Qa (Qb 0) Qd)) (mC QK)))) (Zo (mC (.bl false))) QV)
  (Zo (Qd7 (mFn U5 (Qa (QN Z2 (Qr (Qb 0)) [none] (ZJ 0) VV (Qg 1 QZ (Qa (Qb 0) Qd))) Qd)) (Qf (wIn true) (Qb 0) (mC KA))))))
theorem U2(d:DefAt K mg "is_name" VC ["thing"])(g_KEPT:Glob K mg "KEPT" KA)(g_MOST_LETTERS:Glob K mg "MOST_LETTERS" QK)(b_all:mg "all"=none)(b_isinstance:mg "isinstance"=none)(b_len:mg "len"=none)(b_str:mg "str"=none)(c_is_small_letter:Cal P w K mg base 1 "is_small_letter" ["sign"] QZ):Cal P w K mg base 2 "is_name" ["thing"] V5:=by
 refine Qy (k:=1) (more:=0) d Yt rfl fun _ _ _ _ _ _ _ hr=>?_;have nd_:=(Yt).nd
 walk_at"~<+6LO9$8#%#"
 exact Qgu rfl b_str Le
 walk_at"~(00$$/3K@+6L"
 refine WM Xu Qj Xu Qj ?_ ?_ ?_
 walk_at"~)2$8#%(00$$"
 exact ZX g_MOST_LETTERS rfl
 walk_at"~/3K@/3"
 refine Yi ?_ ?_
 walk_at"~C$$8#"
 refine Zj Q1 ?_ (QT (Nb:=["sign"]) (cp:=[none]) rfl (by decide +kernel) (by decide +kernel) rfl rfl) ?_ (fun _ _ _ _ _=>?_) (fun _ _ _ _ _=>?_)
 walk_at"~$G%4&-$#%($0$$(00$$"
 refine W8 ?_;refine Yv (QaM ?_) Qj ?_ ?_
 walk_at"~B%"
 exact ZX g_KEPT rfl
noncomputable def ZM:FM:=box frN V5
noncomputable abbrev VM:Stmt:=top 10
theorem Ys:FnScope ["thing"] ["thing"] (Qe VM):=⟨rfl,rfl,rfl,by decide +kernel,rfl,by decide +kernel,by decide +kernel⟩
noncomputable def Xc:FM:=QJ 0
  (Qt (Jr (Wy (J4 (W6 (mFn K4 (Qa (Qb 0) (Qa (mC (.ty "tuple")) Qd))))) (Qi (Qf wEq (mFn JC (Qa (Qb 0) Qd)) (mC (.int 0))))) (Zo (mC (.bl false))) QV)
  (Qt (Jr (Wy (J4 (W6 (mFn K4 (Qa (Qf wIx (Qb 0) (mC (.int 0))) (Qa (mC (.ty "str")) Qd))))) (Qi (mUn (QgC true Qx) (Qf wIx (Qb 0) (mC (.int 0)))))) (Zo (mC (.bl false))) QV)
  (Qt (Jr (Qi (Qf wNe (mFn JC (Qa (Qb 0) Qd)) (Qf X2 (mC (.int 1)) (mUn (QhX Qx) (Qf wIx (Qb 0) (mC (.int 0))))))) (Zo (mC (.bl false))) QV)
  (Zo (mFn U5 (Qa (QN Z2 (Qr (mSl (Qb 0) (XF (mC (.int 1))) XE)) [none] (ZJ 0) VV (Qg 1 ZM (Qa (Qb 0) Qd))) Qd))))))
theorem UT(d:DefAt K mg "is_line" VM ["thing"])(g_NAMES_BEHIND:GTab w K mg "NAMES_BEHIND" Qx)(b_all:mg "all"=none)(b_isinstance:mg "isinstance"=none)(b_len:mg "len"=none)(b_str:mg "str"=none)(b_tuple:mg "tuple"=none)(c_is_name:Cal P w K mg base 2 "is_name" ["thing"] ZM):Cal P w K mg base 3 "is_line" ["thing"] Xc:=by
 refine Qy (k:=2) (more:=0) d Ys rfl fun _ _ _ _ _ _ _ hr=>?_;have nd_:=(Ys).nd
 walk_at"~<+6NMLO9$8#%#H(00$$"
 refine Z7 ?_
 walk_at"~5B2$8#%(00$$)/3K@+6NMLO9$8#,%)#"
 exact Qgu rfl b_str Le
 walk_at"~(00$$"
 refine Z7 ?_;refine Qac ?_ ?_ ?_;exact g_NAMES_BEHIND
 walk_at"~$,%)/3K@+6"
 refine QW (Yq ?_) Qj ?_ ?_
 walk_at"~B2$8#%(00$$?)"
 refine QgO ?_ ?_ ?_;exact g_NAMES_BEHIND
 walk_at"~$,%)/3K@/3C$$8#"
 refine Zj Q1 ?_ (QT (Nb:=["name"]) (cp:=[none]) rfl (by decide +kernel) (by decide +kernel) rfl rfl) ?_ (fun _ _ _ _ _=>?_) (fun _ _ _ _ _=>?_)
 walk_at"~$G"
 refine VJ ?_ ?_ ?_
 walk_at"~%"
 refine VO ?_
 walk_at"~)"
 exact VI
 walk_at"~4&-$#%($0$$(00$$"
noncomputable def JX:FM:=box frN Xc
noncomputable abbrev VB:Stmt:=top 29
theorem Yx:FnScope ["thing"] ["thing"] (Qe VB):=⟨rfl,rfl,rfl,by decide +kernel,rfl,by decide +kernel,by decide +kernel⟩
noncomputable def V2:FM:=QJ 0
  (Qt (Jr (Wy (J4 (W6 (mFn K4 (Qa (Qb 0) (Qa (mC (.ty "tuple")) Qd))))) (Qi (Qf wNe (mFn JC (Qa (Qb 0) Qd)) (mC (.int 2))))) (Zo (mC (.bl false))) QV)
  (Qt (Jr (Wy (J4 (W6 (Qg 1 ZM (Qa (Qf wIx (Qb 0) (mC (.int 0))) Qd)))) (J4 (W6 (mFn K4 (Qa (Qf wIx (Qb 0) (mC (.int 1))) (Qa (mC (.ty "tuple")) Qd)))))) (Zo (mC (.bl false))) QV)
  (Zo (Qd7 (mFn U5 (Qa (QN Z2 (Qr (Qf wIx (Qb 0) (mC (.int 1)))) [none] (ZJ 0) VV (Qg 1 JX (Qa (Qb 0) Qd))) Qd)) (Qg 1 Vy (Qa (Qf wIx (Qb 0) (mC (.int 1))) Qd))))))
theorem UJ(d:DefAt K mg "is_part" VB ["thing"])(b_all:mg "all"=none)(b_isinstance:mg "isinstance"=none)(b_len:mg "len"=none)(b_tuple:mg "tuple"=none)(c_is_blocks:Cal P w K mg base 1 "is_blocks" ["lines"] Vy)(c_is_line:Cal P w K mg base 3 "is_line" ["thing"] JX)(c_is_name:Cal P w K mg base 2 "is_name" ["thing"] ZM):Cal P w K mg base 4 "is_part" ["thing"] V2:=by
 refine Qy (k:=3) (more:=0) d Yx rfl fun _ _ _ _ _ _ _ hr=>?_;have nd_:=(Yx).nd
 walk_at"~<+6NMLO9$8#%#H(00$$"
 refine Z7 ?_;refine QW (Yq ?_) Qj ?_ ?_
 walk_at"~B2$8#%(00$$)/3K@+6NMLO&-$#,%)($0$$"
 refine Z7 ?_
 walk_at"~LO9$8#,%)#H(00$$/3K@/3"
 refine Yi ?_ ?_
 walk_at"~C$$8#"
 refine Zj Q1 ?_ (QT (Nb:=["line"]) (cp:=[none]) rfl (by decide +kernel) (by decide +kernel) rfl rfl) ?_ (fun _ _ _ _ _=>?_) (fun _ _ _ _ _=>?_)
 walk_at"~$G,%)4&-$#%($0$$(00$$"
 refine W8 ?_
 walk_at"~&-$#,%)($0$$"
noncomputable def VL:FM:=box frN V2
noncomputable abbrev Jd:Stmt:=top 25
theorem Xy:FnScope ["thing"] ["thing"] (Qe Jd):=⟨rfl,rfl,rfl,by decide +kernel,rfl,by decide +kernel,by decide +kernel⟩
noncomputable def JO:FM:=QJ 0
  (Qt (Jr (Wy (J4 (W6 (mFn K4 (Qa (Qb 0) (Qa (mC (.ty "tuple")) Qd))))) (J4 (Qi (JV wLe wLe (mC (.int 1)) (mFn JC (Qa (Qb 0) Qd)) (mC Za))))) (Zo (mC (.bl false))) QV)
  (Qt (Jr (J4 (W6 (mFn U5 (Qa (QN Z2 (Qr (Qb 0)) [none] (ZJ 0) VV (Qg 1 VL (Qa (Qb 0) Qd))) Qd)))) (Zo (mC (.bl false))) QV)
  (Zo (Qd7 (Qg 1 QY (Qa (Qb 0) Qd)) (Qg 1 ZI (Qa (Qb 0) Qd))))))
theorem K6(d:DefAt K mg "is_program" Jd ["thing"])(g_MOST_PARTS:Glob K mg "MOST_PARTS" Za)(b_all:mg "all"=none)(b_isinstance:mg "isinstance"=none)(b_len:mg "len"=none)(b_tuple:mg "tuple"=none)(c_has_right_names:Cal P w K mg base 1 "has_right_names" ["parts"] QY)(c_is_part:Cal P w K mg base 4 "is_part" ["thing"] VL)(c_keeps_bounds:Cal P w K mg base 4 "keeps_bounds" ["parts"] ZI):Cal P w K mg base 5 "is_program" ["thing"] JO:=by
 refine Qy (k:=4) (more:=0) d Xy rfl fun _ _ _ _ _ _ _ hr=>?_;have nd_:=(Xy).nd
 walk_at"~<+6NMLO9$8#%#H(00$$"
 refine Z7 ?_
 walk_at"~L"
 refine WM Xu Qj Xu Qj ?_ ?_ ?_
 walk_at"~)2$8#%(00$$"
 exact ZX g_MOST_PARTS rfl
 walk_at"~/3K@+6LOC$$8#"
 refine Zj Q1 ?_ (QT (Nb:=["part"]) (cp:=[none]) rfl (by decide +kernel) (by decide +kernel) rfl rfl) ?_ (fun _ _ _ _ _=>?_) (fun _ _ _ _ _=>?_)
 walk_at"~$G%4&-$#%($0$$(00$$/3K@/3"
 refine Yi ?_ ?_
 walk_at"~&-$#%($0$$"
 refine W8 ?_
 walk_at"~&-$#%($0$$"
noncomputable def Q4:FM:=box frN JO
noncomputable abbrev Jg:Stmt:=top 48
theorem Xn:FnScope ["lines","feed","left","found","line"] ["lines","feed","left"] (Qe Jg):=⟨rfl,rfl,rfl,by decide +kernel,rfl,by decide +kernel,by decide +kernel⟩
noncomputable abbrev Zv:SM:=(Qt (ZN (mMt "list" QR (Qb 3) (Qa (Qb 4) Qd)))
  (Jr (Xk (Qi (Qf wEq (Qf wIx (Qb 4) (mC (.int 0))) (mC (.str "pair")))) (Xk (Qi (Qf wGt (Qb 2) (mC (.int 0)))) (Qi (Qf wEq (Qg 2 Qc (Qa (Qb 1) (Qa (mC (.int 2)) Qd))) (mC (.int 0)))))) (Qt (ZN (mMt "list" QR (Qb 3) (Qa (mFn JM (Qa (mC (.str "back")) (Qa (Qf wIx (Qb 4) (mC (.int 2))) Qd))) Qd)))
  (Zb 2 (Qf Qa8 (Qb 2) (mC (.int 1))))) QV))
noncomputable def JR:FM:=QJ 2
  (Qt (Zb 3 (mFn U3 Qd))
  (Qt (VZ (Qr (Qb 0)) (ZJ 4)
  Zv)
  (Zo (mFn Jj (Qa (Qb 3) Qd)))))
theorem K5(d:DefAt K mg "_law_backs" Jg ["lines","feed","left"])(b_tuple:mg "tuple"=none)(c__law_take:Cal P w K mg base 1 "_law_take" ["feed","many"] Qc):Cal P w K mg base 2 "_law_backs" ["lines","feed","left"] JR:=by
 refine Qy (k:=1) (more:=2) d Xn rfl fun _ _ _ _ _ _ _ hr=>?_;have nd_:=(Xn).nd
 walk_at"~<+.;$7"
 refine Vi ?_
 walk_at"~($*+FJ$G%I+A1%#%(/6N"
 refine XM ?_ ?_
 walk_at"~5B,%)="
 refine XM ?_ ?_
 walk_at"~D%)"
 refine Ke ?_
 walk_at"~5B&-$#%#)($0$$)+A1%#>#=#,%)((/.;$7P%)$*@E/3:$8#%(00$$"
noncomputable def ZK:FM:=box frN JR
noncomputable abbrev Yd:Stmt:=top 50
theorem Qek:FnScope ["script","k","program","feed","due","found"] ["script"] (Qe Yd):=⟨rfl,rfl,rfl,by decide +kernel,rfl,by decide +kernel,by decide +kernel⟩
noncomputable abbrev YE:SM:=(Qt (Zb 2 (Qg 2 V4 (Qa (Qg 2 Zr (Qa (Qb 0) (Qa (Qb 1) Qd))) (Qa (mFn UU (Qa (mC (.int 3)) (Qa (mC (.int 3)) (Qa (mC (.int 5)) (Qa (mC (.int 8)) Qd))))) Qd))))
  (Qt (Zb 3 (Qg 2 Zr (Qa (Qb 0) (Qa (Qf X2 (Qb 1) (mC (.int 1))) Qd))))
  (Qt (Jr (Qi (Qf wEq (Qg 2 Qc (Qa (Qb 3) (Qa (mC (.int 2)) Qd))) (mC (.int 0)))) (Zb 2 (mFn Jj (Qa (QN Z2 (Qr (Qb 2)) [none,none,some 3] (VS [0,1]) VV (mFn JM (Qa (Qb 0) (Qa (Qg 3 ZK (Qa (Qb 1) (Qa (Qb 2) (Qa (mC (.int 10)) Qd)))) Qd)))) Qd))) QV)
  (Qt (Zb 4 (Qg 1 J9 (Qa (Qb 2) Qd)))
  (Qt (Zb 5 (Qg 1 XG (Qa (Qb 2) Qd)))
  (Qt (Jr (Wy (J4 (W6 (mFn K4 (Qa (Qb 5) (Qa (mC (.ty "tuple")) Qd))))) (Wy (Qi (Qf wNe (Qb 5) (Qb 4))) (J4 (W6 (mFn K4 (Qa (Qf wIx (Qb 5) (mC (.int 0))) (Qa (mC (.ty "tuple")) Qd))))))) (Zo (mC (.bl false))) QV)
  (Qt (Jr (Wy (J4 (W6 (mFn K4 (Qa (Qf wIx (Qf wIx (Qb 5) (mC (.int 0))) (mC (.int 1))) (Qa (mC (.ty "tuple")) Qd))))) (Qi (Qf (wIn false) (mC (.bl false)) (QN Z2 (Qr (Qf wIx (Qf wIx (Qb 5) (mC (.int 0))) (mC (.int 1)))) [none] (ZJ 0) VV (mFn K4 (Qa (Qb 0) (Qa (mC (.ty "tuple")) Qd))))))) (Zo (mC (.bl false))) QV)
  (Jr (Wy (Qi (Qf wNe (Qg 1 XG (Qa (Qb 5) Qd)) (Qb 4))) (Wy (Qi (Qf Kt (Qg 1 Q4 (Qa (Qb 2) Qd)) (mC (.bl true)))) (Qi (Qf Kt (Qg 1 Q4 (Qa (Qb 5) Qd)) (mC (.bl true)))))) (Zo (mC (.bl false))) QV))))))))
noncomputable def XI:FM:=QJ 5
  (Qt (VZ (Qi8 (Qa (mC (.int 0)) (Qa (mFn QgG (Qa (mC (.int 2)) (Qa (mFn QhU (Qa (mC (.int 8)) (Qa (mFn JC (Qa (Qb 0) Qd)) Qd))) Qd))) (Qa (mC (.int 2)) Qd)))) (ZJ 1)
  YE)
  (Zo (mC (.bl true))))
theorem QfG(d:DefAt K mg "law" Yd ["script"])(b_isinstance:mg "isinstance"=none)(b_len:mg "len"=none)(b_max:mg "max"=none)(b_min:mg "min"=none)(b_range:mg "range"=none)(b_tuple:mg "tuple"=none)(c__law_any:Cal P w K mg base 5 "_law_any" ["feed","bounds"] V4)(c__law_backs:Cal P w K mg base 2 "_law_backs" ["lines","feed","left"] ZK)(c__law_due:Cal P w K mg base 1 "_law_due" ["program"] J9)(c__law_feed:Cal P w K mg base 1 "_law_feed" ["script","k"] Zr)(c__law_take:Cal P w K mg base 1 "_law_take" ["feed","many"] Qc)(c_flat:Cal P w K mg base 9 "flat" ["program"] XG)(c_is_program:Cal P w K mg base 5 "is_program" ["thing"] Q4):Cal P w K mg base 10 "law" ["script"] XI:=by
 refine Qy (k:=9) (more:=5) d Qek rfl fun _ _ _ _ _ _ _ hr=>?_;have nd_:=(Qek).nd
 walk_at"~<+FJ$"
 refine Qg9 ?_ ?_ ?_ ?_ ?_
 walk_at"~$8#)#"
 refine VP (Ub ?_) Jw ?_ ?_ Ld ?_ ?_ ?_ ?_ ?_
 walk_at"~$$8#)#"
 refine VP (QaX ?_) Jw ?_ ?_ PyProof.Rows.boot_min ?_ ?_ ?_ ?_ ?_
 walk_at"~$$8#)#2$8#%(00$$(00$$(00$$#)($$I+.;$7&-$#&-$#%#%($0$$#"
 refine Vt ?_
 walk_at"~#)#)#)#)(($0$$$*+.;$"
 exact(Or.inr rfl)
 walk_at"~&-$#%#?%)($0$$$*+65B&-$#%#)($0$$)/.;$7:$8#"
 refine Zj Q1 ?_ (K8 (ks:=["feed"]) (Nb:=["name","lines","feed"]) (cp:=[none,none,some 3]) (N:=["script","k","program","feed","due","found"]) (xs:=(Qe Yd)) rfl rfl (by decide +kernel) rfl (by decide +kernel) (by intro p hp;simp only[NH,EF,or_false]at hp;rcases hp with rfl<;>rfl) rfl rfl rfl (by decide +kernel)) ?_ (fun _ _ _ _ _=>?_) (fun _ _ _ _ _=>?_)
 walk_at"~$G%"
 refine Ka ?_ ?_ ?_ ?_
 walk_at"~$QQ"
 exact X7
 walk_at"~**$$>#%#&-$#%#%#)($0$$((00$$$*@+.;$7&-$#%($0$$$*+.;$7&-$#%($0$$$*+6NMLO9$8#%#H(00$$M"
 refine QW (Yq ?_) Qj ?_ ?_
 walk_at"~B%%"
 refine Z7 ?_
 walk_at"~LO9$8#,%)#H(00$$/3K@+6NMLO9$8#,,%))#H(00$$"
 refine Z7 ?_;refine QW (GV ?_) Qj ?_ ?_
 walk_at"~BK"
 refine Zj Q1 ?_ (QT (Nb:=["line"]) (cp:=[none]) rfl (by decide +kernel) (by decide +kernel) rfl rfl) ?_ (fun _ _ _ _ _=>?_) (fun _ _ _ _ _=>?_)
 walk_at"~$G,,%))49$8#%#H(00$$/3K@/6NM"
 refine QW (Yq ?_) Qj ?_ ?_
 walk_at"~B&-$#%($0$$%M"
 refine QW Yy Qj ?_ ?_
 walk_at"~&-$#%($0$$K"
 refine Z7 ?_;refine QW Yy Qj ?_ ?_
 walk_at"~&-$#%($0$$K/3K@E/3K"
end
theorem QfD{P:Program}{w:World}{K:Nd}{c:Str->Option Value}{base:Heap}(am:DefAt K c "_law_take" JJ ["feed","many"])(S:DefAt K c "_law_names" Q7 ["feed","many"])(y:DefAt K c "_law_step_on" ZA ["lines","opened"])(R:DefAt K c "_law_plain" Ja ["feed","boxes","words"])(an:DefAt K c "_law_part" Jz ["feed","size","menus","later","opens","dos"])(z:DefAt K c "_law_program" Zy ["feed","bounds"])(T:DefAt K c "_law_great" Q8 ["feed"])(a2:DefAt K c "_law_any" J3 ["feed","bounds"])(ao:DefAt K c "_law_feed" Jv ["script","k"])(a1:DefAt K c "_law_due" J1 ["program"])(E:DefAt K c "part_number" ZZ ["program","name"])(Q:DefAt K c "flat_lines" Q3 ["program","part"])(bj:DefAt K c "flat" YI ["program"])(l:DefAt K c "has_right_names" QG ["parts"])(v:DefAt K c "level_change" Zt ["line"])(ai:DefAt K c "line_size" JD ["line","sizes"])(ah:DefAt K c "size_with" JB ["lines","sizes"])(ak:DefAt K c "flat_size" Jx ["program"])(ay:DefAt K c "is_small" Va ["size"])(al:DefAt K c "all_lines" JH ["program"])(a0:DefAt K c "boxes_in" J2 ["line"])(az:DefAt K c "boxes_of" Vd ["program"])(aw:DefAt K c "words_of" Vg ["program"])(ax:DefAt K c "own_size" J7 ["lines"])(x:DefAt K c "keeps_bounds" ZG ["parts"])(aj:DefAt K c "is_blocks" JE ["lines"])(j:DefAt K c "is_small_letter" QX ["sign"])(bb:DefAt K c "is_name" VC ["thing"])(bc:DefAt K c "is_line" VM ["thing"])(ba:DefAt K c "is_part" VB ["thing"])(O:DefAt K c "is_program" Jd ["thing"])(U:DefAt K c "_law_backs" Jg ["lines","feed","left"])(bn:DefAt K c "law" Yd ["script"])(bi:Glob K c "KEPT" KA)(N:Glob K c "MOST_BACKS" Jh)(D:Glob K c "MOST_BLOCKS" ZY)(M:Glob K c "MOST_BOXES" Z9)(u:Glob K c "MOST_LETTERS" QK)(L:Glob K c "MOST_LINES" Je)(J:Glob K c "MOST_PARTS" Za)(af:Glob K c "MOST_WAYS" JA)(I:Glob K c "MOST_WORDS" Jb)(t:GTab w K c "NAMES_BEHIND" Qx)(s:Glob K c "UNENTERED_DO" Zx)(q:c "all"=none)(av:c "enumerate"=none)(b:c "isinstance"=none)(d:c "len"=none)(bf:c "list"=none)(bh:c "max"=none)(bp:c "min"=none)(g:c "range"=none)(r:c "reversed"=none)(au:c "set"=none)(ae:c "sorted"=none)(bg:c "str"=none)(b_tuple:c "tuple"=none):Cal P w K c base 10 "law" ["script"] XI:=by
 have a:=(Wi (P:=P) (w:=w) (base:=base) am).box frN;have i:=(KT S g a).box frN;have f:=(X4 (P:=P) (w:=w) (base:=base) y).box frN;have h:=(KW R d a).box frN;have p:=(Ww an d g b_tuple h f a).box frN;have C:=(X5 z d g b_tuple i p a).box frN;have aa:=(K2 T d g b_tuple i p h f a).box frN;have a9:=(WU a2 aa C a).box frN;have as:=(Wf (P:=P) (w:=w) (base:=base) ao d).box frR;have a8:=(Uf (P:=P) (w:=w) (base:=base) a1 d bf r b_tuple).box frN;have G:=(KR (P:=P) (w:=w) (base:=base) E).box frN;have Z:Cal P w K c base 8 "flat_lines" ["program","part"] ZH:=KY Q b_tuple G;have bm:=(QcM bj Z).box frN;have n:=(V1 (P:=P) (w:=w) (base:=base) l q av d au).box frN;have A:=(X3 (P:=P) (w:=w) (base:=base) v).box frN;have ap:Cal P w K c base 1 "line_size" ["line","sizes"] QI:=Wj ai s;have o:Cal P w K c base 2 "size_with" ["lines","sizes"] Qv:=YU ah bh A ap;have ar:=(YC ak r o).box frN;have a5:=(Ud (P:=P) (w:=w) (base:=base) ay N D L).box frN;have e:=(Wa (P:=P) (w:=w) (base:=base) al).box frN;have a7:=(W2 (P:=P) (w:=w) (base:=base) a0 bf).box frN;have a6:=(WK az au ae e a7).box frN;have a3:=(WY aw au ae e).box frN;have a4:=(WV ax o).box frN;have B:=(X6 x M af I q d au e a6 ar a5 a4 a3).box frN;have aq:=(YV (P:=P) (w:=w) (base:=base) aj d).box frN;have m:=(V9 (P:=P) (w:=w) (base:=base) j).box frN;have H:=(U2 bb bi u q b d bg m).box frN;have be:=(UT bc t q b d bg b_tuple H).box frN;have bd:=(UJ ba q b d b_tuple aq be H).box frN;have Y:=(K6 O J q b d b_tuple n bd B).box frN;have ab:=(K5 U b_tuple a).box frN;have bo:Cal P w K c base 10 "law" ["script"] XI:=QfG bn b d bh bp g b_tuple a9 ab a8 as a bm Y;exact bo
noncomputable abbrev Ln:=List Str
noncomputable def Qh(l:Ln):W:=.tup (l.map .str)
noncomputable def QE(xs:List Str):W:=.lst (xs.map .str)
noncomputable abbrev Pt:=Str×List Ln
noncomputable def QP(p:Pt):W:=.tup [.str p.1,.tup (p.2.map Qh)]
noncomputable def Qw(p:List Pt):W:=.tup (p.map QP)
theorem YJ:∀{ws:List W},(∀w∈ws,pln w=true)->Ye ws=true
 |[],_=>rfl
 |w::ws,h=>by unfold Ye;rw[h w Nt,YJ fun x a=>h x (Nq _ a)];rfl
theorem YL{n:Nat}:∀{ws:List W},(∀w∈ws,dep w<=n)->Uy ws<=n
 |[],_=>NY _
 |w::ws,h=>by unfold Uy;exact Nat.max_le.mpr ⟨h w Nt,YL fun x a=>h x (Nq _ a)⟩
theorem Wb{f:a->W}{xs:List a}(h:∀x,pln (f x)=true):Ye (xs.map f)=true:=YJ fun w hw=>by obtain⟨x,_,rfl⟩:=NF.mp hw;exact h x
theorem Wh{f:a->W}{xs:List a}(h:∀x,dep (f x)<=n):Uy (xs.map f)<=n:=YL fun w hw=>by obtain⟨x,_,rfl⟩:=NF.mp hw;exact h x
@[simp]theorem JZ{xs:List Str}:Ye (xs.map .str)=true:=Wb fun _=>rfl
theorem Xx{xs:List Str}:Uy (xs.map .str)<=1:=Wh fun _=>Nx _
@[simp]theorem Qiv{l:Ln}:pln (Qh l)=true:=by unfold Qh pln;exact JZ
theorem Qjl{l:Ln}:dep (Qh l)<=2:=by unfold Qh dep;have:=Xx (xs:=l);exact No this (by decide)
@[simp]theorem QcH{xs:List Str}:pln (QE xs)=true:=by unfold QE pln;exact JZ
@[simp]theorem QeI{ls:List Ln}:Ye (ls.map Qh)=true:=Wb fun _=>Qiv
theorem Qfj{ls:List Ln}:Uy (ls.map Qh)<=2:=Wh fun _=>Qjl
@[simp]theorem QkC{p:Pt}:pln (QP p)=true:=by simp[QP,pln,Ye]
theorem Qj5{p:Pt}:dep (QP p)<=4:=by simp[QP,dep,Uy];have:=Qfj (ls:=p.2);exact this
@[simp]theorem Qf4{ps:List Pt}:Ye (ps.map QP)=true:=Wb fun _=>QkC
@[simp]theorem Qj7{ps:List Pt}:pln (Qw ps)=true:=by unfold Qw pln;exact Qf4
theorem Qju{ps:List Pt}:dep (Qw ps)<=5:=by unfold Qw dep;have:=Wh (xs:=ps) (n:=4) (fun x=>Qj5 (p:=x));exact No this (by decide)
@[simp]theorem Qmt{l:Ln}:pur (Qh l)=true:=YW _ Qiv
@[simp]theorem QiW{xs:List Str}:pur (QE xs)=true:=YW _ QcH
@[simp]theorem Qmk{ps:List Pt}:pur (Qw ps)=true:=YW _ Qj7
@[simp]theorem QiN{xs:List Str}:Js (xs.map .str)=true:=Vo _ JZ
@[simp]theorem QjL{ls:List Ln}:Js (ls.map Qh)=true:=Vo _ QeI
@[simp]theorem QmI{i:Int}:pur (.int i)=true:=id rfl
@[simp]theorem Qms{x:Str}:pur (.str x)=true:=id rfl
@[simp]theorem QmL{ws:List W}:pur (.tup ws)=Js ws:=by unfold pur;rfl
@[simp]theorem Qmr{ws:List W}:pur (.lst ws)=Js ws:=by unfold pur;rfl
@[simp]theorem Qne{ws:List W}:pur (.frz ws)=Js ws:=by unfold pur;rfl
@[simp]theorem Qln:Js []=true:=id rfl
@[simp]theorem QkG{ws:List W}:Js (w::ws)=(pur w&&Js ws):=by rw[Js]
@[simp]theorem Qll{ws a:List W}:Js (ws++a)=(Js ws&&Js a):=by
 induction ws with
 |nil=>simp
 |cons w ws b=>simp[b,Bool.and_assoc]
@[simp]theorem Qhr{ns:List Int}:Js (ns.map .int)=true:=by
 induction ns with
 |nil=>rfl
 |cons n ns a=>simp[a]
@[simp]theorem QkJ{ws:List W}:Qfp (.lst ws)=Js ws:=id rfl
theorem JU{n:Nat}(h:n<=1000000):n<=sizeLine:=Nl h (by decide)
theorem VR{n:Nat}(h:n<=1000000):n<sizeLine:=No h (by decide)
@[simp]theorem QlN:1<=sizeLine:=by decide
@[simp]theorem QkT:2<=sizeLine:=by decide
@[simp]theorem QkN:3<=sizeLine:=by decide
@[simp]theorem Qk8:4<=sizeLine:=by decide
@[simp]theorem Qlo:5<=sizeLine:=by decide
@[simp]theorem Qly:6<=sizeLine:=by decide
@[simp]theorem Qk5:8<=sizeLine:=by decide
structure Fd where
 a:Int
 b:Int
 hb:0<=b/\b<1099511627776
noncomputable def Qm(f:Fd):MO:=.lst [.int f.a,.int f.b]
theorem Qab{xs:List b}{i:Int}{P:b->Prop}{f:b->W}(e:0<=i)(d:i<xs.length)(c:∀x∈xs,P x):∃x,x∈xs/\P x/\atI (xs.map f) i=some (f x):=by
 obtain⟨n,rfl⟩:∃n:Nat,i=n:=⟨i.toNat,by exact(Dt ‹_›).symm⟩
 have a:n<xs.length:=by lia
 exact⟨xs[n],Io a,c _ (Io a),by rw[Zu,Nz,Ni a];rfl⟩
theorem Qdo{f g:Fd}(e:Qm f=Qm g):f=g:=by
 obtain⟨a,b,d⟩:=f;obtain⟨i,h,c⟩:=g;simp[Qm]at e;obtain⟨rfl,rfl⟩:=e;rfl
def Qja(h:MH)(n:Nat):Prop:=∃f,h[n]?=some (Qm f)
open Classical in
noncomputable def Qcf(h:MH)(n:Nat):Fd:=if p:Qja h n then p.choose else⟨0,0,by decide⟩
theorem Gk{n:Nat}(e:h[n]?=some (Qm f)):Qcf h n=f:=by
 have p:Qja h n:=⟨f,e⟩
 unfold Qcf;rw[dif_pos p];exact(Qdo (N1 (e.symm.trans p.choose_spec))).symm
@[simp]theorem Qk1{f:Fd}:Qja (Qm f::h) 0:=⟨f,rfl⟩
@[simp]theorem Qkw{f:Fd}:Qcf (Qm f::h) 0=f:=Gk rfl
theorem Qfo{b:List W}(d:pln a=true)(py:Ye b=true)(f:dep a<=40)(e:Uy b<=40):wIn neg a (.lst b) h=some (.bl (if neg=true then !inW a b else inW a b),h):=by
 show((lsW h (.lst b)).bind fun b=>(drf h 40 a).bind fun x=>(ZL (drf h 40) b).map fun c=>(W.bl (if neg then !inW x c else inW x c),h))=_;simp only[lsW,Np];rw[V6 h a 40 d f,J5 h b 40 py e];rfl
theorem Qkz{b:List W}(d:pln a=true)(py:Ye b=true)(f:dep a<=40)(e:Uy b<=40):wIn neg a (.tup b) h=some (.bl (if neg=true then !inW a b else inW a b),h):=by
 show((drf h 40 a).bind fun x=>(ZL (drf h 40) b).map fun c=>(W.bl (if neg then !inW x c else inW x c),h))=_;rw[V6 h a 40 d f,J5 h b 40 py e];rfl
@[simp]theorem Qm7{i:Int}:wIn false (.int i) (.lst [.int 6,.int 7]) h=some (.bl (decide (i=6\/i=7)),h):=by
 rw[Qfo (by simp[pln]) (by simp[pln,Ye]) (by simp[dep]) (by simp[dep,Uy])]
 have:inW (.int i) [.int 6,.int 7]=decide (i=6\/i=7):=by
  simp only[inW,ES,List.any_nil,eqW,Lw];rw[IG];simp;lia
 simp[this]
@[simp]theorem Qj0{xs:List Str}:JC [QE xs] h=some (.int xs.length,h):=by unfold QE;simp
@[simp]theorem QkM{xs:List Str}:wIx (QE xs) (.int i) h=@om _ _ (fun w=>(w,h)) (atI (xs.map .str) i):=by unfold QE;simp
@[simp]theorem Qnn{xs:List a}:atI xs 2=xs[2]?:=Zu (n:=2)
@[simp]theorem Qnp{xs:List a}:atI xs 3=xs[3]?:=Zu (n:=3)
@[simp]theorem Qnw{xs:List a}:atI xs 4=xs[4]?:=Zu (n:=4)
theorem W3{n j:Nat}(h:(QL a n)[j]?=some w):j<n/\w=.int (a+j):=by
 have b:=(Nh.mp h).1;simp[QL]at b;refine⟨b,?_⟩;unfold QL at h;rw[Nz,EM b]at h;cases h;rfl
theorem Qfl{a b:Char}(h:a.toNat=b.toNat):a=b:=by
 have:a.val=b.val:=by
  apply UInt32.toNat_inj.mp;exact h
 exact Char.ext this
theorem KF:∀{a b:List Char},a.map Char.toNat=b.map Char.toNat->a=b
 |[],[],_=>rfl
 |[],_::_,h=>by simp at h
 |_::_,[],h=>by simp at h
 |x::a,y::b,h=>by
  simp only[NA,OC]at h;rw[Qfl h.1,KF h.2]
@[simp]theorem Qkf{a b:String}:(Str.ofString a=Str.ofString b)↔a=b:=by
 constructor
 ·intro h;rw[IU,IU]at h;have c:=KF (List.toArray_inj (Str.mk.inj h));exact String.toList_inj.mp c
 ·intro h;rw[h]
end My
namespace My3
inductive Cd where
 |ei|ag|oo|en|ot
 deriving DecidableEq
structure En where
 kd:Cd
 fs:Nat
 md:Nat
noncomputable def ch:Cd->Int
 |.ei=>1
 |.ag=>1
 |.en=>-1
 |_=>0
noncomputable def stp(k:Nat)(c:Cd)(st:List En):Option (List En):=match c with
 |.ei=>some (⟨.ei,k,0⟩::st)
 |.ag=>some (⟨.ag,k,0⟩::st)
 |.oo=>match st with
  |e::r=>if e.kd=.ei then some (⟨.oo,e.fs,k⟩::r)else none
  |[]=>none
 |.en=>match st with
  |e::r=>if e.kd=.ei then none else some r
  |[]=>none
 |.ot=>some st
end My3
namespace My4
open My3
noncomputable def pil(ls:List Cd):Nat->Option (List En)
 |0=>some []
 |k+1=>(pil ls k).bind fun st=>match ls[k]? with|some c=>stp k c st|none=>none
def Kd(ls:List Cd)(e:En):Prop:=(e.kd=.ag/\ls[e.fs]?=some .ag)\/((e.kd=.ei\/e.kd=.oo)/\ls[e.fs]?=some .ei)
def Bal(ls:List Cd):Prop:=pil ls ls.length=some []
end My4
namespace My
open L2 Mi My3 My4
theorem Wn(f:Fd)(m:Int):∃p:Int×Fd,(0<m->0<=p.1/\p.1<m)/\(0<m->m<1000000->∀(h:MH) (n:Nat),h[n]?=some (Qm f)->Qc [.ref n,.int m] h=some (.int p.1,h.set n (Qm p.2))):=by
 obtain⟨a,b,j⟩:=f
 by_cases h:0<a
 ·refine⟨(a%m,⟨a/m,b,j⟩),fun c=>⟨EL _ (Ih c),EW _ c⟩,fun c i g n e=>ZT (o:=Qm ⟨a,b,j⟩) (g:=[]) (by simp) e (by simp[Qm]) ?_ rfl ⟨_,rfl,by simp⟩⟩;have d:m<1073741824:=by lia
  simp[Jc,QJ,h,c,d,Qm]
 ·refine⟨((b*69621+12345)%2147483647/8191%m,⟨a,(b*69621+12345)%2147483647,EL _ (by decide),Int.lt_trans (EW _ (by decide)) (by decide)⟩),fun c=>⟨EL _ (Ih c),EW _ c⟩,fun c i g n e=>ZT (o:=Qm ⟨a,b,j⟩) (g:=[]) (by simp) e (by simp[Qm]) ?_ rfl ⟨_,rfl,by simp⟩⟩;have d:m<1073741824:=by omega
  simp[Jc,QJ,h,c,d,Qm]
noncomputable def tk(f:Fd)(m:Int):Int:=(Classical.choose (Wn f m)).1
noncomputable def tf(f:Fd)(m:Int):Fd:=(Classical.choose (Wn f m)).2
theorem KG(a:0<m):0<=tk f m/\tk f m<m:=(Ft (Wn f m)).1 a
theorem GU(c:0<m)(a:m<1000000)(b:h[n]?=some (Qm f)):Qc [.ref n,.int m] h=some (.int (tk f m),h.set n (Qm (tf f m))):=(Ft (Wn f m)).2 c a h n b
@[simp]theorem Vw(d:0<m)(a:m<1000000)(c:Qja h n):Qc [.ref n,.int m] h=some (.int (tk (Qcf h n) m),h.set n (Qm (tf (Qcf h n) m))):=by
 obtain⟨f,b⟩:=c;rw[Gk b];exact GU d a b
noncomputable abbrev abc:Str:="abcdefghijklmnopqrstuvwxyz"
theorem U6(x:Str)(n:Int):(rep x n).length=n.toNat*x.length:=by unfold rep Str.length;simp
theorem U7(x y:Str):(x++y).length=x.length+y.length:=by show(x.cps++y.cps).size=_;simp[Str.length]
theorem Qf8:abc.length=26:=by decide +kernel
noncomputable def ltr(i:Int):Str:=⟨#[97+i.toNat]⟩
theorem Qgt:abc.cps.toList=(List.range 26).map (97+·):=by decide +kernel
@[simp]theorem Qgs:(ltr i).length=1:=rfl
@[simp]theorem Qlt(b:0<=i)(a:i<26):wIx (.str abc) (.int i) h=some (.str (ltr i),h):=by
 obtain⟨n,rfl⟩:∃n:Nat,i=n:=⟨i.toNat,by exact(Dt ‹_›).symm⟩
 refine Qfa (by rw[Qf8];decide) ?_;rw[Zu,Qgt,Nz,EM (by lia)];rfl
theorem XJ(e:a σ h=some ([.int j],h'))(b:j<1000000):GY a σ h=some (QL 0 j,none,h'):=by
 unfold GY;rw[e,Np];exact(if_pos ⟨by lia,by lia⟩).trans (by simp)
theorem Q2:(QL a n).length=n:=by simp[QL]
theorem WZ:(QL a n).map f=(List.range n).map fun(i:Nat)=>f (.int (a+i)):=by simp[QL]
theorem QkD(c:0<=i)(b:i<6):∃v:Int,(v=1\/v=3\/v=5\/v=7\/v=9\/v=11)/\atI [W.int 1,.int 3,.int 5,.int 7,.int 9,.int 11] i=some (.int v):=by
 obtain⟨x,_,a,e⟩:=Qab (xs:=[(1:Int),3,5,7,9,11]) (f:=W.int) (P:=fun v=>v=1\/v=3\/v=5\/v=7\/v=9\/v=11) c b (by decide);exact⟨x,a,e⟩
theorem Qkk(c:0<=i)(b:i<8):∃v:Int,1<=v/\(v<=8/\v≠2)/\atI [W.int 1,.int 3,.int 4,.int 5,.int 6,.int 7,.int 8,.int 1] i=some (.int v):=by
 obtain⟨x,_,a,e⟩:=Qab (xs:=[(1:Int),3,4,5,6,7,8,1]) (f:=W.int) (P:=fun v=>1<=v/\(v<=8/\v≠2)) c b (by decide);exact⟨x,a.1,a.2,e⟩
theorem XY{l:List j}(h:∀a∈l,∀b∈l,f a=f b->a=b)(d:l.Nodup):(l.map f).Nodup:=by
 unfold List.Nodup;rw[F6];exact Ir (fun i g c e=>c (h _ i _ g e)) d
theorem Wk{t st:Int}{a b:Nat}(d:st=1\/st=3\/st=5\/st=7\/st=9\/st=11)(f:a<5)(e:b<5)(h:((t+st*(0+(a:Int)))%26).toNat=((t+st*(0+(b:Int)))%26).toNat):a=b:=by
 rw[Int.zero_add,Int.zero_add]at h;have l:=EL (t+st*a) (show(26:Int)≠0 by decide);have j:=EL (t+st*b) (show(26:Int)≠0 by decide);have i:(t+st*a)%26=(t+st*b)%26:=by rw[<-Dt l,<-Dt j,h]
 have c:=Int.emod_eq_emod_iff_emod_sub_eq_zero.mp i;have g:t+st*a-(t+st*b)=st*((a:Int)-b):=by rw[Int.mul_sub];lia
 rw[g]at c;have key:∀a:Fin 5,∀b:Fin 5,∀st∈[(1:Int),3,5,7,9,11],st*((a.val:Int)-b.val)%26=0->a=b:=by decide
 exact Fin.mk.inj (key ⟨a,f⟩ ⟨b,e⟩ st (by simpa using d) c)
theorem Qf3(h:a++ltr i++b=a++ltr j++b):i.toNat=j.toNat:=by
 have e:∀x y:Str,(x++y).cps.toList=x.cps.toList++y.cps.toList:=fun x y=>by show(x.cps++y.cps).toList=_;simp
 have c:=congrArg (fun s:Str=>s.cps.toList) h;simp only[e]at c;simp[ltr]at c;exact c
noncomputable def Qc5:List Str:=["pair","first","second","none","tell","back","either","or","again","end","do","part"]
structure Nm(x:Str):Prop where
 lo:1<=x.length
 hi:x.length<=8
 sm:∀c∈x.cps.toList,97<=c/\c<=122
 kp:x∉Qc5
theorem Qcj(x y:Str):(x++y).cps.toList=x.cps.toList++y.cps.toList:=by show(x.cps++y.cps).toList=_;simp
theorem UX{i:Int}{n:Nat}(h:i.toNat=n):(rep (ltr j) i).cps.toList=List.replicate n (97+j.toNat):=by
 subst h;unfold rep;simp[ltr]
def two(l:List Nat):Prop:=∀c,2<=(l.filter fun x=>x != c).length
theorem QhM{l:List Nat}(h:∀c∈l,2<=(l.filter fun x=>x != c).length)(d:2<=l.length):two l:=fun c=>by
 by_cases a:c∈l
 ·exact h c a
 ·rw[LD.mpr fun x b=>by simp;exact fun z=>a (z▸b)];exact d
theorem Gu:∀x∈Qc5,x.cps.toList.length=2/\x.cps.toList.length≠1/\(∀c,x.cps.toList≠List.replicate 2 c)\/two x.cps.toList:=by
 intro x a;have h:∀x∈Qc5,(x="or"\/x="do")\/((∀c∈x.cps.toList,2<=(x.cps.toList.filter fun y=>y != c).length)/\2<=x.cps.toList.length):=by decide +kernel
 rcases h x a with(rfl|rfl)|h
 ·exact .inl ⟨by decide +kernel,by decide +kernel,fun c z=>by
   have e:("or":Str).cps.toList=[111,114]:=by decide +kernel
   rw[e]at z;simp[List.replicate]at z;omega⟩
 ·exact .inl ⟨by decide +kernel,by decide +kernel,fun c z=>by
   have e:("do":Str).cps.toList=[100,111]:=by decide +kernel
   rw[e]at z;simp[List.replicate]at z;omega⟩
 ·exact .inr (QhM h.1 h.2)
theorem YD(x:Str):x.length=x.cps.toList.length:=by unfold Str.length;simp
theorem Y4(n c:Nat):(List.replicate n c).filter (fun x=>x != c)=[]:=List.filter_eq_nil_iff.mpr fun y a=>by rw[Is a];simp
theorem Qhi{x:Str}{c n:Nat}(e:x.cps.toList=List.replicate n c)(j:1<=n)(i:n<=8)(h:97<=c)(g:c<=122):Nm x:=by
 refine⟨by rw[YD,e];simpa using j,by rw[YD,e];simpa using i,fun d hd=>by rw[e]at hd;rw[Is hd];exact⟨h,g⟩,fun f=>?_⟩
 rcases Gu x f with⟨a,_,hr⟩|b
 ·rw[e]at a;simp at a;subst a;exact hr c e
 ·have:=b c;rw[e]at this;rw[Y4]at this;simp at this
theorem QgY{x:Str}{c d a b:Nat}(e:x.cps.toList=List.replicate a c++[d]++List.replicate b c)(q:a+1+b<=8)(p:a+1+b≠2)(i:97<=c)(h:c<=122)(n:97<=d)(m:d<=122):Nm x:=by
 refine⟨by rw[YD,e];simp;omega,by rw[YD,e];simp;omega,fun y f=>?_,fun l=>?_⟩
 ·rw[e]at f;simp at f
  rcases f with⟨_,rfl⟩|rfl|⟨_,rfl⟩
  ·exact⟨i,h⟩
  ·exact⟨n,m⟩
  ·exact⟨i,h⟩
 ·rcases Gu x l with⟨g,_,hr⟩|j
  ·rw[e]at g;simp at g;omega
  ·have:=j c;rw[e,LW,LW]at this;rw[Y4,Y4]at this;have o:([d].filter fun x=>x != c).length<=1:=List.length_filter_le _ _;simp only[FE,EI]at this;omega
theorem VQ(f:Fd)(many:Nat)(p:many<=5):∃(ns:List Str) (U:Fd),ns.length=many/\(ns.Nodup/\∀x∈ns,Nm x)/\∀(h:MH) (n:Nat),h[n]?=some (Qm f)->QB [.ref n,.int many] h=some (QE ns,h.set n (Qm U)):=by
 obtain⟨J,I⟩:=KG (f:=f) (m:=26) (by decide)
 by_cases H:tk (tf f 26) 3=0
 ·refine⟨(List.range many).map fun(k:Nat)=>rep (ltr (tk f 26)) ((0:Int)+k+1),tf (tf f 26) 3,by simp,⟨XY (fun a _ b _ e=>?_) Fm,fun x t=>?_⟩,fun h n y=>?_⟩
  ·have:=congrArg Str.length e;rw[U6,U6,Qgs]at this;lia
  ·obtain⟨k,q,rfl⟩:=NF.mp t;have R:=Ea.mp q;exact Qhi (c:=97+(tk f 26).toNat) (n:=k+1) (UX (by omega)) (by omega) (by omega) (by omega) (by omega)
  ·refine ZT (o:=Qm f) (g:=[]) (by simp) y (by simp[Qm]) ?_ (by simp) ⟨_,rfl,by simp⟩
   have e:=ZC (fin:=Z2) (mi:=GY (Qa (Qb 1) Qd)) (cp:=[none,some 3]) (me:=Qf Xl (Qb 1) (Qf X2 (Qb 0) (mC (.int 1)))) (σ:=[some (.ref 0),some (.int many),some (.str abc),some (.str (ltr (tk f 26))),none,none,none,none,none]) (caps:=[some (.str (ltr (tk f 26)))]) (h:=[Qm (tf (tf f 26) 3)]) (items:=QL 0 many)
    (fun w=>match w with|.int k=>.str (rep (ltr (tk f 26)) (k+1))|w=>w) (XJ (by simp) (No p (by decide))) ⟨_,rfl⟩ (fun w hw=>by
     obtain⟨k,q,rfl⟩:=NF.mp hw;simp at q;simp
     exact QbW ⟨by lia,by lia,by simp⟩) (by rw[Q2];exact JU (NB (No p (by decide))))
   simp[Z0,QJ,J,I,H,e,Z2,QE,WZ]
 ·generalize z:tf (tf f 26) 3=f2;obtain⟨b0,b1⟩:=KG (f:=f2) (m:=26) (by decide);obtain⟨c0,c1⟩:=KG (f:=tf f2 26) (m:=6) (by decide);obtain⟨d0,d1⟩:=KG (f:=tf (tf f2 26) 6) (m:=8) (by decide);obtain⟨st,u,Z⟩:=QkD c0 c1;have s0:0<=st:=by lia
  have s1:st<=11:=by lia
  obtain⟨sz,z0,z1,Y⟩:=Qkk d0 d1;obtain⟨G,E⟩:=KG (f:=tf (tf (tf f2 26) 6) 8) (m:=sz) (by lia);generalize v:tk (tf (tf (tf f2 26) 6) 8) sz=i at G E;generalize l:ltr (tk f 26)=fl;have j:fl.length=1:=by rw[<-l];rfl
  have N:∀n:Int,(rep fl n).length=n.toNat:=fun n=>by rw[U6,j];exact Nat.add_comm _ _
  refine⟨(List.range many).map fun(k:Nat)=>rep fl i++ltr ((tk f2 26+st*(0+(k:Int)))%26)++rep fl (sz-1-i),tf (tf (tf (tf f2 26) 6) 8) sz,by simp,⟨XY (fun a T b S e=>?_) Fm,fun x t=>?_⟩,fun h n y=>?_⟩
  ·have:=Qf3 e;have B:=Ea.mp T;have A:=Ea.mp S;exact Wk u (Nn B p) (Nn A p) this
  ·obtain⟨k,q,rfl⟩:=NF.mp t;have D:0<=(tk f2 26+st*(0+(k:Int)))%26:=EL _ (by decide);have C:(tk f2 26+st*(0+(k:Int)))%26<26:=EW _ (by decide);subst l;exact QgY (c:=97+(tk f 26).toNat) (d:=97+((tk f2 26+st*(0+(k:Int)))%26).toNat) (a:=i.toNat) (b:=(sz-1-i).toNat) (by rw[Qcj,Qcj,UX rfl,UX rfl];rfl) (by omega) (by omega) (by omega) (by omega) (by omega) (by omega)
  ·refine ZT (o:=Qm f) (g:=[]) (by simp) y (by simp[Qm]) ?_ (by simp) ⟨_,rfl,by simp⟩;have e1:Xl (.str fl) (.int (sz-1-i)) [Qm (tf (tf (tf (tf f2 26) 6) 8) sz)]=some (.str (rep fl (sz-1-i)),_):=QbW ⟨by lia,by lia,by exact No (Nr j) (by decide)⟩;have Q:(0:Int)<sz:=by exact Int.lt_of_le_of_lt G E
   have s:sz<1000000:=by lia
   simp[Z0,QJ,J,I,H,z,l,b0,b1,Z,Y,Q,s,v,e1];rw[ZC (items:=QL 0 many) (caps:=[some (.str (rep fl (sz-1-i))),some (.str fl),some (.int i),some (.str abc),some (.int (tk f2 26)),some (.int st)]) (fun w=>match w with|.int k=>.str (rep fl i++ltr ((tk f2 26+st*k)%26)++rep fl (sz-1-i))|w=>w)]
   ·simp[Z2,QE,WZ]
   ·exact XJ (by simp) (No p (by decide))
   ·exact⟨_,rfl⟩
   ·intro w hw;obtain⟨k,q,rfl⟩:=NF.mp hw;simp at q;have e2:Xl (.str fl) (.int i) [Qm (tf (tf (tf (tf f2 26) 6) 8) sz)]=some (.str (rep fl i),_):=QbW ⟨by lia,by lia,by exact No (Nr j) (by decide)⟩;have D:0<=(tk f2 26+st*(k:Int))%26:=EL _ (by decide);have C:(tk f2 26+st*(k:Int))%26<26:=EW _ (by decide);have M:-18446744073709551616<st:=by lia
    have L:st<18446744073709551616:=by lia
    have P:i.toNat+1<=sizeLine:=JU (by lia);have O:i.toNat+1+(sz-1-i).toNat<=sizeLine:=JU (by lia);simp[e2,D,C,M,L,N,P,O,U7]
   ·rw[Q2];exact JU (NB (No p (by decide)))
inductive PlainL(bs ws:List Str):Ln->Prop where
 |pair {x w y z:Str} (hx:x∈bs) (hw:w∈ws) (hy:y∈bs) (hz:z∈bs):PlainL bs ws ["pair",x,w,y,z]
 |first {x y:Str} (hx:x∈bs) (hy:y∈bs):PlainL bs ws ["first",x,y]
 |second {x y:Str} (hx:x∈bs) (hy:y∈bs):PlainL bs ws ["second",x,y]
 |same {x y:Str} (hx:x∈bs) (hy:y∈bs):PlainL bs ws ["same",x,y]
 |none {x:Str} (hx:x∈bs):PlainL bs ws ["none",x]
 |tell {x:Str} (hx:x∈bs):PlainL bs ws ["tell",x]
theorem Qcp{xs:List Str}{i:Int}(c:0<=i)(b:i<xs.length):∃x,x∈xs/\atI (xs.map W.str) i=some (.str x):=by
 obtain⟨x,a,_,e⟩:=Qab (xs:=xs) (f:=W.str) (P:=fun _=>True) c b (fun _ _=>True.intro);exact⟨x,a,e⟩
theorem Ki(f:Fd)(bs ws:List Str)(t:0<bs.length)(p:bs.length<=5)(hw:0<ws.length)(e:ws.length<=5):∃(l:Ln) (D:Fd),PlainL bs ws l/\∀(h:MH) (n:Nat),h[n]?=some (Qm f)->QD [.ref n,QE bs,QE ws] h=some (Qh l,h.set n (Qm D)):=by
 obtain⟨a0,Z⟩:=KG (f:=f) (m:=10) (by decide);have b:(0:Int)<bs.length:=by lia
 have s:(bs.length:Int)<1000000:=by lia
 have r:(0:Int)<ws.length:=by lia
 have B:(ws.length:Int)<1000000:=by lia
 have Y:bs≠[]:=by intro z;rw[z]at t;simp at t
 have U:ws≠[]:=by intro z;rw[z]at hw;simp at hw
 have T:bs.length<1000:=by exact No p (by decide)
 have S:ws.length<1000:=by exact No e (by decide)
 obtain⟨Q,O⟩:=KG (f:=tf f 10) (m:=bs.length) b;obtain⟨x,a,ex⟩:=Qcp Q O;obtain⟨N,M⟩:=KG (f:=tf (tf f 10) bs.length) (m:=bs.length) b;obtain⟨y,c,v⟩:=Qcp N M
 by_cases u:tk f 10<4
 ·obtain⟨L,J⟩:=KG (f:=tf (tf (tf f 10) bs.length) bs.length) (m:=bs.length) b;obtain⟨z,C,E⟩:=Qcp L J;obtain⟨I,H⟩:=KG (f:=tf (tf (tf (tf f 10) bs.length) bs.length) bs.length) (m:=ws.length) r;obtain⟨w,hw,G⟩:=Qcp I H;refine⟨_,tf (tf (tf (tf (tf f 10) bs.length) bs.length) bs.length) ws.length,.pair a hw c C,fun h n j=>?_⟩;refine ZT (o:=Qm f) (g:=[]) (by simp) j (by simp[Qm]) ?_ (by simp) ⟨_,rfl,by simp⟩;simp[ZU,QJ,QE,Vw b s,Vw r B,ex,v,E,G,u,Qh]
 ·have q:0<=tk f 10-4:=by lia
  obtain⟨l,_,d,A⟩:=Qab (xs:=([["first",x,y],["second",x,y],["same",x,y],["none",x],["tell",y],["tell",x]]:List Ln)) (i:=tk f 10-4) (f:=Qh) (P:=PlainL bs ws) q (by show tk f 10-4<6;lia) (by
   intro l d;simp at d
   rcases d with rfl|rfl|rfl|rfl|rfl|rfl
   ·exact .first a c
   ·exact .second a c
   ·exact .same a c
   ·exact .none a
   ·exact .tell c
   ·exact .tell a)
  refine⟨l,tf (tf (tf f 10) bs.length) bs.length,d,fun h n j=>?_⟩;refine ZT (o:=Qm f) (g:=[]) (by simp) j (by simp[Qm]) ?_ (by simp) ⟨_,rfl,by simp⟩;simp[Qh]at A;simp[ZU,QJ,QE,Vw b s,ex,v,u,A,Qh]
end My
namespace My4
open My3
noncomputable def kst:Cd->List Cd->Option (List Cd)
 |.ei,s=>some (.ei::s)
 |.ag,s=>some (.ag::s)
 |.oo,s=>match s with
  |e::r=>if e=.ei then some (.oo::r)else none
  |[]=>none
 |.en,s=>match s with
  |e::r=>if e=.ei then none else some r
  |[]=>none
 |.ot,s=>some s
noncomputable def Zl:List Cd->List Cd->Option (List Cd)
 |[],s=>some s
 |c::ls,s=>(kst c s).bind (Zl ls)
theorem ZD:∀(ls a:List Cd) (s:List Cd),Zl (ls++a) s=(Zl ls s).bind (Zl a)
 |[],a,s=>rfl
 |c::ls,a,s=>by
  show(kst c s).bind (Zl (ls++a))=((kst c s).bind (Zl ls)).bind (Zl a);cases kst c s with
  |none=>rfl
  |some t=>exact ZD ls a t
theorem Zh(h:Zl ls s=some t)(k:kst c t=some u):Zl (ls++[c]) s=some u:=by
 rw[ZD,h];show(kst c t).bind _=_;rw[k];rfl
theorem QfA{k:Nat}{c:Cd}{st:List En}:(stp k c st).map (List.map En.kd)=kst c (st.map En.kd):=by
 cases c with
 |ei=>rfl
 |ag=>rfl
 |ot=>rfl
 | oo=>
  cases st with
  |nil=>rfl
  |cons e r=>
   simp only[stp,kst,NA]
   by_cases h:e.kd=.ei<;>simp[h]
 | en=>
  cases st with
  |nil=>rfl
  |cons e r=>
   simp only[stp,kst,NA]
   by_cases h:e.kd=.ei<;>simp[h]
theorem Gj:∀{k:Nat},k<=ls.length->(pil ls k).map (List.map En.kd)=Zl (ls.take k) []
 |0,_=>rfl
 | k+1,b=>by
  have a:k<ls.length:=by exact b
  have c:=Gj (ls:=ls) (k:=k) (NB b);have d:ls.take (k+1)=ls.take k++[ls[k]]:=by rw[Fo a]
  rw[d,ZD,<-c];simp only[pil];rw[Ni a];cases pil ls k with
  |none=>rfl
  |some p=>
   show(stp k ls[k] p).map _=(kst ls[k] (p.map En.kd)).bind (Zl []);rw[<-QfA];cases stp k ls[k] p<;>rfl
theorem bal_iff:Bal ls↔Zl ls []=some []:=by
 have:=Gj (ls:=ls) (k:=ls.length) (Nx _);rw[Eu]at this;rw[<-this];unfold Bal;cases pil ls ls.length with
 |none=>simp
 |some p=>simp
end My4
namespace My
open L2 Mi My3 My4
noncomputable def cd(x:Str):Cd:=if x="either"then .ei else if x="again"then .ag else if x="or"then .oo else if x="end"then .en else .ot
noncomputable def cdL:Ln->Cd
 |[]=>.ot
 |x::_=>cd x
inductive LineOk(bs ws later:List Str):Ln->Prop where
 |plain {l:Ln} (h:PlainL bs ws l):LineOk bs ws later l
 |do {x:Str} (h:x∈later):LineOk bs ws later ["do",x]
 |blk {x:Str} (h:x="either"\/x="again"\/x="or"\/x="end"):LineOk bs ws later [x]
 |back {x:Str} (h:x∈ws):LineOk bs ws later ["back",x]
noncomputable abbrev orL:Ln:=["or"]
noncomputable abbrev QcV:Ln:=["end"]
noncomputable def VN:Ln->Bool
 |x::_=>x=="do"
 |[]=>false
noncomputable def dcn(ls:List Ln):Nat:=ls.countP VN
theorem XC(L:List Ln)(l:Ln):dcn (L++[l])=dcn L+(if VN l=true then 1 else 0):=by simp[dcn,FR,Fp]
theorem ZP{L:List Ln}(h:VN l=false):dcn (L++[l])=dcn L:=by rw[XC,h];rfl
theorem Xi{bs ws:List Str}(h:PlainL bs ws l):VN l=false:=by cases h<;>(show(_==_)=false)<;>decide
theorem QbZ:cd "either"=.ei:=rfl
theorem YQ:cd "again"=.ag:=by decide
theorem Qjs:cd "or"=.oo:=by decide
theorem QaO:cd "end"=.en:=by decide
theorem Xj{bs ws:List Str}(h:PlainL bs ws l):cdL l=.ot:=by cases h<;>(show cd _=.ot)<;>decide
@[simp]theorem Yb(f:h[i]?=some (.lst b))(e:h[j]?=some (.lst a))(d:Js b=true)(c:Js a=true):ZL (QcG h) [i,j]=some [.lst b,.lst a]:=by
 simp[ZL,Go f d,Go e c]
theorem Qa5{O:List Str}(d:L.length<=100000)(a:i≠j)(f:h[i]?=some (.lst (L.map Qh)))(e:h[j]?=some (.lst ((O++[("either":Str)]).map .str))) :
  Qs [.ref i,.ref j] h=some (.non,(h.set i (.lst ((L++[orL]).map Qh))).set j (.lst ((O++[("or":Str)]).map .str))):=by
 refine U8 (w:=.non) (as:=[.ref 0,.ref 1]) (ns:=[i,j]) (os:=[.lst (L.map Qh),.lst ((O++[("either":Str)]).map .str)]) (os':=[.lst ((L++[orL]).map Qh),.lst ((O++[("or":Str)]).map .str)]) (g:=[]) rfl (by simp[a]) (Yb f e (by simp) (by simp)) ?_ rfl ?_ rfl
 ·have l:L.length<sizeLine:=VR (NB (No d (by decide)));simp[Zi,QJ,l,Qh]
 ·intro o b;simp at b
  rcases b with rfl|rfl
  ·exact⟨_,rfl,by simp⟩
  ·exact⟨_,rfl,by simp⟩
theorem QbJ{O:List Str}{x:Str}(d:x≠"either")(e:L.length<=100000)(a:i≠j)(l:h[i]?=some (.lst (L.map Qh)))(f:h[j]?=some (.lst ((O++[x]).map .str))) :
  Qs [.ref i,.ref j] h=some (.non,(h.set i (.lst ((L++[QcV]).map Qh))).set j (.lst (O.map .str))):=by
 refine U8 (w:=.non) (as:=[.ref 0,.ref 1]) (ns:=[i,j]) (os:=[.lst (L.map Qh),.lst ((O++[x]).map .str)]) (os':=[.lst ((L++[QcV]).map Qh),.lst (O.map .str)]) (g:=[]) rfl (by simp[a]) (Yb l f (by simp) (by simp)) ?_ rfl ?_ rfl
 ·have m:L.length<sizeLine:=VR (NB (No e (by decide)));simp[Zi,QJ,m,Qh,d]
 ·intro o b;simp at b
  rcases b with rfl|rfl
  ·exact⟨_,rfl,by simp⟩
  ·exact⟨_,rfl,by simp⟩
noncomputable def XD:Ln->Bool
 |x::_=>x=="back"
 |[]=>false
def Dp(D:Int)(L:List Ln):Prop:=∀A B s,L=A++B->Zl (A.map cdL) []=some s->(s.length:Int)<=D
theorem G1(h:0<=D):Dp D []:=fun A B s e a=>by
 obtain⟨rfl,rfl⟩:=List.append_eq_nil_iff.mp e.symm;cases a;exact h
theorem Zk(h:Dp D L)(f:Zl ((L++[l]).map cdL) []=some s)(d:(s.length:Int)<=D):Dp D (L++[l]):=fun A B c e a=>by
 rcases List.eq_nil_or_concat B with rfl|⟨g,b,rfl⟩
 ·rw[EI]at e;subst e;rw[f]at a;cases a;exact d
 ·rw[List.concat_eq_append,<-DD]at e;exact h A g c (List.append_inj_left' e rfl) a
theorem Xm{bs ws:List Str}(h:PlainL bs ws l):XD l=false:=by cases h<;>(show(_==_)=false)<;>decide
structure PI(bs ws later:List Str)(size d0 o0:Int)(n:Nat)(σ:MSt)(h:MH):Prop where
 ex:∃(f:Fd) (L:List Ln) (O:List Str) (op ds:Int) (kk ww:Option W),σ=[some (.ref 0),some (.int size),some (.tup [QE bs,QE ws]),some (QE later),some (.int op),some (.int ds),some (.ref 1),some (.ref 2),kk,ww]/\h=[Qm f,.lst (L.map Qh),.lst (O.map .str)] /\
  (∀l∈L,LineOk bs ws later l)/\Zl (L.map cdL) []=some (O.reverse.map cd)/\(∀x∈O,x="either"\/x="again"\/x="or")/\L.length=n/\O.length<=n/\(dcn L:Int)+ds=d0/\0<=ds/\(O.length:Int)+op<=o0/\0<=op/\Dp o0 L/\∀l∈L,XD l=false
theorem Qaq(O:List Str)(h:O≠[]):∃r x,O=r++[x]:=⟨O.dropLast,O.getLast h,(E8 h).symm⟩
theorem Y0{bs ws later:List Str}:LineOk bs ws later QcV:=.blk (.inr (.inr (.inr rfl)))
theorem US{bs ws later:List Str}:LineOk bs ws later orL:=.blk (.inr (.inr (.inl rfl)))
theorem Ql{P:a->Prop}{xs:List a}(h:∀y∈xs,P y)(c:P x):∀y∈xs++[x],P y:=fun y b=>by
 rcases Eo.mp b with z|z
 ·exact h y z
 ·rw[NO.mp z];exact c
theorem YT{P:Str->Prop}(h:∀z∈xs++[x],P z)(b:P y):∀z∈xs++[y],P z:=Ql (fun z a=>h z (NS _ a)) b
theorem Q6(O:List Str)(x:Str):(O++[x]).reverse.map cd=cd x::O.reverse.map cd:=by simp
theorem QH(L:List Ln)(l:Ln):(L++[l]).map cdL=L.map cdL++[cdL l]:=by simp
theorem opk{x:Str}(h:x="either"\/x="again"\/x="or")(a:x≠"either"):cd x≠.ei:=by
 rcases h with rfl|rfl|rfl
 ·exact absurd rfl a
 ·decide
 ·decide
theorem Qb9{s:List Cd}(h:cd x≠.ei):kst .en (cd x::s)=some s:=by simp[kst,h]
noncomputable abbrev pS(bs ws later:List Str)(a op c:Int)(k:W)(b:Int):MSt:=[some (.ref 0),some (.int a),some (.tup [QE bs,QE ws]),some (QE later),some (.int op),some (.int c),some (.ref 1),some (.ref 2),some k,some (.int b)]
theorem Qcd{bs ws later:List Str}{σ:MSt}(hb:0<bs.length)(ae:bs.length<=5)(hw:0<ws.length)(aa:ws.length<=5)(af:later.length<=5)(Y:n<=1000)(H:PI bs ws later e d0 o0 n σ h) :
  ∃E,ZJ 8 k σ h=some E/\∃D u,(ZV E h=some (.nx D u)\/ZV E h=some (.ct D u))/\PI bs ws later e d0 o0 (n+1) D u:=by
 obtain⟨f,L,O,op,v,kk,ww,rfl,rfl,R,J,M,C,g,A,B,q,w,t,s⟩:=H.ex;refine⟨_,rfl,?_⟩;obtain⟨a0,a1⟩:=KG (f:=f) (m:=14) (by decide);have G:L.length<sizeLine:=VR (NB (No (Nl (Nr C) Y) (by decide)));have ab:O.length<sizeLine:=VR (NB (No (Nl g Y) (by decide)));generalize o:tk f 14=c at a0 a1;have T:∀h,Xk (Qi (Qf wLt (Qb 9) (mC (.int 3)))) (Qi (Qf wGt (Qb 4) (mC (.int 0)))) (pS bs ws later e op v k c) h=some (decide (c<3/\0<op),h):=fun h=>by by_cases a:c<3<;>simp[a]
 have t2:∀f,Xk (Qi (Qf wLt (Qb 9) (mC (.int 6)))) (Qi (Qf wGt (mFn JC (Qa (Qb 7) Qd)) (mC (.int 0)))) (pS bs ws later e op v k c) [Qm f,.lst (L.map Qh),.lst (O.map .str)]=some (decide (c<6/\0<O.length),[Qm f,.lst (L.map Qh),.lst (O.map .str)]):=fun h=>by by_cases a:c<6<;>simp[a]
 have t3:∀h,Xk (Qi (Qf (wIn false) (Qb 9) (mFn UU (Qa (mC (.int 6)) (Qa (mC (.int 7)) Qd))))) (Xk (Qi (Qf wGt (Qb 5) (mC (.int 0)))) (Qi (Qf wGt (mFn JC (Qa (Qb 3) Qd)) (mC (.int 0))))) (pS bs ws later e op v k c) h=some (decide ((c=6\/c=7)/\0<v/\0<later.length),h):=fun h=>by
  by_cases a:c=6\/c=7
  ·by_cases b:0<v<;>simp[a,b]
  ·simp[a]
 by_cases S:c<3/\0<op
 ·obtain⟨x,_,p,ex⟩:=Qab (xs:=([("either":Str),"again","either"])) (f:=W.str) (P:=fun x=>x="either"\/x="again") a0 (by show c<3;exact S.1) (by simp);simp at ex
  have d:Zl ((L++[[x]]).map cdL) []=some ((O++[x]).reverse.map cd):=by
   rw[QH,Q6];refine Zh J ?_
   rcases p with rfl|rfl
   ·rfl
   ·show kst (cd "again") _=_;rw[YQ];rfl
  refine⟨pS bs ws later e (op-1) v k c,[Qm (tf f 14),.lst ((L++[[x]]).map Qh),.lst ((O++[x]).map .str)],.inl ?_,⟨_,_,_,_,_,_,_,rfl,rfl,?_,d,?_,?_,?_,?_,B,by simp;omega,by omega,Zk t d (by simp;omega),Ql s (by rcases p with rfl|rfl<;>decide)⟩⟩
  ·simp[-Gg,o,T,S,ex,ab,G,Qh]
  ·exact Ql R (.blk (by rcases p with rfl|rfl<;>simp))
  ·exact Ql M (by rcases p with z|z<;>simp[z])
  ·simp[C]
  ·simp;exact g
  ·rw[ZP (by rcases p with rfl|rfl<;>decide)];exact A
 ·by_cases u:c<6/\0<O.length
  ·obtain⟨r,x,rfl⟩:=Qaq O (by intro z;rw[z]at u;simp at u);rw[Q6]at J
   have Z:∃N I,((x="either"/\N=L++[orL]/\I=r++[("or":Str)])\/(x≠"either"/\N=L++[QcV]/\I=r))/\Qs [.ref 1,.ref 2] [Qm (tf f 14),.lst (L.map Qh),.lst ((r++[x]).map .str)]=some (.non,[Qm (tf f 14),.lst (N.map Qh),.lst (I.map .str)]):=by
    by_cases p:x="either"
    ·subst p;exact⟨_,_,.inl ⟨rfl,rfl,rfl⟩,Qa5 (L:=L) (O:=r) (i:=1) (j:=2) (NB (No (Nl (Nr C) Y) (by decide))) (by decide) rfl rfl⟩
    ·exact⟨_,_,.inr ⟨p,rfl,rfl⟩,QbJ (L:=L) (O:=r) (x:=x) (i:=1) (j:=2) p (NB (No (Nl (Nr C) Y) (by decide))) (by decide) rfl rfl⟩
   obtain⟨N,I,hc,Z⟩:=Z;refine⟨pS bs ws later e op v k c,[Qm (tf f 14),.lst (N.map Qh),.lst (I.map .str)],.inl ?_,⟨_,N,I,_,_,_,_,rfl,rfl,?_⟩⟩
   ·have ah:c<6/\0<r.length+1:=⟨u.1,by exact DG _⟩
    have Q:=t2 (tf f 14);simp only[EJ,NA,Il]at Z Q;simp[-Gg,o,T,S,Q,u.1,Z]
   ·rcases hc with⟨rfl,rfl,rfl⟩|⟨p,rfl,rfl⟩
    ·have d:Zl ((L++[orL]).map cdL) []=some ((r++[("or":Str)]).reverse.map cd):=by
      rw[QH,Q6];exact Zh J rfl
     exact⟨Ql R US,d,YT M (by simp),by simp[C],by simp at g ⊢;exact NB g,by rw[ZP (by decide)];exact A,B,by simpa using q,w,Zk t d (by simp at q ⊢;omega),Ql s (by decide)⟩
    ·have d:Zl ((L++[QcV]).map cdL) []=some (I.reverse.map cd):=by
      rw[QH];refine Zh J ?_;show kst (cd "end") _=_;rw[QaO];exact Qb9 (opk (M x (by simp)) p)
     exact⟨Ql R Y0,d,fun y hy=>M y (NS _ hy),by simp[C],by simp at g ⊢;exact NB (Nn g (Nv _ _)),by rw[ZP (by decide)];exact A,B,by simp at q;omega,w,Zk t d (by simp at q ⊢;omega),Ql s (by decide)⟩
  ·by_cases h3:(c=6\/c=7)/\0<v/\0<later.length
   ·have q1:(0:Int)<later.length:=by lia
    have q2:(later.length:Int)<1000000:=by lia
    obtain⟨b0,b1⟩:=KG (f:=tf f 14) (m:=later.length) q1;obtain⟨x,p,ex⟩:=Qcp b0 b1
    have d:Zl ((L++[(["do",x]:Ln)]).map cdL) []=some (O.reverse.map cd):=by
     rw[QH];exact Zh J (by show kst (cd "do") _=_;rw[show cd "do"=.ot by decide];rfl)
    refine⟨pS bs ws later e op (v-1) k c,[Qm (tf (tf f 14) later.length),.lst ((L++[(["do",x]:Ln)]).map Qh),.lst (O.map .str)],.inl ?_,⟨_,_,_,_,_,_,_,rfl,rfl,?_,d,M,?_,?_,?_,by lia,q,w,Zk t d (by simp;omega),Ql s (by show((_:Str)==_)=false;decide)⟩⟩
    ·simp[-Gg,o,T,S,t2,u,t3,h3,G,Qh,Vw q1 q2,ex]
    ·exact Ql R (.do p)
    ·simp[C]
    ·exact Nl g (Nv _ _)
    ·rw[XC,if_pos (by show(_==_)=true;decide)];lia
   ·obtain⟨l,f',U,ep⟩:=Ki (tf f 14) bs ws hb ae hw aa
    have d:Zl ((L++[l]).map cdL) []=some (O.reverse.map cd):=by
     rw[QH];exact Zh J (by rw[Xj U];rfl)
    refine⟨pS bs ws later e op v k c,[Qm f',.lst ((L++[l]).map Qh),.lst (O.map .str)],.inl ?_,⟨_,_,_,_,_,_,_,rfl,rfl,?_,d,M,?_,?_,?_,B,q,w,Zk t d (by simp;omega),Ql s (Xm U)⟩⟩
    ·simp[-Gg,o,T,S,t2,u,t3,h3,G,ep]
    ·exact Ql R (.plain U)
    ·simp[C]
    ·exact Nl g (Nv _ _)
    ·rw[ZP (Xi U)];exact A
noncomputable def wt(O:List Str):Nat:=(O.map fun(x:Str)=>if x="either"then 2 else 1).sum
theorem V3(O:List Str)(x:Str):wt (O++[x])=wt O+(if x="either"then 2 else 1):=by simp[wt]
theorem Qgz(O:List Str):wt O<=2*O.length:=by
 induction O with
 |nil=>simp[wt]
 |cons x O a=>simp only[wt,NA,DS,NR]at a ⊢;split<;>lia
theorem Qd8(O:List Str)(h:O≠[]):0<wt O:=by
 obtain⟨r,x,rfl⟩:=Qaq O h;rw[V3];split<;>lia
theorem QaF(g:List Ln->List Str->MH)(bound:Nat)(m:i≠j)(P:bound<=90000)
  (I:∀L O,(g L O)[i]?=some (.lst (L.map Qh))) (H:∀L O,(g L O)[j]?=some (.lst (O.map .str))) (G:∀L O b q,((g L O).set i (.lst (b.map Qh))).set j (.lst (q.map .str))=g b q)
  (C:∀L O,t σ (g L O)=some (decide (0<O.length),g L O)) (E:∀L O w h,Qs [.ref i,.ref j] (g L O)=some (w,h)->body σ (g L O)=some (.nx σ h))
  (L:List Ln) (O:List Str) (R:∀l∈L,LineOk bs ws later l) (N:Zl (L.map cdL) []=some (O.reverse.map cd)) (Q:∀x∈O,x="either"\/x="again"\/x="or") (M:L.length+wt O<=bound) (B:Dp D L) (z:(O.length:Int)<=D) (A:∀l∈L,XD l=false) :
  ∃b,(∀l∈b,LineOk bs ws later l)/\Bal (b.map cdL)/\b.length<=bound/\(dcn b=dcn L/\Dp D b/\∀l∈b,XD l=false)/\QF t body 1000000 σ (g L O)=some (.nx σ (g b [])):=by
 have key:=KE (t:=t) (body:=body) (fun n c h=>c=σ/\∃L1 O,(dcn L1=dcn L/\Dp D L1/\(O.length:Int)<=D/\∀l∈L1,XD l=false)/\h=g L1 O/\n=wt O/\(∀l∈L1,LineOk bs ws later l)/\Zl (L1.map cdL) []=some (O.reverse.map cd)/\(∀x∈O,x="either"\/x="again"\/x="or")/\L1.length+wt O<=bound) (wt O) 1000000 σ (g L O) (by lia) ⟨rfl,L,O,⟨rfl,B,z,A⟩,rfl,rfl,R,N,Q,M⟩ ?_
 ·obtain⟨c,S,e,rfl,b,q,a,rfl,hw,v,p,u,o⟩:=key
  have:q=[]:=by
   cases q with
   |nil=>rfl
   |cons x r=>have:=Qd8 (x::r) (by simp);lia
  subst this;exact⟨b,v,bal_iff.mpr p,by exact Nl (Nv _ _) o,⟨a.1,a.2.1,a.2.2.2⟩,e⟩
 ·rintro n c h ⟨rfl,L1,O,a,rfl,rfl,v,p,u,o⟩
  by_cases f:O=[]
  ·subst f;exact .inl ⟨by rw[C];rfl,rfl⟩
  ·refine .inr ⟨by rw[C,decide_eq_true (EN.mpr f)],?_⟩;obtain⟨r,x,rfl⟩:=Qaq O f;rw[Q6]at p;rw[V3]at o ⊢
   by_cases s:x="either"
   ·subst s;rw[if_pos rfl]at o ⊢
    have d:Zl ((L1++[orL]).map cdL) []=some ((r++[("or":Str)]).reverse.map cd):=by
     rw[QH,Q6];exact Zh p rfl
    refine⟨wt (r++[("or":Str)]),c,g (L1++[orL]) (r++[("or":Str)]),?_,.inl ?_,rfl,_,_,⟨(ZP (by decide)).trans a.1,Zk a.2.1 d (by have:=a.2.2.1;simp at this ⊢;omega),by simpa using a.2.2.1,Ql a.2.2.2 (by decide)⟩,rfl,rfl,Ql v US,d,YT u (by simp),?_⟩
    ·rw[V3,if_neg (by decide)];exact Ej (by decide) _
    ·refine E _ _ .non _ ?_;rw[Qa5 (L:=L1) (O:=r) (by lia) m (I _ _) (H _ _),G]
    ·rw[V3,if_neg (by decide)];simp;lia
   ·rw[if_neg s]at o ⊢
    have d:Zl ((L1++[QcV]).map cdL) []=some (r.reverse.map cd):=by
     rw[QH];refine Zh p ?_;show kst (cd "end") _=_;rw[QaO];exact Qb9 (opk (u x (by simp)) s)
    refine⟨wt r,c,g (L1++[QcV]) r,by exact Eg _,.inl ?_,rfl,_,_,⟨(ZP (by decide)).trans a.1,Zk a.2.1 d (by have:=a.2.2.1;simp at this ⊢;omega),by have:=a.2.2.1;simp at this;omega,Ql a.2.2.2 (by decide)⟩,rfl,rfl,Ql v Y0,d,fun y J=>u y (NS _ J),?_⟩
    ·refine E _ _ .non _ ?_;rw[QbJ (L:=L1) (O:=r) s (by lia) m (I _ _) (H _ _),G]
    ·simp;lia
theorem Uz(f:Fd)(a:Nat)(bs ws later:List Str)(op:Nat)(B:Int)(s:B=op)(d:Int)(M:op<=10)(x:0<=d)(J:a<=100)(Z:0<bs.length)(z:bs.length<=5)(hw:0<ws.length)(q:ws.length<=5)(v:later.length<=5) :
  ∃(ls:List Ln) (f':Fd),Bal (ls.map cdL)/\(∀l∈ls,LineOk bs ws later l)/\ls.length<=a+2*op/\((dcn ls:Int)<=d/\Dp op ls/\∀l∈ls,XD l=false)/\∀(h:MH) (n:Nat),h[n]?=some (Qm f)->Q0 [.ref n,.int a,.tup [QE bs,QE ws],QE later,.int B,.int d] h=some (.tup (ls.map Qh),h.set n (Qm f')):=by
 subst s
 have m:=ZS (items:=QL 0 a) (b:=ZJ 8) (body:=ZV) (PI bs ws later a d op) (QL 0 a) 0 [some (.ref 0),some (.int a),some (.tup [QE bs,QE ws]),some (QE later),some (.int op),some (.int d),some (.ref 1),some (.ref 2),none,none] [Qm f,.lst [],.lst []]
  ⟨f,[],[],op,d,none,none,rfl,rfl,by simp,rfl,by simp,rfl,Nx _,by simp[dcn],x,by simp,by omega,G1 (by omega),by simp⟩ (fun j w T E h H=>Qcd Z z hw q v (by have:=(Nh.mp T).1;rw[Q2]at this;lia) H)
 obtain⟨D,h',e1,H⟩:=m;obtain⟨f1,L,O,p,A,I,G,rfl,rfl,hL,S,hO,R,r,U,Y,P,N,y,u⟩:=H.ex;rw[Q2,NX]at R r
 have cl:=QaF (bs:=bs) (ws:=ws) (later:=later) (i:=1) (j:=2) (t:=Qi (Qf wGt (mFn JC (Qa (Qb 7) Qd)) (mC (.int 0)))) (body:=VX) (σ:=[some (.ref 0),some (.int a),some (.tup [QE bs,QE ws]),some (QE later),some (.int p),some (.int A),some (.ref 1),some (.ref 2),I,G])
  (fun L O=>[Qm f1,.lst (L.map Qh),.lst (O.map .str)]) (a+2*op) (by decide) (by lia) (fun _ _=>rfl) (fun _ _=>rfl) (fun _ _ _ _=>rfl) (fun L O=>by simp) (fun L O w h e=>by simp[e]) L O hL S hO (by have:=Qgz O;lia) y (by lia) u
 obtain⟨C,h1,h2,h3,c,e2⟩:=cl;refine⟨C,f1,h2,h1,h3,⟨by rw[c.1];lia,c.2.1,c.2.2⟩,fun h n Q=>?_⟩;refine ZT (o:=Qm f) (g:=[.lst (C.map Qh),.lst []]) (by simp) Q (by simp[Qm]) ?_ (by simp) ⟨_,rfl,by simp⟩;have er:GY (Qa (Qb 1) Qd) [some (.ref 0),some (.int a),some (.tup [QE bs,QE ws]),some (QE later),some (.int op),some (.int d),some (.ref 1),some (.ref 2),none,none] [Qm f,.lst [],.lst []]=some (QL 0 a,none,[Qm f,.lst [],.lst []]):=XJ (by simp) (No J (by decide));simp[JY,QJ,VZ,er,e1,e2]
noncomputable abbrev QeZ(i:Nat):Nat:=if i=0 then 23 else 1
def TwA(p:List Pt):Prop:=(∀x,p[0]?=some x->x.2.length<=12/\dcn x.2<=2/\Dp 2 x.2)/\∀i x,p[i+1]?=some x->x.2.length<=5/\dcn x.2<=1/\Dp 1 x.2
def TwC(p:List Pt):Prop:=(∀x,p[0]?=some x->x.2.length<=23/\dcn x.2=x.2.length/\Dp 0 x.2)/\∀i x,p[i+1]?=some x->x.2.length<=1/\dcn x.2=0/\Dp 0 x.2
def TwD(p:List Pt):Prop:=(∀x,p[0]?=some x->x.2.length<=48/\dcn x.2=0/\Dp 6 x.2)/\∀i x,p[i+1]?=some x->x.2=[]
theorem TwA.snoc{p:List Pt}{nm:Str}{ls:List Ln}(h:TwA p)(d:p≠[])(c:ls.length<=5/\dcn ls<=1/\Dp 1 ls):TwA (p++[(nm,ls)]):=by
 have e:=EN.mpr d;refine⟨fun x a=>h.1 x (by rwa[NT e]at a),fun i x a=>?_⟩
 by_cases b:i+1<p.length
 ·exact h.2 i x (by rwa[NT b]at a)
 ·rw[ER (NQ.mp b)]at a;have:i+1-p.length=0:=by have:=(Nh.mp a).1;simpa using this
  rw[this]at a;simp at a;subst a;exact c
structure TP(bs ws:List Str)(p:List Pt):Prop where
 nb:∀x∈p,∀l∈x.2,XD l=false
 tw:TwA p\/TwC p\/TwD p
 nbs:∀x∈bs,Nm x
 nws:∀x∈ws,Nm x
 nps:∀x∈p,Nm x.1
structure GoodP(N:Nat)(bs ws:List Str)(p:List Pt):Prop where
 ne:p≠[]
 len:p.length<=5
 bal:∀x∈p,Bal (x.2.map cdL)
 sz:∀x∈p,x.2.length<=N
 ok:∀(i:Nat) (x:Pt),p[i]?=some x->∀l∈x.2,LineOk bs ws ((p.map (·.1)).drop (i+1)) l
 nd:(p.map (·.1)).Nodup
 dos:∀(i:Nat) (x:Pt),p[i]?=some x->dcn x.2<=QeZ i
theorem YB(xs:List a)(k:Nat):QcF xs (some (k:Int)) none=xs.drop k:=by
 unfold QcF;rw[HT.sIx_nat,HT.sIx_none]
 by_cases h:k<=xs.length
 ·rw[Nat.min_eq_left h,IR (by simp)]
 ·rw[Nat.min_eq_right (NB (FA.mp h)),Eh (Nx _),Eh (NB (FA.mp h))];simp
theorem Qbe{k:Nat}(a:i=k):wSl (QE ns) (some i) none h=some (QE (ns.drop k),h):=by
 subst a;unfold QE;simp[YB,Fk]
@[simp]theorem QkB:wSl (QE ns) (some 1) none h=some (QE (ns.drop 1),h):=Qbe (k:=1) rfl
theorem Qdy{i:Int}(h:0<=i):∃n:Nat,i=n:=⟨i.toNat,by exact(Dt ‹_›).symm⟩
theorem QcQ(e:a σ h=some ([.int 1,.int j],h'))(b:j<100000000):QhN a σ h=some (QL 1 (j-1),none,h'):=by
 unfold QhN;rw[e,Np];refine(if_pos ⟨by exact by decide,by exact by decide,by lia,by lia⟩).trans ?_;rw[show((j:Int)-1).toNat=j-1 by lia]
structure PP(N:Nat)(bs ws names:List Str)(k:Nat)(p:List Pt):Prop where
 nm:p.map (·.1)=names.take k
 bal:∀x∈p,Bal (x.2.map cdL)
 sz:∀x∈p,x.2.length<=N
 ok:∀(i:Nat) (x:Pt),p[i]?=some x->∀l∈x.2,LineOk bs ws (names.drop (i+1)) l
 dos:∀(i:Nat) (x:Pt),p[i]?=some x->dcn x.2<=QeZ i
theorem PP.snoc{nm:Str}(H:PP N bs ws names k p)(d:names[k]?=some nm)(h:Bal (ls.map cdL))(f:ls.length<=N)(g:∀l∈ls,LineOk bs ws (names.drop (k+1)) l)(hd:dcn ls<=QeZ k):PP N bs ws names (k+1) (p++[(nm,ls)]):=by
 have c:=(Nh.mp d).1;have b:p.length=k:=by have:=congrArg List.length H.nm;simp at this;lia
 refine⟨?_,Ql H.bal h,Ql H.sz f,fun i x a=>?_,fun i x a=>?_⟩
 ·rw[EJ,H.nm,Fo c];rw[Ni c]at d;cases d;rfl
 ·by_cases e:i<p.length
  ·rw[NT e]at a;exact H.ok i x a
  ·have:i=p.length:=by have:=(Nh.mp a).1;simp at this;lia
   subst this;simp at a;subst a;rw[b];exact g
 ·by_cases e:i<p.length
  ·rw[NT e]at a;exact H.dos i x a
  ·have:i=p.length:=by have:=(Nh.mp a).1;simp at this;omega
   subst this;simp at a;subst a;rw[b];exact hd
theorem PP.good(H:PP N bs ws names names.length p)(d:names≠[])(e:names.length<=5)(c:names.Nodup):GoodP N bs ws p:=by
 have a:p.map (·.1)=names:=by rw[H.nm,Eu]
 have b:p.length=names.length:=by rw[<-a];simp
 refine⟨fun z=>d (by rw[<-a,z];rfl),by exact Nl (Nr b) e,H.bal,H.sz,?_,by rw[a];exact c,H.dos⟩;rw[a];exact H.ok
theorem Qau(f:Fd)(s r q c:Nat)(h0:1<=s/\s<=5)(h1:1<=r/\r<=5)(h2:1<=q/\q<=5)(h3:3<=c/\c<=8) :
  ∃(bs ws:List Str) (p:List Pt) (L:Fd),(0<bs.length/\bs.length<=5)/\(0<ws.length/\ws.length<=5)/\(GoodP 50 bs ws p/\TP bs ws p)/\∀(h:MH) (n:Nat),h[n]?=some (Qm f)->Jl [.ref n,.lst [.int s,.int r,.int q,.int c]] h=some (Qw p,h.set n (Qm L)):=by
 have q0:(0:Int)<s:=by lia
 have Q:(s:Int)<1000000:=by lia
 have q1:(0:Int)<r:=by lia
 have P:(r:Int)<1000000:=by lia
 have q2:(0:Int)<q:=by lia
 have O:(q:Int)<1000000:=by lia
 obtain⟨a0,a1⟩:=KG (f:=f) q0;obtain⟨n0,e0⟩:=Qdy a0;obtain⟨bs,f1,lb,S,eb⟩:=VQ (tf f s) (1+n0) (by lia);obtain⟨c0,c1⟩:=KG (f:=f1) q1;obtain⟨n1,e1⟩:=Qdy c0;obtain⟨ws,f2,lw,R,ew⟩:=VQ (tf f1 r) (1+n1) (by lia);obtain⟨d0,d1⟩:=KG (f:=f2) q2;obtain⟨n2,e2⟩:=Qdy d0;obtain⟨names,e,I,A,en⟩:=VQ (tf f2 q) (1+n2) (by lia);obtain⟨g0,g1⟩:=KG (f:=e) (m:=3) (by decide);have C:0<bs.length/\bs.length<=5:=by lia
 have hw:0<ws.length/\ws.length<=5:=by lia
 obtain⟨a,Z,hs,es⟩:∃(a:Nat) (Z:Fd),a<=8/\(if tk (tf e 3) 4=0 then@om _ _ (fun p=>MF.nx [some (.ref 0),some (.lst [.int s,.int r,.int q,.int c]),some (.tup [QE bs,QE ws]),some (QE names),some p.fst,none,none] p.snd) (Qc [.ref 0,.int (c-tk e 3+1)] [Qm (tf (tf e 3) 4)])
   else some (MF.nx [some (.ref 0),some (.lst [.int s,.int r,.int q,.int c]),some (.tup [QE bs,QE ws]),some (QE names),some (.int (c-tk e 3)),none,none] [Qm (tf (tf e 3) 4)]))=some (.nx [some (.ref 0),some (.lst [.int s,.int r,.int q,.int c]),some (.tup [QE bs,QE ws]),some (QE names),some (.int a),none,none] [Qm Z]):=by
  by_cases z:tk (tf e 3) 4=0
  ·have E:(0:Int)<c-tk e 3+1:=by lia
   have N:(c:Int)-tk e 3+1<1000000:=by lia
   obtain⟨k0,k1⟩:=KG (f:=tf (tf e 3) 4) E;obtain⟨sz,ez⟩:=Qdy k0;exact⟨sz,tf (tf (tf e 3) 4) (c-tk e 3+1),by lia,by simp[z,Vw E N,ez]⟩
  ·obtain⟨sz,ez⟩:=Qdy (i:=c-tk e 3) (by lia);exact⟨sz,tf (tf e 3) 4,by lia,by simp[z,ez]⟩
 obtain⟨t,J,p1,p2,p3,G,ep⟩:=Uz Z a bs ws (names.drop 1) 2 2 rfl 2 (by decide) (by decide) (NB (No hs (by decide))) C.1 C.2 hw.1 hw.2 (by simp;lia);obtain⟨d,B⟩:∃x,names[0]?=some x:=⟨names[0]'(Nn (Nn (by decide) (Nv _ _)) (Nr I.symm)),Ni (Nn (Nn (by decide) (Nv _ _)) (Nr I.symm))⟩
 have v:=ZS (items:=QL 1 (names.length-1)) (b:=ZJ 6) (body:=JS) (fun n σ h=>∃(f:Fd) (p:List Pt) (T:Option W),σ=[some (.ref 0),some (.lst [.int s,.int r,.int q,.int c]),some (.tup [QE bs,QE ws]),some (QE names),some (.int a),some (.ref 1),T]/\h=[Qm f,.lst (p.map QP)]/\PP 50 bs ws names (n+1) p/\TwA p/\∀x∈p,∀l∈x.2,XD l=false)
  (QL 1 (names.length-1)) 0 [some (.ref 0),some (.lst [.int s,.int r,.int q,.int c]),some (.tup [QE bs,QE ws]),some (QE names),some (.int a),some (.ref 1),none] [Qm J,.lst [QP (d,t)]]
  ⟨J,[(d,t)],none,rfl,rfl,PP.snoc (p:=[]) ⟨rfl,by simp,by simp,by simp,by simp⟩ B p1 (by lia) p2 (by show _<=23;have:=G.1;lia),⟨fun x u=>by simp at u;subst u;exact⟨by show t.length<=12;lia,by show dcn t<=2;have:=G.1;lia,G.2.1⟩,fun i x u=>by simp at u⟩,by simpa using G.2.2⟩ (by
   rintro j w hj σ h ⟨f,p,T,rfl,rfl,H,H0,H1⟩
   have Y:=(Nh.mp hj).1;rw[Q2]at Y;obtain rfl:w=.int ((j:Int)+1):=by rw[(W3 hj).2,Int.add_comm]
   refine⟨_,rfl,?_⟩;obtain⟨t0,t1⟩:=KG (f:=f) (m:=4) (by decide);obtain⟨m,em⟩:=Qdy t0;obtain⟨ls,L,E,N,r3,D,M⟩:=Uz (tf f 4) m bs ws (names.drop (j+2)) 1 1 rfl 1 (by decide) (by decide) (by lia) C.1 C.2 hw.1 hw.2 (by simp;lia);obtain⟨nm,y⟩:∃x,names[j+1]?=some x:=⟨names[j+1]'(by lia),Ni (by omega)⟩
   refine⟨[some (.ref 0),some (.lst [.int s,.int r,.int q,.int c]),some (.tup [QE bs,QE ws]),some (QE names),some (.int a),some (.ref 1),some (.int ((j:Int)+1))],[Qm L,.lst ((p++[(nm,ls)]).map QP)],.inl ?_,L,_,_,rfl,rfl,?_⟩
   ·have ea:atI (names.map W.str) ((j:Int)+1)=some (.str nm):=by rw[show(j:Int)+1=((j+1:Nat):Int) by exact rfl,Zu,Nz,y];rfl
    have aa:∀h,wSl (QE names) (some ((j:Int)+1+1)) none h=some (QE (names.drop (j+2)),h):=fun h=>Qbe rfl;have U:p.length<sizeLine:=by have:=congrArg List.length H.nm;simp at this;exact VR (by lia)
    simp[ea,aa,em,M,U,QP]
   ·rw[NX]at H ⊢
    exact⟨H.snoc y E (by lia) N (by rw[QeZ,if_neg (Db (DG _))];have:=D.1;lia),H0.snoc (by intro z;rw[z]at H;have:=congrArg List.length H.nm;simp at this;lia) ⟨by lia,by have:=D.1;lia,D.2.1⟩,Ql H1 D.2.2⟩)
 obtain⟨ae,h',el,f6,p,T,rfl,rfl,H,H0,H1⟩:=v;rw[Q2,NX,show names.length-1+1=names.length by lia]at H;refine⟨bs,ws,p,f6,C,hw,⟨H.good (by intro z;rw[z]at I;simp at I;lia) (by lia) A.1,⟨H1,.inl H0,S.2,R.2,fun x u=>A.2 _ (by have:=LG (f:=(·.1)) u;rw[H.nm]at this;exact Lr this)⟩⟩,fun h n hn=>?_⟩;refine ZT (o:=Qm f) (g:=[.lst (p.map QP)]) (by simp) hn (by simp[Qm]) ?_ (by simp) ⟨_,rfl,by simp⟩;have M:QhN (Qa (mC (.int 1)) (Qa (mFn JC (Qa (Qb 3) Qd)) Qd)) [some (.ref 0),some (.lst [.int s,.int r,.int q,.int c]),some (.tup [QE bs,QE ws]),some (QE names),some (.int a),some (.ref 1),none] [Qm J,.lst [QP (d,t)]]=some (QL 1 (names.length-1),none,[Qm J,.lst [QP (d,t)]]):=QcQ (by simp) (by lia);have ea:atI (names.map W.str) 0=some (.str d):=by rw[Qnj,Nz,B];rfl
 push_cast at eb ew en;rw[List.drop_one]at ep;have ab:QP (d,t)=.tup [.str d,.tup (t.map Qh)]:=rfl;rw[ab]at M el;simp[Z6,QJ,VZ,Vw q0 Q,Vw q1 P,Vw q2 O,e0,e1,e2,eb,ew,en,es,ea,ep,M,el,Qw]
@[simp]theorem QlH:X2 (.lst xs) (.lst a) h=if xs.length+a.length<=sizeLine then some (.lst (xs++a),h)else none:=id rfl
theorem UY:∀{ls:List Cd} {s:List Cd},(∀c∈ls,c=.ot)->Zl ls s=some s
 |[],_,_=>rfl
 |c::ls,s,h=>by
  rw[h c Nt];show Zl ls s=some s;exact UY fun c a=>h c (Nq _ a)
theorem Qey{ls:List Ln}(h:∀l∈ls,cdL l=.ot):Bal (ls.map cdL):=bal_iff.mpr (UY fun c b=>by obtain⟨l,a,rfl⟩:=NF.mp b;exact h l a)
theorem Qmf:∀{ns:List Str},ns.length=5->∃a b c d e:Str,ns=[a,b,c,d,e]
 |[a,b,c,d,e],_=>⟨a,b,c,d,e,rfl⟩
noncomputable abbrev gS(bs ws ns:List Str)(x3 x4 x5 c b a:Option W):MSt:=[some (.ref 0),some (.tup [QE bs,QE ws]),some (QE ns),x3,x4,x5,c,b,a]
theorem QiI(f:Fd)(bs ws:List Str)(p:0<bs.length/\bs.length<=5)(hw:0<ws.length/\ws.length<=5)(σ:MSt)(i:∃o,QdI [none,some 0,some 1] σ=[o,some (.ref 0),some (.tup [QE bs,QE ws])])(mi:MI)(m:Nat)(u:m<=100)(g:Fd)(j:mi σ [Qm f]=some (QL 0 m,none,[Qm g])) :
  ∃(ls:List Ln) (a:Fd),(∀l∈ls,PlainL bs ws l)/\ls.length=m/\QN QiQ mi [none,some 0,some 1] (ZJ 0) VV (Qg 3 QD (Qa (Qb 1) (Qa (Qf wIx (Qb 2) (mC (.int 0))) (Qa (Qf wIx (Qb 2) (mC (.int 1))) Qd)))) σ [Qm f]=some (.ref 1,[Qm a,.lst (ls.map Qh)]):=by
 obtain⟨o,t⟩:=i
 have key:=GT (items:=QL 0 m) (b:=ZJ 0) (me:=Qg 3 QD (Qa (Qb 1) (Qa (Qf wIx (Qb 2) (mC (.int 0))) (Qa (Qf wIx (Qb 2) (mC (.int 1))) Qd)))) (fin:=QiQ)
  (fun(d:List Ln) n h=>∃f o,n=[o,some (.ref 0),some (.tup [QE bs,QE ws])]/\h=[Qm f]/\∀l∈d,PlainL bs ws l) Qh (QL 0 m) [] [o,some (.ref 0),some (.tup [QE bs,QE ws])] [Qm g] ⟨g,o,rfl,rfl,by simp⟩ (by simp[Q2];exact JU (NB (No u (by decide)))) (by
   rintro w r d n h ⟨f,o,rfl,rfl,x⟩
   obtain⟨l,a,s,y⟩:=Ki f bs ws p.1 p.2 hw.1 hw.2
   exact⟨_,l,[Qm a],rfl,by simp[y],a,_,rfl,rfl,Ql x s⟩)
 obtain⟨ls,q,B,e,⟨a,z,rfl,rfl,v⟩,c⟩:=key;refine⟨ls,a,v,by simpa[Q2]using c,?_⟩;unfold QN;rw[j,Np];simp only[t];exact e
structure GI(bs ws ns:List Str)(n:Nat)(σ:MSt)(h:MH):Prop where
 ex:∃(f:Fd) (L:List Ln) (O:List Str) (x3 x5 x6 x8:Option W),σ=gS bs ws ns x3 (some (.ref 1)) x5 x6 (some (.ref 2)) x8/\h=[Qm f,.lst (L.map Qh),.lst (O.map .str)] /\
  (∀l∈L,LineOk bs ws (ns.drop 1) l)/\Zl (L.map cdL) []=some (O.reverse.map cd)/\(∀x∈O,x="either"\/x="again"\/x="or")/\L.length=2*n/\O.length=n/\dcn L=0/\Dp 6 L/\∀l∈L,XD l=false
theorem Qaj(r:0<bs.length/\bs.length<=5)(hw:0<ws.length/\ws.length<=5)(A:n<=5)(H:GI bs ws ns n σ h) :
  ∃b,ZJ 8 k σ h=some b/\∃a q,(ZE b h=some (.nx a q)\/ZE b h=some (.ct a q))/\GI bs ws ns (n+1) a q:=by
 obtain⟨f,L,O,u,t,s,N,rfl,rfl,E,C,D,B,d,p,o,j⟩:=H.ex;refine⟨_,rfl,?_⟩;obtain⟨l,f1,i,G⟩:=Ki f bs ws r.1 r.2 hw.1 hw.2;obtain⟨J,I⟩:=KG (f:=f1) (m:=2) (by decide);obtain⟨x,_,c,ex⟩:=Qab (xs:=([("either":Str),"again"])) (f:=W.str) (P:=fun x=>x="either"\/x="again") J (by show tk f1 2<2;exact I) (by simp);simp at ex;have y:L.length<sizeLine:=VR (by lia);have w:L.length+1<sizeLine:=VR (by lia);have v:O.length<sizeLine:=VR (NB (No (Nl (Nr d) A) (by decide)))
 have g:Zl ((L++[l]).map cdL) []=some (O.reverse.map cd):=by
  rw[QH];exact Zh C (by rw[Xj i];rfl)
 have e:Zl ((L++[l]++[[x]]).map cdL) []=some ((O++[x]).reverse.map cd):=by
  rw[QH,Q6];refine Zh g ?_
  rcases c with rfl|rfl
  ·rfl
  ·show kst (cd "again") _=_;rw[YQ];rfl
 refine⟨gS bs ws ns u (some (.ref 1)) t s (some (.ref 2)) (some k),[Qm (tf f1 2),.lst ((L++[l]++[[x]]).map Qh),.lst ((O++[x]).map .str)],.inl ?_,⟨_,_,_,_,_,_,_,rfl,rfl,?_,e,?_,?_,?_,?_,Zk (Zk o g (by simp;omega)) e (by simp;omega),Ql (Ql j (Xm i)) (by rcases c with rfl|rfl<;>decide)⟩⟩
 ·simp[G,ex,y,w,v,Qh]
 ·exact Ql (Ql E (.plain i)) (.blk (by rcases c with rfl|rfl<;>simp))
 ·exact Ql D (by rcases c with z|z<;>simp[z])
 ·simp[B];exact rfl
 ·simp[d]
 ·rw[ZP (by rcases c with rfl|rfl<;>decide),ZP (Xi i)];exact p
theorem U4(G:0<bs.length/\bs.length<=5)(hw:0<ws.length/\ws.length<=5)(H:GI bs ws ns 6 σ h):∃(f:Fd) (L:List Ln) (x3 x5 u s:Option W),(∀l∈L,LineOk bs ws (ns.drop 1) l)/\Bal (L.map cdL)/\L.length<=48/\(dcn L=0/\Dp 6 L/\∀l∈L,XD l=false) /\
  QF (Qi (Qf wGt (mFn JC (Qa (Qb 7) Qd)) (mC (.int 0)))) Jn 1000000 σ h=some (.nx (gS bs ws ns x3 (some (.ref 1)) x5 u (some (.ref 2)) s) [Qm f,.lst (L.map Qh),.lst []]):=by
 obtain⟨f,L,O,x3,x5,u,s,rfl,rfl,R,P,Q,U,N,D,C,B⟩:=H.ex;have key:=KE (t:=Qi (Qf wGt (mFn JC (Qa (Qb 7) Qd)) (mC (.int 0)))) (body:=Jn) (fun n g h=>g=gS bs ws ns x3 (some (.ref 1)) x5 u (some (.ref 2)) s/\∃f L O,(dcn L=0/\Dp 6 L/\(O.length:Int)<=6/\∀l∈L,XD l=false)/\h=[Qm f,.lst (L.map Qh),.lst (O.map .str)]/\n=wt O/\(∀l∈L,LineOk bs ws (ns.drop 1) l)/\Zl (L.map cdL) []=some (O.reverse.map cd)/\(∀x∈O,x="either"\/x="again"\/x="or")/\L.length+2*wt O<=40) (wt O) 1000000 _ _ (by have:=Qgz O;lia) ⟨rfl,f,L,O,⟨D,C,by omega,B⟩,rfl,rfl,R,P,Q,by have:=Qgz O;lia⟩ ?_
 ·obtain⟨g,Y,e,rfl,S,T,J,a,rfl,hw,A,z,w,d⟩:=key
  have:J=[]:=by
   cases J with
   |nil=>rfl
   |cons x r=>have:=Qd8 (x::r) (by simp);lia
  subst this;exact⟨S,T,x3,x5,u,s,A,bal_iff.mpr z,by exact NB (No (Nl (Nv _ _) d) (by decide)),⟨a.1,a.2.1,a.2.2.2⟩,e⟩
 ·rintro n g h ⟨rfl,f,L,O,a,rfl,rfl,A,z,w,d⟩
  by_cases o:O=[]
  ·subst o;exact .inl ⟨by simp,rfl⟩
  ·refine .inr ⟨by simp;exact EN.mpr o,?_⟩;obtain⟨l,f1,m,I⟩:=Ki f bs ws G.1 G.2 hw.1 hw.2;obtain⟨r,x,rfl⟩:=Qaq O o;rw[Q6]at z;rw[V3]at d ⊢
   have c:Zl ((L++[l]).map cdL) []=some (cd x::r.reverse.map cd):=by
    rw[QH];exact Zh z (by rw[Xj m];rfl)
   have E:L.length<sizeLine:=VR (NB (No (Nl (Nv _ _) d) (by decide)))
   by_cases v:x="either"
   ·subst v;rw[if_pos rfl]at d ⊢;have q:=Qa5 (L:=L++[l]) (O:=r) (h:=[Qm f1,.lst ((L++[l]).map Qh),.lst ((r++[("either":Str)]).map .str)]) (i:=1) (j:=2) (by simp;exact NB (No (Nl (Nv _ _) d) (by decide))) (by decide) rfl rfl
    have b:Zl ((L++[l]++[orL]).map cdL) []=some ((r++[("or":Str)]).reverse.map cd):=by
     rw[QH,Q6];exact Zh c rfl
    have p:=a.2.2.1;simp at p;refine⟨wt (r++[("or":Str)]),_,[Qm f1,.lst ((L++[l]++[orL]).map Qh),.lst ((r++[("or":Str)]).map .str)],?_,.inl ?_,rfl,_,_,_,⟨((ZP (by decide)).trans (ZP (Xi m))).trans a.1,Zk (Zk a.2.1 c (by simp;omega)) b (by simp;omega),by simp;omega,Ql (Ql a.2.2.2 (Xm m)) (by decide)⟩,rfl,rfl,Ql (Ql A (.plain m)) US,b,YT w (by simp),?_⟩
    ·rw[V3,if_neg (by decide)];exact Ej (by decide) _
    ·simp at q;simp[I,E,q]
    ·rw[V3,if_neg (by decide)];simp;lia
   ·rw[if_neg v]at d ⊢;have q:=QbJ (L:=L++[l]) (O:=r) (x:=x) (h:=[Qm f1,.lst ((L++[l]).map Qh),.lst ((r++[x]).map .str)]) (i:=1) (j:=2) v (by simp;exact NB (No (Nl (Nv _ _) d) (by decide))) (by decide) rfl rfl
    have b:Zl ((L++[l]++[QcV]).map cdL) []=some (r.reverse.map cd):=by
     rw[QH];refine Zh c ?_;show kst (cd "end") _=_;rw[QaO];exact Qb9 (opk (w x (by simp)) v)
    have p:=a.2.2.1;simp at p;refine⟨wt r,_,[Qm f1,.lst ((L++[l]++[QcV]).map Qh),.lst (r.map .str)],by exact Eg _,.inl ?_,rfl,_,_,_,⟨((ZP (by decide)).trans (ZP (Xi m))).trans a.1,Zk (Zk a.2.1 c (by simp;omega)) b (by simp;omega),by omega,Ql (Ql a.2.2.2 (Xm m)) (by decide)⟩,rfl,rfl,Ql (Ql A (.plain m)) Y0,b,fun y M=>w y (NS _ M),?_⟩
    ·simp at q;simp[I,E,q]
    ·simp;lia
theorem QdW(d:Bal (ls.map cdL))(b:ls.length<=50)(c:∀l∈ls,LineOk bs ws [] l)(hd:dcn ls=0):GoodP 50 bs ws [(nm,ls)]:=by
 refine⟨by simp,by simp,by simpa using d,by simpa using b,fun i x a=>?_,by simp,fun i x a=>?_⟩
 ·cases i with
  |zero=>simp at a;subst a;simpa using c
  |succ i=>simp at a
 ·cases i with
  |zero=>simp at a;subst a;show dcn ls<=_;exact Nl (Nr hd) (NY _)
  |succ i=>simp at a
theorem Qh3{ls:List Ln}(h:∀l∈ls,cdL l=.ot):Dp 0 ls:=fun A B s e a=>by
 rw[UY fun c d=>by obtain⟨l,b,rfl⟩:=NF.mp d;exact h l (by rw[e];exact NS _ b)]at a;cases a;simp
theorem Dp.mono(h:Dp D L)(hd:D<=b):Dp b L:=fun A B s e a=>LX (h A B s e a) hd
theorem Ur{bs ws:List Str}{ls:List Ln}(a:∀l∈ls,PlainL bs ws l):dcn ls=0:=by unfold dcn;rw[DV];intro l b;rw[Xi (a l b)];simp
theorem QcL(f:Fd):∃(bs ws:List Str) (p:List Pt) (P:Fd),(0<bs.length/\bs.length<=5)/\(0<ws.length/\ws.length<=5)/\(GoodP 50 bs ws p/\TP bs ws p)/\∀(h:MH) (n:Nat),h[n]?=some (Qm f)->J6 [.ref n] h=some (Qw p,h.set n (Qm P)):=by
 obtain⟨bs,f1,lb,B,Z⟩:=VQ f 5 (by decide);obtain⟨ws,f2,lw,A,Y⟩:=VQ f1 5 (by decide);obtain⟨ns,s,ln,t,en⟩:=VQ f2 5 (by decide);obtain⟨a,b,c,d,e,rfl⟩:=Qmf ln;have y:0<bs.length/\bs.length<=5:=by lia
 have hw:0<ws.length/\ws.length<=5:=by lia
 simp at Z Y en;obtain⟨w0,w1⟩:=KG (f:=s) (m:=3) (by decide);have N:ZW [.ref 0] [Qm f]=Qhb (Zw (gS bs ws [a,b,c,d,e] (some (.int (tk s 3))) none none none none none) [Qm (tf s 3)]):=by simp[ZW,QJ,Z,Y,en]
 by_cases T:tk s 3=0
 ·obtain⟨O,m1⟩:=KG (f:=tf s 3) (m:=9) (by decide);obtain⟨m,em⟩:=Qdy O;obtain⟨u,P,D,r,z⟩:=QiI (tf s 3) bs ws y hw (gS bs ws [a,b,c,d,e] (some (.int 0)) none none none none none) ⟨none,rfl⟩ (GY (Qa (Qf X2 (mC (.int 40)) (Qg 2 Qc (Qa (Qb 0) (Qa (mC (.int 9)) Qd)))) Qd)) (40+m) (by lia) (tf (tf s 3) 9) (XJ (j:=40+m) (by simp[em]) (by lia));refine⟨bs,ws,[(a,u)],P,y,hw,⟨QdW (Qey fun l r=>Xj (D l r)) (by lia) (fun l r=>.plain (D l r)) (Ur D),⟨by simp;exact fun l r=>Xm (D l r),.inr (.inr ⟨fun x q=>by simp at q;subst q;exact⟨by show u.length<=48;lia,Ur D,(Qh3 fun l r=>Xj (D l r)).mono (by decide)⟩,fun i x q=>by simp at q⟩),B.2,A.2,by simp;exact t.2 a (by simp)⟩⟩,fun h n G=>?_⟩;refine ZT (o:=Qm f) (g:=[.lst (u.map Qh)]) (by simp) G (by simp[Qm]) ?_ (by simp) ⟨_,rfl,by simp⟩;rw[N];simp[Zw,T,z,Qw,QP]
 ·by_cases U:tk s 3=1
  ·obtain⟨O,m1⟩:=KG (f:=tf s 3) (m:=2) (by decide);obtain⟨m,em⟩:=Qdy O;obtain⟨u,C,r1,r2,r3,J,R⟩:=Uz (tf (tf s 3) 2) m bs ws [] 0 0 rfl 0 (by decide) (by decide) (by lia) y.1 y.2 hw.1 hw.2 (by simp);obtain⟨k0,k1⟩:=KG (f:=C) (m:=4) (by decide);obtain⟨k,ek⟩:=Qdy k0;refine⟨bs,ws,[(a,List.replicate (20+k) (["do",b]:Ln)),(b,u)],tf C 4,y,hw,⟨⟨by simp,by simp,?_,?_,?_,?_,?_⟩,⟨?_,.inr (.inl ⟨fun x q=>?_,fun i x q=>?_⟩),B.2,A.2,?_⟩⟩,fun h n G=>?_⟩
   ·intro x q;simp at q
    rcases q with rfl|rfl
    ·exact Qey fun l r=>by rw[(Er.mp r).2];show cd "do"=.ot;decide
    ·exact r1
   ·intro x q;simp at q
    rcases q with rfl|rfl
    ·simp;lia
    ·show u.length<=50;lia
   ·intro i x q
    match i,q with
    |0,q=>
     simp at q;subst q;intro l r;rw[(Er.mp r).2];exact .do (by simp)
    |1,q=>simp at q;subst q;simpa using r2
   ·simp at t ⊢;exact t.1.1.1
   ·intro i x q
    match i,q with
    |0,q=>
     simp at q;subst q;have:=List.countP_le_length (p:=VN) (l:=List.replicate (20+k) (["do",b]:Ln));rw[IX]at this;show List.countP VN (List.replicate (20+k) (["do",b]:Ln))<=23;lia
    |1,q=>simp at q;subst q;show dcn u<=1;have:=J.1;lia
   ·intro x q;simp at q
    rcases q with rfl|rfl
    ·intro l r;rw[(Er.mp r).2];show((_:Str)==_)=false;decide
    ·exact J.2.2
   ·simp at q;subst q;refine⟨by simp;lia,?_,Qh3 fun l r=>by rw[(Er.mp r).2];show cd "do"=.ot;decide⟩;show List.countP VN (List.replicate (20+k) (["do",b]:Ln))=(List.replicate (20+k) (["do",b]:Ln)).length;rw[Lf];intro l r;rw[(Er.mp r).2];show((_:Str)==_)=true;decide
   ·cases i with
    |zero=>simp at q;subst q;exact⟨by show u.length<=1;lia,by show dcn u=0;have:=J.1;lia,J.2.1⟩
    |succ i=>simp at q
   ·intro x q;simp at q
    rcases q with rfl|rfl
    ·exact t.2 _ (by simp)
    ·exact t.2 _ (by simp)
   ·refine ZT (o:=Qm f) (g:=[]) (by simp) G (by simp[Qm]) ?_ (by simp) ⟨_,rfl,by simp⟩
    have z:=ZC (fin:=Z2) (mi:=GY (Qa (Qb 6) Qd)) (cp:=[none,some 2]) (me:=mFn JM (Qa (mC (.str "do")) (Qa (Qf wIx (Qb 1) (mC (.int 1))) Qd))) (σ:=gS bs ws [a,b,c,d,e] (some (.int 1)) none (some (.tup (u.map Qh))) (some (.int (20+k))) none none) (caps:=[some (QE [a,b,c,d,e])]) (h:=[Qm (tf C 4)]) (items:=QL 0 (20+k))
     (fun _=>Qh ["do",b]) (XJ (j:=20+k) (by simp) (by lia)) ⟨_,rfl⟩ (fun w hw=>by simp[Qh]) (by rw[Q2];exact JU (by lia))
    have Q:Q0 [.ref 0,.int m,.tup [QE bs,QE ws],.lst [],.int 0,.int 0] [Qm (tf (tf s 3) 2)]=some (.tup (u.map Qh),[Qm C]):=R _ 0 rfl;have v:(QL 0 (20+k)).map (fun _=>Qh ["do",b])=List.replicate (20+k) (Qh ["do",b]):=by rw[IH,Q2]
    rw[v]at z;simp only[Z2]at z;rw[N];simp[Zw,U,em,Q,ek,z,Qw,QP]
  ·have E:=ZS (items:=QL 0 6) (b:=ZJ 8) (body:=ZE) (GI bs ws [a,b,c,d,e]) (QL 0 6) 0 (gS bs ws [a,b,c,d,e] (some (.int (tk s 3))) (some (.ref 1)) none none (some (.ref 2)) none) [Qm (tf s 3),.lst [],.lst []]
    ⟨_,[],[],_,_,_,_,rfl,rfl,by simp,rfl,by simp,rfl,rfl,rfl,G1 (by decide),by simp⟩ (fun j w hj S h H=>Qaj y hw (by have:=(W3 hj).1;lia) H)
   obtain⟨aa,h',e1,H⟩:=E;rw[Q2,NX]at H;obtain⟨C,L,x3,x5,x6,x8,c1,c2,c3,M,e2⟩:=U4 y hw H
   have q:GoodP 50 bs ws [(a,L),(b,[]),(c,[]),(d,[]),(e,[])]:=by
    refine⟨by simp,by simp,?_,?_,?_,by simpa using t.1,?_⟩
    ·intro x q;simp at q
     rcases q with rfl|rfl|rfl|rfl|rfl
     ·exact c2
     all_goals rfl
    ·intro x q;simp at q
     rcases q with rfl|rfl|rfl|rfl|rfl<;>simp
     exact Nl c3 (by decide)
    ·intro i x q
     match i,q with
     |0,q=>simp at q;subst q;simpa using c1
     |1,q=>simp at q;subst q;simp
     |2,q=>simp at q;subst q;simp
     |3,q=>simp at q;subst q;simp
     |4,q=>simp at q;subst q;simp
    ·intro i x q
     match i,q with
     |0,q=>simp at q;subst q;show dcn L<=_;exact Nl (Nr M.1) (NY _)
     |1,q=>simp at q;subst q;simp[dcn]
     |2,q=>simp at q;subst q;simp[dcn]
     |3,q=>simp at q;subst q;simp[dcn]
     |4,q=>simp at q;subst q;simp[dcn]
   refine⟨bs,ws,_,C,y,hw,⟨q,⟨by simp;exact M.2.2,.inr (.inr ⟨fun x q=>by simp at q;subst q;exact⟨c3,M.1,M.2.1⟩,fun i x q=>by
    match i,q with
    |0,q=>simp at q;subst q;rfl
    |1,q=>simp at q;subst q;rfl
    |2,q=>simp at q;subst q;rfl
    |3,q=>simp at q;subst q;rfl⟩),B.2,A.2,fun x q=>t.2 _ (by simp at q;rcases q with rfl|rfl|rfl|rfl|rfl<;>simp)⟩⟩,fun h n G=>?_⟩
   refine ZT (o:=Qm f) (g:=[.lst (L.map Qh),.lst []]) (by simp) G (by simp[Qm]) ?_ (by simp) ⟨_,rfl,by simp⟩
   have z:=ZC (fin:=Z2) (mi:=Qr (mSl (Qb 2) (XF (mC (.int 1))) XE)) (cp:=[none]) (me:=mFn JM (Qa (Qb 0) (Qa (mFn JM Qd) Qd))) (σ:=gS bs ws [a,b,c,d,e] x3 (some (.ref 1)) x5 x6 (some (.ref 2)) x8) (caps:=[]) (h:=[Qm C,.lst (L.map Qh),.lst []]) (items:=[.str b,.str c,.str d,.str e])
    (fun w=>.tup [w,.tup []]) (by simp[Qr];rfl) ⟨_,rfl⟩ (fun w hw=>by simp) (by simp)
   have R:GY (Qa (mC (.int 6)) Qd) (gS bs ws [a,b,c,d,e] (some (.int (tk s 3))) (some (.ref 1)) none none (some (.ref 2)) none) [Qm (tf s 3),.lst [],.lst []]=some (QL 0 6,none,[Qm (tf s 3),.lst [],.lst []]):=XJ (j:=6) rfl (by decide);simp only[Z2]at z;rw[N];simp[Zw,VZ,U,T,R,e1,e2,z,Qw,QP]
def Qj4(sem:List W->MH->Option (W×MH))(f:Fd)(args:W->List W):Prop:=∃(bs a:List Str) (p:List Pt) (b:Fd),(0<bs.length/\bs.length<=5)/\(0<a.length/\a.length<=5)/\(GoodP 50 bs a p/\TP bs a p)/\∀(h:MH) (n:Nat),h[n]?=some (Qm f)->sem (args (.ref n)) h=some (Qw p,h.set n (Qm b))
theorem QiC(f:Fd)(d c b a:Nat)(w:1<=d/\d<=5)(v:1<=c/\c<=5)(u:1<=b/\b<=5)(t:3<=a/\a<=8):Qj4 V4 f fun r=>[r,.lst [.int d,.int c,.int b,.int a]]:=by
 by_cases s:tk f 8=5
 ·obtain⟨bs,i,p,q,m,hw,l,e⟩:=QcL (tf f 8);refine⟨bs,i,p,q,m,hw,l,fun h n j=>?_⟩;refine ZT (o:=Qm f) (g:=[]) (by simp) j (by simp[Qm]) ?_ (by simp) ⟨_,rfl,by simp⟩;simp[JF,QJ,s,e]
 ·obtain⟨bs,i,p,q,m,hw,l,e⟩:=Qau (tf f 8) d c b a w v u t;refine⟨bs,i,p,q,m,hw,l,fun h n j=>?_⟩;refine ZT (o:=Qm f) (g:=[]) (by simp) j (by simp[Qm]) ?_ (by simp) ⟨_,rfl,by simp⟩;simp[JF,QJ,s,e]
theorem JW(h:LineOk bs ws la l):∃x r,l=x::r:=by
 cases h with
 |plain h=>cases h<;>exact⟨_,_,rfl⟩
 |«do» h=>exact⟨_,_,rfl⟩
 |blk h=>exact⟨_,_,rfl⟩
 |back h=>exact⟨_,_,rfl⟩
theorem KQ(h:GoodP N bs ws p)(b:N<=M):GoodP M bs ws p:=⟨h.ne,h.len,h.bal,fun x a=>Nl (h.sz x a) b,h.ok,h.nd,h.dos⟩
theorem Qci(ns:List Int)(k:Nat)(j:k<100):∃f:Fd,∀h:MH,Zr [.frz (ns.map .int),.int k] h=some (.ref h.length,h++[Qm f]):=by
 have fin:∀(a b:Int) (g:0<=b/\b<1099511627776),Zz [.frz (ns.map .int),.int k] []=some (.ref 0,[.lst [.int a,.int b]])->∀h:MH,Zr [.frz (ns.map .int),.int k] h=some (.ref h.length,h++[Qm ⟨a,b,g⟩]):=by
  intro a b g e h;unfold Zr box;have hr:Ks 0 [.frz (ns.map .int),.int k]=some ([.frz (ns.map .int),.int k],[]):=by simp[Ks]
  rw[hr,Np];unfold Qfw;rw[if_pos EV];simp only[ZL,Np,e];rw[if_pos ⟨by simp[frR],by simp[frR]⟩];simp[frR,th,res,WD,ZL,thO,ths,QO,Qm]
 obtain⟨c,d⟩:∃c:Int,(if(k:Int)<(ns.length:Nat)then@om _ _ (fun p=>MF.nx [some (.frz (ns.map .int)),some (.int k),some p.fst,none] p.snd) (@om _ _ (fun w=>(w,([]:MH))) (atI (ns.map W.int) (k:Int)))else some (MF.nx [some (.frz (ns.map .int)),some (.int k),some (.int 0),none] []))=some (MF.nx [some (.frz (ns.map .int)),some (.int k),some (.int c),none] []):=by
  by_cases i:k<ns.length
  ·refine⟨ns[k],?_⟩;rw[if_pos (by omega),Zu,Nz,Ni i];simp
  ·exact⟨0,by rw[if_neg (by omega)]⟩
 have m:0<=c%2147483647*48271%2147483647:=EL _ (by decide);have l:c%2147483647*48271%2147483647<2147483647:=EW _ (by decide)
 by_cases hd:(1000000000000000000:Int)<=c
 ·refine⟨⟨c-1000000000000000000,c%2147483647*48271%2147483647+k,by omega⟩,fin _ _ _ ?_⟩;simp at d;simp[Zz,QJ,d,hd]
 ·refine⟨⟨0,c%2147483647*48271%2147483647+k,by omega⟩,fin _ _ _ ?_⟩;simp at d;simp[Zz,QJ,d,hd]
noncomputable abbrev bkL(w:Str):Ln:=["back",w]
noncomputable abbrev prL(x w y z:Str):Ln:=["pair",x,w,y,z]
noncomputable def nbk(ls:List Ln):Nat:=ls.countP fun l=>!XD l
noncomputable def bcn(ls:List Ln):Nat:=ls.countP XD
theorem X9(L:List Ln)(l:Ln):nbk (L++[l])=nbk L+(if XD l=true then 0 else 1):=by
 simp[nbk,FR,Fp];cases XD l<;>rfl
theorem Wx(L:List Ln)(l:Ln):bcn (L++[l])=bcn L+(if XD l=true then 1 else 0):=by simp[bcn,FR,Fp]
theorem QfU{ls:List Ln}(h:∀l∈ls,XD l=false):nbk ls=ls.length:=by
 unfold nbk;rw[Lf];intro l a;rw[h l a];rfl
theorem Qjv{ls:List Ln}(h:∀l∈ls,XD l=false):bcn ls=0:=by
 unfold bcn;rw[DV];intro l a;rw[h l a];simp
theorem Kc{A B:List Cd}{s:List Cd}(h:Zl (A++B) []=some s):∃r,Zl A []=some r:=by
 rw[ZD]at h;cases e:Zl A []with
 |none=>rw[e]at h;simp at h
 |some r=>exact⟨r,rfl⟩
structure BI(bs ws la:List Str)(ls F:List Ln)(n:Nat):Prop where
 ok:∀l∈F,LineOk bs ws la l
 kr:Zl (F.map cdL) []=Zl ((ls.take n).map cdL) []
 nb:nbk F=nbk (ls.take n)
 dc:dcn F=dcn (ls.take n)
 dp:∀D,Dp D ls->Dp D F
 ln:F.length<=2*n
theorem Qka(w:Str):cdL (bkL w)=.ot:=by show cd "back"=.ot;decide
theorem BI.line{ls F:List Ln}{l:Ln}(i:Bal (ls.map cdL))(H:BI bs ws la ls F n)(h:ls[n]?=some l)(f:LineOk bs ws la l)(g:XD l=false):BI bs ws la ls (F++[l]) (n+1):=by
 have a:ls.take (n+1)=ls.take n++[l]:=by rw[E5,h];rfl
 have c:Zl ((F++[l]).map cdL) []=Zl ((ls.take (n+1)).map cdL) []:=by
  rw[a,QH,QH,ZD,ZD,H.kr]
 obtain⟨s,b⟩:∃s,Zl ((ls.take (n+1)).map cdL) []=some s:=by
  have e:=bal_iff.mp i;rw[<-Em (n+1) ls,EJ]at e;exact Kc e
 refine⟨Ql H.ok f,c,?_,?_,fun D d=>Zk (H.dp D d) (c.trans b) (d _ _ s (Em (n+1) ls).symm b),by rw[Ny];have:=H.ln;simp;omega⟩
 ·rw[a,X9,X9,H.nb]
 ·rw[a,XC,XC,H.dc]
theorem BI.back{ls F:List Ln}{w:Str}(f:Bal (ls.map cdL))(H:BI bs ws la ls F n)(hw:w∈ws)(e:F.length+1<=2*n):BI bs ws la ls (F++[bkL w]) n:=by
 have b:Zl ((F++[bkL w]).map cdL) []=Zl ((ls.take n).map cdL) []:=by
  rw[QH,ZD,H.kr,Qka];cases Zl ((ls.take n).map cdL) []<;>rfl
 obtain⟨s,a⟩:∃s,Zl ((ls.take n).map cdL) []=some s:=by
  have d:=bal_iff.mp f;rw[<-Em n ls,EJ]at d;exact Kc d
 refine⟨Ql H.ok (.back hw),b,?_,?_,fun D c=>Zk (H.dp D c) (b.trans a) (c _ _ s (Em n ls).symm a),by simpa using e⟩
 ·rw[X9,if_pos (by show((_:Str)==_)=true;decide),H.nb];rfl
 ·rw[ZP (l:=bkL w) (by show((_:Str)==_)=false;decide),H.dc]
noncomputable abbrev kS(ls:List Ln)(left:Int)(x4:Option W):MSt:=[some (.tup (ls.map Qh)),some (.ref 0),some (.int left),some (.ref 1),x4]
theorem QaU{l:Ln}(h:LineOk bs ws la l):(∃x w y z:Str,l=prL x w y z/\w∈ws)\/∃x r,l=x::r/\x≠"pair":=by
 cases h with
 |plain h=>cases h<;>first|exact .inl ⟨_,_,_,_,rfl,by assumption⟩|exact .inr ⟨_,_,rfl,by decide⟩
 |«do» h=>exact .inr ⟨_,_,rfl,by decide⟩
 |blk h=>rcases h with rfl|rfl|rfl|rfl<;>exact .inr ⟨_,_,rfl,by decide⟩
 |back h=>exact .inr ⟨_,_,rfl,by decide⟩
theorem Qan{ls:List Ln}{σ:MSt}{h:MH}{l:Ln}(m:Bal (ls.map cdL))(u:n<=1000)(s:ls[n]?=some l)(j:LineOk bs ws la l)(e:XD l=false)
  (H:∃f F left x4,σ=kS ls left x4/\h=[Qm f,.lst (F.map Qh)]/\BI bs ws la ls F n/\(bcn F:Int)+left=10/\0<=left) :
  ∃b,ZJ 4 (Qh l) σ h=some b/\∃a d,(Zv b h=some (.nx a d)\/Zv b h=some (.ct a d))/\∃f F left x4,a=kS ls left x4/\d=[Qm f,.lst (F.map Qh)]/\BI bs ws la ls F (n+1)/\(bcn F:Int)+left=10/\0<=left:=by
 obtain⟨f,F,left,x4,rfl,rfl,H,v,c⟩:=H;refine⟨_,rfl,?_⟩;have i:=H.line m s j e;have t:(bcn (F++[l]):Int)=bcn F:=by rw[Wx,e];simp
 have g:F.length<sizeLine:=VR (by have:=H.ln;omega);have p:F.length+1<sizeLine:=VR (by have:=H.ln;omega)
 rcases QaU j with⟨x,w,y,z,rfl,hw⟩|⟨x,r,rfl,q⟩
 ·by_cases d:0<left
  ·by_cases o:tk f 2=0
   ·refine⟨kS ls (left-1) (some (Qh (prL x w y z))),[Qm (tf f 2),.lst ((F++[prL x w y z]++[bkL w]).map Qh)],.inl ?_,_,_,_,_,rfl,rfl,i.back m hw (by have:=H.ln;simp;omega),?_,by omega⟩
    ·simp[Qh,g,p,d,o]
    ·rw[Wx,if_pos (by show((_:Str)==_)=true;decide)];push_cast;omega
   ·refine⟨kS ls left (some (Qh (prL x w y z))),[Qm (tf f 2),.lst ((F++[prL x w y z]).map Qh)],.inl ?_,_,_,_,_,rfl,rfl,i,by omega,c⟩;simp[Qh,g,d,o]
  ·refine⟨kS ls left (some (Qh (prL x w y z))),[Qm f,.lst ((F++[prL x w y z]).map Qh)],.inl ?_,_,_,_,_,rfl,rfl,i,by omega,c⟩;simp[Qh,g,d]
 ·refine⟨kS ls left (some (Qh (x::r))),[Qm f,.lst ((F++[x::r]).map Qh)],.inl ?_,_,_,_,_,rfl,rfl,i,by omega,c⟩;simp[Qh,g,q]
theorem Qdt(f:Fd){ls:List Ln}(z:Bal (ls.map cdL))(C:ls.length<=50)(v:∀l∈ls,LineOk bs ws la l)(i:∀l∈ls,XD l=false) :
  ∃(F:List Ln) (d:Fd),BI bs ws la ls F ls.length/\bcn F<=10/\∀(h:MH) (n:Nat),h[n]?=some (Qm f)->ZK [.tup (ls.map Qh),.ref n,.int 10] h=some (.tup (F.map Qh),h.set n (Qm d)):=by
 have a:=ZS (items:=ls.map Qh) (b:=ZJ 4) (body:=Zv) (fun n p h=>∃f F left q,p=kS ls left q/\h=[Qm f,.lst (F.map Qh)]/\BI bs ws la ls F n/\(bcn F:Int)+left=10/\0<=left) (ls.map Qh) 0 (kS ls 10 none) [Qm f,.lst []]
  ⟨f,[],10,none,rfl,rfl,⟨by simp,rfl,rfl,rfl,fun D A=>G1 (by have:=A [] ls [] rfl rfl;simpa using this),by simp⟩,rfl,by decide⟩ (fun j w s p h H=>by
   rw[Nz]at s;obtain⟨l,m,rfl⟩:=Nf.mp s;rw[NX]at H ⊢;have r:=NN m
   exact Qan z (by have:=(Nh.mp m).1;omega) m (v l r) (i l r) H)
 obtain⟨t,G,e,d,F,left,q,rfl,rfl,H,E,y⟩:=a;rw[NC,NX]at H;refine⟨F,d,H,by omega,fun h n x=>?_⟩;refine U8 (w:=.tup (F.map Qh)) (as:=[.tup (ls.map Qh),.ref 0,.int 10]) (ns:=[n]) (os:=[Qm f]) (os':=[Qm d]) (g:=[.lst (F.map Qh)]) (by simp[Ks]) (by simp) (by simp[ZL,QcG,x,Qm]) ?_ rfl ?_ (Ga _ _ (by simp))
 ·have ei:Qr (Qb 0) (kS ls 10 none) [Qm f,.lst []]=some (ls.map Qh,none,[Qm f,.lst []]):=rfl;simp[JR,QJ,VZ,ei,e]
 ·intro o c;simp at c;subst c;exact⟨_,rfl,by simp⟩
end My
namespace My5
open My3 My4
section
variable{α:Type}(E:α->List Cd)(b:α->Cd)
def Ex(x:α):Prop:=E x=[b x]\/(b x=.ot/\Bal (E x))
noncomputable def F(xs:List α):List Cd:=xs.flatMap E
noncomputable def off(xs:List α)(k:Nat):Nat:=(F E (xs.take k)).length
variable{E b}
theorem QhJ:F E (x::xs)=E x++F E xs:=by simp[F]
theorem split_at(a:xs[m]?=some x):xs=xs.take m++x::xs.drop (m+1):=by
 obtain⟨c,rfl⟩:=Nh.mp a;rw[<-Ei c,Em]
end
section
variable{α:Type}{E:α->List Cd}{b:α->Cd}
theorem Qbm(h:kst c p=some q):kst c (p++s)=some (q++s):=by
 cases c<;>cases p<;>simp only[kst,FE,List.cons_append]at h ⊢<;>first|(cases h;rfl)|(split at h<;>first|(cases h;done)|(rename_i z;cases h;simp[z]))|simp_all
theorem Yw:∀{ls p q s:List Cd},Zl ls p=some q->Zl ls (p++s)=some (q++s)
 |[],p,q,s,h=>by simp only[Zl]at h ⊢;cases h;rfl
 |c::ls,p,q,s,h=>by
  simp only[Zl]at h ⊢;obtain⟨r,d,a⟩:=Nc.mp h;rw[Qbm d];exact Yw a
theorem QjV(h:∀x∈xs,Ex E b x):∀(s:List Cd),Zl (F E xs) s=Zl (xs.map b) s:=by
 induction xs with
 |nil=>intro s;rfl
 | cons x xs a=>
  intro s;have a:=a fun y c=>h y (Nq _ c);rw[QhJ,ZD,NA,show b x::xs.map b=[b x]++xs.map b from rfl,ZD]
  rcases h x Nt with e|⟨e,d⟩
  ·rw[e];cases Zl [b x] s with
   |none=>rfl
   |some r=>exact a r
  ·have g:Zl (E x) s=some s:=by
    have:=Yw (s:=s) (bal_iff.mp d);simpa using this
   have f:Zl [b x] s=some s:=by rw[e];rfl
   rw[g,f];exact a s
theorem Qki(h:∀x∈xs,Ex E b x)(a:Bal (xs.map b)):Bal (F E xs):=bal_iff.mpr (by rw[QjV h];exact bal_iff.mp a)
end
end My5
namespace My
open L2 Mi My3 My4 My5
@[simp]theorem QlJ:wIx (Qh (x::r)) (.int 0) h=some (.str x,h):=by unfold Qh;simp
@[simp]theorem QlC:wIx (Qh (x::y::r)) (.int 1) h=some (.str y,h):=by unfold Qh;simp
@[simp]theorem Qmn:wIx (Qw p) (.int i) h=@om _ _ (fun w=>(w,h)) (atI (p.map QP) i):=by unfold Qw;simp
@[simp]theorem QlS:wIx (QP x) (.int 1) h=some (.tup (x.2.map Qh),h):=by unfold QP;simp
@[simp]theorem Qlv:wIx (QP x) (.int 0) h=some (.str x.1,h):=by unfold QP;simp
theorem Kz{p:List Pt}{i:Nat}(h:p[i]?=some x):atI (p.map QP) (i:Int)=some (QP x):=by rw[Zu,Nz,h];rfl
theorem QaH{ns:List Str}:∀{j:Nat},ns.findIdx? (·==x)=some j->(ns.map W.str).findIdx? (fun y=>eqW y (.str x))=some j:=by
 intro j h;rw[List.findIdx?_map];rw[<-h];congr 1
theorem Qbz{j:Nat}(f:(p.map (·.1)).findIdx? (·==nm)=some j)(e:p.length<=100):QU [Qw p,.str nm] h=some (.int j,h):=by
 refine QC (g:=[]) (by simp) ?_ rfl
 have b:=ZC (fin:=Z2) (mi:=Qr (Qb 0)) (cp:=[none]) (me:=Qf wIx (Qb 0) (mC (.int 0))) (σ:=[some (Qw p),some (.str nm)]) (caps:=[]) (h:=[]) (items:=p.map QP) (fun w=>match w with|.tup (a::_)=>a|w=>w) rfl ⟨_,rfl⟩ (fun w hw=>by
  obtain⟨x,_,rfl⟩:=NF.mp hw
  simp[QP]) (by simp;exact JU (NB (No e (by decide))))
 have d:(p.map QP).map (fun w=>match w with|.tup (a::_)=>a|w=>w)=(p.map (·.1)).map W.str:=by simp[QP,F0]
 rw[d]at b;simp only[Z2]at b
 have ei:Xw (.lst ((p.map (·.1)).map W.str)) [.str nm] []=some (.int j,[]):=by
  unfold Xw;simp only[lsW,Np];rw[V6 [] (.str nm) 40 rfl (by simp[dep]),J5 [] _ 40 JZ (Nl Xx (by decide)),Np,Np,QaH f];rfl
 rw[DJ]at b ei;simp[Jm,QJ,b,ei]
theorem X8(h:LineOk bs ws la (x::r))(hd:x="do"):∃nm,r=[nm]/\nm∈la:=by
 subst hd;generalize a:(("do":Str)::r)=l at h;cases h with
 |plain h=>cases h<;>simp at a
 |«do» h=>simp at a;exact⟨_,a,h⟩
 |blk h=>rcases h with rfl|rfl|rfl|rfl<;>simp at a
 |back h=>simp at a
theorem QcD{ns:List Str}(h:nm∈ns):∃j,ns.findIdx? (·==nm)=some j/\j<ns.length:=by
 cases e:ns.findIdx? (·==nm)with
 |none=>
  rw[DY]at e;have:=e nm h;simp at this
 |some j=>
  refine⟨j,rfl,?_⟩;rw[NW]at e;exact e.1
theorem Kl{ns:List Str}(n:ns.Nodup)(h:nm∈ns.drop (m+1))(f:ns.findIdx? (·==nm)=some j):m+1<=j:=by
 obtain⟨i,g⟩:=NE.mp h;rw[FS]at g;obtain⟨d,e⟩:=Nh.mp g;rw[NW]at f;obtain⟨c,b,_⟩:=f;simp at b;have l:=Ig.mp n
 by_cases a:j<m+1+i
 ·exact absurd (b.trans e.symm) (l j (m+1+i) c d a)
 ·exact Nl (Nv _ _) (NQ.mp a)
noncomputable def Wt:Nat->Nat
 |0=>65330
 |i+1=>(4-i)*702
theorem QaW{i q:Nat}(h:i+1<=q):Wt q<=Wt (i+1):=by
 obtain⟨r,rfl⟩:∃r,q=r+1:=⟨q-1,by lia⟩
 show(4-r)*702<=(4-i)*702;exact FF _ (by omega)
theorem QiA{i:Nat}(h:i<=4):700+QeZ i*(Wt (i+1)+2)<=Wt i:=by
 match i,h with
 |0,_=>decide
 |1,_=>decide
 |2,_=>decide
 |3,_=>decide
 |4,_=>decide
theorem Qib{i:Nat}:Wt i<=65330:=by
 match i with
 |0=>exact Nx _
 |i+1=>
  show(4-i)*702<=_;have:(4-i)*702<=4*702:=FF _ (Da _ _);lia
noncomputable def cst(i:Nat)(l:Ln):Nat:=if VN l=true then Wt (i+1)+2 else 1
noncomputable def rem(x:Pt)(i k:Nat):Nat:=((x.2.drop k).map (cst i)).sum
theorem Gs{x:Pt}{i k:Nat}{l:Ln}(h:x.2[k]?=some l):rem x i k=cst i l+rem x i (k+1):=by
 obtain⟨a,rfl⟩:=Nh.mp h;unfold rem;rw[Ei a,NA,DS]
theorem Qed{x:Pt}{i:Nat}:∀{j k:Nat},k<j->k<x.2.length->rem x i j<rem x i k
 |0,_,h,_=>by lia
 | j+1,k,h,a=>by
  have f:=Gs (i:=i) (Ni a);have g:1<=cst i x.2[k]:=by unfold cst;split<;>lia
  by_cases e:j=k
  ·subst e;lia
  ·by_cases b:j<x.2.length
   ·have d:=Qed (x:=x) (i:=i) (j:=j) (k:=k) (by lia) a;have c:=Gs (i:=i) (Ni b);exact No (Nl (Nat.le_add_left _ _) (Nr c.symm)) d
   ·have:rem x i (j+1)=0:=by unfold rem;rw[Eh (Nl (NQ.mp b) (Nv _ _))];rfl
    lia
theorem UK{i:Nat}:∀(ls:List Ln),(ls.map (cst i)).sum=ls.length+dcn ls*(Wt (i+1)+1)
 |[]=>by simp[dcn]
 |l::ls=>by
  have a:=UK (i:=i) ls;unfold dcn at a ⊢;rw[NA,DS,a,Fp,NR,cst]
  by_cases h:VN l=true
  ·rw[if_pos h,if_pos h,Nat.add_mul,Nat.one_mul];lia
  ·rw[if_neg h,if_neg h,show List.countP VN ls+0=List.countP VN ls from rfl];lia
theorem QaS{x:Pt}{i k:Nat}(e:x.2.length<=700)(hd:dcn x.2<=QeZ i)(d:i<=4):rem x i k<=Wt i:=by
 have c:rem x i 0<=Wt i:=by
  unfold rem;rw[D8,UK];have:=QiA d;have:dcn x.2*(Wt (i+1)+1)<=QeZ i*(Wt (i+1)+2):=OF hd (NB (Ej (by decide) _));lia
 by_cases a:0<k
 ·by_cases b:0<x.2.length
  ·have:=Qed (x:=x) (i:=i) a b;exact NB (Nn this c)
  ·unfold rem;rw[Eh (NB (No (NQ.mp b) a))];simp
 ·rw[show k=0 by exact DW (NQ.mp a) (NY _)];exact c
noncomputable def QgS(p:List Pt)(i k:Nat):Nat:=match p[i]? with
 |some x=>rem x i k
 |none=>0
theorem Qfg{p:List Pt}{i k:Nat}{x:Pt}(h:p[i]?=some x):QgS p i k=rem x i k:=by unfold QgS;rw[h]
def RL(p:List Pt):Prop:=∀i k,QgS p i k<=Wt i
theorem QhS{p:List Pt}{bs ws:List Str}(b:GoodP 700 bs ws p):RL p:=by
 intro i k;unfold QgS;split
 ·rename_i x a;have d:=(Nh.mp a).1;have c:=b.len;exact QaS (b.sz x (NE.mpr ⟨i,a⟩)) (b.dos i x a) (by lia)
 ·exact NY _
noncomputable def KZ(p:List Pt)(l:Ln):Option Nat:=if VN l=true then(p.map (·.1)).findIdx? (·==l.getD 1 "")else none
noncomputable def fl(p:List Pt):Nat->Nat->List Ln
 |0,_=>[]
 | d+1,i=>match p[i]? with
  |some x=>x.2.flatMap fun l=>match KZ p l with
   |some j=>fl p d j
   |none=>[l]
  |none=>[]
noncomputable def X(p:List Pt)(i:Nat):List Ln:=fl p 5 i
noncomputable def ex(p:List Pt)(l:Ln):List Ln:=match KZ p l with
 |some j=>X p j
 |none=>[l]
section
variable{N:Nat}{bs ws:List Str}{p:List Pt}
theorem W9(c:GoodP N bs ws p)(e:p[i]?=some x)(f:l∈x.2)(hd:KZ p l=some j):i+1<=j/\j<p.length/\VN l=true/\cdL l=.ot:=by
 unfold KZ at hd;split at hd
 ·rename_i a;obtain⟨y,r,rfl⟩:=JW (c.ok i x e l f);have d:y="do":=by simpa[VN]using a
  obtain⟨h,rfl,b⟩:=X8 (c.ok i x e _ f) d;have g:=Kl c.nd b hd;rw[NW]at hd;have:=hd.1;simp at this;exact⟨g,this,a,by show cd y=.ot;rw[d];decide⟩
 ·cases hd
theorem Qdl(e:GoodP N bs ws p){i:Nat}(c:p[i]?=some x)(d:l∈x.2)(hd:KZ p l=none):VN l=false:=by
 unfold KZ at hd;split at hd
 ·rename_i b;obtain⟨y,r,rfl⟩:=JW (e.ok i x c l d);have g:y="do":=by simpa[VN]using b
  obtain⟨f,rfl,a⟩:=X8 (e.ok i x c _ d) g;obtain⟨j,m,_⟩:=QcD (DP a);have:(p.map (·.1)).findIdx? (·==f)=none:=hd;rw[m]at this;cases this
 ·rename_i h;simpa using h
theorem Kj:∀{xs:List b},(∀x∈xs,f x=g x)->xs.flatMap f=xs.flatMap g
 |[],_=>rfl
 |x::xs,h=>by rw[ED,ED,h x Nt,Kj fun y a=>h y (Nq _ a)]
theorem Qkt(b:GoodP N bs ws p):∀(n i d d':Nat),5-i<=n->n<=d->n<=d'->fl p d i=fl p d' i:=by
 have a:=b.len;intro n
 induction n with
 |zero=>
  intro i d d' h _ _;have e:p[i]?=none:=N6 (by lia);have z:∀d,fl p d i=[]:=fun d=>by cases d<;>simp[fl,e]
  rw[z,z]
 | succ n c=>
  intro i d d' h o m;obtain⟨d,rfl⟩:∃k,d=k+1:=⟨d-1,by lia⟩
  obtain⟨d',rfl⟩:∃k,d'=k+1:=⟨d'-1,by lia⟩
  unfold fl;cases f:p[i]? with
  |none=>rfl
  | some x=>
   refine Kj fun l g=>?_;cases hd:KZ p l with
   |none=>rfl
   |some j=>
    have:=W9 b f g hd;exact c j d d' (by omega) (by lia) (by lia)
theorem QcJ(b:GoodP N bs ws p)(a:p[i]?=some x):X p i=x.2.flatMap (ex p):=by
 show fl p 5 i=_;rw[fl,a];refine Kj fun l c=>?_;unfold ex;cases hd:KZ p l with
 |none=>rfl
 |some j=>
  have:=W9 b a c hd;exact Qkt b 4 j 4 5 (by omega) (by decide) (by decide)
noncomputable abbrev EC(p:List Pt)(l:Ln):List Cd:=(ex p l).map cdL
theorem QmX(b:GoodP N bs ws p)(a:p[i]?=some x):(X p i).map cdL=F (EC p) x.2:=by
 rw[QcJ b a,List.map_flatMap];rfl
structure XOk(bs ws:List Str)(p:List Pt)(i:Nat):Prop where
 bal:Bal ((X p i).map cdL)
 ok:∀l∈X p i,LineOk bs ws [] l/\VN l=false
 len:(X p i).length<=Wt i
theorem Qgw(h:LineOk bs ws la l)(hd:VN l=false):LineOk bs ws [] l:=by
 cases h with
 |plain h=>exact .plain h
 |«do» h=>simp[VN]at hd
 |blk h=>exact .blk h
 |back h=>exact .back h
theorem QjS(d:GoodP N bs ws p)(b:p[i]?=some x)(a:∀j,i+1<=j->j<p.length->XOk bs ws p j):∀l∈x.2,Ex (EC p) cdL l:=fun l c=>by
 unfold Ex EC ex;cases hd:KZ p l with
 |none=>exact .inl rfl
 |some j=>
  obtain⟨g,f,h,e⟩:=W9 d b c hd;exact .inr ⟨e,(a j g f).bal⟩
theorem GG{f:a->List Ln}{g:a->Nat}:∀{xs:List a},(∀x∈xs,(f x).length<=g x)->(xs.flatMap f).length<=(xs.map g).sum
 |[],_=>by simp
 |x::xs,h=>by
  have d:=h x Nt;have c:=GG (xs:=xs) fun y b=>h y (Nq _ b);simp only[ED,Ny,NA,DS];lia
theorem xok(b:GoodP N bs ws p)(hr:RL p):∀(n i:Nat),5-i<=n->i<p.length->XOk bs ws p i:=by
 have o:=b.len;intro n
 induction n with
 |zero=>intro i h q;omega
 | succ n r=>
  intro i h q;have a:p[i]?=some p[i]:=Ni q;generalize p[i]=x at a;have s:=NE.mpr ⟨i,a⟩;have c:∀j,i+1<=j->j<p.length->XOk bs ws p j:=fun j e d=>r j (by omega) d;refine⟨?_,fun l f=>?_,?_⟩
  ·rw[QmX b a];exact Qki (QjS b a c) (b.bal x s)
  ·rw[QcJ b a]at f;obtain⟨m,g,e⟩:=Iu.mp f;unfold ex at e;cases hd:KZ p m with
   |none=>
    rw[hd]at e;rw[NO.mp e];have:=Qdl b a g hd;exact⟨Qgw (b.ok i x a m g) this,this⟩
   |some j=>
    rw[hd]at e;obtain⟨g1,g2,_⟩:=W9 b a g hd;exact(c j g1 g2).ok l e
  ·have d:=hr i 0;rw[Qfg a]at d;unfold rem at d;rw[D8]at d;rw[QcJ b a];refine Nl (GG fun l f=>?_) d;unfold ex cst;cases hd:KZ p l with
   |none=>
    show 1<=(if VN l=true then Wt (i+1)+2 else 1)
    split<;>lia
   |some j=>
    obtain⟨g1,g2,g3,_⟩:=W9 b a f hd;rw[if_pos g3];have:=(c j g1 g2).len;have:=QaW g1;show(X p j).length<=_;lia
theorem Qa6(d:GoodP N bs ws p)(hr:RL p):GoodP 65330 bs ws [(nm,X p 0)]/\RL [(nm,X p 0)]:=by
 have c:=xok d hr 5 0 (by decide) (EN.mpr d.ne)
 have hd:dcn (X p 0)=0:=by
  unfold dcn;rw[DV];intro l b;rw[(c.ok l b).2];simp
 have b:(X p 0).length<=65330:=c.len;refine⟨⟨by simp,by simp,by simpa using c.bal,by simpa using b,fun i x a=>?_,by simp,fun i x a=>?_⟩,fun i k=>?_⟩
 ·cases i with
  |zero=>simp at a;subst a;intro l b;exact(c.ok l b).1
  |succ i=>simp at a
 ·cases i with
  |zero=>simp at a;subst a;show dcn (X p 0)<=_;exact Nl (Nr hd) (NY _)
  |succ i=>simp at a
 ·unfold QgS;cases i with
  | zero=>
   simp only[List.getElem?_cons_zero];show rem (nm,X p 0) 0 k<=65330;unfold rem;rw[UK]
   have e:dcn ((X p 0).drop k)=0:=by
    unfold dcn at hd ⊢;rw[DV]at hd ⊢;exact fun l b=>hd l (DP b)
   show((X p 0).drop k).length+dcn ((X p 0).drop k)*_<=_;rw[e,Ik];lia
  |succ i=>simp
end
theorem QmH(c:GoodP N bs ws p)(a:p[i]?=some x)(b:x.2[k]?=some l):X p i=(x.2.take k).flatMap (ex p)++(ex p l++(x.2.drop (k+1)).flatMap (ex p)):=by
 rw[QcJ c a]
 conv=>lhs;rw[My5.split_at b]
 rw[Du,ED]
theorem Qcb(d:GoodP N bs ws p)(hr:RL p):∀(n i:Nat) (h:MH),i<p.length->5-i<=n->Zc n [Qw p,.int i] h=some (.tup ((X p i).map Qh),h):=by
 have z:=d.len;intro n
 induction n with
 |zero=>intro i h G P;lia
 | succ n M=>
  intro i h G P;have e:p[i]?=some p[i]:=Ni G;generalize p[i]=x at e;have hw:(X p i).length<=65330:=Nl (xok d hr 5 i (Da _ _) G).len Qib;have S:=Kz e;refine QC (g:=[.lst ((X p i).map Qh)]) (by simp) ?_ (by simp)
  have s:=ZS (items:=x.2.map Qh) (b:=ZJ 3) (body:=Vq (Zc n)) (fun j H h=>∃o,H=[some (Qw p),some (.int i),some (.ref 0),o]/\h=[.lst (((x.2.take j).flatMap (ex p)).map Qh)]) (x.2.map Qh) 0 [some (Qw p),some (.int i),some (.ref 0),none] [.lst []] ⟨none,rfl,by simp⟩ (by
   rintro j w I H h ⟨o,rfl,rfl⟩
   rw[Nz]at I;obtain⟨l,E,rfl⟩:=Nf.mp I;have v:l∈x.2:=NE.mpr ⟨j,E⟩;have Q:=QmH d e E
   have a:((x.2.take j).flatMap (ex p)).length+(ex p l).length<=65330:=by
    have:=congrArg List.length Q;simp only[Ny]at this;lia
   have B:(x.2.take (j+1)).flatMap (ex p)=(x.2.take j).flatMap (ex p)++ex p l:=by
    rw[E5,E,Du];simp
   obtain⟨y,r,rfl⟩:=JW (d.ok i x e l v);refine⟨[some (Qw p),some (.int i),some (.ref 0),some (Qh (y::r))],rfl,[some (Qw p),some (.int i),some (.ref 0),some (Qh (y::r))],[.lst (((x.2.take (j+1)).flatMap (ex p)).map Qh)],.inl ?_,_,rfl,by rw[NX]⟩;rw[B,EJ,NX]
   by_cases hd:y="do"
   ·obtain⟨A,rfl,u⟩:=X8 (d.ok i x e _ v) hd;subst hd;obtain⟨q,D,C⟩:=QcD (DP u);have O:=Kl d.nd u D;have en:∀h,QU [Qw p,.str A] h=some (.int q,h):=fun h=>Qbz D (NB (No z (by decide)));have t:q<p.length:=by simpa using C
    have R:=fun h=>M q h t (by lia);have c:KZ p (["do",A]:Ln)=some q:=by show(if VN (["do",A]:Ln)=true then _ else none)=some q;rw[if_pos (by show(("do":Str)=="do")=true;decide)];exact D
    have hex:ex p (["do",A]:Ln)=X p q:=by unfold ex;rw[c]
    rw[hex]at a ⊢;have m:((x.2.take j).flatMap (ex p)).length+(X p q).length<=sizeLine:=JU (NB (No a (by decide)));simp only[<-NC (f:=Qh)]at m;simp only[NC]at m;simp[-LH,en,R,m]
   ·have c:KZ p (y::r)=none:=by unfold KZ;rw[if_neg (by show¬(y==("do":Str))=true;simpa using hd)]
    have hex:ex p (y::r)=[y::r]:=by unfold ex;rw[c]
    rw[hex]at a ⊢;simp only[NR,Dh]at a;have m:((x.2.take j).flatMap (ex p)).length<sizeLine:=VR (NB (No (Nl (Nv _ _) a) (by decide)))
    simp[-LH,hd,m])
  obtain⟨L,T,J,o,rfl,rfl⟩:=s;rw[NC,NX,Eu,<-QcJ d e]at J
  have ei:Qr (Qf wIx (Qf wIx (Qb 0) (Qb 1)) (mC (.int 1))) [some (Qw p),some (.int i),some (.ref 0),none] [.lst []]=some (x.2.map Qh,none,[.lst []]):=by
   have:(Qf wIx (Qf wIx (Qb 0) (Qb 1)) (mC (.int 1))) [some (Qw p),some (.int i),some (.ref 0),none] [.lst []]=some (.tup (x.2.map Qh),[.lst []]):=by simp[S]
   unfold Qr;rw[this];rfl
  simp[JP,QJ,VZ,ei,J]
theorem Qbg{x:Pt}(a:GoodP N bs ws p)(hr:RL p)(b:p[0]?=some x)(h:MH):XG [Qw p] h=some (Qw [(x.1,X p 0)],h):=by
 have c:0<p.length:=EN.mpr a.ne;have d:∀h,ZH [Qw p,.int 0] h=some (.tup ((X p 0).map Qh),h):=fun h=>Qcb a hr 6 0 h c (by decide);have e:atI (p.map QP) 0=some (QP x):=Kz b;refine QC (g:=[]) (by simp) ?_ (by simp);show _=some (W.tup [W.tup [.str x.1,.tup ((X p 0).map Qh)]],[]);simp[YH,QJ,e,d]
theorem Xf{a:Type}{motive:List a->Prop}(nil:motive [])(snoc:∀L l,motive L->motive (L++[l]))(t:List a):motive t:=by
 rw[<-List.reverse_reverse t]
 induction t.reverse with
 |nil=>exact nil
 |cons x r b=>rw[E4];exact snoc _ _ b
structure Sz where
 pl:Int
 bk:Int
 dp:Int
 wy:Int
noncomputable def Xg(z:Sz):W:=.tup [.int z.pl,.int z.bk,.int z.dp,.int z.wy]
noncomputable abbrev Sd:=List (Str×Sz)
noncomputable def look:Sd->Str->Option Sz
 |[],_=>none
 |(y,z)::d,x=>if y=x then some z else look d x
noncomputable def Zm(d:Sd)(l:Ln):Sz:=
 if VN l=true then(look d (l.getD 1 "")).getD ⟨1,0,0,0⟩else if XD l=true then⟨0,1,0,0⟩else⟨1,0,0,0⟩
structure Q5 where
 pl:Int
 bk:Int
 lv:Int
 dp:Int
 wy:Int
noncomputable def YZ(d:Sd)(q:Q5)(l:Ln):Q5:=
 ⟨q.pl+(Zm d l).pl,q.bk+(Zm d l).bk,q.lv+ch (cdL l),max q.dp (q.lv+ch (cdL l)+(Zm d l).dp),q.wy+(Zm d l).wy⟩
noncomputable def Zs(d:Sd)(q:Q5)(ls:List Ln):Q5:=ls.foldl (YZ d) q
noncomputable def qz:Q5:=⟨0,0,0,0,1⟩
noncomputable def szw(d:Sd)(ls:List Ln):Sz:=⟨(Zs d qz ls).pl,(Zs d qz ls).bk,(Zs d qz ls).dp,(Zs d qz ls).wy⟩
theorem Z3(d:Sd)(q:Q5)(L:List Ln)(l:Ln):Zs d q (L++[l])=YZ d (Zs d q L) l:=by simp[Zs]
theorem QdK(d:Sd)(q:Q5)(L M:List Ln):Zs d q (L++M)=Zs d (Zs d q L) M:=by simp[Zs]
theorem QfB{s t:List Cd}{c:Cd}(h:kst c s=some t):(t.length:Int)=s.length+ch c:=by
 cases c with
 |ei=>cases h;simp[ch]
 |ag=>cases h;simp[ch]
 |ot=>cases h;simp[ch]
 | oo=>
  cases s with
  |nil=>cases h
  |cons e r=>
   simp only[kst]at h;split at h
   ·cases h;simp[ch]
   ·cases h
 | en=>
  cases s with
  |nil=>cases h
  |cons e r=>
   simp only[kst]at h;split at h
   ·cases h
   ·cases h;simp[ch];omega
theorem Qhu(d:Sd){L:List Ln}{s:List Cd}(h:Zl (L.map cdL) []=some s):(Zs d qz L).lv=s.length:=by
 induction L using Xf generalizing s with
 |nil=>cases h;rfl
 | snoc L l b=>
  rw[QH,ZD]at h;obtain⟨t,f,a⟩:=Nc.mp h;rw[Z3];show(Zs d qz L).lv+ch (cdL l)=_;rw[b f]
  have c:kst (cdL l) t=some s:=by
   simp only[Zl]at a;cases e:kst (cdL l) t with
   |none=>rw[e]at a;cases a
   |some u=>rw[e]at a;cases a;rfl
  exact(QfB c).symm
theorem QjF{l:Ln}(h:VN l=true):XD l=false:=by
 cases l with
 |nil=>rfl
 |cons x r=>
  have:x="do":=by simpa[VN]using h
  subst this;show((_:Str)==_)=false;decide
theorem Gp{d:Sd}{E P B D W:Int}{ls:List Ln}{t:List Cd}(h:Zl (ls.map cdL) []=some t)(i:Dp E ls)(N:0<=P)(Q:0<=B)(O:0<=D)(M:0<=W)
  (p:∀l∈ls,VN l=true->(Zm d l).pl<=P/\(Zm d l).bk<=B/\(Zm d l).dp<=D/\(Zm d l).wy<=W) :
  (Zs d qz ls).pl<=nbk ls-dcn ls+dcn ls*P/\(Zs d qz ls).bk<=bcn ls+dcn ls*B/\(Zs d qz ls).dp<=E+(if dcn ls=0 then 0 else D)/\(Zs d qz ls).wy<=1+dcn ls*W/\0<=(Zs d qz ls).dp:=by
 induction ls using Xf generalizing t with
 |nil=>exact⟨by simp[Zs,qz,nbk,dcn],by simp[Zs,qz,bcn,dcn],by have:=i [] [] [] rfl rfl;simp[Zs,qz,dcn];simpa using this,by simp[Zs,qz,dcn],by simp[Zs,qz]⟩
 | snoc L l q=>
  have b:=h;rw[EJ]at b;obtain⟨z,f⟩:=Kc b;obtain⟨u,r,n,m,J⟩:=q f (fun A B s e=>i A (B++[l]) s (by rw[e,DD])) fun x v=>p x (NS _ v);have o:=Qhu d h;have w:=i (L++[l]) [] t (by simp) h;rw[Z3]at o ⊢;have g:(Zs d qz L).lv+ch (cdL l)=t.length:=o;rw[X9,Wx,XC];simp only[YZ,g]
  by_cases a:VN l=true
  ·obtain⟨I,H,G,C⟩:=p l (by simp) a;have y:=QjF a;simp only[a,y,if_true,EU,if_false];push_cast;rw[Oe,Oe,Oe];have:(Zs d qz L).dp<=E+D:=LX n (by split<;>omega);refine⟨by omega,by omega,by omega,by omega,by omega⟩
  ·have j:VN l=false:=by simpa using a
   simp only[j,EU,if_false]
   by_cases c:XD l=true
   ·have e:Zm d l=⟨0,1,0,0⟩:=by unfold Zm;rw[if_neg a,if_pos c]
    rw[e];simp only[c,if_true];push_cast;have:(Zs d qz L).dp<=E+(if dcn L=0 then 0 else D):=n;have hd:0<=(if dcn L=0 then 0 else D):=by split<;>omega
    refine⟨by simpa using u,by simp;omega,by simp;omega,by simpa using m,by omega⟩
   ·have e:Zm d l=⟨1,0,0,0⟩:=by unfold Zm;rw[if_neg a,if_neg c]
    rw[e];simp only[c,EU,if_false];push_cast;have hd:0<=(if dcn L=0 then 0 else D):=by split<;>omega
    refine⟨by simp;omega,by simpa using r,by simp;omega,by simpa using m,by omega⟩
theorem Qks{q:Q5}(g:q.lv<=q.dp)(L:List Ln):Zs [] q L=⟨q.pl+(Zs [] qz L).pl,q.bk+(Zs [] qz L).bk,q.lv+(Zs [] qz L).lv,max q.dp (q.lv+(Zs [] qz L).dp),q.wy+((Zs [] qz L).wy-1)⟩:=by
 induction L using Xf with
 |nil=>
  obtain⟨a,b,c,d,e⟩:=q;simp only at g;simp only[Zs,qz,OG,Int.add_zero,Int.sub_self];congr 1;omega
 |snoc L l f=>
  rw[Z3,Z3,f];simp only[YZ];congr 1<;>omega
theorem QdJ{l:Ln}:0<=(Zm [] l).dp:=by
 unfold Zm look;split
 ·simp
 ·split<;>simp
theorem QjE(L:List Ln):(Zs [] qz L).lv<=(Zs [] qz L).dp/\0<=(Zs [] qz L).dp:=by
 induction L using Xf with
 |nil=>exact⟨IQ _,IQ _⟩
 |snoc L l a=>
  rw[Z3];simp only[YZ];have:=QdJ (l:=l);omega
noncomputable def sd:List Pt->Sd
 |[]=>[]
 |x::r=>sd r++[(x.1,szw (sd r) x.2)]
theorem YM{x:Str}:∀{a b:Sd},look (a++b) x=(look a x).orElse fun _=>look b x
 |[],b=>rfl
 |(y,z)::a,b=>by
  show(if y=x then some z else look (a++b) x)=_
  by_cases h:y=x
  ·rw[if_pos h];simp[look,h]
  ·rw[if_neg h,YM];simp[look,h]
theorem Y8:∀(r:List Pt),(sd r).map (·.1)=(r.map (·.1)).reverse
 |[]=>rfl
 |x::r=>by simp[sd,Y8 r]
theorem WS{x:Str}:∀{a:Sd},x∉a.map (·.1)->look a x=none
 |[],_=>rfl
 |(y,z)::a,h=>by
  have b:y≠x:=fun e=>h (by simp[e]);rw[look,if_neg b];exact WS fun z=>h (by simp at z ⊢;exact .inr z)
theorem YX:∀{p:List Pt} {j:Nat} {y:Pt},(p.map (·.1)).Nodup->p[j]?=some y->look (sd p) y.1=some (szw (sd (p.drop (j+1))) y.2)
 |x::r,0,y,b,h=>by
  simp at h;subst h;have e:x.1∉(sd r).map (·.1):=by rw[Y8];simp at b ⊢;exact fun a f=>b.1 a f
  rw[sd,YM,WS e];simp[look]
 |x::r,j+1,y,b,h=>by
  have c:(r.map (·.1)).Nodup:=(Ef.mp b).2;have d:=YX (p:=r) c (by simpa using h);rw[sd,YM,d];simp
def Qlz(a b:Q5):Prop:=a.pl=b.pl/\a.bk=b.bk/\a.lv=b.lv/\a.dp=b.dp/\a.wy=1
theorem Qch{N:Nat}{bs ws:List Str}{p:List Pt}(b:GoodP N bs ws p)(hr:RL p):∀(n i:Nat) (x:Pt),5-i<=n->p[i]?=some x->Qlz (Zs [] qz (X p i)) (Zs (sd (p.drop (i+1))) qz x.2):=by
 have s:=b.len;intro n
 induction n with
 |zero=>intro i x h c;have:=(Nh.mp c).1;omega
 | succ n C=>
  intro i x h c;rw[QcJ b c]
  have key:∀L:List Ln,(∀l∈L,l∈x.2)->Qlz (Zs [] qz (L.flatMap (ex p))) (Zs (sd (p.drop (i+1))) qz L):=by
   intro L
   induction L using Xf with
   |nil=>intro _;exact⟨rfl,rfl,rfl,rfl,rfl⟩
   | snoc L l g=>
    intro u;obtain⟨B,A,f,z,w⟩:=g fun y a=>u y (NS _ a);have t:=u l (by simp);rw[Du,QdK,Z3];simp only[ED,List.flatMap_nil,EI];cases hd:KZ p l with
    |none=>
     have e:=Qdl b c t hd;have r:ex p l=[l]:=by unfold ex;rw[hd]
     have H:Zm (sd (p.drop (i+1))) l=Zm [] l:=by unfold Zm;simp[e]
     have G:(Zm [] l).wy=0:=by unfold Zm;simp[e];split<;>rfl
     rw[r];simp only[Zs,ID,OG]at *;simp only[YZ,H];refine⟨by rw[B],by rw[A],by rw[f],by rw[z,f],by rw[w,G];rfl⟩
    | some j=>
     obtain⟨g1,g2,g3,E⟩:=W9 b c t hd;have a:p[j]?=some p[j]:=Ni g2;generalize p[j]=y at a;obtain⟨O,M,Q,J,I⟩:=C j y (by omega) a;have r:ex p l=X p j:=by unfold ex;rw[hd]
     have o:(Zs [] qz (X p j)).lv=0:=by
      have:=Qhu [] (bal_iff.mp (xok b hr 5 j (Da _ _) g2).bal);simpa using this
     have m:l.getD 1 ""=y.1:=by
      unfold KZ at hd;rw[if_pos g3,NW]at hd;obtain⟨P,v,_⟩:=hd;have D:p[j]'g2=y:=by rw[Ni g2]at a;exact N1 a
      simp[D]at v;exact v.symm
     have q:Zm (sd (p.drop (i+1))) l=szw (sd (p.drop (j+1))) y.2:=by
      have d:=YX (p:=p.drop (i+1)) (j:=j-(i+1)) (y:=y) (by rw[Fk];exact(b.nd).sublist (F7 _ _)) (by rw[FS];rw[show i+1+(j-(i+1))=j by omega];exact a);rw[OH,show i+1+(j-(i+1)+1)=j+1 by omega]at d;unfold Zm;rw[if_pos g3,m,d];rfl
     rw[r,Qks (QjE _).1];simp only[YZ,q,szw,E];refine⟨by rw[B,O],by rw[A,M],by rw[f,o];simp[ch],by rw[f,z,J];simp[ch],by rw[w,I];rfl⟩
  exact key x.2 fun _ h=>h
def Tw(a d:Nat)(l:Int)(c d':Nat)(b:Int)(p:List Pt):Prop:=(∀x,p[0]?=some x->nbk x.2<=a/\dcn x.2<=d/\Dp l x.2)/\∀i x,p[i+1]?=some x->nbk x.2<=c/\dcn x.2<=d'/\Dp b x.2
structure TQ(bs ws:List Str)(p:List Pt):Prop where
 tw:Tw 12 2 2 5 1 1 p\/(Tw 23 23 0 1 0 0 p/\∀x,p[0]?=some x->dcn x.2=nbk x.2)\/Tw 48 0 6 0 0 0 p
 bk:∀x∈p,bcn x.2<=10
 nbs:∀x∈bs,Nm x
 nws:∀x∈ws,Nm x
 nps:∀x∈p,Nm x.1
theorem QdQ{N:Nat}{bs ws:List Str}{p:List Pt}{x:Pt}{l:Ln}{i:Nat}(e:GoodP N bs ws p)(f:p[i]?=some x)(g:l∈x.2)(c:VN l=true) :
  ∃j y,i+1<=j/\p[j]?=some y/\Zm (sd (p.drop (i+1))) l=szw (sd (p.drop (j+1))) y.2:=by
 cases hd:KZ p l with
 |none=>have:=Qdl e f g hd;rw[this]at c;cases c
 | some j=>
  obtain⟨g1,g2,g3,o⟩:=W9 e f g hd;have a:p[j]?=some p[j]:=Ni g2;refine⟨j,p[j],g1,a,?_⟩;generalize p[j]=y at a
  have d:l.getD 1 ""=y.1:=by
   unfold KZ at hd;rw[if_pos g3,NW]at hd;obtain⟨n,h,_⟩:=hd;have m:p[j]'g2=y:=by rw[Ni g2]at a;exact N1 a
   simp[m]at h;exact h.symm
  have b:=YX (p:=p.drop (i+1)) (j:=j-(i+1)) (y:=y) (by rw[Fk];exact(e.nd).sublist (F7 _ _)) (by rw[FS];rw[show i+1+(j-(i+1))=j by omega];exact a);rw[OH,show i+1+(j-(i+1)+1)=j+1 by omega]at b;unfold Zm;rw[if_pos g3,d,b];rfl
theorem Wl{ls:List Ln}(h:Bal (ls.map cdL)):Zl (ls.map cdL) []=some []:=bal_iff.mp h
section
variable{N:Nat}{bs ws:List Str}{p:List Pt}
def Lo(z:Sz)(P B D W:Int):Prop:=z.pl<=P/\z.bk<=B/\z.dp<=D/\z.wy<=W
theorem UI{x:Pt}{i:Nat}{E P B D W:Int}(g:GoodP N bs ws p)(f:p[i]?=some x)(r:Dp E x.2)(q:0<=P)(t:0<=B)(s:0<=D)(o:0<=W)
  (n:∀j y,i+1<=j->p[j]?=some y->Lo (szw (sd (p.drop (j+1))) y.2) P B D W) :
  Lo (szw (sd (p.drop (i+1))) x.2) (nbk x.2-dcn x.2+dcn x.2*P) (bcn x.2+dcn x.2*B) (E+(if dcn x.2=0 then 0 else D)) (1+dcn x.2*W):=by
 have h:=NE.mpr ⟨i,f⟩
 obtain⟨a,b,c,d,_⟩:=Gp (d:=sd (p.drop (i+1))) (Wl (g.bal x h)) r q t s o fun l m e=>by
  obtain⟨j,y,g1,g2,g3⟩:=QdQ g f m e;rw[g3];exact n j y g1 g2
 exact⟨a,b,c,d⟩
theorem Qmg(l:GoodP N bs ws p)(q:Tw 12 2 2 5 1 1 p)(s:∀x∈p,bcn x.2<=10):∀(n i:Nat) (x:Pt),5-i<=n->1<=i->p[i]?=some x->Lo (szw (sd (p.drop (i+1))) x.2) (4*(p.length-i:Nat)+1) (10*(p.length-i:Nat)) (p.length-i:Nat) (p.length-i:Nat):=by
 have g:=l.len;intro n
 induction n with
 |zero=>intro i x h _ e;have:=(Nh.mp e).1;omega
 | succ n o=>
  intro i x h w e;have v:=(Nh.mp e).1;obtain⟨k,rfl⟩:∃k,i=k+1:=⟨i-1,by omega⟩
  obtain⟨u,t,m⟩:=q.2 k x e;have r:=s x (NE.mpr ⟨_,e⟩)
  obtain⟨a,b,c,d⟩:=UI (E:=1) (P:=4*(p.length-(k+2):Nat)+1) (B:=10*(p.length-(k+2):Nat)) (D:=(p.length-(k+2):Nat)) (W:=(p.length-(k+2):Nat)) l e m (by omega) (by omega) (by omega) (by omega) fun j y g1 g2=>by
   obtain⟨a,b,c,d⟩:=o j y (by omega) (by omega) g2;exact⟨by omega,by omega,by omega,by omega⟩
  have f:dcn x.2=0\/dcn x.2=1:=by omega
  rcases f with z|z
  ·rw[z]at a b c d;simp at a b c d;exact⟨by omega,by omega,by omega,by omega⟩
  ·rw[z]at a b c d;simp at a b c d;exact⟨by omega,by omega,by omega,by omega⟩
theorem QdR{x:Pt}(h:GoodP N bs ws p)(m:TQ bs ws p)(e:p[0]?=some x):Lo (szw (sd (p.drop 1)) x.2) 48 500 6 24:=by
 have s:=h.len;have w:=m.bk x (NE.mpr ⟨_,e⟩);show Lo (szw (sd (p.drop (0+1))) x.2) 48 500 6 24
 rcases m.tw with f|⟨f,t⟩|f
 ·obtain⟨r,q,i⟩:=f.1 x e
  obtain⟨a,b,c,d⟩:=UI (E:=2) (P:=17) (B:=40) (D:=4) (W:=4) h e i (by decide) (by decide) (by decide) (by decide) fun j y g1 g2=>by
   obtain⟨a,b,c,d⟩:=Qmg h f m.bk 5 j y (Da _ _) g1 g2;exact⟨by omega,by omega,by omega,by omega⟩
  have o:dcn x.2=0\/dcn x.2=1\/dcn x.2=2:=by omega
  generalize szw (sd (p.drop (0+1))) x.2=S at a b c d ⊢
  rcases o with z|z|z<;>(rw[z]at a b c d;simp at a b c d;exact⟨by omega,by omega,by omega,by omega⟩)
 ·obtain⟨r,q,i⟩:=f.1 x e;have t:=t x e
  obtain⟨a,b,c,d⟩:=UI (E:=0) (P:=1) (B:=10) (D:=0) (W:=1) h e i (by decide) (by decide) (by decide) (by decide) fun j y g1 g2=>by
   obtain⟨k,rfl⟩:∃k,j=k+1:=⟨j-1,by omega⟩
   obtain⟨C,A,v⟩:=f.2 k y g2;have u:=m.bk y (NE.mpr ⟨_,g2⟩);have z:dcn y.2=0:=by omega
   obtain⟨a,b,c,d,_⟩:=Gp (d:=sd (p.drop (k+1+1))) (P:=0) (B:=0) (D:=0) (W:=0) (Wl (h.bal y (NE.mpr ⟨_,g2⟩))) v (by decide) (by decide) (by decide) (by decide) fun l n g=>by
    exfalso;have:0<dcn y.2:=LI.mpr ⟨l,n,g⟩;omega
   rw[z]at a b c d;simp at a b c d;exact⟨by show(Zs _ _ _).pl<=_;omega,by show(Zs _ _ _).bk<=_;omega,by show(Zs _ _ _).dp<=_;omega,by show(Zs _ _ _).wy<=_;omega⟩
  have hd:(if dcn x.2=0 then(0:Int)else 0)=0:=by split<;>rfl
  rw[hd]at c;generalize szw (sd (p.drop (0+1))) x.2=S at a b c d ⊢;exact⟨by omega,by omega,by omega,by omega⟩
 ·obtain⟨r,q,i⟩:=f.1 x e;have z:dcn x.2=0:=by omega
  obtain⟨a,b,c,d,_⟩:=Gp (d:=sd (p.drop (0+1))) (P:=0) (B:=0) (D:=0) (W:=0) (Wl (h.bal x (NE.mpr ⟨_,e⟩))) i (by decide) (by decide) (by decide) (by decide) fun l n g=>by
   exfalso;have:0<dcn x.2:=LI.mpr ⟨l,n,g⟩;omega
  rw[z]at a b c d;show(Zs (sd (p.drop (0+1))) qz x.2).pl<=48/\(Zs (sd (p.drop (0+1))) qz x.2).bk<=500/\(Zs (sd (p.drop (0+1))) qz x.2).dp<=6/\(Zs (sd (p.drop (0+1))) qz x.2).wy<=24;generalize Zs (sd (p.drop (0+1))) qz x.2=S at a b c d ⊢;simp at a b c d;exact⟨by omega,by omega,by omega,by omega⟩
theorem QgU{x:Pt}(n:GoodP N bs ws p)(m:TQ bs ws p)(g:x∈p):(szw [] x.2).pl<=48/\(szw [] x.2).bk<=500/\(szw [] x.2).dp<=6:=by
 have o:=m.bk x g
 have key:∀E:Int,E<=6->nbk x.2<=48->Dp E x.2->(szw [] x.2).pl<=48/\(szw [] x.2).bk<=500/\(szw [] x.2).dp<=6:=fun E s q hd=>by
  obtain⟨a,b,c,d,_⟩:=Gp (d:=[]) (P:=1) (B:=0) (D:=0) (W:=0) (Wl (n.bal x g)) hd (by decide) (by decide) (by decide) (by decide) fun l r h=>by
   unfold Zm look;rw[if_pos h];simp
  have j:(if dcn x.2=0 then(0:Int)else 0)=0:=by split<;>rfl
  rw[j]at c;exact⟨by show(Zs _ _ _).pl<=_;omega,by show(Zs _ _ _).bk<=_;omega,by show(Zs _ _ _).dp<=_;omega⟩
 obtain⟨i,f⟩:=NE.mp g
 rcases m.tw with e|⟨e,_⟩|e
 ·cases i with
  |zero=>obtain⟨a,b,c⟩:=e.1 x f;exact key 2 (by decide) (by omega) c
  |succ i=>obtain⟨a,b,c⟩:=e.2 i x f;exact key 1 (by decide) (by omega) c
 ·cases i with
  |zero=>obtain⟨a,b,c⟩:=e.1 x f;exact key 0 (by decide) (by omega) c
  |succ i=>obtain⟨a,b,c⟩:=e.2 i x f;exact key 0 (by decide) (by omega) c
 ·cases i with
  |zero=>obtain⟨a,b,c⟩:=e.1 x f;exact key 6 (by decide) (by omega) c
  |succ i=>obtain⟨a,b,c⟩:=e.2 i x f;exact key 0 (by decide) (by omega) c
theorem Qhc(h:TP bs ws p):TQ bs ws p:=by
 have e:∀{i:Nat} {x:Pt},p[i]?=some x->nbk x.2=x.2.length:=fun {i x} d=>QfU (h.nb x (NE.mpr ⟨i,d⟩));refine⟨?_,fun x d=>by rw[Qjv (h.nb x d)];decide,h.nbs,h.nws,h.nps⟩
 rcases h.tw with f|f|f
 ·exact .inl ⟨fun x d=>by rw[e d];exact f.1 x d,fun i x d=>by rw[e d];exact f.2 i x d⟩
 ·refine .inr (.inl ⟨⟨fun x d=>?_,fun i x d=>?_⟩,fun x d=>by rw[e d];exact(f.1 x d).2.1⟩)
  ·obtain⟨a,b,c⟩:=f.1 x d;rw[e d];exact⟨a,by omega,c⟩
  ·obtain⟨a,b,c⟩:=f.2 i x d;rw[e d];exact⟨a,by omega,c⟩
 ·refine .inr (.inr ⟨fun x d=>?_,fun i x d=>?_⟩)
  ·obtain⟨a,b,c⟩:=f.1 x d;rw[e d];exact⟨a,by omega,c⟩
  ·rw[f.2 i x d];exact⟨by simp[nbk],by simp[dcn],G1 (by decide)⟩
end
theorem Kx{x:Str}:(x="either"/\cd x=.ei)\/(x="again"/\cd x=.ag)\/(x="or"/\cd x=.oo)\/(x="end"/\cd x=.en)\/((x≠"either"/\x≠"again"/\x≠"or"/\x≠"end")/\cd x=.ot):=by
 unfold cd
 by_cases d:x="either"
 ·exact .inl ⟨d,if_pos d⟩
 rw[if_neg d]
 by_cases c:x="again"
 ·exact .inr (.inl ⟨c,if_pos c⟩)
 rw[if_neg c]
 by_cases b:x="or"
 ·exact .inr (.inr (.inl ⟨b,if_pos b⟩))
 rw[if_neg b]
 by_cases a:x="end"
 ·exact .inr (.inr (.inr (.inl ⟨a,if_pos a⟩)))
 rw[if_neg a];exact .inr (.inr (.inr (.inr ⟨⟨d,c,b,a⟩,rfl⟩)))
@[simp]theorem Qi3{r:List Str}:Jp [Qh (x::r)] h=some (.int (ch (cd x)),h):=by
 refine QC (g:=[]) (by simp) ?_ rfl;have b:Qh (x::r)=.tup (.str x::r.map .str):=rfl
 rcases Kx (x:=x)with⟨rfl,a⟩|⟨rfl,a⟩|⟨rfl,a⟩|⟨rfl,a⟩|⟨⟨e,d,f,c⟩,a⟩
 ·simp[Qz,QJ,b,a,ch]
 ·simp[Qz,QJ,b,a,ch]
 ·simp[Qz,QJ,b,a,ch]
 ·simp[Qz,QJ,b,a,ch]
 ·simp[Qz,QJ,b,e,d,c,a,ch]
noncomputable def kvs(d:Sd):List (Key×W):=d.map fun e=>(Sum.inr e.1,Xg e.2)
theorem YS{x:Str}:∀(d:Sd),Qay (kvs d) (.inr x)=(look d x).map Xg
 |[]=>rfl
 |(y,z)::d=>by
  unfold Qay kvs look;rw[NA,Ep]
  by_cases h:y=x
  ·subst h;simp
  ·have:¬(Sum.inr y:Key)=Sum.inr x:=fun q=>h (OR q);simp only[this,decide_false,h,if_false];exact YS d
theorem QeF{x:Str}{z:Sz}{d:Sd}(h:x∉d.map (·.1)):Qe0 (kvs d) (.inr x) (Xg z)=kvs (d++[(x,z)]):=by
 have:((kvs d).any fun b=>decide (b.1=Sum.inr x))=false:=by
  rw[FX];intro b a;unfold kvs at a;obtain⟨e,c,rfl⟩:=NF.mp a;simp;intro q;exact h (by rw[<-q];exact LG (f:=(·.1)) c)
 unfold Qe0;rw[this];simp[kvs]
def QiR(l:Ln):Prop:=∃x r,l=x::r/\(x="do"->∃y,r=[y])
theorem QhE{bs ws la:List Str}{l:Ln}(h:LineOk bs ws la l):QiR l:=by
 cases h with
 |plain h=>cases h<;>exact⟨_,_,rfl,fun z=>absurd z (by decide)⟩
 |«do» h=>exact⟨_,_,rfl,fun _=>⟨_,rfl⟩⟩
 |blk h=>rcases h with rfl|rfl|rfl|rfl<;>exact⟨_,_,rfl,fun z=>absurd z (by decide)⟩
 |back h=>exact⟨_,_,rfl,fun z=>absurd z (by decide)⟩
theorem QcP{l:Ln}{d:Sd}{h:MH}{n:Nat}(i:QiR l)(g:h[n]?=some (.dic (kvs d))):QI [Qh l,.ref n] h=some (Xg (Zm d l),h):=by
 obtain⟨x,r,rfl,hd⟩:=i
 by_cases a:x="do"
 ·obtain⟨y,rfl⟩:=hd a;subst a;have e:Zm d (["do",y]:Ln)=(look d y).getD ⟨1,0,0,0⟩:=rfl;rw[e];simp[QI,QJ,g,YS];cases look d y<;>rfl
 ·have b:VN (x::r)=false:=by show(x==("do":Str))=false;simpa using a
  unfold Zm;rw[b]
  by_cases f:x="back"
  ·subst f;have c:XD (("back":Str)::r)=true:=by show((_:Str)==_)=true;decide
   rw[c];simp[QI,QJ,Xg]
  ·have c:XD (x::r)=false:=by show(x==("back":Str))=false;simpa using f
   rw[c];simp[QI,QJ,a,f,Xg]
noncomputable abbrev zS(ls:List Ln)(n:Nat)(q:Q5)(b a:Option W):MSt:=[some (.tup (ls.map Qh)),some (.ref n),some (.int q.pl),some (.int q.bk),some (.int q.lv),some (.int q.dp),some (.int q.wy),b,a]
theorem Qi6{z:Sz}{h:MH}:wIx (Xg z) (.int 0) h=some (.int z.pl,h):=by unfold Xg;simp
theorem Qjc{z:Sz}{h:MH}:wIx (Xg z) (.int 1) h=some (.int z.bk,h):=by unfold Xg;simp
theorem QiT{z:Sz}{h:MH}:wIx (Xg z) (.int 2) h=some (.int z.dp,h):=by unfold Xg;simp
theorem QlL{z:Sz}{h:MH}:wIx (Xg z) (.int 3) h=some (.int z.wy,h):=by unfold Xg;simp
theorem GR{ls:List Ln}{d:Sd}{h:MH}{n:Nat}(v:∀l∈ls,QiR l)(u:h[n]?=some (.dic (kvs d))):Qv [.tup (ls.map Qh),.ref n] h=some (Xg (szw d ls),h):=by
 have c:=ZS (items:=ls.map Qh) (b:=ZJ 7) (body:=JQ) (fun j o a=>∃m i,o=zS ls n (Zs d qz (ls.take j)) m i/\a=h) (ls.map Qh) 0 (zS ls n qz none none) h ⟨none,none,rfl,rfl⟩ (by
  rintro j w p o a ⟨m,i,rfl,rfl⟩
  rw[Nz]at p;obtain⟨l,g,rfl⟩:=Nf.mp p;rw[NX]at *;have t:ls.take (j+1)=ls.take j++[l]:=by rw[E5,g];rfl
  have f:=v l (NN g);have y:=QcP f u;refine⟨_,rfl,zS ls n (Zs d qz (ls.take (j+1))) (some (Qh l)) (some (Xg (Zm d l))),a,.inl ?_,_,_,rfl,rfl⟩;rw[t,Z3];obtain⟨x,r,rfl,_⟩:=f;simp[y,Qi6,Qjc,QiT,QlL,YZ,cdL]
  split<;>omega)
 obtain⟨s,a,e,m,i,rfl,rfl⟩:=c;rw[NC,NX,Eu]at e;have ei:Qr (Qb 0) (zS ls n qz none none) a=some (ls.map Qh,none,a):=rfl
 have q:VZ (Qr (Qb 0)) (ZJ 7) JQ (zS ls n qz none none) a=some (.nx (zS ls n (Zs d qz ls) m i) a):=by
  unfold VZ;rw[ei,Np];exact e
 simp[qz]at q;simp[Qv,QJ,q,Xg,szw,qz]
theorem QeX{ls:List Ln}{h:MH}(a:∀l∈ls,QiR l):Jq [.tup (ls.map Qh)] h=some (Xg (szw [] ls),h):=by
 refine QC (g:=[.dic []]) (by simp) ?_ (by simp[Xg]);have e:Qv [.tup (ls.map Qh),.ref 0] [.dic []]=some (Xg (szw [] ls),[.dic []]):=GR (d:=[]) a rfl;simp[Vm,QJ,e]
theorem QcU{p:List Pt}{j:Nat}{w:W}(h:((p.map QP).reverse)[j]?=some w):∃x,p[p.length-1-j]?=some x/\w=QP x/\j<p.length/\p.drop (p.length-(j+1))=x::p.drop (p.length-j):=by
 have a:=(Nh.mp h).1;simp at a;rw[Fv (by simpa using a),NC,Nz]at h;obtain⟨x,b,rfl⟩:=Nf.mp h;refine⟨x,b,rfl,a,?_⟩;obtain⟨c,e⟩:=Nh.mp b;rw[show p.length-(j+1)=p.length-1-j by omega,Ei c,e,show p.length-1-j+1=p.length-j by omega]
theorem Qc0{N:Nat}{bs ws:List Str}{p:List Pt}{x:Pt}{h:MH}(n:GoodP N bs ws p)(u:p[0]?=some x):Jy [Qw p] h=some (Xg (szw (sd (p.drop 1)) x.2),h):=by
 have v:=n.len
 have a:=ZS (items:=(p.map QP).reverse) (b:=VS [2,3]) (body:=JL) (fun j s r=>∃m i,s=[some (Qw p),some (.ref 0),m,i]/\r=[.dic (kvs (sd (p.drop (p.length-j))))]) (p.map QP).reverse 0 [some (Qw p),some (.ref 0),none,none] [.dic []] ⟨none,none,rfl,by simp[sd,kvs]⟩ (by
  rintro j w D s r ⟨m,i,rfl,rfl⟩
  obtain⟨y,t,rfl,C,f⟩:=QcU D;rw[NX]at *;have J:=NN t;have H:Qv [.tup (y.2.map Qh),.ref 0] [.dic (kvs (sd (p.drop (p.length-j))))]=some (Xg (szw (sd (p.drop (p.length-j))) y.2),[.dic (kvs (sd (p.drop (p.length-j))))]):=GR (fun l B=>QhE (n.ok _ y t l B)) rfl
  have c:y.1∉(sd (p.drop (p.length-j))).map (·.1):=by
   rw[Y8,List.mem_reverse];have d:((p.drop (p.length-(j+1))).map (·.1)).Nodup:=by rw[Fk];exact n.nd.sublist (F7 _ _)
   rw[f,NA]at d;exact(Ef.mp d).1
  have o:(kvs (sd (p.drop (p.length-j)))).length<sizeLine:=by
   have:(kvs (sd (p.drop (p.length-j)))).length=(p.drop (p.length-j)).length:=by
    have:=congrArg List.length (Y8 (p.drop (p.length-j)));simpa[kvs]using this
   rw[this];exact VR (by simp;omega)
  refine⟨[some (Qw p),some (.ref 0),some (.str y.1),some (.tup (y.2.map Qh))],rfl,[some (Qw p),some (.ref 0),some (.str y.1),some (.tup (y.2.map Qh))],[.dic (kvs (sd (p.drop (p.length-(j+1)))))],.inl ?_,_,_,rfl,rfl⟩;rw[f];have G:=QeF (z:=szw (sd (p.drop (p.length-j))) y.2) c
  simp[H,o,G,sd])
 obtain⟨A,r,e,m,i,rfl,rfl⟩:=a;rw[Ds,NC,NX,Nat.sub_self,D8]at e;refine QC (g:=[.dic (kvs (sd p))]) (by simp) ?_ (by simp[Xg]);have ei:Qi2 (Qa (Qb 0) Qd) [some (Qw p),some (.ref 0),none,none] [.dic []]=some ((p.map QP).reverse,none,[.dic []]):=rfl
 have I:VZ (Qi2 (Qa (Qb 0) Qd)) (VS [2,3]) JL [some (Qw p),some (.ref 0),none,none] [.dic []]=some (.nx [some (Qw p),some (.ref 0),m,i] [.dic (kvs (sd p))]):=by
  unfold VZ;rw[ei,Np];exact e
 have E:atI (p.map QP) 0=some (QP x):=Kz u;have q:=YX (p:=p) (j:=0) n.nd u;simp[Vc,QJ,I,E,YS,q]
noncomputable def QeD(a:ME)(σ:MSt)(p:W×MH):Option (W×MH):=match p.1 with|.bl true=>a σ p.2|.bl false=>some (.bl false,p.2)|_=>none
@[simp]theorem QgE{a:ME}{σ:MSt}{h:MH}{c:Bool}:QeD a σ (.bl c,h)=if c=true then a σ h else some (.bl false,h):=by cases c<;>rfl
@[simp]theorem QmD{b a:ME}{σ:MSt}{h:MH}:Qd7 b a σ h=@ob _ _ (QeD a σ) (b σ h):=id rfl
theorem Qbl{z:Sz}{h:MH}:Zq [Xg z] h=some (.bl (decide (z.pl<=48)&&(decide (z.bk<=500)&&decide (z.dp<=6))),h):=by
 refine QC (g:=[]) (by simp[Xg]) ?_ rfl
 by_cases a:z.pl<=48
 ·by_cases b:z.bk<=500
  ·simp[Z1,QJ,Qi6,Qjc,QiT,a,b]
  ·simp[Z1,QJ,Qi6,Qjc,QiT,a,b]
 ·simp[Z1,QJ,Qi6,Qjc,QiT,a]
theorem Qei{g:Bool}{x:Str}{l:List Str}{h:MH}:wIn g (.str x) (.tup (l.map .str)) h=some (.bl (if g=true then !decide (x∈l)else decide (x∈l)),h):=by
 rw[Qkz rfl JZ (by simp[dep]) (Nl Xx (by decide))]
 have:inW (.str x) (l.map .str)=decide (x∈l):=by
  induction l with
  |nil=>rfl
  |cons y l a=>
   unfold inW at a ⊢;rw[NA,ES,a];show((y==x) ||_)=_
   by_cases e:y=x
   ·subst e;simp
   ·have b:¬x=y:=fun z=>e z.symm;rw[show(y==x)=false from beq_eq_false_iff_ne.mpr e,OO,IG,decide_eq_true_eq,decide_eq_true_eq,NH];exact⟨.inr,fun z=>z.elim (fun q=>absurd q b) id⟩
 rw[this]
theorem VH{ws:List W}{h:MH}(hw:∀w∈ws,w=.bl true):U5 [.lst ws] h=some (.bl true,h):=by
 have e:ws=(List.replicate ws.length true).map W.bl:=by
  rw[List.map_replicate];exact List.eq_replicate_iff.mpr ⟨rfl,hw⟩
 rw[e];show((QeJ ((List.replicate ws.length true).map W.bl)).map fun bs=>(W.bl (bs.all id),h))=_;rw[QbO,Oz];congr 3;simp
theorem Qdp{c:Nat}{h:MH}(j:97<=c)(i:c<=122):QZ [.str ⟨#[c]⟩] h=some (.bl true,h):=by
 refine QC (g:=[]) (by simp) ?_ rfl;have e:JV wLe wLe (mC (.str "a")) (Qb 0) (mC (.str "z")) [some (.str ⟨#[c]⟩)] []=some (.bl ((!decide (([c]:List Nat)<(("a":Str)).cps.toList))&&!decide ((("z":Str)).cps.toList<([c]:List Nat))),[]):=UQ rfl rfl rfl rfl rfl;have f:("a":Str).cps.toList=[97]:=by decide +kernel
 have d:("z":Str).cps.toList=[122]:=by decide +kernel
 have b:¬([c]:List Nat)<[97]:=fun z=>by
  rcases Lg.mp z with q|⟨_,q⟩
  ·omega
  ·exact absurd q (OD _)
 have a:¬([122]:List Nat)<[c]:=fun z=>by
  rcases Lg.mp z with q|⟨_,q⟩
  ·omega
  ·exact absurd q (OD _)
 rw[f,d,decide_eq_false b,decide_eq_false a]at e;simp[Zp,QJ,e]
theorem Qea{x:Str}{h:MH}(d:Nm x):ZM [.str x] h=some (.bl true,h):=by
 refine QC (g:=[]) (by simp) ?_ rfl;have n:=d.lo;have m:=d.hi;have f:x.length<=sizeLine:=JU (by omega)
 have i:=ZC (fin:=Z2) (mi:=Qr (Qb 0)) (cp:=[none]) (me:=Qg 1 QZ (Qa (Qb 0) Qd)) (σ:=[some (.str x)]) (caps:=[]) (h:=[]) (items:=Xs x) (fun _=>.bl true) rfl ⟨_,rfl⟩ (fun w hw=>by
  unfold Xs at hw;obtain⟨c,o,rfl⟩:=NF.mp hw;obtain⟨a,b⟩:=d.sm c o
  simp[Qdp a b]) (by unfold Xs;simp;exact f)
 have s:U5 [.lst ((Xs x).map fun _=>W.bl true)] []=some (.bl true,[]):=VH fun w hw=>by
  obtain⟨_,_,rfl⟩:=NF.mp hw;rfl
 have r:wIn true (.str x) (.tup (QbS Qc5)) []=some (.bl true,[]):=by
  unfold QbS;rw[Qei];simp[d.kp]
 have e:wIn true (.str x) KA []=some (.bl true,[]):=r;simp only[Z2]at i;have q:(1:Int)<=x.length:=by omega
 have p:(x.length:Int)<=8:=by omega
 have u:(Qi (JV wLe wLe (mC (.int 1)) (mFn JC (Qa (Qb 0) Qd)) (mC QK))) [some (.str x)] []=some (true,[]):=by
  have t:mFn JC (Qa (Qb 0) Qd) [some (.str x)] []=some (.int x.length,[]):=by simp[f]
  have j:JV wLe wLe (mC (.int 1)) (mFn JC (Qa (Qb 0) Qd)) (mC QK) [some (.str x)] []=some (.bl (decide ((1:Int)<=x.length)&&decide ((x.length:Int)<=8)),[]):=UQ rfl t rfl rfl rfl;rw[decide_eq_true q,decide_eq_true p]at j;simp[j]
 simp[V5,QJ,i,s,e,u,ZO]
theorem Qb3{es:List Str}{e:W}{h:MH}(d:∀x∈es,Nm x)(l:es.length<=1000):QN Z2 (Qr (mSl (Qb 0) (XF (mC (.int 1))) XE)) [none] (ZJ 0) VV (Qg 1 ZM (Qa (Qb 0) Qd)) [some (.tup (e::es.map .str))] h=some (.lst (List.replicate es.length (.bl true)),h):=by
 have a:mSl (Qb 0) (XF (mC (.int 1))) XE [some (.tup (e::es.map .str))] h=some (.tup (es.map .str),h):=by
  have:=YB (e::es.map W.str) 1;simp at this;simp[this]
 have ei:Qr (mSl (Qb 0) (XF (mC (.int 1))) XE) [some (.tup (e::es.map .str))] h=some (es.map .str,none,h):=by unfold Qr;rw[a];rfl
 have f:=ZC (fin:=Z2) (mi:=Qr (mSl (Qb 0) (XF (mC (.int 1))) XE)) (cp:=[none]) (me:=Qg 1 ZM (Qa (Qb 0) Qd)) (σ:=[some (.tup (e::es.map .str))]) (caps:=[]) (h:=h) (items:=es.map .str) (fun _=>.bl true) ei ⟨_,rfl⟩ (fun w hw=>by
  obtain⟨x,c,rfl⟩:=NF.mp hw
  simp[Qea (d x c)]) (by simp;exact JU (by omega))
 rw[f,IH,NC];rfl
theorem QfQ{n:Nat}{h:MH}:U5 [.lst (List.replicate n (.bl true))] h=some (.bl true,h):=VH fun w hw=>(Er.mp hw).2
theorem Vh{x:Str}{es:List Str}{i:Int}{h:MH}(b:KC Qx x=some i)(f:(es.length:Int)=i)(c:∀y∈es,Nm y)(d:es.length<=1000):JX [Qh (x::es)] h=some (.bl true,h):=by
 refine QC (g:=[]) (by simp) ?_ rfl;have o:Qh (x::es)=.tup (.str x::es.map .str):=rfl;have j:=Qb3 (e:=.str x) (h:=[]) c d;have n:QgC true Qx (.str x) []=some (.bl false,[]):=by unfold QgC;simp[b]
 have m:QhX Qx (.str x) []=some (.int i,[]):=by unfold QhX;simp[b]
 have a:¬(es.length:Int)+1=0:=by omega
 have l:wNe (.int ((es.length:Int)+1)) (.int (1+i)) []=some (.bl false,[]):=by rw[<-f,Int.add_comm];simp
 rw[o];simp[Xc,QJ,j,QfQ,n,m,l,a,ZO]
theorem QhG{bs ws la:List Str}{l:Ln}{h:MH}(b:∀x∈bs,Nm x)(hw:∀x∈ws,Nm x)(f:∀x∈la,Nm x)(e:LineOk bs ws la l):JX [Qh l] h=some (.bl true,h):=by
 cases e with
 |plain e=>
  cases e with
  |pair a d c g=>exact Vh (i:=4) (by decide +kernel) rfl (by simp;exact⟨b _ a,hw _ d,b _ c,b _ g⟩) (by simp)
  |first a c=>exact Vh (i:=2) (by decide +kernel) rfl (by simp;exact⟨b _ a,b _ c⟩) (by simp)
  |second a c=>exact Vh (i:=2) (by decide +kernel) rfl (by simp;exact⟨b _ a,b _ c⟩) (by simp)
  |same a c=>exact Vh (i:=2) (by decide +kernel) rfl (by simp;exact⟨b _ a,b _ c⟩) (by simp)
  |none a=>exact Vh (i:=1) (by decide +kernel) rfl (by simp;exact b _ a) (by simp)
  |tell a=>exact Vh (i:=1) (by decide +kernel) rfl (by simp;exact b _ a) (by simp)
 |«do» a=>exact Vh (i:=1) (by decide +kernel) rfl (by simp;exact f _ a) (by simp)
 |blk a=>
  rcases a with rfl|rfl|rfl|rfl
  all_goals exact Vh (i:=0) (by decide +kernel) rfl (by simp) (by simp)
 |back a=>exact Vh (i:=1) (by decide +kernel) rfl (by simp;exact hw _ a) (by simp)
def Op(x:Str):Prop:=x="either"\/x="again"\/x="or"
theorem Uw{ls:List Ln}{σ:MSt}{h:MH}{x:Str}{r:List Str}{p:List Cd}(G:n<=100000)(D:ls[n]?=some (x::r))(b:Zl ((ls.take (n+1)).map cdL) []=some p)
  (H:∃(O:List Str) (x2:Option W),σ=[some (.tup (ls.map Qh)),some (.ref 0),x2]/\h=[.lst (O.map .str)]/\Zl ((ls.take n).map cdL) []=some (O.reverse.map cd)/\(∀y∈O,Op y)/\O.length<=n) :
  ∃g,ZJ 2 (Qh (x::r)) σ h=some g/\∃f d,(Zf g h=some (.nx f d)\/Zf g h=some (.ct f d))/\∃(O:List Str) (x2:Option W),f=[some (.tup (ls.map Qh)),some (.ref 0),x2]/\d=[.lst (O.map .str)]/\Zl ((ls.take (n+1)).map cdL) []=some (O.reverse.map cd)/\(∀y∈O,Op y)/\O.length<=n+1:=by
 obtain⟨O,x2,rfl,rfl,E,m,o⟩:=H;refine⟨_,rfl,?_⟩;have C:ls.take (n+1)=ls.take n++[x::r]:=by rw[E5,D];rfl
 have a:kst (cd x) (O.reverse.map cd)=some p:=by
  rw[C,QH,ZD,E]at b;have d:(kst (cd x) (O.reverse.map cd)).bind (Zl [])=some p:=b;cases e:kst (cd x) (O.reverse.map cd)with
  |none=>rw[e]at d;cases d
  |some u=>rw[e]at d;cases d;rfl
 have s:O.length<sizeLine:=VR (by omega)
 rcases Kx (x:=x)with⟨rfl,c⟩|⟨rfl,c⟩|⟨rfl,c⟩|⟨rfl,c⟩|⟨⟨A,w,v,t⟩,c⟩
 ·rw[c]at a;cases a;refine⟨[some (.tup (ls.map Qh)),some (.ref 0),some (Qh ("either"::r))],[.lst ((O++[("either":Str)]).map .str)],.inl ?_,_,_,rfl,rfl,?_,Ql m (.inl rfl),by simp;omega⟩
  ·simp[s]
  ·rw[b,Q6,c]
 ·rw[c]at a;cases a;refine⟨[some (.tup (ls.map Qh)),some (.ref 0),some (Qh ("again"::r))],[.lst ((O++[("again":Str)]).map .str)],.inl ?_,_,_,rfl,rfl,?_,Ql m (.inr (.inl rfl)),by simp;omega⟩
  ·simp[s]
  ·rw[b,Q6,c]
 ·rw[c]at a;have j:O≠[]:=by rintro rfl;cases a
  obtain⟨q,y,rfl⟩:=Qaq O j;rw[Q6]at a;simp only[kst]at a;split at a
  ·rename_i l;cases a
   have i:y="either":=by
    rcases m y (by simp)with z|z|z
    ·exact z
    ·rw[z,YQ]at l;cases l
    ·rw[z,Qjs]at l;cases l
   subst i;refine⟨[some (.tup (ls.map Qh)),some (.ref 0),some (Qh ("or"::r))],[.lst ((q++[("or":Str)]).map .str)],.inl ?_,_,_,rfl,rfl,?_,YT m (.inr (.inr rfl)),by simp at o ⊢;omega⟩
   ·simp
   ·rw[b,Q6,c]
  ·cases a
 ·rw[c]at a;have j:O≠[]:=by rintro rfl;cases a
  obtain⟨q,y,rfl⟩:=Qaq O j;rw[Q6]at a;simp only[kst]at a;split at a
  ·cases a
  ·rename_i l;cases a;have i:y≠"either":=fun z=>l (by rw[z,QbZ]);refine⟨[some (.tup (ls.map Qh)),some (.ref 0),some (Qh ("end"::r))],[.lst (q.map .str)],.inl ?_,_,_,rfl,rfl,b,fun z B=>m z (NS _ B),by simp at o;omega⟩;simp[i]
 ·rw[c]at a;cases a;refine⟨[some (.tup (ls.map Qh)),some (.ref 0),some (Qh (x::r))],[.lst (O.map .str)],.inl ?_,_,_,rfl,rfl,b,m,by omega⟩;simp[A,w,v,t]
theorem QcK{ls:List Ln}{h:MH}(q:Bal (ls.map cdL))(B:ls.length<=70000)(u:∀l∈ls,∃x r,l=x::r):Vy [.tup (ls.map Qh)] h=some (.bl true,h):=by
 have a:=ZS (items:=ls.map Qh) (b:=ZJ 2) (body:=Zf) (fun n i h=>∃(O:List Str) (c:Option W),i=[some (.tup (ls.map Qh)),some (.ref 0),c]/\h=[.lst (O.map .str)]/\Zl ((ls.take n).map cdL) []=some (O.reverse.map cd)/\(∀y∈O,Op y)/\O.length<=n) (ls.map Qh) 0 [some (.tup (ls.map Qh)),some (.ref 0),none] [.lst []] ⟨[],none,rfl,rfl,rfl,by simp,by simp⟩ (fun j w p i h H=>by
  rw[Nz]at p;obtain⟨l,f,rfl⟩:=Nf.mp p;rw[NX]at H ⊢;obtain⟨x,r,rfl⟩:=u l (NN f);have s:=bal_iff.mp q;rw[<-Em (j+1) ls,EJ]at s;obtain⟨A,d⟩:=Kc s
  exact Uw (by have:=(Nh.mp f).1;omega) f d H)
 obtain⟨t,C,e,O,c,rfl,rfl,m,_,_⟩:=a;rw[NC,NX,Eu,bal_iff.mp q]at m
 have v:O=[]:=by
  have:=congrArg (fun o=>o.map List.length) m;simp at this;exact NM.mp this.symm
 subst v;refine QC (g:=[.lst []]) (by simp) ?_ rfl;have ei:Qr (Qb 0) [some (.tup (ls.map Qh)),some (.ref 0),none] [.lst []]=some (ls.map Qh,none,[.lst []]):=rfl
 have z:VZ (Qr (Qb 0)) (ZJ 2) Zf [some (.tup (ls.map Qh)),some (.ref 0),none] [.lst []]=some (.nx [some (.tup (ls.map Qh)),some (.ref 0),c] [.lst []]):=by
  unfold VZ;rw[ei,Np];exact e
 simp[Vf,QJ,z]
theorem QhA{bs ws la:List Str}{x:Pt}{h:MH}(p:∀x∈bs,Nm x)(hw:∀x∈ws,Nm x)(c:∀x∈la,Nm x)(n:Nm x.1)(i:∀l∈x.2,LineOk bs ws la l)(a:Bal (x.2.map cdL))(o:x.2.length<=70000):VL [QP x] h=some (.bl true,h):=by
 refine QC (g:=[]) (by simp[QP]) ?_ rfl
 have j:=ZC (fin:=Z2) (mi:=Qr (Qf wIx (Qb 0) (mC (.int 1)))) (cp:=[none]) (me:=Qg 1 JX (Qa (Qb 0) Qd)) (σ:=[some (QP x)]) (caps:=[]) (h:=[]) (items:=x.2.map Qh) (fun _=>.bl true) (by unfold Qr;simp;rfl) ⟨_,rfl⟩ (fun w b=>by
  obtain⟨l,d,rfl⟩:=NF.mp b
  simp[QhG p hw c (i l d)]) (by simp;exact JU (by omega))
 have r:U5 [.lst ((x.2.map Qh).map fun _=>W.bl true)] []=some (.bl true,[]):=VH fun w hw=>by
  obtain⟨_,_,rfl⟩:=NF.mp hw;rfl
 simp only[Z2]at j;have f:=QcK (h:=[]) a o fun l d=>JW (i l d);have q:∀h,JC [QP x] h=some (.int 2,h):=fun h=>by unfold QP;simp
 have ei:K4 [QP x,.ty "tuple"] []=some (.bl true,[]):=by unfold QP;simp[ZO]
 have e:K4 [.tup (x.2.map Qh),.ty "tuple"] []=some (.bl true,[]):=by simp[ZO]
 simp[V2,QJ,-DJ,j,r,f,q,ei,e,Qea n]
end My
namespace St
theorem Qg1(ks:List Str):∃ss:List Str,ss.Perm ks/\sortedS ss=true:=by
 refine⟨ks.mergeSort (fun a b=>decide (a.cps.toList<=b.cps.toList)),List.mergeSort_perm _ _,?_⟩;apply sortedS_of_pairwise
 have:=List.pairwise_mergeSort (le:=fun a b:Str=>decide (a.cps.toList<=b.cps.toList)) (fun a b c e d=>by
  rw[decide_eq_true_eq]at *;exact OM e d) (fun a b=>by
  rw[E1,decide_eq_true_eq,decide_eq_true_eq]
  exact List.le_total _ _) ks
 exact this.imp fun h=>le_of_lt.mpr (by simpa using h)
theorem srt_spec(ks:List Str):(srt ks).Perm ks/\sortedS (srt ks)=true:=by
 obtain⟨a,p,h⟩:=Qg1 ks;rw[srt_eq p h];exact⟨p,h⟩
end St
namespace My
open L2 Mi My3 My4 My5
noncomputable def als(p:List Pt):List Ln:=p.flatMap (·.2)
theorem Qeq{N:Nat}:∀{p:List Pt},(∀x∈p,x.2.length<=N)->(als p).length<=p.length*N
 |[],_=>by simp[als]
 |x::p,h=>by
  have c:=h x Nt;have b:=Qeq (p:=p) fun y a=>h y (Nq _ a);simp only[als,ED,Ny,NR]at b ⊢;rw[Nat.add_mul];omega
theorem G3{p:List Pt}{h:MH}(r:(als p).length<=100000):Qk [Qw p] h=some (.lst ((als p).map Qh),h):=by
 have a:=ZS (items:=p.map QP) (b:=ZJ 2) (body:=JK) (fun j f h=>∃c,f=[some (Qw p),some (.ref 0),c]/\h=[.lst ((als (p.take j)).map Qh)]) (p.map QP) 0 [some (Qw p),some (.ref 0),none] [.lst []] ⟨none,rfl,by simp[als]⟩ (by
  rintro j w l f h ⟨c,rfl,rfl⟩
  rw[Nz]at l;obtain⟨x,n,rfl⟩:=Nf.mp l;rw[NX]at *
  have i:als (p.take (j+1))=als (p.take j)++x.2:=by
   rw[E5,n];simp[als]
  have d:(als (p.take j)).length+x.2.length<=sizeLine:=by
   have o:als p=als (p.take (j+1))++als (p.drop (j+1)):=by simp only[als];rw[<-Du,Em]
   have:=congrArg List.length o;rw[i]at this;simp only[Ny]at this;exact JU (by omega)
  refine⟨_,rfl,[some (Qw p),some (.ref 0),some (QP x)],[.lst ((als (p.take (j+1))).map Qh)],.inl ?_,_,rfl,rfl⟩;rw[i]
  simp[d])
 obtain⟨m,s,e,c,rfl,rfl⟩:=a;rw[NC,NX,Eu]at e;have ei:Qr (Qb 0) [some (Qw p),some (.ref 0),none] [.lst []]=some (p.map QP,none,[.lst []]):=rfl
 have q:VZ (Qr (Qb 0)) (ZJ 2) JK [some (Qw p),some (.ref 0),none] [.lst []]=some (.nx [some (Qw p),some (.ref 0),c] [.lst ((als p).map Qh)]):=by
  unfold VZ;rw[ei,Np];exact e
 refine YO (j:=0) (g:=[.lst ((als p).map Qh)]) (by simp) ?_ rfl (by simp);simp[Ve,QJ,q]
noncomputable def bxs:Ln->List Str
 |x::r=>if x="pair"then[r.getD 0 "",r.getD 2 "",r.getD 3 ""]else if x∈[("first":Str),"second","same","none","tell"]then r else[]
 |[]=>[]
theorem QbP{bs ws la:List Str}{l:Ln}{h:MH}(d:LineOk bs ws la l):ZQ [Qh l] h=some (.lst ((bxs l).map .str),h)/\(∀y∈bxs l,y∈bs)/\(bxs l).length<=3:=by
 have c:∀x:Str,∀h,wIn false (.str x) (.tup [.str "first",.str "second",.str "same",.str "none",.str "tell"]) h=some (.bl (decide (x∈[("first":Str),"second","same","none","tell"])),h):=fun x h=>Qei (g:=false) (x:=x) (l:=["first","second","same","none","tell"]) (h:=h)
 have j:∀(x:Str) (r:List Str) (h:MH),wSl (.tup (.str x::r.map .str)) (some 1) none h=some (.tup (r.map .str),h):=fun x r h=>by
  have:=YB (W.str x::r.map W.str) 1;simp at this;simp[this]
 have one:∀(x:Str) (r:List Str),x≠"pair"->x∈[("first":Str),"second","same","none","tell"]->ZQ [Qh (x::r)] h=some (.lst (r.map .str),h):=fun x r f e=>by
  refine QC (g:=[]) (by simp) ?_ (by simp);have i:Qh (x::r)=.tup (.str x::r.map .str):=rfl;rw[i];have o:Qdw [.tup (r.map .str)] []=some (.lst (r.map .str),[]):=rfl;simp[Z4,QJ,f,c,e,j,o,-NH]
 have non:∀(x:Str) (r:List Str),x≠"pair"->x∉[("first":Str),"second","same","none","tell"]->ZQ [Qh (x::r)] h=some (.lst [],h):=fun x r f e=>by
  refine QC (g:=[]) (by simp) ?_ (by simp);have i:Qh (x::r)=.tup (.str x::r.map .str):=rfl;rw[i];simp[Z4,QJ,f,c,e,-NH]
 cases d with
 | plain d=>
  cases d with
  |pair a n b m=>
   refine⟨?_,by simp[bxs];exact⟨a,b,m⟩,by simp[bxs]⟩;refine QC (g:=[]) (by simp) ?_ (by simp[bxs]);simp[Z4,QJ,Qh,bxs]
  |first a b=>exact⟨one _ _ (by decide) (by decide),by simp[bxs];exact⟨a,b⟩,by simp[bxs]⟩
  |second a b=>exact⟨one _ _ (by decide) (by decide),by simp[bxs];exact⟨a,b⟩,by simp[bxs]⟩
  |same a b=>exact⟨one _ _ (by decide) (by decide),by simp[bxs];exact⟨a,b⟩,by simp[bxs]⟩
  |none a=>exact⟨one _ _ (by decide) (by decide),by simp[bxs];exact a,by simp[bxs]⟩
  |tell a=>exact⟨one _ _ (by decide) (by decide),by simp[bxs];exact a,by simp[bxs]⟩
 |«do» a=>exact⟨non _ _ (by decide) (by decide),by simp[bxs],by simp[bxs]⟩
 |blk a=>
  rcases a with rfl|rfl|rfl|rfl
  all_goals exact⟨non _ _ (by decide) (by decide),by simp[bxs],by simp[bxs]⟩
 |back a=>exact⟨non _ _ (by decide) (by decide),by simp[bxs],by simp[bxs]⟩
theorem GS{a:W}{ss:List Str}{h:MH}(b:lsW h a=some (ss.map .str))(d:ss.length<4000)(c:(St.uniq ss).length<64):Vp [a] h=some (.ref h.length,h++[.lst ((St.srt (St.uniq ss)).map .str)]):=by
 unfold Vp;simp only[b,Np,UL];rw[if_pos ⟨d,c⟩]
theorem Qel:∀(a b:List Str),a.Nodup->(∀y∈a,y∈b)->a.length<=b.length
 |[],b,_,_=>NY _
 |k::r,b,c,h=>by
  have e:=h k Nt;rw[Ef]at c;have:=Qel r (b.erase k) c.2 fun y d=>(FD (fun z=>c.1 (by rw[<-z];exact d))).mpr (h y (Nq _ d));rw[D6 e]at this;have:=IS e;rw[NR];omega
theorem Ku{l bs:List Str}(h:∀y∈l,y∈bs):(St.uniq l).length<=bs.length:=Qel _ bs (St.uniq_nd _ l rfl) fun y a=>h y ((St.uniq_mem _ _ rfl y).mp a)
theorem Qbh(l:List Str):(St.srt l).length=l.length:=(St.srt_spec l).1.length_eq
theorem QeE{f:Ln->List Str}:∀{ls:List Ln},(∀l∈ls,(f l).length<=3)->(ls.flatMap f).length<=3*ls.length
 |[],_=>by simp
 |l::ls,h=>by
  have c:=h l Nt;have b:=QeE (ls:=ls) fun y a=>h y (Nq _ a);simp only[ED,Ny,NR]at b ⊢;omega
section
variable{N:Nat}{bs ws:List Str}{p:List Pt}
theorem WO(d:GoodP N bs ws p):∀l∈als p,∃la,LineOk bs ws la l:=fun l a=>by
 obtain⟨x,b,a⟩:=Iu.mp a;obtain⟨i,c⟩:=NE.mp b;exact⟨_,d.ok i x c l a⟩
theorem Qf0{h:MH}(o:GoodP N bs ws p)(I:(als p).length<=1000)(B:bs.length<=5):∃ss:List Str,ss.length<=5/\∀h,V8 [Qw p] h=some (.lst (ss.map .str),h):=by
 have x:∀j,(((als p).take j).flatMap bxs).length<=3*(als p).length:=fun j=>Nl (QeE fun l c=>by
  obtain⟨t,f⟩:=WO o l (Lr c)
  exact(QbP (h:=[]) f).2.2) (by rw[DN];omega)
 have d:=ZS (items:=(als p).map Qh) (b:=ZJ 2) (body:=J0) (fun j s h=>∃i,s=[some (Qw p),some (.ref 0),i]/\h=[.lst ((((als p).take j).flatMap bxs).map .str)]) ((als p).map Qh) 0 [some (Qw p),some (.ref 0),none] [.lst []] ⟨none,rfl,by simp⟩ (by
  rintro j w v s h ⟨i,rfl,rfl⟩
  rw[Nz]at v;obtain⟨l,c,rfl⟩:=Nf.mp v;rw[NX];have u:((als p).take (j+1)).flatMap bxs=((als p).take j).flatMap bxs++bxs l:=by rw[E5,c,Du];simp
  obtain⟨t,f⟩:=WO o l (NN c);have E:∀h,ZQ [Qh l] h=some (.lst ((bxs l).map .str),h):=fun h=>(QbP f).1
  have n:((((als p).take j).flatMap bxs).map W.str).length+((bxs l).map W.str).length<=sizeLine:=by
   have C:=x (j+1);rw[u,Ny]at C;rw[NC,NC];exact JU (by omega)
  refine⟨_,rfl,[some (Qw p),some (.ref 0),some (Qh l)],[.lst ((((als p).take (j+1)).flatMap bxs).map .str)],.inl ?_,_,rfl,rfl⟩;rw[u,EJ];generalize(bxs l).map W.str=Y at *;generalize(((als p).take j).flatMap bxs).map W.str=Z at *
  simp[E,n])
 obtain⟨z,J,e,i,rfl,rfl⟩:=d;rw[NC,NX,Eu]at e
 have A:∀y∈(als p).flatMap bxs,y∈bs:=fun y m=>by
  obtain⟨l,c,m⟩:=Iu.mp m;obtain⟨t,f⟩:=WO o l c;exact(QbP (h:=[]) f).2.1 y m
 have hu:=Ku A;have q:=x (als p).length;rw[Eu]at q;refine⟨St.srt (St.uniq ((als p).flatMap bxs)),by rw[Qbh];omega,fun h=>?_⟩;have r:∀h,Qk [Qw p] h=some (.lst ((als p).map Qh),h):=fun h=>G3 (by omega)
 have ei:Qr (Qg 1 Qk (Qa (Qb 0) Qd)) [some (Qw p),some (.ref 0),none] [.lst []]=some ((als p).map Qh,none,[.lst []]):=by
  have G:Qg 1 Qk (Qa (Qb 0) Qd) [some (Qw p),some (.ref 0),none] [.lst []]=some (.lst ((als p).map Qh),[.lst []]):=by simp[r]
  unfold Qr;rw[G];rfl
 have H:VZ (Qr (Qg 1 Qk (Qa (Qb 0) Qd))) (ZJ 2) J0 [some (Qw p),some (.ref 0),none] [.lst []]=some (.nx [some (Qw p),some (.ref 0),i] [.lst (((als p).flatMap bxs).map .str)]):=by
  unfold VZ;rw[ei,Np];exact e
 have D:=GS (a:=.ref 0) (ss:=(als p).flatMap bxs) (h:=[.lst (((als p).flatMap bxs).map .str)]) rfl (by omega) (by omega);refine YO (j:=1) (g:=[.lst (((als p).flatMap bxs).map .str),.lst ((St.srt (St.uniq ((als p).flatMap bxs))).map .str)]) (by simp) ?_ rfl (by simp);simp[Vk,QJ,H,D]
theorem K9{kd:Str}{k:Nat}{Wd:List Str}{ls:List Ln}{mi:MI}{σ:MSt}{h:MH}(B:mi σ h=some (ls.map Qh,none,h))(C:∃o,QdI [none] σ=[o])(H:ls.length<=100000)
  (f:∀l∈ls,∃x r,l=x::r/\(x=kd->∃w,(r.map W.str)[k]?=some (.str w)/\w∈Wd)) :
  ∃ss:List Str,(∀w∈ss,w∈Wd)/\ss.length<=ls.length/\QN Z2 mi [none] (ZJ 0) (Qi (Qf wEq (Qf wIx (Qb 0) (mC (.int 0))) (mC (.str kd)))) (Qf wIx (Qb 0) (mC (.int ((k+1:Nat):Int)))) σ h=some (.lst (ss.map .str),h):=by
 let i:W->Bool:=fun w=>match w with|.tup (.str x::_)=>x==kd|_=>false
 let j:W->W:=fun w=>match w with|.tup ws=>ws.getD (k+1) .non|w=>w
 have D:=Uq (fin:=Z2) (mi:=mi) (cp:=[none]) (mt:=Qi (Qf wEq (Qf wIx (Qb 0) (mC (.int 0))) (mC (.str kd)))) (me:=Qf wIx (Qb 0) (mC (.int ((k+1:Nat):Int)))) (σ:=σ) (caps:=[]) (h:=h) (items:=ls.map Qh) j i B C (fun w hw=>by
   obtain⟨l,e,rfl⟩:=NF.mp hw;obtain⟨x,r,rfl,_⟩:=f l e;show _=some ((x==kd),h);simp) (fun w hw A=>by
   obtain⟨l,e,rfl⟩:=NF.mp hw;obtain⟨x,r,rfl,n⟩:=f l e;have v:x=kd:=by have:(x==kd)=true:=A;simpa using this
   obtain⟨w,d,_⟩:=n v;have E:Qh (x::r)=.tup (.str x::r.map .str):=rfl;have g:atI (W.str x::r.map W.str) ((k+1:Nat):Int)=some (.str w):=by rw[Zu];simpa using d
   have q:j (Qh (x::r))=.str w:=by
    show(W.str x::r.map W.str).getD (k+1) .non=_;rw[ET];have:(W.str x::r.map W.str)[k+1]?=some (.str w):=by simpa using d
    rw[this];rfl
   rw[q,E];push_cast at g ⊢
   simp[g]) (by simp;exact JU (by omega))
 have key:∀ls:List Ln,(∀l∈ls,∃x r,l=x::r/\(x=kd->∃w,(r.map W.str)[k]?=some (.str w)/\w∈Wd))->∃ss:List Str,(∀w∈ss,w∈Wd)/\ss.length<=ls.length/\((ls.map Qh).filter i).map j=ss.map .str:=by
  intro ls
  induction ls with
  |nil=>intro _;exact⟨[],by simp,by simp,rfl⟩
  | cons l ls t=>
   intro f;obtain⟨ss,a,b,c⟩:=t fun y u=>f y (Nq _ u);obtain⟨x,r,rfl,n⟩:=f l Nt
   by_cases z:x=kd
   ·obtain⟨w,d,m⟩:=n z;refine⟨w::ss,by simp;exact⟨m,a⟩,by simp;omega,?_⟩;have g:i (Qh (x::r))=true:=by show(x==kd)=true;simpa using z
    have q:j (Qh (x::r))=.str w:=by
     show(W.str x::r.map W.str).getD (k+1) .non=_;rw[ET];have:(W.str x::r.map W.str)[k+1]?=some (.str w):=by simpa using d
     rw[this];rfl
    rw[NA,List.filter_cons_of_pos g,NA,q,c,NA]
   ·have g:¬i (Qh (x::r))=true:=by show¬(x==kd)=true;simpa using z
    exact⟨ss,a,by simp;omega,by rw[NA,List.filter_cons_of_neg g,c]⟩
 obtain⟨ss,a,b,c⟩:=key ls f;exact⟨ss,a,b,by rw[D,c];rfl⟩
end
section
variable{N:Nat}{bs ws:List Str}{p:List Pt}
theorem Qdv{la:List Str}{l:Ln}(h:LineOk bs ws la l):∃x r,l=x::r/\(x="pair"->∃w,(r.map W.str)[1]?=some (.str w)/\w∈ws):=by
 cases h with
 |plain h=>
  cases h with
  |pair c hw b a=>exact⟨_,_,rfl,fun _=>⟨_,rfl,hw⟩⟩
  |_=>exact⟨_,_,rfl,fun z=>absurd z (by decide)⟩
 |«do» h=>exact⟨_,_,rfl,fun z=>absurd z (by decide)⟩
 |blk h=>rcases h with rfl|rfl|rfl|rfl<;>exact⟨_,_,rfl,fun z=>absurd z (by decide)⟩
 |back h=>exact⟨_,_,rfl,fun z=>absurd z (by decide)⟩
theorem QdD{la:List Str}{l:Ln}(h:LineOk bs ws la l):∃x r,l=x::r/\(x="back"->∃w,(r.map W.str)[0]?=some (.str w)/\w∈ws):=by
 cases h with
 |plain h=>cases h<;>exact⟨_,_,rfl,fun z=>absurd z (by decide)⟩
 |«do» h=>exact⟨_,_,rfl,fun z=>absurd z (by decide)⟩
 |blk h=>rcases h with rfl|rfl|rfl|rfl<;>exact⟨_,_,rfl,fun z=>absurd z (by decide)⟩
 |back h=>exact⟨_,_,rfl,fun _=>⟨_,rfl,h⟩⟩
theorem Qct{la:List Str}{l:Ln}(h:LineOk bs ws la l):∃x r,l=x::r/\(x="do"->∃w,r=[w]/\w∈la):=by
 cases h with
 |plain h=>cases h<;>exact⟨_,_,rfl,fun z=>absurd z (by decide)⟩
 |«do» h=>exact⟨_,_,rfl,fun _=>⟨_,rfl,h⟩⟩
 |blk h=>rcases h with rfl|rfl|rfl|rfl<;>exact⟨_,_,rfl,fun z=>absurd z (by decide)⟩
 |back h=>exact⟨_,_,rfl,fun z=>absurd z (by decide)⟩
theorem WP{σ:MSt}(a:σ[0]?=some (some (Qw p)))(d:(als p).length<=1000)(h:MH):Qr (Qg 1 Qk (Qa (Qb 0) Qd)) σ h=some ((als p).map Qh,none,h):=by
 have b:∀h,Qk [Qw p] h=some (.lst ((als p).map Qh),h):=fun h=>G3 (by omega);have c:Qg 1 Qk (Qa (Qb 0) Qd) σ h=some (.lst ((als p).map Qh),h):=by simp[Qb,a,b]
 unfold Qr;rw[c];rfl
theorem Qf7(i:GoodP N bs ws p)(m:(als p).length<=1000)(c:ws.length<=5):∃ss:List Str,ss.length<=5/\(∀w∈ss,w∈ws)/\∀h,Xa [Qw p] h=some (.lst (ss.map .str),h):=by
 obtain⟨ss,b,r,e⟩:=K9 (kd:="pair") (k:=1) (Wd:=ws) (ls:=als p) (σ:=[some (Qw p)]) (h:=[]) (WP rfl m []) ⟨_,rfl⟩ (by omega) fun l f=>by
  obtain⟨t,d⟩:=WO i l f;exact Qdv d
 have hu:=Ku b;refine⟨St.srt (St.uniq ss),by rw[Qbh];omega,fun w hw=>b w ((St.uniq_mem _ _ rfl w).mp ((St.srt_spec _).1.mem_iff.mp hw)),fun h=>?_⟩;have n:=GS (a:=.lst (ss.map .str)) (ss:=ss) (h:=[]) rfl (by omega) (by omega);refine YO (j:=0) (g:=[.lst ((St.srt (St.uniq ss)).map .str)]) (by simp) ?_ rfl (by simp);have o:QN Z2 (Qr (Qg 1 Qk (Qa (Qb 0) Qd))) [none] (ZJ 0) (Qi (Qf wEq (Qf wIx (Qb 0) (mC (.int 0))) (mC (.str "pair")))) (Qf wIx (Qb 0) (mC (.int 2))) [some (Qw p)] []=some (.lst (ss.map .str),[]):=e;simp[Vv,QJ,o,n]
theorem QhY{x:Str}{l:List Str}{h:MH}:wIn false (.str x) (.lst (l.map .str)) h=some (.bl (decide (x∈l)),h):=by
 rw[Qfo rfl JZ (by simp[dep]) (Nl Xx (by decide))]
 have:inW (.str x) (l.map .str)=decide (x∈l):=by
  induction l with
  |nil=>rfl
  |cons y l a=>
   unfold inW at a ⊢;rw[NA,ES,a];show((y==x) ||_)=_
   by_cases e:y=x
   ·subst e;simp
   ·have b:¬x=y:=fun z=>e z.symm;rw[show(y==x)=false from beq_eq_false_iff_ne.mpr e,OO,IG,decide_eq_true_eq,decide_eq_true_eq,NH];exact⟨.inr,fun z=>z.elim (fun q=>absurd q b) id⟩
 rw[this];rfl
theorem Ya(g:p.length<=100)(r:MSt)(h:MH):QN Z2 (Qr (Qb 0)) [none] (ZJ 0) VV (Qf wIx (Qb 0) (mC (.int 0))) (some (Qw p)::r) h=some (.lst ((p.map (·.1)).map .str),h):=by
 have c:=ZC (fin:=Z2) (mi:=Qr (Qb 0)) (cp:=[none]) (me:=Qf wIx (Qb 0) (mC (.int 0))) (σ:=some (Qw p)::r) (caps:=[]) (h:=h) (items:=p.map QP) (fun w=>match w with|.tup (a::_)=>a|w=>w) rfl ⟨_,rfl⟩ (fun w hw=>by
  obtain⟨x,_,rfl⟩:=NF.mp hw
  simp[QP]) (by simp;exact JU (by omega))
 rw[c];simp[QP,Z2,F0]
theorem QdN{P:List Pt}{j:Nat}{w:W}(h:(K1 (P.map QP))[j]?=some w):∃x,P[j]?=some x/\w=.tup [.int j,QP x]:=by
 unfold K1 at h;rw[Nz,Lq,Nz]at h;cases a:P[j]? with
 |none=>rw[a]at h;cases h
 |some x=>
  rw[a]at h;refine⟨x,rfl,?_⟩;simp at h;rw[<-h]
theorem Qcl{l:List Str}(h:l.Nodup):St.uniq l=l:=by
 induction l using Xf with
 |nil=>rfl
 |snoc L x a=>
  rw[F3]at h;rw[St.uniq_snoc,a h.1,if_neg fun z=>h.2.2 x z x (by simp) rfl]
theorem G4{i:Nat}{x:Pt}{x2 x3 x4:Option W}(g:GoodP N bs ws p)(hN:N<=100000)(d:p[i]?=some x) :
  ∃b,VS [2,3] (.tup [.int (i:Int),QP x]) [some (Qw p),some (QE (p.map (·.1))),x2,x3,x4] []=some b/\∃a j,(QA b []=some (.nx a j)\/QA b []=some (.ct a j))/\∃x2 x3 x4,a=[some (Qw p),some (QE (p.map (·.1))),x2,x3,x4]/\j=[]:=by
 have f:∀h,wSl (QE (p.map (·.1))) (some ((i:Int)+1)) none h=some (QE ((p.map (·.1)).drop (i+1)),h):=fun h=>Qbe rfl;have t:=NN d
 let m:W->Bool:=fun w=>match w with|.tup (.str x::_)=>x=="do"|_=>false
 have n:=Uq (fin:=Z2) (mi:=Qr (Qf wIx (Qb 3) (mC (.int 1)))) (cp:=[none,some 4]) (mt:=Qi (Qf wEq (Qf wIx (Qb 0) (mC (.int 0))) (mC (.str "do")))) (me:=Qf (wIn false) (Qf wIx (Qb 0) (mC (.int 1))) (Qb 1)) (σ:=[some (Qw p),some (QE (p.map (·.1))),some (.int i),some (QP x),some (QE ((p.map (·.1)).drop (i+1)))]) (caps:=[some (QE ((p.map (·.1)).drop (i+1)))]) (h:=[]) (items:=x.2.map Qh) (fun _=>.bl true) m (by unfold Qr;simp;rfl) ⟨_,rfl⟩ (fun w hw=>by
   obtain⟨l,c,rfl⟩:=NF.mp hw;obtain⟨y,r,rfl,_⟩:=Qct (g.ok i x d l c);show _=some ((y=="do"),[]);simp) (fun w hw s=>by
   obtain⟨l,c,rfl⟩:=NF.mp hw;obtain⟨y,r,rfl,u⟩:=Qct (g.ok i x d l c);have q:y="do":=by have:(y==("do":Str))=true:=s;simpa using this
   obtain⟨w,rfl,e⟩:=u q;have:=QhY (x:=w) (l:=(p.map (·.1)).drop (i+1)) (h:=[]);rw[decide_eq_true e]at this;have z:wIn false (.str w) (QE ((p.map (·.1)).drop (i+1))) []=some (.bl true,[]):=this
   simp[z]) (by simp;have:=g.sz x t;exact JU (by omega))
 have v:U5 [.lst (((x.2.map Qh).filter m).map fun _=>W.bl true)] []=some (.bl true,[]):=VH fun w hw=>by
  obtain⟨_,_,rfl⟩:=NF.mp hw;rfl
 simp only[Z2]at n;refine⟨[some (Qw p),some (QE (p.map (·.1))),some (.int i),some (QP x),x4],rfl,[some (Qw p),some (QE (p.map (·.1))),some (.int i),some (QP x),some (QE ((p.map (·.1)).drop (i+1)))],[],.inl ?_,_,_,_,rfl,rfl⟩;simp[f,n,v,-DJ]
theorem G6{h:MH}(i:GoodP N bs ws p)(hN:N<=100000):QY [Qw p] h=some (.bl true,h):=by
 have n:=i.len
 have a:=ZS (items:=K1 (p.map QP)) (b:=VS [2,3]) (body:=QA) (fun j m h=>∃f d c,m=[some (Qw p),some (QE (p.map (·.1))),f,d,c]/\h=[]) (K1 (p.map QP)) 0 [some (Qw p),some (QE (p.map (·.1))),none,none,none] [] ⟨none,none,none,rfl,rfl⟩ (by
  rintro j w r m h ⟨f,d,c,rfl,rfl⟩
  obtain⟨x,q,rfl⟩:=QdN r
  exact G4 i hN q)
 obtain⟨o,u,e,f,d,c,rfl,rfl⟩:=a;have ei:Gr (Qa (Qb 0) Qd) [some (Qw p),some (QE (p.map (·.1))),none,none,none] []=some (K1 (p.map QP),none,[]):=rfl
 have t:VZ (Gr (Qa (Qb 0) Qd)) (VS [2,3]) QA [some (Qw p),some (QE (p.map (·.1))),none,none,none] []=some (.nx [some (Qw p),some (QE (p.map (·.1))),f,d,c] []):=by
  unfold VZ;rw[ei,Np];exact e
 have en:=Ya (p:=p) (by omega) [none,none,none,none] [];have hu:=Qcl i.nd
 have s:YN [QE (p.map (·.1))] []=some (.int p.length,[]):=by
  unfold YN QE;simp only[lsW,Np,UL];rw[if_pos (by simp;omega),hu];simp
 refine QC (g:=[]) (by simp) ?_ rfl;have l:QN Z2 (Qr (Qb 0)) [none] (ZJ 0) VV (Qf wIx (Qb 0) (mC (.int 0))) [some (Qw p),none,none,none,none] []=some (QE (p.map (·.1)),[]):=en;simp[Zn,QJ,l,s,t]
theorem Qcv(P:MSt->Prop)(f:W->W):∀(rest a:List W) (d:MSt),P d->(∀w∈rest,∀d,P d->∃c,b w d h=some c/\P c/\me c h=some (f w,h))->a.length+rest.length<=sizeLine->ZB fin items none b VV me rest a d h=fin (a++rest.map f) h
 |[],a,d,_,_,_=>by unfold ZB;rw[if_pos (Ze _ _)];simp
 |w::rest,a,d,j,e,m=>by
  have l:a.length+(rest.length+1)<=sizeLine:=by simpa using m
  obtain⟨c,o,g,n⟩:=e w Nt d j;unfold ZB;rw[if_pos (Ze _ _),o,Np];show(some (true,h)).bind _=_;rw[Np];simp only[n,Np];rw[if_pos (by lia),Qcv P f rest (a++[f w]) c g (fun x i=>e x (Nq _ i)) (by simp;lia)];simp
theorem QhV(P:MSt->Prop)(f:W->W)(g:mi σ h=some (items,none,h))(i:P (QdI cp σ))(d:∀w∈items,∀c,P c->∃a,b w c h=some a/\P a/\me a h=some (f w,h))(e:items.length<=sizeLine):QN fin mi cp b VV me σ h=fin (items.map f) h:=by
 unfold QN;rw[g,Np];rw[Qcv P f items [] _ i d (by simpa using e)];simp
theorem UW{x:Pt}{h:MH}(d:GoodP N bs ws p)(Q:p[0]?=some x)(t:(als p).length<=1000)(s:bs.length<=5)(q:ws.length<=5)(hz:Lo (szw (sd (p.drop 1)) x.2) 48 500 6 24)
  (e:∀y∈p,(szw [] y.2).pl<=48/\(szw [] y.2).bk<=500/\(szw [] y.2).dp<=6):ZI [Qw p] h=some (.bl true,h):=by
 obtain⟨B,hB,eB⟩:=Qf0 (h:=[]) d t s;obtain⟨Wo,hW,f,eW⟩:=Qf7 d t q
 obtain⟨c,z,s2,Z⟩:=K9 (kd:="back") (k:=0) (Wd:=ws) (ls:=als p) (σ:=[some (Qw p),none,none]) (h:=[]) (WP rfl t []) ⟨_,rfl⟩ (by omega) fun l r=>by
  obtain⟨la,R⟩:=WO d l r;exact QdD R
 have v:QN Z2 (Qr (Qg 1 Qk (Qa (Qb 0) Qd))) [none] (ZJ 0) (Qi (Qf wEq (Qf wIx (Qb 0) (mC (.int 0))) (mC (.str "back")))) (Qf wIx (Qb 0) (mC (.int 1))) [some (Qw p),none,none] []=some (.lst (c.map .str),[]):=Z;have u1:=Ku f;have u2:=Ku z;have u3:(St.uniq (Wo++c)).length<=ws.length:=Ku fun y m=>(Eo.mp m).elim (f y) (z y)
 have U:GP [.lst (Wo.map .str),.lst (c.map .str)] []=some (.int (St.uniq (Wo++c)).length,[]):=by
  unfold GP;simp only[lsW,Np,UL];rw[if_pos ⟨by omega,by omega,by omega⟩]
 have P:¬(5:Int)<B.length:=by omega
 have O:¬(5:Int)<(St.uniq (Wo++c)).length:=by omega
 have A:∀h,Jy [Qw p] h=some (Xg (szw (sd (p.drop 1)) x.2),h):=fun h=>Qc0 d Q;generalize hS:szw (sd (p.drop 1)) x.2=S at A hz;obtain⟨H,G,E,z4⟩:=hz;have M:¬(24:Int)<S.wy:=by omega
 have u:Zq [Xg S] []=some (.bl true,[]):=by rw[Qbl];simp[H,G,E]
 have C:=QhV (fin:=Z2) (mi:=Qr (Qb 0)) (cp:=[none,none]) (b:=VS [0,1]) (me:=Qg 1 Zq (Qa (Qg 1 Jq (Qa (Qb 1) Qd)) Qd)) (σ:=[some (Qw p),some (.lst (c.map .str)),some (Xg S)]) (h:=[]) (items:=p.map QP) (fun n=>n.length=2) (fun _=>.bl true) rfl rfl (fun w hw n o=>by
  obtain⟨y,m,rfl⟩:=NF.mp hw;obtain⟨i,T⟩:=NE.mp m;have Y:∀h,Jq [.tup (y.2.map Qh)] h=some (Xg (szw [] y.2),h):=fun h=>QeX fun l r=>QhE (d.ok i y T l r);obtain⟨L,J,I⟩:=e y m;have u:∀h,Zq [Xg (szw [] y.2)] h=some (.bl true,h):=fun h=>by rw[Qbl];simp[L,J,I]
  match n,o with
  |[a,b],_=>exact⟨[some (.str y.1),some (.tup (y.2.map Qh))],rfl,rfl,by simp[Y,u]⟩) (by simp;have:=d.len;exact JU (by omega))
 have j:U5 [.lst ((p.map QP).map fun _=>W.bl true)] []=some (.bl true,[]):=VH fun w hw=>by
  obtain⟨_,_,rfl⟩:=NF.mp hw;rfl
 simp only[Z2]at C;refine QC (g:=[]) (by simp) ?_ rfl;simp[Z5,QJ,eB,v,eW,U,P,O,A,QlL,M,u,C,j,-DJ]
theorem Ui{x:Pt}{h:MH}(a:GoodP N bs ws p)(hN:N<=70000)(s:p[0]?=some x)(B:(als p).length<=1000)(j:bs.length<=5)(e:ws.length<=5)(A:∀x∈bs,Nm x)(hw:∀x∈ws,Nm x)(l:∀x∈p,Nm x.1)
  (hz:Lo (szw (sd (p.drop 1)) x.2) 48 500 6 24) (b:∀y∈p,(szw [] y.2).pl<=48/\(szw [] y.2).bk<=500/\(szw [] y.2).dp<=6):Q4 [Qw p] h=some (.bl true,h):=by
 have m:=a.len;have u:=EN.mpr a.ne
 have n:=ZC (fin:=Z2) (mi:=Qr (Qb 0)) (cp:=[none]) (me:=Qg 1 VL (Qa (Qb 0) Qd)) (σ:=[some (Qw p)]) (caps:=[]) (h:=[]) (items:=p.map QP) (fun _=>.bl true) rfl ⟨_,rfl⟩ (fun w f=>by
  obtain⟨y,d,rfl⟩:=NF.mp f;obtain⟨i,v⟩:=NE.mp d
  have:=QhA (h:=[]) A hw (la:=(p.map (·.1)).drop (i+1)) (fun z hz=>by
   obtain⟨q,t,rfl⟩:=NF.mp (DP hz)
   exact l q t) (l y d) (a.ok i y v) (a.bal y d) (Nl (a.sz y d) hN)
  simp[this]) (by simp;exact JU (by omega))
 have c:U5 [.lst ((p.map QP).map fun _=>W.bl true)] []=some (.bl true,[]):=VH fun w hw=>by
  obtain⟨_,_,rfl⟩:=NF.mp hw;rfl
 simp only[Z2]at n;have D:(1:Int)<=p.length:=by omega
 have C:(p.length:Int)<=5:=by omega
 have I:(Qi (JV wLe wLe (mC (.int 1)) (mFn JC (Qa (Qb 0) Qd)) (mC Za))) [some (Qw p)] []=some (true,[]):=by
  have H:mFn JC (Qa (Qb 0) Qd) [some (Qw p)] []=some (.int p.length,[]):=by unfold Qw;simp
  have o:JV wLe wLe (mC (.int 1)) (mFn JC (Qa (Qb 0) Qd)) (mC Za) [some (Qw p)] []=some (.bl (decide ((1:Int)<=p.length)&&decide ((p.length:Int)<=5)),[]):=UQ rfl H rfl rfl rfl;rw[decide_eq_true D,decide_eq_true C]at o;simp[o]
 have ei:K4 [Qw p,.ty "tuple"] []=some (.bl true,[]):=by unfold Qw;simp[ZO]
 have E:∀h,QY [Qw p] h=some (.bl true,h):=fun h=>G6 a (by omega);have G:∀h,ZI [Qw p] h=some (.bl true,h):=fun h=>UW a s B j e hz b;refine QC (g:=[]) (by simp) ?_ rfl;simp[JO,QJ,ei,I,n,c,E,G,-DJ]
end
theorem GF(e:t σ h=some (true,h))(c:body σ h=some (.nx a b)):QF t body (f+1) σ h=QF t body f a b:=by
 rw[QF,e];show(body σ h).bind _=_;rw[c];rfl
theorem Qbv(e:t σ h=some (false,h)):QF t body (f+1) σ h=some (.nx σ h):=by rw[QF,e];rfl
noncomputable abbrev dS(p:List Pt)(o:Option W):MSt:=[some (Qw p),some (QE (p.map (·.1))),some (.ref 0),some (.ref 1),o]
noncomputable abbrev dH(F S:List Ln)(a:MH):MH:=.lst (F.map Qh)::.lst (S.map Qh)::a
noncomputable abbrev doL(nm:Str):Ln:=["do",nm]
noncomputable abbrev dT:MT:=Qi (Qf wGt (mFn JC (Qa (Qb 3) Qd)) (mC (.int 0)))
theorem QcN{p:List Pt}{nm:Str}{j:Nat}{h:MH}(a:(p.map (·.1)).findIdx? (·==nm)=some j):Xw (QE (p.map (·.1))) [.str nm] h=some (.int j,h):=by
 unfold Xw QE;simp only[lsW,Np];rw[V6 h (.str nm) 40 rfl (by simp[dep]),J5 h _ 40 JZ (Nl Xx (by decide)),Np,Np,QaH a];rfl
section
variable{N:Nat}{bs ws:List Str}{p:List Pt}
theorem Qdf{F S:List Ln}{a:MH}{o:Option W}{x:Str}{r:List Str}(c:x≠"do")(d:F.length<=100000):Q9 (dS p o) (dH F (S++[x::r]) a)=some (.nx (dS p (some (Qh (x::r)))) (dH (F++[x::r]) S a)):=by
 have b:F.length<sizeLine:=VR (by omega);simp[c,b]
theorem Qil{F S:List Ln}{b:MH}{o:Option W}{nm:Str}{j:Nat}{y:Pt}(e:(p.map (·.1)).findIdx? (·==nm)=some j)(d:p[j]?=some y)(i:S.length+y.2.length<=100000):Q9 (dS p o) (dH F (S++[doL nm]) b)=some (.nx (dS p (some (Qh (doL nm)))) (dH F (S++y.2.reverse) (b++[.lst ((y.2.map Qh).reverse)]))):=by
 have c:S.length+y.2.length<=sizeLine:=JU (by omega);have g:=Kz d;have ei:∀h,Xw (QE (p.map (·.1))) [.str nm] h=some (.int j,h):=fun h=>QcN e;have f:∀h,QgD [.tup (y.2.map Qh)] h=some (.ref h.length,h++[.lst (y.2.map Qh).reverse]):=fun h=>rfl;have a:∀h,tyW h "list" (QE (p.map (·.1)))=true:=fun h=>rfl;simp[ei,a,g,f,c]
theorem QdE(d:GoodP N bs ws p)(hN:N<=700):∀(n i:Nat) (x:Pt),5-i<=n->p[i]?=some x->∀L:List Ln,(∀l∈L,l∈x.2) ->
  ∃c,c<=(L.map (cst i)).sum/\∀(S F:List Ln) (a:MH) (o:Option W) (f:Nat),S.length+L.length+700*n<=90000->F.length+(L.flatMap (ex p)).length<=90000 ->
   ∃m u,QF dT Q9 (f+c) (dS p o) (dH F (S++L.reverse) a)=QF dT Q9 f (dS p u) (dH (F++L.flatMap (ex p)) S m):=by
 have I:=d.len;intro n
 induction n with
 |zero=>intro i x h g;have:=(Nh.mp g).1;omega
 | succ n T=>
  intro i x h g L
  induction L with
  |nil=>intro _;exact⟨0,by simp,fun S F a o f _ _=>⟨a,o,by simp⟩⟩
  | cons l L v=>
   intro M;have q:=M l Nt;obtain⟨c,hc,k⟩:=v fun y b=>M y (Nq _ b);have G:∀(F S:List Ln) (l:Ln) (a:MH) (o:Option W),dT (dS p o) (dH F (S++[l]) a)=some (true,dH F (S++[l]) a):=fun F S l a o=>by simp
   cases hd:KZ p l with
   |none=>
    have s:=Qdl d g q hd;obtain⟨y,r,rfl⟩:=JW (d.ok i x g l q);have b:y≠"do":=by simpa[VN]using s
    have E:ex p (y::r)=[y::r]:=by unfold ex;rw[hd]
    refine⟨c+1,by simp[cst,s];omega,fun S F a o f A B=>?_⟩;simp only[ED,E,Ny,NR,Dh]at B A ⊢;obtain⟨m,u,e⟩:=k S (F++[y::r]) a (some (Qh (y::r))) f (by omega) (by simp only[Ny,NR,Dh];omega);refine⟨m,u,?_⟩;rw[E4,<-DD,<-Fi,GF (G _ _ _ _ _) (Qdf b (by omega)),e];simp
   | some j=>
    obtain⟨g1,g2,g3,g4⟩:=W9 d g q hd;have b:p[j]?=some p[j]:=Ni g2;generalize p[j]=y at b;have w:=NN b;obtain⟨c2,aa,R⟩:=T j y (by omega) b y.2 fun _ h=>h;obtain⟨z,r,rfl⟩:=JW (d.ok i x g l q);have H:z="do":=by simpa[VN]using g3
    obtain⟨t,rfl,Y⟩:=X8 (d.ok i x g _ q) H;subst H;have Z:(p.map (·.1)).findIdx? (·==t)=some j:=by unfold KZ at hd;rw[if_pos g3]at hd;exact hd
    have E:ex p (doL t)=X p j:=by unfold ex;rw[hd]
    have J:=QcJ d b;have U:=d.sz y w;refine⟨c+c2+1,?_,fun S F a o f A B=>?_⟩
    ·rw[NA,DS];have h1:cst i (doL t)=Wt (i+1)+2:=by unfold cst;rw[if_pos g3]
     have h2:(y.2.map (cst j)).sum<=Wt j:=by
      have:=QaS (x:=y) (i:=j) (k:=0) (by omega) (d.dos j y b) (by omega);unfold rem at this;rwa[D8]at this
     have h3:=QaW g1;rw[h1];omega
    ·simp only[ED,E,Ny,NR]at B A ⊢;obtain⟨D,Q,O⟩:=R (S++L.reverse) F (a++[.lst ((y.2.map Qh).reverse)]) (some (Qh (doL t))) (f+c) (by simp;omega) (by rw[<-J];omega);rw[<-J]at O;obtain⟨C,P,e3⟩:=k S (F++X p j) D Q f (by omega) (by simp only[Ny];omega);refine⟨C,P,?_⟩;rw[E4,<-DD,<-Fi,<-Fi,GF (G _ _ _ _ _) (Qil Z b (by simp;omega)),O,e3];simp
theorem Qj3{x:Pt}{h:MH}(b:GoodP N bs ws p)(hN:N<=700)(hr:RL p)(a:p[0]?=some x):J9 [Qw p] h=some (Qw [(x.1,X p 0)],h):=by
 have l:=b.len;obtain⟨c,y,k⟩:=QdE b hN 5 0 x (by decide) a x.2 fun _ h=>h;have q:=NN a;have n:=b.sz x q;have m:=QcJ b a;have t:(X p 0).length<=65330:=(xok b hr 5 0 (by decide) (Nh.mp a).1).len
 have s:(x.2.map (cst 0)).sum<=65330:=by
  have:=QaS (x:=x) (i:=0) (k:=0) (by omega) (b.dos 0 x a) (by decide);unfold rem at this;rwa[D8]at this
 obtain⟨d,o,e⟩:=k [] [] [] none (1000000-c) (by simp;omega) (by rw[<-m];simp only[Dh];omega);rw[show 1000000-c+c=1000000 by omega,<-m]at e;obtain⟨f,r⟩:∃f,1000000-c=f+1:=⟨1000000-c-1,by omega⟩
 rw[r]at e;have e:=e.trans (Qbv (by simp));simp only[FE]at e;have v:atI (p.map QP) 0=some (QP x):=Kz a;have en:=Ya (p:=p) (by omega) [none,none,none,none] [];have j:QN Z2 (Qr (Qb 0)) [none] (ZJ 0) VV (Qf wIx (Qb 0) (mC (.int 0))) [some (Qw p),none,none,none,none] []=some (QE (p.map (·.1)),[]):=en;have u:∀h,QgD [.tup (x.2.map Qh)] h=some (.ref h.length,h++[.lst (x.2.map Qh).reverse]):=fun h=>rfl;refine QC (g:=dH (X p 0) [] d) (by simp) ?_ (by simp)
 have w:QF dT Q9 1000000 [some (Qw p),some (QE (p.map (·.1))),some (.ref 0),some (.ref 1),none] [.lst [],.lst (x.2.map Qh).reverse]=some (.nx (dS p o) (dH (X p 0) [] d)):=by
  rw[<-Om];exact e
 have z:Jj [.ref 0] (dH (X p 0) [] d)=some (.tup ((X p 0).map Qh),dH (X p 0) [] d):=by simp
 show _=some (W.tup [W.tup [.str x.1,.tup ((X p 0).map Qh)]],dH (X p 0) [] d);simp[-Om,Vu,QJ,j,v,u,w]
end
section
variable{bs ws:List Str}
inductive BKs(bs ws:List Str):List Pt->List Pt->Prop where
 |nil:BKs bs ws [] []
 |cons {x y:Pt} {r s:List Pt} (h1:y.1=x.1) (h2:BI bs ws (r.map (·.1)) x.2 y.2 x.2.length) (h3:bcn y.2<=10) (h:BKs bs ws r s):BKs bs ws (x::r) (y::s)
theorem BKs.names{p q:List Pt}(h:BKs bs ws p q):q.map (·.1)=p.map (·.1):=by
 induction h with
 |nil=>rfl
 |cons b _ _ _ a=>rw[NA,NA,b,a]
theorem BKs.at{p q:List Pt}(h:BKs bs ws p q):∀{i:Nat} {y:Pt},q[i]?=some y->∃x,p[i]?=some x/\y.1=x.1/\BI bs ws ((p.map (·.1)).drop (i+1)) x.2 y.2 x.2.length/\bcn y.2<=10:=by
 induction h with
 |nil=>intro i y e;simp at e
 |cons l j g _ f=>
  intro i y e;cases i with
  |zero=>simp at e;subst e;exact⟨_,rfl,l,by simpa using j,g⟩
  |succ i=>obtain⟨x,a,b,c,d⟩:=f (by simpa using e);exact⟨x,by simpa using a,b,by simpa using c,d⟩
noncomputable def PLs(bs ws:List Str):List Pt->Prop
 |[]=>True
 |x::r=>(∀l∈x.2,LineOk bs ws (r.map (·.1)) l)/\Bal (x.2.map cdL)/\x.2.length<=50/\(∀l∈x.2,XD l=false)/\PLs bs ws r
theorem QhC{p:List Pt}(b:GoodP 50 bs ws p)(f:∀x∈p,∀l∈x.2,XD l=false):∀(n i:Nat),p.length-i<=n->PLs bs ws (p.drop i):=by
 intro n
 induction n with
 |zero=>intro i h;rw[Eh (by omega)];trivial
 |succ n e=>
  intro i h
  by_cases d:i<p.length
  ·have c:p[i]?=some p[i]:=Ni d;have a:=NN c;rw[Ei d];refine⟨fun l g=>?_,b.bal _ a,b.sz _ a,f _ a,e (i+1) (by omega)⟩;have:=b.ok i _ c l g;rwa[<-Fk]at this
  ·rw[Eh (by omega)];trivial
noncomputable abbrev bkE:ME:=mFn JM (Qa (Qb 0) (Qa (Qg 3 ZK (Qa (Qb 1) (Qa (Qb 2) (Qa (mC (.int 10)) Qd)))) Qd))
theorem Yg{items:List W}{n:Nat}:∀(rest:List Pt) (c:List W) (a b:Option W) (h:MH) (f:Fd),PLs bs ws rest->h[n]?=some (Qm f)->c.length+rest.length<=1000 ->
  ∃(q:List Pt) (j:Fd),BKs bs ws rest q/\ZB Z2 items none (VS [0,1]) VV bkE (rest.map QP) c [a,b,some (.ref n)] h=some (.lst (c++q.map QP),h.set n (Qm j))
 | [],c,a,b,h,f,_,d,_=>by
  refine⟨[],f,.nil,?_⟩
  have:h.set n (Qm f)=h:=by
   apply DB;intro i;rw[L5];split
   ·rename_i e;subst e;rw[d];have:=(Nh.mp d).1;simp[this]
   ·rfl
  rw[this];show ZB Z2 items none (VS [0,1]) VV bkE [] c [a,b,some (.ref n)] h=_;unfold ZB;rw[if_pos (Ze _ _)];simp[Z2]
 |x::r,c,a,b,h,f,v,d,l=>by
  obtain⟨t,s,p,o,m⟩:=v;obtain⟨F,f1,B,A,e⟩:=Qdt f s p t o;have z:=e h n d;have g:=(Nh.mp d).1;obtain⟨q,j,u,y⟩:=Yg (items:=items) r (c++[QP (x.1,F)]) (some (.str x.1)) (some (.tup (x.2.map Qh))) (h.set n (Qm f1)) f1 m (by rw[E9 g]) (by simp at l ⊢;omega);refine⟨(x.1,F)::q,j,.cons rfl B A u,?_⟩;rw[NA];unfold ZB;rw[if_pos (Ze _ _)];have g1:VS [0,1] (QP x) [a,b,some (.ref n)] h=some [some (.str x.1),some (.tup (x.2.map Qh)),some (.ref n)]:=rfl;rw[g1,Np];show(some (true,h)).bind _=_;rw[Np];have w:bkE [some (.str x.1),some (.tup (x.2.map Qh)),some (.ref n)] h=some (QP (x.1,F),h.set n (Qm f1)):=by simp[z,QP]
  simp only[w,Np];rw[if_pos (by simp at l;exact VR (by omega)),y,List.set_set];simp
theorem Qiy{p q:List Pt}(m:GoodP 50 bs ws p)(P:TP bs ws p)(E:BKs bs ws p q):GoodP 100 bs ws q/\TQ bs ws q:=by
 have t:=E.names;have G:q.length=p.length:=by have:=congrArg List.length t;simpa using this
 have o:=Qhc P;have j:∀{i:Nat} {y:Pt},q[i]?=some y->∃x,p[i]?=some x/\y.1=x.1/\BI bs ws ((p.map (·.1)).drop (i+1)) x.2 y.2 x.2.length/\bcn y.2<=10:=fun b=>E.at b
 have n:∀y∈q,∃i x,q[i]?=some y/\p[i]?=some x/\y.1=x.1/\BI bs ws ((p.map (·.1)).drop (i+1)) x.2 y.2 x.2.length/\bcn y.2<=10:=fun y b=>by
  obtain⟨i,J⟩:=NE.mp b;obtain⟨x,a⟩:=j J;exact⟨i,x,J,a⟩
 have cnt:∀{x y:Pt} {B:List Str},BI bs ws B x.2 y.2 x.2.length->nbk y.2=nbk x.2/\dcn y.2=dcn x.2/\∀D,Dp D x.2->Dp D y.2:=fun {x y B} H=>by
  have c:=H.nb;have f:=H.dc;rw[Eu]at c f;exact⟨c,f,H.dp⟩
 have r:∀{a d:Nat} {l:Int} {M L:Nat} {C:Int},Tw a d l M L C p->Tw a d l M L C q:=fun h=>⟨fun y b=>by
   obtain⟨x,c,f,e,g⟩:=j b;obtain⟨A,w,v⟩:=cnt e;obtain⟨O,N,s⟩:=h.1 x c;exact⟨by omega,by omega,v _ s⟩,fun i y b=>by
   obtain⟨x,c,f,e,g⟩:=j b;obtain⟨A,w,v⟩:=cnt e;obtain⟨O,N,s⟩:=h.2 i x c
   exact⟨by omega,by omega,v _ s⟩⟩
 refine⟨⟨fun z=>m.ne (NM.mp (by rw[<-G,z];rfl)),by rw[G];exact m.len,fun y b=>?_,fun y b=>?_,fun i y b=>?_,by rw[t];exact m.nd,fun i y b=>?_⟩,⟨?_,fun y b=>?_,o.nbs,o.nws,fun y b=>?_⟩⟩
 ·obtain⟨i,x,u,c,f,e,g⟩:=n y b;have I:=e.kr;rw[Eu]at I;exact bal_iff.mpr (I.trans (bal_iff.mp (m.bal x (NN c))))
 ·obtain⟨i,x,u,c,f,e,g⟩:=n y b;have:=e.ln;have:=m.sz x (NN c);omega
 ·obtain⟨x,c,f,e,g⟩:=j b;rw[t];exact e.ok
 ·obtain⟨x,c,f,e,g⟩:=j b;rw[(cnt e).2.1];exact m.dos i x c
 ·rcases o.tw with h|⟨h,Q⟩|h
  ·exact .inl (r h)
  ·refine .inr (.inl ⟨r h,fun y b=>?_⟩);obtain⟨x,c,f,e,g⟩:=j b;obtain⟨A,w,_⟩:=cnt e;rw[A,w];exact Q x c
  ·exact .inr (.inr (r h))
 ·obtain⟨i,x,u,c,f,e,g⟩:=n y b;exact g
 ·obtain⟨i,x,u,c,f,e,g⟩:=n y b;rw[f];exact o.nps x (NN c)
end
theorem QcI{a:W}{h:MH}(b:pln a=true)(c:dep a<=40):wNe a a h=some (.bl false,h):=by rw[Qmd b b c c,GO a b];rfl
theorem WN{n:Nat}{h:MH}:wIn false (.bl false) (.lst (List.replicate n (.bl true))) h=some (.bl false,h):=by
 have a:Ye (List.replicate n (.bl true))=true:=YJ fun w hw=>by rw[(Er.mp hw).2];rfl
 have hd:Uy (List.replicate n (.bl true))<=40:=YL fun w hw=>by rw[(Er.mp hw).2];simp[dep]
 rw[Qfo rfl a (by simp[dep]) hd]
 have:inW (.bl false) (List.replicate n (.bl true))=false:=by
  unfold inW;rw[FX];intro w hw;rw[(Er.mp hw).2];simp[eqW]
 simp[this]
theorem Wu{H0:MH}{o:MO}:(H0++[o])[H0.length]?=some o:=by simp
theorem KN{H0:MH}{o a:MO}:(H0++[o]).set H0.length a=H0++[a]:=by simp
theorem Yc{lo c:Int}(h:(JT lo c n)[j]?=some w):j<n/\w=.int (lo+(j:Int)*c):=by
 have a:=(Nh.mp h).1;simp[JT]at a;refine⟨a,?_⟩;unfold JT at h;rw[Nz,EM a]at h;cases h;rfl
theorem Qj1{m:Int}(b:2<=m)(a:m<=8):Builtin.Range.small 0 m 2=true/\∃n:Nat,(Builtin.Range.rangeSize 0 m 2).toNat=n/\n<=4:=by
 have key:∀n:Fin 9,Builtin.Range.small 0 (n.val:Int) 2=true/\(Builtin.Range.rangeSize 0 (n.val:Int) 2).toNat<=4:=by decide
 obtain⟨n,rfl⟩:=Int.eq_ofNat_of_zero_le (LX (by decide) b);have h:=key ⟨n,Ob (Int.ofNat_le.mp a)⟩;exact⟨h.1,_,rfl,h.2⟩
theorem QdV{a:MA}{σ:MSt}{h h':MH}{m:Int}(e:a σ h=some ([.int 0,.int m,.int 2],h'))(g:2<=m)(f:m<=8):∃n:Nat,n<=4/\Qi8 a σ h=some (JT 0 2 n,none,h'):=by
 obtain⟨b,n,c,d⟩:=Qj1 g f;refine⟨n,d,?_⟩;unfold Qi8;rw[e,Np];refine(if_pos ⟨by decide,by decide,b⟩).trans ?_;rw[c]
section
variable{N:Nat}{bs ws:List Str}{p:List Pt}
theorem Qge{Y:List Ln}(h:∀l∈Y,VN l=false):(Zs [] qz Y).pl+(Zs [] qz Y).bk=Y.length:=by
 induction Y using Xf with
 |nil=>rfl
 |snoc L l a=>
  have d:=a fun y b=>h y (NS _ b);have c:=h l (by simp);rw[Z3,Ny];simp only[YZ];have:(Zm [] l).pl+(Zm [] l).bk=1:=by unfold Zm;simp[c];split<;>rfl
  simp;omega
theorem Qcz{nm:Str}{Y:List Ln}(b:GoodP N bs ws [(nm,Y)])(h:∀l∈Y,VN l=false):X [(nm,Y)] 0=Y:=by
 rw[QcJ b (x:=(nm,Y)) rfl];show Y.flatMap _=Y
 rw[Kj (g:=fun l=>[l]) fun l a=>by
  unfold ex KZ
  rw[if_neg (by rw[h l a];simp)]]
 simp
structure Told(q:List Pt)(f:W):Prop where
 due:∀h,J9 [Qw q] h=some (f,h)
 fl:∀h,XG [Qw q] h=some (f,h)
 fl2:∀h,XG [f] h=some (f,h)
 pr:∀h,Q4 [Qw q] h=some (.bl true,h)
 pr2:∀h,Q4 [f] h=some (.bl true,h)
 sh:∃nm Y,f=Qw [(nm,Y)]/\Y.length<=1000
theorem Qgc{q:List Pt}(a:GoodP 100 bs ws q)(b:TQ bs ws q)(i:bs.length<=5)(e:ws.length<=5):∃f,Told q f:=by
 have hr:RL q:=QhS (KQ a (by decide));have s:=EN.mpr a.ne;have c:q[0]?=some q[0]:=Ni s;generalize q[0]=x at c;have E:=NN c;obtain⟨g1,g2⟩:=Qa6 (nm:=x.1) a hr;have t:=xok a hr 5 0 (by decide) s;have g:∀l∈X q 0,VN l=false:=fun l m=>(t.ok l m).2;have n:=QdR a b c;obtain⟨z,w,v,u⟩:=n;obtain⟨D,C,H,B,A⟩:=Qch a hr 5 0 x (by decide) c
 have d:(szw [] (X q 0)).pl<=48/\(szw [] (X q 0)).bk<=500/\(szw [] (X q 0)).dp<=6/\(szw [] (X q 0)).wy<=24:=by
  have O:(szw [] (X q 0)).pl=(szw (sd (q.drop 1)) x.2).pl:=D;have M:(szw [] (X q 0)).bk=(szw (sd (q.drop 1)) x.2).bk:=C;have L:(szw [] (X q 0)).dp=(szw (sd (q.drop 1)) x.2).dp:=B;have J:(szw [] (X q 0)).wy=1:=A;exact⟨by omega,by omega,by omega,by omega⟩
 have m:(X q 0).length<=1000:=by
  have:=Qge g;have G:(Zs [] qz (X q 0)).pl<=48:=d.1;have r:(Zs [] qz (X q 0)).bk<=500:=d.2.1;omega
 have o:(als q).length<=1000:=by
  have G:=Qeq (p:=q) (N:=100) a.sz;have r:=a.len;have:q.length*100<=5*100:=FF _ r;omega
 refine⟨Qw [(x.1,X q 0)],fun h=>Qj3 (N:=700) (KQ a (by decide)) (by decide) hr c,fun h=>Qbg a hr c h,fun h=>?_,fun h=>Ui a (by decide) c o i e b.nbs b.nws b.nps ⟨z,w,v,u⟩ fun y j=>QgU a b j,fun h=>?_,x.1,X q 0,rfl,m⟩
 ·have:=Qbg g1 g2 (x:=(x.1,X q 0)) rfl h;rwa[Qcz g1 g]at this
 ·refine Ui g1 (by decide) (x:=(x.1,X q 0)) rfl (by simpa[als]using m) i e b.nbs b.nws (by simp;exact b.nps x E) d fun y j=>?_;simp at j;subst j;exact⟨d.1,d.2.1,d.2.2.1⟩
end
noncomputable abbrev wS(ns:List Int)(j:Nat)(x2 x3 x4 x5:Option W):MSt:=[some (.frz (ns.map .int)),some (.int j),x2,x3,x4,x5]
theorem QcY{ns:List Int}{j:Nat}{x2 x3 x4 x5:Option W}{h:MH}(Z:j<50):∃O N M L h',YE (wS ns j x2 x3 x4 x5) h=some (.nx (wS ns j O N M L) h'):=by
 obtain⟨f1,D⟩:=Qci ns j (by omega);obtain⟨bs,t,p,g,P,hw,⟨u,z⟩,Q⟩:=QiC f1 3 3 5 8 (by decide) (by decide) (by decide) (by decide);obtain⟨f2,C⟩:=Qci ns (j+1) (by omega);have I:=D h;have s:=Q (h++[Qm f1]) h.length Wu;rw[KN]at s;have v:=C (h++[Qm g]);push_cast at v s;generalize E:h++[Qm g]=H at s v
 have G:Qc [.ref H.length,.int 2] (H++[Qm f2])=some (.int (tk f2 2),H++[Qm (tf f2 2)]):=by
  rw[GU (by decide) (by decide) Wu,KN]
 obtain⟨q,e,A,y,eq⟩:∃(q:List Pt) (e:Fd),GoodP 100 bs t q/\TQ bs t q/\((tk f2 2=0/\∀x4 x5,QN Z2 (Qr (Qb 2)) [none,none,some 3] (VS [0,1]) VV (mFn JM (Qa (Qb 0) (Qa (Qg 3 ZK (Qa (Qb 1) (Qa (Qb 2) (Qa (mC (.int 10)) Qd)))) Qd))) (wS ns j (some (Qw p)) (some (.ref H.length)) x4 x5) (H++[Qm (tf f2 2)])=some (.lst (q.map QP),H++[Qm e]))\/(¬tk f2 2=0/\q=p/\e=tf f2 2)):=by
  by_cases d:tk f2 2=0
  ·obtain⟨q,e,B,r⟩:=Yg (bs:=bs) (ws:=t) (items:=p.map QP) (n:=H.length) p [] none none (H++[Qm (tf f2 2)]) (tf f2 2) (by have:=QhC u z.nb p.length 0 (Da _ _);simpa using this) Wu (by have:=u.len;simp;omega);obtain⟨a,b⟩:=Qiy u z B;refine⟨q,e,a,b,.inl ⟨d,fun x4 x5=>?_⟩⟩;rw[KN,FE]at r;have ei:Qr (Qb 2) (wS ns j (some (Qw p)) (some (.ref H.length)) x4 x5) (H++[Qm (tf f2 2)])=some (p.map QP,none,H++[Qm (tf f2 2)]):=rfl;unfold QN;rw[ei,Np];exact r
  ·exact⟨p,tf f2 2,KQ u (by decide),Qhc z,.inr ⟨d,rfl,rfl⟩⟩
 obtain⟨f,T⟩:=Qgc A y P.2 hw.2;obtain⟨c,Y,rfl,hY⟩:=T.sh;refine⟨some (Qw q),some (.ref H.length),some (Qw [(c,Y)]),some (Qw [(c,Y)]),H++[Qm e],?_⟩;have en:∀h,wNe (Qw [(c,Y)]) (Qw [(c,Y)]) h=some (.bl false,h):=fun h=>QcI (by simp) (Nl Qju (by decide));have o:∀h,K4 [Qw [(c,Y)],.ty "tuple"] h=some (.bl true,h):=fun h=>by unfold Qw;simp[ZO]
 have m:∀h,K4 [QP (c,Y),.ty "tuple"] h=some (.bl true,h):=fun h=>by unfold QP;simp[ZO]
 have i:∀h,K4 [.tup (Y.map Qh),.ty "tuple"] h=some (.bl true,h):=fun h=>by simp[ZO]
 have x:∀h,wIx (Qw [(c,Y)]) (.int 0) h=some (QP (c,Y),h):=fun h=>by simp
 have r:∀x2 x3 x4 (h:MH),QN Z2 (Qr (Qf wIx (Qf wIx (Qb 5) (mC (.int 0))) (mC (.int 1)))) [none] (ZJ 0) VV (mFn K4 (Qa (Qb 0) (Qa (mC (.ty "tuple")) Qd))) (wS ns j x2 x3 x4 (some (Qw [(c,Y)]))) h=some (.lst (List.replicate Y.length (.bl true)),h):=fun x2 x3 x4 h=>by
  rw[ZC (items:=Y.map Qh) (caps:=[]) (fun _=>W.bl true) (by unfold Qr;simp[x];rfl) ⟨none,rfl⟩ (fun w hw=>by
   obtain⟨l,U,rfl⟩:=NF.mp hw;have:∀h,K4 [Qh l,.ty "tuple"] h=some (.bl true,h):=fun h=>by unfold Qh;simp[ZO]
   simp[this]) (by rw[NC];exact JU (by omega)),IH,NC]
  rfl
 have R:W.tup (q.map QP)=Qw q:=rfl
 rcases eq with⟨d,S⟩|⟨d,rfl,rfl⟩
 ·simp[E,I,s,v,G,d,S,R,T.due,T.fl,T.fl2,T.pr,T.pr2,en,o,m,i,x,r,WN]
 ·simp[E,I,s,v,G,d,T.due,T.fl,T.fl2,T.pr,T.pr2,en,o,m,i,x,r,WN]
theorem main(ns:List Int)(_:ns.length<=63):∃h',XI [.frz (ns.map W.int)] []=some (.bl true,h'):=by
 obtain⟨m,o⟩:∃m:Int,m=(if(if(ns.length:Int)<8 then(ns.length:Int)else 8)>2 then(if(ns.length:Int)<8 then(ns.length:Int)else 8)else 2):=⟨_,rfl⟩
 have u:2<=m:=by rw[o];split<;>omega
 have t:m<=8:=by rw[o];split<;>split<;>omega
 have z:(Qa (mC (.int 0)) (Qa (mFn QgG (Qa (mC (.int 2)) (Qa (mFn QhU (Qa (mC (.int 8)) (Qa (mFn JC (Qa (Qb 0) Qd)) Qd))) Qd))) (Qa (mC (.int 2)) Qd))) [some (.frz (ns.map .int)),none,none,none,none,none] []=some ([.int 0,.int m,.int 2],[]):=by
  rw[o];simp only[QhL,s_c,QmY,QhD,Qkx,Qgp,QgV,Qjg,Qjw,NC]
 obtain⟨n,J,x⟩:=QdV z u t
 have a:=ZS (items:=JT 0 2 n) (b:=ZJ 1) (body:=YE) (fun _ p _=>∃l g f d c,p=[some (.frz (ns.map .int)),l,g,f,d,c]) (JT 0 2 n) 0 [some (.frz (ns.map .int)),none,none,none,none,none] [] ⟨_,_,_,_,_,rfl⟩ (by
  rintro i w s p h ⟨l,g,f,d,c,rfl⟩
  obtain⟨r,rfl⟩:=Yc s;obtain⟨D,C,B,A,h',e⟩:=QcY (ns:=ns) (j:=2*i) (x2:=g) (x3:=f) (x4:=d) (x5:=c) (h:=h) (by omega);have v:(0:Int)+(i:Int)*2=((2*i:Nat):Int):=by omega
  rw[v]
  exact⟨_,rfl,_,h',.inl e,_,_,_,_,_,rfl⟩)
 obtain⟨q,h',y,l,g,f,d,c,rfl⟩:=a;refine⟨h',?_⟩;simp[XI,QJ,VZ,x,y]
end My
def PySem.W.Fast.tw4711685012483998672:Unit:=()
def PySem.W.Fast.tw4343938312545122652:Unit:=()
def PySem.W.Fast.tw5298910125719097544:Unit:=()
def PySem.W.Fast.tw6623810689685992315:Unit:=()
def PySem.W.Fast.tw846034965092824808:Unit:=()
def PySem.W.Fast.tw13318728962770320938:Unit:=()
def PySem.W.Fast.tw16959673105153933980:Unit:=()
def PySem.W.Fast.tw15907181739470013554:Unit:=()
def PySem.W.Fast.tw12167754674604434617:Unit:=()
def PySem.W.Fast.tw12883920875000718003:Unit:=()
def PySem.W.Fast.tw13695330887033331237:Unit:=()
def PySem.W.Fast.tw8676086669769588991:Unit:=()
def PySem.W.Fast.tw11572967094773020617:Unit:=()
def PySem.W.Fast.tw12757572661752197571:Unit:=()
def PySem.W.Fast.tw12714519402543104075:Unit:=()
def PySem.W.Fast.tw10314979661285945709:Unit:=()
def PySem.W.Fast.tw2588456134144863697:Unit:=()
def PySem.W.Fast.tw13618168840851300078:Unit:=()
def PySem.W.Fast.tw8592380287463468231:Unit:=()
def PySem.W.Fast.tw3916901172855481486:Unit:=()
def PySem.W.Fast.tw10212757215377876439:Unit:=()
def PySem.W.Fast.tw7075137221813128354:Unit:=()
def PySem.W.Fast.tw10256936962681982926:Unit:=()
def PySem.W.Fast.tw13766040244658004326:Unit:=()
def PySem.W.Fast.tw9769668092795388523:Unit:=()
def PySem.W.Fast.tw11175238887008004891:Unit:=()
def PySem.W.Fast.tw11373620833328034494:Unit:=()
def PySem.W.Fast.tw14420885841329013:Unit:=()
def PySem.W.Fast.tw481359009733434045:Unit:=()
def PySem.W.Fast.tw10463203151489141887:Unit:=()
def PySem.W.Fast.tw1926898711429468226:Unit:=()
def PySem.W.Fast.tw1362131973580227664:Unit:=()
def PySem.W.Fast.tw15902871671325645736:Unit:=()
def PySem.W.Fast.tw228448374829736156:Unit:=()
def PySem.W.Fast.tw9337748023366131000:Unit:=()
def PySem.W.Fast.tw5055267662335306565:Unit:=()
def PySem.W.Fast.tw10964708802432959917:Unit:=()
def PySem.W.Fast.tw7583086134194575650:Unit:=()
def PySem.W.Fast.tw11436778777157477449:Unit:=()
def PySem.W.Fast.tw11267191058601169489:Unit:=()
def PySem.W.Fast.tw3848987775080496998:Unit:=()
def PySem.W.Fast.tw2085170156498476323:Unit:=()
def PySem.W.Fast.tw5829346493944459022:Unit:=()
def PySem.W.Fast.tw1839425012044348119:Unit:=()
def PySem.W.Fast.tw11749413853292144534:Unit:=()
def PySem.W.Fast.tw9298550532007694292:Unit:=()
def PySem.W.Fast.tw7851671152814016745:Unit:=()
def PySem.W.Fast.tw3652223527391587393:Unit:=()
def PySem.W.Fast.tw9657345144027561508:Unit:=()
def PySem.W.Fast.tw6585056094039660700:Unit:=()
def PySem.W.Fast.tw1015209768761140020:Unit:=()
def PySem.W.Fast.tw3677139996455667260:Unit:=()
def PySem.W.Fast.tw7573198564374198232:Unit:=()
def PySem.W.Fast.tw12352833909658035534:Unit:=()
def PySem.W.Fast.tw11524553684518550685:Unit:=()
def PySem.W.Fast.tw16201694970497750075:Unit:=()
def PySem.W.Fast.tw14109611299622101718:Unit:=()
def PySem.W.Fast.tw7291031040618835702:Unit:=()
def PySem.W.Fast.tw13247536105230282577:Unit:=()
def PySem.W.Fast.tw15475381297848121333:Unit:=()
def PySem.W.Fast.tw11798103160586214344:Unit:=()
def PySem.W.Fast.tw7112107211249125624:Unit:=()
def PySem.W.Fast.tw710390071005185349:Unit:=()
def PySem.W.Fast.tw12828945139905411484:Unit:=()
def PySem.W.Fast.tw5080906353580053917:Unit:=()
def PySem.W.Fast.tw4453298432593100950:Unit:=()
def PySem.W.Fast.tw2944297891378464738:Unit:=()
def PySem.W.Fast.tw7613087570573546405:Unit:=()
def PySem.W.Fast.tw2607084528658095181:Unit:=()
def PySem.W.Fast.tw7563756430523721394:Unit:=()
def PySem.W.Fast.tw15000463969374937639:Unit:=()
def PySem.W.Fast.tw6918199709413974571:Unit:=()
def PySem.W.Fast.tw9538721053282274230:Unit:=()
def PySem.W.Fast.tw5163156829787961616:Unit:=()
def PySem.W.Fast.tw4939241219407691550:Unit:=()
def PySem.W.Fast.tw10414173504301240011:Unit:=()
def PySem.W.Fast.tw17202250420294412793:Unit:=()
def PySem.W.Fast.tw12965136049705554489:Unit:=()
def PySem.W.Fast.tw8515072033014344610:Unit:=()
def PySem.W.Fast.tw1486304173695687468:Unit:=()
def PySem.W.Fast.tw15694503767110622471:Unit:=()
def PySem.W.Fast.tw17769983271750386099:Unit:=()
def PySem.W.Fast.tw8368681137808512447:Unit:=()
def PySem.W.Fast.tw2666656447273190733:Unit:=()
open PySem PySem.W PyProof.Rows
local macro_rules | `(tactic| walk_at $s:str) => do
  match s.getString with
  | "~1" => `(tactic| (dsimp only [L2.KOf]; refine' Mi.Kb $(Lean.mkIdent `KX) $(Lean.mkIdent `G) ?a ?l ?c ?k ?b; (case a => k_is); (case l => k_is); (case c => k_is); (case k => k_is); (case b => exact fun _ _ _ _ _ _ => Mi.ar1 (fun _ => rfl))))
  | "~2" => `(tactic| (dsimp only [L2.KOf]; refine' Mi.Kb $(Lean.mkIdent `KX) $(Lean.mkIdent `G) ?a ?l ?c ?k ?b; (case a => k_is); (case l => k_is); (case c => k_is); (case k => k_is); (case b => exact fun _ _ _ _ _ _ => Mi.ar2 (fun _ _ => rfl))))
  | "~3" => `(tactic| (dsimp only [L2.KOf]; refine' Mi.Kb $(Lean.mkIdent `KX) $(Lean.mkIdent `G) ?a ?l ?c ?k ?b; (case a => k_is); (case l => k_is); (case c => k_is); (case k => k_is); (case b => exact fun _ _ _ _ _ _ => Mi.ar3 (fun _ _ _ => rfl))))
  | "~6" => `(tactic| (dsimp only [L2.KOf]; refine' Mi.Kb $(Lean.mkIdent `KX) $(Lean.mkIdent `G) ?a ?l ?c ?k ?b; (case a => k_is); (case l => k_is); (case c => k_is); (case k => k_is); (case b => exact fun _ _ _ _ _ _ => Mi.ar6 (fun _ _ _ _ _ _ => rfl))))
  | "~b" => `(tactic| (refine' PySem.W.mg_none_of $(Lean.mkIdent `KX) $(Lean.mkIdent `G) ?a; (case a => k_is)))
  | _ => Lean.Macro.throwUnsupported
set_option maxRecDepth 100000 in
set_option maxHeartbeats 0 in
theorem PySem.Challenge.cw_doneroom_k16_flat_programs_holds : PySem.Challenge.rw_doneroom_k16_flat_programs.Holds := by
  w_on; o_law; k_head; (case hw => w_witness2)
  k_fill
  refine Mi.Qje (l := PySem.Challenge.rw_doneroom_k16_flat_programs) (st := My.Yd) (sem := My.XI) (k := 10) rfl rfl ⟨rfl, by decide, by decide⟩ rfl (fun w h Y => PySem.W.kIn_of Y) (fun _ _ _ _ _ _ _ _ => .of_eq rfl) ?F My.main
  case F =>
    intro w mg h KX G
    have d__law_take : Mi.DefAt (L2.KOf KX) mg "_law_take" My.JJ ["feed", "many"] := by walk_at "~2"
    have d__law_names : Mi.DefAt (L2.KOf KX) mg "_law_names" My.Q7 ["feed", "many"] := by walk_at "~2"
    have d__law_step_on : Mi.DefAt (L2.KOf KX) mg "_law_step_on" My.ZA ["lines", "opened"] := by walk_at "~2"
    have d__law_plain : Mi.DefAt (L2.KOf KX) mg "_law_plain" My.Ja ["feed", "boxes", "words"] := by walk_at "~3"
    have d__law_part : Mi.DefAt (L2.KOf KX) mg "_law_part" My.Jz ["feed", "size", "menus", "later", "opens", "dos"] := by walk_at "~6"
    have d__law_program : Mi.DefAt (L2.KOf KX) mg "_law_program" My.Zy ["feed", "bounds"] := by walk_at "~2"
    have d__law_great : Mi.DefAt (L2.KOf KX) mg "_law_great" My.Q8 ["feed"] := by walk_at "~1"
    have d__law_any : Mi.DefAt (L2.KOf KX) mg "_law_any" My.J3 ["feed", "bounds"] := by walk_at "~2"
    have d__law_feed : Mi.DefAt (L2.KOf KX) mg "_law_feed" My.Jv ["script", "k"] := by walk_at "~2"
    have d__law_due : Mi.DefAt (L2.KOf KX) mg "_law_due" My.J1 ["program"] := by walk_at "~1"
    have d_part_number : Mi.DefAt (L2.KOf KX) mg "part_number" My.ZZ ["program", "name"] := by walk_at "~2"
    have d_flat_lines : Mi.DefAt (L2.KOf KX) mg "flat_lines" My.Q3 ["program", "part"] := by walk_at "~2"
    have d_flat : Mi.DefAt (L2.KOf KX) mg "flat" My.YI ["program"] := by walk_at "~1"
    have d_has_right_names : Mi.DefAt (L2.KOf KX) mg "has_right_names" My.QG ["parts"] := by walk_at "~1"
    have d_level_change : Mi.DefAt (L2.KOf KX) mg "level_change" My.Zt ["line"] := by walk_at "~1"
    have d_line_size : Mi.DefAt (L2.KOf KX) mg "line_size" My.JD ["line", "sizes"] := by walk_at "~2"
    have d_size_with : Mi.DefAt (L2.KOf KX) mg "size_with" My.JB ["lines", "sizes"] := by walk_at "~2"
    have d_flat_size : Mi.DefAt (L2.KOf KX) mg "flat_size" My.Jx ["program"] := by walk_at "~1"
    have d_is_small : Mi.DefAt (L2.KOf KX) mg "is_small" My.Va ["size"] := by walk_at "~1"
    have d_all_lines : Mi.DefAt (L2.KOf KX) mg "all_lines" My.JH ["program"] := by walk_at "~1"
    have d_boxes_in : Mi.DefAt (L2.KOf KX) mg "boxes_in" My.J2 ["line"] := by walk_at "~1"
    have d_boxes_of : Mi.DefAt (L2.KOf KX) mg "boxes_of" My.Vd ["program"] := by walk_at "~1"
    have d_words_of : Mi.DefAt (L2.KOf KX) mg "words_of" My.Vg ["program"] := by walk_at "~1"
    have d_own_size : Mi.DefAt (L2.KOf KX) mg "own_size" My.J7 ["lines"] := by walk_at "~1"
    have d_keeps_bounds : Mi.DefAt (L2.KOf KX) mg "keeps_bounds" My.ZG ["parts"] := by walk_at "~1"
    have d_is_blocks : Mi.DefAt (L2.KOf KX) mg "is_blocks" My.JE ["lines"] := by walk_at "~1"
    have d_is_small_letter : Mi.DefAt (L2.KOf KX) mg "is_small_letter" My.QX ["sign"] := by walk_at "~1"
    have d_is_name : Mi.DefAt (L2.KOf KX) mg "is_name" My.VC ["thing"] := by walk_at "~1"
    have d_is_line : Mi.DefAt (L2.KOf KX) mg "is_line" My.VM ["thing"] := by walk_at "~1"
    have d_is_part : Mi.DefAt (L2.KOf KX) mg "is_part" My.VB ["thing"] := by walk_at "~1"
    have d_is_program : Mi.DefAt (L2.KOf KX) mg "is_program" My.Jd ["thing"] := by walk_at "~1"
    have d__law_backs : Mi.DefAt (L2.KOf KX) mg "_law_backs" My.Jg ["lines", "feed", "left"] := by walk_at "~3"
    have d_law : Mi.DefAt (L2.KOf KX) mg "law" My.Yd ["script"] := by walk_at "~1"
    have g_KEPT : Mi.Glob (L2.KOf KX) mg "KEPT" My.KA := by
      dsimp only [L2.KOf]
      refine' Mi.Qby KX G ?a ?l ?z ?s
      (case a => k_is); (case l => k_is)
      (case z => decide)
      (case s => repeat constructor)
    have g_MOST_BACKS : Mi.Glob (L2.KOf KX) mg "MOST_BACKS" My.Jh := by
      dsimp only [L2.KOf]
      refine' Mi.Ju KX G ?a
      (case a => k_is)
    have g_MOST_BLOCKS : Mi.Glob (L2.KOf KX) mg "MOST_BLOCKS" My.ZY := by
      dsimp only [L2.KOf]
      refine' Mi.Ju KX G ?a
      (case a => k_is)
    have g_MOST_BOXES : Mi.Glob (L2.KOf KX) mg "MOST_BOXES" My.Z9 := by
      dsimp only [L2.KOf]
      refine' Mi.Ju KX G ?a
      (case a => k_is)
    have g_MOST_LETTERS : Mi.Glob (L2.KOf KX) mg "MOST_LETTERS" My.QK := by
      dsimp only [L2.KOf]
      refine' Mi.Ju KX G ?a
      (case a => k_is)
    have g_MOST_LINES : Mi.Glob (L2.KOf KX) mg "MOST_LINES" My.Je := by
      dsimp only [L2.KOf]
      refine' Mi.Ju KX G ?a
      (case a => k_is)
    have g_MOST_PARTS : Mi.Glob (L2.KOf KX) mg "MOST_PARTS" My.Za := by
      dsimp only [L2.KOf]
      refine' Mi.Ju KX G ?a
      (case a => k_is)
    have g_MOST_WAYS : Mi.Glob (L2.KOf KX) mg "MOST_WAYS" My.JA := by
      dsimp only [L2.KOf]
      refine' Mi.Ju KX G ?a
      (case a => k_is)
    have g_MOST_WORDS : Mi.Glob (L2.KOf KX) mg "MOST_WORDS" My.Jb := by
      dsimp only [L2.KOf]
      refine' Mi.Ju KX G ?a
      (case a => k_is)
    have g_NAMES_BEHIND : Mi.GTab w (L2.KOf KX) mg "NAMES_BEHIND" My.Qx := by
      dsimp only [L2.KOf]
      refine' Mi.Qfm KX G ?ga ?gl ?gk ?gs ?gt
      (case ga => k_is); (case gl => k_is)
      (case gk => repeat (first | exact True.intro | refine ⟨⟨_, _, rfl, rfl⟩, ?_⟩))
      (case gs => decide)
      (case gt => repeat (first | exact Mi.TabIs.nil | refine Mi.TabIs.cons rfl rfl ?_))
    have g_UNENTERED_DO : Mi.Glob (L2.KOf KX) mg "UNENTERED_DO" My.Zx := by
      dsimp only [L2.KOf]
      change Mi.Glob _ _ _ (Mi.W.tup (List.map Mi.W.int [1, 0, 0, 0])); refine' Mi.Qb2 KX G ?a ?l ?z ?s
      (case a => k_is); (case l => k_is)
      (case z => decide)
      (case s => repeat constructor)
    have b_all : mg "all" = none := by walk_at "~b"
    have b_enumerate : mg "enumerate" = none := by walk_at "~b"
    have b_isinstance : mg "isinstance" = none := by walk_at "~b"
    have b_len : mg "len" = none := by walk_at "~b"
    have b_list : mg "list" = none := by walk_at "~b"
    have b_max : mg "max" = none := by walk_at "~b"
    have b_min : mg "min" = none := by walk_at "~b"
    have b_range : mg "range" = none := by walk_at "~b"
    have b_reversed : mg "reversed" = none := by walk_at "~b"
    have b_set : mg "set" = none := by walk_at "~b"
    have b_sorted : mg "sorted" = none := by walk_at "~b"
    have b_str : mg "str" = none := by walk_at "~b"
    have b_tuple : mg "tuple" = none := by walk_at "~b"
    exact ⟨d_law, fun base kb nb => My.QfD d__law_take d__law_names d__law_step_on d__law_plain d__law_part d__law_program d__law_great d__law_any d__law_feed d__law_due d_part_number d_flat_lines d_flat d_has_right_names d_level_change d_line_size d_size_with d_flat_size d_is_small d_all_lines d_boxes_in d_boxes_of d_words_of d_own_size d_keeps_bounds d_is_blocks d_is_small_letter d_is_name d_is_line d_is_part d_is_program d__law_backs d_law g_KEPT g_MOST_BACKS g_MOST_BLOCKS g_MOST_BOXES g_MOST_LETTERS g_MOST_LINES g_MOST_PARTS g_MOST_WAYS g_MOST_WORDS g_NAMES_BEHIND g_UNENTERED_DO b_all b_enumerate b_isinstance b_len b_list b_max b_min b_range b_reversed b_set b_sorted b_str b_tuple⟩
