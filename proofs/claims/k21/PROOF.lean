import PyProof.Rows.All
import Wide.All
import OpenK.AllK
import Wide.FinOn
import Lean
import PyProof.EqAt
import PyProof.EqKinds
import PyProof.TupleCall
import KE.KDictList
import KE.KRevIter
import KE.KTurns
import PyProof.Rows.SetFrom
import PyProof.Rows.SortStr
import PyProof.FactsAll.set
import PyProof.Draws
import PyProof.EnumMake
import PyProof.AttrMissSeq
import KE.KDictOf
import PyProof.Walks
import KE.KSortTup
import KE.KItemsList
import KE.KDictSum
import PySem.Challenge.RW_doneroom_k21_whole_flat_makes_the_same
set_option Elab.async false
set_option bootstrap.genMatcherCode false
set_option linter.all false
set_option maxRecDepth 100000
noncomputable section
/-! THE HAND LAYER, for ints, bools, texts, own classes, LISTS and tuples (index, slices, in, append, pop ..), calls, loops. Paste it whole ahead of your own text; what your proof does not reach may be deleted. -/
open Option renaming bind_eq_some_iff->Na,map_eq_some_iff->Nk,bind_some->Nv,map_some->Fp,toList_some->Oj,getD_none->OU,map_none->Yad
open PySem renaming wpAny_bind->Nc,wpAny_pure->Nq,wpAny_mono->NU,wpAny_holding->Ej,sizeLine_eq->Ew,wpAny_newObj_type->EJ,wpAny_call_entry->EM,wpAny_Call_Name_kw->E1,codeAny_builtin->E6,wpAny_passesOwn->Dk,wpAny_setState_of->Dw,wpAny_askSetting->DG,mem_of_lookup->DK,wpAny_callSpecial?_slot->DN,wpAny_getItem_str_slice->DO,wpAny_loadPart'->DR,wpAny_typeOf->D3,wpAny_setField->D6,plainId_quiet->Fg,wpAny_newList->Fh,codeAny_mono->Fv,call_meets->FD,wpAny_rule->FF,builtinLookup_eq_fast->FQ,wpAny_execs_nil->FT,post_val_or_str->FW,wpAny_setEntries_of->F5,putSet_of->Ii,eqIsQuiet_byValue->Ir,wpAny_pyIter_list->Iv,wpAny_isInstance->ID,noFill_tuple_add->IF,wpAny_Call_method0_late->IQ,wpAny_specialOf->IY,wpAny_updateSeq->La,typeLookup_type->Lb,wpAny_ite_split->Lc,wpAny_pyNext_range_end->Lf,wpAny_pyIter_rangeiter->Lg,wpAny_seqItems->Ls,isSubtype_type->Ly,wpAny_newTuple->Lz,wpAny_loadName_local->LI,wpAny_standAt->LQ,seq_tuple_add->LR,wpAny_attempt->LV,wpAny_loadName_cell->LY,evalArgs_none->L0,wpAny_pyIter_range->Od,concat_meets->Oe,seqIndex_neg->Og,wpAny_assign_Name->Oy,wpAny_truthy_bool->Oz,wpAny_sequenceKey->OA,slot_list_getitem->OB,list_append->OC,wpAny_storeSet_of->OH,fits_of_scanBound->OI,wpAny_pyIter_slot->OJ,wpAny_setEpoch_of->OL,wpAny_pyIter_enum->ON,wpAny_mkInt->OQ,wpAny_field->OR,seqIndex_of->OS,wpAny_Name->O8,wpAny_load->O9,call->Yaa,boot_len->Yaj
open Nat renaming lt_of_lt_of_le->Nd,lt_of_le_of_lt->Nf,le_trans->Nh,le_add_right->Nm,le_of_lt->Nn,le_of_eq->Nt,le_refl->Nw,zero_le->NJ,add_le_add_left->NL,ne_of_lt->NM,not_lt->NN,add_lt_add_left->NO,lt_trans->NW,zero_add->NX,sub_le->NZ,lt_succ_self->N1,lt_irrefl->Ed,le_antisymm->Eh,lt_succ_of_lt->Er,le_succ_of_le->Es,add_sub_cancel_left->EH,sub_lt_left_of_lt_add->E3,le_add_left->E8,mul_le_mul_right->Da,min_eq_left->Ds,add_assoc->Du,add_le_add_right->DB,ne_of_gt->DF,add_sub_cancel'->DL,not_le->DS,add_right_comm->DT,succ_pos->D5,min_le_right->D9,add_lt_add_right->Fe,add_zero->Fx,sub_self->FV,not_lt_zero->FY,add_mul->Ig,lt_trichotomy->Iz,le_of_succ_le->IA,lt_or_ge->IJ,le_max_left->I0,le_succ->Lm,lt_or_eq_of_le->Oi,le_of_lt_succ->OD,le_of_not_lt->OW,not_lt_of_le->O0,min_eq_right->O2
open List renaming getElem?_eq_some_iff->Ng,getElem?_eq_getElem->Nl,size_toArray->Nr,mem_cons_of_mem->Nu,mem_cons_self->Ny,getElem?_map->Nz,map_cons->NA,length_append->NC,length_map->NG,mem_cons->NH,mem_iff_getElem?->NI,length_cons->NP,getElem?_append_left->NQ,mem_singleton->NR,mem_map->NT,mem_append_right->NY,getElem?_append_right->N2,append_assoc->N6,length_eq_zero_iff->N7,map_map->N8,mem_append->N9,drop_eq_getElem_cons->Ea,map_append->Eb,drop_eq_nil_of_le->Ee,getElem?_eq_none->Eg,lookup_cons->Ek,extract_eq_take_drop->Eo,findIdx?_eq_some_iff_getElem->Ep,mem_append_left->Et,length_take->Ey,getElem_mem->Ez,take_append_drop->EB,append_nil->EE,nodup_cons->EF,nodup_nil->EI,all_eq_true->EL,not_mem_nil->EN,mem_of_getElem?->EO,dropLast_concat_getLast->ER,pairwise_append->ES,flatMap_cons->EU,find?_cons->EV,mem_map_of_mem->EW,length_pos_iff->EX,mem_flatMap->EY,length_singleton->E2,pairwise_iff_getElem->E4,any_cons->De,getElem?_range->Df,take_of_length_le->Dh,length_set->Dl,length_nil->Dm,perm_append_comm->Dq,pairwise_map->Dy,mem_iff_getElem->Dz,getElem?_eq_none_iff->DA,mem_of_mem_drop->DC,take_succ_eq_append_getElem->DI,take_length->DJ,sum_cons->DP,nil_append->DV,getElem?_set_self->DW,take_add_one->DX,drop_sublist->DY,mem_range->DZ,dropLast_eq_take->D4,getElem?_set_ne->D8,length_drop->Fb,countP_cons->Fc,getD_eq_getElem?_getD->Ff,filterMap_cons->Fj,toList_toArray->Fk,flatMap_append->Fl,findIdx?_eq_none_iff->Fm,foldl_cons->Fo,length_erase_of_mem->Fy,zip_cons_cons->FA,range'_succ->FO,mem_reverse->FP,getElem?_toArray->FR,mem_erase_of_ne->FZ,mem_of_mem_take->F3,countP_eq_zero->F7,mem_filterMap->Ih,mem_replicate->Ik,length_eraseIdx_of_lt->Im,nodup_iff_pairwise_ne->Ip,ext_getElem?->Iq,length_range->Iw,nodup_append->Iy,reverse_perm->IB,map_nil->IG,cons_append->IM,getElem?_replicate->IP,getElem?_cons_zero->IW,pairwise_singleton->IX,of_mem_zip->IZ,length_replicate->Lu,lt_irrefl->LC,countP_mono_left->LD,drop_drop->LF,pairwise_reverse->LG,concat_eq_append->LH,range_eq_range'->LL,perm_cons_erase->LM,getElem?_append->LN,all_cons->LU,map_take->LW,length_flatMap->L8,map_congr_left->L9,length_zipIdx->Os,pairwise_cons->Ot,getElem?_drop->Ou,getElem?_nil->OF,findIdx?_nil->OG,getElem_drop->OO,getElem_take->OP,filter_cons->OX,le_antisymm->OZ,nodup_range->O1,append_inj'->O3,map_flatMap->O4,any_eq_true->O5,forIn_cons->O6,mem_filter->O7,range_zero->Yac,map_const'->Yag,zipIdx_map->Yah
open PySem.W renaming Frag->Nj,keepIn->Dg,fnOf->Di,mg_of->FN,nsIn->FX,codeIn->F8,methodObj->Iu,cellsFrom_some->Lk,pyHash_slot->LX,KeysLit->Yab,findIn->Yai,WalkO->Yal
open PySem.Heap renaming get?_push_of_some->Np,lt_size->ND,get?_push_size->NK,get?_update_other->N4,get?_update_self->EK,size_push->FE
open Array renaming length_toList->NB,toList_append->NV,getElem?_toList->N0,getElem?_eq_getElem->N3,toList_extract->E9,perm_iff_toList_perm->Dv,toList_push->Dx,toList_reverse->DD,getElem?_setIfInBounds->F9,size_setIfInBounds->IK,getElem?_eq_none->Lo,forIn_toList->Oc,toList_inj->OY
open Bool renaming and_eq_true->NS,false_eq_true->Ef,false_ne_true->Eu,or_eq_true->Dn,and_false->D0,not_eq_true'->FJ,not_eq_false'->Ij,and_true->LO,not_true->LP,or_false->LS,eq_iff_iff->Yaf
open Option.some renaming inj->N5
open PySem.Paired renaming length->Ec
open PySem.PassesOwn renaming never->Ei
open PyProof.Rows renaming slot_tuple_getitem->El,callWith_type1->EG,callWith_builtin1->DQ,get?_update_seq->F0,listUpdate_at->Io,boot_sorted->IT,entry_list_sort->Ld,subscriptTail_builtinR->Ll,seqEpoch_at->Lp,boot_dict->Lq,slot_list_sort->LA,args_list_sort->LB,entry_tuple_getitem->LZ,getElem?_mirror_all->L7,args_tuple_getitem->Of,plain_sorted->Om,entry_sorted->On,args_sorted1->Oo,mem_zip_self->Ov,kind_sorted->OT,boot_range->Qq
open Classical renaming byContradiction->Em,choose_spec->FS
open PySem.Heap.SameBut renaming update->EA
open Int renaming le_trans->ED,le_of_lt->E5,toNat_natCast->Dd,emod_nonneg->Dt,toNat_of_nonneg->DM,emod_lt_of_pos->DU,le_of_eq->D7,not_lt->F4,le_refl->Ic,not_le->IC,ne_of_gt->IE,le_antisymm->Le,zero_add->Ow,lt_of_le_of_lt->Ox
open PySem.F renaming plainAttrs_list->ET,slot_list_extend->Dj,called_set->DH,args_tuple_add_2->Fw,slot_list_getattribute->Fz,type_list_extend->FC,entry_tuple_add->FG,slot_tuple_add->FK,slot_list_append->FU,slot_list_index->IR,plainAttrs_dict->IU,slot_dict_items->IV,slot_dict_get->Lw,args_list_append_2->LJ,args_list_extend_2->LK,entry_list_append->L3,entry_list_extend->L4,plain_extend_loop->L5,slot_list_pop->Oh
open Ne renaming symm->EZ
open PySem.Around renaming under_plainId->E7
open List.Perm renaming append_left->Dp,cons_inv->Oq
open List.Pairwise renaming sublist->Dr,imp_of_mem->IL
open LawfulBEq renaming eq_of_beq->DE
open PySem.Value renaming isStrOf_shape->Fi
open PySem.Calls renaming call_function_entry->Fq,spliced_cons->Ft,spliced_nil->FI,callWith_builtin->FL,Name_function_global->Il
open PyProof.Rows.F renaming plain_set_update_loop->FH,entry_set_update_loop->IS
open PySem.Challenge renaming pw_doneroom_k21_whole_flat_makes_the_same->F6
open Sum.inr renaming inj->Ia
open PySem.Txt renaming slice_le->IH
open PySem.AutoSeq1 renaming sub_tuple_tuple->II
open PyProof renaming noPylong_small->Lj
open PySem.Str renaming ofString_eq_toList->Lr
open PyProof.Rows.StrsAre renaming length->Lx
open Std.Legacy.Range renaming forIn_eq_forIn_range'->L6
open PySem.SeqAt.EqAt renaming int_str->Oa,str_int->Ob
open PySem.Code renaming quiet_builtin->Ol
open Function renaming comp_def->OE
open PySem.WalksT renaming enumerateD->OM
open PySem.IsL renaming update->OV
open StateT renaming run_pure->Yae
open PyProof.Rows.IsTup renaming new->Yak
open PySem PySem.Spec PyProof.Rows
namespace L2
noncomputable abbrev Key:=Sum Int Str
noncomputable def Qb9:Key->Value->Bool
 |.inl k,v=>Value.isInt k v
 |.inr x,v=>Value.isStrOf x v
noncomputable def QqT(w:World):Key->Int
 |.inl k=>hashInt k
 |.inr x=>hashStr w x
theorem QR:∀{k:Key} {v:Value},Qb9 k v=true->(∃i t,k=Sum.inl i/\v=Value.int i t)\/(∃x t,k=Sum.inr x/\v=Value.str x t)
 |.inl i,v,h=>by
  obtain⟨t,e⟩:=Value.isInt_shape (k:=i) (v:=v) h;exact .inl ⟨i,t,rfl,e⟩
 |.inr x,v,h=>by
  obtain⟨t,e⟩:=Fi (x:=x) (v:=v) h;exact .inr ⟨x,t,rfl,e⟩
theorem Qdo(i:Int)(t:Tok):Qb9 (.inl i) (.int i t)=true:=by simp[Qb9,Value.isInt]
theorem QcZ(x:Str)(t:Tok):Qb9 (.inr x) (.str x t)=true:=by simp[Qb9,Value.isStrOf]
theorem QjR(a b:Int):decide ((Sum.inl a:Key)=Sum.inl b)=(a==b):=by
 by_cases e:a=b
 ·subst e;simp
 ·have h:¬(Sum.inl a:Key)=Sum.inl b:=fun q=>e (Sum.inl.inj q);rw[decide_eq_false h];exact(beq_eq_false_iff_ne.mpr e).symm
theorem Qlv(a b:Str):decide ((Sum.inr a:Key)=Sum.inr b)=decide (a=b):=by
 by_cases e:a=b
 ·subst e;simp
 ·have h:¬(Sum.inr a:Key)=Sum.inr b:=fun q=>e (Ia q);rw[decide_eq_false h,decide_eq_false e]
theorem QkY(a:Int)(b:Str):decide ((Sum.inl a:Key)=Sum.inr b)=false:=decide_eq_false (fun q=>nomatch q)
theorem Qkp(a:Str)(b:Int):decide ((Sum.inr a:Key)=Sum.inl b)=false:=decide_eq_false (fun q=>nomatch q)
noncomputable def Zd(prog:Program)(w:World):PySem.KeyKind prog w Key where
 is:=Qb9
 hash:=QqT w
 inj:=fun v a b g f=>by
  rcases QR g with⟨i,t,rfl,rfl⟩|⟨x,t,rfl,rfl⟩
  ·rcases QR f with⟨j,u,rfl,e⟩|⟨y,u,rfl,e⟩
   ·injection e with c _;rw[c]
   ·exact nomatch e
  ·rcases QR f with⟨j,u,rfl,e⟩|⟨y,u,rfl,e⟩
   ·exact nomatch e
   ·injection e with c _;rw[c]
 byValue:=fun k v h=>by
  rcases QR h with⟨i,t,rfl,rfl⟩|⟨x,t,rfl,rfl⟩<;>rfl
 pyHash:=fun d h=>by
  rcases QR d with⟨i,t,rfl,rfl⟩|⟨x,t,rfl,rfl⟩
  ·exact wpAny_pyHash_int h
  ·exact wpAny_pyHash_str h
 eqBool:=fun hu d h=>by
  rcases QR hu with⟨i,t,rfl,rfl⟩|⟨x,t,rfl,rfl⟩
  ·rcases QR d with⟨j,u,rfl,rfl⟩|⟨y,u,rfl,rfl⟩
   ·rw[QjR]at h;exact wpAny_eqBool_int h
   ·rw[QkY]at h;exact Oa i t y u _ _ _ _ h
  ·rcases QR d with⟨j,u,rfl,rfl⟩|⟨y,u,rfl,rfl⟩
   ·rw[Qkp]at h;exact Ob x t j u _ _ _ _ h
   ·rw[Qlv]at h;exact wpAny_eqBool_str h
 «strs»:=fun k x t v h=>by
  rcases QR h with⟨i,u,rfl,e⟩|⟨y,u,rfl,e⟩
  ·exact nomatch e
  ·injection e with c _
   subst c;cases v<;>rfl
theorem G8(prog:Program)(w:World)(i:Int)(t:Tok):(Zd prog w).is (.inl i) (.int i t)=true:=Qdo i t
theorem G7(prog:Program)(w:World)(x:Str)(t:Tok):(Zd prog w).is (.inr x) (.str x t)=true:=QcZ x t
inductive V where
 |non|bl (b:Bool)|int (i:Int)|str (x:Str)|byt (b:Array UInt8)|flt (b:UInt64)|ref (a:Addr)|ty (n:String)
 deriving DecidableEq
noncomputable def RelV:V->Value->Prop
 |.non,u=>u=Value.none
 |.bl b,u=>u=Value.bool b
 |.int i,u=>∃t,u=Value.int i t
 |.str x,u=>∃t,u=Value.str x t
 |.byt b,u=>∃t,u=Value.bytes b t
 |.flt b,u=>∃t,u=Value.float b t
 |.ref a,u=>u=Value.ref a
 |.ty n,u=>u=Value.type n
noncomputable abbrev Vals:List V->List Value->Prop:=Paired RelV
theorem Vals.length(r:Vals xs us):xs.length=us.length:=Ec r
theorem Vals.get:∀{xs:List V} {us:List Value} {i:Nat} {x:V},Vals xs us->xs[i]?=some x->∃u,us[i]?=some u/\RelV x u
 |_,_,_,_,.nil,e=>by simp at e
 |_,_,0,_,.cons r _,e=>by simp at e;subst e;exact⟨_,rfl,r⟩
 |_,_,i+1,x,.cons _ t,e=>by
  obtain⟨u,a,h2⟩:=Vals.get (i:=i) (x:=x) t (by simpa using e);exact⟨u,by simpa using a,h2⟩
theorem Vals.set(r:RelV x u):∀{xs:List V} {us:List Value} (i:Nat),Vals xs us->Vals (xs.set i x) (us.set i u)
 |_,_,_,.nil=>.nil
 |_,_,0,.cons _ t=>.cons r t
 |_,_,i+1,.cons q t=>.cons q (Vals.set r i t)
theorem Vals.append:∀{xs a:List V} {us ws:List Value},Vals xs us->Vals a ws->Vals (xs++a) (us++ws)
 |_,_,_,_,.nil,s=>s
 |_,_,_,_,.cons r t,s=>.cons r (Vals.append t s)
theorem Vals.take:∀{xs:List V} {us:List Value} (n:Nat),Vals xs us->Vals (xs.take n) (us.take n)
 |_,_,0,_=>.nil
 |_,_,_+1,.nil=>.nil
 |_,_,n+1,.cons r t=>.cons r (Vals.take n t)
theorem Vals.drop:∀{xs:List V} {us:List Value} (n:Nat),Vals xs us->Vals (xs.drop n) (us.drop n)
 |_,_,0,r=>r
 |_,_,_+1,.nil=>.nil
 |_,_,n+1,.cons _ t=>Vals.drop n t
noncomputable def RelO:Option V->Option Value->Prop
 |some v,some u=>RelV v u
 |none,none=>True
 |_,_=>False
noncomputable def KV:List (κ×V)->List (κ×Value)->Prop:=Paired fun(p:κ×V) (q:κ×Value)=>p.1=q.1/\RelV p.2 q.2
inductive Tr where
 |i (n:Int)
 |s (x:Str)
 |t (ks:List Tr)
noncomputable instance trDec:DecidableEq Tr:=fun _ _=>Classical.propDecidable _
noncomputable def IsT(h:Heap):Nat->Tr->Value->Prop
 |0,_,_=>False
 |_+1,.i k,v=>(∃t,v=.int k t)\/∃b:Bool,v=.bool b/\k=if b then 1 else 0
 |_+1,.s x,v=>∃t,v=.str x t
 |n+1,.t ks,v=>∃a c,v=.ref a/\h.IsTuple a c/\Paired (IsT h n) ks c.toList
theorem Qf8{e d:Type}{F:e->d->Prop}(hi:∀x y v,F x v->F y v->x=y){xs c:List e}{vs:List d}(p:Paired F xs vs)(q:Paired F c vs):xs=c:=by
 induction p generalizing c with
 |nil=>cases q;rfl
 |cons a s f=>cases q with|cons b t=>rw[hi _ _ _ a b,f t]
theorem Qdk(d:IsT h n x (.ref a)):∃m ks c,n=m+1/\x=.t ks/\h.IsTuple a c/\Paired (IsT h m) ks c.toList:=by
 cases n with
 |zero=>exact d.elim
 |succ n=>
  cases x with
  |i k=>rcases d with⟨t,e⟩|⟨b,e,_⟩<;>cases e
  |s y=>obtain⟨t,e⟩:=d;cases e
  |t ks=>obtain⟨f,c,e,p,q⟩:=d;cases e;exact⟨n,ks,c,rfl,rfl,p,q⟩
theorem QaF{h:Heap}(e:h.IsTuple a x)(d:h.IsTuple a y):x=y:=by
 obtain⟨o,g,_,n,f⟩:=e;obtain⟨i,c,_,j,b⟩:=d;rw[g]at c;cases c;rw[f]at b;injection b
noncomputable def gT:Value->Tr
 |.int i _=>.i i
 |.bool b=>.i (if b then 1 else 0)
 |.str x _=>.s x
 |_=>.t []
theorem QjO{h:Heap}{n:Nat}{x:Tr}{v:Value}(c:IsT h n x v):(∃a,v=.ref a)\/x=gT v:=by
 cases n with
 |zero=>exact c.elim
 |succ n=>
  cases x with
  |i k=>rcases c with⟨t,rfl⟩|⟨b,rfl,rfl⟩<;>exact .inr rfl
  |s y=>obtain⟨t,rfl⟩:=c;exact .inr rfl
  |t e=>obtain⟨a,d,rfl,_⟩:=c;exact .inl ⟨a,rfl⟩
theorem YE{h:Heap}:∀{n:Nat} (x y:Tr) (v:Value),IsT h n x v->IsT h n y v->x=y
 |0,_,_,_,b,_=>b.elim
 |n+1,x,y,v,b,d=>by
  by_cases r:∃a,v=.ref a
  ·obtain⟨a,rfl⟩:=r;obtain⟨m,s,i,e,rfl,p,q⟩:=Qdk b;obtain⟨l,o,c,j,rfl,g,f⟩:=Qdk d;cases e;cases j;cases QaF p g;rw[Qf8 (fun x y v=>YE (n:=n) x y v) q f]
  ·rw[(QjO b).resolve_left r,(QjO d).resolve_left r]
theorem Vc{F G:g->e->Prop}(f:∀a b,F a b->G a b):∀{d:List g} {c:List e},Paired F d c->Paired G d c
 |_,_,.nil=>.nil
 |_,_,.cons r t=>.cons (f _ _ r) (Vc f t)
theorem GG{u ep}(g:h.get? d=some o)(hd:o.data=.dict u ep)(l:Heap.SameBut d h h'):∀{n:Nat} (k:Tr) (v:Value),IsT h n k v->IsT h' n k v
 |0,_,_,x=>x.elim
 |n+1,.i k,v,x=>x
 |n+1,.s k,v,x=>x
 | n+1,.t ks,v,⟨a,f,e,⟨p,c,r,m,b⟩,q⟩=>by
  have j:a≠d:=by
   rintro rfl
   rw[c]at g;cases g;rw[hd]at b;exact nomatch b
  exact⟨a,f,e,⟨p,(l.2 a j).trans c,r,m,b⟩,Vc (fun k v=>GG g hd l k v) q⟩
noncomputable def hN(w:World):Nat->Tr->Int
 |0,_=>0
 |_+1,.i k=>hashInt k
 |_+1,.s x=>hashStr w x
 |n+1,.t ks=>reduceHash (Builtin.Tuple.tupleHashOf (ks.map (hN w n)))
noncomputable def dN:Nat->Tr->Nat
 |0,_=>0
 |_+1,.i _=>1
 |_+1,.s _=>1
 |n+1,.t ks=>(ks.map (dN n)).sum+1
section
variable{prog:Program}{w:World}{E:Value->Shared->Prop}
theorem UM(c:∀(k:Tr) (v:Value) (s:Shared) (Q:Int->Shared->Prop),IsT s.heap n k v->Q (hN w n k) { s with toks:=s.toks+dN n k }->wpAny (model prog w) A (pyHash v) Q E s) :
  ∀(ks:List Tr) (vs:List Value) (s:Shared) (b:Array Int) (Q:Array Int->Shared->Prop),Paired (IsT s.heap n) ks vs ->
  (∀a,a.toList=b.toList++ks.map (hN w n)->Q a { s with toks:=s.toks+(ks.map (dN n)).sum }) ->
  wpAny (model prog w) A (forIn vs b fun x r=>do let h <-pyHash x;pure PUnit.unit;pure (ForInStep.yield (r.push h))) Q E s
 |[],_,s,b,Q,x,h=>by cases x;exact Nq (h b (by simp))
 | k::ks,_,s,b,Q,x,h=>by
  cases x with
  |cons d x2=>
   rw[O6];refine Nc (Nc (c k _ s _ d ?_));refine Nc (Nq (Nq ?_));refine UM c ks _ _ _ Q x2 fun a e=>?_;have:=h a (by simp[e]);simpa[Du]using this
theorem QgB:∀(n:Nat) (A:Around),A.units+n<cLine->∀(k:Tr) (v:Value) (s:Shared) (Q:Int->Shared->Prop),IsT s.heap n k v->Q (hN w n k) { s with toks:=s.toks+dN n k }->wpAny (model prog w) A (pyHash v) Q E s
 |0,_,_,_,_,_,_,x,_=>x.elim
 | n+1,A,hu,.i k,v,s,Q,x,h=>by
  rcases x with⟨t,rfl⟩|⟨b,rfl,rfl⟩
  ·exact wpAny_pyHash_int h
  ·refine LX (T:="bool") rfl F.slot_bool_hash entry_int_hash (args_int_hash _) (beq_builtin_none _) (.inr (Nf (Nm _ _) hu)) ?_;cases b
   ·exact(show wpAny _ _ (do ret (<-mkInt 0)) _ _ s from Nc (OQ (Nq ⟨_,_,rfl,h⟩)))
   ·exact(show wpAny _ _ (do ret (<-mkInt 1)) _ _ s from Nc (OQ (Nq ⟨_,_,rfl,h⟩)))
 |n+1,A,hu,.s y,v,s,Q,x,h=>by
  obtain⟨t,rfl⟩:=x;exact wpAny_pyHash_str h
 |n+1,A,hu,.t d,v,s,Q,x,h=>by
  obtain⟨a,e,rfl,⟨o,c,f,m,hd⟩,q⟩:=x;refine LX (T:="tuple") ⟨_,c,f⟩ F.slot_tuple_hash F.entry_tuple_hash (F.args_tuple_hash_1 _) (beq_builtin_none _) (.inr (Nf (Nm _ _) hu)) ?_;show wpAny _ _ (Builtin.Tuple.tupleItemsOf (.ref a)>>=_) _ _ s;refine Nc (wpAny_tupleItemsOf c hd ?_);refine Nc ?_;rw[<-Oc];refine UM (n:=n) (fun k v s Q=>QgB n A.in1 (by show A.units+1+n<cLine;lia) k v s Q) d _ s #[] _ q fun b g=>?_;show wpAny _ _ (retInt (Builtin.Tuple.tupleHashOf b.toList)) _ _ _;rw[g];refine Nc (OQ (Nq ⟨_,_,rfl,?_⟩));simpa[hN,dN,Du]using h
theorem QhS:∀{ks ls:List Tr} {us vs:List Value},Paired (IsT h n) ks us->Paired (IsT h n) ls vs->(∀(j:Nat) (x y:Tr),ks[j]?=some x->ls[j]?=some y->e j=decide (x=y)) ->
  ((List.range (min us.length vs.length)).all e&&us.length==vs.length)=decide (Tr.t ks=Tr.t ls):=by
 intro ks ls us vs p q f;have i:=Ec p;have g:=Ec q;rw[<-i,<-g]
 by_cases c:ks.length=ls.length
 ·by_cases d:ks=ls
  ·subst d;simp only[Nat.min_self,beq_self_eq_true,LO,decide_true];rw[EL];intro j b;rw[DZ]at b;rw[f j ks[j] ks[j] (Nl b) (Nl b)];simp
  ·have:decide (Tr.t ks=Tr.t ls)=false:=decide_eq_false fun z=>d (Tr.t.inj z);rw[this,Bool.and_eq_false_iff];left;have:∃j,ks[j]?≠ls[j]?:=Em fun z=>d (Iq fun j=>Em fun y=>z ⟨j,y⟩);obtain⟨j,b⟩:=this;have a:j<ks.length:=Em fun z=>b (by rw[Eg (NN.mp z),Eg (Nh (Nt c.symm) (NN.mp z))]);rw[List.all_eq_false];refine⟨j,DZ.mpr (by lia),?_⟩;rw[f j ks[j] ls[j] (Nl a) (Nl (Nd a (Nt c)))];intro z;rw[decide_eq_true_eq]at z;exact b (by rw[Nl a,Nl (Nd a (Nt c)),z])
 ·have l:(ks.length==ls.length)=false:=beq_eq_false_iff_ne.mpr c;rw[l,D0];exact(decide_eq_false fun z=>c (by rw[Tr.t.inj z])).symm
theorem Ku{F:c->d->Prop}:∀{b:List c} {a:List d} {j:Nat} {x:c},Paired F b a->b[j]?=some x->∃v,a[j]?=some v/\F x v
 |_,_,0,x,.cons r t,e=>by simp at e;subst e;exact⟨_,rfl,r⟩
 |_,_,j+1,x,.cons r t,e=>by
  obtain⟨v,f,h2⟩:=Ku (j:=j) (x:=x) t (by simpa using e);exact⟨v,by simpa using f,h2⟩
open SeqAt in
theorem QjD{s:Shared}:∀(n:Nat) (A:Around),A.units+n<cLine->∀(x y:Tr) (u v:Value),IsT s.heap n x u->IsT s.heap n y v->EqAt A s u v (decide (x=y))
 |0,_,_,_,_,_,_,c,_=>c.elim
 | n+1,A,hu,.i a,.i b,u,v,c,d=>by
  have hd:decide (Tr.i a=Tr.i b)=(a==b):=by
   by_cases z:a=b
   ·subst z;simp
   ·rw[decide_eq_false fun q=>z (Tr.i.inj q)];exact(beq_eq_false_iff_ne.mpr z).symm
  rw[hd]
  rcases c with⟨t,rfl⟩|⟨p,rfl,rfl⟩<;>rcases d with⟨g,rfl⟩|⟨q,rfl,rfl⟩
  ·exact EqAt.int_int a t b g
  ·exact EqAt.int_bool a t q
  ·exact EqAt.bool_int p b g
  ·have:=EqAt.bool_bool (A:=A) (s:=s) p q;cases p<;>cases q<;>exact this
 |n+1,A,hu,.i a,.s b,u,v,c,d=>by
  obtain⟨g,rfl⟩:=d;rw[decide_eq_false (fun z=>nomatch z)]
  rcases c with⟨t,rfl⟩|⟨p,rfl,rfl⟩
  ·exact EqAt.int_str a t b g
  ·exact EqAt.bool_str p b g
 |n+1,A,hu,.i a,.t h,u,v,c,d=>by
  obtain⟨ad,f,rfl,p,_⟩:=d;rw[decide_eq_false (fun z=>nomatch z)]
  rcases c with⟨t,rfl⟩|⟨q,rfl,rfl⟩
  ·exact EqAt.int_tuple a t p (Nf (Nm _ _) hu)
  ·exact EqAt.bool_tuple q p (Nf (Nm _ _) hu)
 |n+1,A,hu,.s b,.i a,u,v,c,d=>by
  obtain⟨g,rfl⟩:=c;rw[decide_eq_false (fun z=>nomatch z)]
  rcases d with⟨t,rfl⟩|⟨p,rfl,rfl⟩
  ·exact EqAt.str_int b g a t
  ·exact EqAt.str_bool b g p
 | n+1,A,hu,.s a,.s b,u,v,c,d=>by
  obtain⟨t,rfl⟩:=c;obtain⟨g,rfl⟩:=d
  have hd:decide (Tr.s a=Tr.s b)=(a==b):=by
   by_cases z:a=b
   ·subst z;simp
   ·rw[decide_eq_false fun q=>z (Tr.s.inj q)];exact(beq_eq_false_iff_ne.mpr z).symm
  rw[hd];exact EqAt.str_str a t b g
 |n+1,A,hu,.s b,.t h,u,v,c,d=>by
  obtain⟨ad,f,rfl,p,_⟩:=d;obtain⟨t,rfl⟩:=c;rw[decide_eq_false (fun z=>nomatch z)];exact EqAt.str_tuple b t p (Nf (Nm _ _) hu)
 |n+1,A,hu,.t h,.i a,u,v,c,d=>by
  obtain⟨ad,f,rfl,p,_⟩:=c;rw[decide_eq_false (fun z=>nomatch z)]
  rcases d with⟨t,rfl⟩|⟨q,rfl,rfl⟩
  ·exact EqAt.tuple_int a t p (Nf (Nm _ _) hu)
  ·exact EqAt.tuple_bool q p (Nf (Nm _ _) hu)
 |n+1,A,hu,.t h,.s b,u,v,c,d=>by
  obtain⟨ad,f,rfl,p,_⟩:=c;obtain⟨t,rfl⟩:=d;rw[decide_eq_false (fun z=>nomatch z)];exact EqAt.tuple_str b t p (Nf (Nm _ _) hu)
 | n+1,A,hu,.t h,.t l,u,v,c,d=>by
  obtain⟨ad,f,rfl,p,q⟩:=id c;obtain⟨Z,m,rfl,M,G⟩:=id d
  by_cases B:ad=Z
  ·subst B;have:=YE _ _ _ c d;rw[this,decide_eq_true rfl];exact EqAt.same _
  ·refine EqAt.of_refs B ?_;have S:=QjD (s:=s) n A.in1 (by show A.units+1+n<cLine;omega)
   have L:=RcAt.tuples (A:=A) (s:=s) (e:=fun j=>match h[j]?,l[j]? with|some x,some y=>decide (x=y)|_,_=>false) p M (Nf (Nm _ _) hu) (fun j D C=>by
    have O:=Ec q;have N:=Ec G;have Q:j<h.length:=by rw[O];exact D
    have P:j<l.length:=by rw[N];exact C
    obtain⟨x,c⟩:∃x,h[j]?=some x:=⟨h[j],Nl Q⟩
    obtain⟨y,d⟩:∃y,l[j]?=some y:=⟨l[j],Nl P⟩
    obtain⟨u,o,H⟩:=Ku q c;obtain⟨t,r,I⟩:=Ku G d;rw[c,d]
    have Y:f[j]=u:=by
     rw[N0,N3 D]at o;exact N5 o
    have U:m[j]=t:=by
     rw[N0,N3 C]at r;exact N5 r
    rw[Y,U]
    exact S x y u t H I)
   have:=QhS (e:=fun j=>match h[j]?,l[j]? with|some x,some y=>decide (x=y)|_,_=>false) q G (fun j x y D C=>by simp only[D,C]);rw[NB,NB]at this;rw[this]at L;exact L
theorem QdI:∀(n m:Nat) (k:Tr) (v:Value) (Q:Bool->Shared->Prop),IsT s.heap n k v->n<=m->Q true s->wpAny (model prog w) A (eqIsQuiet m v) Q E s
 |0,_,_,_,_,x,_,_=>x.elim
 |n+1,m,.i k,v,Q,x,_,h=>by
  rcases x with⟨t,rfl⟩|⟨b,rfl,rfl⟩
  ·rw[Ir _ rfl];exact Nq h
  ·rw[Ir _ rfl];exact Nq h
 |n+1,m,.s k,v,Q,x,_,h=>by
  obtain⟨t,rfl⟩:=x;rw[Ir _ rfl];exact Nq h
 |n+1,0,.t f,v,Q,x,y,h=>by lia
 | n+1,m+1,.t f,v,Q,x,y,h=>by
  obtain⟨a,e,rfl,⟨o,g,z,l,hd⟩,q⟩:=x;have hT:s.TypeIs (.ref a) "tuple":=⟨o,g,z⟩
  unfold eqIsQuiet;refine Nc (IY hT F.slot_tuple_eq.lookup ?_);show wpAny _ _ (isInstance (.ref a) (.type "tuple")>>=_) _ _ s;refine Nc (ID hT isSubtype_tuple_tuple ?_);simp only[LP,Ef,if_false];refine Nc (Ls g hd ?_);refine Nc ?_;show wpAny _ _ (forIn e _ _) _ _ s;rw[<-Oc];refine wpAny_forIn_list _ (fun rest r d=>r.1=none/\d=s/\∃c,Paired (IsT s.heap n) c rest) _ ?_ ?_ _ _ ⟨rfl,rfl,f,q⟩
  ·rintro v rest r d ⟨hr,rfl,c,u⟩
   cases u with
   |cons p j=>
    refine Nc (QdI n m _ _ _ p (by lia) ?_);simp only[LP,Ef,if_false];exact Nq ⟨rfl,rfl,_,j⟩
  ·rintro⟨C,B⟩ d ⟨hr,rfl,_⟩
   simp only at hr;subst hr;exact Nq h
end
noncomputable def K9(prog:Program)(w:World):HeapKind prog w Tr where
 is:=fun h k a=>IsT h 8 k (.ref a)
 hash:=hN w 8
 draws:=dN 8
 room:=fun A=>A.units+8<cLine
 inj:=fun c b=>YE _ _ _ c b
 keeps:=fun x f hd e=>GG f hd e _ _ x
 pyHash:=fun hu d h=>QgB 8 _ hu _ _ _ _ d h
 eqBool:=fun hu c b h=>QjD 8 _ hu _ _ _ _ c b _ _ _ _ h
 quiet:=fun d h=>QdI 8 8 _ _ _ d (Nw _) h
noncomputable def kV:Key->V
 |.inl i=>.int i
 |.inr x=>.str x
inductive HO where
 /-- a list -/
 |lst (xs:List V)
 /-- a tuple (never changes) -/
 |tup (xs:List V)
 /-- a dict whose keys are ints and texts;one whose keys are tuples of ints and texts (the empty one is both) -/
 |dK (kvs:List (Key×V))|dT (kvs:List (Tr×Addr×V))
 /-- a set of ints: its members,its size -/
 |set (S:Int->Bool) (n:Nat)
 /-- an instance of the class at C,its dict at dx,its attributes -/
 |ins (C dx:Addr) (fs:List (Str×V))
 /-- the dict of the instance at x -/
 |own (x:Addr)
 /-- the dict of an exception -/
 |xd (fs:List (Str×V))
 /-- a bound method,f of x -/
 |met (f x:Addr)
 /-- a range object lo,lo+1,.. below hi -/
 |rng (lo hi:Int)
 /-- a thing that is known to the object (the script;a dict while a loop walks it): read,never written while it is so -/
 |frz (o:Obj) (u:HO)
 /-- a code object's table -/
 |tbl (ps:Array Value)
 /-- any other thing,by what is true of its one object (a def of one's own: SetO a S n:=HO.ext fun h=>..) -/
 |ext (φ:Heap->Prop)
noncomputable abbrev Hp:=Addr->Option HO
noncomputable def upd(H:Hp)(a:Addr)(o:HO):Hp:=fun b=>if b=a then some o else H b
theorem ZK:upd H a o a=some o:=by unfold upd;rw[if_pos rfl]
theorem Qp(h:b≠a):upd H a o b=H b:=by unfold upd;rw[if_neg h]
theorem JA{H:Hp}(h:H a=some o)(h':H b=none):a≠b:=by
 intro e;subst e;rw[h]at h';cases h'
section
variable(P:Program)(w:World)
noncomputable def ObjOk(H:Hp)(h:Heap)(a:Addr):HO->Prop
 |.lst xs=>xs.length<=sizeLine/\∃(b:List Value) (n:Nat),Vals xs b/\h.get? a=some { cls:=.type "list",data:=.seq b.toArray n }
 |.tup xs=>xs.length<=sizeLine/\∃b:List Value,Vals xs b/\IsTup h a b.toArray
 |.dK kvs=>kvs.length<=sizeLine/\(a==sysModules)=false/\∃vs,KV kvs vs/\h.DictOf (Zd P w) a vs
 | .dT kvs=>kvs.length<=sizeLine/\(a==sysModules)=false/\∃xs:List (Tr×Addr×Value),
   Paired (fun(p:Tr×Addr×V) (q:Tr×Addr×Value)=>p.1=q.1/\p.2.1=q.2.1/\RelV p.2.2 q.2.2) kvs xs /\
   ∃o g ep,h.get? a=some o/\o.ExactDict/\o.data=.dict g ep/\g.toList=xs.map (entryOfKey (K9 P w))/\(xs.map (·.1)).Nodup/\ep=g.size
 |.set S n=>h.SetOf (intKind P w) a S n
 | .ins C d fs=>H d=some (.own a)/\fs.length<=1000/\d≠a/\h.get? a=some (PySem.W.instObj C d) /\
   ∃c,h.Ns1 d c/\(∀f,RelO (fs.lookup f) (c f))/\PySem.Within c (fs.map (·.1))
 |.own _=>∃o,h.get? a=some o
 |.xd fs=>∃c,h.Ns1 a c/\∀f,RelO (fs.lookup f) (c f)
 |.rng lo hi=>∃t u v,h.get? a=some { cls:=.type "range",data:=.fields #[.int lo t,.int hi u,.int 1 v] }
 |.frz o u=>h.get? a=some o/\ObjOk H h a u
 |.tbl ps=>h.get? a=some { cls:=.none,data:=.fields ps }
 |.met f x=>h.get? a=some (Iu (.ref f) (.ref x))
 |.ext e=>e h/\(∃o,h.get? a=some o)/\∀i h2:Heap,e i->(∀o,i.get? a=some o->h2.get? a=some o)->e h2
def HOk(H:Hp)(h:Heap):Prop:=∀a o,H a=some o->ObjOk P w H h a o
end
section
variable{P:Program}{w:World}{H H':Hp}{h h':Heap}{a:Addr}{o:HO}
theorem ObjOk.lt(x:ObjOk P w H h a o):a<h.objs.size:=by
 cases o with
 |lst c=>obtain⟨_,_,_,_,e⟩:=x;exact ND e
 |tup c=>obtain⟨_,_,_,p⟩:=x;exact p.lt
 |dK b=>obtain⟨_,_,_,_,o,_,_,e,_⟩:=x;exact ND e
 |dT b=>obtain⟨_,_,_,_,o,_,_,e,_⟩:=x;exact ND e
 |set S n=>obtain⟨o,_,_,_,e,_⟩:=x;exact ND e
 |ins C i fs=>obtain⟨_,_,_,e,_⟩:=x;exact ND e
 |own y=>obtain⟨_,e⟩:=x;exact ND e
 |xd fs=>obtain⟨_,⟨_,_,_,e,_⟩,_⟩:=x;exact ND e
 |rng lo g=>obtain⟨_,_,_,e⟩:=x;exact ND e
 |frz ob u=>obtain⟨e,_⟩:=x;exact ND e
 |tbl ps=>exact ND (show h.get? a=some _ from x)
 |met f y=>exact ND (show h.get? a=some _ from x)
 |ext d=>obtain⟨_,⟨_,e⟩,_⟩:=x;exact ND e
theorem Paired.mapP{F G:g->e->Prop}:∀{d:List g} {c:List e},Paired F d c->(∀a b,F a b->G a b)->Paired G d c
 |_,_,.nil,_=>.nil
 |_,_,.cons r t,f=>.cons (f _ _ r) (Paired.mapP t f)
theorem ObjOk.stay(x:ObjOk P w H h a o)(k:∀b u,(b=a\/H b=some (.own a))->h.get? b=some u->h'.get? b=some u)
  (D:∀b,H b=some (.own a)->H' b=some (.own a)) (I:∀b xs,H b=some (.tup xs)->H' b=some (.tup xs)):ObjOk P w H' h' a o:=by
 induction o with
 |lst xs=>obtain⟨z,j,n,r,e⟩:=x;exact⟨z,j,n,r,k _ _ (.inl rfl) e⟩
 |tup xs=>obtain⟨z,j,r,ob,e,c⟩:=x;exact⟨z,j,r,ob,k _ _ (.inl rfl) e,c⟩
 |dK s=>obtain⟨z,y,A,r,ob,g,i,e,c⟩:=x;exact⟨z,y,A,r,ob,g,i,k _ _ (.inl rfl) e,c⟩
 |dT s=>
  obtain⟨z,y,xs,r,ob,g,i,e,c⟩:=x;exact⟨z,y,xs,r,ob,g,i,k _ _ (.inl rfl) e,c⟩
 |set S n=>obtain⟨ob,g,i,t,e,c⟩:=x;exact⟨ob,g,i,t,k _ _ (.inl rfl) e,c⟩
 |ins C M fs=>
  obtain⟨d,z,ne,e,m,⟨l,g,i,E,c⟩,r⟩:=x;exact⟨D _ d,z,ne,k _ _ (.inl rfl) e,m,⟨l,g,i,k _ _ (.inr d) E,c⟩,r⟩
 |own y=>obtain⟨ob,e⟩:=x;exact⟨ob,k _ _ (.inl rfl) e⟩
 |xd fs=>obtain⟨m,⟨l,g,i,e,c⟩,r⟩:=x;exact⟨m,⟨l,g,i,k _ _ (.inl rfl) e,c⟩,r⟩
 |rng lo L=>obtain⟨t,u,v,e⟩:=x;exact⟨t,u,v,k _ _ (.inl rfl) e⟩
 |frz ob u B=>obtain⟨e,q⟩:=x;exact⟨k _ _ (.inl rfl) e,B q⟩
 |tbl ps=>
  have e:h.get? a=some { cls:=.none,data:=.fields ps }:=x;show h'.get? a=some { cls:=.none,data:=.fields ps };exact k a _ (.inl rfl) e
 |met f y=>
  have e:h.get? a=some (Iu (.ref f) (.ref y)):=x;show h'.get? a=some (Iu (.ref f) (.ref y));exact k a _ (.inl rfl) e
 |ext G=>obtain⟨p,⟨o,e⟩,st⟩:=x;exact⟨st _ _ p fun o q=>k _ _ (.inl rfl) q,⟨o,k _ _ (.inl rfl) e⟩,st⟩
theorem HOk.lt(x:HOk P w H h)(e:H a=some o):a<h.objs.size:=(x a o e).lt
theorem HOk.fresh(x:HOk P w H h)(e:h.objs.size<=a):H a=none:=by
 cases q:H a with
 |none=>rfl
 |some u=>exact absurd (Nd (x.lt q) e) (Ed _)
theorem HOk.kept(x:HOk P w H h)(k:∀b u,h.get? b=some u->h'.get? b=some u):HOk P w H h':=fun a o e=>
 (x a o e).stay (fun b u _ q=>k b u q) (fun _ q=>q) fun _ _ q=>q
theorem HOk.laid(x:HOk P w H h)(k:∀b u,h.get? b=some u->h'.get? b=some u)(g:h.objs.size<=a)(new:ObjOk P w (upd H a o) h' a o):HOk P w (upd H a o) h':=fun b u e=>by
 have d:=x.fresh g
 by_cases f:b=a
 ·subst f;rw[ZK]at e;cases e;exact new
 ·rw[Qp f]at e;exact(x b u e).stay (fun c v _ q=>k c v q) (fun c q=>by rw[Qp (JA q d)];exact q) fun c i q=>by rw[Qp (JA q d)];exact q
end
def Rd(H:Hp)(a:Addr)(u:HO):Prop:=H a=some u\/∃o,H a=some (.frz o u)
theorem Rd.ok{H:Hp}{u:HO}(r:Rd H a u)(x:HOk P w H h):ObjOk P w H h a u:=by
 rcases r with r|⟨o,r⟩
 ·exact x a u r
 ·obtain⟨_,q⟩:=x a _ r;exact q
noncomputable def Mut:Option HO->Prop
 |some (.lst _)=>True
 |some (.dK _)=>True
 |some (.dT _)=>True
 |some (.set _ _)=>True
 |some (.ins _ _ _)=>True
 |some (.ext _)=>True
 |_=>False
section
variable{P:Program}{w:World}{H:Hp}{h h':Heap}{x e:Addr}{o':HO}
theorem HOk.write(ok:HOk P w H h)(i:Mut (H x))(o:e=x\/H e=some (.own x))(k:∀b u,b≠e->h.get? b=some u->h'.get? b=some u)(m:∃u,h'.get? e=some u)
  (new:ObjOk P w (upd H x o') h' x o'):HOk P w (upd H x o') h':=fun b u q=>by
 have d:∀c y,H c=some (.own y)->c≠x:=fun c y r z=>by subst z;rw[r]at i;exact i
 have f:∀c g,H c=some (.tup g)->c≠x:=fun c g r z=>by subst z;rw[r]at i;exact i
 by_cases l:b=x
 ·subst l;rw[ZK]at q;cases q;exact new
 ·rw[Qp l]at q
  by_cases a:b=e
  ·have n:H b=some (.own x):=by
    rcases o with z|z
    ·exact absurd (a.trans z) l
    ·rw[a];exact z
   rw[q]at n;cases n;obtain⟨v,p⟩:=m;exact⟨v,by rw[a];exact p⟩
  ·refine(ok b u q).stay (fun c v j r=>k c v ?_ r) (fun c r=>by rw[Qp (d c b r)];exact r) fun c g r=>by rw[Qp (f c g r)];exact r
   rcases j with rfl|j
   ·exact a
   ·rintro rfl
    rcases o with z|z
    ·exact d c b j z
    ·rw[j]at z;cases z;exact l rfl
end
structure Un(fs ex:List Addr)(H H':Hp)(h h':Heap):Prop where
 keep:∀b o,h.get? b=some o->H b=none->b∉fs->b∉ex->h'.get? b=some o
 slot:∀b o,h.get? b=some o->H b=none->b∈fs->b∉ex->∃sl,h'.get? b=some { o with slots:=sl }
 free:∀b o,h.get? b=some o->H b=none->b∉ex->H' b=none
 there:∀b o,h.get? b=some o->b∉ex->∃o',h'.get? b=some o'
 tups:∀b xs,H b=some (.tup xs)->H' b=some (.tup xs)
 frzs:∀b o u,H b=some (.frz o u)->H' b=some (.frz o u)
 tbls:∀b ps,H b=some (.tbl ps)->∃more,H' b=some (.tbl (ps++more))
section
variable{fs fs' ex ex':List Addr}{H H1 H2:Hp}{h h1 h2 h':Heap}{a x e:Addr}{o:HO}
theorem Un.any(u:Un fs ex H H1 h h1)(q:h.get? b=some ob)(n:H b=none)(c:b∉ex):∃f,h1.get? b=some { ob with slots:=f }:=by
 by_cases d:b∈fs
 ·exact u.slot b ob q n d c
 ·exact⟨ob.slots,u.keep b ob q n d c⟩
theorem Un.kept(k:∀b u,h.get? b=some u->h'.get? b=some u):Un fs ex H H h h':=
 ⟨fun b ob q _ _ _=>k b ob q,fun b ob q _ _ _=>⟨ob.slots,k b ob q⟩,fun _ _ _ n _=>n,fun b ob q _=>⟨ob,k b ob q⟩,fun _ _ q=>q,fun _ _ _ q=>q,fun _ ps q=>⟨#[],by rw[q];simp⟩⟩
theorem Un.refl:Un fs ex H H h h:=Un.kept fun _ _ q=>q
theorem Un.laid(k:∀b u,h.get? b=some u->h'.get? b=some u)(f:h.objs.size<=a)(c:H a=none):Un fs ex H (upd H a o) h h' where
 keep:=fun b u q _ _ _=>k b u q
 slot:=fun b u q _ _ _=>⟨u.slots,k b u q⟩
 free:=fun b u q n _=>by rw[Qp (NM (Nd (ND q) f))];exact n
 there:=fun b u q _=>⟨u,k b u q⟩
 tups:=fun b d q=>by rw[Qp (JA q c)];exact q
 frzs:=fun b u d q=>by rw[Qp (JA q c)];exact q
 tbls:=fun b ps q=>⟨#[],by rw[Qp (JA q c),q];simp⟩
theorem Un.write(d:Mut (H x))(p:e=x\/H e=some (.own x))(k:∀b u,b≠e->h.get? b=some u->h'.get? b=some u)(g:∃u,h'.get? e=some u):Un fs ex H (upd H x o) h h':=by
 have i:∀b,H b=none->b≠x:=fun b n z=>by subst z;rw[n]at d;exact d
 have j:∀b,H b=none->b≠e:=fun b n z=>by
  subst z
  rcases p with r|r
  ·exact i b n r
  ·rw[n]at r;cases r
 have f:∀b u,H b=some u->¬Mut (some u)->b≠x:=fun b u q m z=>by subst z;rw[q]at d;exact m d
 refine⟨fun b u q n _ _=>k b u (j b n) q,fun b u q n _ _=>⟨u.slots,k b u (j b n) q⟩,fun b u q n _=>by rw[Qp (i b n)];exact n,fun b u q _=>?_,
  fun b l q=>by rw[Qp (f b _ q fun z=>z)];exact q,fun b u l q=>by rw[Qp (f b _ q fun z=>z)];exact q,fun b ps q=>⟨#[],by rw[Qp (f b _ q fun z=>z),q];simp⟩⟩
 by_cases c:b=e
 ·subst c;exact g
 ·exact⟨u,k b u c q⟩
end
noncomputable def trk(h:Heap)(H:Hp):List Addr:=(List.range h.objs.size).filter fun a=>(H a).isSome
noncomputable def QfJ(h:Heap)(H:Hp):Heap:=PySem.W.hideAll h (trk h H)
theorem QdA(h:Heap)(H:Hp):(QfJ h H).objs.size=h.objs.size:=PySem.W.hideAll_size _ _
theorem QfK(e:h.get? b=some o)(n:H b=none):(QfJ h H).get? b=some o:=
 PySem.W.hideAll_get _ e fun a=>by
  have q:(H b).isSome=true:=(O7.mp a).2;rw[n]at q;simp at q
theorem QhJ(e:(QfJ h H).get? b=some o):h.get? b=some o/\H b=none:=by
 have a:h.get? b=some o:=PySem.W.of_hideAll (trk h H) e;refine⟨a,?_⟩;cases q:H b with
 |none=>rfl
 |some x=>
  have c:b∈trk h H:=O7.mpr ⟨DZ.mpr (ND a),by simp[q]⟩;have z:(QfJ h H).get? b=none:=PySem.W.hideAll_none (trk h H) c;rw[z]at e;cases e
structure Mod(K:Nj)(mg:Str->Option Value)(base:Heap):Prop where
 kin:K.In base
 glob:base.Ns mainGlobals mg
 blt:∃mb,base.Ns builtinsNs mb/\∀x:Str,x≠"__name__"->mb x=bootBuiltins x
 nolimit:base.NoLimit
structure Cx where
 prog:Program
 w:World
 K:Nj
 mg:Str->Option Value
 base:Heap
 A:Around
 N:List Str
 s₀:Shared
 H₀:Hp
 env:Env
 outer:List Env
 stack:List Env
 ex:List Addr
 fn:Str->Bool
 calm:Bool
 pn:List (Addr×Obj)
 xe:Value->Shared->Prop
noncomputable def frs(l:List Env):List Addr:=l.filterMap (·.frame)
noncomputable abbrev Cx.fs(X:Cx):List Addr:=frs X.outer
def Vis(a:Scope)(x:Str):Prop:=a.names.lookup x=some .local\/a.names.lookup x=some .cell\/a.names.lookup x=some .free
def Loc(a:Scope)(x:Str):Prop:=a.names.lookup x=some .local\/a.names.lookup x=some .cell
def Qqh(env:Env)(h:Heap)(m:Str->Option Value)(x:Str)(u:Value):Prop:=
 (env.kindOf x=some .local/\m x=some u)\/((env.kindOf x=some .cell\/env.kindOf x=some .free)/\∃c,env.cells.lookup x=some c/\h.IsCell c (some u))
structure Cx.Ok(X:Cx):Prop where
 mod:Mod X.K X.mg X.base
 kind:X.env.scope.kind=.function
 glob:X.env.globals=mainGlobals
 blt:X.env.builtins=builtinsNs
 above:X.s₀.heap.objs.size<=X.env.locals
 inj:∀x y c,X.env.cells.lookup x=some c->X.env.cells.lookup y=some c->x=y
 has:∀x,(X.env.kindOf x=some .cell\/X.env.kindOf x=some .free)->∃c,X.env.cells.lookup x=some c
 cab:∀x c,X.fn x=true->X.env.cells.lookup x=some c->X.s₀.heap.objs.size<=c
 hd:X.calm=true->X.A.handled=none
 frames:X.A.frames=some X.stack
 stk:X.stack=X.outer\/(X.stack=X.env::X.outer/\X.env.frame=some X.env.locals)
 exf:∀b∈X.ex,b≠X.env.locals/\∀x c,X.env.cells.lookup x=some c->c≠b
 bs:∀b o,X.base.get? b=some o->X.s₀.heap.get? b=some o/\X.H₀ b=none
 bsz:X.base.objs.size<=X.s₀.heap.objs.size
 noex:∀b o,X.base.get? b=some o->b∉X.ex
 exfs:∀b∈X.ex,b∉X.fs
 funs:X.s₀.heap.FunFrames X.base X.outer
 frf:∀b∈X.fs,X.H₀ b=none
structure Inv(X:Cx)(pins:List (Addr×Obj))(σ:List (Option V))(H:Hp)(s:Shared):Prop where
 ok:X.Ok
 os:s.os=X.s₀.os
 bare:AllBare s.gens
 base:Un X.fs X.ex X.H₀ H X.s₀.heap s.heap
 loc:∃m,s.heap.Ns X.env.locals m/\∀(i:Nat) (x:Str) (v:V),X.N[i]?=some x->σ[i]?=some (some v)->Vis X.env.scope x->∃u,RelV v u/\Qqh X.env s.heap m x u
 cell:∀x c,X.env.cells.lookup x=some c->∃v,s.heap.IsCell c v
 free:H X.env.locals=none
 freeC:∀x c,X.env.cells.lookup x=some c->H c=none
 pin:∀p∈X.pn++pins,s.heap.get? p.1=some p.2/\H p.1=none/\p.1≠X.env.locals/\p.1∉X.fs/\∀v,p.2.data≠.cell v
 hok:HOk X.prog X.w H s.heap
 len:σ.length=X.N.length
section
variable{X:Cx}{pins:List (Addr×Obj)}{σ:List (Option V)}{H H':Hp}{s:Shared}{h':Heap}
theorem Cx.Ok.nofr(ok:X.Ok)(e:X.base.get? b=some o):b∉X.fs:=fun a=>by
 have:=(ok.funs.mem a).1;rw[e]at this;cases this
theorem Inv.bs(I:Inv X pins σ H s):∀b o,X.base.get? b=some o->s.heap.get? b=some o/\H b=none:=fun b o e=>
 ⟨I.base.keep b o (I.ok.bs b o e).1 (I.ok.bs b o e).2 (I.ok.nofr e) (I.ok.noex b o e),I.base.free b o (I.ok.bs b o e).1 (I.ok.bs b o e).2 (I.ok.noex b o e)⟩
theorem Inv.bk(I:Inv X pins σ H s):∀b o,X.base.get? b=some o->s.heap.get? b=some o:=fun b o e=>(I.bs b o e).1
theorem Inv.mod(I:Inv X pins σ H s):Mod X.K X.mg X.base:=I.ok.mod
theorem Inv.kIn(I:Inv X pins σ H s):X.K.In s.heap:=I.ok.mod.kin.keeps I.bk
theorem Inv.lt(I:Inv X pins σ H s):X.env.locals<s.heap.objs.size:=let⟨_,a,_⟩:=I.loc;a.lt
theorem Inv.sz(I:Inv X pins σ H s):X.s₀.heap.objs.size<=s.heap.objs.size:=Nh I.ok.above (Nn I.lt)
theorem Inv.nofs(I:Inv X pins σ H s)(h:s.heap.objs.size<=a):a∉X.fs:=fun c=>by
 obtain⟨_,o,b,_⟩:=I.ok.funs.mem c;exact absurd (Nd (ND b) (Nh I.sz h)) (Ed _)
theorem Inv.cne(I:Inv X pins σ H s):∀x c,X.env.cells.lookup x=some c->c≠X.env.locals:=fun x c e z=>by
 obtain⟨v,o,d,hd⟩:=I.cell x c e;obtain⟨m,⟨f,g,h,a,b,_⟩,_⟩:=I.loc;rw[z,a]at d;cases d;rw[b]at hd;cases hd
theorem Inv.funs(I:Inv X pins σ H s):s.heap.FunFrames X.base X.outer:=by
 have all:∀(l:List Env),(∀b∈frs l,b∈X.fs)->X.s₀.heap.FunFrames X.base l->s.heap.FunFrames X.base l:=by
  intro l
  induction l with
  |nil=>intro _ _;trivial
  |cons n r g=>
   intro f j;obtain⟨m,⟨L,o,a,i,h,hd⟩,hr⟩:=j;have d:L∈X.fs:=f L (by unfold frs;rw[Fj,a];exact Ny);obtain⟨p,e⟩:=I.base.slot L o h (I.ok.frf L d) d fun z=>I.ok.exfs L z d;exact⟨m,⟨L,_,a,i,e,hd⟩,g (fun b c=>f b (by unfold frs;rw[Fj,a];exact Nu _ c)) hr⟩
 exact all X.outer (fun _ c=>c) I.ok.funs
theorem Inv.stack(I:Inv X pins σ H s):s.heap.FunFrames X.base X.stack:=by
 rcases I.ok.stk with e|⟨e,b⟩
 ·rw[e];exact I.funs
 ·rw[e];obtain⟨m,a,_⟩:=I.loc;refine .cons (by rw[I.ok.kind];decide) b a ?_ I.funs;exact Heap.get?_none_of_le (Nh I.ok.bsz I.ok.above)
theorem Inv.stkSub(I:Inv X pins σ H s):∀b∈frs X.stack,b∈X.env.locals::X.fs:=fun b a=>by
 rcases I.ok.stk with e|⟨e,c⟩
 ·rw[e]at a;exact Nu _ a
 ·rw[e]at a;unfold frs at a;rw[Fj,c]at a;exact a
theorem Inv.stkFree(I:Inv X pins σ H s):∀b∈frs X.stack,H b=none:=fun b a=>by
 rcases NH.mp (I.stkSub b a)with e|a
 ·rw[e];exact I.free
 ·obtain⟨_,o,c,_⟩:=I.ok.funs.mem a;exact I.base.free b o c (I.ok.frf b a) fun z=>I.ok.exfs b z a
theorem Inv.step{ch:List Addr}(I:Inv X pins σ H s)
  (g:∀b∈ch,(b∈X.ex\/X.s₀.heap.objs.size<=b)/\b≠X.env.locals/\(∀x c,X.env.cells.lookup x=some c->c≠b)/\∀p∈X.pn++pins,p.1≠b)
  (keep:∀b o,b≠X.env.locals->b∉X.fs->b∉ch->s.heap.get? b=some o->H b=none->h'.get? b=some o)
  (slot:∀b o,b≠X.env.locals->b∈X.fs->b∉ch->s.heap.get? b=some o->H b=none->∃N,h'.get? b=some { o with slots:=N }) (free:∀b o,b∉ch->s.heap.get? b=some o->H b=none->H' b=none)
  (there:∀b o,b∉ch->s.heap.get? b=some o->∃D,h'.get? b=some D)
  (B:∀b xs,H b=some (.tup xs)->H' b=some (.tup xs)) (G:∀b o u,H b=some (.frz o u)->H' b=some (.frz o u)) (C:∀b ps,H b=some (.tbl ps)->∃more,H' b=some (.tbl (ps++more)))
  (ns:∀m,s.heap.Ns X.env.locals m->h'.Ns X.env.locals m) (O:HOk X.prog X.w H' h') (hg:AllBare g') :
  Inv X pins σ H' { s with heap:=h',gens:=g',drawn:=d',toks:=t' }:=by
 have E:∀b o,X.s₀.heap.get? b=some o->b≠X.env.locals:=fun b o e=>NM (Nd (ND e) I.ok.above)
 have j:∀b o,X.s₀.heap.get? b=some o->b∉X.ex->b∉ch:=fun b o e a y=>by
  rcases(g b y).1 with z|z
  ·exact a z
  ·exact absurd (Nd (ND e) z) (Ed _)
 have h:∀x c,X.env.cells.lookup x=some c->∀v,s.heap.IsCell c v->h'.IsCell c v:=fun x c e v ⟨o,A,hd⟩=>by
  have f:c∉ch:=fun z=>(g c z).2.2.1 x c e rfl
  by_cases S:c∈X.fs
  ·obtain⟨N,q⟩:=slot c o (I.cne x c e) S f A (I.freeC x c e);exact⟨_,q,hd⟩
  ·exact⟨o,keep c o (I.cne x c e) S f A (I.freeC x c e),hd⟩
 refine⟨I.ok,I.os,hg,⟨fun b o e n y a=>?_,fun b o e n y a=>?_,fun b o e n a=>?_,fun b o e a=>?_,fun b xs e=>B b xs (I.base.tups b xs e),fun b o xs e=>G b o xs (I.base.frzs b o xs e),fun b ps e=>?_⟩,?_,fun x c e=>?_,?_,fun x c e=>?_,fun p Q=>?_,O,I.len⟩
 ·exact keep b o (E b o e) y (j b o e a) (I.base.keep b o e n y a) (I.base.free b o e n a)
 ·obtain⟨N,t⟩:=I.base.slot b o e n y a;obtain⟨M,L⟩:=slot b _ (E b o e) y (j b o e a) t (I.base.free b o e n a);exact⟨M,L⟩
 ·obtain⟨D,t⟩:=I.base.there b o e a;exact free b D (j b o e a) t (I.base.free b o e n a)
 ·obtain⟨D,t⟩:=I.base.there b o e a;exact there b D (j b o e a) t
 ·obtain⟨Y,t⟩:=I.base.tbls b ps e;obtain⟨U,L⟩:=C b _ t;exact⟨Y++U,by rw[L,Array.append_assoc]⟩
 ·obtain⟨m,Z,hl⟩:=I.loc;refine⟨m,ns m Z,fun i x v t L e3=>?_⟩;obtain⟨u,r,l⟩:=hl i x v t L e3;refine⟨u,r,?_⟩
  rcases l with l|⟨k,c,e,z⟩
  ·exact .inl l
  ·exact .inr ⟨k,c,e,h x c e _ z⟩
 ·obtain⟨v,z⟩:=I.cell x c e;exact⟨v,h x c e v z⟩
 ·obtain⟨m,⟨o,_,_,A,_⟩,_⟩:=I.loc;exact free _ o (fun z=>(g _ z).2.1 rfl) A I.free
 ·obtain⟨v,o,A,hd⟩:=I.cell x c e;exact free c o (fun z=>(g c z).2.2.1 x c e rfl) A (I.freeC x c e)
 ·obtain⟨e,n,ne,P,d⟩:=I.pin p Q;have f:p.1∉ch:=fun z=>(g p.1 z).2.2.2 p Q rfl;exact⟨keep p.1 p.2 ne P f e n,free p.1 p.2 f e n,ne,P,d⟩
theorem Inv.un(I:Inv X pins σ H s)(u:Un X.fs [] H H' s.heap h')(c:HOk X.prog X.w H' h'):Inv X pins σ H' { s with heap:=h',toks:=t' }:=by
 obtain⟨m,⟨o,x,y,h,r⟩,_⟩:=id I.loc;obtain⟨p,l⟩:=u.any h I.free (by simp)
 exact I.step (g':=s.gens) (d':=s.drawn) (ch:=[]) (fun _ z=>nomatch z) (fun b o _ d _ e n=>u.keep b o e n d (by simp)) (fun b o _ d _ e n=>u.slot b o e n d (by simp)) (fun b o _ e n=>u.free b o e n (by simp)) (fun b o _ e=>u.there b o e (by simp)) u.tups u.frzs u.tbls (fun t j=>by
  obtain⟨q,f,g,a,i⟩:=j;rw[h]at a;cases a
  exact⟨_,f,g,l,i⟩) c I.bare
theorem Inv.call{ch:List Addr}(I:Inv X pins σ H s)(u:Un (frs X.stack) ch H H' s.heap h')(g:HOk X.prog X.w H' h')(v:AllBare g')
  (f:∀b∈ch,(b∈X.ex\/X.s₀.heap.objs.size<=b)/\b≠X.env.locals/\(∀x c,X.env.cells.lookup x=some c->c≠b)/\∀p∈X.pn++pins,p.1≠b) :
  Inv X pins σ H' { s with heap:=h',gens:=g',drawn:=d',toks:=t' }:=by
 obtain⟨m,⟨o,D,E,l,r⟩,_⟩:=id I.loc;obtain⟨A,h⟩:=u.any l I.free fun z=>(f _ z).2.1 rfl
 exact I.step (ch:=ch) f (fun b o h y a e n=>u.keep b o e n (fun z=>(NH.mp (I.stkSub b z)).elim h y) a) (fun b o _ _ a e n=>u.any e n a) (fun b o a e n=>u.free b o e n a) (fun b o a e=>u.there b o e a) u.tups u.frzs u.tbls (fun C t=>by
  obtain⟨B,i,j,d,q⟩:=t;rw[l]at d;cases d
  exact⟨_,i,j,h,q⟩) g v
theorem Inv.turned{t':Nat}(I:Inv X pins σ H s)(k:∀b o,b≠it->s.heap.get? b=some o->h'.get? b=some o)(h:H it=none)(f:it≠X.env.locals)
  (t:it∈X.ex\/X.s₀.heap.objs.size<=it) (h2:∀x c,X.env.cells.lookup x=some c->c≠it) (l:∀p∈X.pn++pins,p.1≠it):Inv X pins σ H { s with heap:=h',toks:=t' }:=by
 have d:∀b u,H b=some u->b≠it:=fun b u e z=>by rw[z,h]at e;cases e
 refine I.step (g':=s.gens) (d':=s.drawn) (ch:=[it]) (fun b j=>?_) (fun b o _ _ a e _=>k b o (fun z=>a (by simp[z])) e) (fun b o _ _ a e _=>⟨o.slots,k b o (fun z=>a (by simp[z])) e⟩) (fun _ _ _ _ n=>n)
  (fun b o a e=>⟨o,k b o (fun z=>a (by simp[z])) e⟩) (fun _ _ e=>e) (fun _ _ _ e=>e) (fun b ps e=>⟨#[],by rw[e];simp⟩) (fun m i=>?_) (fun b u e=>?_) I.bare
 ·have e:b=it:=by simpa using j
  subst e;exact⟨t,f,h2,l⟩
 ·obtain⟨o,w,y,g,r⟩:=i;exact⟨o,w,y,k _ o (EZ f) g,r⟩
 ·refine(I.hok b u e).stay (fun c v a q=>k c v ?_ q) (fun _ q=>q) fun _ _ q=>q
  rcases a with z|z
  ·rw[z];exact d b u e
  ·exact d c _ z
theorem Inv.tok(I:Inv X pins σ H s)(t:Nat):Inv X pins σ H { s with toks:=t }:=I.un (h':=s.heap) (t':=t) Un.refl I.hok
theorem Inv.kept(I:Inv X pins σ H s)(k:∀b u,s.heap.get? b=some u->h'.get? b=some u):Inv X pins σ H { s with heap:=h',toks:=t' }:=I.un (Un.kept k) (I.hok.kept k)
theorem Inv.laid(I:Inv X pins σ H s)(k:∀b u,s.heap.get? b=some u->h'.get? b=some u)(c:s.heap.objs.size<=a)(new:ObjOk X.prog X.w (upd H a o) h' a o) :
  Inv X pins σ (upd H a o) { s with heap:=h',toks:=t' }:=I.un (Un.laid k c (I.hok.fresh c)) (I.hok.laid k c new)
theorem Inv.write(I:Inv X pins σ H s)(c:Mut (H x))(d:e=x\/H e=some (.own x))(k:∀b u,b≠e->s.heap.get? b=some u->h'.get? b=some u)(a:∃u,h'.get? e=some u)
  (new:ObjOk X.prog X.w (upd H x o) h' x o):Inv X pins σ (upd H x o) { s with heap:=h',toks:=t' }:=I.un (Un.write c d k a) (I.hok.write c d k a new)
theorem Inv.pins_of(I:Inv X pins σ H s)(h:∀p∈a,s.heap.get? p.1=some p.2/\H p.1=none/\p.1≠X.env.locals/\p.1∉X.fs/\∀v,p.2.data≠.cell v):Inv X a σ H s:=
 ⟨I.ok,I.os,I.bare,I.base,I.loc,I.cell,I.free,I.freeC,fun p b=>(N9.mp b).elim (fun z=>I.pin p (Et _ z)) (h p),I.hok,I.len⟩
theorem Qa3{N:List Str}(hN:N.Nodup){i j:Nat}(a:N[i]?=some x)(b:N[j]?=some x):i=j:=by
 obtain⟨f,d⟩:=Ng.mp a;obtain⟨e,c⟩:=Ng.mp b;exact(List.getElem_inj hN).mp (d.trans c.symm)
theorem U3{i:Nat}{x:Str}{v:V}{u:Value}(I:Inv X pins σ H s)(hN:X.N.Nodup)(hi:X.N[i]?=some x)(B:Loc X.env.scope x)(r:RelV v u)
  (h:∀s',Inv X pins (σ.set i (some v)) H s'->(∃a,Heap.SameBut a s.heap s'.heap/\(a=X.env.locals\/X.env.cells.lookup x=some a))->Q () s') (hf:X.fn x=true\/X.env.scope.names.lookup x=some .local:=by first|exact .inl rfl|exact .inr rfl|assumption):wpAny M A (storeName X.env x u) Q E s:=by
 obtain⟨m,hn,hl⟩:=id I.loc;have Z:(X.env.scope.kind==.class ||(X.env.scope.kind==.module&&X.env.locals != X.env.globals))=false:=by rw[I.ok.kind];rfl
 have L:i<σ.length:=by rw[I.len];exact(Ng.mp hi).1
 have cne:=I.cne
 have g:∀{a:Addr} {h':Heap},(∃o,s.heap.get? a=some o/\H a=none)->Heap.SameBut a s.heap h'->HOk X.prog X.w H h':=fun {a h'} ha f b ob e=>by
  obtain⟨_,_,C⟩:=ha;refine(I.hok b ob e).stay (fun c w' t q=>(f.2 c ?_).trans q) (fun _ q=>q) fun _ _ q=>q
  rintro rfl
  rcases t with rfl|t
  ·rw[C]at e;cases e
  ·rw[C]at t;cases t
 rcases B with G|G
 ·refine wpAny_storeName_local G hn (fun h' af f=>?_) Z;obtain⟨oL,_,_,ae,_⟩:=id hn;refine h _ ⟨I.ok,I.os,I.bare,⟨fun b o e n S B=>?_,fun b o e n S B=>?_,I.base.free,fun b o e B=>?_,I.base.tups,I.base.frzs,I.base.tbls⟩,⟨_,af,fun j y v' l D e3=>?_⟩,fun y c e=>?_,I.free,I.freeC,fun p hp=>?_,g ⟨oL,ae,I.free⟩ f,by simpa using I.len⟩ ⟨_,f,.inl rfl⟩
  ·exact(f.2 b (NM (Nd (ND e) I.ok.above))).trans (I.base.keep b o e n S B)
  ·obtain⟨sl,l⟩:=I.base.slot b o e n S B;exact⟨sl,(f.2 b (NM (Nd (ND e) I.ok.above))).trans l⟩
  ·obtain⟨o',l⟩:=I.base.there b o e B;exact⟨o',(f.2 b (NM (Nd (ND e) I.ok.above))).trans l⟩
  ·by_cases O:j=i
   ·subst O;rw[hi]at l;cases l;rw[DW L]at D;cases D;exact⟨u,r,.inl ⟨G,by simp⟩⟩
   ·rw[D8 (EZ O)]at D;obtain⟨u',r',q⟩:=hl j y v' l D e3;refine⟨u',r',?_⟩
    rcases q with⟨k,e⟩|⟨k,c,e,z⟩
    ·refine .inl ⟨k,?_⟩;have:y≠x:=fun e=>O (Qa3 hN l (e▸hi));simp[this,e]
    ·exact .inr ⟨k,c,e,z.sameBut f (cne y c e)⟩
  ·obtain⟨w',z⟩:=I.cell y c e;exact⟨w',z.sameBut f (cne y c e)⟩
  ·obtain⟨e,n,ne,nf,d⟩:=I.pin p hp;exact⟨(f.2 p.1 ne).trans e,n,ne,nf,d⟩
 ·have P:X.fn x=true:=by
   rcases hf with z|z
   ·exact z
   ·rw[z]at G;cases G
  obtain⟨c,t⟩:=I.ok.has x (.inl G);obtain⟨w',z⟩:=I.cell x c t;refine wpAny_storeName_cell I.ok.kind G t z (fun h' ab f=>?_);obtain⟨oc,Y,U⟩:=id z;refine h { s with heap:=h' } ⟨I.ok,I.os,I.bare,⟨fun b o e n S B=>?_,fun b o e n S B=>?_,I.base.free,fun b o e B=>?_,I.base.tups,I.base.frzs,I.base.tbls⟩,⟨m,hn.sameBut f (EZ (cne x c t)),fun j y v' l D e3=>?_⟩,fun y c' e=>?_,I.free,I.freeC,fun p hp=>?_,g ⟨oc,Y,I.freeC x c t⟩ f,by simpa using I.len⟩ ⟨c,f,.inr t⟩
  ·exact(f.2 b (NM (Nd (ND e) (I.ok.cab x c P t)))).trans (I.base.keep b o e n S B)
  ·obtain⟨sl,l⟩:=I.base.slot b o e n S B;exact⟨sl,(f.2 b (NM (Nd (ND e) (I.ok.cab x c P t)))).trans l⟩
  ·obtain⟨o',l⟩:=I.base.there b o e B;exact⟨o',(f.2 b (NM (Nd (ND e) (I.ok.cab x c P t)))).trans l⟩
  ·by_cases O:j=i
   ·subst O;rw[hi]at l;cases l;rw[DW L]at D;cases D;exact⟨u,r,.inr ⟨.inl G,c,t,ab⟩⟩
   ·rw[D8 (EZ O)]at D;obtain⟨u',r',q⟩:=hl j y v' l D e3;refine⟨u',r',?_⟩
    rcases q with q|⟨k,c',e,z'⟩
    ·exact .inl q
    ·refine .inr ⟨k,c',e,z'.sameBut f ?_⟩
     rintro rfl
     exact O (Qa3 hN l (I.ok.inj _ _ _ e t▸hi))
  ·by_cases aa:c'=c
   ·subst aa;exact⟨_,ab⟩
   ·obtain⟨w2,z2⟩:=I.cell y c' e;exact⟨w2,z2.sameBut f aa⟩
  ·obtain⟨e,n,ne,nf,d⟩:=I.pin p hp;refine⟨(f.2 p.1 ?_).trans e,n,ne,nf,d⟩;intro q;rw[q,Y]at e;have q':oc=p.2:=N5 e;exact d w' (by rw[<-q'];exact U)
theorem Uj{i:Nat}{x:Str}{v:V}{u:Value}(I:Inv X pins σ H s)(hN:X.N.Nodup)(hi:X.N[i]?=some x)(b:Loc X.env.scope x)(r:RelV v u)
  (h:∀a,Inv X pins (σ.set i (some v)) H a->Q () a) (c:X.fn x=true\/X.env.scope.names.lookup x=some .local:=by first|exact .inl rfl|exact .inr rfl|assumption):wpAny M A (storeName X.env x u) Q E s:=
 U3 I hN hi b r (fun a d _=>h a d) c
theorem Inv.call'(I:Inv X pins σ H s)(l:a.os=s.os)(u:Un (frs X.stack) ch H H' s.heap a.heap)(d:HOk X.prog X.w H' a.heap)(m:AllBare a.gens)
  (f:∀b∈ch,(b∈X.ex\/X.s₀.heap.objs.size<=b)/\b≠X.env.locals/\(∀x c,X.env.cells.lookup x=some c->c≠b)/\∀p∈X.pn++pins,p.1≠b):Inv X pins σ H' a:=by
 obtain⟨h',h,i,g,j⟩:=a;have e:j=s.os:=l;subst e;exact I.call (g':=h) (t':=g) (d':=i) u d m f
end
noncomputable abbrev XK:=Value->Option Addr->Hp->Prop
noncomputable abbrev St:=List (Option V)
noncomputable abbrev VK:=V->Hp->Prop
noncomputable abbrev TE:=St->Hp->VK->Prop
noncomputable abbrev TT:=St->Hp->(Bool->Hp->Prop)->Prop
noncomputable abbrev TA:=St->Hp->(List V->Hp->Prop)->Prop
structure Ends where
 nx:St->Hp->Prop
 rt:VK
 bk:St->Hp->Prop:=fun _ _=>False
 ct:St->Hp->Prop:=fun _ _=>False
noncomputable abbrev TS:=Ends->St->Hp->Prop
def EP(X:Cx)(a:List (Addr×Obj))(σ:St)(Q:VK)(u:Value)(c:Shared):Prop:=∃v b,Inv X a σ b c/\RelV v u/\Q v b
def TP(X:Cx)(a:List (Addr×Obj))(σ:St)(Q:Bool->Hp->Prop)(b:Bool)(d:Shared):Prop:=∃c,Inv X a σ c d/\Q b c
def AP(X:Cx)(a:List (Addr×Obj))(σ:St)(Q:List V->Hp->Prop)(us:List Value)(d:Shared):Prop:=∃b c,Inv X a σ c d/\Vals b us/\Q b c
def SP(X:Cx)(b:List (Addr×Obj))(D:Ends)(f:Flow)(d:Shared):Prop:=
 match f with
 |.next=>∃a c,Inv X b a c d/\D.nx a c
 |.brk=>∃a c,Inv X b a c d/\D.bk a c
 |.cont=>∃a c,Inv X b a c d/\D.ct a c
 |.ret u=>∃v a c,Inv X b a c d/\RelV v u/\D.rt v c
def PE(X:Cx)(e:Expr)(t:TE):Prop:=
 ∀(a:List (Addr×Obj)) (s:Shared) (b:St) (H:Hp) (Q:VK),Inv X a b H s->t b H Q->wpAny (model X.prog X.w) X.A (eval e X.env) (EP X a b Q) X.xe s
def PT(X:Cx)(e:Expr)(t:TT):Prop:=
 ∀(a:List (Addr×Obj)) (s:Shared) (b:St) (H:Hp) (Q:Bool->Hp->Prop),Inv X a b H s->t b H Q->wpAny (model X.prog X.w) X.A (isTrue e X.env (eval e X.env)) (TP X a b Q) X.xe s
def PW(X:Cx)(e:Expr)(t:TT):Prop:=
 ∀(whole:Sem Value) (a:List (Addr×Obj)) (s:Shared) (b:St) (H:Hp) (Q:Bool->Hp->Prop),Inv X a b H s->t b H Q->wpAny (model X.prog X.w) X.A (isTrue e X.env whole) (TP X a b Q) X.xe s
theorem PW.pt(h:PW X e t):PT X e t:=h _
def PA(X:Cx)(c:List Expr)(t:TA):Prop:=
 ∀(pos:Pos) (a:List (Addr×Obj)) (s:Shared) (b:St) (H:Hp) (Q:List V->Hp->Prop),Inv X a b H s->t b H Q->wpAny (model X.prog X.w) X.A (spliced (backTo pos (starEach c X.env))) (AP X a b Q) X.xe s
def PS(X:Cx)(st:Stmt)(t:TS):Prop:=
 ∀(a:List (Addr×Obj)) (s:Shared) (b:St) (H:Hp) (D:Ends),Inv X a b H s->t D b H->wpAny (model X.prog X.w) X.A (exec st X.env) (SP X a D) X.xe s
def PSs(X:Cx)(st:List Stmt)(t:TS):Prop:=
 ∀(a:List (Addr×Obj)) (s:Shared) (b:St) (H:Hp) (D:Ends),Inv X a b H s->t D b H->wpAny (model X.prog X.w) X.A (execs st X.env) (SP X a D) X.xe s
theorem thn{b:Type}{t:Sem b}{Q Q':b->Shared->Prop}{M:Model}(h:wpAny M A t Q E s)(c:∀a s,Q a s->Q' a s):wpAny M A t Q' E s:=NU h c fun _ _ x=>x
section
variable{X:Cx}
theorem bin{a b:Expr}{n m:TE}(C:PE X a n)(B:PE X b m){c:List (Addr×Obj)}{s:Shared}{σ:St}{H:Hp}{R:V->V->Hp->Prop}(I:Inv X c σ H s)(h:n σ H fun x j=>m σ j fun y d=>R x y d)
  {l:Type} {Q:l->Shared->Prop} {f:Value->Value->Sem l}
  (z:∀v u i x y d,Inv X c σ d i->RelV x v->RelV y u->R x y d->wpAny (model X.prog X.w) X.A (f v u) Q X.xe i) :
  wpAny (model X.prog X.w) X.A (eval a X.env) (fun v g=>wpAny (model X.prog X.w) X.A (eval b X.env) (fun u e=>wpAny (model X.prog X.w) X.A (f v u) Q X.xe e) X.xe g) X.xe s:=by
 refine thn (C c s σ H _ I h) fun v o ⟨x,j,I1,q,t⟩=>?_;refine thn (B c o σ j _ I1 t) fun u i ⟨y,d,I2,p,r⟩=>?_;exact z v u i x y d I2 q p r
noncomputable def QpP(i:Nat):TE:=fun a H Q=>∃v,a[i]?=some (some v)/\Q v H
noncomputable def tC(v:V):TE:=fun _ H Q=>Q v H
theorem QkM(hN:X.N[i]?=some x)(n:Vis X.env.scope x)(hd:(x==("__debug__":Str))=false:=by decide)(f:(x==("__classdict__":Str))=false:=by decide):PE X (.Name x pos) (QpP i):=by
 intro d s j H Q I h;obtain⟨v,e,h⟩:=h;obtain⟨m,o,q⟩:=I.loc;obtain⟨u,r,l⟩:=q i x v hN e n;have fin:EP X d j Q u s:=⟨v,H,I,r,h⟩
 rcases l with⟨b,p⟩|⟨b,c,g,a⟩
 ·exact O8 (LI I.ok.kind b o p fin) hd
 ·rcases b with b|b
  ·exact O8 (LY I.ok.kind b g a fin) hd
  ·exact O8 (wpAny_loadName_free I.ok.kind b g a fin f) hd
theorem QkR{i j pos}:PE X (.Constant (.int i) j pos) (tC (.int i)):=fun _ _ _ H _ I h=>wpAny_Constant_int ⟨.int i,H,I.tok _,⟨_,rfl⟩,h⟩
theorem Qm6{b j pos}:PE X (.Constant (.bool b) j pos) (tC (.bl b)):=fun _ _ _ H _ I h=>Constant_bool ⟨.bl b,H,I,rfl,h⟩
theorem Qke{j pos}:PE X (.Constant .none j pos) (tC .non):=fun _ _ _ H _ I h=>Constant_none ⟨.non,H,I,rfl,h⟩
theorem Qj7{x j pos}:PE X (.Constant (.str x) j pos) (tC (.str x)):=fun _ _ _ H _ I h=>Calls.Constant_str ⟨.str x,H,I.tok _,⟨_,rfl⟩,h⟩
def Gl(X:Cx)(x:Str):Prop:=X.env.kindOf x=some .globalImplicit
theorem Qam{σ:St}{H:Hp}{x:Str}{u:Value}{pos:Pos}(I:Inv X a σ H s)(c:Gl X x)(b:X.mg x=some u)(h:Q u s)
  (hd:(x==("__debug__":Str))=false:=by decide):wpAny (model X.prog X.w) X.A (eval (.Name x pos) X.env) Q E s:=
 Il I.ok.kind c (Calls.loadGlobal_global (by rw[I.ok.glob];exact I.mod.glob.keeps I.bk) b h) hd
theorem XU{σ:St}{H:Hp}{x:Str}{u:Value}{pos:Pos}(I:Inv X a σ H s)(e:Gl X x)(d:X.mg x=none)(b:bootBuiltins x=some u)(h:Q u s)
  (c:x≠"__name__":=by decide) (hd:(x==("__debug__":Str))=false:=by decide):wpAny (model X.prog X.w) X.A (eval (.Name x pos) X.env) Q E s:=by
 obtain⟨i,g,f⟩:=I.mod.blt;exact Il I.ok.kind e (Calls.loadGlobal_builtin (by rw[I.ok.glob];exact I.mod.glob.keeps I.bk) d (by rw[I.ok.blt];exact g.keeps I.bk) ((f x c).trans b) h) hd
theorem QhH(b:Gl X x)(a:X.mg x=some u)(r:RelV v u)(hd:(x==("__debug__":Str))=false:=by decide):PE X (.Name x pos) (tC v):=
 fun _ _ _ H _ I h=>Qam I b a ⟨v,H,I,r,h⟩ hd
variable{a b:Expr}{ta tb:TE}{pos:Pos}
variable{tA tB':TT}{rest:List Expr}
noncomputable def Qo9(t u:TT):TT:=fun d H Q=>t d H fun c e=>if c=true then u d e Q else Q false e
noncomputable def tOr(t u:TT):TT:=fun d H Q=>t d H fun c e=>if c=true then Q true e else u d e Q
noncomputable def QpX(t:TT):TT:=fun d H Q=>t d H fun c e=>Q (!c) e
theorem QiG(g:PT X a tA):PW X (.BoolOp .And [a] pos) tA:=by
 intro i d s f H Q I h;refine isTrue_and (thn (g d s f H Q I h) fun c j e=>?_);cases c with
 |true=>exact isTrue_and_nil e
 |false=>exact e
theorem QkX(g:PT X a tA):PW X (.BoolOp .Or [a] pos) tA:=by
 intro i d s f H Q I h;refine isTrue_or (thn (g d s f H Q I h) fun c j e=>?_);cases c with
 |false=>exact isTrue_or_nil e
 |true=>exact e
theorem Qlf(m:PT X a tA)(l:PW X (.BoolOp .And (b::rest) pos) tB'):PW X (.BoolOp .And (a::b::rest) pos) (Qo9 tA tB'):=by
 intro i d s e H Q I h;refine isTrue_and (thn (m d s e H _ I h) fun c j ⟨g,I1,f⟩=>?_);cases c with
 |true=>exact l i d j e g Q I1 f
 |false=>exact⟨g,I1,f⟩
theorem Qof(m:PT X a tA)(l:PW X (.BoolOp .Or (b::rest) pos) tB'):PW X (.BoolOp .Or (a::b::rest) pos) (tOr tA tB'):=by
 intro i d s e H Q I h;refine isTrue_or (thn (m d s e H _ I h) fun c j ⟨g,I1,f⟩=>?_);cases c with
 |true=>exact⟨g,I1,f⟩
 |false=>exact l i d j e g Q I1 f
theorem QkU(f:PT X a tA):PT X (.UnaryOp .Not a pos) (QpX tA):=by
 intro d s e H Q I h;exact isTrue_not (f d s e H (fun c g=>Q (!c) g) I h)
noncomputable def tIf(t:TT)(ta tb:TE):TE:=fun d H Q=>t d H fun c e=>if c=true then ta d e Q else tb d e Q
theorem Qgb(l:PT X c tA)(n:PE X a ta)(m:PE X b tb):PE X (.IfExp c a b pos) (tIf tA ta tb):=by
 intro e s f H Q I h;refine wpAny_IfExp (thn (l e s f H _ I h) fun d g ⟨j,I1,i⟩=>?_);cases d with
 |true=>exact n e g f j Q I1 i
 |false=>exact m e g f j Q I1 i
end
def SqL(K:Nj)(H:Hp)(a:Addr)(xs:List V):Prop:=
 Rd H a (.lst xs) \/
  ∃(o:Obj) (b:Array Value) (n:Nat),K.lookup a=some o/\o.cls=.type "list"/\o.dict=none/\o.data=.seq b n/\b.size<=sizeLine/\Vals xs b.toList
def SqT(K:Nj)(H:Hp)(a:Addr)(xs:List V):Prop:=
 Rd H a (.tup xs) \/
  ∃(o:Obj) (b:Array Value) (n:Nat),K.lookup a=some o/\o.cls=.type "tuple"/\o.data=.seq b n/\b.size<=sizeLine/\Vals xs b.toList
noncomputable def Qqj:Value->Option V
 |.none=>some .non
 |.bool b=>some (.bl b)
 |.int i _=>some (.int i)
 |.str x _=>some (.str x)
 |.bytes b _=>some (.byt b)
 |.float b _=>some (.flt b)
 |.ref a=>some (.ref a)
 |.type n=>some (.ty n)
 |_=>none
theorem RelV.abs(r:RelV x u):Qqj u=some x:=by
 cases x with
 |non=>cases r;rfl
 |bl _=>cases r;rfl
 |int _=>obtain⟨t,rfl⟩:=r;rfl
 |str _=>obtain⟨t,rfl⟩:=r;rfl
 |byt _=>obtain⟨t,rfl⟩:=r;rfl
 |flt _=>obtain⟨t,rfl⟩:=r;rfl
 |ref _=>cases r;rfl
 |ty _=>cases r;rfl
theorem RelV.inj(r:RelV x u)(q:RelV y u):x=y:=N5 (r.abs.symm.trans q.abs)
theorem Vals.inj:∀{xs a:List V} {us:List Value},Vals xs us->Vals a us->xs=a:=by
 intro xs a us p q
 induction p generalizing a with
 |nil=>cases q;rfl
 |cons r t d=>cases q with|cons c b=>rw[r.inj c,d b]
section
variable{X:Cx}{pins:List (Addr×Obj)}{σ:St}{H:Hp}{s:Shared}{a:Addr}{xs ys:List V}
theorem SqL.of{K:Nj}(h:H a=some (.lst xs)):SqL K H a xs:=.inl (.inl h)
theorem SqT.of{K:Nj}(h:H a=some (.tup xs)):SqT K H a xs:=.inl (.inl h)
theorem Inv.list(I:Inv X pins σ H s)(h:SqL X.K H a xs):∃b:List Value,Vals xs b/\PlainL s.heap a b.toArray/\xs.length<=sizeLine:=by
 rcases h with h|⟨o,b,n,f,g,hd,d,c,r⟩
 ·obtain⟨z,b,n,r,e⟩:=h.ok I.hok;exact⟨b,r,⟨_,n,e,rfl,rfl,rfl⟩,z⟩
 ·refine⟨b.toList,r,⟨o,n,I.kIn a o f,g,hd,by simpa using d⟩,?_⟩;have e:=r.length;simp only[NB]at e;exact Nh (Nt e) c
theorem Inv.tuple(I:Inv X pins σ H s)(h:SqT X.K H a xs):∃b:List Value,Vals xs b/\IsTup s.heap a b.toArray/\xs.length<=sizeLine:=by
 rcases h with h|⟨o,b,n,f,g,d,c,r⟩
 ·obtain⟨z,b,r,p⟩:=h.ok I.hok;exact⟨b,r,p,z⟩
 ·refine⟨b.toList,r,⟨o,I.kIn a o f,g,n,by simpa using d⟩,?_⟩;have e:=r.length;simp only[NB]at e;exact Nh (Nt e) c
theorem Inv.list_inj(I:Inv X pins σ H s)(h:SqL X.K H a xs)(h':SqL X.K H a ys):xs=ys:=by
 obtain⟨c,r,⟨o,n,e,_,_,d⟩,_⟩:=I.list h;obtain⟨b,i,⟨l,m,f,_,_,g⟩,_⟩:=I.list h';rw[e]at f;cases f;rw[d]at g;injection g with j _
 have:c=b:=by simpa using congrArg Array.toList j
 subst this;exact r.inj i
theorem Inv.tuple_inj(I:Inv X pins σ H s)(h:SqT X.K H a xs)(h':SqT X.K H a ys):xs=ys:=by
 obtain⟨c,r,⟨o,e,_,n,d⟩,_⟩:=I.tuple h;obtain⟨b,i,⟨l,f,_,m,g⟩,_⟩:=I.tuple h';rw[e]at f;cases f;rw[d]at g;injection g with j _
 have:c=b:=by simpa using congrArg Array.toList j
 subst this;exact r.inj i
end
noncomputable abbrev Cx.wish(X:Cx)(E:Value->Shared->Prop):Cx:={ X with xe:=E }
noncomputable abbrev Cx.nox(X:Cx):Cx:=X.wish fun _ _=>False
theorem Cx.Ok.wish{X:Cx}(ok:X.Ok)(E:Value->Shared->Prop):(X.wish E).Ok:=
 ⟨ok.mod,ok.kind,ok.glob,ok.blt,ok.above,ok.inj,ok.has,ok.cab,ok.hd,ok.frames,ok.stk,ok.exf,ok.bs,ok.bsz,ok.noex,ok.exfs,ok.funs,ok.frf⟩
theorem Cx.Ok.unwish{X:Cx}(ok:(X.wish E).Ok):X.Ok:=
 ⟨ok.mod,ok.kind,ok.glob,ok.blt,ok.above,ok.inj,ok.has,ok.cab,ok.hd,ok.frames,ok.stk,ok.exf,ok.bs,ok.bsz,ok.noex,ok.exfs,ok.funs,ok.frf⟩
section
variable{X:Cx}{pins:List (Addr×Obj)}{σ:St}{H:Hp}{s:Shared}{E:Value->Shared->Prop}
theorem Inv.wish(I:Inv X pins σ H s)(E:Value->Shared->Prop):Inv (X.wish E) pins σ H s:=⟨I.ok.wish E,I.os,I.bare,I.base,I.loc,I.cell,I.free,I.freeC,I.pin,I.hok,I.len⟩
theorem Inv.unwish(I:Inv (X.wish E) pins σ H s):Inv X pins σ H s:=⟨I.ok.unwish,I.os,I.bare,I.base,I.loc,I.cell,I.free,I.freeC,I.pin,I.hok,I.len⟩
theorem SP.unwish(h:SP (X.wish E) pins D f c):SP X pins D f c:=by
 cases f with
 |next=>obtain⟨a,b,I,q⟩:=h;exact⟨a,b,I.unwish,q⟩
 |brk=>obtain⟨a,b,I,q⟩:=h;exact⟨a,b,I.unwish,q⟩
 |cont=>obtain⟨a,b,I,q⟩:=h;exact⟨a,b,I.unwish,q⟩
 |ret u=>obtain⟨v,a,b,I,r,q⟩:=h;exact⟨v,a,b,I.unwish,r,q⟩
theorem PSs.nox{st:List Stmt}(h:PSs X.nox st t):PSs X st t:=fun pins s σ H D I hw=>
 NU (h pins s σ H D (I.wish _) hw) (fun _ _ q=>q.unwish) fun _ _ z=>False.elim z
end
section
variable{X:Cx}{st:Stmt}{rest:List Stmt}{t u:TS}{e:Expr}{te:TE}{pos:Pos}
noncomputable def Qns:TS:=fun D a H=>D.nx a H
noncomputable def QoS(t u:TS):TS:=fun D a H=>t { D with nx:=u D } a H
theorem Qil:PSs X [] Qns:=fun _ _ a H _ I h=>FT ⟨a,H,I,h⟩
theorem Qe3(g:PS X st t)(h2:PSs X rest u):PSs X (st::rest) (QoS t u):=by
 intro a s c H D I h;refine wpAny_execs_cons (thn (g a s c H { D with nx:=u D } I h) fun f d q=>?_);cases f with
 |next=>
  obtain⟨b,j,i,q⟩:=q;exact h2 a d b j D i q
 |ret v=>exact q
 |brk=>exact q
 |cont=>exact q
theorem Qie(c:PS X st t):PSs X [st] t:=by
 intro a s b H D I h;refine wpAny_execs_cons (thn (c a s b H D I h) fun f d q=>?_);cases f with
 |next=>exact FT q
 |ret v=>exact q
 |brk=>exact q
 |cont=>exact q
noncomputable def Qm9:TS:=fun D a H=>D.ct a H
theorem GU:PS X (.Continue pos) Qm9:=fun _ _ a H _ I h=>wpAny_Continue ⟨a,H,I,h⟩
theorem Inv.quiet(I:Inv X a σ H s):interactive X.env=false:=by simp[interactive,I.ok.kind]
noncomputable def QmC(te:TE):TS:=fun D a H=>te a H fun _ b=>D.nx a b
theorem QhN(f:PE X e te)(d:swapsWith e none pos.line X.env=pure false:=by rfl):PS X (.Expr e pos) (QmC te):=by
 intro a s b H D I h;exact wpAny_Expr_any (thn (f a s b H _ I h) fun v i ⟨x,g,I1,j,c⟩=>⟨b,g,I1,c⟩) I.quiet d
noncomputable def QqR(te:TE):TS:=fun D a H=>te a H D.rt
theorem Qlq(f:PE X e te):PS X (.Return (some e) pos) (QqR te):=by
 intro a s b H D I h;exact wpAny_Return_some (thn (f a s b H _ I h) fun v i ⟨x,g,I1,c,d⟩=>⟨x,b,g,I1,c,d⟩)
noncomputable def Qqk(c:TT)(t u:TS):TS:=fun D a H=>c a H fun b d=>if b=true then t D a d else u D a d
theorem QmA{c:Expr}(n:PT X c m)(p:PSs X a t)(o:PSs X b u):PS X (.If c a b pos) (Qqk m t u):=by
 intro f s g H D I h;refine wpAny_If (thn (n f s g H _ I h) fun d i ⟨l,I1,j⟩=>?_);cases d with
 |true=>exact p f i g l D I1 j
 |false=>exact o f i g l D I1 j
end
noncomputable abbrev TG:=V->St->Hp->(St->Hp->Prop)->Prop
noncomputable abbrev TGs:=List V->St->Hp->(St->Hp->Prop)->Prop
def PG(X:Cx)(target:Expr)(t:TG):Prop:=
 ∀(a:List (Addr×Obj)) (s:Shared) (c:St) (H:Hp) (v:V) (u:Value) (Q:St->Hp->Prop),Inv X a c H s->RelV v u->t v c H Q ->
  wpAny (model X.prog X.w) X.A (assign target X.env u) (fun _ e=>∃b d,Inv X a b d e/\Q b d) X.xe s
def PGs(X:Cx)(g:List Expr)(t:TGs):Prop:=
 ∀(a:List (Addr×Obj)) (s:Shared) (c:St) (H:Hp) (d:List V) (e:List Value) (Q:St->Hp->Prop),Inv X a c H s->Vals d e->t d c H Q ->
  wpAny (model X.prog X.w) X.A (assignInOrder ((assignEach g X.env).map (·.2)) e) (fun _ h=>∃b f,Inv X a b f h/\Q b f) X.xe s
noncomputable abbrev QpC:=V->V->V->Hp->(Hp->Prop)->Prop
def Qpz(X:Cx)(t:QpC):Prop:=
 ∀(a:List (Addr×Obj)) (s:Shared) (b:St) (H:Hp) (o i v:V) (c d u:Value) (Q:Hp->Prop),Inv X a b H s->RelV o c->RelV i d->RelV v u->t o i v H Q ->
  wpAny (model X.prog X.w) X.A (setItem c d u) (fun _ f=>∃e,Inv X a b e f/\Q e) X.xe s
noncomputable abbrev TIp:=V->V->Hp->VK->Prop
def PIp(X:Cx)(op:Operator)(t:TIp):Prop:=
 ∀(a:List (Addr×Obj)) (s:Shared) (b:St) (H:Hp) (x y:V) (v u:Value) (Q:VK),Inv X a b H s->RelV x v->RelV y u->t x y H Q ->
  wpAny (model X.prog X.w) X.A (inplaceOp op v u) (EP X a b Q) X.xe s
section
variable{X:Cx}{pos:Pos}
noncomputable def Qee(i:Nat):TG:=fun v a H Q=>Q (a.set i (some v)) H
theorem Qdz(hN:X.N.Nodup)(hi:X.N[i]?=some x)(b:Loc X.env.scope x)(c:X.fn x=true\/X.env.scope.names.lookup x=some .local:=by first|exact .inl rfl|exact .inr rfl|assumption):PG X (.Name x pos) (Qee i):=by
 intro a s e H v u Q I r h;exact Oy (Uj I hN hi b r (fun f d=>⟨_,H,d,h⟩) c)
noncomputable def Qpf:TGs:=fun b a H Q=>b=[]/\Q a H
noncomputable def Qkj(t:TG)(u:TGs):TGs:=fun c b H Q=>∃v r,c=v::r/\t v b H fun a d=>u r a d Q
theorem Qhu:PGs X [] Qpf:=by
 intro a s b H c d Q I r h;obtain⟨e,h⟩:=h;subst e;cases r;exact assignInOrder_nil ⟨b,H,I,h⟩
theorem Qe4{e:Expr}(m:PG X e t)(h2:PGs X c u)
  (l:(assignEach (e::c) X.env).map (·.2)=assign e X.env::(assignEach c X.env).map (·.2):=by rfl):PGs X (e::c) (Qkj t u):=by
 intro a s d H p w Q I r h;obtain⟨v,q,n,h⟩:=h;subst n;cases r with
 |cons r i=>
  rw[l];refine assignInOrder_cons (thn (m a s d H _ _ _ I r h) fun _ g f=>?_);obtain⟨b,o,I1,j⟩:=f;exact h2 a g b o _ _ Q I1 i j
noncomputable def Qp5(K:Nj)(n:Nat)(t:TGs):TG:=fun v c H Q=>∃a b,v=.ref a/\SqT K H a b/\b.length=n/\t b c H Q
theorem QkH(y:X.calm=true)(h:PGs X f t)
  (w:(assignEach f X.env).length=n:=by rfl) (d:(assignEach f X.env).findIdx? (·.1)=none:=by rfl):PG X (.Tuple f k pos) (Qp5 X.K n t):=by
 intro c s g H v u Q I r hw;obtain⟨a,j,A,q,x,hw⟩:=hw;subst A;cases r;obtain⟨l,i,p,C⟩:=I.tuple q;refine assign_Tuple_tuple (I.ok.hd y) p (by simp[w,<-x,i.length]) d fun z m=>?_;have I1:Inv X c g H { s with heap:=z }:=I.kept (t':=s.toks) fun b o e=>m b o (NM (ND e)) e;exact h c _ g H j _ Q I1 (by simpa using i) hw
noncomputable def QoW(b c:TE)(t:QpC):TG:=fun v a H Q=>b a H fun o f=>c a f fun i e=>t o i v e fun d=>Q a d
theorem Qlt{f g:TE}(A:PE X o f)(hi:PE X i g)(z:Qpz X t)
  (B:∀v,assign (.Subscript o i pos) X.env v=(do
   let b <-holding [v] (eval o X.env)
   let c <-holding [v,b] (eval i X.env)
   standAt pos
   holding [v,b,c] (setItem b c v)
   release [v,b,c] []):=by intro _;rfl):PG X (.Subscript o i pos) (QoW f g t):=by
 intro a s d H v u Q I r h;rw[B];refine Nc (Ej (thn (A a s d H _ I h) fun b l e=>?_));obtain⟨x,E,I1,n,w⟩:=e;refine Nc (Ej (thn (hi a l d E _ I1 w) fun c j e=>?_));obtain⟨y,D,I2,m,q⟩:=e;refine Nc (LQ (Nc (Ej (thn (z a j d D x y v b c u _ I2 n m r q) fun _ G ⟨C,I3,p⟩=>?_))));exact wpAny_release ⟨d,C,I3,p⟩
noncomputable def Qml(te:TE)(g:TG):TS:=fun D a H=>te a H fun x b=>g x a b D.nx
theorem Qkk{te:TE}(n:PE X e te)(m:PG X b g)(l:swapsWithSole [b] e pos.line X.env=pure false:=by rfl)(hw:swappedStores [b] e X.env=pure none:=by rfl)
  (o:(assignEach [b] X.env).map (·.2)=[assign b X.env]:=by rfl):PS X (.Assign [b] e pos) (Qml te g):=by
 intro a s c H D I h;refine wpAny_Assign_stores (thn (n a s c H _ I h) fun v f d=>?_) l hw;obtain⟨x,p,I1,i,j⟩:=d;rw[o];exact thn (m a f c p x v _ I1 i j) fun _ r q=>q
theorem QlE{e:Expr}{te:TE}(hN:X.N.Nodup)(hi:X.N[i]?=some x)(j:Loc X.env.scope x)(n:PE X e te)(l:swapsWith e (some (.Name x a)) pos.line X.env=pure false:=by rfl)(m:X.fn x=true\/X.env.scope.names.lookup x=some .local:=by first|exact .inl rfl|exact .inr rfl|assumption) :
  PS X (.Assign [.Name x a] e pos) (Qml te (Qee i)):=by
 intro b s c H D I h;refine wpAny_Assign_Name (thn (n b s c H _ I h) fun v q d=>?_) l;obtain⟨y,o,I1,f,g⟩:=d;exact Uj I1 hN hi j f (fun p I2=>⟨_,o,I2,g⟩) m
noncomputable def QpJ(i:Nat)(te:TE)(b:TIp):TS:=fun D a H=>∃x,a[i]?=some (some x)/\te a H fun y d=>b x y d fun z c=>D.nx (a.set i (some z)) c
theorem Qj0{i:Nat}{x:Str}{te:TE}{j:Pos}(hN:X.N.Nodup)(hi:X.N[i]?=some x)(p:Loc X.env.scope x)(U:PE X e te)(M:PIp X op t)(S:X.fn x=true\/X.env.scope.names.lookup x=some .local:=by first|exact .inl rfl|exact .inr rfl|assumption) :
  PS X (.AugAssign (.Name x j) op e pos) (QpJ i te t):=by
 intro a s q H D I h;obtain⟨v,Z,h⟩:=h;obtain⟨m,O,Q⟩:=I.loc;have o:Vis X.env.scope x:=by rcases p with k|k;exact .inl k;exact .inr (.inl k)
 obtain⟨u,r,l⟩:=Q i x v hi Z o;refine wpAny_AugAssign_Name ?_
 have go:wpAny (model X.prog X.w) X.A (eval e X.env) (fun w g=>wpAny (model X.prog X.w) X.A (inplaceOp op u w) (fun r f=>wpAny (model X.prog X.w) X.A (storeName X.env x r) (fun _=>SP X a D .next) X.xe f) X.xe g) X.xe s:=by
  refine thn (U a s q H _ I h) fun w B n=>?_;obtain⟨y,H1,I1,E,L⟩:=n;refine thn (M a B q H1 v y u w _ I1 r E L) fun z s2 n=>?_;obtain⟨zv,H2,I2,C,G⟩:=n;exact Uj I2 hN hi p C (fun s3 I3=>⟨_,H2,I3,G⟩) S
 rcases l with⟨b,P⟩|⟨b,c,Y,d⟩
 ·exact LI I.ok.kind b O P go
 ·rcases b with b|b
  ·exact LY I.ok.kind b Y d go
  ·rcases p with k|k
   ·have:X.env.scope.names.lookup x=some .free:=b;rw[k]at this;cases this
   ·have:X.env.scope.names.lookup x=some .free:=b;rw[k]at this;cases this
end
section
variable{X:Cx}{pos:Pos}
noncomputable def QgD(c:TT)(h:TS):TS:=fun D a H=>∃W:Nat->St->Hp->Prop,(∃m,W m a H)/\∀m a H,W m a H ->
 c a H fun b f=>if b=true then∃N:St->Hp->Prop,(∀d g,N d g->∃e,e<m/\W e d g)/\h { D with nx:=N,ct:=N,bk:=D.nx } a f else D.nx a f
theorem QeL{c:Expr}(t:PassesOwn (model X.prog X.w) X.A X.env X.xe)(Q:PT X c E)(S:PSs X body G):PS X (.While c body [] pos) (QgD E G):=by
 intro d s z H D I h;obtain⟨W,⟨P,C⟩,i⟩:=h;refine wpAny_While (codeAny_whileLoop (fun n O=>∃g y,Inv X d g y O/\W n g y) ?_ P ⟨z,H,I,C⟩)
 rintro n M ⟨e,x,I1,B⟩
 refine Dk t (thn (Q d M e x _ I1 (i n e x B)) fun b L ⟨u,I2,m⟩=>?_);cases b with
 | true=>
  obtain⟨N,hN,m⟩:=m;rw[if_pos rfl];refine Dk t (thn (S d L e u _ I2 m) fun f U l=>?_);cases f with
  |next=>
   obtain⟨a,j,I3,p⟩:=l;obtain⟨q,r,o⟩:=hN a j p;exact⟨q,r,a,j,I3,o⟩
  |cont=>
   obtain⟨a,j,I3,p⟩:=l;obtain⟨q,r,o⟩:=hN a j p;exact⟨q,r,a,j,I3,o⟩
  |brk=>exact l
  |ret v=>exact l
 |false=>
  rw[if_neg Eu];exact FT ⟨e,u,I2,m⟩
end
structure It where
 go:Nat->Hp->Prop
 yld:Nat->Hp->V->Hp->Prop
 stop:Nat->Hp->Prop
def Qck(X:Cx)(a:List (Addr×Obj))(H:Hp)(b:Addr):Prop:=
 H b=none/\b≠X.env.locals/\b∉X.fs/\(b∈X.ex\/X.s₀.heap.objs.size<=b)/\(∀x c,X.env.cells.lookup x=some c->c≠b)/\∀p∈X.pn++a,p.1≠b
theorem Inv.fpOk{X:Cx}{σ:St}(I:Inv X a σ H s)(d:s.heap.objs.size<=b)(g:h b=none):Qck X a h b:=by
 refine⟨g,DF (Nd I.lt d),I.nofs d,.inr (Nh I.sz d),fun x c e z=>?_,fun p f z=>?_⟩
 ·obtain⟨v,q⟩:=I.cell x c e;exact absurd (Nd q.lt (by rw[z];exact d)) (Ed _)
 ·exact absurd (Nd (ND (I.pin p f).1) (by rw[z];exact d)) (Ed _)
structure Turn(P:Program)(w:World)(K:Nj)(tg:Expr)(J:It)(fp:List Addr)(it:Addr)(tn:Nat->Heap->Prop):Prop where
 mem:it∈fp
 obj:∀i h,tn i h->∀b∈fp,∃o,h.get? b=some o/\∀v,o.data≠.cell v
 keep:∀i h h',tn i h->(∀b∈fp,∀o,h.get? b=some o->h'.get? b=some o)->tn i h'
 item:∀(X:Cx),X.prog=P->X.w=w->X.K=K->X.calm=true->∀(i:Nat) (pins:List (Addr×Obj)) (s:Shared) (σ:St) (H:Hp) (E:Value->Shared->Prop),Inv X pins σ H s->(∀b∈fp,Qck X pins H b)->tn i s.heap->J.go i H ->
  wpAny (model P w) X.A (pyNext (.ref it)) (fun r s1=>∃u,r=some u /\
   wpAny (model P w) X.A (letOwnedTupleGo tg (.ref it) u) (fun _ s2=>∃x H',Inv X pins σ H' s2/\RelV x u/\J.yld i H x H'/\tn (i+1) s2.heap/\∀b∈fp,H' b=none) E s1) E s
 done:∀(X:Cx),X.prog=P->X.w=w->X.K=K->X.calm=true->∀(i:Nat) (pins:List (Addr×Obj)) (s:Shared) (σ:St) (H:Hp) (E:Value->Shared->Prop),Inv X pins σ H s->(∀b∈fp,Qck X pins H b)->tn i s.heap->J.stop i H ->
  wpAny (model P w) X.A (pyNext (.ref it)) (fun r s1=>r=none/\Inv X pins σ H s1) E s
 self:∀(A:Around) (i:Nat) (s:Shared) (Q:Value->Shared->Prop) (E:Value->Shared->Prop),tn i s.heap->Q (.ref it) s->wpAny (model P w) A (pyIter (.ref it)) Q E s
noncomputable abbrev TI:=St->Hp->(It->Hp->Prop)->Prop
def PIE(X:Cx)(a:List (Addr×Obj))(σ:St)(i:Expr)(R:It->Hp->Prop)(c:Value)(f:Shared):Prop:=
 ∃(g:Addr) (h:List Addr) (e:Nat->Heap->Prop) (J:It) (d:Hp),c=.ref g/\Inv X a σ d f/\Turn X.prog X.w X.K i J h g e/\e 0 f.heap/\(∀b∈h,Qck X a d b)/\R J d
def PI(X:Cx)(d iter:Expr)(c:TI):Prop:=
 ∀(a:List (Addr×Obj)) (s:Shared) (b:St) (H:Hp) (R:It->Hp->Prop),Inv X a b H s->c b H R ->
  wpAny (model X.prog X.w) X.A (eval iter X.env) (fun v e=>wpAny (model X.prog X.w) X.A (pyIter v) (PIE X a b d R) X.xe e) X.xe s
theorem Qd1 {M:Model} {s:Shared} {b:Expr} {it:Addr} {u:Value} {o:Obj} {n:String} (c:s.heap.get? it=some o) (e:o.cls=.type n) (hd:o.data=.fields vs)
    (d:["enumerate","zip","dict_itemiterator","dict_reverseitemiterator","odict_iterator","itertools.zip_longest","itertools.pairwise"].contains n=false) (a:Q () s):wpAny M A (letOwnedTupleGo b (.ref it) u) Q E s:=by
  unfold letOwnedTupleGo
  cases b<;>first
    |exact Nq a
    |(cases u<;>first
        |exact Nq a
        | (refine Nc (O9 c ?_)
           rw[e,hd];show wpAny M A (if(["enumerate","zip","dict_itemiterator","dict_reverseitemiterator","odict_iterator","itertools.zip_longest","itertools.pairwise"].contains n&&vs[0]?==some (rawInt _))=true then _ else _) Q E s;rw[if_neg (by intro h;rw[d,Bool.false_and]at h;cases h)]
           exact Nq a))
noncomputable def Itl(K:Nj)(a:Addr):It:=
 ⟨fun i H=>∃b x,SqL K H a b/\b[i]?=some x,fun i H x c=>c=H/\∀b,SqL K H a b->b[i]?=some x,fun i H=>∃b,SqL K H a b/\b.length<=i⟩
noncomputable def Itt(K:Nj)(a:Addr):It:=
 ⟨fun i H=>∃b x,SqT K H a b/\b[i]?=some x,fun i H x c=>c=H/\∀b,SqT K H a b->b[i]?=some x,fun i H=>∃b,SqT K H a b/\b.length<=i⟩
noncomputable def Itr(lo:Int)(n:Nat):It:=⟨fun i _=>i<n,fun i H x a=>a=H/\x=.int (lo+i),fun i _=>n<=i⟩
theorem QdF{K:Nj}(a it:Addr):Turn P w K tg (Itl K a) [it] it (fun i h=>h.IsListIter it a i) where
 mem:=by simp
 obj:=fun i h st b g=>by
  have e:b=it:=by simpa using g
  subst e;obtain⟨o,e,c,d⟩:=st;exact⟨o,e,fun v z=>by rw[d]at z;cases z⟩
 keep:=fun i h q st k=>st.at fun o e=>k it (by simp) o e
 item:=by
  intro X A hw B M i f s L H E I n st y;subst A hw B;obtain⟨N,x,m,l⟩:=y;obtain⟨t,r,p,U⟩:=I.list m;obtain⟨u,hu,S⟩:=r.get l;obtain⟨G,f1,f2,f3,D,C⟩:=n it (by simp);refine wpAny_pyNext_list_item st p.isList (x:=u) (by simpa using hu) fun q j Q=>?_;have I1:Inv X f L H { s with heap:=q }:=I.turned (t':=s.toks) (fun b o g e=>(Q.2 b g).trans e) G f1 f3 D C;obtain⟨o,e,c,d⟩:=id j;exact⟨u,rfl,Qd1 (s:={ s with heap:=q }) e c d (by decide) ⟨x,H,I1,S,⟨rfl,fun ys Y=>by rw[I.list_inj Y m];exact l⟩,j,fun b g=>(n b g).1⟩⟩
 done:=by
  intro X A hw B M i f s L H E I n st y;subst A hw B;obtain⟨N,m,l⟩:=y;obtain⟨t,r,p,U⟩:=I.list m;obtain⟨G,f1,f2,f3,D,C⟩:=n it (by simp);have Z:=r.length;exact wpAny_pyNext_list_end (I.ok.hd M) st p.isList (by simp;exact Nh (Nt Z.symm) l) fun q eb=>⟨rfl,I.turned (t':=s.toks) (fun b o g e=>eb b o g e) G f1 f3 D C⟩
 self:=fun _ _ _ _ _ st h=>wpAny_pyIter_listiter st h
theorem QbZ{K:Nj}(a it:Addr):Turn P w K tg (Itt K a) [it] it (fun i h=>h.IsTupleIter it a i) where
 mem:=by simp
 obj:=fun i h st b j=>by
  have e:b=it:=by simpa using j
  subst e;obtain⟨o,e,c,d⟩:=st;exact⟨o,e,fun v z=>by rw[d]at z;cases z⟩
 keep:=fun i h r st k=>st.at fun o e=>k it (by simp) o e
 item:=by
  intro X A hw B M i f s L H E I q st y;subst A hw B;obtain⟨N,x,n,m⟩:=y;obtain⟨g,t,p,U⟩:=I.tuple n;obtain⟨u,hu,S⟩:=t.get m;obtain⟨G,f1,f2,f3,D,C⟩:=q it (by simp);refine wpAny_pyNext_tuple_item st (show s.heap.IsTuple a g.toArray from p) (x:=u) (by simpa using hu) fun r l Q=>?_;have I1:Inv X f L H { s with heap:=r }:=I.turned (t':=s.toks) (fun b o j e=>(Q.2 b j).trans e) G f1 f3 D C;obtain⟨o,e,c,d⟩:=id l;exact⟨u,rfl,Qd1 (s:={ s with heap:=r }) e c d (by decide) ⟨x,H,I1,S,⟨rfl,fun ys Y=>by rw[I.tuple_inj Y n];exact m⟩,l,fun b j=>(q b j).1⟩⟩
 done:=by
  intro X A hw B M i f s L H E I q st y;subst A hw B;obtain⟨N,n,m⟩:=y;obtain⟨g,t,p,U⟩:=I.tuple n;obtain⟨G,f1,f2,f3,D,C⟩:=q it (by simp);have Z:=t.length;exact wpAny_pyNext_tuple_end (I.ok.hd M) st (show s.heap.IsTuple a g.toArray from p) (by simp;exact Nh (Nt Z.symm) m) fun r eb=>⟨rfl,I.turned (t':=s.toks) (fun b o j e=>eb b o j e) G f1 f3 D C⟩
 self:=fun _ _ _ _ _ st h=>wpAny_pyIter_tupleiter st h
theorem QbH{K:Nj}(it:Addr)(lo:Int)(n:Nat):Turn P w K G (Itr lo n) [it] it (fun i h=>IsRangeIter h it (lo+(i:Nat)*1) ((n:Int)-(i:Nat)) 1) where
 mem:=by simp
 obj:=fun i h st b c=>by
  have e:b=it:=by simpa using c
  subst e
  exact⟨_,st,fun v z=>by
   have A:Data.fields _=Data.cell v:=z
   cases A⟩
 keep:=fun i h g st k=>k it (by simp) _ st
 item:=by
  intro X m hw p l i a s x H E I f st j;subst m hw p;obtain⟨u,f1,f2,f3,r,q⟩:=f it (by simp);have W:=Walks.range (prog:=X.prog) (w:=X.w) (I.ok.hd l) it lo 1 n;refine W.item i s _ _ j st fun v g tk C d B=>?_;obtain⟨t,rfl⟩:=C;have I1:Inv X a x H { s with heap:=g,toks:=tk }:=I.turned (fun b o c e=>B b o (by simpa using c) e) u f1 f3 r q;refine⟨_,rfl,Qd1 (s:={ s with heap:=g,toks:=tk }) (n:="range_iterator") d rfl rfl (by decide) ⟨.int (lo+i),H,I1,⟨t,?_⟩,⟨rfl,rfl⟩,d,fun b c=>(f b c).1⟩⟩;rw[Int.mul_one]
 done:=by
  intro X m hw p l i a s x H E I f st j;subst m hw p;obtain⟨u,f1,f2,f3,r,q⟩:=f it (by simp);exact Lf (I.ok.hd l) st (by have:n<=i:=j;lia) fun g D=>⟨rfl,I.turned (t':=s.toks) (fun b o c e=>D b o c e) u f1 f3 r q⟩
 self:=fun _ _ _ _ _ st h=>Lg st h
section
variable{X:Cx}{tg:Expr}
theorem Qbh{a:List (Addr×Obj)}{σ:St}{H:Hp}{s:Shared}{R:It->Hp->Prop}{E:Value->Shared->Prop}{lo hi:Int}{t u v:Tok}{tk:Nat}(I:Inv X a σ H s)(g:-(2^62)<=lo)(h2:lo<2^62)(f:-(2^62)<=hi)(d:hi<2^62)
  (q:R (Itr lo (hi-lo).toNat) H):wpAny (model X.prog X.w) X.A (pyIter (.ref s.heap.objs.size)) (PIE X a σ tg R) E { s with heap:=s.heap.push { cls:=.type "range",data:=.fields #[.int lo t,.int hi u,.int 1 v] },toks:=tk }:=by
 refine Od (IsRange.new ..) (small_one g h2 f d) ?_;have I1:Inv X a σ H { s with heap:=s.heap.push { cls:=.type "range",data:=.fields #[.int lo t,.int hi u,.int 1 v] },toks:=tk }:=I.kept fun b o e=>Np _ e
 refine⟨(s.heap.push { cls:=.type "range",data:=.fields #[.int lo t,.int hi u,.int 1 v] }).objs.size,[(s.heap.push { cls:=.type "range",data:=.fields #[.int lo t,.int hi u,.int 1 v] }).objs.size],_,_,H,rfl,
  I1.kept (t':=tk) fun b o e=>Np _ e,QbH _ lo (hi-lo).toNat,?_,fun b c=>?_,q⟩
 ·have i:lo+((0:Nat):Int)*1=lo:=by simp
  have h:(((hi-lo).toNat:Nat):Int)-((0:Nat):Int)=Builtin.Range.rangeSize lo hi 1:=by rw[rangeSize_one];split<;>lia
  show IsRangeIter _ _ (lo+((0:Nat):Int)*1) ((((hi-lo).toNat:Nat):Int)-((0:Nat):Int)) 1;rw[i,h];exact NK _ rfl
 ·have e:b=(s.heap.push { cls:=.type "range",data:=.fields #[.int lo t,.int hi u,.int 1 v] }).objs.size:=by simpa using c
  subst e;exact I1.fpOk (Nw _) (I1.hok.fresh (Nw _))
noncomputable def QnB(c:TA):TI:=fun a H R=>c a H fun b d=>∃j:Int,b=[.int j]/\-(2^62)<=j/\j<2^62/\R (Itr 0 j.toNat) d
noncomputable def Qn4(c:TA):TI:=fun a H R=>c a H fun b d=>∃i j:Int,b=[.int i,.int j]/\(-(2^62)<=i/\i<2^62/\-(2^62)<=j/\j<2^62)/\R (Itr i (j-i).toNat) d
theorem QcM{a:Expr}(u:Gl X "range")(o:X.mg "range"=none)(v:PA X [a] g)(n:starEach [a] X.env=[(false,eval a X.env)]:=by rfl):PI X tg (.Call (.Name "range" p) [a] [] pos) (QnB g):=by
 intro b s d H R I h;refine Call_ (XU I u o Qq (EG (thn (v pos b s d H _ I h) fun x y f=>?_) n rfl));obtain⟨w,z,I1,l,c⟩:=f;obtain⟨j,e,c,m,q⟩:=c;subst e;cases l with
 |cons r i=>
  cases i;obtain⟨t,rfl⟩:=r;exact call_range_1 (Qbh I1 (by decide) (by decide) c m (by simpa using q))
theorem Qc0{a b:Expr}(A:Gl X "range")(z:X.mg "range"=none)(B:PA X [a,b] n)(y:starEach [a,b] X.env=[(false,eval a X.env),(false,eval b X.env)]:=by rfl)(d:starEach [b] X.env=[(false,eval b X.env)]:=by rfl) :
  PI X tg (.Call (.Name "range" p) [a,b] [] pos) (Qn4 n):=by
 intro c s l H R I h;refine Call_ (XU I A z Qq (EG (thn (B pos c s l H _ I h) fun D G m=>?_) (by rw[y,d]) (by rw[d];rfl)));obtain⟨C,L,I1,o,g⟩:=m;obtain⟨i,j,e,⟨g,x,w,v⟩,q⟩:=g;subst e;cases o with
 | cons r f=>
  cases f with
  |cons u f=>
   cases f;obtain⟨t,rfl⟩:=r;obtain⟨E,rfl⟩:=u;exact call_range_2 (Qbh I1 g x w v q)
noncomputable def Qpw(f:TI)(g:TG)(h:TS):TS:=fun D a H=>f a H fun J l=>∃W:Nat->Nat->St->Hp->Prop,(∃m,W 0 m a l)/\∀i m a H,W i m a H ->
 (J.stop i H/\D.nx a H)\/(J.go i H/\∃N:St->Hp->Prop,(∀b c,N b c->∃e,e<m/\W (i+1) e b c)/\∀x c,J.yld i H x c->g x a c fun d j=>h { D with nx:=N,ct:=N,bk:=D.nx } d j)
noncomputable def UR(a:List Addr)(h:Heap):List (Addr×Obj):=a.filterMap fun b=>(h.get? b).map fun o=>(b,o)
theorem V6(a:b∈c)(e:h.get? b=some o):(b,o)∈UR c h:=Ih.mpr ⟨b,a,by rw[e];rfl⟩
theorem Qc8(a:p∈UR d h):p.1∈d/\h.get? p.1=some p.2:=by
 obtain⟨b,c,e⟩:=Ih.mp a;cases q:h.get? b with
 |none=>rw[q]at e;cases e
 |some o=>
  rw[q]at e;have f:(b,o)=p:=N5 e;subst f;exact⟨c,q⟩
theorem Inv.pinned{H:Hp}(I:Inv X a σ H s)(j:∀b∈f,Qck X a H b)(i:∀b∈f,∃o,s.heap.get? b=some o/\∀v,o.data≠.cell v):Inv X (a++UR f s.heap) σ H s:=
 I.pins_of fun p h=>(N9.mp h).elim (fun z=>I.pin p (NY _ z)) fun z=>by
  obtain⟨c,e⟩:=Qc8 z;obtain⟨l,f1,f2,_⟩:=j p.1 c;obtain⟨o,g,d⟩:=i p.1 c;rw[e]at g;cases g;exact⟨e,l,f1,f2,d⟩
theorem Inv.unpinned(I:Inv X (a++c) σ H s):Inv X a σ H s:=I.pins_of fun p b=>I.pin p (NY _ (Et _ b))
theorem Qlb{iter:Expr}{g:TG}{tb:TS}(O:PassesOwn (model X.prog X.w) X.A X.env X.xe)(hc:X.calm=true)(hi:PI X tg iter wi)(hg:PG X tg g)(q:PSs X body tb)
  (hs:∀x,foldedSetIterable iter X.env x=pure x:=by intro _;rfl):PS X (.For tg iter body [] pos) (Qpw wi g tb):=by
 intro c s σ H D I h;refine wpAny_For (thn (hi c s σ H _ I h) fun v s1 h1=>thn h1 fun aj s2 h2=>?_) hs;obtain⟨it,Q,tn,J,H2,e,I2,T,ab,f2,W,⟨m0,w0⟩,E⟩:=h2;subst e
 -- ah aa true of Z B L through Z ai
 have p:∀{y:Hp},(∀b∈Q,y b=none)->∀b∈Q,Qck X c y b:=fun hn b q=>⟨hn b q,(f2 b q).2⟩
 refine codeAny_forLoop_any (fun n s'=>∃i l y,Inv X c l y s'/\tn i s'.heap/\(∀b∈Q,y b=none)/\W i n l y) ?_ m0 ⟨0,σ,H2,I2,ab,fun b q=>(f2 b q).1,w0⟩
 rintro n s3 ⟨i,j,S,I3,G,P,w3⟩
 rcases E i n j S w3 with⟨stop,qn⟩|⟨go,N,hN,step⟩
 ·refine Dk O (thn (T.done X rfl rfl rfl hc i c s3 j S X.xe I3 (p P) G stop) fun r s4 ⟨hr,I4⟩=>?_);subst hr;exact FT ⟨j,S,I4,qn⟩
 ·refine Dk O (thn (T.item X rfl rfl rfl hc i c s3 j S X.xe I3 (p P) G go) fun r s4 ⟨u,hr,h4⟩=>?_);subst hr;refine Dk O (thn h4 fun _ s5 Y=>?_);obtain⟨x,H5,I5,r5,y5,C,ae⟩:=Y;have af:=I5.pinned (p ae) (T.obj _ _ C);refine Dk O (thn (hg _ s5 j H5 x u _ af r5 (step x H5 y5)) fun _ s6 Y=>?_);obtain⟨U,H6,I6,q6⟩:=Y;refine Dk O (thn (q _ s6 U H6 _ I6 q6) fun f s7 z=>?_)
  have again:∀{a:St} {t:Hp},Inv X (c++UR Q s5.heap) a t s7->N a t->∃m,m<n/\∃i l y,Inv X c l y s7/\tn i s7.heap/\(∀b∈Q,y b=none)/\W i m l y:=fun {a t} I7 M=>by
   obtain⟨m',hm,w7⟩:=hN a t M;refine⟨m',hm,i+1,a,t,I7.unpinned,T.keep _ _ _ C fun b q o e=>(I7.pin (b,o) (NY _ (NY _ (V6 q e)))).1,fun b q=>?_,w7⟩;obtain⟨o,e,d⟩:=T.obj _ _ C b q;exact(I7.pin (b,o) (NY _ (NY _ (V6 q e)))).2.1
  cases f with
  |next=>obtain⟨a,t,I7,M⟩:=z;exact again I7 M
  |cont=>obtain⟨a,t,I7,M⟩:=z;exact again I7 M
  |brk=>obtain⟨a,t,I7,z⟩:=z;exact⟨a,t,I7.unpinned,z⟩
  |ret v=>obtain⟨x7,a,t,I7,r7,z⟩:=z;exact⟨x7,a,t,I7.unpinned,r7,z⟩
end
noncomputable abbrev R2:=V->V->Hp->VK->Prop
def OpR(X:Cx)(f:Value->Value->Sem Value)(r:R2):Prop:=
 ∀(a:List (Addr×Obj)) (s:Shared) (b:St) (H:Hp) (x y:V) (v u:Value) (Q:VK),Inv X a b H s->RelV x v->RelV y u->r x y H Q ->
  wpAny (model X.prog X.w) X.A (f v u) (EP X a b Q) X.xe s
def UnR(X:Cx)(f:Value->Sem Value)(r:V->Hp->VK->Prop):Prop:=
 ∀(a:List (Addr×Obj)) (s:Shared) (b:St) (H:Hp) (x:V) (v:Value) (Q:VK),Inv X a b H s->RelV x v->r x H Q ->
  wpAny (model X.prog X.w) X.A (f v) (EP X a b Q) X.xe s
def CallR(X:Cx)(f:Value)(r:List V->Hp->VK->Prop):Prop:=
 ∀(a:List (Addr×Obj)) (s:Shared) (b:St) (H:Hp) (c:List V) (d:List Value) (Q:VK),Inv X a b H s->Vals c d->r c H Q ->
  wpAny (model X.prog X.w) X.A (call f d) (EP X a b Q) X.xe s
def QpG(X:Cx)(r:V->Hp->(Bool->Hp->Prop)->Prop):Prop:=
 ∀(a:List (Addr×Obj)) (s:Shared) (b:St) (H:Hp) (x:V) (v:Value) (Q:Bool->Hp->Prop),Inv X a b H s->RelV x v->r x H Q ->
  wpAny (model X.prog X.w) X.A (truthy v) (TP X a b Q) X.xe s
noncomputable def tOp(r:R2)(c b:TE):TE:=fun a H Q=>c a H fun x e=>b a e fun y d=>r x y d Q
noncomputable def tUn(r:V->Hp->VK->Prop)(b:TE):TE:=fun a H Q=>b a H fun x c=>r x c Q
noncomputable def rI(C:Int->Int->Prop)(g:Int->Int->V):R2:=fun x y H Q=>∃i j,x=.int i/\y=.int j/\C i j/\Q (g i j) H
noncomputable def rI0(g:Int->Int->V):R2:=fun x y H Q=>∃i j,x=.int i/\y=.int j/\Q (g i j) H
noncomputable def rU(g:Int->V):V->Hp->VK->Prop:=fun x H Q=>∃i,x=.int i/\Q (g i) H
section
variable{X:Cx}{a b c:Expr}{ta tb tc:TE}{pos:Pos}
theorem QnN(z:PE X a ta)(t:PE X b tb){d:List (Addr×Obj)}{s:Shared}{σ:St}{H:Hp}{R:V->V->Hp->Prop}(I:Inv X d σ H s)
  (h:ta σ H fun x l=>tb σ l fun y e=>R x y e) {Q:Value->Shared->Prop} {f:Value->Value->Sem Value}
  (r:∀v u j x y e,Inv X d σ e j->RelV x v->RelV y u->R x y e->wpAny (model X.prog X.w) X.A (f v u) Q X.xe j) :
  wpAny (model X.prog X.w) X.A (eval a X.env) (fun v i=>wpAny (model X.prog X.w) X.A (eval b X.env) (fun u g=>wpAny (model X.prog X.w) X.A (f v u) Q X.xe g) X.xe i) X.xe s:=by
 refine thn (z d s σ H _ I h) fun v m ⟨x,l,I1,o,q⟩=>?_;refine thn (t d m σ l _ I1 q) fun u j ⟨y,e,I2,n,p⟩=>?_;exact r v u j x y e I2 o n p
theorem QnG{op:Operator}{r:R2}(j:OpR X (binaryOp op) r)(m:PE X a ta)(l:PE X b tb):PE X (.BinOp a op b pos) (tOp r ta tb):=by
 intro d s e H Q I h;exact wpAny_BinOp (QnN m l I h fun v u f x y n I2 i g q=>j d f e n x y v u Q I2 i g q)
theorem Qnz(j:UnR X (unaryOp op) r)(l:PE X a ta):PE X (.UnaryOp op a pos) (tUn r ta):=by
 intro d s e H Q I h;exact UnaryOp_ (thn (l d s e H _ I h) fun v f ⟨x,m,I1,g,i⟩=>j d f e m x v Q I1 g i)
theorem opI{g:Int->Int->Int}
  (rule:∀(i j:Int) (t u:Tok) (s:Shared) (Q:Value->Shared->Prop) (E:Value->Shared->Prop),C i j->Q (.int (g i j) s.toks) { s with toks:=s.toks+1 }->wpAny (model X.prog X.w) X.A (f (.int i t) (.int j u)) Q E s) :
  OpR X f (rI C fun i j=>.int (g i j)):=by
 intro d s o H x y v u Q I m l h;obtain⟨i,j,rfl,rfl,n,q⟩:=h;obtain⟨t,rfl⟩:=m;obtain⟨e,rfl⟩:=l;exact rule i j t e s _ _ n ⟨.int (g i j),H,I.tok _,⟨_,rfl⟩,q⟩
theorem Qnn{g:Int->Int->Int}
  (rule:∀(i j:Int) (t u:Tok) (s:Shared) (Q:Value->Shared->Prop) (E:Value->Shared->Prop),Q (.int (g i j) s.toks) { s with toks:=s.toks+1 }->wpAny (model X.prog X.w) X.A (f (.int i t) (.int j u)) Q E s) :
  OpR X f (rI0 fun i j=>.int (g i j)):=by
 intro d s n H x y v u Q I m l h;obtain⟨i,j,rfl,rfl,q⟩:=h;obtain⟨t,rfl⟩:=m;obtain⟨e,rfl⟩:=l;exact rule i j t e s _ _ ⟨.int (g i j),H,I.tok _,⟨_,rfl⟩,q⟩
theorem Ql4{g:Int->Int->Bool}
  (rule:∀(i j:Int) (t u:Tok) (s:Shared) (Q:Value->Shared->Prop) (E:Value->Shared->Prop),Q (.bool (g i j)) s->wpAny (model X.prog X.w) X.A (f (.int i t) (.int j u)) Q E s) :
  OpR X f (rI0 fun i j=>.bl (g i j)):=by
 intro d s n H x y v u Q I m l h;obtain⟨i,j,rfl,rfl,q⟩:=h;obtain⟨t,rfl⟩:=m;obtain⟨e,rfl⟩:=l;exact rule i j t e s _ _ ⟨.bl (g i j),H,I,rfl,q⟩
def QpY(i j:Int):Prop:=0<j/\j<1073741824
def QpS(i j:Int):Prop:=0<=j/\j<=1000000/\i.natAbs<2^64
def CMul(i j:Int):Prop:=(-(2^64)<i/\i<2^64)\/(-(2^64)<j/\j<2^64)
theorem CMul.ok(h:CMul i j):IntMulOk i j:=by
 rcases h with⟨e,d⟩|⟨e,d⟩
 ·exact .of_left (intBits_le_64 e d)
 ·exact .of_right (intBits_le_64 e d)
theorem op_add:OpR X (binaryOp .Add) (rI0 fun i j=>.int (i+j)):=Qnn fun _ _ _ _ _ _ _ q=>add_int q
theorem Qkb:OpR X (binaryOp .Sub) (rI0 fun i j=>.int (i-j)):=Qnn fun _ _ _ _ _ _ _ q=>sub_int q
theorem Qlx:OpR X (binaryOp .Mult) (rI CMul fun i j=>.int (i*j)):=opI fun _ _ _ _ _ _ _ d q=>mul_int q d.ok
theorem QiM:OpR X (binaryOp .FloorDiv) (rI QpY fun i j=>.int (i/j)):=opI fun i j _ _ _ _ _ d q=>by
 have e:(0:Int)<j:=d.1;have f:j<1073741824:=d.2;exact floordiv_int (IE e) (by rw[Int.fdiv_eq_ediv_of_nonneg i (E5 e)];exact q) (.inl (Lj (by omega)))
theorem QlK:OpR X (binaryOp .Mod) (rI (fun _ j=>0<j) fun i j=>.int (i%j)):=opI fun i j _ _ _ _ _ d q=>by
 have e:(0:Int)<j:=d;exact mod_int' (IE d) (by rw[Int.fmod_eq_emod_of_nonneg i (E5 d)];exact q)
theorem Qlp:OpR X (binaryOp .Pow) (rI QpS fun i j=>.int (i^j.toNat)):=opI fun _ _ _ _ _ _ _ d q=>pow_int_small d.1 d.2.1 d.2.2 q
theorem Qje:OpR X (inplaceOp .Add) (rI0 fun i j=>.int (i+j)):=Qnn fun _ _ _ _ _ _ _ q=>iadd_int q
theorem unI{g:Int->Int}
  (rule:∀(i:Int) (t:Tok) (s:Shared) (Q:Value->Shared->Prop) (E:Value->Shared->Prop),Q (.int (g i) s.toks) { s with toks:=s.toks+1 }->wpAny (model X.prog X.w) X.A (f (.int i t)) Q E s) :
  UnR X f (rU fun i=>.int (g i)):=by
 intro d s j H x v Q I e h;obtain⟨i,rfl,q⟩:=h;obtain⟨t,rfl⟩:=e;exact rule i t s _ _ ⟨.int (g i),H,I.tok _,⟨_,rfl⟩,q⟩
theorem Qkx:UnR X (unaryOp .USub) (rU fun i=>.int (-i)):=unI fun _ _ _ _ _ q=>neg_int q
end
section
variable{X:Cx}{a b c:Expr}{ta tb tc:TE}{pos:Pos}
theorem Qcv{H:Hp}{Q:VK}(I:Inv X d σ H s)(q:Q (.bl k) H)(e:k=f):EP X d σ Q (.bool f) s:=by
 subst e;exact⟨.bl k,H,I,rfl,q⟩
theorem op_lt:OpR X (compareOp .Lt) (rI0 fun i j=>.bl (decide (i<j))):=Ql4 fun _ _ _ _ _ _ _ q=>lt_int q
theorem op_le:OpR X (compareOp .LtE) (rI0 fun i j=>.bl (decide (i<=j))):=Ql4 fun _ _ _ _ _ _ _ q=>le_int q
theorem QnK:OpR X (compareOp .Gt) (rI0 fun i j=>.bl (decide (j<i))):=Ql4 fun _ _ _ _ _ _ _ q=>gt_int q
theorem Qm1:OpR X (compareOp .GtE) (rI0 fun i j=>.bl (decide (j<=i))):=Ql4 fun _ _ _ _ _ _ _ q=>ge_int q
theorem Qec:OpR X (compareOp .Lt) (fun x y H Q=>∃i j,x=.str i/\y=.str j/\Q (.bl (decide (i.cps.toList<j.cps.toList))) H):=by
 intro d s g H x y v u Q I f e h;obtain⟨i,j,rfl,rfl,q⟩:=h;obtain⟨t,rfl⟩:=f;obtain⟨l,rfl⟩:=e;exact lt_str (Qcv I q rfl)
theorem op_isN:OpR X (compareOp .Is) (fun x y H Q=>y=.non/\Q (.bl (decide (x=.non))) H):=by
 intro e s g H x y v u Q I d f h;obtain⟨rfl,q⟩:=h;cases f;refine is_none_gen (Qcv I q ?_)
 cases x<;>first
  |(cases d;rfl)
  |(obtain⟨t,rfl⟩:=d;rfl)
theorem Qh4:OpR X (compareOp .IsNot) (fun x y H Q=>y=.non/\Q (.bl (!decide (x=.non))) H):=by
 intro e s g H x y v u Q I d f h;obtain⟨rfl,q⟩:=h;cases f;refine isnot_none_gen (Qcv I q ?_)
 cases x<;>first
  |(cases d;rfl)
  |(obtain⟨t,rfl⟩:=d;rfl)
theorem OpR.or(h:OpR X f r)(h':OpR X f j):OpR X f (fun x y H Q=>r x y H Q\/j x y H Q):=by
 intro d s e H x y v u Q I i g q
 rcases q with q|q
 ·exact h d s e H x y v u Q I i g q
 ·exact h' d s e H x y v u Q I i g q
theorem Qip{op:CmpOp}{r:R2}(j:OpR X (compareOp op) r)(n:PE X a ta)(m:PE X b tb)(l:behindInMarks op b=false):PE X (.Compare a [op] [b] pos) (tOp r ta tb):=by
 intro d s e H Q I h;exact wpAny_Compare1 (QnN n m I h fun v u f x y o I2 i g q=>j d f e o x y v u Q I2 i g q) l
noncomputable def Qm0(t:TE):TT:=fun d H Q=>t d H fun x e=>∃k,x=.bl k/\Q k e
theorem Qio(q:OpR X (compareOp op) r)(A:PE X a ta)(w:PE X b tb)(t:behindInMarks op b=false):PT X (.Compare a [op] [b] pos) (Qm0 (tOp r ta tb)):=by
 intro d s f H Q I h
 refine wpAny_isTrue_Compare1 (thn (A d s f H _ I h) fun v i ⟨x,D,I1,m,p⟩=>thn (w d i f D _ I1 p) fun u g ⟨y,C,I2,l,o⟩=>
  thn (q d g f C x y v u _ I2 m l o) fun c E ⟨z,B,I3,j,k,e,n⟩=>?_) t
 subst e;cases j;exact Oz ⟨B,I3,n⟩
def QmZ(K:Nj)(x:V)(H:Hp)(k:Bool):Prop:=
 match x with
 |.non=>k=false
 |.bl b=>k=b
 |.int i=>k=(i != 0)
 |.str y=>y.length<=sizeLine/\k=((y.length:Int) != 0)
 |.byt y=>y.size<=sizeLine/\k=((y.size:Int) != 0)
 |.ref p=>(∃d,SqL K H p d/\k=!d.isEmpty)\/(∃d,SqT K H p d/\k=!d.isEmpty)\/∃e,H p=some (.dK e)/\k=!e.isEmpty
 |_=>False
theorem Qb7{kvs:List (κ×V)}{vs:List (κ×Value)}(r:KV kvs vs):(!vs.isEmpty)=!kvs.isEmpty:=by
 cases r<;>rfl
theorem Ww(r:Vals xs d):(!d.toArray.isEmpty)=!xs.isEmpty:=by
 cases r<;>simp
theorem YH:(sizeLine:Nat)<2^63:=by rw[Ew];decide
theorem QjW:QpG X (fun x H Q=>∃k,QmZ X.K x H k/\Q k H):=by
 intro A s E H x v Q I l h;obtain⟨k,e,q⟩:=h;have G:=YH;have D:sizeLine=16777216:=Ew;cases x with
 |non=>
  cases l;have d:k=false:=e;subst d;exact truthy_none ⟨H,I,q⟩
 |bl b=>
  cases l;have d:k=b:=e;subst d;exact Oz ⟨H,I,q⟩
 |int i=>
  obtain⟨t,rfl⟩:=l;have d:k=(i != 0):=e;subst d;exact PySem.P.truthy_int ⟨H,I,q⟩
 |str y=>
  obtain⟨t,rfl⟩:=l;obtain⟨C,d⟩:y.length<=sizeLine/\k=((y.length:Int) != 0):=e;subst d;exact PySem.P.truthy_str (by lia) ⟨H,I.tok _,q⟩
 |byt y=>
  obtain⟨t,rfl⟩:=l;obtain⟨C,d⟩:y.size<=sizeLine/\k=((y.size:Int) != 0):=e;subst d;exact PySem.W.truthy_bytes (Nn (Nf (Nh C (Nt D)) (by decide))) ⟨H,I.tok _,q⟩
 |ref p=>
  cases l;have d:(∃j,SqL X.K H p j/\k=!j.isEmpty)\/(∃j,SqT X.K H p j/\k=!j.isEmpty)\/∃f,H p=some (.dK f)/\k=!f.isEmpty:=e
  rcases d with⟨j,n,d⟩|⟨j,n,d⟩|⟨f,n,d⟩
  ·subst d;obtain⟨z,r,u,B⟩:=I.list n;have g:=r.length;exact wpAny_truthy_list u.isList (by simp only[Nr];lia) ⟨H,I.tok _,by rw[Ww r];exact q⟩
  ·subst d;obtain⟨z,r,u,B⟩:=I.tuple n;have g:=r.length;exact truthy_tuple u (by simp only[Nr];omega) ⟨H,I.tok _,by rw[Ww r];exact q⟩
  ·subst d;obtain⟨B,hS,o,r,m⟩:f.length<=sizeLine/\(p==sysModules)=false/\∃o,KV f o/\s.heap.DictOf (Zd X.prog X.w) p o:=I.hok p _ n;have g:f.length=o.length:=Ec r;exact wpAny_truthy_dict hS m (by lia) ⟨H,I.tok _,by rw[Qb7 r];exact q⟩
 |_=>exact(show False from e).elim
theorem QfW(l:PE X a ta)(j:∀whole,isTrue a X.env whole=(do let v <-whole;standAt a.pos;holding [v] (truthy v))) :
  PT X a (fun σ H Q=>ta σ H fun x e=>∃k,QmZ X.K x e k/\Q k e):=by
 intro d s σ H Q I h;exact isTrue_plain (thn (l d s σ H _ I h) fun v f ⟨x,m,I1,g,i⟩=>QjW d f σ m x v Q I1 g i) (j _)
theorem op_add_str:OpR X (binaryOp .Add) (fun x y H Q=>∃i j,x=.str i/\y=.str j/\i.length+j.length<=sizeLine/\Q (.str (i++j)) H):=by
 intro d s m H x y v u Q I g f h;obtain⟨i,j,rfl,rfl,l,q⟩:=h;obtain⟨t,rfl⟩:=g;obtain⟨e,rfl⟩:=f;exact add_str (fun e tk=>⟨.str (i++j),H,I.tok _,⟨_,rfl⟩,q⟩) l
theorem UC(r:Vals [x] us):∃u,us=[u]/\RelV x u:=by
 cases r with
 |cons e d=>cases d;exact⟨_,rfl,e⟩
theorem QeP(r:Vals [x,y] us):∃u w',us=[u,w']/\RelV x u/\RelV y w':=by
 cases r with
 |cons g f=>
  cases f with
  |cons e d=>cases d;exact⟨_,_,rfl,g,e⟩
theorem Qei(f:X.calm=true):CallR X (.builtin "max") (fun xs H Q=>∃i j,xs=[.int i,.int j]/\Q (.int (if j>i then j else i)) H):=by
 intro e s g H xs m Q I r h;obtain⟨i,j,rfl,q⟩:=h;obtain⟨u,l,rfl,⟨t,rfl⟩,⟨n,rfl⟩⟩:=QeP r;refine max_two_ints (I.ok.hd f) fun o tk k=>⟨_,H,I.kept k,?_,q⟩
 by_cases d:j>i
 ·rw[if_pos d,if_pos d];exact⟨_,rfl⟩
 ·rw[if_neg d,if_neg d];exact⟨_,rfl⟩
theorem Qek(f:X.calm=true):CallR X (.builtin "min") (fun xs H Q=>∃i j,xs=[.int i,.int j]/\Q (.int (if j<i then j else i)) H):=by
 intro e s g H xs m Q I r h;obtain⟨i,j,rfl,q⟩:=h;obtain⟨u,l,rfl,⟨t,rfl⟩,⟨n,rfl⟩⟩:=QeP r;refine min_two_ints (I.ok.hd f) fun o tk k=>⟨_,H,I.kept k,?_,q⟩
 by_cases d:j<i
 ·rw[if_pos d,if_pos d];exact⟨_,rfl⟩
 ·rw[if_neg d,if_neg d];exact⟨_,rfl⟩
end
theorem RelO.some_of(r:RelO (some v) o):∃u,o=some u/\RelV v u:=by
 cases o with
 |none=>exact(show False from r).elim
 |some u=>exact⟨u,rfl,r⟩
structure Cls(K:Nj)(C:Addr):Prop where
 pg:PySem.W.plainGet K C Str.empty=true
 hd:PySem.W.hasDictIn K C=true
 po:PySem.W.plainOver K C=true
 sa:Yai K (.ref C) "__setattr__"=some (some (.builtin "object.__setattr__"))
section
variable{X:Cx}{pins:List (Addr×Obj)}{σ:St}{H:Hp}{s:Shared}{A:Around}{E:Value->Shared->Prop}{Q:Value->Shared->Prop}{c:Value}{b:Bool}
inductive TyOf(K:Nj)(H:Hp):V->Value->Prop where
 |non:TyOf K H .non (.type "NoneType")
 |bl (x:Bool):TyOf K H (.bl x) (.type "bool")
 |int (i:Int):TyOf K H (.int i) (.type "int")
 |str (x:Str):TyOf K H (.str x) (.type "str")
 |flt (x:UInt64):TyOf K H (.flt x) (.type "float")
 |lst {a:Addr} {xs:List V} (e:H a=some (.lst xs)):TyOf K H (.ref a) (.type "list")
 |frz {a:Addr} {o:Obj} {xs:List V} (e:H a=some (.frz o (.lst xs))):TyOf K H (.ref a) (.type "list")
 |tup {a:Addr} {xs:List V} (e:H a=some (.tup xs)):TyOf K H (.ref a) (.type "tuple")
 |dK {a:Addr} {kvs:List (Key×V)} (e:H a=some (.dK kvs)):TyOf K H (.ref a) (.type "dict")
 |dT {a:Addr} {kvs:List (Tr×Addr×V)} (e:H a=some (.dT kvs)):TyOf K H (.ref a) (.type "dict")
 | ins {a C dx:Addr} {fs:List (Str×V)} (e:H a=some (.ins C dx fs)) (cl:Cls K C) (ha:Yai K (.ref C) "__class__"=some (some (.builtin "object.__class__")))
   (hn:PySem.W.specialIn K (.builtin "object.__class__") "__get__"=some (some (.builtin "getset_descriptor.__get__"))) (htk:PySem.W.takesIn K (.builtin "object.__class__")=some true)
   (hm:PySem.W.mroIn K C (.type "object")=some true):TyOf K H (.ref a) (.ref C)
end
structure Room(k:Nat)(A:Around):Prop where
 hd:A.handled=none
 dp:A.depth+3*k+5<recursionLimit
 un:A.units+16*k+200<cLine
theorem Room.mono(r:Room k A)(h:j<=k):Room j A:=⟨r.hd,by have:=r.dp;lia,by have:=r.un;lia⟩
theorem Room.deeper(r:Room (k+1) A)(env:Env):Room k (A.deeper env):=
 ⟨r.hd,by have:=r.dp;show A.depth+1+3*k+5<_;lia,by have:=r.un;show A.units+3+16*k+200<_;lia⟩
theorem Room.depth(r:Room k A):A.depth<recursionLimit:=by have:=r.dp;exact Nf (Nh (Nm _ _) (Nm _ _)) this
theorem Room.units(r:Room k A):A.units+64<cLine:=by have:=r.un;lia
noncomputable def Qpx:TA:=fun _ H Q=>Q [] H
noncomputable def Qoh(d:TE)(c:TA):TA:=fun a H Q=>d a H fun x f=>c a f fun b e=>Q (x::b) e
section
variable{X:Cx}{e:Expr}{es:List Expr}{te:TE}{t:TA}{pos:Pos}
theorem QlJ:PA X [] Qpx:=fun _ _ _ _ H Q I h=>FI ⟨[],H,I,.nil,h⟩
theorem QiY(n:PE X e te)(hr:PA X es t)(m:starEach (e::es) X.env=(false,eval e X.env)::starEach es X.env:=by rfl):PA X (e::es) (Qoh te t):=by
 intro pos a s b H Q I h;rw[m];show wpAny _ _ (spliced ((false,eval e X.env)::backTo pos (starEach es X.env))) _ _ s;refine Ft (thn (n a s b H _ I h) fun u f c=>?_);obtain⟨x,p,I1,i,l⟩:=c;exact thn (hr pos a f b p _ I1 l) fun q r ⟨d,o,I2,g,j⟩=>⟨x::d,o,I2,.cons i g,j⟩
noncomputable def Qp1(t:TA):TE:=fun c H Q=>t c H fun a b=>a.length<=sizeLine/\∀p,b p=none->Q (.ref p) (upd b p (.tup a))
noncomputable def Qqf(t:TA):TE:=fun c H Q=>t c H fun a b=>a.length<=sizeLine/\∀p,b p=none->Q (.ref p) (upd b p (.lst a))
theorem Qkt{i}(h:PA X es t):PE X (.Tuple es i pos) (Qp1 t):=by
 intro a s f H Q I l;refine wpAny_Tuple_spliced (thn (h pos a s f H _ I l) fun j c ⟨g,d,I1,r,z,q⟩=>⟨by rw[<-r.length];exact z,?_⟩);have m:d c.heap.objs.size=none:=I1.hok.fresh (Nw _);refine⟨.ref c.heap.objs.size,upd d c.heap.objs.size (.tup g),I1.laid (t':=c.toks) (fun b u e=>Np _ e) (Nw _) ?_,rfl,q _ m⟩;exact⟨z,j,r,⟨_,NK _ rfl,rfl,_,rfl⟩⟩
theorem QgY(h:PA X es t):PE X (.List es pos) (Qqf t):=by
 intro a s f H Q I j;refine wpAny_List_spliced (thn (h pos a s f H _ I j) fun i c ⟨g,d,I1,r,z,q⟩=>⟨by rw[<-r.length];exact z,?_⟩);have l:d c.heap.objs.size=none:=I1.hok.fresh (Nw _);refine⟨.ref c.heap.objs.size,upd d c.heap.objs.size (.lst g),I1.laid (t':=c.toks) (fun b u e=>Np _ e) (Nw _) ?_,rfl,q _ l⟩;exact⟨z,i,0,r,NK _ rfl⟩
end
noncomputable abbrev Sp:=List V->Hp->VK->XK->Prop
noncomputable abbrev CXT:=List Env->Hp->Shared->XK->Value->Shared->Prop
structure Env0(P:Program)(w:World)(K:Nj)(mg:Str->Option Value)(base:Heap)(A:Around)(outer:List Env)(s:Shared)(H:Hp):Prop where
 frames:A.frames=some outer
 mod:Mod K mg base
 bs:∀b o,base.get? b=some o->s.heap.get? b=some o/\H b=none
 bsz:base.objs.size<=s.heap.objs.size
 funs:s.heap.FunFrames base outer
 frf:∀b∈frs outer,H b=none
 hok:HOk P w H s.heap
 bare:AllBare s.gens
def CE(a:List Env)(P:Program)(w:World)(H:Hp)(s:Shared)(Q:VK)(u:Value)(b:Shared):Prop:=
 ∃v c,b.os=s.os/\AllBare b.gens/\Un (frs a) [] H c s.heap b.heap/\HOk P w c b.heap/\RelV v u/\Q v c
def CR(CX:CXT)(a:List Env)(P:Program)(w:World)(H:Hp)(s:Shared)(Q:VK)(E:XK)(r:Result)(b:Shared):Prop:=
 match r with
 |.ok (.ret u)=>CE a P w H s Q u b
 |.ok _=>False
 |.error e=>CX a H s E e b
structure FnOk(P:Program)(w:World)(K:Nj)(mg:Str->Option Value)(base:Heap)(CX:CXT)(k:Nat)(f:Addr)(fd:FuncData)(ps:List Str)(sp:Sp):Prop where
 len:∀vs H Q E,sp vs H Q E->vs.length=ps.length
 run:∀(A:Around) (outer:List Env) (s:Shared) (H:Hp) (args:Args) (us:List Value) (vs:List V) (Q:VK) (E:XK),Room k A->Env0 P w K mg base A outer s H->BindsTo s fd args (ps.zip us)->Vals vs us->sp vs H Q E ->
  codeAny (model P w) A (.call (.ref f) args) (CR CX outer P w H s Q E) s
theorem FnOk.imp{P:Program}{w:World}{K:Nj}{base:Heap}{CX:CXT}{k:Nat}{f:Addr}{sp b:Sp}(F:FnOk P w K d base CX k f fd ps sp)
  (h:∀vs H Q E,b vs H Q E->sp vs H Q E):FnOk P w K d base CX k f fd ps b:=
 ⟨fun vs H Q E q=>F.len vs H Q E (h _ _ _ _ q),fun A a s H args c vs Q E hr i j e g=>F.run A a s H args c vs Q E hr i j e (h _ _ _ _ g)⟩
section
variable{X:Cx}{pins:List (Addr×Obj)}{σ:St}{H:Hp}{s s':Shared}
theorem Inv.env0(I:Inv X pins σ H s):Env0 X.prog X.w X.K X.mg X.base X.A X.stack s H:=
 ⟨I.ok.frames,I.ok.mod,I.bs,Nh I.ok.bsz I.sz,I.stack,I.stkFree,I.hok,I.bare⟩
theorem Inv.after(I:Inv X pins σ H s)(h:CE X.stack X.prog X.w H s Q u s'):EP X pins σ Q u s':=by
 obtain⟨v,f,os,bare,un,c,r,q⟩:=h;obtain⟨e,g,d,t,a⟩:=s';obtain rfl:a=s.os:=os;exact⟨v,f,I.call (h':=e) (g':=g) (d':=d) (t':=t) (ch:=[]) un c bare (fun b z=>absurd z (by simp)),r,q⟩
end
noncomputable def QhO(sp:Sp)(a:List V)(E:XK)(t:TA):TE:=fun b H Q=>t b H fun c d=>sp (c++a) d Q E
def Binds(K:Nj)(fd:FuncData)(ps:List Str)(b:List Value):Prop:=
 ∀(s:Shared) (a:List Value),K.In s.heap->(a++b).length=ps.length->BindsTo s fd ⟨a,[]⟩ (ps.zip (a++b))
theorem Binds.all{K:Nj}(h:∀us:List Value,us.length=ps.length->bindArgs fd ⟨us,[]⟩=pure (ps.zip us)):Binds K fd ps []:=fun s us _ a=>by
 rw[EE]at a ⊢;exact .of_eq (h us a)
def Wy(CX:CXT)(X:Cx)(E:XK):Prop:=∀(a:List (Addr×Obj)) (c:St) (H:Hp) (s:Shared) (e:Value) (b:Shared),Inv X a c H s->CX X.stack H s E e b->X.xe e b
section
variable{X:Cx}{CX:CXT}{k:Nat}{f C:Addr}{fd:FuncData}{ps:List Str}{sp:Sp}{dvs:List V}{ds:List Value}{E:XK}{x m:Str}{p pos apos:Pos}{e o:Expr}{es:List Expr}{ta:TE}{t:TA}
theorem Qha{σ:St}{H:Hp}{Q:VK}(F:FnOk X.prog X.w X.K X.mg X.base CX k f fd ps sp)(hr:Room k X.A)(j:Binds X.K fd ps ds)(hd:Vals dvs ds)(g:Wy CX X E)
  (I:Inv X a σ H s) (r:Vals vs us) (h:sp (vs++dvs) H Q E):wpAny (model X.prog X.w) X.A (call (.ref f) us) (EP X a σ Q) X.xe s:=by
 have c:Vals (vs++dvs) (us++ds):=r.append hd;have i:(us++ds).length=ps.length:=by rw[<-c.length];exact F.len _ _ _ _ h
 refine wpAny_call (Fv (F.run X.A X.stack s H ⟨us,[]⟩ (us++ds) (vs++dvs) Q E hr I.env0 (j s us I.kIn i) c h) fun r d b=>?_);cases r with
 |error e=>exact g a σ H s e d I b
 |ok fl=>
  cases fl with
  |ret u=>exact I.after b
  |next=>exact False.elim b
  |brk=>exact False.elim b
  |cont=>exact False.elim b
theorem Qi4(F:FnOk X.prog X.w X.K X.mg X.base CX k f fd ps sp)(hr:Room k X.A)(n:Gl X x)(j:X.mg x=some (.ref f))(l:Dg X.K (.ref f)=true)(v:Binds X.K fd ps ds)(hd:Vals dvs ds)(i:Wy CX X E)
  (y:PA X (e::es) t) (c:(x==("__debug__":Str))=false:=by decide) (u:starEach (e::es) X.env=(false,eval e X.env)::starEach es X.env:=by rfl) (b:(backTo pos (starEach es X.env)).any (·.1)=false:=by rfl) :
  PE X (.Call (.Name x p) (e::es) [] pos) (QhO sp dvs E t):=by
 intro a s g H Q I h;refine E1 (Qam I n j ?_ c);refine PySem.W.callWith_K (h₀:=X.base) I.ok.mod.kin l (thn (y pos a s g H _ I h) fun B D ⟨z,G,I1,r,q⟩=>⟨I1.kIn,?_⟩) u b;exact Qha F hr v hd i I1 r q
theorem QfZ(F:FnOk X.prog X.w X.K X.mg X.base CX k f fd ps sp)(hr:Room k X.A)(i:Gl X x)(d:X.mg x=some (.ref f))(g:Dg X.K (.ref f)=true)(j:Binds X.K fd ps ds)(hd:Vals dvs ds)(c:Wy CX X E)
  (a:(x==("__debug__":Str))=false:=by decide):PE X (.Call (.Name x p) [] [] pos) (QhO sp dvs E Qpx):=by
 intro b s l H Q I h;refine E1 (Qam I i d ?_ a);exact PySem.W.callWith_K0 I.kIn g (Qha (us:=[]) F hr j hd c I .nil h)
end
structure FnScope(N P:List Str)(sc:Scope):Prop where
 kind:sc.kind=.function
 co:sc.isCoroutine=false
 gen:sc.isGenerator=false
 nd:N.Nodup
 pre:N.take P.length=P
 par:∀x∈P,sc.names.lookup x=some .local\/sc.names.lookup x=some .cell
 nofree:∀y∈sc.names,y.2≠.free
theorem Gu{kindOf:Str->Option NameKind}:∀{binds:List (Str×Value)} {m:Str->Option Value},(∀v,(x,v)∉binds)->bindL kindOf binds m x=m x
 |[],_,_=>rfl
 | (n,v)::r,m,h=>by
  unfold bindL;rw[Gu fun w hw=>h w (Nu _ hw)];split
  ·have:x≠n:=by rintro rfl;exact h v Ny
   simp[this]
  ·rfl
theorem Gk{kindOf:Str->Option NameKind}:∀{binds:List (Str×Value)} {m:Str->Option Value},(∀v,(x,v)∉binds)->bindC kindOf binds m x=m x
 |[],_,_=>rfl
 | (n,v)::r,m,h=>by
  unfold bindC;rw[Gk fun w hw=>h w (Nu _ hw)];split
  ·rfl
  ·have:x≠n:=by rintro rfl;exact h v Ny
   simp[this]
theorem US{kindOf:Str->Option NameKind}:∀{P:List Str} {vs:List Value} {i:Nat} {m:Str->Option Value},P.Nodup->P[i]?=some x->vs[i]?=some v->kindOf x=some .local ->
  bindL kindOf (P.zip vs) m x=some v
 |[],_,_,_,_,h,_,_=>by simp at h
 |_::_,[],_,_,_,_,h,_=>by simp at h
 |p::P,w::vs,0,m,nd,a,h2,b=>by
  simp at a h2;subst a;subst h2;show bindL kindOf ((p,w)::P.zip vs) m p=_;unfold bindL;rw[Gu fun v c=>(EF.mp nd).1 (IZ c).1,if_pos b];simp
 |p::P,w::vs,i+1,m,nd,a,h2,b=>by
  show bindL kindOf ((p,w)::P.zip vs) m x=_;unfold bindL;exact US (i:=i) (EF.mp nd).2 (by simpa using a) (by simpa using h2) b
theorem UY{kindOf:Str->Option NameKind}:∀{P:List Str} {vs:List Value} {i:Nat} {m:Str->Option Value},P.Nodup->P[i]?=some x->vs[i]?=some v->kindOf x≠some .local ->
  bindC kindOf (P.zip vs) m x=some v
 |[],_,_,_,_,h,_,_=>by simp at h
 |_::_,[],_,_,_,_,h,_=>by simp at h
 |p::P,w::vs,0,m,nd,a,h2,b=>by
  simp at a h2;subst a;subst h2;show bindC kindOf ((p,w)::P.zip vs) m p=_;unfold bindC;rw[Gk fun v c=>(EF.mp nd).1 (IZ c).1,if_neg b];simp
 |p::P,w::vs,i+1,m,nd,a,h2,b=>by
  show bindC kindOf ((p,w)::P.zip vs) m x=_;unfold bindC;exact UY (i:=i) (EF.mp nd).2 (by simpa using a) (by simpa using h2) b
noncomputable def start(N:List Str)(vs:List V):St:=vs.map some++List.replicate (N.length-vs.length) none
noncomputable def QgR(CX:CXT)(P:Program)(w:World)(K:Nj)(mg:Str->Option Value)(base:Heap)(N:List Str)(b:Str)(a:Scope)(f:Addr)(cd:Value)(A:Around)(outer:List Env)(s:Shared)(H:Hp)(E:XK):Cx where
 prog:=P
 w:=w
 K:=K
 mg:=mg
 base:=base
 A:=A.deeper (envOfC b a s.heap.objs.size f cd)
 N:=N
 s₀:=s
 H₀:=H
 env:=envOfC b a s.heap.objs.size f cd
 outer:=outer
 stack:=envOfC b a s.heap.objs.size f cd::outer
 ex:=[]
 calm:=true
 fn:=fun _=>true
 pn:=[]
 xe:=fun e d=>wpAny (model P w) (A.deeper (envOfC b a s.heap.objs.size f cd)) (leaving (envOfC b a s.heap.objs.size f cd) e) (fun _ c=>CX outer H s E e c) (fun g c=>CX outer H s E g c) d
theorem Qbt{a:Scope}(h:a.names.lookup x=some .cell):∃c,(cellsFrom n a.names []).lookup x=some c:=by
 have q:=Lk a.names n [] (.inl h);exact Option.isSome_iff_exists.mp q
theorem QdE{CX:CXT}{P:Program}{w:World}{K:Nj}{I:Str->Option Value}{base:Heap}{g:Str}{d:Scope}{f:Addr}{cd:Value}{A:Around}{s L:Shared}{H:Hp}{E:XK}{us:List Value}{vs:List V}
  (S:FnScope N ps d) (hd:A.handled=none) (m:Env0 P w K I base A l s H) (U:vs.length=ps.length) (r:Vals vs us)
  (x:InCallC s s.heap.objs.size (bindL (envOfC g d s.heap.objs.size f cd).kindOf (ps.zip us) fun _=>none) (cellsFrom (s.heap.objs.size+1) d.names []) (bindC (envOfC g d s.heap.objs.size f cd).kindOf (ps.zip us) fun _=>none) L) :
  Inv (QgR CX P w K I base N g d f cd A l s H E) [] (start N vs) H L:=by
 have Q:ps.length<=N.length:=by have:=congrArg List.length S.pre;rw[Ey]at this;exact Nh (Nt this.symm) (D9 _ _)
 obtain⟨G,tk,rfl,M⟩:=x.done;have o:∀b:Addr,b∉(QgR CX P w K I base N g d f cd A l s H E).ex:=fun b z=>absurd (show b∈([]:List Addr)from z) (by simp)
 refine⟨⟨m.mod,S.kind,rfl,rfl,Nw _,fun y z c G j=>?_,fun y t=>?_,fun y c _ h=>?_,fun _=>hd,Around.frames_deeper m.frames,.inr ⟨rfl,rfl⟩,fun b z=>absurd z (o b),m.bs,m.bsz,fun b _ _=>o b,fun b z=>absurd z (o b),m.funs,m.frf⟩,
  rfl,m.bare,Un.kept M,⟨_,x.toInCall.ns,fun i y v G j Z=>?_⟩,fun y c h=>⟨_,x.cell y c h⟩,m.hok.fresh (Nw _),fun y c h=>?_,fun p C=>absurd (show p∈([]:List (Addr×Obj))from C) (by simp),m.hok.kept M,?_⟩
 ·exact name_of_addr x.apart (DK G) (DK j)
 ·have t:d.names.lookup y=some .cell\/d.names.lookup y=some .free:=t
  rcases t with t|t
  ·exact Qbt t
  ·exact absurd rfl (S.nofree _ (DK t))
 ·exact Nn (x.above y c (DK h))
 ·have D:i<vs.length:=by
   unfold start at j
   by_cases D:i<vs.length
   ·exact D
   ·rw[N2 (by simpa using D)]at j;rw[IP]at j;split at j<;>cases j
  have Y:vs[i]?=some v:=by
   unfold start at j;rw[NQ (by simpa using D),Nz]at j;cases e:vs[i]? with
   |none=>rw[e]at j;cases j
   |some a=>rw[e]at j;cases j;rfl
  obtain⟨u,hu,O⟩:=r.get Y
  have C:ps[i]?=some y:=by
   rw[<-S.pre,List.getElem?_take_of_lt (Nd D (Nt U))];exact G
  have B:ps.Nodup:=by rw[<-S.pre];exact S.nd.sublist (List.take_sublist _ _)
  refine⟨u,O,?_⟩
  rcases S.par y (EO C)with k|k
  ·exact .inl ⟨k,US B C hu k⟩
  ·obtain⟨c,e⟩:=Qbt (n:=s.heap.objs.size+1) k;refine .inr ⟨.inl k,c,e,?_⟩;have q:=x.cell y c e;rw[UY B C hu (by show d.names.lookup y≠_;rw[k];decide)]at q;exact q
 ·exact m.hok.fresh (Nn (x.above y c (DK h)))
 ·unfold start;show _=N.length;rw[NC,NG,Lu];lia
theorem Qnh{CX:CXT}{P:Program}{w:World}{K:Nj}{base:Heap}{k:Nat}{f:Addr}{name d:Str}{h:Arguments}{body:List Stmt}{a:Scope}{Y kV C pm g ct oc:Value} 
  {N ps:List Str} {sp:Sp} (lk:K.lookup f=some ⟨oc,od,.func (Di name d h body a Y kV C pm an g ct),aa⟩) (O:F8 K g d=true) (S:FnScope N ps a)
  (len:∀vs H Q E,sp vs H Q E->vs.length=ps.length)
  (m:∀(A:Around) (c:List Env) (s:Shared) (H:Hp) (vs:List V) (Q:VK) (E:XK),Room k (A.deeper (envOfC d a s.heap.objs.size f g))->sp vs H Q E ->
   ∃t,PSs (QgR CX P w K L base N d a f g A c s H E) body t/\t { nx:=fun _ j=>Q .non j,rt:=Q } (start N vs) H) :
  FnOk P w K L base CX (k+1) f (Di name d h body a Y kV C pm an g ct) ps sp:=by
 refine⟨len,fun A c s H args us vs Q E hr B hb r z=>?_⟩;have hl:=len _ _ _ _ z;have Z:K.In s.heap:=B.mod.kin.keeps fun b o e=>(B.bs b o e).1;have M:s.heap.NoLimit:=B.mod.nolimit.keeps fun b o e=>(B.bs b o e).1
 have l:∀y∈ps.zip us,a.names.lookup y.1=some .local\/(a.names.lookup y.1=some .cell/\((cellsFrom (s.heap.objs.size+1) a.names []).lookup y.1).isSome=true):=fun⟨n,v⟩ hy=>by
  rcases S.par n (IZ hy).1 with q|q
  ·exact .inl q
  ·exact .inr ⟨q,Lk _ _ _ (.inl q)⟩
 refine codeAny_call_function hr.depth (Z _ _ lk) rfl S.co S.gen rfl (PySem.W.codeRec_of Z O) (hb _ _ _ _ ?_);refine wpAny_newFunctionEnv_cells S.kind l fun ab he U x=>?_;subst he;refine⟨M.keeps x.toInCall.keep,codeAny_func ?_⟩;obtain⟨t,ht,hq⟩:=m A c s H vs Q E (hr.deeper _) z;have I:Inv (QgR CX P w K L base N d a f g A c s H E) [] (start N vs) H U:=QdE S hr.hd B hl r x;refine NU (ht [] U (start N vs) H _ I hq) (fun fl D p=>?_) fun e D p=>p
 have fin:∀{i:St} {j:Hp} {v:V} {u:Value},Inv (QgR CX P w K L base N d a f g A c s H E) [] i j D->RelV v u->Q v j->CE c P w H s Q u D:=
  fun {i j v u} J G q=>⟨v,j,J.os,J.bare,J.base,J.hok,G,q⟩
 cases fl with
 |ret u=>
  obtain⟨v,i,j,J,G,q⟩:=p;exact fin J G q
 |next=>
  obtain⟨i,j,J,q⟩:=p;exact fin (v:=V.non) (u:=Value.none) J rfl q
 |brk=>
  obtain⟨_,_,_,q⟩:=p;exact False.elim q
 |cont=>
  obtain⟨_,_,_,q⟩:=p;exact False.elim q
section
variable{X:Cx}{x:Str}{p pos:Pos}{e:Expr}{es:List Expr}{t:TA}{id T:String}{r:List V->Hp->VK->Prop}
noncomputable def tCB(r:List V->Hp->VK->Prop)(t:TA):TE:=fun a H Q=>t a H fun b c=>r b c Q
theorem Qf4(v:CallR X (.builtin id) r)(q:Gl X x)(o:X.mg x=none)(m:bootBuiltins x=some (.builtin id))(w:PA X (e::es) t)(n:x≠"__name__":=by decide)(c:(x==("__debug__":Str))=false:=by decide)
  (u:starEach (e::es) X.env=(false,eval e X.env)::starEach es X.env:=by rfl) (b:(backTo pos (starEach es X.env)).any (·.1)=false:=by rfl):PE X (.Call (.Name x p) (e::es) [] pos) (tCB r t):=by
 intro a s d H Q I h;refine E1 (XU I q o m ?_ n c);exact DQ (thn (w pos a s d H _ I h) fun g i ⟨f,y,I1,j,l⟩=>v a i d y f g Q I1 j l) u b
theorem Qcp(v:CallR X (.type T) r)(q:Gl X x)(o:X.mg x=none)(m:bootBuiltins x=some (.type T))(w:PA X (e::es) t)(n:x≠"__name__":=by decide)(c:(x==("__debug__":Str))=false:=by decide)
  (u:starEach (e::es) X.env=(false,eval e X.env)::starEach es X.env:=by rfl) (b:(backTo pos (starEach es X.env)).any (·.1)=false:=by rfl):PE X (.Call (.Name x p) (e::es) [] pos) (tCB r t):=by
 intro a s d H Q I h;refine E1 (XU I q o m ?_ n c);exact EG (thn (w pos a s d H _ I h) fun g i ⟨f,y,I1,j,l⟩=>v a i d y f g Q I1 j l) u b
end
end L2
namespace HT
open PySem PyProof.Rows
section
variable{prog:Program}{w:World}{A:Around}{E:Value->Shared->Prop}{s:Shared}
theorem cat_tup(p:IsTup s.heap t vs.toArray)(q:IsTup s.heap b ws.toArray)(l:vs≠[])
  (r:ws=[]->Q (.ref t) s) (h2:ws≠[]->Q (.ref s.heap.objs.size) { s with heap:=s.heap.push { cls:=.type "tuple",data:=.seq (vs++ws).toArray } })
  (hsz:vs.length+ws.length<=sizeLine):wpAny (model prog w) A (binaryOp .Add (.ref t) (.ref b)) Q E s:=by
 obtain⟨⟨cls,dd,data,i⟩,h,m,n,hd⟩:=id p;obtain⟨⟨o,g,data2,c⟩,a,f,j,d⟩:=id q;simp only at m hd f d;subst m hd f d;have e:vs.toArray++ws.toArray=(vs++ws).toArray:=by simp
 by_cases hw:ws=[]
 ·exact Oe ⟨_,h,rfl⟩ ⟨_,a,rfl⟩ IF LR FK FG (Fw _ _)
   (tuple_addW1 t b vs.toArray ws.toArray n j dd g i c (by simpa using l) (by simp[hw])) ⟨h,a,r hw⟩
 ·refine Oe ⟨_,h,rfl⟩ ⟨_,a,rfl⟩ IF LR FK FG (Fw _ _)
   (tuple_addW2 t b vs.toArray ws.toArray n j dd g i c (by simpa using l) (by simpa using hw) (by rw[Nr,Nr];exact hsz)) ⟨h,a,?_⟩
  rw[e];exact h2 hw
noncomputable def sIx(n d:Nat):Option Int->Nat
 |none=>d
 |some v=>if v<0 then(v+(n:Int)).toNat else min v.toNat n
theorem sIx_none(n d:Nat):sIx n d none=d:=rfl
theorem sIx_nat(n d k:Nat):sIx n d (some (k:Int))=min k n:=by
 show(if(k:Int)<0 then((k:Int)+(n:Int)).toNat else min (k:Int).toNat n)=min k n;rw[if_neg (by lia),Dd]
theorem Qk4(n d:Nat)(hd:d<=n)(o:Option Int):sIx n d o<=n:=by
 cases o with
 |none=>exact hd
 |some v=>
  show(if v<0 then(v+(n:Int)).toNat else min v.toNat n)<=n
  by_cases a:v<0
  ·rw[if_pos a];lia
  ·rw[if_neg a];exact D9 _ _
theorem QcQ(v:Int)(n d:Nat):(if v<0 then max (v+(n:Int)) 0 else min v (n:Int))=((sIx n d (some v):Nat):Int):=by
 show(if v<0 then max (v+(n:Int)) 0 else min v (n:Int))=(((if v<0 then(v+(n:Int)).toNat else min v.toNat n):Nat):Int)
 by_cases a:v<0
 ·simp only[if_pos a];lia
 ·simp only[if_neg a];lia
theorem QbO(lo hi:Option Int)(n:Nat):Builtin.Slice.sliceAdjust lo hi 1 (n:Int)=(((sIx n 0 lo:Nat):Int),((sIx n n hi:Nat):Int)):=by
 have a:¬((1:Int)<0):=by exact by decide
 unfold Builtin.Slice.sliceAdjust;simp only[a,if_false];refine Prod.ext ?_ ?_
 ·cases lo with
  |none=>rfl
  |some v=>exact QcQ v n 0
 ·cases hi with
  |none=>rfl
  |some v=>exact QcQ v n n
theorem QbW(i j:Nat):Builtin.Slice.slicePlaces (i:Int) (j:Int) 1=j-i:=by
 unfold Builtin.Slice.slicePlaces;have a:(1:Int)>0:=by exact by decide
 simp only[a,if_true,Int.ediv_one];split<;>lia
theorem WC(p:IsPart v o)(h:Q o s):wpAny (model prog w) A (Builtin.Slice.slicePartIndex v) Q E s:=by
 cases p with
 |none=>exact slicePart_none h
 |int i t=>exact slicePart_int h
theorem sliceApplied_gen{lo hi:Option Int}{n:Nat}(i:s.heap.IsSliceOf e d c .none)(g:IsPart d lo)(f:IsPart c hi)
  (h:Q (((sIx n 0 lo:Nat):Int),1,sIx n n hi-sIx n 0 lo) s):wpAny (model prog w) A (Builtin.Slice.sliceApplied (.ref e) (pure (n:Int))) Q E s:=by
 obtain⟨os,a,j,b⟩:=id i;unfold Builtin.Slice.sliceApplied Builtin.Slice.sliceFields;refine Nc (Nc (OR a b (x:=d) rfl (Nc (OR a b (x:=c) rfl (Nc (OR a b (x:=.none) rfl (Nq ?_)))))));refine Nc (slicePart_none ?_);show wpAny _ _ (if((1:Int)==0)=true then _ else _) _ _ s;rw[if_neg (by decide)];refine Nc (WC g (Nc (WC f (Nc (Nq ?_)))));show wpAny _ _ (match Builtin.Slice.sliceAdjust lo hi 1 (n:Int)with|(lo,hi)=>pure (lo,(1:Int),Builtin.Slice.slicePlaces lo hi 1)) _ _ s;rw[QbO lo hi n];show wpAny _ _ (pure (((sIx n 0 lo:Nat):Int),(1:Int),Builtin.Slice.slicePlaces ((sIx n 0 lo:Nat):Int) ((sIx n n hi:Nat):Int) 1)) _ _ s;rw[QbW];exact Nq h
theorem Qfm(xs:Array Value)(i k:Nat):((List.range k).filterMap fun(m:Nat)=>xs[((i:Int)+(m:Int)*1).toNat]?).toArray=((xs.toList.drop i).take k).toArray:=by
 have e:(fun(m:Nat)=>xs[((i:Int)+(m:Int)*1).toNat]?)=fun m=>xs[i+m]?:=by
  funext m;have:((i:Int)+(m:Int)*1).toNat=i+m:=by lia
  rw[this]
 rw[e];have:=pick_run xs i k;rw[List.filterMap_map]at this;have a:((fun x=>xs[x]?)∘fun x=>i+x)=fun m=>xs[i+m]?:=rfl;rw[a]at this;rw[this]
theorem getItem_tuple_cut{t c:Addr}{lo hi:Option Int}(b:IsTup s.heap t items)(i:s.heap.IsSliceOf c l j .none)(p:IsPart l lo)(o:IsPart j hi)
  (hw:¬(sIx items.size 0 lo=0/\sIx items.size items.size hi=items.size))
  (h:Q (.ref s.heap.objs.size) { s with heap:=s.heap.push { cls:=.type "tuple",data:=.seq ((items.toList.drop (sIx items.size 0 lo)).take (sIx items.size items.size hi-sIx items.size 0 lo)).toArray } })
  (hsz:items.size<=sizeLine):wpAny (model prog w) A (getItem (.ref t) (.ref c)) Q E s:=by
 have a:sizeOk (.seq ((items.toList.drop (sIx items.size 0 lo)).take (sIx items.size items.size hi-sIx items.size 0 lo)).toArray):=by
  show((items.toList.drop (sIx items.size 0 lo)).take (sIx items.size items.size hi-sIx items.size 0 lo)).toArray.size<=sizeLine;rw[Nr,Ey,Fb,NB];exact Nh (Nh (D9 _ _) (NZ _ _)) hsz
 have r:sIx items.size items.size hi<=items.size:=Qk4 _ _ (Nw _) hi;obtain⟨os,d,f,u⟩:=id i;have g:s.TypeIs (.ref c) "slice":=⟨os,d,f⟩
 unfold getItem
 try with_reducible refine Ej ?_
 first|refine Nc (Nq ?_)|skip
 refine Nc (OA b.typeIs (by decide) ?_)
 refine Nc (DN (name:=Str.ofString "__getitem__") b.typeIs El
  (EM El b.typeIs LZ ?_ (Of _ _)))
 show wpAny _ _ (Builtin.Tuple.tupleItemsOf (.ref t)>>=_) _ _ s;refine Nc (tupleItemsOf_ b ?_);refine Nc (D3 g ?_);rw[if_pos (by decide)];refine Nc (sliceApplied_gen i p o ?_)
 have e:¬((((sIx items.size 0 lo:Nat):Int)==0&&(1:Int)==1&&(sIx items.size items.size hi-sIx items.size 0 lo)==items.size)=true):=by
  intro q;rw[NS,NS]at q;have v:((sIx items.size 0 lo:Nat):Int)=0:=DE q.1.1;have n:sIx items.size items.size hi-sIx items.size 0 lo=items.size:=DE q.2;exact hw ⟨by lia,by exact Eh r (Nh (Nt n.symm) (NZ _ _))⟩
 show wpAny _ _ (if(((sIx items.size 0 lo:Nat):Int)==0&&(1:Int)==1&&(sIx items.size items.size hi-sIx items.size 0 lo)==items.size)=true then _ else _) _ _ s;rw[if_neg e,Qfm]
 first
  |exact Nc (m:=Builtin.Tuple.tupleExact _) (EJ (Nq ⟨_,rfl,Nq h⟩) a)
  |exact Nc (m:=Builtin.Tuple.tupleExact _) (EJ (Nc (Nq (Nq ⟨_,rfl,Nq h⟩))) a)
  |exact Nc (Nc (m:=Builtin.Tuple.tupleExact _) (EJ (Nq (Nq ⟨_,rfl,Nq h⟩)) a))
  |exact Nc (Nc (m:=Builtin.Tuple.tupleExact _) (EJ (Nq ⟨_,rfl,Nq h⟩) a))
end
end HT
namespace L2
noncomputable abbrev TO:=St->Hp->(Option Int->Hp->Prop)->Prop
def PO(X:Cx)(e:Option Expr)(t:TO):Prop:=
 ∀(a:List (Addr×Obj)) (s:Shared) (b:St) (H:Hp) (Q:Option Int->Hp->Prop),Inv X a b H s->t b H Q ->
  wpAny (model X.prog X.w) X.A (evalPart e X.env) (fun u d=>∃o c,Inv X a b c d/\IsPart u o/\Q o c) X.xe s
noncomputable def QiW:TO:=fun _ H Q=>Q none H
noncomputable def QmI(t:TE):TO:=fun a H Q=>t a H fun x b=>∃i,x=.int i/\Q (some i) b
section
variable{X:Cx}{e:Expr}{te:TE}{lo hi:Option Expr}{tl th:TO}{pos p2:Pos}
theorem Qh0:PO X none QiW:=by
 intro a s b H Q I h;rw[evalPart_none];exact Nq ⟨none,H,I,.none,h⟩
theorem Qix(h:PE X e te):PO X (some e) (QmI te):=by
 intro a s b H Q I hw;rw[evalPart_some];refine thn (h a s b H _ I hw) fun u j c=>?_;obtain⟨x,g,I1,d,f⟩:=c;obtain⟨i,rfl,q⟩:=f;obtain⟨t,rfl⟩:=d;exact⟨some i,g,I1,.int i t,q⟩
def SlR(X:Cx)(r:V->Option Int->Option Int->Hp->VK->Prop):Prop:=
 ∀(a:List (Addr×Obj)) (s:Shared) (b:St) (H:Hp) (x:V) (v d c:Value) (lo hi:Option Int) (f:Addr) (Q:VK),Inv X a b H s->RelV x v->s.heap.IsSliceOf f d c .none->IsPart d lo->IsPart c hi->r x lo hi H Q ->
  ∃T id,typeLookup (.type T) "__getitem__"=pure (some (.builtin id))/\s.TypeIs v T/\wpAny (model X.prog X.w) X.A (getItem v (.ref f)) (EP X a b Q) X.xe s
theorem SlR.or(h:SlR X r)(h':SlR X m):SlR X (fun x lo hi H Q=>r x lo hi H Q\/m x lo hi H Q):=by
 intro a s b H x v d c lo hi f Q I g l j i q
 rcases q with q|q
 ·exact h a s b H x v d c lo hi f Q I g l j i q
 ·exact h' a s b H x v d c lo hi f Q I g l j i q
noncomputable def tSl(r:V->Option Int->Option Int->Hp->VK->Prop)(te:TE)(tl th:TO):TE:=fun a H Q=>te a H fun x d=>tl a d fun l c=>th a c fun u b=>r x l u b Q
theorem Qf1(hr:SlR X r)(G:PE X e te)(D:PO X lo tl)(hu:PO X hi th):PE X (.Subscript e (.Slice lo hi none p2) pos) (tSl r te tl th):=by
 intro a s d H Q I h;refine Subscript_ (thn (G a s d H _ I h) fun v m g=>?_);obtain⟨x,M,I1,n,t⟩:=g;refine wpAny_Slice (thn (D a m d M _ I1 t) fun f j ⟨l,L,I2,z,p⟩=>thn (hu a j d L _ I2 p) fun vu c g=>?_);obtain⟨u,i,I3,y,o⟩:=g;rw[evalPart_none];refine Nq ?_;have I4:Inv X a d i { c with heap:=c.heap.push { cls:=.type "slice",data:=.fields #[f,vu,.none] } }:=I3.kept (t':=c.toks) fun b ob q=>Np _ q;obtain⟨T,id,hT,C,E⟩:=hr a { c with heap:=c.heap.push { cls:=.type "slice",data:=.fields #[f,vu,.none] } } d i x v f vu l u c.heap.objs.size Q I4 n (Heap.IsSliceOf.new ..) z y o;show wpAny (model X.prog X.w) X.A (subscriptTail e (.Slice lo hi none p2) v (.ref c.heap.objs.size)) (EP X a d Q) X.xe { c with heap:=c.heap.push { cls:=.type "slice",data:=.fields #[f,vu,.none] } };exact tail_any (ops:=[.ref c.heap.objs.size,v]) C hT E (by with_unfolding_all rfl)
noncomputable def QfU(xs:List V)(lo hi:Option Int):List V:=(xs.drop (HT.sIx xs.length 0 lo)).take (HT.sIx xs.length xs.length hi-HT.sIx xs.length 0 lo)
theorem YZ(xs:List V)(lo hi:Option Int):(QfU xs lo hi).length<=xs.length:=by
 unfold QfU;rw[Ey,Fb];exact Nh (D9 _ _) (NZ _ _)
noncomputable def QqE(K:Nj):V->Option Int->Option Int->Hp->VK->Prop:=fun x lo hi H Q=>∃a b,x=.ref a/\SqT K H a b /\
 ¬(HT.sIx b.length 0 lo=0/\HT.sIx b.length b.length hi=b.length)/\∀p,H p=none->Q (.ref p) (upd H p (.tup (QfU b lo hi)))
theorem Qj6:SlR X (QqE X.K):=by
 intro g s u H x v y w lo hi A Q I l t n m h;obtain⟨a,d,rfl,p,hw,q⟩:=h;cases l;obtain⟨f,r,j,i⟩:=I.tuple p;have c:f.toArray.size=d.length:=by rw[Nr];exact r.length.symm
 refine⟨"tuple",_,El.lookup,j.typeIs,?_⟩;refine HT.getItem_tuple_cut j t n m (by rw[c];exact hw) ?_ (by rw[c];exact i);rw[c];refine⟨.ref s.heap.objs.size,_,I.laid (t':=s.toks) (o:=.tup (QfU d lo hi)) (fun b ob q=>Np _ q) (Nw _) ?_,rfl,q _ (I.hok.fresh (Nw _))⟩;exact⟨Nh (YZ d lo hi) i,_,(r.drop (HT.sIx d.length 0 lo)).take (HT.sIx d.length d.length hi-HT.sIx d.length 0 lo),Yak _ _⟩
noncomputable def QmW(K:Nj):R2:=fun x y H Q=>∃a b d c,x=.ref a/\y=.ref b/\SqT K H a d/\SqT K H b c/\d≠[]/\d.length+c.length<=sizeLine /\
 (c=[]->Q (.ref a) H)/\(c≠[]->∀p,H p=none->Q (.ref p) (upd H p (.tup (d++c))))
theorem Vals.nil_iff(r:Vals xs us):us=[]↔xs=[]:=by
 cases r with
 |nil=>simp
 |cons _ _=>simp
theorem QiX:OpR X (binaryOp .Add) (QmW X.K):=by
 intro f s E H x y v u Q I n m h;obtain⟨a,b,l,j,rfl,rfl,D,C,B,i,r,p⟩:=h;cases n;cases m;obtain⟨A,d,t,_⟩:=I.tuple D;obtain⟨g,c,p2,_⟩:=I.tuple C;refine HT.cat_tup t p2 (fun z=>B (d.nil_iff.mp z)) (fun z=>⟨.ref a,H,I,rfl,r (c.nil_iff.mp z)⟩) (fun z=>?_) (by rw[<-d.length,<-c.length];exact i);refine⟨.ref s.heap.objs.size,_,I.laid (t':=s.toks) (o:=.tup (l++j)) (fun b ob q=>Np _ q) (Nw _) ?_,rfl,p (fun w=>z (c.nil_iff.mpr w)) _ (I.hok.fresh (Nw _))⟩;exact⟨by rw[NC];exact i,_,d.append c,Yak _ _⟩
end
noncomputable def ixN(n:Nat)(i:Int):Option Nat:=if 0<=i then(if i<n then some i.toNat else none)else if -(n:Int)<=i then some (i+n).toNat else none
noncomputable def atI(xs:List a)(i:Int):Option a:=(ixN xs.length i).bind fun j=>xs[j]?
theorem Qdm(h:ixN n i=some j):seqIndex? i n=some j/\j<n/\-(n:Int)<=i/\i<n:=by
 unfold ixN at h
 by_cases b:0<=i
 ·rw[if_pos b]at h
  by_cases a:i<n
  ·rw[if_pos a]at h;have e:i.toNat=j:=N5 h;exact⟨by rw[OS b a,e],by lia,by lia,a⟩
  ·rw[if_neg a]at h;cases h
 ·rw[if_neg b]at h
  by_cases a:-(n:Int)<=i
  ·rw[if_pos a]at h;have e:(i+n).toNat=j:=N5 h;exact⟨by rw[Og (IC.mp b) a,e],by lia,a,by lia⟩
  ·rw[if_neg a]at h;cases h
theorem GY{xs:List f}(h:atI xs i=some v):∃j,seqIndex? i xs.length=some j/\xs[j]?=some v/\j<xs.length/\-(xs.length:Int)<=i/\i<xs.length:=by
 unfold atI at h;cases e:ixN xs.length i with
 |none=>rw[e]at h;cases h
 |some j=>
  rw[e]at h;obtain⟨d,c,b,a⟩:=Qdm e;exact⟨j,d,h,c,b,a⟩
theorem QiE{xs:List a}{j:Nat}(h:xs[j]?=some v):atI xs (j:Int)=some v:=by
 have b:j<xs.length:=(Ng.mp h).1
 have e:ixN xs.length (j:Int)=some j:=by
  unfold ixN;rw[if_pos (by lia),if_pos (by lia)];simp
 unfold atI;rw[e];exact h
def G9(b:Expr):Prop:=∀o i,subscripted b false o i=operate [o,i] (getItem o i)
def IxR(X:Cx)(r:R2):Prop:=
 ∀(value slice:Expr) (a:List (Addr×Obj)) (s:Shared) (b:St) (H:Hp) (x y:V) (v u:Value) (Q:VK),Inv X a b H s->RelV x v->RelV y u->r x y H Q ->
  subscripted slice false v u=operate [v,u] (getItem v u)->wpAny (model X.prog X.w) X.A (subscriptTail value slice v u) (EP X a b Q) X.xe s
def MtR(X:Cx)(id:String)(r:V->List V->Hp->VK->Prop):Prop:=
 ∀(a:List (Addr×Obj)) (s:Shared) (b:St) (H:Hp) (x:V) (c:List V) (v:Value) (d:List Value) (Q:VK),Inv X a b H s->RelV x v->Vals c d->r x c H Q ->
  wpAny (model X.prog X.w) X.A (call (.builtin id) (v::d)) (EP X a b Q) X.xe s
section
variable{X:Cx}{a b:Expr}{ta tb:TE}{pos:Pos}
theorem IxR.or(h:IxR X r)(h':IxR X i):IxR X (fun x y H Q=>r x y H Q\/i x y H Q):=by
 intro value slice c s d H x y v u Q I f e q g
 rcases q with q|q
 ·exact h value slice c s d H x y v u Q I f e q g
 ·exact h' value slice c s d H x y v u Q I f e q g
theorem Qn6{r:R2}(hr:IxR X r)(l:PE X a ta)(j:PE X b tb)(i:G9 b):PE X (.Subscript a b pos) (tOp r ta tb):=by
 intro c s d H Q I h;exact Subscript_ (QnN l j I h fun v u e x y m I2 g f q=>hr a b c e d m x y v u Q I2 g f q (i _ _))
noncomputable def QoY(K:Nj):R2:=fun x y H Q=>∃p c i v,x=.ref p/\y=.int i/\SqL K H p c/\atI c i=some v/\Q v H
noncomputable def Qpq(K:Nj):R2:=fun x y H Q=>∃p c i v,x=.ref p/\y=.int i/\SqT K H p c/\atI c i=some v/\Q v H
noncomputable def Qpe:R2:=fun x y H Q=>∃z i c,x=.str z/\y=.int i/\z.length<=sizeLine/\atI z.cps.toList i=some c/\Q (.str ⟨#[c]⟩) H
theorem ix_list:IxR X (QoY X.K):=by
 intro value slice c s n H x y v u Q I D C h o;obtain⟨p,P,i,z,rfl,rfl,E,L,q⟩:=h;cases D;obtain⟨t,rfl⟩:=C;obtain⟨l,r,g,S⟩:=I.list E;obtain⟨j,d,O,Y,N,M⟩:=GY L;obtain⟨w,A,f⟩:=r.get O;have G:=r.length;have U:=YH;have fin:EP X c n Q w s:=⟨z,H,I,f,q⟩
 by_cases e:0<=i
 ·have m:i.toNat=j:=by
   rw[OS e M]at d;exact N5 d
  exact item_listR g.isList e (by lia) (by rw[m];simpa using A) fin o
 ·have m:(i+(l.toArray.size:Int)).toNat=j:=by
   rw[Og (IC.mp e) N]at d;rw[Nr,<-G];exact N5 d
  exact Ll (x:=w) g.isList.typeIs OB.lookup
   (wpAny_getItem_list_neg (Q:=fun r B=>r=w/\EP X c n Q r B) g.isList (IC.mp e) (by rw[Nr]<;>lia) (by lia) (by rw[m];simpa using A) ⟨rfl,fin⟩) o
theorem ix_tup:IxR X (Qpq X.K):=by
 intro value slice c s e H x y v u Q I m l h o;obtain⟨p,L,i,z,rfl,rfl,A,C,q⟩:=h;cases m;obtain⟨t,rfl⟩:=l;obtain⟨n,r,f,M⟩:=I.tuple A;obtain⟨j,E,D,S,P,O⟩:=GY C;obtain⟨w,G,d⟩:=r.get D;have B:=r.length;have N:=YH;have fin:EP X c e Q w s:=⟨z,H,I,d,q⟩
 exact Ll (x:=w) f.typeIs El.lookup
  (getItem_tuple (j:=j) (Q:=fun r g=>r=w/\EP X c e Q r g) f (by lia) (by lia) (by rw[Nr,<-B];exact E) (by simpa using G) ⟨rfl,fin⟩) o
theorem Qlm:IxR X Qpe:=by
 intro value slice d s B H x y v u Q I g f h l;obtain⟨z,i,c,rfl,rfl,D,n,q⟩:=h;obtain⟨t,rfl⟩:=g;obtain⟨C,rfl⟩:=f;obtain⟨j,e,r,G,p,o⟩:=GY n;have m:z.cps.toList.length=z.length:=by simp[Str.length]
 rw[m]at e p o;have E:=YH
 exact tail_any (typeIs_str s z t) slot_str_getitem.lookup (getItem_str (c:=c) (by
  have A:decide (i < -(2^63:Int))=false:=decide_eq_false (by lia);have w:decide (i >= 2^63)=false:=decide_eq_false (by lia)
  rw[A,w,LS]) (by rw[e];simpa using r) ⟨.str ⟨#[c]⟩,H,I.tok _,⟨_,rfl⟩,q⟩) l
noncomputable def rIx(K:Nj):R2:=fun x y H Q=>QoY K x y H Q\/Qpq K x y H Q\/Qpe x y H Q
theorem Qj3:IxR X (rIx X.K):=ix_list.or (ix_tup.or Qlm)
theorem Qcf(c:List Value)(n j:Nat)(u:Value):Obj.mapSeq (·.setIfInBounds j u) { cls:=.type "list",data:=.seq c.toArray n }={ cls:=.type "list",data:=.seq (c.set j u).toArray n }:=by
 simp[Obj.mapSeq]
theorem Inv.lst{σ:St}{H:Hp}(I:Inv X d σ H s)(h:H p=some (.lst xs)) :
  ∃(c:List Value) (n:Nat),Vals xs c/\s.heap.get? p=some { cls:=.type "list",data:=.seq c.toArray n }/\xs.length<=sizeLine:=by
 obtain⟨z,c,n,r,e⟩:=I.hok p _ h;exact⟨c,n,r,e,z⟩
theorem Inv.lstUpd{σ:St}{H:Hp}{s:Shared}{p:Addr}{d its':List Value}{n g:Nat}(I:Inv X c σ H s)(h:H p=some (.lst xs))
  (l:s.heap.get? p=some { cls:=.type "list",data:=.seq d.toArray n }) (j:f { cls:=.type "list",data:=.seq d.toArray n }={ cls:=.type "list",data:=.seq its'.toArray g }) (r:Vals i its') (hz:i.length<=sizeLine) (t:Nat) :
  Inv X c σ (upd H p (.lst i)) { s with heap:=s.heap.update p f,toks:=t }:=by
 have e:(s.heap.update p f).get? p=some { cls:=.type "list",data:=.seq its'.toArray g }:=by
  rw[EK f l (by rw[j]<;>rfl),j]
 refine I.write (x:=p) (e:=p) (by rw[h];trivial) (.inl rfl) (fun b u m q=>(N4 _ _ (EZ m)).trans q) ⟨_,e⟩ ?_;exact⟨hz,its',g,r,e⟩
noncomputable def Qj8:V->V->V->Hp->(Hp->Prop)->Prop:=fun o i v H Q=>∃p c k j,o=.ref p/\i=.int k/\H p=some (.lst c)/\ixN c.length k=some j/\Q (upd H p (.lst (c.set j v)))
theorem set_list:Qpz X Qj8:=by
 intro c s A H o i v M N u Q I D E C h;obtain⟨p,B,k,j,rfl,rfl,w,L,q⟩:=h;cases D;obtain⟨t,rfl⟩:=E;obtain⟨d,n,r,g,G⟩:=I.lst w;obtain⟨e,P,y,x⟩:=Qdm L;have l:=r.length;have O:=YH
 have z:Inv X c A (upd H p (.lst (B.set j v))) { s with heap:=s.heap.update p (Obj.mapSeq (·.setIfInBounds j u)) }:=
  I.lstUpd w g (Qcf d n j u) (r.set C j) (by rw[Dl];exact G) s.toks
 by_cases f:0<=k
 ·have m:k.toNat=j:=by
   rw[OS f x]at e;exact N5 e
  exact PySem.W.ki_setAt g f (by lia) (by rw[Nr,<-l];exact x) (by rw[m];exact⟨_,z,q⟩)
 ·have m:(k+(d.toArray.size:Int)).toNat=j:=by
   rw[Og (IC.mp f) y]at e;rw[Nr,<-l];exact N5 e
  exact PySem.W.ki_setBack g (IC.mp f) (by rw[Nr,<-l];exact y) (by lia) (by rw[m];exact⟨_,z,q⟩)
theorem Gw(lo hi:Option Int)(n:Nat):(sliceBounds lo hi none n).1=((HT.sIx n 0 lo:Nat):Int)/\(sliceBounds lo hi none n).2.1=((HT.sIx n n hi:Nat):Int)/\(sliceBounds lo hi none n).2.2=1:=by
 refine⟨?_,?_,rfl⟩
 ·cases lo with
  |none=>simp[sliceBounds,HT.sIx]
  |some i=>
   simp only[sliceBounds,HT.sIx,OU,show(1:Int)>0 by decide,if_true]
   by_cases h:i<0
   ·simp only[h,if_true]<;>lia
   ·simp only[h,if_false]<;>lia
 ·cases hi with
  |none=>simp[sliceBounds,HT.sIx]
  |some i=>
   simp only[sliceBounds,HT.sIx,OU,show(1:Int)>0 by decide,if_true]
   by_cases h:i<0
   ·simp only[h,if_true]<;>omega
   ·simp only[h,if_false]<;>omega
theorem Ur(c:List Value)(lo hi:Option Int):slicePick c.toArray lo hi none=((c.drop (HT.sIx c.length 0 lo)).take (HT.sIx c.length c.length hi-HT.sIx c.length 0 lo)).toArray:=by
 obtain⟨f,e,d⟩:=Gw lo hi c.toArray.size;unfold slicePick;rw[f,e,d];simp only[sliceRange_one,pick_run,Nr]<;>rfl
noncomputable def Qqd(K:Nj):V->Option Int->Option Int->Hp->VK->Prop:=fun x lo d H Q=>∃a c,x=.ref a/\SqL K H a c/\∀p,H p=none->Q (.ref p) (upd H p (.lst (QfU c lo d)))
theorem sl_list:SlR X (Qqd X.K):=by
 intro f s u H x v y w lo e A Q I j t m l h;obtain⟨a,d,rfl,p,q⟩:=h;cases j;obtain⟨n,r,i,g⟩:=I.list p;have c:=r.length;refine⟨"list",_,OB.lookup,i.isList.typeIs,?_⟩;refine wpAny_getItem_list_slice i.isList t m l .none (by simp) ?_ (by rw[Nr]<;>exact Nh (Nt c.symm) g);rw[Ur,<-c];refine⟨.ref s.heap.objs.size,_,I.laid (t':=s.toks) (o:=.lst (QfU d lo e)) (fun b ob q=>Np _ q) (Nw _) ?_,rfl,q _ (I.hok.fresh (Nw _))⟩;exact⟨Nh (YZ d lo e) g,_,0,(r.drop (HT.sIx d.length 0 lo)).take (HT.sIx d.length d.length e-HT.sIx d.length 0 lo),NK _ rfl⟩
noncomputable def Qhz:V->Bool
 |.non=>true
 |.bl _=>true
 |.int _=>true
 |.str _=>true
 |_=>false
noncomputable def eqV:V->V->Bool
 |.non,.non=>true
 |.bl a,.bl b=>a==b
 |.bl a,.int b=>(if a then 1 else 0)==b
 |.int a,.bl b=>a==(if b then 1 else 0)
 |.int a,.int b=>a==b
 |.str a,.str b=>a==b
 |_,_=>false
theorem QlO(e:RelV y u)(c:RelV x v)(g:Qhz y=true)(f:Qhz x=true):SeqAt.EqAt A s u v (eqV y x):=by
 cases y with
 |non=>
  cases e;cases x with
  |non=>cases c;exact SeqAt.EqAt.same _
  |bl b=>cases c;exact SeqAt.EqAt.none_bool b
  |int b=>obtain⟨t,rfl⟩:=c;exact SeqAt.EqAt.none_int b t
  |str b=>obtain⟨t,rfl⟩:=c;exact SeqAt.EqAt.none_str b t
  |_=>exact absurd (show false=true from f) Eu
 |bl a=>
  cases e;cases x with
  |non=>cases c;exact SeqAt.EqAt.bool_none a
  |bl b=>cases c;exact SeqAt.EqAt.bool_bool a b
  |int b=>obtain⟨t,rfl⟩:=c;exact SeqAt.EqAt.bool_int a b t
  |str b=>obtain⟨t,rfl⟩:=c;exact SeqAt.EqAt.bool_str a b t
  |_=>exact absurd (show false=true from f) Eu
 |int a=>
  obtain⟨d,rfl⟩:=e;cases x with
  |non=>cases c;exact SeqAt.EqAt.int_none a d
  |bl b=>cases c;exact SeqAt.EqAt.int_bool a d b
  |int b=>obtain⟨t,rfl⟩:=c;exact SeqAt.EqAt.int_int a d b t
  |str b=>obtain⟨t,rfl⟩:=c;exact Oa a d b t
  |_=>exact absurd (show false=true from f) Eu
 |str a=>
  obtain⟨d,rfl⟩:=e;cases x with
  |non=>cases c;exact SeqAt.EqAt.str_none a d
  |bl b=>cases c;exact SeqAt.EqAt.str_bool a d b
  |int b=>obtain⟨t,rfl⟩:=c;exact Ob a d b t
  |str b=>obtain⟨t,rfl⟩:=c;exact SeqAt.EqAt.str_str a d b t
  |_=>exact absurd (show false=true from f) Eu
 |_=>exact absurd (show false=true from g) Eu
theorem call_len_seq:CallR X (.builtin "len") (fun xs H Q=>∃p d,xs=[.ref p]/\(SqL X.K H p d\/SqT X.K H p d)/\Q (.int d.length) H):=by
 intro j s n H xs o Q I r h;obtain⟨p,d,rfl,e,q⟩:=h;obtain⟨u,rfl,l⟩:=UC r;cases l;have t:=YH
 rcases e with e|e
 ·obtain⟨i,f,g,m⟩:=I.list e;have c:=f.length;exact Calls.call_len_list g.isList (by simp only[Nr]<;>lia) ⟨.int d.length,H,I.tok _,⟨s.toks+1,by rw[Nr,c]⟩,q⟩
 ·obtain⟨i,f,g,m⟩:=I.tuple e;have c:=f.length;exact len_tuple g (by simp only[Nr]<;>omega) ⟨.int d.length,H,I.tok _,⟨s.toks+1,by rw[Nr,c]⟩,q⟩
theorem Gi:CallR X (.builtin "len") (fun xs H Q=>∃z,xs=[.str z]/\z.length<=sizeLine/\Q (.int z.length) H):=by
 intro c s d H xs e Q I r h;obtain⟨z,rfl,f,q⟩:=h;obtain⟨u,rfl,t,rfl⟩:=UC r;have g:=YH;exact len_str (by lia) ⟨.int z.length,H,I.tok _,⟨_,rfl⟩,q⟩
theorem CallR.or(h:CallR X f r)(h':CallR X f i):CallR X f (fun xs H Q=>r xs H Q\/i xs H Q):=by
 intro c s d H xs e Q I g q
 rcases q with q|q
 ·exact h c s d H xs e Q I g q
 ·exact h' c s d H xs e Q I g q
theorem Gv:CallR X (.type "list") (fun xs H Q=>∃p g,xs=[.ref p]/\(SqL X.K H p g\/SqT X.K H p g)/\∀l,H l=none->Q (.ref l) (upd H l (.lst g))):=by
 intro t s C H xs E Q I r h;obtain⟨p,g,rfl,x,q⟩:=h;obtain⟨u,rfl,D⟩:=UC r;cases D
 have fin:∀(c:List Value),Vals g c->g.length<=sizeLine->∀(f:Heap) (m:Nat),(∀b B,s.heap.get? b=some B->f.get? b=some B) ->
   f.get? s.heap.objs.size=some { cls:=.type "list",dict:=none,data:=.seq c.toArray m,slots:=#[] }->EP X t C Q (.ref s.heap.objs.size) { s with heap:=f }:=fun c i j f m v e=>
  ⟨.ref s.heap.objs.size,_,I.laid (t':=s.toks) v (Nw _) (show ObjOk X.prog X.w _ f _ (.lst g)from⟨j,c,m,i,e⟩),rfl,q _ (I.hok.fresh (Nw _))⟩
 rcases x with x|x
 ·obtain⟨c,i,y,j⟩:=I.list x;have d:=i.length;obtain⟨o,z,A,n,hd⟩:=y.isList;exact call_list_seq p (.inl rfl) z A hd (fun f m v e=>fin c i j f m v e) (by simp only[Nr]<;>exact Nh (Nt d.symm) j)
 ·obtain⟨c,i,y,j⟩:=I.tuple x;have d:=i.length;obtain⟨o,z,A,n,hd⟩:=y;exact call_list_seq p (.inr rfl) z A hd (fun f m v e=>fin c i j f m v e) (by simp only[Nr]<;>exact Nh (Nt d.symm) j)
theorem W5:CallR X (.type "tuple") (fun xs H Q=>∃p f,xs=[.ref p]/\((SqL X.K H p f/\∀l,H l=none->Q (.ref l) (upd H l (.tup f)))\/(SqT X.K H p f/\Q (.ref p) H))):=by
 intro c s v H xs A Q I r h;obtain⟨p,f,rfl,h⟩:=h;obtain⟨u,rfl,y⟩:=UC r;cases y
 rcases h with⟨t,q⟩|⟨t,q⟩
 ·obtain⟨d,j,m,n⟩:=I.list t;have g:=j.length;refine call_tuple_list m.isList (fun i z=>?_) (by simp only[Nr]<;>exact Nh (Nt g.symm) n);have I1:Inv X c v H { s with heap:=i }:=I.kept (t':=s.toks) z
  have I2:Inv X c v (upd H i.objs.size (.tup f)) { s with heap:=i.push { cls:=.type "tuple",data:=.seq d.toArray } }:=
   I1.laid (t':=s.toks) (fun b o e=>Np _ e) (Nw _) (show ObjOk X.prog X.w _ _ _ (.tup f)from⟨n,d,j,Yak _ _⟩)
  exact⟨.ref i.objs.size,_,I2,rfl,q _ (I1.hok.fresh (Nw _))⟩
 ·obtain⟨d,j,m,n⟩:=I.tuple t;exact call_tuple_same m ⟨.ref p,H,I,rfl,q⟩
def tyV(K:Nj)(T:String)(x:V)(H:Hp):Prop:=match x with
 |.str _=>T="str"
 |.int _=>T="int"
 | .ref p=>(T="list"/\∃d,SqL K H p d)\/(T="tuple"/\∃o,K.lookup p=some o/\o.cls=.type "tuple"/\o.dict=none) \/
   (T="dict"/\((∃c,H p=some (.dK c))\/∃c,H p=some (.dT c)))\/(T="set"/\∃S n,H p=some (.set S n))
 |_=>False
theorem QcH{σ:St}{H:Hp}{x:V}(I:Inv X j σ H s)(r:RelV x v)(ty:tyV X.K T x H) :
  s.TypeIs v T/\∀a,v=.ref a->∃ob,s.heap.get? a=some ob/\ob.dict=none:=by
 cases x with
 |str z=>
  obtain⟨t,rfl⟩:=r;cases(show T="str"from ty);exact⟨typeIs_str s z t,fun _ e=>nomatch e⟩
 |int i=>
  obtain⟨t,rfl⟩:=r;cases(show T="int"from ty);exact⟨typeIs_int s i t,fun _ e=>nomatch e⟩
 | ref p=>
  cases r
  rcases ty with⟨rfl,u,m⟩|⟨rfl,o,d,q,hd⟩|⟨rfl,d⟩|⟨rfl,S,n,d⟩
  ·obtain⟨l,_,h,_⟩:=I.list m;refine⟨h.isList.typeIs,fun a e=>?_⟩;cases e;obtain⟨o,n,e,c,hd,_⟩:=h;exact⟨o,e,hd⟩
  ·refine⟨⟨o,I.kIn p o d,q⟩,fun a e=>?_⟩;cases e;exact⟨o,I.kIn _ o d,hd⟩
  ·have z:∃o,s.heap.get? p=some o/\o.ExactDict:=by
    rcases d with⟨f,d⟩|⟨f,d⟩
    ·obtain⟨_,_,_,_,o,_,_,e,ex,_⟩:=I.hok p _ d;exact⟨o,e,ex⟩
    ·obtain⟨_,_,_,_,o,_,_,e,ex,_⟩:=I.hok p _ d;exact⟨o,e,ex⟩
   obtain⟨o,e,ex⟩:=z;refine⟨⟨o,e,ex.1⟩,fun a g=>?_⟩;cases g;exact⟨o,e,ex.2.1⟩
  ·obtain⟨o,_,_,_,e,ex,_⟩:=I.hok p _ d;refine⟨⟨o,e,ex.1⟩,fun a g=>?_⟩;cases g;exact⟨o,e,ex.2.1⟩
 |_=>exact False.elim ty
noncomputable def QqX(K:Nj)(T:String)(r:V->List V->Hp->VK->Prop)(e:TE):TE:=fun d H Q=>e d H fun x c=>tyV K T x c/\r x [] c Q
noncomputable def tBM(K:Nj)(T:String)(r:V->List V->Hp->VK->Prop)(f:TE)(t:TA):TE:=fun c H Q=>f c H fun x d=>tyV K T x d/\t c d fun e g=>r x e g Q
variable{o e:Expr}{es:List Expr}{to:TE}{t:TA}{name:Str}{apos cpos:Pos}{T id:String}{r:V->List V->Hp->VK->Prop}
theorem QkP(p:PlainAttrs T)(slot:Slot T name id)(g:typeOf (.builtin id)=pure (.type "method_descriptor"))(u:MtR X id r)(q:PE X o to)
  (f:attributeBase o name X.env (eval o X.env)=eval o X.env:=by rfl) (d:(apos.endLine==cpos.line)=true:=by rfl):PE X (.Call (.Attribute o name apos) [] [] cpos) (QqX X.K T r to):=by
 intro c s i H Q I h;refine IQ f d (thn (q c s i H _ I h) fun v m l=>?_);obtain⟨x,z,I1,j,ty,n⟩:=l;obtain⟨y,w⟩:=QcH I1 j ty;exact⟨T,id,p,slot,g,y,w,FL rfl (L0 (u c m i z x [] v [] Q I1 j .nil n))⟩
theorem Qn8(C:PlainAttrs T)(slot:Slot T name id)(l:typeOf (.builtin id)=pure (.type "method_descriptor"))(G:MtR X id r)(E:PE X o to)(L:PA X (e::es) t)
  (g:attributeBase o name X.env (eval o X.env)=eval o X.env:=by rfl)
  (i:((backTo cpos (starEach (e::es) X.env)).all (fun x=>!x.1)&&(backToKw cpos (keywordEach [] X.env)).all (fun x=>x.1.isSome)
   && decide ((e::es).length+([]:List Keyword).length+(if([]:List Keyword).isEmpty then 0 else 1)<30))=true:=by rfl)
  (f:(apos.endLine==cpos.line)=true:=by rfl) (D:starEach (e::es) X.env=(false,eval e X.env)::starEach es X.env:=by rfl) (d:(backTo cpos (starEach es X.env)).any (·.1)=false:=by rfl) :
  PE X (.Call (.Attribute o name apos) (e::es) [] cpos) (tBM X.K T r to t):=by
 intro c s j H Q I h;refine wpAny_Call_method_late g i f rfl (thn (E c s j H _ I h) fun v y p=>?_);obtain⟨x,P,I1,m,ty,B⟩:=p;obtain⟨N,M⟩:=QcH I1 m ty;refine⟨T,id,C,slot,l,N,M,?_⟩;have n:=L cpos c y j P _ I1 B;rw[D]at n ⊢;refine FL (by show(false ||(backTo cpos (starEach es X.env)).any (·.1))=false;rw[d]<;>rfl) (Calls.evalArgs_plain ?_);exact thn n fun u w ⟨q,O,I2,z,A⟩=>G c w j O x q v u Q I2 m z A
end
def MtM(X:Cx)(id:String)(r:V->List V->Hp->VK->Prop):Prop:=
 ∀(a:List (Addr×Obj)) (s:Shared) (b:St) (H:Hp) (x:V) (c:List V) (v:Value) (d:List Value) (Q:VK),Inv X a b H s->RelV x v->Vals c d->r x c H Q ->
  wpAny (model X.prog X.w) X.A (call (.builtin id) (v::d)) (EP X a b Q) X.xe s
theorem Vals.one:∀{x:V} {us:List Value},Vals [x] us->∃u,us=[u]/\RelV x u
 |_,_,.cons r .nil=>⟨_,rfl,r⟩
theorem Vals.zero:∀{us:List Value},Vals [] us->us=[]
 |_,.nil=>rfl
theorem Vals.dropLast(h:Vals xs us):Vals xs.dropLast us.dropLast:=by
 induction h with
 |nil=>exact .nil
 |cons r t a=>
  cases t with
  |nil=>exact .nil
  |cons q b=>exact .cons r a
theorem Vals.eraseIdx:∀{xs:List V} {us:List Value} (i:Nat),Vals xs us->Vals (xs.eraseIdx i) (us.eraseIdx i)
 |_,_,_,.nil=>.nil
 |_,_,0,.cons _ t=>t
 |_,_,i+1,.cons r t=>.cons r (Vals.eraseIdx i t)
theorem QbK(l:List d):l.eraseIdx (l.length-1)=l.dropLast:=by
 induction l with
 |nil=>rfl
 | cons a r c=>
  cases r with
  |nil=>rfl
  | cons b r=>
   have e:(a::b::r).length-1=((b::r).length-1)+1:=by
    have g:(a::b::r).length=r.length+2:=rfl;have f:(b::r).length=r.length+1:=rfl;exact rfl
   rw[e,List.eraseIdx_cons_succ,c]
   all_goals rfl
section
variable{X:Cx}{pins:List (Addr×Obj)}{σ:St}{H:Hp}{s:Shared}{l b:Addr}{xs ys zs:List V}
theorem Inv.lset{a its':List Value}(I:Inv X pins σ H s)(h:H l=some (.lst xs))
  (e:s.heap.get? l=some { cls:=.type "list",data:=.seq a.toArray n }) (d:f a.toArray=its'.toArray) (c:Vals ys its') (hz:ys.length<=sizeLine) :
  Inv X pins σ (upd H l (.lst ys)) { s with heap:=s.heap.update l (Obj.mapSeq f),toks:=t' }:=by
 have q:=OV e f;rw[d]at q;refine I.write (x:=l) (e:=l) (by rw[h];exact trivial) (.inl rfl) (fun i u g hu=>(N4 s.heap (Obj.mapSeq f) (EZ g)).trans hu) ⟨_,q⟩ ?_;exact⟨hz,its',_,c,q⟩
theorem Inv.lnew(I:Inv X pins σ H s)(c:Vals ys a)(hz:ys.length<=sizeLine) :
  Inv X pins σ (upd H s.heap.objs.size (.lst ys)) { s with heap:=s.heap.push { cls:=.type "list",data:=.seq a.toArray },toks:=t' }:=
 I.laid (fun _ _ q=>Np _ q) (Nw _) ⟨hz,a,0,c,NK _ rfl⟩
theorem Inv.fresh(I:Inv X pins σ H s):H s.heap.objs.size=none:=I.hok.fresh (Nw _)
theorem Inv.lstM(I:Inv X pins σ H s)(c:H l=some (.lst xs)):xs.length<=sizeLine/\∃(a:List Value) (n:Nat),Vals xs a/\xs.length=a.length/\s.heap.get? l=some { cls:=.type "list",data:=.seq a.toArray n }:=by
 obtain⟨z,a,n,r,e⟩:=I.hok l _ c;exact⟨z,a,n,r,r.length,e⟩
theorem Qbg(h:n<=sizeLine):Builtin.List.listTooLong n=false:=by
 unfold Builtin.List.listTooLong;exact decide_eq_false (NN.mpr h)
end
section
variable{X:Cx}
noncomputable def Qja:V->List V->Hp->VK->Prop:=fun x b H Q=>∃l a y,x=.ref l/\b=[y]/\H l=some (.lst a)/\a.length<sizeLine/\Q .non (upd H l (.lst (a++[y])))
theorem Qeb:MtM X "list.append" Qja:=by
 intro b s o H x t v w Q I g i h;obtain⟨l,p,y,rfl,rfl,f,d,q⟩:=h;cases g;obtain⟨u,rfl,j⟩:=i.one;obtain⟨z,a,n,r,m,e⟩:=I.lstM f;refine FD FU ⟨_,e,rfl⟩ L3 (LJ _ _) (OC l a.toArray n u (by rw[Nr];exact Nn (Nf (Nt m.symm) d))) ⟨e,?_⟩;refine⟨.non,_,I.lset (its':=a++[u]) f e (by simp) (r.append (.cons j .nil)) ?_,rfl,q⟩;rw[NC,E2];exact d
noncomputable def QiT:V->List V->Hp->VK->Prop:=fun x d H Q=>∃l b c a,x=.ref l/\d=[.ref b]/\H l=some (.lst c)/\H b=some (.lst a)/\c.length+a.length<=sizeLine/\Q .non (upd H l (.lst (c++a)))
theorem QeA:MtM X "list.extend" QiT:=by
 intro g s E H x N v O Q I m o h;obtain⟨l,b,M,G,rfl,rfl,j,C,y,q⟩:=h;cases m;obtain⟨u,rfl,p⟩:=o.one;cases p;obtain⟨z,c,n,r,B,e⟩:=I.lstM j;obtain⟨L,a,w,t,A,D⟩:=I.lstM C;have f:c.toArray.size+a.toArray.size<=sizeLine:=by rw[Nr,Nr];lia
 have d:¬(!c.toArray.isEmpty&&Builtin.List.listTooLong (c.toArray.size+a.toArray.size))=true:=by
  rw[Qbg f,D0];exact Eu
 refine FD Dj ⟨_,e,rfl⟩ L4 (LK _ _)
  (AutoSeq1.list_extend_list_list_0 l c.toArray n b a.toArray w d (by rw[Nr];exact Nh (Nt B.symm) z) (Nh f (Nm _ _))) ⟨e,D,?_⟩
 refine⟨.non,_,I.lset (its':=c++a) j e (by simp) (r.append t) ?_,rfl,q⟩;rw[NC];exact y
noncomputable def Qp9:V->List V->Hp->VK->Prop:=fun x b H Q=>∃l a y,x=.ref l/\b=[]/\H l=some (.lst a)/\a[a.length-1]?=some y/\Q y (upd H l (.lst a.dropLast))
theorem Qls:MtM X "list.pop" Qp9:=by
 intro d s t H x A v B Q I j m h;obtain⟨l,w,y,rfl,rfl,i,p,q⟩:=h;cases j;have c:=m.zero;subst c;obtain⟨z,a,n,r,g,e⟩:=I.lstM i;obtain⟨u,hu,o⟩:=r.get p
 have b:a.toArray[a.toArray.size-1]?=some u:=by
  show a.toArray[a.length-1]?=some u;rw[<-N0,<-g];exact hu
 refine FD Oh ⟨_,e,rfl⟩ F.entry_list_pop (F.args_list_pop_1 _) (MeetsSeq.list_pop_last l a.toArray n u b (by rw[Nr];exact Nh (Nt g.symm) z)) ⟨e,?_⟩;refine⟨y,_,I.lset (its':=a.dropLast) i e ?_ r.dropLast ?_,o,q⟩
 ·show a.toArray.eraseIdxIfInBounds (a.toArray.size-1)=a.dropLast.toArray;rw[Nr,List.eraseIdxIfInBounds_toArray,QbK]
 ·rw[List.length_dropLast];exact Nh (NZ _ _) z
noncomputable def Qqt:R2:=fun x y H Q=>∃l b c a,x=.ref l/\y=.ref b/\H l=some (.lst c)/\H b=some (.lst a)/\c.length+a.length<=sizeLine/\∀p,H p=none->Q (.ref p) (upd H p (.lst (c++a)))
theorem QjV:OpR X (binaryOp .Add) Qqt:=by
 intro d s A H x y v u Q I g f h;obtain⟨l,b,D,B,rfl,rfl,o,p,j,q⟩:=h;cases g;cases f;obtain⟨z,c,n,r,L,e⟩:=I.lstM o;obtain⟨C,a,G,i,m,w⟩:=I.lstM p;refine PySem.P.add_list e w ?_ (by rw[Nr,Nr];omega);have t:c.toArray++a.toArray=(c++a).toArray:=by simp
 rw[t];exact⟨.ref _,_,I.lnew (t':=s.toks) (r.append i) (by rw[NC];exact j),rfl,q _ I.fresh⟩
end
end L2
namespace Att
open PySem PySem.W PySem.Calls PyProof.Rows
theorem YJ:∀(ns:List Int) (vs:List Value),WellAll P h vs (ns.map WData.int)->IntsAre vs ns:=by
 intro ns
 induction ns with
 |nil=>
  intro vs w;rw[IG]at w;cases w;exact .nil
 | cons n ns c=>
  intro vs w;rw[NA]at w;cases w with
  |cons a b=>
   cases a;exact .cons _ _ (c _ b)
theorem Qcs{l:OpenLaw}{n:Nat}(u:l.most=some n){h:Heap} 
  (b:l.row.toRowW.claim.pre args=true) (i:WellAll P h vals args) :
  ∃a vs ns,vals=[Value.ref a]/\args=[WData.list (ns.map WData.int)]/\h.get? a=some { cls:=.type "list",data:=.seq vs.toArray }/\IntsAre vs ns/\ns.length<=n:=by
 have j:WShape.hasAll [] args [.list .int]=true:=(pre_splitW b).1;have m:l.pre.holds [] { args:=args }=true:=(pre_splitW b).2;obtain⟨d,r,rfl,x,w⟩:=hasAllW_cons j;obtain rfl:=hasAllW_nil w;obtain⟨y,rfl,v⟩:=hasW_list x;obtain⟨ns,rfl⟩:=items_int v
 have c:ns.length<=n:=by
  unfold OpenLaw.pre at m
  have g:(WTm.not (.lt (.lit (.int (n:Int))) (.len (.arg 0)))).holds [] { args:=[.list (ns.map .int)] }=true:=by
   have g:=(holds_andW m).1;rw[u]at g;exact g
  have f:=condW_of g (w_not (w_lt w_lit (w_len_list (w_arg rfl))));rw[NG]at f;refine OW fun q=>?_;have s:(n:Int)<((ns.length:Nat):Int):=by omega
  first
   |(rw[decide_eq_true s]at f;exact absurd f (by decide))
   |(simp at f;omega)
 cases i with
 |cons p o=>
  cases o;cases p with
  |list t e=>exact⟨_,_,ns,rfl,rfl,t,YJ ns _ e,c⟩
theorem Qem(l:OpenLaw)(args:List WData):l.row.toRowW.claim.post args (.bool true) args=true:=
 postW_of (r:=l.row.toRowW) (X:=(true==true))
  (show WShape.has [] (.bool true) .bool=true by first|rfl|decide|simp[WShape.has,WShape.arms,WShape.armsAll])
  (show(WTm.eq .res (.lit (.bool true))).value [] { args:=args,res:=some (.bool true),after:=args }=some (.bool (true==true))from w_eq_bool (w_res rfl) w_lit) rfl
theorem attach_call{l:OpenLaw}{n:Nat}{q:Program}{e:List Str}{C:(Str->Option Value)->Heap->Prop}{B:World->Heap->Prop}{d:DefRec}
  (I:l.most=some n) (y:d.params.defaults=[])
  (call:∀(w:World) (c b:Shared) (t u:Str->Option Value) (p:Addr) (o:Obj) (pm cd h:Value) (a:Addr) (vs:List Value) (ns:List Int),
   Ground q e [] C w c t u b.heap->B w b.heap ->
   b.heap.get? p=some o->o.data=.func (docDef d.name d.params d.body d.scope pm cd h)->b.heap.CodeRec cd d.name->t d.name=some (.ref p) ->
   b.heap.get? a=some { cls:=.type "list",data:=.seq vs.toArray }->IntsAre vs ns->ns.length<=n->b.gens=#[] ->
   codeAny (model l.prog w) callerA (.call (.ref p) ⟨[.ref a],[]⟩) (fun r s=>r=.ok (.ret (.bool true))/\OldK b.heap s.heap/\s.os=b.os/\AllBare s.gens) b) :
  WalkO q e C B l.row.toRowW d [] (fun f vs=>Yaa f vs):=by
 intro w c b t u G Y p o pm cd h S kV H hd z hD x N args vals as i A D v M;obtain rfl:S=.none:=Dflts.none hD y;obtain rfl:kV=.none:=Dflts.noKw hD;obtain⟨a,vs,ns,rfl,rfl,j,g,m⟩:=Qcs I i v;refine enter_call (Fv (call w c b t u p o pm cd h a vs ns G Y H (fd_plain hd) z x j g m N) fun r s E=>?_);obtain⟨rfl,Q,P,O⟩:=E;exact⟨.inl ⟨.bool true,.bool true,[],rfl,fun _=>rfl,.bool true,Qem l _,fun _=>⟨List.Pairwise.nil,fun _ L=>(nomatch L)⟩⟩,Q,P,O⟩
end Att
namespace L2
theorem Gz:∀{vs:List Value} {ns:List Int},IntsAre vs ns->Vals (ns.map V.int) vs
 |_,_,.nil=>.nil
 |_,_,.cons n t h=>.cons ⟨t,rfl⟩ (Gz h)
def QmK(H:Hp):Prop:=∀b,H b=none\/∃o a,H b=some (.frz o (.lst a))
theorem Qe9{P:Program}{w:World}{K:Nj}{CX:CXT}{k:Nat}{fa a:Addr}{x:Str}{sp:Sp}{c:Shared}{ns:List Int}
  (KX:K.In c.heap) (I:c.heap.Ns mainGlobals Q) (g:c.heap.Ns builtinsNs mb) (aa:∀x:Str,x≠"__name__"->mb x=bootBuiltins x) (L:c.heap.NoLimit) (hg:c.gens=#[])
  (S:c.heap.get? a=some { cls:=.type "list",data:=.seq vs.toArray }) (hi:IntsAre vs ns) (hl:ns.length<=sizeLine) (hr:Room k callerA)
  (F:∀base:Heap,K.In base->base.Ns mainGlobals Q->FnOk P w K Q base CX k fa fd [x] sp) (p:∀(s:Shared) (u:Value),BindsTo s fd ⟨[u],[]⟩ [(x,u)])
  (Z:∀H:Hp,QmK H->SqL K H a (ns.map V.int)->sp [.ref a] H (fun v _=>v=.bl true) fun _ _ _=>False)
  (ab:∀H e i,CX [] H c (fun _ _ _=>False) e i->False) :
  codeAny (model P w) callerA (.call (.ref fa) ⟨[.ref a],[]⟩) (fun r i=>r=.ok (.ret (.bool true))/\OldK c.heap i.heap/\i.os=c.os/\AllBare i.gens) c:=by
 have rv:=Gz hi;have D:=hi.length
 -- from an abstract ae in U nothing ah B j af be A
 have core:∀H:Hp,QmK H->SqL K H a (ns.map V.int)->HOk P w H c.heap->(∀b,H b≠none->b=a)->(H a≠none->K.lookup a=none) ->
   codeAny (model P w) callerA (.call (.ref fa) ⟨[.ref a],[]⟩) (fun r i=>r=.ok (.ret (.bool true))/\OldK c.heap i.heap/\i.os=c.os/\AllBare i.gens) c:=by
  intro H hO hS G hA hK;have f:∀{b:Addr} {o:Obj},c.heap.get? b=some o->H b=none->(QfJ c.heap H).get? b=some o:=fun e n=>QfK e n
  have Y:∀{b:Addr} {o:Obj} {N:Array DictEntry} {O:Nat},c.heap.get? b=some o->o.data=.dict N O->H b=none:=fun {b o N O} e d=>by
   cases q:H b with
   |none=>rfl
   |some u=>
    have e':b=a:=hA b (by rw[q];simp);subst e';rw[S]at e;cases e;have d':Data.seq vs.toArray _=Data.dict N O:=d;cases d'
  have l:∀{b:Addr} {m:Str->Option Value},c.heap.Ns b m->(QfJ c.heap H).Ns b m:=fun {b m} ⟨o,N,O,e,d,r⟩=>⟨o,N,O,f e (Y e d),d,r⟩
  have M:K.In (QfJ c.heap H):=fun b o e=>f (KX b o e) (by
   cases q:H b with
   |none=>rfl
   |some u=>
    have e':b=a:=hA b (by rw[q];simp);subst e'
    rw[hK (by rw[q];simp)]at e;cases e)
  have hM:Mod K Q (QfJ c.heap H):=⟨M,l I,⟨mb,l g,aa⟩,let⟨mc,h1,h2⟩:=L;⟨mc,l h1,h2⟩⟩
  have e0:Env0 P w K Q (QfJ c.heap H) callerA [] c H:=⟨rfl,hM,fun b o e=>QhJ e,Nt (QdA _ _),trivial,fun b g=>absurd (show b∈([]:List Addr)from g) (by simp),G,.of_eq hg⟩
  refine Fv ((F _ M (l I)).run callerA [] c H ⟨[.ref a],[]⟩ [.ref a] [.ref a] _ _ hr e0 (p c (.ref a)) (.cons rfl .nil) (Z H hO hS)) fun r i h=>?_;cases r with
  |error e=>exact(ab H e i h).elim
  | ok fl=>
   cases fl with
   |next=>exact False.elim h
   |brk=>exact False.elim h
   |cont=>exact False.elim h
   | ret u=>
    obtain⟨v,H',os,bare,un,E,r',q⟩:=h;have q':v=.bl true:=q;subst q';obtain rfl:u=Value.bool true:=r';refine⟨rfl,OldK.of_keep fun b o e=>?_,os,bare⟩;cases q:H b with
    |none=>exact un.keep b o e q (by intro z;exact absurd (show b∈([]:List Addr)from z) (by simp)) (by simp)
    |some u=>
     rcases hO b with z|⟨ob,xs,z⟩
     ·rw[q]at z;cases z
     ·have z2:=un.frzs b ob _ z;obtain⟨e1,_⟩:=G b _ z;obtain⟨e2,_⟩:=E b _ z2;rw[e]at e1;cases e1;exact e2
 cases hk:K.lookup a with
 |some o=>
  -- B j is one of B t own C
  have e:=KX a o hk;rw[S]at e;cases e;refine core (fun _=>none) (fun _=>.inl rfl) (.inr ⟨_,vs.toArray,_,hk,rfl,rfl,rfl,by rw[Nr,D];exact hl,by simpa using rv⟩) (fun b u z=>by have y:(none:Option HO)=some u:=z;cases y) (fun b z=>absurd rfl z) fun z=>absurd rfl z
 | none=>
  refine core (fun b=>if b=a then some (.frz { cls:=.type "list",data:=.seq vs.toArray } (.lst (ns.map V.int)))else none) (fun b=>?_) (.inl (.inr ⟨{ cls:=.type "list",data:=.seq vs.toArray },if_pos rfl⟩)) (fun b u z=>?_) (fun b z=>?_) fun _=>hk
  ·by_cases g:b=a
   ·exact .inr ⟨_,_,if_pos g⟩
   ·exact .inl (if_neg g)
  ·by_cases g:b=a
   ·have y:=(if_pos g).symm.trans z;cases y;subst g;exact⟨S,by rw[NG];exact hl,vs,_,rv,S⟩
   ·have y:=(if_neg g).symm.trans z;cases y
  ·by_cases g:b=a
   ·exact g
   ·exact absurd (if_neg g) z
noncomputable abbrev KOf{K:Nj}(_:K.In h):Nj:=K
theorem QhU{l:PySem.W.OpenLaw}{n k:Nat}{q:Program}{i:List Str}{Z:(Str->Option Value)->Heap->Prop}{I:World->Heap->Prop}{d:DefRec}{K:Params->Nj}{CX:World->CXT}{sp:World->Sp}{x:Str}
  (M:l.most=some n) (A:n<=sizeLine) (C:d.params.defaults=[]) (hr:Room k callerA)
  (Q:∀(w:World) (h:Heap),I w h->(K w.params).In h)
  (F:∀(w:World) (m:Str->Option Value) (t:Addr) (h:Heap),(K w.params).In h->h.Ns mainGlobals m->m d.name=some (.ref t) ->
   ∃fd:FuncData,(∀(s:Shared) (u:Value),BindsTo s fd ⟨[u],[]⟩ [(x,u)]) /\
    ∀base:Heap,(K w.params).In base->base.Ns mainGlobals m->FnOk l.prog w (K w.params) m base (CX w) k t fd [x] (sp w))
  (z:∀(w:World) (H:Hp) (a:Addr) (ns:List Int),ns.length<=n->QmK H->SqL (K w.params) H a (ns.map V.int)->sp w [.ref a] H (fun v _=>v=.bl true) fun _ _ _=>False)
  (D:∀(w:World) (H:Hp) (s:Shared) (e:Value) (y:Shared),CX w [] H s (fun _ _ _=>False) e y->False) :
  Yal q i Z I l.row.toRowW d [] (fun f vs=>Yaa f vs):=by
 refine Att.attach_call M C fun w E p m mb t o pm cd U a vs ns G Y ho hd O B r j c N=>?_;have L:=Q w _ Y;obtain⟨fd,P,hF⟩:=F w m t _ L G.T.g B;exact Qe9 L G.T.g G.T.b G.T.builtins G.T.nolimit N r j (Nh c A) hr hF P (fun H S hS=>z w H a ns c S hS) fun H e y=>D w H p e y
noncomputable def XH(s:Stmt):Arguments:=match s with
 |.FunctionDef _ a _ _ _ _ _ _ _ _=>a
 |_=>{ posonlyargs:=[],args:=[],vararg:=none,kwonlyargs:=[],kw_defaults:=[],kwarg:=none,defaults:=[] }
noncomputable def J8(s:Stmt):List Stmt:=match s with
 |.FunctionDef _ _ b _ _ _ _ _ _ _=>b
 |_=>[]
noncomputable def Qf(s:Stmt):Scope:=match s with
 |.FunctionDef _ _ _ _ _ _ a _ _ _=>a
 |_=>{ kind:=.function,names:=[],isGenerator:=false,isCoroutine:=false }
noncomputable abbrev CX0:CXT:=fun _ _ _ _ _ _=>False
noncomputable abbrev E0:XK:=fun _ _ _=>False
theorem Qks:Wy CX0 X E0:=fun _ _ _ _ _ _ _ h=>h.elim
structure Fun(K:Nj)(x qual:Str)(st:Stmt)(f:Addr)(fd:FuncData):Prop where
 ex:∃(oc:Value) (od:Option Addr) (kV doc pm:Value) (an:Option Addr) (cdv ct:Value) (osl:Array (Option Value)),
  fd=Di x qual (XH st) (J8 st) (Qf st) .none kV doc pm an cdv ct/\K.lookup f=some ⟨oc,od,.func fd,osl⟩/\F8 K cdv qual=true
 kp:Dg K (.ref f)=true
section
variable{P:Program}{w:World}{K:Nj}{mg:Str->Option Value}{base:Heap}
theorem Fun.ok{x b:Str}{st:Stmt}{f:Addr}{fd:FuncData}{N ps:List Str}{k:Nat}{sp:Sp}(F:Fun K x b st f fd)(S:FnScope N ps (Qf st))(len:∀vs H Q E,sp vs H Q E->vs.length=ps.length)
  (d:∀(c:Value) (A:Around) (a:List Env) (s:Shared) (H:Hp) (vs:List V) (Q:VK) (E:XK),Room k (A.deeper (envOfC b (Qf st) s.heap.objs.size f c))->sp vs H Q E ->
   ∃t,PSs (QgR CX0 P w K mg base N b (Qf st) f c A a s H E).nox (J8 st) t/\t { nx:=fun _ l=>Q .non l,rt:=Q } (start N vs) H):FnOk P w K mg base CX0 (k+1) f fd ps sp:=by
 obtain⟨n,m,kV,j,pm,o,c,ct,i,rfl,lk,g⟩:=F.ex;refine Qnh lk g S len fun A a s H vs Q E hr e=>?_;obtain⟨t,h,q⟩:=d c A a s H vs Q E hr e;exact⟨t,h.nox,q⟩
theorem Fun.binds{x a:Str}{st:Stmt}{f:Addr}{fd:FuncData}{ps:List Str}(F:Fun K x a st f fd)
  (h:∀(kV b pm:Value) (d:Option Addr) (c ct:Value) (us:List Value),us.length=ps.length->bindArgs (Di x a (XH st) (J8 st) (Qf st) .none kV b pm d c ct) ⟨us,[]⟩=pure (ps.zip us)):Binds K fd ps []:=by
 obtain⟨j,i,kV,b,pm,d,c,ct,e,rfl,lk,g⟩:=F.ex;exact .all (h kV b pm d c ct)
theorem Qgn{st:Stmt}{f:Addr}{g:Value}{kV d pm b ct:Value}(l:K.lookup f=some ⟨g,i,.func (Di x a (XH st) (J8 st) (Qf st) .none kV d pm h b ct),e⟩)
  (c:F8 K b a=true) (k:Dg K (.ref f)=true):Fun K x a st f (Di x a (XH st) (J8 st) (Qf st) .none kV d pm h b ct):=⟨⟨g,i,kV,d,pm,h,b,ct,e,rfl,l,c⟩,k⟩
end
theorem Qju{A B:Prop}(h:B):if false=true then A else B:=by
 rw[if_neg Eu];exact h
theorem Qjt{A B:Prop}(h:A):if true=true then A else B:=by
 rw[if_pos rfl];exact h
section
variable{κ:Type}[DecidableEq κ]
noncomputable def Qa0(kvs:List (κ×V))(k:κ):Option V:=(kvs.find? fun a=>decide (a.1=k)).map (·.2)
noncomputable def GR(kvs:List (κ×V))(k:κ)(v:V):List (κ×V):=
 if(kvs.any fun a=>decide (a.1=k))=true then kvs.map (fun a=>if a.1=k then(a.1,v)else a)else kvs++[(k,v)]
theorem Qfg{k:κ}(e:p.1=k):Qa0 (p::r) k=some p.2:=by simp[Qa0,EV,e]
theorem Qe1{k:κ}(e:¬p.1=k):Qa0 (p::r) k=Qa0 r k:=by simp[Qa0,EV,e]
theorem YU(kvs:List (κ×V))(k:κ)(v:V):(GR kvs k v).length<=kvs.length+1:=by
 unfold GR;split
 ·rw[NG];exact Nm _ _
 ·rw[NC,NP,Dm];lia
theorem RelO.getD(r:RelO o u)(a:RelV d d'):RelV (o.getD d) (u.getD d'):=by
 cases o with
 |none=>cases u with
  |none=>exact a
  |some _=>exact(show False from r).elim
 |some _=>cases u with
  |none=>exact(show False from r).elim
  |some _=>exact r
theorem KV.val(r:KV kvs vs)(k:κ):RelO (Qa0 kvs k) (valueAt vs k):=by
 unfold KV at r
 induction r with
 |nil=>exact True.intro
 | @cons p q ps a h t f=>
  obtain⟨d,g⟩:=h
  by_cases e:p.1=k
  ·have c:q.1=k:=d.symm.trans e;have b:valueAt (q::a) k=some q.2:=by simp[valueAt,EV,c]
   rw[Qfg e,b];exact g
  ·have c:¬q.1=k:=fun z=>e (d.trans z);have b:valueAt (q::a) k=valueAt a k:=by simp[valueAt,EV,c]
   rw[Qe1 e,b];exact f
theorem KV.any(r:KV kvs vs)(k:κ):(kvs.any fun a=>decide (a.1=k))=vs.any fun a=>decide (a.1=k):=by
 unfold KV at r
 induction r with
 |nil=>rfl
 |cons h t b=>rw[De,De,b,h.1]
theorem KV.repl(r:KV kvs vs)(k:κ)(c:RelV y u) :
  KV (kvs.map fun a=>if a.1=k then(a.1,y)else a) (vs.map fun a=>if a.1=k then(a.1,u)else a):=by
 unfold KV at r ⊢
 induction r with
 |nil=>exact .nil
 |@cons p q ps g h t d=>
  rw[NA,NA];refine .cons ?_ d;obtain⟨b,f⟩:=h
  by_cases e:p.1=k
  ·rw[if_pos e,if_pos (b.symm.trans e)];exact⟨b,c⟩
  ·rw[if_neg e,if_neg (fun z=>e (b.trans z))];exact⟨b,f⟩
theorem KV.put(r:KV kvs vs)(k:κ)(a:RelV y u):KV (GR kvs k y) (stored vs k u):=by
 unfold GR stored;rw[r.any k]
 by_cases e:(vs.any fun b=>decide (b.1=k))=true
 ·rw[if_pos e,if_pos e];exact r.repl k a
 ·rw[if_neg e,if_neg e];exact Paired.snoc r ⟨rfl,a⟩
theorem KV.keys{kvs:List (κ×V)}(r:KV kvs vs):kvs.map (·.1)=vs.map (·.1):=by
 unfold KV at r
 induction r with
 |nil=>rfl
 |cons h t a=>rw[NA,NA,a,h.1]
theorem KV.length(r:KV kvs vs):kvs.length=vs.length:=Ec r
end
theorem QfT(r:RelV (kV k) u):(Zd P w).is k u=true:=by
 cases k with
 |inl i=>obtain⟨t,e⟩:=(show∃t,u=Value.int i t from r);subst e;exact G8 P w i t
 |inr x=>obtain⟨t,e⟩:=(show∃t,u=Value.str x t from r);subst e;exact G7 P w x t
section
variable{P:Program}{w:World}{H:Hp}{h:Heap}{a:Addr}
theorem Qne(ok:HOk P w H h)(e:Rd H a u):ObjOk P w H h a u:=e.ok ok
theorem QcF(ok:HOk P w H h)(e:Rd H a (.dK kvs)):kvs.length<=sizeLine/\(a==sysModules)=false/\∃vs,KV kvs vs/\h.DictOf (Zd P w) a vs:=
 show ObjOk P w H h a (.dK kvs)from Qne ok e
theorem Qkn(ok:HOk P w H h)(e:H a=some (.dK kvs)):kvs.length<=sizeLine/\(a==sysModules)=false/\∃vs,KV kvs vs/\h.DictOf (Zd P w) a vs:=QcF ok (.inl e)
end
def DGet(H:Hp)(a:Addr)(y:V)(r:Option V):Prop:=∃b k,Rd H a (.dK b)/\y=kV k/\r=Qa0 b k
def DPut(H:Hp)(a:Addr)(y v:V)(c:Hp):Prop:=∃b k,H a=some (.dK b)/\y=kV k/\b.length<sizeLine/\c=upd H a (.dK (GR b k v))
theorem DGet.k{k:Key}(e:H a=some (.dK kvs)):DGet H a (kV k) (Qa0 kvs k):=⟨kvs,k,.inl e,rfl,rfl⟩
theorem DPut.k{k:Key}{v:V}(e:H a=some (.dK kvs))(b:kvs.length<sizeLine):DPut H a (kV k) v (upd H a (.dK (GR kvs k v))):=⟨kvs,k,e,rfl,b,rfl⟩
section
variable{X:Cx}{pins:List (Addr×Obj)}{σ:St}{H:Hp}{s:Shared}{a:Addr}{y v:V}{u r:Value}{o:Option V}{A:Around}{E:Value->Shared->Prop}
theorem Inv.big(I:Inv X pins σ H s):sysModules<s.heap.objs.size:=by
 have h:mainGlobals<s.heap.objs.size:=(I.mod.glob.keeps I.bk).lt;exact NW (by decide) h
theorem QdD(hu:A.units+1<cLine)(I:Inv X pins σ H s)(g:DGet H a y (some v))(f:RelV y u)(h:∀w' c,Inv X pins σ H c->RelV v w'->Q w' c) :
  wpAny (model X.prog X.w) A (getItem (.ref a) u) Q E s:=by
 obtain⟨i,k,e,j,l⟩:=g;subst j;obtain⟨z,hd,d,rel,dd⟩:=QcF I.hok e;obtain⟨w',hw,b⟩:=RelO.some_of (v:=v) (o:=valueAt d k) (by rw[l];exact rel.val k);exact wpAny_getItem_of (QfT f) dd.mapOf hw (h w' _ (I.tok _) b)
theorem Qhg(I:Inv X pins σ H s)(c:Mut (H a))(d:Heap.SameBut a s.heap h')(f:∃q,h'.get? a=some q)(new:ObjOk X.prog X.w (upd H a ob) h' a ob) :
  Inv X pins σ (upd H a ob) { s with heap:=h',toks:=t' }:=
 I.write (x:=a) (e:=a) c (.inl rfl) (fun b q g z=>(d.2 b g).trans z) f new
theorem Qk9{b:Hp}{h':Heap}(z:kvs.length<=sizeLine)(hd:(a==sysModules)=false)(rel:KV kvs vs)(dd:h'.DictOf (Zd P w) a vs) :
  ObjOk P w b h' a (.dK kvs):=⟨z,hd,vs,rel,dd⟩
theorem Qcx(hu:A.units+1<cLine)(I:Inv X pins σ H s)(g:DPut H a y v L)(i:RelV y u)(j:RelV v r)(h:∀d,Inv X pins σ L d->Q () d) :
  wpAny (model X.prog X.w) A (setItem (.ref a) u r) Q E s:=by
 obtain⟨b,k,e,D,l,G⟩:=g;subst D G;obtain⟨z,hd,f,rel,dd⟩:=Qkn I.hok e;have m:f.length<=sizeLine:=by rw[<-rel.length];exact z
 have x:(GR b k v).length<=sizeLine:=by have:=YU b k v;lia
 refine wpAny_setItem_pairs (hsz:=m) (QfT i) dd fun C c p=>h _ ?_;have B:∃q,C.get? a=some q:=let⟨q,_,_,t,_⟩:=c;⟨q,t⟩
 exact Qhg I (by rw[e];exact True.intro) p B (Qk9 x hd (rel.put k j) c)
end
section
variable{X:Cx}{pins:List (Addr×Obj)}{σ:St}{H:Hp}{s:Shared}{a:Addr}{kvs:List (Key×V)}{k:Key}{u:Value}{A:Around}{E:Value->Shared->Prop}
theorem Qnb(I:Inv X pins σ H s)(e:Rd H a (.dK kvs))(h:∀t b,Inv X pins σ H b->Q (.int kvs.length t) b):wpAny (model X.prog X.w) A (call (.builtin "len") [.ref a]) Q E s:=by
 obtain⟨z,hd,c,rel,dd⟩:=QcF I.hok e;refine call_len_dict hd dd (by rw[<-rel.length];rw[Ew]at z;lia) ?_;rw[<-rel.length];exact h _ _ (I.tok _)
end
def QpF(i:Expr):Prop:=∀a b,subscripted i false a b=operate [a,b] (getItem a b)
theorem Qhw{w:World}{A:Around}{s:Shared}{env:Env}{pos:Pos}{T id:String} 
  (j:typeLookup (.type T) "__getitem__"=pure (some (.builtin id))) (g:QpF slice)
  (h:wpAny (model prog w) A (eval value env) (fun o d=>wpAny (model prog w) A (eval slice env) (fun i a=>a.TypeIs o T/\wpAny (model prog w) A (getItem o i) Q E a) E d) E s) :
  wpAny (model prog w) A (eval (.Subscript value slice pos) env) Q E s:=by
 refine Subscript_ (NU h (fun o d f=>NU f (fun i a b=>?_) fun _ _ x=>x) fun _ _ x=>x);obtain⟨hT,b⟩:=b;unfold subscriptTail;refine Nc ?_;rw[getitemInPython_of_ne hT.not_modules];refine Nc (IY hT j ?_)
 have fin:wpAny (model prog w) A (subscripted slice false o i) (fun r c=>wpAny (model prog w) A (letTemporaryGo value o r>>=fun _=>pure r) Q E c) E a:=by
  rw[g o i];exact wpAny_operating (NU b (fun r c e=>Nc (wpAny_letTemporaryGo (Nq e))) fun _ _ x=>x)
 first
  |exact Nq (Nc fin)
  |exact Nc (Nq (Nc fin))
  |exact Nc fin
theorem QaA{X:Cx}{σ:St}{H:Hp}{y:V}(I:Inv X b σ H s)(g:DGet H a y o):s.TypeIs (.ref a) "dict":=by
 obtain⟨c,k,e,_,_⟩:=g;obtain⟨_,_,d,_,dd⟩:=QcF I.hok e;exact dd.typeIs
noncomputable def QmP(td ty:TE):TE:=fun b H Q=>td b H fun x d=>ty b d fun y c=>∃a v,x=.ref a/\DGet c a y (some v)/\Q v c
noncomputable def QjJ(td ty d:TE):TS:=fun D b H=>d b H fun v g=>td b g fun x f=>ty b f fun y e=>∃a c,x=.ref a/\DPut e a y v c/\D.nx b c
section
variable{X:Cx}{o i e value:Expr}{pos pos' tpos:Pos}{td ty tv:TE}
theorem Qid(hu:X.A.units+1<cLine)(r:PE X o td)(hi:PE X i ty)(q:QpF i):PE X (.Subscript o i pos) (QmP td ty):=by
 intro b s d H Q I h;refine Qhw PySem.F.slot_dict_getitem.lookup q (thn (r b s d H _ I h) fun u j ⟨x,w,I1,m,p⟩=>thn (hi b j d w _ I1 p) fun D C f=>?_);obtain⟨y,t,I2,l,a,v,ex,g,n⟩:=f;subst ex;obtain rfl:u=Value.ref a:=m;exact⟨QaA I2 g,QdD hu I2 g l fun z B I3 c=>⟨v,t,I3,c,n⟩⟩
theorem Qjo(hu:X.A.units+1<cLine)(B:PE X o td)(hi:PE X i ty)(w:PE X value tv)(z:swapsWith value (some (.Subscript o i pos')) pos.line X.env=pure false) :
  PS X (.Assign [.Subscript o i pos'] value pos) (QjJ td ty tv):=by
 intro b s c H D I h;refine wpAny_Assign_Subscript (thn (w b s c H _ I h) fun r j ⟨v,G,I1,n,t⟩=>thn (B b j c G _ I1 t) fun u f ⟨x,E,I2,m,q⟩=>thn (hi b f c E _ I2 q) fun N M d=>?_) z;obtain⟨y,O,I3,l,a,C,ex,g,p⟩:=d;subst ex;obtain rfl:u=Value.ref a:=m;exact Qcx hu I3 g l n fun L I4=>⟨c,C,I4,p⟩
end
section
variable{X:Cx}{pins:List (Addr×Obj)}{σ:St}{H:Hp}{s:Shared}{a:Addr}{y d:V}{u r:Value}{o:Option V}{A:Around}{E:Value->Shared->Prop}
theorem QlS(hu:A.units+1<cLine)(I:Inv X pins σ H s)(g:DGet H a y o)(c:RelV y u)(f:RelV d r)(h:∀w' b,Inv X pins σ H b->RelV (o.getD d) w'->Q w' b) :
  wpAny (model X.prog X.w) A (call (.builtin "dict.get") [.ref a,u,r]) Q E s:=by
 obtain⟨i,k,e,j,l⟩:=g;subst j;obtain⟨z,hd,m,rel,dd⟩:=QcF I.hok e;refine call_meetsIn Lw dd.typeIs PySem.F.entry_dict_get (PySem.F.args_dict_get_3 _ _ _) (meets_dict_get_default (Zd X.prog X.w) a (QfT c) hd r) ⟨_,dd.mapOf,h _ _ (I.tok _) ?_⟩;rw[l];exact(rel.val k).getD f
end
section
variable{X:Cx}
theorem Qdr:CallR X (.builtin "len") (fun xs H Q=>∃a kvs,xs=[V.ref a]/\H a=some (.dK kvs)/\Q (.int kvs.length) H):=by
 intro b s f H xs g Q I r h;obtain⟨a,kvs,rfl,d,q⟩:=h;obtain⟨u,rfl,c⟩:=UC r;cases c;exact Qnb I (.inl d) fun t i e=>⟨.int kvs.length,H,e,⟨t,rfl⟩,q⟩
end
end L2
namespace Mi
open L2
inductive W where
 |non|bl (b:Bool)|int (i:Int)|str (x:Str)|tup (ws:List W)|lst (ws:List W)|frz (ws:List W)|ref (n:Nat)|ty (n:String)
inductive MO where
 |lst (ws:List W)
 |dic (kvs:List (Key×W))
 |dct (kvs:List (W×W))
noncomputable abbrev MH:=List MO
noncomputable abbrev MSt:=List (Option W)
structure Rn where
 ρ:Nat->Addr
 N:Nat
 F:Hp
 G:Hp
structure Ext(R R':Rn):Prop where
 n:R.N<=R'.N
 ρ:∀n,n<R.N->R'.ρ n=R.ρ n
 f:∀a o,R.F a=some o->R'.F a=some o
 g:R'.G=R.G
theorem Ext.refl(R:Rn):Ext R R:=⟨Nw _,fun _ _=>rfl,fun _ _ h=>h,rfl⟩
theorem Ext.trans{R R1 R2:Rn}(a:Ext R R1)(b:Ext R1 R2):Ext R R2:=
 ⟨Nh a.n b.n,fun n h=>(b.ρ n (Nd h a.n)).trans (a.ρ n h),fun x o h=>b.f x o (a.f x o h),b.g.trans a.g⟩
theorem J1{K:Nj}(e:∀a o,F a=some o->b a=some o)(h:SqT K F a xs):SqT K b a xs:=by
 rcases h with(h|⟨o,h⟩)|h
 ·exact .inl (.inl (e _ _ h))
 ·exact .inl (.inr ⟨o,e _ _ h⟩)
 ·exact .inr h
theorem ZA{K:Nj}(e:∀a o,F a=some o->b a=some o)(h:SqL K F a xs):SqL K b a xs:=by
 rcases h with(h|⟨o,h⟩)|h
 ·exact .inl (.inl (e _ _ h))
 ·exact .inl (.inr ⟨o,e _ _ h⟩)
 ·exact .inr h
section
variable(K:Nj)
mutual
noncomputable def Rw(R:Rn):W->V->Prop
 |.non,v=>v=.non
 |.bl b,v=>v=.bl b
 |.int i,v=>v=.int i
 |.str x,v=>v=.str x
 |.tup ws,v=>∃a xs,v=.ref a/\SqT K R.F a xs/\Rws R ws xs
 |.lst ws,v=>∃a xs,v=.ref a/\R.F a=some (.lst xs)/\Rws R ws xs
 |.frz ws,v=>∃a xs,v=.ref a/\SqL K R.F a xs/\Rws R ws xs
 |.ref n,v=>n<R.N/\v=.ref (R.ρ n)
 |.ty n,v=>v=.ty n
noncomputable def Rws(R:Rn):List W->List V->Prop
 |[],vs=>vs=[]
 |w::ws,vs=>∃v a,vs=v::a/\Rw R w v/\Rws R ws a
end
end
section
variable{K:Nj}{R R':Rn}
mutual
theorem Rw.mono(e:Ext R R'):∀(w:W) (v:V),Rw K R w v->Rw K R' w v
 |.non,_,h=>by unfold Rw at h ⊢;exact h
 |.bl _,_,h=>by unfold Rw at h ⊢;exact h
 |.int _,_,h=>by unfold Rw at h ⊢;exact h
 |.str _,_,h=>by unfold Rw at h ⊢;exact h
 |.ty _,_,h=>by unfold Rw at h ⊢;exact h
 |.tup ws,_,h=>by
  unfold Rw at h ⊢;obtain⟨a,xs,b,c,d⟩:=h;exact⟨a,xs,b,J1 e.f c,Rws.mono e ws xs d⟩
 |.lst ws,_,h=>by
  unfold Rw at h ⊢;obtain⟨a,xs,b,c,d⟩:=h;exact⟨a,xs,b,e.f a _ c,Rws.mono e ws xs d⟩
 |.frz ws,_,h=>by
  unfold Rw at h ⊢;obtain⟨a,xs,b,c,d⟩:=h;exact⟨a,xs,b,ZA e.f c,Rws.mono e ws xs d⟩
 |.ref n,_,h=>by
  unfold Rw at h ⊢;obtain⟨b,c⟩:=h;exact⟨Nd b e.n,by rw[e.ρ n b];exact c⟩
theorem Rws.mono(e:Ext R R'):∀(ws:List W) (vs:List V),Rws K R ws vs->Rws K R' ws vs
 |[],_,h=>by unfold Rws at h ⊢;exact h
 |w::ws,_,h=>by
  unfold Rws at h ⊢;obtain⟨v,a,d,c,b⟩:=h;exact⟨v,a,d,Rw.mono e w v c,Rws.mono e ws a b⟩
end
theorem Rws.nil_iff:Rws K R [] vs↔vs=[]:=by unfold Rws;exact Iff.rfl
theorem Rws.cons_iff:Rws K R (w::ws) vs↔∃v a,vs=v::a/\Rw K R w v/\Rws K R ws a:=by
 constructor
 ·intro h;unfold Rws at h;exact h
 ·intro h;unfold Rws;exact h
theorem Rws.nil:Rws K R [] []:=Rws.nil_iff.mpr rfl
theorem Rws.cons(a:Rw K R w v)(b:Rws K R ws vs):Rws K R (w::ws) (v::vs):=Rws.cons_iff.mpr ⟨v,vs,rfl,a,b⟩
theorem Rws.paired:∀{ws:List W} {vs:List V},Rws K R ws vs->Paired (Rw K R) ws vs
 |[],vs,h=>by rw[Rws.nil_iff]at h;subst h;exact .nil
 |w::ws,vs,h=>by
  rw[Rws.cons_iff]at h;obtain⟨v,c,rfl,a,b⟩:=h;exact .cons a (Rws.paired b)
theorem Rws.of:∀{ws:List W} {vs:List V},Paired (Rw K R) ws vs->Rws K R ws vs
 |_,_,.nil=>Rws.nil
 |_,_,.cons a b=>Rws.cons a (Rws.of b)
theorem Rws.length(h:Rws K R ws vs):ws.length=vs.length:=Ec h.paired
theorem Rws.get:∀{ws:List W} {vs:List V} {i:Nat} {w:W},Rws K R ws vs->ws[i]?=some w->∃v,vs[i]?=some v/\Rw K R w v
 |[],_,_,_,_,e=>by simp at e
 |w::ws,vs,0,x,h,e=>by
  rw[Rws.cons_iff]at h;obtain⟨v,c,rfl,a,b⟩:=h;simp at e;subst e;exact⟨v,by simp,a⟩
 |w::ws,vs,i+1,x,h,e=>by
  rw[Rws.cons_iff]at h;obtain⟨v,c,rfl,a,b⟩:=h;obtain⟨y,f,d⟩:=Rws.get (i:=i) b (by simpa using e);exact⟨y,by simpa using f,d⟩
theorem Rws.append:∀{ws us:List W} {vs xs:List V},Rws K R ws vs->Rws K R us xs->Rws K R (ws++us) (vs++xs)
 |[],us,vs,xs,h,q=>by rw[Rws.nil_iff]at h;subst h;exact q
 |w::ws,us,vs,xs,h,q=>by
  rw[Rws.cons_iff]at h;obtain⟨v,c,rfl,a,b⟩:=h;exact Rws.cons a (Rws.append b q)
theorem Rws.take:∀{ws:List W} {vs:List V} (n:Nat),Rws K R ws vs->Rws K R (ws.take n) (vs.take n)
 |_,_,0,_=>by simp;exact Rws.nil
 |[],vs,n+1,h=>by rw[Rws.nil_iff]at h;subst h;simp;exact Rws.nil
 |w::ws,vs,n+1,h=>by
  rw[Rws.cons_iff]at h;obtain⟨v,c,rfl,a,b⟩:=h;exact Rws.cons a (Rws.take n b)
theorem Rws.drop:∀{ws:List W} {vs:List V} (n:Nat),Rws K R ws vs->Rws K R (ws.drop n) (vs.drop n)
 |_,_,0,h=>by simpa using h
 |[],vs,n+1,h=>by rw[Rws.nil_iff]at h;subst h;simp;exact Rws.nil
 |w::ws,vs,n+1,h=>by
  rw[Rws.cons_iff]at h;obtain⟨v,c,rfl,a,b⟩:=h;exact Rws.drop n b
theorem Rws.set:∀{ws:List W} {vs:List V} {w:W} {v:V} (n:Nat),Rws K R ws vs->Rw K R w v->Rws K R (ws.set n w) (vs.set n v)
 |[],vs,_,_,n,h,_=>by rw[Rws.nil_iff]at h;subst h;simp;exact Rws.nil
 |x::ws,vs,w,v,0,h,q=>by
  rw[Rws.cons_iff]at h;obtain⟨y,c,rfl,a,b⟩:=h;exact Rws.cons q b
 |x::ws,vs,w,v,n+1,h,q=>by
  rw[Rws.cons_iff]at h;obtain⟨y,c,rfl,a,b⟩:=h;exact Rws.cons a (Rws.set n b q)
end
noncomputable def kW:Key->W
 |.inl i=>.int i
 |.inr x=>.str x
noncomputable def Qg3:Nat->W->Option Tr
 |0,_=>none
 |_+1,.int i=>some (.i i)
 |_+1,.bl b=>some (.i (if b then 1 else 0))
 |_+1,.str x=>some (.s x)
 |n+1,.tup ws=>(ws.mapM (Qg3 n)).map .t
 |_+1,_=>none
noncomputable def nrm:W->Option Tr
 |.tup ws=>Qg3 8 (.tup ws)
 |_=>none
section
variable(K:Nj)
noncomputable def Ro(R:Rn):MO->Option HO->Prop
 |.lst ws,o=>∃xs,o=some (.lst xs)/\Rws K R ws xs
 |.dic kvs,o=>∃a:List (Key×V),o=some (.dK a)/\Paired (fun p q=>p.1=q.1/\Rw K R p.2 q.2) kvs a
 |.dct kvs,o=>∃a:List (Tr×Addr×V),o=some (.dT a)/\Paired (fun p q=>Rw K R p.1 (.ref q.2.1)/\nrm p.1=some q.1/\Rw K R p.2 q.2.2) kvs a
structure Rh(R:Rn)(h:MH)(H:Hp):Prop where
 len:R.N=h.length
 sub:∀a o,R.F a=some o->H a=some o
 sep:∀n,n<R.N->R.F (R.ρ n)=none
 inj:∀m n,m<R.N->n<R.N->R.ρ m=R.ρ n->m=n
 obj:∀n o,h[n]?=some o->Ro K R o (H (R.ρ n))
 gsub:∀a o,R.G a=some o->H a=some o
 gsep:∀n,n<R.N->R.G (R.ρ n)=none
 gf:∀a o,R.G a=some o->R.F a=none
def Rst(R:Rn)(a:MSt)(σ:L2.St):Prop:=a.length=σ.length/\∀(i:Nat) (w:W),a[i]?=some (some w)->∃v,σ[i]?=some (some v)/\Rw K R w v
end
section
variable{K:Nj}{R R':Rn}{h:MH}{H:Hp}{σi:MSt}{σ:L2.St}
theorem Ro.mono(e:Ext R R')(q:Ro K R o u):Ro K R' o u:=by
 cases o with
 |lst j=>obtain⟨i,d,c⟩:=q;exact⟨i,d,Rws.mono e j i c⟩
 |dic g=>obtain⟨f,d,c⟩:=q;exact⟨f,d,Paired.mapP c fun a b z=>⟨z.1,Rw.mono e _ _ z.2⟩⟩
 |dct g=>obtain⟨f,d,c⟩:=q;exact⟨f,d,Paired.mapP c fun a b z=>⟨Rw.mono e _ _ z.1,z.2.1,Rw.mono e _ _ z.2.2⟩⟩
theorem Ro.some(q:Ro K R o u):∃x,u=some x:=by
 cases o with
 |lst f=>obtain⟨e,a,c⟩:=q;exact⟨_,a⟩
 |dic b=>obtain⟨d,a,c⟩:=q;exact⟨_,a⟩
 |dct b=>obtain⟨d,a,c⟩:=q;exact⟨_,a⟩
theorem Rst.mono(e:Ext R R')(q:Rst K R σi σ):Rst K R' σi σ:=⟨q.1,fun i w h=>by
 obtain⟨v,b,a⟩:=q.2 i w h
 exact⟨v,b,Rw.mono e _ _ a⟩⟩
theorem Rst.set(q:Rst K R σi σ)(r:Rw K R w v):Rst K R (σi.set i (some w)) (σ.set i (some v)):=by
 refine⟨by rw[Dl,Dl];exact q.1,fun j u e=>?_⟩;rw[List.getElem?_set]at e ⊢
 by_cases a:i=j
 ·subst a;rw[if_pos rfl]at e ⊢
  by_cases b:i<σi.length
  ·rw[if_pos b]at e;rw[if_pos (q.1▸b)];cases e;exact⟨v,rfl,r⟩
  ·rw[if_neg b]at e;cases e
 ·rw[if_neg a]at e ⊢;exact q.2 j u e
theorem Rh.there(q:Rh K R h H)(b:n<R.N):∃o u,h[n]?=some o/\H (R.ρ n)=some u:=by
 have a:n<h.length:=q.len▸b;obtain⟨u,hu⟩:=(q.obj n h[n] (Nl a)).some;exact⟨h[n],u,Nl a,hu⟩
theorem Rh.ne(q:Rh K R h H)(a:H p=none)(b:n<R.N):R.ρ n≠p:=fun e=>by
 obtain⟨o,u,_,hu⟩:=q.there b;rw[e,a]at hu;cases hu
theorem Rh.fix(q:Rh K R h H)(c:H p=none) :
  Ext R { R with F:=upd R.F p o }/\Rh K { R with F:=upd R.F p o } h (upd H p o):=by
 have hF:R.F p=none:=by
  cases e:R.F p with
  |none=>rfl
  |some u=>have:=q.sub p u e;rw[c]at this;cases this
 have x:Ext R { R with F:=upd R.F p o }:=⟨Nw _,fun _ _=>rfl,fun a u e=>by
  show upd R.F p o a=some u
  rw[Qp (fun z=>by rw[z,hF]at e;cases e)];exact e,rfl⟩
 have f:∀a u,R.G a=some u->a≠p:=fun a u e z=>by have:=q.gsub a u e;rw[z,c]at this;cases this
 refine⟨x,q.len,fun a u e=>?_,fun n d=>?_,q.inj,fun n u e=>?_,fun a u e=>?_,q.gsep,fun a u e=>?_⟩
 rotate_right 2
 ·rw[Qp (f a u e)];exact q.gsub a u e
 ·show upd R.F p o a=none;rw[Qp (f a u e)];exact q.gf a u e
 ·by_cases z:a=p
  ·subst z;have b:upd R.F a o a=some u:=e;rw[ZK]at b ⊢;exact b
  ·have b:upd R.F p o a=some u:=e;rw[Qp z]at b ⊢;exact q.sub a u b
 ·show upd R.F p o (R.ρ n)=none;rw[Qp (q.ne c d)];exact q.sep n d
 ·have d:n<R.N:=by rw[q.len];exact(Ng.mp e).1
  show Ro K _ u (upd H p o (R.ρ n));rw[Qp (q.ne c d)];exact(q.obj n u e).mono x
theorem Rh.tup(q:Rh K R h H)(a:H p=none)(r:Rws K R ws xs) :
  ∃R',Ext R R'/\Rh K R' h (upd H p (.tup xs))/\Rw K R' (.tup ws) (.ref p):=by
 obtain⟨x,y⟩:=q.fix (o:=.tup xs) a;refine⟨_,x,y,?_⟩;unfold Rw;exact⟨p,xs,rfl,SqT.of ZK,Rws.mono x _ _ r⟩
theorem Rh.lstI(q:Rh K R h H)(a:H p=none)(r:Rws K R ws xs) :
  ∃R',Ext R R'/\Rh K R' h (upd H p (.lst xs))/\Rw K R' (.lst ws) (.ref p):=by
 obtain⟨x,y⟩:=q.fix (o:=.lst xs) a;refine⟨_,x,y,?_⟩;unfold Rw;exact⟨p,xs,rfl,ZK,Rws.mono x _ _ r⟩
theorem Rh.new(q:Rh K R h H)(f:H p=none)(r:∀R',Ext R R'->Ro K R' mo (some o)) :
  ∃R',Ext R R'/\Rh K R' (h++[mo]) (upd H p o)/\Rw K R' (.ref h.length) (.ref p):=by
 let R':Rn:={ ρ:=fun n=>if n=R.N then p else R.ρ n,N:=R.N+1,F:=R.F,G:=R.G }
 have hr:∀n,n<R.N->R'.ρ n=R.ρ n:=fun n b=>if_neg (NM b);have d:R'.ρ R.N=p:=if_pos rfl;have x:Ext R R':=⟨Lm _,hr,fun _ _ e=>e,rfl⟩
 have i:∀a u,R.G a=some u->a≠p:=fun a u e z=>by have:=q.gsub a u e;rw[z,f]at this;cases this
 have hF:R.F p=none:=by
  cases e:R.F p with
  |none=>rfl
  |some u=>have:=q.sub p u e;rw[f]at this;cases this
 have below:∀n,n<R.N+1->n<R.N\/n=R.N:=fun n b=>Oi (OD b)
 have g:∀n,n<R.N+1->R.G (R'.ρ n)=none:=fun n b=>by
  rcases below n b with b|b
  ·rw[hr n b];exact q.gsep n b
  ·subst b;rw[d];cases e:R.G p with
   |none=>rfl
   |some u=>exact absurd rfl (i p u e)
 refine⟨R',x,⟨?_,fun a u e=>?_,fun n b=>?_,fun m n c b e=>?_,fun n u e=>?_,fun a u e=>by rw[Qp (i a u e)];exact q.gsub a u e,g,q.gf⟩,?_⟩
 ·show R.N+1=_;rw[NC,q.len];rfl
 ·have z:a≠p:=fun z=>by have j:R.F a=some u:=e;rw[z,hF]at j;cases j
  rw[Qp z];exact q.sub a u e
 ·rcases below n b with b|b
  ·rw[hr n b];exact q.sep n b
  ·subst b;rw[d];exact hF
 ·rcases below m c with c|c<;>rcases below n b with b|b
  ·rw[hr m c,hr n b]at e;exact q.inj m n c b e
  ·subst b;rw[hr m c,d]at e;exact absurd e (q.ne f c)
  ·subst c;rw[hr n b,d]at e;exact absurd e.symm (q.ne f b)
  ·rw[c,b]
 ·have b:n<R.N+1:=by
   have:=(Ng.mp e).1;rw[NC,<-q.len]at this;exact this
  rcases below n b with b|b
  ·rw[hr n b,Qp (q.ne f b)];rw[NQ (by rw[<-q.len];exact b)]at e;exact(q.obj n u e).mono x
  ·subst b;rw[d,ZK];rw[N2 (by rw[q.len];exact Nw _),q.len,FV]at e;cases e;exact r R' x
 ·unfold Rw;refine⟨by rw[<-q.len];exact N1 _,?_⟩;rw[<-q.len,d]
theorem Rh.put(q:Rh K R h H)(b:n<R.N)(r:Ro K R mo (some o)):Rh K R (h.set n mo) (upd H (R.ρ n) o):=by
 refine⟨by rw[Dl];exact q.len,fun a u e=>?_,q.sep,q.inj,fun m u e=>?_,fun a u e=>?_,q.gsep,q.gf⟩
 rotate_right
 ·have z:a≠R.ρ n:=fun z=>by rw[z,q.gsep n b]at e;cases e
  rw[Qp z];exact q.gsub a u e
 ·have z:a≠R.ρ n:=fun z=>by rw[z,q.sep n b]at e;cases e
  rw[Qp z];exact q.sub a u e
 ·by_cases z:n=m
  ·subst z;rw[ZK];rw[DW (by rw[<-q.len];exact b)]at e;cases e;exact r
  ·have c:m<R.N:=by
    have:=(Ng.mp e).1;rw[Dl,<-q.len]at this;exact this
   rw[D8 z]at e;rw[Qp (fun w=>z (q.inj m n c b w).symm)];exact q.obj m u e
theorem Rh.tupAt(q:Rh K R h H)(r:Rw K R (.tup ws) v):∃a xs,v=.ref a/\SqT K H a xs/\Rws K R ws xs:=by
 unfold Rw at r;obtain⟨a,xs,d,c,b⟩:=r;exact⟨a,xs,d,J1 q.sub c,b⟩
theorem Rh.lstAt(q:Rh K R h H)(r:Rw K R (.lst ws) v):∃a xs,v=.ref a/\H a=some (.lst xs)/\Rws K R ws xs:=by
 unfold Rw at r;obtain⟨a,xs,d,c,b⟩:=r;exact⟨a,xs,d,q.sub a _ c,b⟩
theorem Rh.frzAt(q:Rh K R h H)(r:Rw K R (.frz ws) v):∃a xs,v=.ref a/\SqL K H a xs/\Rws K R ws xs:=by
 unfold Rw at r;obtain⟨a,xs,d,c,b⟩:=r;exact⟨a,xs,d,ZA q.sub c,b⟩
noncomputable def lsW(h:MH):W->Option (List W)
 |.lst ws=>some ws
 |.frz ws=>some ws
 |.ref n=>match h[n]? with|some (.lst ws)=>some ws|_=>none
 |_=>none
noncomputable def loW(h:MH):W->Option (List W)
 |.lst ws=>some ws
 |.ref n=>match h[n]? with|some (.lst ws)=>some ws|_=>none
 |_=>none
theorem Rh.loAt(q:Rh K R h H)(r:Rw K R w v)(e:loW h w=some ws):∃a xs,v=.ref a/\H a=some (.lst xs)/\Rws K R ws xs:=by
 cases w with
 |lst b=>cases e;exact q.lstAt r
 |ref n=>
  simp only[loW]at e;split at e
  ·rename_i b c;cases e;unfold Rw at r;obtain⟨xs,f,d⟩:=q.obj n _ c;exact⟨_,xs,r.2,f,d⟩
  ·cases e
 |_=>cases e
theorem Rh.lsAt(q:Rh K R h H)(r:Rw K R w v)(e:lsW h w=some ws):∃a xs,v=.ref a/\SqL K H a xs/\Rws K R ws xs:=by
 cases w with
 |lst b=>cases e;obtain⟨a,xs,j,i,g⟩:=q.lstAt r;exact⟨a,xs,j,SqL.of i,g⟩
 |frz b=>cases e;exact q.frzAt r
 |ref n=>
  simp only[lsW]at e;split at e
  ·rename_i b c;cases e;unfold Rw at r;obtain⟨xs,f,d⟩:=q.obj n _ c;exact⟨_,xs,r.2,SqL.of f,d⟩
  ·cases e
 |_=>cases e
theorem Rh.refAt(q:Rh K R h H)(r:Rw K R (.ref n) v)(e:h[n]?=some (.lst ws)) :
  n<R.N/\v=.ref (R.ρ n)/\∃xs,H (R.ρ n)=some (.lst xs)/\Rws K R ws xs:=by
 unfold Rw at r;exact⟨r.1,r.2,q.obj n _ e⟩
end
theorem Rw.non_eq{K:Nj}(r:Rw K R .non v):v=.non:=by unfold Rw at r;exact r
theorem Rw.bl_eq{K:Nj}(r:Rw K R (.bl b) v):v=.bl b:=by unfold Rw at r;exact r
theorem Rw.int_eq{K:Nj}(r:Rw K R (.int i) v):v=.int i:=by unfold Rw at r;exact r
theorem Rw.str_eq{K:Nj}(r:Rw K R (.str x) v):v=.str x:=by unfold Rw at r;exact r
theorem Rw.ty_eq{K:Nj}(r:Rw K R (.ty n) v):v=.ty n:=by unfold Rw at r;exact r
theorem Rw.ty{K:Nj}(n:String):Rw K R (.ty n) (.ty n):=by unfold Rw;rfl
theorem Rw.non{K:Nj}:Rw K R .non .non:=by unfold Rw;rfl
theorem Rw.bl{K:Nj}(b:Bool):Rw K R (.bl b) (.bl b):=by unfold Rw;rfl
theorem Rw.int{K:Nj}(i:Int):Rw K R (.int i) (.int i):=by unfold Rw;rfl
theorem Rw.str{K:Nj}(x:Str):Rw K R (.str x) (.str x):=by unfold Rw;rfl
end Mi
namespace Mi
open L2
noncomputable abbrev ME:=MSt->MH->Option (W×MH)
noncomputable abbrev MT:=MSt->MH->Option (Bool×MH)
noncomputable abbrev MA:=MSt->MH->Option (List W×MH)
inductive MF where
 |nx (σ:MSt) (h:MH)|rt (w:W) (h:MH)|bk (σ:MSt) (h:MH)|ct (σ:MSt) (h:MH)
noncomputable abbrev SM:=MSt->MH->Option MF
noncomputable abbrev FM:=List W->MH->Option (W×MH)
section
variable(K:Nj)
def After(R:Rn)(w:W)(h':MH)(Q:VK):Prop:=∀a b v,Ext R a->Rh K a h' b->Rw K a w v->Q v b
noncomputable def tI(m:ME):TE:=fun c H Q=>∃R a h w b,Rh K R h H/\Rst K R a c/\m a h=some (w,b)/\After K R w b Q
noncomputable def tIT(m:MT):TT:=fun f H Q=>∃R a h b c,Rh K R h H/\Rst K R a f/\m a h=some (b,c)/\∀d e,Ext R d->Rh K d c e->Q b e
noncomputable def tIA(m:MA):TA:=fun g H Q=>∃R a h c e,Rh K R h H/\Rst K R a g/\m a h=some (c,e)/\∀b f d,Ext R b->Rh K b e f->Rws K b c d->Q d f
noncomputable def Ends(R:Rn)(D:L2.Ends):MF->Prop
 |.nx a h=>∀R' b σ,Ext R R'->Rh K R' h b->Rst K R' a σ->D.nx σ b
 |.bk a h=>∀R' b σ,Ext R R'->Rh K R' h b->Rst K R' a σ->D.bk σ b
 |.ct a h=>∀R' b σ,Ext R R'->Rh K R' h b->Rst K R' a σ->D.ct σ b
 |.rt w h=>After K R w h D.rt
noncomputable def tS(m:SM):TS:=fun D b H=>∃R a h r,Rh K R h H/\Rst K R a b/\m a h=some r/\Ends K R D r
noncomputable def spM(n:Nat)(m:FM):Sp:=fun c H Q _=>∃R a h w b,a.length=n/\Rh K R h H/\Rws K R a c/\m a h=some (w,b)/\After K R w b Q
end
def PM(X:Cx)(e:Expr)(m:ME):Prop:=PE X e (tI X.K m)
def PMT(X:Cx)(e:Expr)(m:MT):Prop:=PT X e (tIT X.K m)
def PMA(X:Cx)(a:List Expr)(m:MA):Prop:=PA X a (tIA X.K m)
def PMS(X:Cx)(st:Stmt)(m:SM):Prop:=PS X st (tS X.K m)
def Qef(X:Cx)(st:List Stmt)(m:SM):Prop:=PSs X st (tS X.K m)
section
variable{K:Nj}{R R1 R2:Rn}
theorem After.ext(a:After K R w h' Q)(x:Ext R R1):After K R1 w h' Q:=fun b c v e=>a b c v (x.trans e)
theorem Ends.ext(a:Ends K R D r)(x:Ext R R1):Ends K R1 D r:=by
 cases r with
 |nx d h=>exact fun b c v e=>a b c v (x.trans e)
 |bk d h=>exact fun b c v e=>a b c v (x.trans e)
 |ct d h=>exact fun b c v e=>a b c v (x.trans e)
 |rt w h=>exact After.ext a x
end
theorem Q7(h:PE X e t)(i:∀σ H Q,t' σ H Q->t σ H Q):PE X e t':=fun a s σ H Q I q=>h a s σ H Q I (i _ _ _ q)
theorem QcU(h:PT X e t)(i:∀σ H Q,t' σ H Q->t σ H Q):PT X e t':=fun a s σ H Q I q=>h a s σ H Q I (i _ _ _ q)
theorem Qgi(h:PW X e t)(i:∀σ H Q,t' σ H Q->t σ H Q):PW X e t':=fun b a s σ H Q I q=>h b a s σ H Q I (i _ _ _ q)
theorem QgM(h:PA X b t)(i:∀σ H Q,t' σ H Q->t σ H Q):PA X b t':=fun pos a s σ H Q I q=>h pos a s σ H Q I (i _ _ _ q)
theorem VT{st:Stmt}(h:PS X st t)(i:∀D σ H,t' D σ H->t D σ H):PS X st t':=fun a s σ H D I q=>h a s σ H D I (i _ _ _ q)
theorem QcL{st:List Stmt}(h:PSs X st t)(i:∀D σ H,t' D σ H->t D σ H):PSs X st t':=fun a s σ H D I q=>h a s σ H D I (i _ _ _ q)
noncomputable def Qb(i:Nat):ME:=fun a h=>match a[i]? with|some (some w)=>some (w,h)|_=>none
noncomputable def mC(w:W):ME:=fun _ h=>some (w,h)
section
variable{X:Cx}
theorem Qk(i:Nat)(hN:X.N[i]?=some x:=by rfl)(d:Vis X.env.scope x:=by first|exact Or.inl rfl|exact Or.inr (Or.inl rfl)|exact Or.inr (Or.inr rfl))(hd:(x==("__debug__":Str))=false:=by decide)
  (a:(x==("__classdict__":Str))=false:=by decide):PM X (.Name x pos) (Qb i):=Q7 (QkM hN d hd a) <|by
 rintro l H Q ⟨R,b,h,w,n,c,st,e,k⟩
 unfold Qb at e;split at e
 ·rename_i m j;cases e;obtain⟨v,g,f⟩:=st.2 i _ j;exact⟨v,g,k R H v (Ext.refl _) c f⟩
 ·cases e
theorem Qc9(r:∀R,Rw X.K R w v)(q:tI X.K (mC w) σ H Q):tC v σ H Q:=by
 obtain⟨R,a,h,c,d,b,st,e,k⟩:=q;cases e;exact k R H v (Ext.refl _) b (r R)
theorem Qly{i j pos}:PM X (.Constant (.int i) j pos) (mC (.int i)):=Q7 QkR fun _ _ _=>Qc9 fun _=>Rw.int _
theorem Uz{b j pos}:PM X (.Constant (.bool b) j pos) (mC (.bl b)):=Q7 Qm6 fun _ _ _=>Qc9 fun _=>Rw.bl _
theorem Z0{j pos}:PM X (.Constant .none j pos) (mC .non):=Q7 Qke fun _ _ _=>Qc9 fun _=>Rw.non
theorem Qlo{x j pos}:PM X (.Constant (.str x) j pos) (mC (.str x)):=Q7 Qj7 fun _ _ _=>Qc9 fun _=>Rw.str _
theorem Qi3(b:Gl X x)(a:X.mg x=some u)(r:RelV v u)(rw:∀R,Rw X.K R w v)(hd:(x==("__debug__":Str))=false:=by decide):PM X (.Name x pos) (mC w):=
 Q7 (QhH b a r hd) fun _ _ _=>Qc9 rw
end
noncomputable def Qe(f:W->W->MH->Option (W×MH))(c b:ME):ME:=fun a h=>(c a h).bind fun p=>(b a p.2).bind fun q=>f p.1 q.1 q.2
def F1(K:Nj)(f:W->MH->Option (W×MH))(x:V)(H:Hp)(Q:VK):Prop:=∃R h a w b,Rh K R h H/\Rw K R a x/\f a h=some (w,b)/\After K R w b Q
def F2(K:Nj)(f:W->W->MH->Option (W×MH))(x y:V)(H:Hp)(Q:VK):Prop:=∃R h a b w c,Rh K R h H/\Rw K R a x/\Rw K R b y/\f a b h=some (w,c)/\After K R w c Q
def Fs(K:Nj)(f:List W->MH->Option (W×MH))(xs:List V)(H:Hp)(Q:VK):Prop:=∃R h a w b,Rh K R h H/\Rws K R a xs/\f a h=some (w,b)/\After K R w b Q
noncomputable def mUn(f:W->MH->Option (W×MH))(b:ME):ME:=fun a h=>(b a h).bind fun p=>f p.1 p.2
noncomputable def mFn(f:List W->MH->Option (W×MH))(b:MA):ME:=fun a h=>(b a h).bind fun p=>f p.1 p.2
section
variable{K:Nj}{σ:L2.St}{H:Hp}{Q:VK}
theorem un1(q:tI K (mUn f m) σ H Q):tI K m σ H fun x g=>F1 K f x g Q:=by
 obtain⟨R,b,h,w,n,l,st,e,k⟩:=q;obtain⟨⟨a,d⟩,o,p⟩:=Na.mp e;exact⟨R,b,h,a,d,l,st,o,fun R1 g x i c j=>⟨R1,d,a,w,n,c,j,p,k.ext i⟩⟩
theorem Qk6(q:tI K (Qe f u t) σ H Q):tI K u σ H fun x o=>tI K t σ o fun y n=>F2 K f x y n Q:=by
 obtain⟨R,c,h,w,v,s,st,e,k⟩:=q;obtain⟨⟨a,m⟩,A,C⟩:=Na.mp e;obtain⟨⟨b,l⟩,z,B⟩:=Na.mp C
 exact⟨R,c,h,a,m,s,st,A,fun R1 o x j g r=>⟨R1,c,m,b,l,g,st.mono j,z,fun R2 n y i d p=>
  ⟨R2,l,a,b,w,v,d,Rw.mono i _ _ r,p,B,k.ext (j.trans i)⟩⟩⟩
theorem Qci(q:tI K (mFn f m) σ H Q):tIA K m σ H fun xs g=>Fs K f xs g Q:=by
 obtain⟨R,b,h,w,n,l,st,e,k⟩:=q;obtain⟨⟨a,d⟩,o,p⟩:=Na.mp e;exact⟨R,b,h,a,d,l,st,o,fun R1 g x i c j=>⟨R1,d,a,w,n,c,j,p,k.ext i⟩⟩
end
noncomputable def V2:Expr->Bool
 |.Starred ..=>true
 |_=>false
noncomputable def Xq(a:List Expr):Bool:=a.all fun e=>!V2 e
theorem Q1(h:V2 e=false):starEach (e::a) env=(false,eval e env)::starEach a env:=by
 cases e<;>first|rfl|cases h
theorem JS(h:Xq a=true):(backTo pos (starEach a env)).any (·.1)=false:=by
 induction a with
 |nil=>rfl
 |cons e a b=>
  unfold Xq at h b;rw[LU,NS]at h;have c:V2 e=false:=by simpa using h.1
  rw[Q1 c];have:=b h.2;unfold backTo at this ⊢;rw[NA,De,this];rfl
theorem QfL(h:Xq a=true):(backTo pos (starEach a env)).all (fun x=>!x.1)=true:=by
 have:=JS (env:=env) (pos:=pos) h;rw[List.all_eq_not_any_not];simp only[Bool.not_not];rw[this];rfl
noncomputable def Qd:MA:=fun _ h=>some ([],h)
noncomputable def Qa(c:ME)(b:MA):MA:=fun a h=>(c a h).bind fun p=>(b a p.2).bind fun q=>some (p.1::q.1,q.2)
section
variable{X:Cx}{e:Expr}{es:List Expr}{m:ME}{ms:MA}{pos:Pos}
theorem QiL:PMA X [] Qd:=QgM QlJ <|by
 rintro c H Q ⟨R,a,h,d,f,b,st,e,k⟩
 cases e;exact k R H [] (Ext.refl _) b Rws.nil
theorem QeN(s:PM X e m)(hr:PMA X es ms)(r:V2 e=false:=by rfl):PMA X (e::es) (Qa m ms):=
 QgM (QiY s hr (Q1 r)) fun A H Q l=>by
  obtain⟨R,c,h,B,C,q,st,e,k⟩:=l;obtain⟨⟨a,j⟩,v,y⟩:=Na.mp e;obtain⟨⟨b,t⟩,u,w⟩:=Na.mp y;cases w
  exact⟨R,c,h,a,j,q,st,v,fun R1 D x i f p=>⟨R1,c,j,b,t,f,st.mono i,u,fun R2 z n g d o=>
   k R2 z (x::n) (i.trans g) d (Rws.cons (Rw.mono g _ _ p) o)⟩⟩
noncomputable def Z1(ws:List W)(h:MH):Option (W×MH):=if ws.length<=sizeLine then some (.tup ws,h)else none
noncomputable def KR(ws:List W)(h:MH):Option (W×MH):=if ws.length<=sizeLine then some (.lst ws,h)else none
noncomputable def GT(ws:List W)(h:MH):Option (W×MH):=if ws.length<=sizeLine then some (.ref h.length,h++[.lst ws])else none
theorem Qk0{d}(h:PMA X es ms):PM X (.Tuple es d pos) (mFn Z1 ms):=Q7 (Qkt h) fun C H Q q=>by
 obtain⟨R,c,z,o,y,t,st,e,k⟩:=Qci q;refine⟨R,c,z,o,y,t,st,e,fun R1 B r d j s=>?_⟩;obtain⟨R2,E,n,w,D,i,a,b,u⟩:=k R1 B r d j s;unfold Z1 at b;split at b
 ·rename_i x;cases b;refine⟨by rw[<-a.length];exact x,fun p v=>?_⟩;obtain⟨A,l,g,f⟩:=i.tup v a;exact u A _ _ l g f
 ·cases b
theorem Zn(h:PMA X es ms):PM X (.List es pos) (mFn KR ms):=Q7 (QgY h) fun C H Q q=>by
 obtain⟨R,c,z,o,y,t,st,e,k⟩:=Qci q;refine⟨R,c,z,o,y,t,st,e,fun R1 B r l i s=>?_⟩;obtain⟨R2,E,n,w,D,g,a,b,u⟩:=k R1 B r l i s;unfold KR at b;split at b
 ·rename_i x;cases b;refine⟨by rw[<-a.length];exact x,fun p v=>?_⟩;obtain⟨A,j,f,d⟩:=g.lstI v a;exact u A _ _ j f d
 ·cases b
theorem Vg(h:PMA X es ms):PM X (.List es pos) (mFn GT ms):=Q7 (QgY h) fun E H Q q=>by
 obtain⟨R,c,B,t,A,v,st,e,k⟩:=Qci q;refine⟨R,c,B,t,A,v,st,e,fun R1 D f r l u=>?_⟩;obtain⟨R2,L,d,w,I,j,a,b,x⟩:=k R1 D f r l u;unfold GT at b;split at b
 ·rename_i z;cases b;refine⟨by rw[<-a.length];exact z,fun p y=>?_⟩;obtain⟨C,n,i,g⟩:=j.new (mo:=.lst d) (o:=.lst f) y fun M s=>⟨f,rfl,Rws.mono s _ _ a⟩
  exact x C _ _ n i g
 ·cases b
end
def OpM(K:Nj)(r:R2)(f:W->W->MH->Option (W×MH)):Prop:=∀x y H Q,F2 K f x y H Q->r x y H Q
def Qhh(K:Nj)(r:List V->Hp->VK->Prop)(f:List W->MH->Option (W×MH)):Prop:=∀a H Q,Fs K f a H Q->r a H Q
section
variable{X:Cx}{a b c:Expr}{ma mb mc:ME}{pos:Pos}
theorem JE{K:Nj}(h:tI K m σ H Q)(i:∀v H,Q v H->Q' v H):tI K m σ H Q':=by
 obtain⟨R,d,h,w,g,f,st,e,k⟩:=h;exact⟨R,d,h,w,g,f,st,e,fun j l v a b c=>i _ _ (k j l v a b c)⟩
theorem WZ{K:Nj}(h:tIA K m σ H Q)(i:∀v H,Q v H->Q' v H):tIA K m σ H Q':=by
 obtain⟨R,d,h,w,g,f,st,e,k⟩:=h;exact⟨R,d,h,w,g,f,st,e,fun j l v a b c=>i _ _ (k j l v a b c)⟩
theorem ZU(g:OpR X (binaryOp op) r)(h:OpM X.K r f)(j:PM X a ma)(i:PM X b mb):PM X (.BinOp a op b pos) (Qe f ma mb):=
 Q7 (QnG g j i) fun _ _ _ q=>JE (Qk6 q) fun _ _ e=>JE e fun _ _ d=>h _ _ _ _ d
theorem Qli(g:OpR X (compareOp op) r)(i:OpM X.K r f)(l:PM X a ma)(j:PM X b mb)(h:behindInMarks op b=false:=by rfl):PM X (.Compare a [op] [b] pos) (Qe f ma mb):=
 Q7 (Qip g l j h) fun _ _ _ q=>JE (Qk6 q) fun _ _ e=>JE e fun _ _ d=>i _ _ _ _ d
noncomputable def Qm(m:ME):MT:=fun d h=>(m d h).bind fun p=>match p.1 with|.bl b=>some (b,p.2)|_=>none
theorem QeO{K:Nj}(q:tIT K (Qm m) σ H Q):tI K m σ H fun x i=>∃k,x=.bl k/\Q k i:=by
 obtain⟨R,d,h,b,r,l,st,e,k⟩:=q;obtain⟨⟨w,p⟩,n,g⟩:=Na.mp e;cases w<;>simp only at g<;>first|(cases g;exact⟨R,d,h,_,_,l,st,n,fun o i v x f j=>⟨_,j.bl_eq,k o i x f⟩⟩)|(cases g)
theorem Qw(g:OpR X (compareOp op) r)(i:OpM X.K r f)(l:PM X a ma)(j:PM X b mb)(h:behindInMarks op b=false:=by rfl):PMT X (.Compare a [op] [b] pos) (Qm (Qe f ma mb)):=
 QcU (Qio g l j h) fun _ _ _ q=>JE (Qk6 (QeO q)) fun _ _ e=>JE e fun _ _ d=>i _ _ _ _ d
noncomputable def Xl(ma mb:MT):MT:=fun d h=>(ma d h).bind fun p=>match p.1 with|true=>mb d p.2|false=>some (false,p.2)
noncomputable def QdQ(ma mb:MT):MT:=fun d h=>(ma d h).bind fun p=>match p.1 with|true=>some (true,p.2)|false=>mb d p.2
noncomputable def Qes(ma:MT):MT:=fun d h=>(ma d h).bind fun p=>some (!p.1,p.2)
noncomputable def mIf(t:MT)(ma mb:ME):ME:=fun d h=>(t d h).bind fun p=>match p.1 with|true=>ma d p.2|false=>mb d p.2
variable{rest:List Expr}{ta tb:MT}
def PMW(X:Cx)(e:Expr)(m:MT):Prop:=PW X e (tIT X.K m)
theorem PMW.pt(h:PMW X e m):PMT X e m:=PW.pt h
theorem QiK{K:Nj}(q:tIT K (Xl ta tb) σ H Q):Qo9 (tIT K ta) (tIT K tb) σ H Q:=by
 obtain⟨R,d,h,w,n,m,st,e,k⟩:=q;obtain⟨⟨a,i⟩,o,j⟩:=Na.mp e;refine⟨R,d,h,a,i,m,st,o,fun R1 r g f=>?_⟩;cases a with
 |true=>exact Qjt ⟨R1,d,i,w,n,f,st.mono g,j,fun R2 p l=>k R2 p (g.trans l)⟩
 |false=>cases j;exact Qju (k R1 r g f)
theorem Qlj{K:Nj}(q:tIT K (QdQ ta tb) σ H Q):tOr (tIT K ta) (tIT K tb) σ H Q:=by
 obtain⟨R,d,h,w,n,m,st,e,k⟩:=q;obtain⟨⟨a,i⟩,o,j⟩:=Na.mp e;refine⟨R,d,h,a,i,m,st,o,fun R1 r g f=>?_⟩;cases a with
 |true=>cases j;exact Qjt (k R1 r g f)
 |false=>exact Qju ⟨R1,d,i,w,n,f,st.mono g,j,fun R2 p l=>k R2 p (g.trans l)⟩
theorem Xa(d:PMT X a ta):PMW X (.BoolOp .And [a] pos) ta:=QiG d
theorem YK(d:PMT X a ta):PMW X (.BoolOp .Or [a] pos) ta:=QkX d
theorem Xz(e:PMT X a ta)(d:PMW X (.BoolOp .And (b::rest) pos) tb):PMW X (.BoolOp .And (a::b::rest) pos) (Xl ta tb):=Qgi (Qlf e d) fun _ _ _=>QiK
theorem Wn(e:PMT X a ta)(d:PMW X (.BoolOp .Or (b::rest) pos) tb):PMW X (.BoolOp .Or (a::b::rest) pos) (QdQ ta tb):=Qgi (Qof e d) fun _ _ _=>Qlj
theorem Qd3(j:PMT X a ta):PMT X (.UnaryOp .Not a pos) (Qes ta):=QcU (QkU j) <|by
 rintro p H Q ⟨R,d,h,w,q,i,st,e,k⟩
 obtain⟨⟨a,l⟩,m,n⟩:=Na.mp e;cases n;exact⟨R,d,h,a,l,i,st,m,fun R1 o g f=>k R1 o g f⟩
theorem Gh(n:PMT X c ta)(p:PM X a ma)(o:PM X b mb):PM X (.IfExp c a b pos) (mIf ta ma mb):=Q7 (Qgb n p o) <|by
 rintro r H Q ⟨R,d,h,w,j,m,st,e,k⟩
 obtain⟨⟨t,i⟩,q,l⟩:=Na.mp e;refine⟨R,d,h,t,i,m,st,q,fun R1 s g f=>?_⟩;cases t with
 |true=>exact Qjt ⟨R1,d,i,w,j,f,st.mono g,l,k.ext g⟩
 |false=>exact Qju ⟨R1,d,i,w,j,f,st.mono g,l,k.ext g⟩
noncomputable def Qif(h:MH):W->Option Bool
 |.non=>some false
 |.bl b=>some b
 |.int i=>some (i != 0)
 |.str x=>if x.length<=sizeLine then some ((x.length:Int) != 0)else none
 |.tup ws=>some (!ws.isEmpty)
 |.lst ws=>some (!ws.isEmpty)
 |.frz ws=>some (!ws.isEmpty)
 |.ref n=>match h[n]? with|some (.lst ws)=>some (!ws.isEmpty)|some (.dic kvs)=>some (!kvs.isEmpty)|_=>none
 |.ty _=>none
noncomputable def Qia(m:ME):MT:=fun d h=>(m d h).bind fun p=>(Qif p.2 p.1).map fun b=>(b,p.2)
theorem Rws.isEmpty{K:Nj}(r:Rws K R ws vs):ws.isEmpty=vs.isEmpty:=by
 have:=r.length;cases ws<;>cases vs<;>simp at this ⊢
theorem QjA{K:Nj}{v:V}{b:Bool}(j:Rh K R h H)(r:Rw K R w v)(e:Qif h w=some b):QmZ K v H b:=by
 cases w with
 |non=>rw[r.non_eq];cases e;rfl
 |bl b=>rw[r.bl_eq];cases e;rfl
 |int i=>rw[r.int_eq];cases e;rfl
 |str x=>
  rw[r.str_eq];simp only[Qif]at e;split at e
  ·rename_i q;cases e;exact⟨q,rfl⟩
  ·cases e
 |tup l=>
  obtain⟨a,g,rfl,f,d⟩:=j.tupAt r;cases e;exact .inr (.inl ⟨g,f,by rw[d.isEmpty]⟩)
 |lst l=>
  obtain⟨a,g,rfl,f,d⟩:=j.lstAt r;cases e;exact .inl ⟨g,SqL.of f,by rw[d.isEmpty]⟩
 |frz l=>
  obtain⟨a,g,rfl,f,d⟩:=j.frzAt r;cases e;exact .inl ⟨g,f,by rw[d.isEmpty]⟩
 |ref n=>
  simp only[Qif]at e;split at e
  ·rename_i l o;cases e;obtain⟨_,rfl,g,f,d⟩:=j.refAt r o;exact .inl ⟨g,SqL.of f,by rw[d.isEmpty]⟩
  ·rename_i m o;cases e;unfold Rw at r;obtain⟨p,f,d⟩:=j.obj n _ o;rw[r.2];refine .inr (.inr ⟨p,f,?_⟩);have:=Ec d;cases m<;>cases p<;>simp at this ⊢
  ·cases e
 |ty _=>cases e
theorem WQ(n:PM X a ma)(m:∀whole,isTrue a X.env whole=(do let v <-whole;standAt a.pos;holding [v] (truthy v)):=by intro _;rfl):PMT X a (Qia ma):=
 QcU (QfW n m) fun t H Q g=>by
  obtain⟨R,f,h,w,y,l,st,e,k⟩:=g;obtain⟨⟨a,u⟩,p,r⟩:=Na.mp e;obtain⟨b,o,q⟩:=Nk.mp r;cases q;exact⟨R,f,h,a,_,l,st,p,fun R1 s x i d j=>⟨_,QjA d j o,k R1 s i d⟩⟩
end
noncomputable def UJ:Expr->Bool
 |.ListComp ..=>true
 |.SetComp ..=>true
 |.DictComp ..=>true
 |_=>false
theorem Yk(h:UJ e=false):swapsWith e t l env=pure false:=by
 cases e<;>first|rfl|cases h
noncomputable def QP:SM:=fun a h=>some (.nx a h)
noncomputable def Qt(a b:SM):SM:=fun d h=>(a d h).bind fun r=>match r with|.nx c e=>b c e|r=>some r
noncomputable def Zm(m:ME):SM:=fun a h=>(m a h).map fun p=>.rt p.1 p.2
noncomputable def Ql7:SM:=fun a h=>some (.ct a h)
noncomputable def Jq(t:MT)(a b:SM):SM:=fun c h=>(t c h).bind fun p=>match p.1 with|true=>a c p.2|false=>b c p.2
noncomputable def ZQ(m:ME):SM:=fun a h=>(m a h).map fun p=>.nx a p.2
noncomputable def Q4(i:Nat)(m:ME):SM:=fun a h=>(m a h).map fun p=>.nx (a.set i (some p.1)) p.2
noncomputable def QiD(i:Nat)(f:W->W->MH->Option (W×MH))(m:ME):SM:=fun a h=>match a[i]? with
 |some (some x)=>(m a h).bind fun p=>(f x p.1 p.2).map fun q=>.nx (a.set i (some q.1)) q.2
 |_=>none
section
variable{X:Cx}{st:Stmt}{rest:List Stmt}{a b:SM}{e:Expr}{m:ME}{pos:Pos}
theorem QhI:Qef X [] QP:=QcL Qil <|by
 rintro D d H ⟨R,c,h,r,f,s,e,k⟩
 cases e;exact k R H d (Ext.refl _) f s
theorem YW{K:Nj}(q:tS K (Qt a b) D σ H):QoS (tS K a) (tS K b) D σ H:=by
 obtain⟨R,g,h,r,p,s,e,k⟩:=q;obtain⟨j,t,f⟩:=Na.mp e;refine⟨R,g,h,j,p,s,t,?_⟩;cases j with
 |nx c d=>exact fun R1 u l n i o=>⟨R1,c,d,r,i,o,f,Ends.ext k n⟩
 |rt w d=>cases f;exact k
 |bk c d=>cases f;exact k
 |ct c d=>cases f;exact k
theorem Qf9(c:PMS X st a)(h2:Qef X rest b):Qef X (st::rest) (Qt a b):=QcL (Qe3 c h2) fun _ _ _=>YW
theorem Qiu(c:PMS X st a):Qef X [st] a:=Qie c
theorem GC:PMS X (.Continue pos) Ql7:=VT GU <|by
 rintro D d H ⟨R,c,h,r,f,s,e,k⟩
 cases e;exact k R H d (Ext.refl _) f s
theorem Qfz(l:PM X e m)(j:UJ e=false:=by rfl):PMS X (.Expr e pos) (ZQ m):=VT (QhN l (Yk j)) <|by
 rintro D g H ⟨R,c,h,r,i,s,e,k⟩
 obtain⟨⟨w,n⟩,p,o⟩:=Nk.mp e;cases o;exact⟨R,c,h,w,n,i,s,p,fun R1 q v f d _=>k R1 q g f d (s.mono f)⟩
theorem Qi7(f:PM X e m):PMS X (.Return (some e) pos) (Zm m):=VT (Qlq f) <|by
 rintro D l H ⟨R,c,h,r,d,s,e,k⟩
 obtain⟨⟨w,g⟩,j,i⟩:=Nk.mp e;cases i;exact⟨R,c,h,w,g,d,s,j,k⟩
theorem QlV(n:PMT X c t)(p:Qef X sa a)(o:Qef X sb b):PMS X (.If c sa sb pos) (Jq t a b):=VT (QmA n p o) <|by
 rintro D u H ⟨R,d,h,r,l,s,e,k⟩
 obtain⟨⟨z,i⟩,q,j⟩:=Na.mp e;refine⟨R,d,h,z,i,l,s,q,fun R1 v g f=>?_⟩;cases z with
 |true=>exact Qjt ⟨R1,d,i,r,f,s.mono g,j,Ends.ext k g⟩
 |false=>exact Qju ⟨R1,d,i,r,f,s.mono g,j,Ends.ext k g⟩
theorem QhX(hN:X.N.Nodup)(hi:X.N[i]?=some x)(n:Loc X.env.scope x)(q:PM X e m)(o:UJ e=false:=by rfl)(p:X.fn x=true\/X.env.scope.names.lookup x=some .local:=by first|exact .inl rfl|exact .inr rfl|assumption) :
  PMS X (.Assign [.Name x g] e pos) (Q4 i m):=VT (QlE hN hi n q (Yk o) p) <|by
 rintro D A H ⟨R,c,h,r,l,s,e,k⟩
 obtain⟨⟨w,t⟩,y,u⟩:=Nk.mp e;cases u;exact⟨R,c,h,w,t,l,s,y,fun R1 z v f d j=>k R1 z _ f d ((s.mono f).set j)⟩
theorem QlC(c:OpR X (inplaceOp op) r):PIp X op r:=c
theorem Qaj(hN:X.N.Nodup)(hi:X.N[i]?=some x)(I:Loc X.env.scope x)(L:OpR X (inplaceOp op) r)(M:OpM X.K r f)(O:PM X e m)
  (p:X.fn x=true\/X.env.scope.names.lookup x=some .local:=by first|exact .inl rfl|exact .inr rfl|assumption):PMS X (.AugAssign (.Name x t) op e pos) (QiD i f m):=
 VT (Qj0 hN hi I O (QlC L) p) fun D σ H A=>by
  obtain⟨R,c,h,r,G,s,e,k⟩:=A;unfold QiD at e;split at e
  ·rename_i B n;obtain⟨⟨w,u⟩,Y,U⟩:=Na.mp e;obtain⟨⟨z,P⟩,S,Q⟩:=Nk.mp U;cases Q;obtain⟨v0,o,g⟩:=s.2 i _ n;refine⟨v0,o,R,c,h,w,u,G,s,Y,fun R1 H1 v d l E=>?_⟩;exact M _ _ _ _ ⟨R1,u,B,w,z,P,l,Rw.mono d _ _ g,E,S,fun R2 Z y q j C=>k R2 Z _ (d.trans q) j ((s.mono (d.trans q)).set C)⟩
  ·cases e
end
noncomputable def Qjw(r:Option MF):Option (W×MH):=match r with|some (.rt w h)=>some (w,h)|some (.nx _ h)=>some (.non,h)|_=>none
noncomputable def Qx(more:Nat)(m:SM):FM:=fun a h=>Qjw (m (a.map some++List.replicate more none) h)
theorem Rst.start{K:Nj}(r:Rws K R ws vs)(k:Nat)(d:N.length=ws.length+k):Rst K R (ws.map some++List.replicate k none) (start N vs):=by
 have c:=r.length;unfold L2.start;refine⟨by simp[d,c],fun i w e=>?_⟩
 by_cases b:i<ws.length
 ·rw[NQ (by simpa using b)]at e;rw[NQ (by simpa[<-c]using b)];rw[Nz]at e ⊢;obtain⟨j,a,h⟩:=Nk.mp e;cases h;obtain⟨v,g,f⟩:=r.get a;exact⟨v,by rw[g];rfl,f⟩
 ·rw[N2 (by simpa using b)]at e;rw[IP]at e;split at e<;>cases e
section
variable{P:Program}{w:World}{K:Nj}{mg:Str->Option Value}{base:Heap}
theorem Qoe{st:Stmt}{N ps:List Str}{m:SM}(F:Fun K x c st f fd)(S:FnScope N ps (Qf st))(hN:N.length=ps.length+more)
  (g:∀(b:Value) (A:Around) (a:List Env) (s:Shared) (H:Hp) (E:XK),Room k (A.deeper (envOfC c (Qf st) s.heap.objs.size f b))->Qef (QgR CX0 P w K mg base N c (Qf st) f b A a s H E).nox (J8 st) m) :
  FnOk P w K mg base CX0 (k+1) f fd ps (spM K ps.length (Qx more m)):=by
 refine F.ok S (fun v H Q E q=>?_) (fun b A a s H v Q E hr q=>?_)
 ·obtain⟨R,u,h,w,z,l,j,d,_⟩:=q;rw[<-d.length];exact l
 ·refine⟨_,g b A a s H E hr,?_⟩;obtain⟨R,u,h,w,z,l,j,d,e,o⟩:=q;have st:=Rst.start (N:=N) d more (by rw[hN,l]);unfold Qx Qjw at e;split at e
  ·rename_i C y n;cases e;exact⟨R,_,h,_,j,st,n,o⟩
  ·rename_i p y n;cases e;exact⟨R,_,h,_,j,st,n,fun R1 B r t i _=>o R1 B .non t i Rw.non⟩
  ·cases e
end
section
variable{X:Cx}{CX:CXT}{k:Nat}{f:Addr}{fd:FuncData}{ps:List Str}{g:FM}{E:XK}{x:Str}{p pos:Pos}{e:Expr}{es:List Expr}{ms:MA}
noncomputable def Qi(n:Nat)(g:FM)(ms:MA):ME:=mFn (fun a h=>if a.length=n then g a h else none) ms
theorem Qd9{K:Nj}(q:tI K (Qi n g ms) σ H Q):QhO (spM K n g) [] E (tIA K ms) σ H Q:=by
 refine WZ (Qci q) fun l m b=>?_;obtain⟨R,h,c,w,j,d,a,e,k⟩:=b;dsimp only at e;split at e
 ·rename_i i;exact⟨R,c,h,w,j,i,d,by rw[EE];exact a,e,k⟩
 ·cases e
theorem QhB(F:FnOk X.prog X.w X.K X.mg X.base CX k f fd ps (spM X.K ps.length g))(hr:Room k X.A)(i:Gl X x)(d:X.mg x=some (.ref f))(h:Dg X.K (.ref f)=true)(l:Binds X.K fd ps [])(c:Wy CX X E)
  (m:PMA X (e::es) ms) (b:(x==("__debug__":Str))=false:=by decide) (j:V2 e=false:=by rfl) (a:Xq es=true:=by rfl) :
  PM X (.Call (.Name x p) (e::es) [] pos) (Qi ps.length g ms):=Q7 (Qi4 F hr i d h l .nil c m b (Q1 j) (JS a)) fun _ _ _=>Qd9
theorem Qgd(F:FnOk X.prog X.w X.K X.mg X.base CX k f fd ps (spM X.K ps.length g))(hr:Room k X.A)(l:Gl X x)(i:X.mg x=some (.ref f))(j:Dg X.K (.ref f)=true)(m:Binds X.K fd ps [])(d:Wy CX X E)
  (a:(x==("__debug__":Str))=false:=by decide):PM X (.Call (.Name x p) [] [] pos) (Qi ps.length g Qd):=Q7 (QfZ F hr l i j m .nil d a) fun n H Q q=>by
 obtain⟨R,b,h,o,r,c,st,e,k⟩:=Qd9 (E:=E) q;cases e;exact k R H [] (Ext.refl _) c Rws.nil
end
section
variable{X:Cx}{x:Str}{p pos:Pos}{e:Expr}{es:List Expr}{ms:MA}{id T:String}{r:List V->Hp->VK->Prop}{f:List W->MH->Option (W×MH)}
theorem X8(m:CallR X (.builtin id) r)(j:Qhh X.K r f)(i:Gl X x)(h:X.mg x=none)(d:bootBuiltins x=some (.builtin id))(n:PMA X (e::es) ms)(g:x≠"__name__":=by decide)(b:(x==("__debug__":Str))=false:=by decide)
  (l:V2 e=false:=by rfl) (a:Xq es=true:=by rfl):PM X (.Call (.Name x p) (e::es) [] pos) (mFn f ms):=
 Q7 (Qf4 m i h d n g b (Q1 l) (JS a)) fun _ _ _ q=>WZ (Qci q) fun _ _ c=>j _ _ _ c
theorem XY(m:CallR X (.type T) r)(j:Qhh X.K r f)(i:Gl X x)(h:X.mg x=none)(d:bootBuiltins x=some (.type T))(n:PMA X (e::es) ms)(g:x≠"__name__":=by decide)(b:(x==("__debug__":Str))=false:=by decide)
  (l:V2 e=false:=by rfl) (a:Xq es=true:=by rfl):PM X (.Call (.Name x p) (e::es) [] pos) (mFn f ms):=
 Q7 (Qcp m i h d n g b (Q1 l) (JS a)) fun _ _ _ q=>WZ (Qci q) fun _ _ c=>j _ _ _ c
end
inductive Src where
 |l (n:Nat)
 |d (n:Nat)
 |r (n:Nat)
noncomputable def Src.ok(items:List W)(h:MH):Src->Prop
 |.l n=>h[n]?=some (.lst items)
 |.d n=>∃kvs,h[n]?=some (.dct kvs)/\kvs.map (·.1)=items
 |.r n=>h[n]?=some (.lst items.reverse)
def live(src:Option Src)(items:List W)(h:MH):Prop:=∀n,src=some n->n.ok items h
noncomputable abbrev MI:=MSt->MH->Option (List W×Option Src×MH)
structure ItOk(K:Nj)(R:Rn)(J:It)(items:List W)(src:Option Src):Prop where
 go:∀i w R' h H,Ext R R'->Rh K R' h H->live src items h->items[i]?=some w->J.go i H
 yld:∀i w R' h H x H',Ext R R'->Rh K R' h H->live src items h->items[i]?=some w->J.yld i H x H'->∃R'',Ext R' R''/\Rh K R'' h H'/\Rw K R'' w x
 stop:∀i R' h H,Ext R R'->Rh K R' h H->live src items h->items.length<=i->J.stop i H
noncomputable def tII(K:Nj)(m:MI):TI:=fun f H C=>∃R a h items b d,Rh K R h H/\Rst K R a f/\m a h=some (items,b,d)/\∀c e J,Ext R c->Rh K c d e->ItOk K c J items b->C J e
def PMI(X:Cx)(a iter:Expr)(m:MI):Prop:=PI X a iter (tII X.K m)
theorem Qa4(h:PI X b iter t)(i:∀σ H C,t' σ H C->t σ H C):PI X b iter t':=fun a s σ H C I q=>h a s σ H C I (i _ _ _ q)
noncomputable abbrev MG:=W->MSt->MH->Option MSt
noncomputable def tIG(K:Nj)(b:MG):TG:=fun v g H C=>∃R a h w c,Rh K R h H/\Rst K R a g/\Rw K R w v/\b w a h=some c/\∀e f d,Ext R e->Rh K e h f->Rst K e c d->C d f
def PMG(X:Cx)(a:Expr)(b:MG):Prop:=PG X a (tIG X.K b)
theorem QgJ(h:PG X b t)(i:∀v σ H C,t' v σ H C->t v σ H C):PG X b t':=fun a s σ H v u C I r q=>h a s σ H v u C I r (i _ _ _ _ q)
noncomputable def JM(i:Nat):MG:=fun w a _=>some (a.set i (some w))
theorem QA(hN:X.N.Nodup)(hi:X.N[i]?=some x)(d:Loc X.env.scope x)(f:X.fn x=true\/X.env.scope.names.lookup x=some .local:=by first|exact .inl rfl|exact .inr rfl|assumption) :
  PMG X (.Name x pos) (JM i):=QgJ (Qdz hN hi d f) <|by
 rintro v g H C ⟨R,a,h,w,b,c,st,rw,e,k⟩
 cases e;exact k R H _ (Ext.refl _) c (st.set rw)
open Classical in
noncomputable def X1(items:List W)(src:Option Src)(b:MG)(body:SM):List W->SM
 |[],σ,h=>if live src items h then some (.nx σ h)else none
 | w::r,σ,h=>if live src items h then(b w σ h).bind fun a=>(body a h).bind fun z=>match z with
   |.nx σ2 h2=>X1 items src b body r σ2 h2
   |.ct σ2 h2=>X1 items src b body r σ2 h2
   |.bk σ2 h2=>some (.nx σ2 h2)
   |.rt v h2=>some (.rt v h2)
  else none
noncomputable def K3(mi:MI)(b:MG)(body:SM):SM:=fun a h=>(mi a h).bind fun p=>X1 p.1 p.2.1 b body p.1 a p.2.2
section
variable{X:Cx}{tg iter:Expr}{body:List Stmt}{mi:MI}{b:MG}{m:SM}{pos:Pos}
theorem Qj4{K:Nj}(q:tS K (K3 mi b m) D σ H):Qpw (tII K mi) (tIG K b) (tS K m) D σ H:=by
 obtain⟨R,A,h,r,rh,s,e,k⟩:=q;obtain⟨⟨items,t,h1⟩,e1,e2⟩:=Na.mp e;refine⟨R,A,h,items,t,h1,rh,s,e1,fun R1 H1 J x1 ae it=>?_⟩;refine⟨fun i n σ H=>i+n=items.length/\∃R2 g l,Ext R1 R2/\Rh K R2 l H/\Rst K R2 g σ/\∃r,X1 items t b m (items.drop i) g l=some r/\Ends K R2 D r,⟨items.length,by simp,R1,A,h1,Ext.refl _,ae,s.mono x1,r,by simpa using e2,Ends.ext k x1⟩,?_⟩
 rintro i n E U ⟨ah,R2,g,l,I,j,s2,r2,d,M⟩
 by_cases N:i<items.length
 ·obtain⟨w,hw⟩:∃w,items[i]?=some w:=⟨items[i],Nl N⟩
  have hd:items.drop i=w::items.drop (i+1):=by
   rw[Ea N];rw[Nl N]at hw;cases hw;rfl
  rw[hd]at d;unfold X1 at d;split at d
  ·rename_i Q;obtain⟨C,e4,e5⟩:=Na.mp d;obtain⟨z,e6,S⟩:=Na.mp e5;refine .inr ⟨it.go i w R2 l U I j Q hw,fun G Y=>∃y B h4,Ext R1 y/\Rh K y h4 Y/\Rst K y B G/\∃r,X1 items t b m (items.drop (i+1)) B h4=some r/\Ends K y D r,fun G Y hn=>⟨n-1,by omega,by omega,hn⟩,fun x Y hy=>?_⟩;obtain⟨y,p,ab,Z⟩:=it.yld i w R2 l U x Y I j Q hw hy;refine⟨y,g,l,w,C,ab,s2.mono p,Z,e4,fun R4 H4 af u aa s4=>?_⟩;refine⟨R4,C,l,z,aa,s4,e6,?_⟩;cases z with
   |nx f O=>exact fun P H5 a o c L=>⟨P,f,O,I.trans (p.trans (u.trans o)),c,L,r2,S,Ends.ext M (p.trans (u.trans o))⟩
   |ct f O=>exact fun P H5 a o c L=>⟨P,f,O,I.trans (p.trans (u.trans o)),c,L,r2,S,Ends.ext M (p.trans (u.trans o))⟩
   |bk f O=>cases S;exact fun P H5 a o c L=>M P H5 a (p.trans (u.trans o)) c L
   |rt v O=>cases S;exact After.ext M (p.trans u)
  ·cases d
 ·have hd:items.drop i=[]:=Ee (NN.mp N);rw[hd]at d;unfold X1 at d;split at d
  ·rename_i Q;cases d;exact .inl ⟨it.stop i R2 l U I j Q (NN.mp N),M R2 U E (Ext.refl _) j s2⟩
  ·cases d
theorem JI(c:PassesOwn (model X.prog X.w) X.A X.env X.xe)(e:X.calm=true)(hi:PMI X tg iter mi)(d:PMG X tg b)(f:Qef X body m)
  (a:∀x,foldedSetIterable iter X.env x=pure x:=by intro _;rfl):PMS X (.For tg iter body [] pos) (K3 mi b m):=VT (Qlb c e hi d f a) fun _ _ _=>Qj4
end
noncomputable def QQ(t:MT)(body:SM):Nat->SM
 |0,_,_=>none
 | n+1,σ,h=>(t σ h).bind fun p=>match p.1 with
  |false=>some (.nx σ p.2)
  |true=>(body σ p.2).bind fun z=>match z with
   |.nx σ2 h2=>QQ t body n σ2 h2
   |.ct σ2 h2=>QQ t body n σ2 h2
   |.bk σ2 h2=>some (.nx σ2 h2)
   |.rt v h2=>some (.rt v h2)
section
variable{X:Cx}{c:Expr}{body:List Stmt}{t:MT}{m:SM}{pos:Pos}
theorem Qf6{K:Nj}(q:tS K (QQ t m n) D σ H):QgD (tIT K t) (tS K m) D σ H:=by
 obtain⟨R,E,h,r,Z,s,e,k⟩:=q;refine⟨fun n σ H=>∃R2 b B,Rh K R2 B H/\Rst K R2 b σ/\∃r,QQ t m n b B=some r/\Ends K R2 D r,⟨n,R,E,h,Z,s,r,e,k⟩,?_⟩
 rintro n j H2 ⟨R2,b,B,I,G,O,L,w⟩
 cases n with
 |zero=>cases L
 | succ n=>
  unfold QQ at L;obtain⟨⟨z,Q⟩,e3,S⟩:=Na.mp L;refine⟨R2,b,B,z,Q,I,G,e3,fun U H3 g u=>?_⟩;cases z with
  |false=>
   cases S;exact Qju (w U H3 j g u (G.mono g))
  |true=>
   obtain⟨y,e5,C⟩:=Na.mp S;refine Qjt ⟨fun l Y=>∃M i P,Rh K M P Y/\Rst K M i l/\∃r,QQ t m n i P=some r/\Ends K M D r,fun l Y hn=>⟨n,N1 _,hn⟩,?_⟩;refine⟨U,b,Q,y,u,G.mono g,e5,?_⟩;cases y with
   |nx f x=>exact fun A N a o d p=>⟨A,f,x,d,p,O,C,Ends.ext w (g.trans o)⟩
   |ct f x=>exact fun A N a o d p=>⟨A,f,x,d,p,O,C,Ends.ext w (g.trans o)⟩
   |bk f x=>cases C;exact fun A N a o d p=>w A N a (g.trans o) d p
   |rt v x=>cases C;exact After.ext w g
theorem YA(n:Nat)(a:PassesOwn (model X.prog X.w) X.A X.env X.xe)(b:PMT X c t)(d:Qef X body m):PMS X (.While c body [] pos) (QQ t m n):=VT (QeL a b d) fun _ _ _=>Qf6
end
section
variable{prog:Program}{w:World}{A:Around}{E:Value->Shared->Prop}{R:Result->Shared->Prop}{s:Shared}
theorem QaG(I:Nat->Shared->Prop)
  (q:∀n s,I n s->wpAny (model prog w) A (pyNext it) (fun r d=>match r with
   |none=>R (.ok .next) d
   | some v=>wpAny (model prog w) A (letOwnedTupleGo target it v) (fun _ b=>wpAny (model prog w) A (assign target env v) (fun _ i=>
     wpAny (model prog w) A (forIn t true fun c r=>if r=true then do let ok <-isTrue c env (eval c env);pure (ForInStep.yield ok)else pure (ForInStep.yield r)) (fun ok a=>
      if ok=true then wpAny (model prog w) A (eval B env) (fun x g=>
       wpAny (model prog w) A (call (.builtin "list.append") [C,x]) (fun _ f=>∃m,m<n/\I m f) (fun _ _=>False) g) (fun _ _=>False) a
      else∃m,m<n/\I m a) (fun _ _=>False) i) (fun _ _=>False) b) (fun _ _=>False) d) (fun _ _=>False) s)
  (n:Nat) (h:I n s) :
  codeAny (model prog w) A (.compLoop (.ListComp B [⟨target,iter,t,0⟩] o pos) 0 it C env) R s:=by
 refine codeAny_loop rfl I (fun n s D=>?_) n h;show wpAny _ A ((compTurn (.ListComp B [⟨target,iter,t,0⟩] o pos) 0 it C env).onRaise (fun x=>do noteFrame x env;theTreesLotGoes x)) _ _ s;refine wpAny_noted ?_;rw[compTurn_list];refine Nc (LQ (Nc (NU (q n s D) (fun r d l=>?_) fun _ _ e=>e.elim)));cases r with
 |none=>exact Nq l
 | some v=>
  refine Nc (NU l (fun _ b p=>?_) fun _ _ e=>e.elim);refine Nc (NU p (fun _ i z=>Nc (NU z (fun ok a j=>?_) fun _ _ e=>e.elim)) fun _ _ e=>e.elim);cases ok with
  |false=>exact Nq ⟨rfl,j⟩
  |true=>
   exact Nc (Nc (NU j (fun x g y=>Nc (NU y (fun _ f u=>Nq (Nq ⟨rfl,u⟩)) fun _ _ e=>e.elim)) fun _ _ e=>e.elim))
end
theorem sz{h:Heap}(e:h.get? b=some o)(a:h.objs.size<=n):¬b=n:=fun z=>by
 have c:@LT.lt Nat instLTNat b h.objs.size:=ND e;subst z;exact Ed _ (Nd c a)
noncomputable abbrev blk(X:Cx)(a:Scope)(b:List (Str×Addr))(Nb:List Str)(s₀:Shared)(H₀:Hp)(C:Addr)(ex:List Addr)(pn:List (Addr×Obj)):Cx:=
 { X with N:=Nb,s₀:=s₀,H₀:=H₀,env:=compEnvC a b C X.env,outer:=X.stack,stack:=X.stack,ex:=ex,fn:=fun _=>false,pn:=pn,xe:=fun _ _=>False }
structure BlkOk(X:Cx)(scope:Scope)(cl:List (Str×Addr))(Nb:List Str)(cp:List (Option Nat)):Prop where
 clos:closureFor scope X.env=pure cl
 cell:∀y∈scope.names,y.2≠.cell
 kind:scope.kind=.function
 names:∀y∈scope.names,y.2=.local->scope.names.lookup y.1=some .local
 sub:∀x c,cl.lookup x=some c->X.env.cells.lookup x=some c
 has:∀x,((relabel scope X.env).names.lookup x=some .cell\/(relabel scope X.env).names.lookup x=some .free)->∃c,cl.lookup x=some c
 len:cp.length=Nb.length
 cap:∀(i j:Nat) (x:Str),cp[i]?=some (some j)->Nb[i]?=some x->X.N[j]?=some x/\Vis X.env.scope x/\(X.env.kindOf x=some .cell\/X.env.kindOf x=some .free)/\((relabel scope X.env).names.lookup x=some .cell\/(relabel scope X.env).names.lookup x=some .free)
noncomputable def U5(cp:List (Option Nat))(σ:L2.St):L2.St:=cp.map fun o=>match o with|none=>none|some j=>match σ[j]? with|some v=>v|none=>none
noncomputable def Qfu(l:TI)(cp:List (Option Nat))(g:TG)(tt:TT)(te:TE):TE:=fun f H Q=>l f H fun J p=>∃W:Nat->Nat->List V->L2.St->Hp->Prop,(∃m,W 0 m [] (U5 cp f) p)/\∀i m a e H,W i m a e H ->
 (J.stop i H/\∀D,H D=none->Q (.ref D) (upd H D (.lst a))) \/
 (J.go i H/\∀x j,J.yld i H x j->g x e j fun c o=>tt c o fun b h=>if b=true then te c h fun v n=>a.length<sizeLine/\∃d,d<m/\W (i+1) d (a++[v]) c n else∃d,d<m/\W (i+1) d a c h)
theorem Inv.track(I:Inv X d σ H s)(g:H D=none)(m:X.s₀.heap.objs.size<=D)(l:X.env.locals≠D)(j:∀x c,X.env.cells.lookup x=some c->c≠D)
  (i:∀p∈X.pn++d,p.1≠D) (ob:ObjOk X.prog X.w (upd H D o) s.heap D o):Inv X d σ (upd H D o) s where
 ok:=I.ok
 os:=I.os
 bare:=I.bare
 base:={
  keep:=I.base.keep
  slot:=I.base.slot
  free:=fun b q e n nx=>by
   have:b≠D:=sz e m;rw[Qp this];exact I.base.free b q e n nx
  there:=I.base.there
  tups:=fun b h e=>by
   have q:=I.base.tups b h e;rw[Qp (fun z=>by rw[z,g]at q;cases q)];exact q
  frzs:=fun b q u e=>by
   have z:=I.base.frzs b q u e;rw[Qp (fun y=>by rw[y,g]at z;cases z)];exact z
  tbls:=fun b ps e=>by
   obtain⟨more,q⟩:=I.base.tbls b ps e
   exact⟨more,by rw[Qp (fun z=>by rw[z,g]at q;cases q)];exact q⟩ }
 loc:=I.loc
 cell:=I.cell
 free:=by rw[Qp l];exact I.free
 freeC:=fun x c e=>by rw[Qp (j x c e)];exact I.freeC x c e
 pin:=fun p f=>by
  obtain⟨a,b,c⟩:=I.pin p f;exact⟨a,by rw[Qp (i p f)];exact b,c⟩
 hok:=fun a u e=>by
  by_cases z:a=D
  ·subst z;rw[ZK]at e;cases e;exact ob
  ·rw[Qp z]at e;refine(I.hok a u e).stay (fun _ _ _ q=>q) (fun b q=>?_) (fun b h q=>?_)
   ·rw[Qp (fun y=>by rw[y,g]at q;cases q)];exact q
   ·rw[Qp (fun y=>by rw[y,g]at q;cases q)];exact q
 len:=I.len
section
variable{X:Cx}{elt tg iter:Expr}{ifs:List Expr}{scope:Scope}{pos:Pos}{cl:List (Str×Addr)}{Nb:List Str}{cp:List (Option Nat)}{wi:TI}{g:TG}{tt:TT}{te:TE}
theorem Cx.Ok.blk(B:BlkOk X scope cl Nb cp)(I:Inv X d σ H s)(f:∀b∈l,Qck X d H b)(i:∀b∈l,b<s.heap.objs.size)(j:s.heap.objs.size<=C) :
  (blk X scope cl Nb s H C l p).Ok where
 mod:=I.ok.mod
 kind:=B.kind
 glob:=I.ok.glob
 blt:=I.ok.blt
 above:=j
 inj:=fun x y c n m=>I.ok.inj x y c (B.sub x c n) (B.sub y c m)
 has:=fun x h=>B.has x h
 cab:=fun x c h=>absurd h (by simp)
 hd:=I.ok.hd
 frames:=I.ok.frames
 stk:=.inl rfl
 exf:=fun b a=>⟨fun z=>by have:=i b a;rw[z]at this;exact absurd j (DS.mpr this),fun x c e=>(f b a).2.2.2.2.1 x c (B.sub x c e)⟩
 bs:=I.bs
 bsz:=Nh I.ok.bsz I.sz
 noex:=fun b o e a=>by
  rcases(f b a).2.2.2.1 with z|z
  ·exact I.ok.noex b o e z
  ·exact sz e (Nh I.ok.bsz z) rfl
 exfs:=fun b a z=>by
  have:=I.stkSub b z
  rcases NH.mp this with q|q
  ·exact(f b a).2.1 q
  ·exact(f b a).2.2.1 q
 funs:=I.stack
 frf:=fun b a=>I.stkFree b a
theorem Qdh{cp:List (Option Nat)}{σ:L2.St}{i:Nat}{v:V}(e:(U5 cp σ)[i]?=some (some v)):∃j,cp[i]?=some (some j)/\σ[j]?=some (some v):=by
 unfold U5 at e;rw[Nz]at e;obtain⟨o,b,a⟩:=Nk.mp e;cases o with
 |none=>cases a
 |some j=>
  refine⟨j,b,?_⟩;simp only at a;split at a
  ·rename_i u hu;rw[hu,a]
  ·cases a
theorem Inv.blk{H:Hp}{C:Addr}{O:List Addr}{tk:Nat}(B:BlkOk X scope cl Nb cp)(I:Inv X f σ H s)(Q:∀b∈O,Qck X f H b)(G:∀b∈O,b<s.heap.objs.size)
  (L:s.heap.objs.size<=C) (D:h'.Ns C m) (y:∀b o,s.heap.get? b=some o->h'.get? b=some o):Inv (Mi.blk X scope cl Nb s H C O (X.pn++f)) [] (U5 cp σ) H { s with heap:=h',toks:=tk } where
 ok:=Cx.Ok.blk B I Q G L
 os:=rfl
 bare:=I.bare
 base:=Un.kept y
 loc:=by
  refine⟨m,D,fun i x v hN e hv=>?_⟩;obtain⟨j,Z,Y⟩:=Qdh e;obtain⟨U,t,E,w⟩:=B.cap i j x Z hN;obtain⟨m0,n0,lk⟩:=I.loc;obtain⟨u,r,l⟩:=lk j x v U Y t;refine⟨u,r,?_⟩
  rcases l with⟨h,_⟩|⟨_,c,S,n⟩
  ·rcases E with z|z<;>rw[z]at h<;>cases h
  ·refine .inr ⟨w,?_⟩;obtain⟨c',A⟩:=B.has x w;have:=B.sub x c' A;rw[S]at this;cases this
   exact⟨c,A,by
    obtain⟨o,N,M⟩:=n
    exact⟨o,y _ _ N,M⟩⟩
 cell:=fun x c e=>by
  obtain⟨v,o,N,M⟩:=I.cell x c (B.sub x c e);exact⟨v,o,y _ _ N,M⟩
 free:=I.hok.fresh L
 freeC:=fun x c e=>I.freeC x c (B.sub x c e)
 pin:=fun p P=>by
  rw[EE]at P;obtain⟨a,b,c,d,e⟩:=I.pin p P;refine⟨y _ _ a,b,fun z=>?_,fun z=>?_,e⟩
  ·have:=ND a;rw[z]at this;exact absurd L (DS.mpr this)
  ·rcases NH.mp (I.stkSub _ z)with q|q
   ·exact c q
   ·exact d q
 hok:=I.hok.kept y
 len:=by unfold U5;rw[NG];exact B.len
def QmF(X:Cx)(a:List (Addr×Obj))(σ:L2.St)(use:Option (Value->Sem Unit))(Q:VK)(Q':Value->Shared->Prop):Prop:=
 ∀(D C:Addr) (d:Hp) (b:Shared) (m:Str->Option Value),Inv X a σ d b->b.heap.Ns C m->d C=none->¬C=X.env.locals->X.s₀.heap.objs.size<=C->(∀x c,X.env.cells.lookup x=some c->c≠C)->(∀p∈X.pn++a,p.1≠C)->Q (.ref D) d ->
  compPost (model X.prog X.w) X.A X.xe use Q' (.ref D) C (.ok .next) b
theorem Qbb(hc:X.calm=true)(B:BlkOk X scope cl Nb cp)(hi:PI X tg iter wi)(hg:∀P U C ex pn,PG (Mi.blk X scope cl Nb P U C ex pn) tg g)
  (ht:∀P U C ex pn,∀(j:List (Addr×Obj)) (s:Shared) (τ:L2.St) (H:Hp) (Q:Bool->Hp->Prop),Inv (Mi.blk X scope cl Nb P U C ex pn) j τ H s->tt τ H Q ->
   wpAny (model X.prog X.w) X.A (forIn ifs true fun c r=>if r=true then do let ok <-isTrue c (compEnvC scope cl C X.env) (eval c (compEnvC scope cl C X.env));pure (ForInStep.yield ok)else pure (ForInStep.yield r)) (TP (Mi.blk X scope cl Nb P U C ex pn) j τ Q) (fun _ _=>False) s)
  (he:∀P U C ex pn,PE (Mi.blk X scope cl Nb P U C ex pn) elt te) (hs:∀x,foldedSetIterable iter X.env x=pure x)
  (I:Inv X j σ H s) (h:Qfu wi cp g tt te σ H Q) (a5:QmF X j σ use Q Q') :
  wpAny (model X.prog X.w) X.A (comprehension (.ListComp elt [⟨tg,iter,ifs,0⟩] scope pos) scope X.env br (newList []) false (eval iter X.env) use) Q' X.xe s:=by
 refine wpAny_comprehension_free (use:=use) rfl hs B.clos B.kind B.names (NU (hi j s σ H _ I h) (fun xv bq Z=>NU Z (fun bt f a2=>?_) fun _ _ e=>e) fun _ _ e=>e);obtain⟨it,fp,tn,J,H2,rfl,I2,T,ar,f2,W,⟨m0,w0⟩,ay⟩:=a2
 have au:∀b∈fp,b<f.heap.objs.size:=fun b E=>by
  obtain⟨o,e,_⟩:=T.obj _ _ ar b E;exact ND e
 refine EJ (wpAny_newFunctionEnv B.cell (by intro y hy;simp at hy) (fun Z N G=>?_) B.kind);dsimp only at N G ⊢;generalize av:f.heap.push { cls:=.type "list",dict:=none,data:=.seq ([]:List Value).toArray }=G2 at N G ⊢;have al:G2.objs.size=f.heap.objs.size+1:=by rw[<-av,FE]
 generalize bi:G2.objs.size=C at N G ⊢;rw[bi]at al;have ab:f.heap.objs.size<=C:=by exact Nh (Nm _ _) (Nt al.symm)
 have ai:f.heap.objs.size≠C:=by exact NM (Nd (N1 _) (Nt al.symm))
 have old:∀b o,f.heap.get? b=some o->Z.get? b=some o:=fun b o e=>G.extBut b o (sz e ab) (Np _ (av▸Np _ e));have an:Z.get? f.heap.objs.size=some { cls:=.type "list",data:=.seq ([]:List Value).toArray }:=G.extBut _ _ ai (Np _ (av▸NK _ rfl));generalize hD:f.heap.objs.size=D at an ai ab al ⊢;have m:f.heap.objs.size<=D:=Nt hD;have O:f.heap.objs.size<=C:=Nh m ab
 -- az ba context
 have I3:=Inv.blk (tk:=f.toks+([]:List (Str×Value)).length) B I2 f2 au (C:=C) (Nh (Nt hD) ab) N old;have ao:D∉fp:=fun z=>Ed _ (Nd (au D z) m);have a6:C∉fp:=fun z=>Ed _ (Nd (au C z) O)
 -- D in az block: not a a7,not a bc,not pinned
 have ax:∀x c,cl.lookup x=some c->c≠D:=fun x c e z=>by
  obtain⟨v,o,h3,_⟩:=I2.cell x c (B.sub x c e);exact sz h3 m z
 have ap:∀p∈X.pn++j,p.1≠D:=fun p S z=>sz (I2.pin p S).1 m z;have a9:∀p∈X.pn++j,p.1≠C:=fun p S z=>sz (I2.pin p S).1 O z
 have bm:D∉frs X.stack:=fun z=>by
  rcases NH.mp (I2.stkSub _ z)with q|q
  ·exact Ed _ (Nd (q▸I2.lt:D<f.heap.objs.size) m)
  ·exact I2.nofs m q
 have aj:∀{t:Hp} {pl:List (Addr×Obj)},(∀b∈fp,t b=none)->(∀p∈pl,p.1=D)->∀b∈fp,Qck (Mi.blk X scope cl Nb f H2 C fp (X.pn++j)) pl t b:=fun {t pl} hn bf b E=>
  ⟨hn b E,fun(z:b=C)=>a6 (z▸E),fun z=>by
   rcases NH.mp (I2.stkSub _ z)with q|q
   ·exact(f2 b E).2.1 q
   ·exact(f2 b E).2.2.1 q,.inl E,fun x c e=>(f2 b E).2.2.2.2.1 x c (B.sub x c e),fun p S z=>by
   rcases N9.mp S with q|q
   ·exact(f2 b E).2.2.2.2.2 p q z
   ·rw[bf p q]at z;exact ao (z▸E)⟩
 have bu:∀{t:Hp},(∀b∈fp,t b=none)->∀b∈fp,Qck X j t b:=fun hn b E=>⟨hn b E,(f2 b E).2⟩
 -- az end
 have fin:∀{τ:L2.St} {t:Hp} {M:Shared} {L:List V} {l:List Value} {n:Nat} {mC:Str->Option Value},Inv (Mi.blk X scope cl Nb f H2 C fp (X.pn++j)) [] τ t M->t D=none->M.heap.get? D=some { cls:=.type "list",data:=.seq l.toArray n }->Vals L l->L.length<=sizeLine->M.heap.Ns C mC ->
   (∀D,t D=none->Q (.ref D) (upd t D (.lst L)))->compPost (model X.prog X.w) X.A X.xe use Q' (.ref D) C (.ok .next) M:=by
  intro τ t M L l n mC Ib ak aw r hz bg q;have Ie:Inv X j σ t M:=I2.call' (ch:=fp) (Ib.os) Ib.base Ib.hok Ib.bare fun b E=>⟨(f2 b E).2.2.2.1,(f2 b E).2.1,(f2 b E).2.2.2.2.1,(f2 b E).2.2.2.2.2⟩
  have a3:X.s₀.heap.objs.size<=f.heap.objs.size:=I2.sz
  have It:Inv X j σ (upd t D (.lst L)) M:=Inv.track Ie ak (Nh a3 m) (fun z=>Ed _ (Nd (z▸I2.lt:D<f.heap.objs.size) m)) (fun x c e z=>by
   obtain⟨v,o,h3,_⟩:=I2.cell x c e
   exact sz h3 m z) ap ⟨hz,l,n,r,aw⟩
  exact a5 D C _ M mC It bg (by rw[Qp (EZ ai)];exact Ib.free) (fun z=>Ed _ (Nd (z▸I2.lt:C<f.heap.objs.size) O)) (Nh a3 O) (fun x c e z=>by
   obtain⟨v,o,h3,_⟩:=I2.cell x c e
   exact sz h3 O z) a9 (q D ak)
 have am:∀af:Shared,af={ f with heap:=Z,toks:=f.toks+([]:List (Str×Value)).length } ->
   codeAny (model X.prog X.w) X.A (.compLoop (.ListComp elt [⟨tg,iter,ifs,0⟩] scope pos) 0 (.ref it) (.ref D) (compEnvC scope cl C X.env))
    (compPost (model X.prog X.w) X.A X.xe use Q' (.ref D) C) af:=by
  rintro af rfl
  refine QaG (fun n M=>∃i τ t L l k,Inv (Mi.blk X scope cl Nb f H2 C fp (X.pn++j)) [] τ t M/\tn i M.heap/\(∀b∈fp,t b=none)/\t D=none/\M.heap.get? D=some { cls:=.type "list",data:=.seq (l:List Value).toArray k }/\Vals L l/\L.length<=sizeLine/\W i n L τ t) ?_ m0
   ⟨0,U5 cp σ,H2,[],[],_,I3,T.keep _ _ _ ar (fun b E o e=>old b o e),fun b E=>(f2 b E).1,I2.hok.fresh m,an,.nil,NJ _,w0⟩
  rintro n s3 ⟨i,τ,H3,L,l,k,Ib,a0,a8,ak,aw,r3,as,w3⟩
  have a1:∀{Y:L2.St} {t:Hp} {M:Shared},Inv (Mi.blk X scope cl Nb f H2 C fp (X.pn++j)) [] Y t M->t D=none->M.heap.get? D=some { cls:=.type "list",data:=.seq l.toArray k } ->
    Inv (Mi.blk X scope cl Nb f H2 C fp (X.pn++j)) [(D,{ cls:=.type "list",data:=.seq l.toArray k })] Y t M:=fun {Y t M} I' hn ho=>I'.pins_of fun p S=>by
   rw[NR]at S;subst S;exact⟨ho,hn,ai,bm,by intro v;simp⟩
  have bb:=a1 Ib ak aw;have aa:∀p∈[(D,({ cls:=.type "list",data:=.seq l.toArray k }:Obj))],p.1=D:=fun p S=>by rw[NR]at S;subst S;rfl
  have bd:∀{Y:L2.St} {t:Hp} {M:Shared},Inv (Mi.blk X scope cl Nb f H2 C fp (X.pn++j)) [(D,{ cls:=.type "list",data:=.seq l.toArray k })] Y t M->M.heap.get? D=some { cls:=.type "list",data:=.seq l.toArray k }/\t D=none:=fun I'=>by
   obtain⟨a,b,_⟩:=I'.pin (D,_) (NY _ (NR.mpr rfl));exact⟨a,b⟩
  rcases ay i n L τ H3 w3 with⟨stop,qn⟩|⟨go,step⟩
  ·refine NU (T.done (Mi.blk X scope cl Nb f H2 C fp (X.pn++j)) rfl rfl rfl hc i _ s3 τ H3 (fun _ _=>False) bb (aj a8 aa) a0 stop) (fun r s4 ⟨hr,I4⟩=>?_) fun _ _ z=>z.elim;subst hr;obtain⟨o4,n4⟩:=bd I4;obtain⟨m4,be,_⟩:=I4.loc;have bp:Inv (Mi.blk X scope cl Nb f H2 C fp (X.pn++j)) [] τ H3 s4:=I4.pins_of fun p S=>by cases S
   exact fin bp n4 o4 r3 as be qn
  ·refine NU (T.item (Mi.blk X scope cl Nb f H2 C fp (X.pn++j)) rfl rfl rfl hc i _ s3 τ H3 (fun _ _=>False) bb (aj a8 aa) a0 go) (fun r s4 ⟨u,hr,h4⟩=>?_) fun _ _ z=>z.elim;subst hr;refine NU h4 (fun _ s5 z1=>?_) fun _ _ z=>z.elim;obtain⟨x,H5,I5,r5,y5,aq,bj⟩:=z1;have bo:=I5.pinned (aj bj aa) (T.obj _ _ aq);refine NU (hg f H2 C fp (X.pn++j) _ s5 τ H5 x u _ bo r5 (step x H5 y5)) (fun _ s6 ⟨ae,H6,I6,q6⟩=>?_) fun _ _ z=>z.elim;refine NU (ht f H2 C fp (X.pn++j) _ s6 ae H6 _ I6 q6) (fun ok s7 ⟨H7,I7,q7⟩=>?_) fun _ _ z=>z.elim
   have ah:∀{Y:L2.St} {t:Hp} {M:Shared},Inv (Mi.blk X scope cl Nb f H2 C fp (X.pn++j)) ([(D,{ cls:=.type "list",data:=.seq l.toArray k })]++UR fp s5.heap) Y t M->tn (i+1) M.heap/\(∀b∈fp,t b=none)/\M.heap.get? D=some { cls:=.type "list",data:=.seq l.toArray k }/\t D=none:=fun {Y t M} I'=>by
    refine⟨T.keep _ _ _ aq fun b E o e=>(I'.pin (b,o) (NY _ (NY _ (V6 E e)))).1,fun b E=>?_,?_⟩
    ·obtain⟨o,e,d⟩:=T.obj _ _ aq b E;exact(I'.pin (b,o) (NY _ (NY _ (V6 E e)))).2.1
    ·obtain⟨a,b,_⟩:=I'.pin (D,{ cls:=.type "list",data:=.seq l.toArray k }) (NY _ (Et _ (NR.mpr rfl)));exact⟨a,b⟩
   cases ok with
   |false=>
    rw[if_neg Eu]at q7 ⊢;obtain⟨m',hm,w7⟩:=q7;obtain⟨t7,f7,o7,n7⟩:=ah I7;exact⟨m',hm,i+1,ae,H7,L,l,k,I7.pins_of (fun p S=>by cases S),t7,f7,n7,o7,r3,as,w7⟩
   | true=>
    rw[if_pos rfl]at q7 ⊢;refine NU (he f H2 C fp (X.pn++j) _ s7 ae H7 _ I7 q7) (fun y s8 z1=>?_) fun _ _ z=>z.elim;obtain⟨v8,H8,I8,r8,bh,m',hm,w8⟩:=z1;obtain⟨t8,f8,o8,n8⟩:=ah I8;have a4:=r3.length;refine FD FU ⟨_,o8,rfl⟩ L3 (LJ _ _) (OC D l.toArray k y (by rw[Nr];exact Nh (Nt a4.symm) as)) ⟨o8,?_⟩;have q:=OV o8 (·.push y);have hf:l.toArray.push y=(l++[y]).toArray:=by simp
    rw[hf]at q;have bn:Inv (Mi.blk X scope cl Nb f H2 C fp (X.pn++j)) [] ae H8 s8:=I8.pins_of fun p S=>by cases S
    have I9:Inv (Mi.blk X scope cl Nb f H2 C fp (X.pn++j)) [] ae H8 { s8 with heap:=s8.heap.update D (Obj.mapSeq (·.push y)),toks:=s8.toks }:=
     bn.turned (it:=D) (fun b o E e=>(N4 s8.heap (Obj.mapSeq (·.push y)) (EZ E)).trans e) n8 ai (.inr m) (fun x c e=>ax x c e) fun p S=>by
      rw[EE]at S;exact ap p S
    refine⟨m',hm,i+1,ae,H8,L++[v8],l++[y],_,I9,T.keep _ _ _ t8 (fun b E o e=>(N4 s8.heap (Obj.mapSeq (·.push y)) (fun(z:D=b)=>ao (z▸E))).trans e),f8,n8,q,r3.append (.cons r8 .nil),by rw[NC,E2];exact bh,w8⟩
 exact codeAny_compStart_list (am _ rfl) (T.self _ 0 _ _ _ (T.keep _ _ _ ar (fun b E o e=>old b o e)) (am _ rfl))
theorem Qii(L:X.calm=true)(B:BlkOk X scope cl Nb cp)(hi:PI X tg iter wi)(E:∀a d C ex j,PG (Mi.blk X scope cl Nb a d C ex j) tg g)
  (u:∀a d C ex j,∀(f:List (Addr×Obj)) (s:Shared) (l:L2.St) (H:Hp) (Q:Bool->Hp->Prop),Inv (Mi.blk X scope cl Nb a d C ex j) f l H s->tt l H Q ->
   wpAny (model X.prog X.w) X.A (forIn ifs true fun c r=>if r=true then do let ok <-isTrue c (compEnvC scope cl C X.env) (eval c (compEnvC scope cl C X.env));pure (ForInStep.yield ok)else pure (ForInStep.yield r)) (TP (Mi.blk X scope cl Nb a d C ex j) f l Q) (fun _ _=>False) s)
  (G:∀a d C ex j,PE (Mi.blk X scope cl Nb a d C ex j) elt te) (v:∀x,foldedSetIterable iter X.env x=pure x:=by intro _;rfl) :
  PE X (.ListComp elt [⟨tg,iter,ifs,0⟩] scope pos) (Qfu wi cp g tt te):=by
 intro f s Y H Q I h;rw[eval_ListComp];refine Qbb L B hi E u G v I h fun D C U t m S n z N O i y q=>⟨m,n,fun P p=>?_⟩
 exact⟨.ref D,U,S.turned (t':=t.toks) (it:=C) (fun b o M e=>p.extBut b o M e) z N (.inr O) i y,rfl,q⟩
theorem Qhf(hN:X.N.Nodup)(P:X.N[i]?=some x)(hx:Loc X.env.scope x)(hf:X.fn x=true\/X.env.scope.names.lookup x=some .local)(L:swapsWith (.ListComp elt [⟨tg,iter,ifs,0⟩] scope pos) (some (.Name x j)) t.line X.env=pure true)
  (hc:X.calm=true) (B:BlkOk X scope cl Nb cp) (hi:PI X tg iter wi) (hg:∀d f C ex p,PG (Mi.blk X scope cl Nb d f C ex p) tg g)
  (ht:∀d f C ex p,∀(l:List (Addr×Obj)) (s:Shared) (E:L2.St) (H:Hp) (Q:Bool->Hp->Prop),Inv (Mi.blk X scope cl Nb d f C ex p) l E H s->tt E H Q ->
   wpAny (model X.prog X.w) X.A (forIn ifs true fun c r=>if r=true then do let ok <-isTrue c (compEnvC scope cl C X.env) (eval c (compEnvC scope cl C X.env));pure (ForInStep.yield ok)else pure (ForInStep.yield r)) (TP (Mi.blk X scope cl Nb d f C ex p) l E Q) (fun _ _=>False) s)
  (he:∀d f C ex p,PE (Mi.blk X scope cl Nb d f C ex p) elt te) (hs:∀x,foldedSetIterable iter X.env x=pure x:=by intro _;rfl) :
  PS X (.Assign [.Name x j] (.ListComp elt [⟨tg,iter,ifs,0⟩] scope pos) t) (Qml (Qfu wi cp g tt te) (Qee i)):=by
 intro l s σ H D I h;rw[exec_Assign_Name_used _ _ _ _ L];refine Nc (LQ (Nc ?_));show wpAny _ X.A (do let _ <-comprehension (.ListComp elt [⟨tg,iter,ifs,0⟩] scope pos) scope X.env _ (newList []) false (eval iter X.env) (some (assign (.Name x j) X.env))) _ _ s;refine Nc (NU (Qbb (use:=some (assign (.Name x j) X.env)) (Q':=fun _ y=>SP X l D .next y) hc B hi hg ht he hs I h fun U C H' y m I' M hn S h0 n hp q=>?_) (fun _ y hq=>Nq (Nq hq)) fun _ _ e=>e);show wpAny _ X.A (assign (.Name x j) X.env (.ref U)) _ _ y;refine Oy (U3 (v:=.ref U) I' hN P hx rfl (fun Z I5 ⟨a,Y,u⟩=>?_) hf)
 have O:C≠a:=fun z=>by
  rcases u with u|u
  ·exact S (z.trans u)
  ·exact n x a u z.symm
 exact⟨m,M.sameBut Y O,fun aa G=>⟨_,H',I5.turned (t':=Z.toks) (it:=C) (fun b o hb e=>G.extBut b o hb e) hn S (.inr h0) n hp,q⟩⟩
end
def IterR(X:Cx)(c:Expr)(r:V->Hp->(It->Hp->Prop)->Prop):Prop:=
 ∀(a:List (Addr×Obj)) (s:Shared) (b:L2.St) (H:Hp) (x:V) (v:Value) (C:It->Hp->Prop),Inv X a b H s->RelV x v->r x H C->wpAny (model X.prog X.w) X.A (pyIter v) (PIE X a b c C) X.xe s
section
variable{X:Cx}{tg:Expr}
theorem IterR.or(h:IterR X tg r)(h':IterR X tg d):IterR X tg (fun x H C=>r x H C\/d x H C):=fun a s b H x v C I c q=>by
 rcases q with q|q
 ·exact h a s b H x v C I c q
 ·exact h' a s b H x v C I c q
theorem it_list:IterR X tg (fun x H C=>∃a,x=.ref a/\(∃xs,SqL X.K H a xs)/\C (Itl X.K a) H):=by
 intro d c m l x v C I1 f g;obtain⟨a,e,⟨xs,i⟩,q⟩:=g;subst e;cases f;obtain⟨h,r,p,s⟩:=I1.list i;refine Iv p.isList ?_;refine⟨c.heap.objs.size,[c.heap.objs.size],_,_,l,rfl,I1.kept (t':=c.toks) fun b o e=>Np _ e,QdF a _,⟨_,NK _ rfl,rfl,rfl⟩,fun b j=>?_,q⟩;have e:b=c.heap.objs.size:=by simpa using j
 subst e;exact I1.fpOk (Nw _) (I1.hok.fresh (Nw _))
theorem QjN:IterR X tg (fun x H C=>∃a,x=.ref a/\(∃xs,SqT X.K H a xs)/\C (Itt X.K a) H):=by
 intro f c m l x v C I1 g h;obtain⟨a,e,⟨xs,i⟩,q⟩:=h;subst e;cases g;obtain⟨d,r,p,s⟩:=I1.tuple i;refine wpAny_pyIter_tuple (show c.heap.IsTuple a d.toArray from p) ?_;refine⟨c.heap.objs.size,[c.heap.objs.size],_,_,l,rfl,I1.kept (t':=c.toks) fun b o e=>Np _ e,QbZ a _,⟨_,NK _ rfl,rfl,rfl⟩,fun b j=>?_,q⟩;have e:b=c.heap.objs.size:=by simpa using j
 subst e;exact I1.fpOk (Nw _) (I1.hok.fresh (Nw _))
noncomputable def Its(x:Str):It:=⟨fun i _=>i<x.cps.size,fun i H v a=>a=H/\∃c,x.cps[i]?=some c/\v=.str ⟨#[c]⟩,fun i _=>x.cps.size<=i⟩
noncomputable def GK(x:Str):List W:=x.cps.toList.map fun c=>.str ⟨#[c]⟩
theorem QfM{P:Program}{w:World}{K:Nj}{tg:Expr}(it:Addr)(x:Str)(ty:String)(t:Tok)(f:ty="str_ascii_iterator"\/ty="str_iterator") :
  Turn P w K tg (Its x) [it] it (fun i h=>i<=x.cps.size/\h.IsStrIter it ty x t i) where
 mem:=by simp
 obj:=fun i h st b j=>by
  have e:b=it:=by simpa using j
  subst e;obtain⟨_,o,e,c,d⟩:=st;exact⟨o,e,fun v z=>by rw[d]at z;cases z⟩
 keep:=fun i h l st k=>⟨st.1,let⟨o,Z,r⟩:=st.2;⟨o,k it (by simp) o Z,r⟩⟩
 item:=by
  intro X M hw N L i a s G H E I q st p;subst M hw N;obtain⟨hi,st⟩:=st;obtain⟨D,f1,f2,f3,C,B⟩:=q it (by simp);have g:i<x.cps.size:=p;have m:x.cps[i]?=some (x.cps[i]'g):=N3 g
  have fin:∀l:Heap,l.IsStrIter it ty x t (i+1)->Heap.SameBut it s.heap l->∃u,some (Value.str ⟨#[x.cps[i]'g]⟩ s.toks)=some u/\wpAny (model X.prog X.w) X.A (letOwnedTupleGo tg (.ref it) u) (fun _ S=>∃y Q,Inv X a G Q S/\RelV y u/\(Its x).yld i H y Q/\(i+1<=x.cps.size/\S.heap.IsStrIter it ty x t (i+1))/\∀b∈[it],Q b=none) E { s with heap:=l,toks:=s.toks+1 }:=fun l n Y=>by
   have I1:Inv X a G H { s with heap:=l,toks:=s.toks+1 }:=I.turned (fun b o j e=>(Y.2 b j).trans e) D f1 f3 C B;obtain⟨o,e,c,d⟩:=id n;refine⟨_,rfl,Qd1 (s:={ s with heap:=l,toks:=s.toks+1 }) e c d (by rcases f with z|z<;>rw[z]<;>decide) ⟨.str ⟨#[x.cps[i]'g]⟩,H,I1,⟨_,rfl⟩,⟨rfl,_,m,rfl⟩,⟨p,n⟩,fun b j=>(q b j).1⟩⟩
  rcases f with z|z
  ·subst z;exact wpAny_pyNext_ascii_item st m fin
  ·subst z;exact wpAny_pyNext_wide_item st m fin
 done:=by
  intro X M hw N L i a s G H E I q st p;subst M hw N;obtain⟨hi,st⟩:=st;obtain⟨D,f1,f2,f3,C,B⟩:=q it (by simp);have m:x.cps[i]?=none:=by have:x.cps.size<=i:=p;simp;exact this
  rcases f with z|z
  ·subst z;exact wpAny_pyNext_ascii_end (I.ok.hd L) st m fun l O=>⟨rfl,I.turned (t':=s.toks) (fun b o j e=>O b o j e) D f1 f3 C B⟩
  ·subst z;exact wpAny_pyNext_wide_end (I.ok.hd L) st m fun l O=>⟨rfl,I.turned (t':=s.toks) (fun b o j e=>O b o j e) D f1 f3 C B⟩
 self:=fun _ _ _ _ _ st h=>by
  rcases f with z|z
  ·subst z;exact wpAny_pyIter_striter_ascii st.2 h
  ·subst z;exact wpAny_pyIter_striter_wide st.2 h
theorem QlU:IterR X tg (fun x H C=>∃y,x=.str y/\C (Its y) H):=by
 intro c a g l x v C I1 h i;obtain⟨y,rfl,q⟩:=i;obtain⟨t,rfl⟩:=h
 have fin:∀ty,(ty="str_ascii_iterator"\/ty="str_iterator")->PIE X c g tg C (.ref a.heap.objs.size) { a with heap:=a.heap.push { cls:=.type ty,data:=.fields #[.str y t,.int 0 0] } }:=fun ty d=>by
  refine⟨a.heap.objs.size,[a.heap.objs.size],_,_,l,rfl,I1.kept (t':=a.toks) fun b o e=>Np _ e,QfM _ y ty t d,⟨NJ _,_,NK _ rfl,rfl,rfl⟩,fun b j=>?_,q⟩;have e:b=a.heap.objs.size:=by simpa using j
  subst e;exact I1.fpOk (Nw _) (I1.hok.fresh (Nw _))
 cases f:y.cps.all (·<128)
 ·exact wpAny_pyIter_wide f (fin _ (.inr rfl))
 ·exact wpAny_pyIter_ascii f (fin _ (.inl rfl))
end
noncomputable def GH(h:MH):W->Option (List W×Option Src)
 |.tup ws=>some (ws,none)
 |.lst ws=>some (ws,none)
 |.frz ws=>some (ws,none)
 |.str x=>some (GK x,none)
 |.ref n=>match h[n]? with|some (.lst ws)=>some (ws,some (.l n))|_=>none
 |_=>none
noncomputable def Zl(m:ME):MI:=fun a h=>(m a h).bind fun p=>(GH p.2 p.1).map fun q=>(q.1,q.2,p.2)
section
variable{K:Nj}{R:Rn}
theorem UH(d:SqL K R.F a xs)(r:Rws K R ws xs):ItOk K R (Itl K a) ws none where
 go:=fun i w j h H x c _ e=>by
  obtain⟨v,g,_⟩:=r.get e;exact⟨xs,v,ZA (fun b o z=>c.sub b o (x.f b o z)) d,g⟩
 yld:=fun i w j h H x s e c _ q l=>by
  obtain⟨rfl,m⟩:=l;obtain⟨v,g,p⟩:=r.get q;have:=m xs (ZA (fun b o z=>c.sub b o (e.f b o z)) d);rw[g]at this;cases this;exact⟨j,Ext.refl _,c,Rw.mono e _ _ p⟩
 stop:=fun i j h H x c _ n=>⟨xs,ZA (fun b o z=>c.sub b o (x.f b o z)) d,by rw[<-r.length];exact n⟩
theorem QfX(d:SqT K R.F a xs)(r:Rws K R ws xs):ItOk K R (Itt K a) ws none where
 go:=fun i w j h H x c _ e=>by
  obtain⟨v,g,_⟩:=r.get e;exact⟨xs,v,J1 (fun b o z=>c.sub b o (x.f b o z)) d,g⟩
 yld:=fun i w j h H x s e c _ q l=>by
  obtain⟨rfl,m⟩:=l;obtain⟨v,g,p⟩:=r.get q;have:=m xs (J1 (fun b o z=>c.sub b o (e.f b o z)) d);rw[g]at this;cases this;exact⟨j,Ext.refl _,c,Rw.mono e _ _ p⟩
 stop:=fun i j h H x c _ n=>⟨xs,J1 (fun b o z=>c.sub b o (x.f b o z)) d,by rw[<-r.length];exact n⟩
theorem QeK(g:n<R.N):ItOk K R (Itl K (R.ρ n)) ws (some (.l n)) where
 go:=fun i w o h H x b d e=>by
  obtain⟨c,a,f⟩:=b.obj n _ (d (.l n) rfl);obtain⟨v,m,_⟩:=f.get e;rw[x.ρ n g]at a;exact⟨c,v,SqL.of a,m⟩
 yld:=fun i w o h H x t e b d s p=>by
  obtain⟨rfl,q⟩:=p;obtain⟨c,a,f⟩:=b.obj n _ (d (.l n) rfl);obtain⟨v,m,r⟩:=f.get s;rw[e.ρ n g]at a;have:=q c (SqL.of a);rw[m]at this;cases this;exact⟨o,Ext.refl _,b,r⟩
 stop:=fun i o h H x b d j=>by
  obtain⟨c,a,f⟩:=b.obj n _ (d (.l n) rfl);rw[x.ρ n g]at a;exact⟨c,SqL.of a,by rw[<-f.length];exact j⟩
theorem QfO:ItOk K R (Its x) (GK x) none where
 go:=fun i w b h H _ _ _ e=>by
  have:=(Ng.mp e).1;show i<x.cps.size;simpa[GK]using this
 yld:=fun i w b h H v l e d _ a f=>by
  obtain⟨rfl,c,j,rfl⟩:=f;unfold GK at a;rw[Nz,N0,j]at a;cases a;exact⟨b,Ext.refl _,d,Rw.str _⟩
 stop:=fun i b h H _ _ _ g=>by
  show x.cps.size<=i;simpa[GK]using g
theorem Wg{lo:Int}:ItOk K R (Itr lo n) ((List.range n).map fun(i:Nat)=>W.int (lo+(i:Int))) none where
 go:=fun i w b h H _ _ _ e=>by
  have:=(Ng.mp e).1;show i<n;simpa using this
 yld:=fun i w b h H v m e d _ c f=>by
  obtain⟨rfl,rfl⟩:=f;rw[Nz]at c;obtain⟨j,a,l⟩:=Nk.mp c;rw[Df (by have:=(Ng.mp a).1;simpa using this)]at a;cases a;cases l;exact⟨b,Ext.refl _,d,Rw.int _⟩
 stop:=fun i b h H _ _ _ g=>by
  show n<=i;simpa using g
end
section
variable{X:Cx}{tg a b c:Expr}{ma:ME}{ms:MA}{pos p:Pos}
theorem JL(S:PM X a ma):PMI X tg a (Zl ma):=by
 intro j s E H C I q;obtain⟨R,u,h,items,G,h',M,st,e,k⟩:=q;obtain⟨⟨w,Y⟩,e1,e2⟩:=Na.mp e;obtain⟨⟨P,sr⟩,i,e4⟩:=Nk.mp e2;cases e4;refine thn (S j s E H _ I ⟨R,u,h,w,Y,M,st,e1,fun R1 m v o d g=>?_⟩) fun v L ⟨x,m,I1,N,O⟩=>((it_list.or QjN).or QlU) j L E m x v C I1 N O;cases w with
 |tup A=>
  cases i;obtain⟨ad,z,rfl,D,U⟩:=d.tupAt g;unfold Rw at g;obtain⟨t,f,Z,l,r⟩:=g;cases Z;exact .inl (.inr ⟨_,rfl,⟨z,D⟩,k R1 m _ o d (QfX l r)⟩)
 |lst A=>
  cases i;unfold Rw at g;obtain⟨t,f,rfl,l,r⟩:=g;exact .inl (.inl ⟨_,rfl,⟨f,SqL.of (d.sub _ _ l)⟩,k R1 m _ o d (UH (SqL.of l) r)⟩)
 |frz A=>
  cases i;unfold Rw at g;obtain⟨t,f,rfl,l,r⟩:=g;exact .inl (.inl ⟨_,rfl,⟨f,ZA d.sub l⟩,k R1 m _ o d (UH l r)⟩)
 |str y=>
  cases i;rw[g.str_eq];exact .inr ⟨y,rfl,k R1 m _ o d QfO⟩
 |ref n=>
  simp only[GH]at i;split at i
  ·rename_i A Q;cases i;obtain⟨B,rfl,z,D,U⟩:=d.refAt g Q;exact .inl (.inl ⟨_,rfl,⟨z,SqL.of D⟩,k R1 m _ o d (QeK B)⟩)
  ·cases i
 |_=>cases i
noncomputable def Qr(lo:Int)(n:Nat):List W:=(List.range n).map fun(i:Nat)=>W.int (lo+(i:Int))
noncomputable def YD(ms:MA):MI:=fun d h=>(ms d h).bind fun p=>match p.1 with
 |[.int j]=>if -(2^62)<=j/\j<2^62 then some (Qr 0 j.toNat,none,p.2)else none
 |_=>none
noncomputable def Qfn(ms:MA):MI:=fun d h=>(ms d h).bind fun p=>match p.1 with
 |[.int i,.int j]=>if -(2^62)<=i/\i<2^62/\-(2^62)<=j/\j<2^62 then some (Qr i (j-i).toNat,none,p.2)else none
 |_=>none
theorem X9(z:Gl X "range")(y:X.mg "range"=none)(A:PMA X [a] ms)(x:starEach [a] X.env=[(false,eval a X.env)]:=by rfl):PMI X tg (.Call (.Name "range" p) [a] [] pos) (YD ms):=
 Qa4 (QcM z y A x) fun G H C o=>by
  obtain⟨R,f,h,items,t,L,u,st,e,k⟩:=o;obtain⟨⟨r,B⟩,D,d⟩:=Na.mp e;refine⟨R,f,h,r,B,u,st,D,fun R1 E I q g i=>?_⟩;split at d
  ·rename_i j m;simp only at m;subst m;split at d
   ·rename_i n;cases d;rw[Rws.cons_iff]at i;obtain⟨v,s,rfl,w,l⟩:=i;rw[Rws.nil_iff]at l;subst l;rw[w.int_eq];exact⟨j,rfl,n.1,n.2,k R1 E _ q g Wg⟩
   ·cases d
  ·cases d
theorem QgO(E:Gl X "range")(D:X.mg "range"=none)(I:PMA X [a,b] ms)(B:starEach [a,b] X.env=[(false,eval a X.env),(false,eval b X.env)]:=by rfl)(l:starEach [b] X.env=[(false,eval b X.env)]:=by rfl):PMI X tg (.Call (.Name "range" p) [a,b] [] pos) (Qfn ms):=
 Qa4 (Qc0 E D I B l) fun O H C r=>by
  obtain⟨R,f,h,items,x,S,y,st,e,k⟩:=r;obtain⟨⟨t,L⟩,M,d⟩:=Na.mp e;refine⟨R,f,h,t,L,y,st,M,fun R1 N P s g m=>?_⟩;split at d
  ·rename_i i j q;simp only at q;subst q;split at d
   ·rename_i G;cases d;rw[Rws.cons_iff]at m;obtain⟨v,w,rfl,A,o⟩:=m;rw[Rws.cons_iff]at o;obtain⟨Q,u,rfl,z,n⟩:=o;rw[Rws.nil_iff]at n;subst n;rw[A.int_eq,z.int_eq];exact⟨i,j,rfl,G,k R1 N _ s g Wg⟩
   ·cases d
  ·cases d
end
noncomputable def Qho(cp:List (Option Nat))(σ:MSt):MSt:=cp.map fun o=>match o with|none=>none|some j=>match σ[j]? with|some v=>v|none=>none
theorem Rst.cap{K:Nj}(s:Rst K R b σ)(cp:List (Option Nat)):Rst K R (Qho cp b) (U5 cp σ):=by
 unfold Qho U5;refine⟨by simp,fun i w e=>?_⟩;rw[Nz]at e ⊢;obtain⟨o,f,a⟩:=Nk.mp e;rw[f];cases o with
 |none=>cases a
 |some j=>
  simp only at a;split at a
  ·rename_i u hu;subst a;obtain⟨v,d,c⟩:=s.2 j w hu;exact⟨v,by simp[d],c⟩
  ·cases a
open Classical in
noncomputable def JO(fin:List W->MH->Option (W×MH))(items:List W)(src:Option Src)(b:MG)(mt:MT)(me:ME):List W->List W->MSt->MH->Option (W×MH)
 |[],a,_,h=>if live src items h then fin a h else none
 | w::r,a,d,h=>if live src items h then(b w d h).bind fun c=>(mt c h).bind fun q=>match q.1 with
   |true=>(me c q.2).bind fun v=>if a.length<sizeLine then JO fin items src b mt me r (a++[v.1]) c v.2 else none
   |false=>JO fin items src b mt me r a c q.2
  else none
noncomputable def Zj(fin:List W->MH->Option (W×MH))(mi:MI)(cp:List (Option Nat))(b:MG)(mt:MT)(me:ME):ME:=fun a h=>(mi a h).bind fun p=>JO fin p.1 p.2.1 b mt me p.1 [] (Qho cp a) p.2.2
noncomputable def Xm:MT:=fun _ h=>some (true,h)
noncomputable def VL(a:List W)(h:MH):Option (W×MH):=some (.lst a,h)
noncomputable def Qmj(a:List W)(h:MH):Option (W×MH):=some (.ref h.length,h++[.lst a])
def QcC(K:Nj)(fin:List W->MH->Option (W×MH)):Prop:=∀R h H b a w d D,Rh K R h H->Rws K R b a->fin b h=some (w,d)->H D=none->∃c,Ext R c/\Rh K c d (upd H D (.lst a))/\Rw K c w (.ref D)
theorem Z5{K:Nj}:QcC K VL:=fun R h H c a w d D b r e hD=>by
 cases e;exact b.lstI hD r
theorem Qhx{K:Nj}:QcC K Qmj:=fun R h H d a w f D c r e hD=>by
 cases e;exact c.new hD fun g b=>⟨a,rfl,Rws.mono b _ _ r⟩
section
variable{X:Cx}{elt tg iter c:Expr}{scope:Scope}{pos:Pos}{cl:List (Str×Addr)}{Nb:List Str}{cp:List (Option Nat)}{mi:MI}{b:MG}{mt:MT}{me:ME}{fin:List W->MH->Option (W×MH)}
theorem Qcu{K:Nj}(hf:QcC K fin)(q:tI K (Zj fin mi cp b mt me) σ H Q):Qfu (tII K mi) cp (tIG K b) (tIT K mt) (tI K me) σ H Q:=by
 obtain⟨R,B,h,w,h',rh,s,e,k⟩:=q;obtain⟨⟨items,E,h1⟩,e1,e2⟩:=Na.mp e;refine⟨R,B,h,items,E,h1,rh,s,e1,fun R1 H1 J x1 aa it=>?_⟩;refine⟨fun i n z τ H=>i+n=items.length/\∃R2 g o a,Ext R1 R2/\Rh K R2 o H/\Rst K R2 g τ/\Rws K R2 a z/\JO fin items E b mt me (items.drop i) a g o=some (w,h')/\After K R2 w h' Q,⟨items.length,by simp,R1,Qho cp B,h1,[],Ext.refl _,aa,(s.mono x1).cap cp,Rws.nil,by simpa using e2,k.ext x1⟩,?_⟩
 rintro i n z τ U ⟨af,R2,g,o,a,C,m,s2,N,f,k2⟩
 by_cases I:i<items.length
 ·obtain⟨y,O⟩:∃y,items[i]?=some y:=⟨items[i],Nl I⟩
  have hd:items.drop i=y::items.drop (i+1):=by
   rw[Ea I];rw[Nl I]at O;cases O;rfl
  rw[hd]at f;unfold JO at f;split at f
  ·rename_i P;obtain⟨d,e4,e5⟩:=Na.mp f;obtain⟨⟨t,h3⟩,e6,e7⟩:=Na.mp e5;refine .inr ⟨it.go i y R2 o U C m P O,fun x H' ab=>?_⟩;obtain⟨R3,l,r,p⟩:=it.yld i y R2 o U x H' C m P O ab;refine⟨R3,g,o,y,d,r,s2.mono l,p,e4,fun R4 H4 ae A Z M=>?_⟩;refine⟨R4,d,o,t,h3,Z,M,e6,fun R5 H5 j G=>?_⟩;cases t with
   |true=>
    obtain⟨⟨v,h4⟩,e8,S⟩:=Na.mp e7;dsimp only at S;split at S
    ·rename_i hz;refine Qjt ⟨R5,d,h3,v,h4,G,M.mono j,e8,fun R6 H6 u L Y rv=>⟨by rw[<-N.length];exact hz,n-1,by lia,by lia,R6,d,h4,a++[v],C.trans (l.trans (A.trans (j.trans L))),Y,M.mono (j.trans L),?_,S,k2.ext (l.trans (A.trans (j.trans L)))⟩⟩;exact Rws.append (Rws.mono (l.trans (A.trans (j.trans L))) _ _ N) (Rws.cons rv Rws.nil)
    ·cases S
   |false=>
    exact Qju ⟨n-1,by lia,by lia,R5,d,h3,a,C.trans (l.trans (A.trans j)),G,M.mono j,Rws.mono (l.trans (A.trans j)) _ _ N,e7,k2.ext (l.trans (A.trans j))⟩
  ·cases f
 ·have hd:items.drop i=[]:=Ee (NN.mp I);rw[hd]at f;unfold JO at f;split at f
  ·rename_i P;refine .inl ⟨it.stop i R2 o U C m P (NN.mp I),fun D hD=>?_⟩;obtain⟨R3,l,r,p⟩:=hf R2 o U a z w h' D m N f hD;exact k2 R3 _ _ l r p
  ·cases f
theorem Zv(o:QcC X.K fin)(r:X.calm=true)(B:BlkOk X scope cl Nb cp)(hi:PMI X tg iter mi)(n:∀a d C ex f,PMG (Mi.blk X scope cl Nb a d C ex f) tg b)
  (p:∀a d C ex f,PM (Mi.blk X scope cl Nb a d C ex f) elt me) (m:∀x,foldedSetIterable iter X.env x=pure x:=by intro _;rfl) :
  PM X (.ListComp elt [⟨tg,iter,[],0⟩] scope pos) (Zj fin mi cp b Xm me):=
 Q7 (Qii (g:=tIG X.K b) (te:=tI X.K me) (tt:=tIT X.K Xm) r B hi n (fun a d C ex f i s u H Q I q=>wpAny_tests_nil (by
  obtain⟨R,j,h,t,y,l,st,e,k⟩:=q;cases e
  exact⟨H,I,k R H (Ext.refl _) l⟩)) p m) fun _ _ _ q=>Qcu o q
end
open PySem.SeqAt
mutual
noncomputable def eqW:W->W->Bool
 |.non,.non=>true
 |.bl a,.bl b=>a==b
 |.bl a,.int b=>(if a then 1 else 0)==b
 |.int a,.bl b=>a==(if b then 1 else 0)
 |.int a,.int b=>a==b
 |.str a,.str b=>a==b
 |.tup a,.tup b=>Wz a b
 |.lst a,.lst b=>Wz a b
 |_,_=>false
noncomputable def Wz:List W->List W->Bool
 |[],[]=>true
 |x::xs,y::a=>eqW x y&&Wz xs a
 |_,_=>false
end
noncomputable def Zo(f:b->Option a):List b->Option (List a)
 |[]=>some []
 |x::xs=>(f x).bind fun y=>(Zo f xs).map (y::·)
noncomputable def drf(h:MH):Nat->W->Option W
 |0,_=>none
 |n+1,w=>match w with
  |.tup ws=>(Zo (drf h n) ws).map .tup
  |.lst ws=>(Zo (drf h n) ws).map .lst
  |.frz ws=>(Zo (drf h n) ws).map .lst
  |.ref k=>match h[k]? with|some (.lst ws)=>(Zo (drf h n) ws).map .lst|_=>none
  |.ty _=>none
  |.non=>some .non
  |.bl b=>some (.bl b)
  |.int i=>some (.int i)
  |.str x=>some (.str x)
theorem Qz:∀{xs:List o} {a:List n},Zo f xs=some a->xs.length=a.length/\∀(i:Nat) x,xs[i]?=some x->∃y,a[i]?=some y/\f x=some y
 |[],a,e=>by cases e;exact⟨rfl,fun i x h=>by simp at h⟩
 |x::xs,a,e=>by
  obtain⟨y,m,h2⟩:=Na.mp e;obtain⟨p,j,g⟩:=Nk.mp h2;subst g;obtain⟨l,q⟩:=Qz j;refine⟨by simp[l],fun i z b=>?_⟩;cases i with
  |zero=>simp at b;subst b;exact⟨y,by simp,m⟩
  |succ i=>simp at b;obtain⟨u,d,c⟩:=q i z b;exact⟨u,by simp[d],c⟩
theorem X7:∀{a b:List W},a.length≠b.length->Wz a b=false
 |[],[],h=>absurd rfl h
 |[],_::_,_=>by unfold Wz;rfl
 |_::_,[],_=>by unfold Wz;rfl
 |x::xs,y::c,h=>by
  unfold Wz;rw[X7 (a:=xs) (b:=c) (fun z=>h (by simp[z])),D0]
theorem XR:∀{a b:List W},a.length=b.length->Wz a b=(List.range a.length).all fun j=>match a[j]?,b[j]? with|some x,some y=>eqW x y|_,_=>false
 |[],[],_=>by unfold Wz;rfl
 |x::xs,y::c,h=>by
  have d:=XR (a:=xs) (b:=c) (by simpa using h);unfold Wz;rw[d,NP,List.range_succ_eq_map,LU,List.all_map];simp[OE]
inductive Kd(K:Nj)(R:Rn)(h:MH)(H:Hp)(n:Nat)(v:V):W->Prop where
 |flat {a:W} (f:Qhz v=true) (e:(v=.non/\a=.non)\/(∃b,v=.bl b/\a=.bl b)\/(∃i,v=.int i/\a=.int i)\/∃x,v=.str x/\a=.str x):Kd K R h H n v a
 |lst {ad:Addr} {xs:List V} {ws as:List W} (e:v=.ref ad) (q:SqL K H ad xs) (r:Rws K R ws xs) (m:Zo (drf h n) ws=some as):Kd K R h H n v (.lst as)
 |tup {ad:Addr} {xs:List V} {ws as:List W} (e:v=.ref ad) (q:SqT K H ad xs) (r:Rws K R ws xs) (m:Zo (drf h n) ws=some as):Kd K R h H n v (.tup as)
theorem Xo{K:Nj}{v:V}(g:Rh K R h H)(r:Rw K R w v)(e:drf h (n+1) w=some a):Kd K R h H n v a:=by
 cases w with
 |non=>rw[r.non_eq];cases e;exact .flat rfl (.inl ⟨rfl,rfl⟩)
 |bl b=>rw[r.bl_eq];cases e;exact .flat rfl (.inr (.inl ⟨b,rfl,rfl⟩))
 |int i=>rw[r.int_eq];cases e;exact .flat rfl (.inr (.inr (.inl ⟨i,rfl,rfl⟩)))
 |str x=>rw[r.str_eq];cases e;exact .flat rfl (.inr (.inr (.inr ⟨x,rfl,rfl⟩)))
 |tup l=>
  obtain⟨ad,j,f,q,c⟩:=g.tupAt r;obtain⟨as,m,d⟩:=Nk.mp e;subst d;exact .tup f q c m
 |lst l=>
  obtain⟨ad,j,f,q,c⟩:=g.lstAt r;obtain⟨as,m,d⟩:=Nk.mp e;subst d;exact .lst f (SqL.of q) c m
 |frz l=>
  obtain⟨ad,j,f,q,c⟩:=g.frzAt r;obtain⟨as,m,d⟩:=Nk.mp e;subst d;exact .lst f q c m
 |ref k=>
  simp only[drf]at e;split at e
  ·rename_i l o;obtain⟨as,m,d⟩:=Nk.mp e;subst d;obtain⟨_,f,j,q,c⟩:=g.refAt r o;exact .lst f (SqL.of q) c m
  ·cases e
 |ty _=>cases e
section
variable{X:Cx}{pins:List (Addr×Obj)}{σ:L2.St}{H:Hp}{s:Shared}{R:Rn}{h:MH}
theorem YM{K:Nj}(r:∀q p v a b,Rw K R q v->Rw K R p v->drf h n q=some a->drf h n p=some b->a=b) :
  ∀{d c:List W} {xs:List V} {a b:List W},Rws K R d xs->Rws K R c xs->Zo (drf h n) d=some a->Zo (drf h n) c=some b->a=b
 |[],c,xs,a,b,f,e,i,g=>by
  rw[Rws.nil_iff]at f;subst f;cases c with
  |nil=>cases i;cases g;rfl
  |cons w ws=>rw[Rws.cons_iff]at e;obtain⟨_,_,z,_⟩:=e;cases z
 | w::d,c,xs,a,b,f,e,i,g=>by
  rw[Rws.cons_iff]at f;obtain⟨v,x,rfl,E,D⟩:=f;cases c with
  |nil=>rw[Rws.nil_iff]at e;cases e
  |cons A c=>
   rw[Rws.cons_iff]at e;obtain⟨_,_,z,C,B⟩:=e;cases z;obtain⟨y,M,L⟩:=Na.mp i;obtain⟨N,I,G⟩:=Nk.mp L;obtain⟨u,o,m⟩:=Na.mp g;obtain⟨t,l,j⟩:=Nk.mp m;subst G j;rw[r w A v y u E C M o,YM r D B I l]
theorem KF(I:Inv X pins σ H s)(q:SqL X.K H a xs)(e:SqT X.K H a l):False:=by
 obtain⟨g,_,p,_⟩:=I.list q;obtain⟨d,_,f,_⟩:=I.tuple e;obtain⟨o,n,j,i,_⟩:=p;obtain⟨m,c,b,_⟩:=f;rw[j]at c;cases c;rw[i]at b;exact absurd b (by simp)
theorem Yj(I:Inv X pins σ H s)(g:Rh X.K R h H):∀(n:Nat) (l j:W) (v:V) (a b:W),Rw X.K R l v->Rw X.K R j v->drf h n l=some a->drf h n j=some b->a=b
 |0,_,_,_,_,_,_,_,e,_=>by cases e
 | n+1,l,j,v,a,b,y,o,A,u=>by
  have w:=Yj I g n;cases Xo g y A with
  | flat f z=>
   cases Xo g o u with
   |flat B x=>
    rcases z with⟨rfl,rfl⟩|⟨_,rfl,rfl⟩|⟨_,rfl,rfl⟩|⟨_,rfl,rfl⟩<;>rcases x with⟨i,rfl⟩|⟨_,i,rfl⟩|⟨_,i,rfl⟩|⟨_,i,rfl⟩<;>cases i<;>rfl
   |lst e=>subst e;cases f
   |tup e=>subst e;cases f
  |lst e q r m=>
   subst e;cases Xo g o u with
   |flat f=>cases f
   |lst d c p t=>cases d;have:=I.list_inj q c;subst this;rw[YM w r p m t]
   |tup d c=>cases d;exact(KF I q c).elim
  |tup e q r m=>
   subst e;cases Xo g o u with
   |flat f=>cases f
   |lst d c=>cases d;exact(KF I c q).elim
   |tup d c p t=>cases d;have:=I.tuple_inj q c;subst this;rw[YM w r p m t]
mutual
theorem WW:∀(n:Nat) (w a:W),drf h n w=some a->eqW a a=true
 |0,_,_,e=>by cases e
 | n+1,w,a,e=>by
  cases w with
  |non=>cases e;unfold eqW;rfl
  |bl b=>cases e;unfold eqW;simp
  |int i=>cases e;unfold eqW;simp
  |str x=>cases e;unfold eqW;simp
  |tup ws=>obtain⟨as,m,c⟩:=Nk.mp e;subst c;unfold eqW;exact V1 n ws as m
  |lst ws=>obtain⟨as,m,c⟩:=Nk.mp e;subst c;unfold eqW;exact V1 n ws as m
  |frz ws=>obtain⟨as,m,c⟩:=Nk.mp e;subst c;unfold eqW;exact V1 n ws as m
  |ref k=>
   simp only[drf]at e;split at e
   ·rename_i ws d;obtain⟨as,m,c⟩:=Nk.mp e;subst c;unfold eqW;exact V1 n ws as m
   ·cases e
  |ty _=>cases e
theorem V1:∀(n:Nat) (ws as:List W),Zo (drf h n) ws=some as->Wz as as=true
 |n,[],_,m=>by cases m;unfold Wz;rfl
 |n,w::ws,_,m=>by
  obtain⟨y,d,h2⟩:=Na.mp m;obtain⟨a,c,b⟩:=Nk.mp h2;subst b;unfold Wz;rw[WW n w y d,V1 n ws a c];rfl
end
theorem Xk(O:∀i g v1 l r q a b,Rw X.K R i v1->Rw X.K R g l->RelV v1 r->RelV l q->drf h n i=some a->drf h n g=some b->EqAt A s r q (eqW a b))
  (z:Rws X.K R e xs) (v:Rws X.K R d B) (v1:Vals xs f) (l:Vals B c) (H:Zo (drf h n) e=some as) (G:Zo (drf h n) d=some bs)
  (j:Nat) (p:j<f.toArray.size) (h2:j<c.toArray.size):EqAt A s f.toArray[j] c.toArray[j] (match as[j]?,bs[j]? with|some x,some y=>eqW x y|_,_=>false):=by
 have N:=z.length;have M:=v1.length;have L:=v.length;have I:=l.length;rw[Nr]at p h2;obtain⟨i,o⟩:∃w,e[j]?=some w:=⟨e[j]'(Nd (Nd p (Nt M.symm)) (Nt N.symm)),Nl _⟩
 obtain⟨g,m⟩:∃w,d[j]?=some w:=⟨d[j]'(Nd (Nd h2 (Nt I.symm)) (Nt L.symm)),Nl _⟩
 obtain⟨x,Q,D⟩:=z.get o;obtain⟨y,P,C⟩:=v.get m;obtain⟨u,hu,E⟩:=v1.get Q;obtain⟨t,S,rt⟩:=l.get P;obtain⟨a,Y,ea⟩:=(Qz H).2 j i o;obtain⟨b,U,Z⟩:=(Qz G).2 j g m;rw[Y,U]
 have e1:f.toArray[j]=u:=by
  have:=hu;rw[Nl p]at this;simpa using this
 have e2:c.toArray[j]=t:=by
  have:=S;rw[Nl h2]at this;simpa using this
 rw[e1,e2];exact O i g x y u t a b D C E rt ea Z
theorem QaL(I:Inv X q σ H s)(hu:A.units<cLine)(D:∀i g v1 c m l a b,Rw X.K R i v1->Rw X.K R g c->RelV v1 m->RelV c l->drf h n i=some a->drf h n g=some b->EqAt A.in1 s m l (eqW a b))
  {ad y:Addr} (C:SqL X.K H ad xs) (B:SqL X.K H y z) (p:Rws X.K R e xs) (o:Rws X.K R d z) (v:Zo (drf h n) e=some as) (u:Zo (drf h n) d=some bs):RcAt A s (.ref ad) (.ref y) (Wz as bs):=by
 obtain⟨f,v1,t,_⟩:=I.list C;obtain⟨w,c,r,_⟩:=I.list B;have Q:=p.length;have P:=v1.length;have O:=o.length;have N:=c.length;have M:=(Qz v).1;have L:=(Qz u).1
 by_cases x:as.length=bs.length
 ·rw[XR x];have:=RcAt.lists (A:=A) t.isList r.isList (by rw[Nr,Nr];lia) hu (fun j G E=>Xk D p o v1 c v u j G E);rw[Nr]at this;rw[show as.length=f.length by lia];exact this
 ·rw[X7 x];exact RcAt.lists_lengths t.isList r.isList (by rw[Nr,Nr];simp;lia) hu
theorem Qeq(I:Inv X t σ H s)(hu:A.units<cLine)(D:∀m l v1 e p o a b,Rw X.K R m v1->Rw X.K R l e->RelV v1 p->RelV e o->drf h n m=some a->drf h n l=some b->EqAt A.in1 s p o (eqW a b))
  {ad i:Addr} (z:SqT X.K H ad xs) (y:SqT X.K H i x) (r:Rws X.K R g xs) (q:Rws X.K R f x) (v:Zo (drf h n) g=some as) (u:Zo (drf h n) f=some bs):RcAt A s (.ref ad) (.ref i) (Wz as bs):=by
 obtain⟨d,v1,C,_⟩:=I.tuple z;obtain⟨c,e,B,_⟩:=I.tuple y;have Q:=r.length;have P:=v1.length;have O:=q.length;have N:=e.length;have M:=(Qz v).1;have L:=(Qz u).1;have:=RcAt.tuples (A:=A) (show s.heap.IsTuple ad d.toArray from C) (show s.heap.IsTuple i c.toArray from B) hu (fun j G E=>Xk D r q v1 e v u j G E);rw[Nr,Nr]at this
 by_cases w:as.length=bs.length
 ·rw[XR w];rw[show min d.length c.length=as.length by lia,show(d.length==c.length)=true by simp;omega,LO]at this;exact this
 ·rw[X7 w];rw[show(d.length==c.length)=false by simp;omega,D0]at this;exact this
theorem Qa8(I:Inv X aa σ H s)(o:Rh X.K R h H):∀(n:Nat) (A:Around),A.units+n<cLine->∀(E l:W) (v1 N:V) (P O:Value) (a b:W),Rw X.K R E v1->Rw X.K R l N->RelV v1 P->RelV N O->drf h n E=some a->drf h n l=some b->EqAt A s P O (eqW a b)
 |0,_,_,_,_,_,_,_,_,_,_,_,_,_,_,e,_=>by cases e
 | n+1,A,hu,E,l,v1,N,P,O,a,b,Q,G,i,g,e1,x=>by
  have c:A.units<cLine:=by exact Nf (Nm _ _) hu
  have ih:=Qa8 I o n A.in1 (by show A.units+1+n<cLine;lia)
  have w:∀{ad:Addr} {M:List V},SqL X.K H ad M->∃d:Array Value,s.heap.IsList ad d:=fun q=>by
   obtain⟨d,_,p,_⟩:=I.list q;exact⟨_,p.isList⟩
  have v:∀{ad:Addr} {M:List V},SqT X.K H ad M->∃d:Array Value,s.heap.IsTuple ad d:=fun q=>by
   obtain⟨d,_,p,_⟩:=I.tuple q;exact⟨_,p⟩
  cases Xo o Q e1 with
  | flat f z=>
   cases Xo o G x with
   |flat f' D=>
    have:=QlO (A:=A) (s:=s) i g f f'
    rcases z with⟨rfl,rfl⟩|⟨_,rfl,rfl⟩|⟨_,rfl,rfl⟩|⟨_,rfl,rfl⟩<;>rcases D with⟨rfl,rfl⟩|⟨_,rfl,rfl⟩|⟨_,rfl,rfl⟩|⟨_,rfl,rfl⟩<;>(unfold eqW;exact this)
   |lst e q=>
    subst e;cases g;obtain⟨d,p⟩:=w q
    rcases z with⟨rfl,rfl⟩|⟨_,rfl,rfl⟩|⟨_,rfl,rfl⟩|⟨_,rfl,rfl⟩
    ·cases i;unfold eqW;exact EqAt.none_list p c
    ·cases i;unfold eqW;exact EqAt.bool_list _ p c
    ·obtain⟨t,rfl⟩:=i;unfold eqW;exact EqAt.int_list _ t p c
    ·obtain⟨t,rfl⟩:=i;unfold eqW;exact EqAt.str_list _ t p c
   |tup e q=>
    subst e;cases g;obtain⟨d,p⟩:=v q
    rcases z with⟨rfl,rfl⟩|⟨_,rfl,rfl⟩|⟨_,rfl,rfl⟩|⟨_,rfl,rfl⟩
    ·cases i;unfold eqW;exact EqAt.none_tuple p c
    ·cases i;unfold eqW;exact EqAt.bool_tuple _ p c
    ·obtain⟨t,rfl⟩:=i;unfold eqW;exact EqAt.int_tuple _ t p c
    ·obtain⟨t,rfl⟩:=i;unfold eqW;exact EqAt.str_tuple _ t p c
  | @lst C _ _ _ e q r m=>
   subst e;cases i;obtain⟨d,p⟩:=w q;have Z:=Xo o G x;cases Z with
   |flat f' D=>
    rcases D with⟨rfl,rfl⟩|⟨_,rfl,rfl⟩|⟨_,rfl,rfl⟩|⟨_,rfl,rfl⟩
    ·cases g;unfold eqW;exact EqAt.list_none p c
    ·cases g;unfold eqW;exact EqAt.list_bool _ p c
    ·obtain⟨t,rfl⟩:=g;unfold eqW;exact EqAt.list_int _ t p c
    ·obtain⟨t,rfl⟩:=g;unfold eqW;exact EqAt.list_str _ t p c
   |@lst B _ _ _ y u S Y=>
    subst y;cases g
    by_cases j:C=B
    ·subst j;have:=Yj I o (n+1) E l _ _ _ Q G e1 x;rw[this,WW (n+1) l _ x];exact EqAt.same _
    ·unfold eqW;exact EqAt.of_refs j (QaL I c ih q u r S m Y)
   |tup y u=>
    subst y;cases g;obtain⟨L,U⟩:=v u;unfold eqW;exact EqAt.list_tuple p U c
  | @tup C _ _ _ e q r m=>
   subst e;cases i;obtain⟨d,p⟩:=v q;have Z:=Xo o G x;cases Z with
   |flat f' D=>
    rcases D with⟨rfl,rfl⟩|⟨_,rfl,rfl⟩|⟨_,rfl,rfl⟩|⟨_,rfl,rfl⟩
    ·cases g;unfold eqW;exact EqAt.tuple_none p c
    ·cases g;unfold eqW;exact EqAt.tuple_bool _ p c
    ·obtain⟨t,rfl⟩:=g;unfold eqW;exact EqAt.tuple_int _ t p c
    ·obtain⟨t,rfl⟩:=g;unfold eqW;exact EqAt.tuple_str _ t p c
   |lst y u=>
    subst y;cases g;obtain⟨L,U⟩:=w u;unfold eqW;exact EqAt.tuple_list p U c
   |@tup B _ _ _ y u S Y=>
    subst y;cases g
    by_cases j:C=B
    ·subst j;have:=Yj I o (n+1) E l _ _ _ Q G e1 x;rw[this,WW (n+1) l _ x];exact EqAt.same _
    ·unfold eqW;exact EqAt.of_refs j (Qeq I c ih q u r S m Y)
end
end Mi
namespace Mi
open L2 PySem.SeqAt
section
variable{X:Cx}{pins:List (Addr×Obj)}{σ:L2.St}{H:Hp}{s:Shared}{R:Rn}{h:MH}
theorem Qb2(I:Inv X pins σ H s)(hu:A.units<cLine)(C:∀i g v1 c m l a b,Rw X.K R i v1->Rw X.K R g c->RelV v1 m->RelV c l->drf h n i=some a->drf h n g=some b->EqAt A.in1 s m l (eqW a b))
  {ad x:Addr} (B:SqL X.K H ad xs) (z:SqL X.K H x y) (p:Rws X.K R e xs) (o:Rws X.K R d y) (u:Zo (drf h n) e=some as) (t:Zo (drf h n) d=some bs):RcNeAt A s (.ref ad) (.ref x) (!Wz as bs):=by
 obtain⟨f,v1,r,_⟩:=I.list B;obtain⟨v,c,q,_⟩:=I.list z;have P:=p.length;have O:=v1.length;have N:=o.length;have M:=c.length;have L:=(Qz u).1;have G:=(Qz t).1
 by_cases w:as.length=bs.length
 ·rw[XR w];have:=RcNeAt.lists (A:=A) r.isList q.isList (by rw[Nr,Nr];lia) hu (fun j E D=>Xk C p o v1 c u t j E D);rw[Nr]at this;rw[show as.length=f.length by lia];exact this
 ·rw[X7 w];exact RcNeAt.lists_lengths r.isList q.isList (by rw[Nr,Nr];simp;lia) hu
theorem Qez(I:Inv X pins σ H s)(hu:A.units<cLine)(C:∀m l v1 e p o a b,Rw X.K R m v1->Rw X.K R l e->RelV v1 p->RelV e o->drf h n m=some a->drf h n l=some b->EqAt A.in1 s p o (eqW a b))
  {ad i:Addr} (y:SqT X.K H ad xs) (x:SqT X.K H i w) (r:Rws X.K R g xs) (q:Rws X.K R f w) (u:Zo (drf h n) g=some as) (t:Zo (drf h n) f=some bs):RcNeAt A s (.ref ad) (.ref i) (!Wz as bs):=by
 obtain⟨d,v1,B,_⟩:=I.tuple y;obtain⟨c,e,z,_⟩:=I.tuple x;have P:=r.length;have O:=v1.length;have N:=q.length;have M:=e.length;have L:=(Qz u).1;have G:=(Qz t).1;have:=RcNeAt.tuples (A:=A) (show s.heap.IsTuple ad d.toArray from B) (show s.heap.IsTuple i c.toArray from z) hu (fun j E D=>Xk C r q v1 e u t j E D);rw[Nr,Nr]at this
 by_cases v:as.length=bs.length
 ·rw[XR v];rw[show min d.length c.length=as.length by lia,show(d.length==c.length)=true by simp;omega,LO]at this;exact this
 ·rw[X7 v];rw[show(d.length==c.length)=false by simp;omega,D0]at this;exact this
theorem Qkh(I:Inv X pins σ H s)(x:Rh X.K R h H)(n:Nat)(A:Around)(hu:A.units+n<cLine)(P O:W)(v1 Q:V)(U S:Value)(a b:W)(r1:Rw X.K R P v1)(C:Rw X.K R O Q)(j:RelV v1 U)(c:RelV Q S)(e1:drf h n P=some a)(M:drf h n O=some b):RcAt A s U S (eqW a b):=by
 cases n with
 |zero=>cases e1
 | succ n=>
  have d:A.units<cLine:=by exact Nf (Nm _ _) hu
  have Y:=Qa8 I x n A.in1 (by show A.units+1+n<cLine;lia)
  have u:∀{ad:Addr} {B:List V},SqL X.K H ad B->∃i:Array Value,s.heap.IsList ad i:=fun q=>by
   obtain⟨i,_,p,_⟩:=I.list q;exact⟨_,p.isList⟩
  have o:∀{ad:Addr} {B:List V},SqT X.K H ad B->∃i:Array Value,s.heap.IsTuple ad i:=fun q=>by
   obtain⟨i,_,p,_⟩:=I.tuple q;exact⟨_,p⟩
  cases Xo x r1 e1 with
  | flat f z=>
   cases Xo x C M with
   | flat Z w=>
    rcases z with⟨rfl,rfl⟩|⟨_,rfl,rfl⟩|⟨_,rfl,rfl⟩|⟨_,rfl,rfl⟩<;>rcases w with⟨rfl,rfl⟩|⟨_,rfl,rfl⟩|⟨_,rfl,rfl⟩|⟨_,rfl,rfl⟩<;>first|(obtain⟨aa,rfl⟩:=j)|cases j
    ·first|(obtain⟨g,rfl⟩:=c)|cases c
     unfold eqW;exact RcAt.none_none
    ·first|(obtain⟨g,rfl⟩:=c)|cases c
     unfold eqW;exact RcAt.none_bool _
    ·first|(obtain⟨g,rfl⟩:=c)|cases c
     unfold eqW;exact RcAt.none_int _ _
    ·first|(obtain⟨g,rfl⟩:=c)|cases c
     unfold eqW;exact RcAt.none_str _ _
    ·first|(obtain⟨g,rfl⟩:=c)|cases c
     unfold eqW;exact RcAt.bool_none _
    ·first|(obtain⟨g,rfl⟩:=c)|cases c
     unfold eqW;exact RcAt.bool_bool _ _
    ·first|(obtain⟨g,rfl⟩:=c)|cases c
     unfold eqW;exact RcAt.bool_int _ _ _
    ·first|(obtain⟨g,rfl⟩:=c)|cases c
     unfold eqW;exact RcAt.bool_str _ _ _
    ·first|(obtain⟨g,rfl⟩:=c)|cases c
     unfold eqW;exact RcAt.int_none _ _
    ·first|(obtain⟨g,rfl⟩:=c)|cases c
     unfold eqW;exact RcAt.int_bool _ _ _
    ·first|(obtain⟨g,rfl⟩:=c)|cases c
     unfold eqW;exact RcAt.int_int _ _ _ _
    ·first|(obtain⟨g,rfl⟩:=c)|cases c
     unfold eqW;exact RcAt.int_str _ _ _ _
    ·first|(obtain⟨g,rfl⟩:=c)|cases c
     unfold eqW;exact RcAt.str_none _ _
    ·first|(obtain⟨g,rfl⟩:=c)|cases c
     unfold eqW;exact RcAt.str_bool _ _ _
    ·first|(obtain⟨g,rfl⟩:=c)|cases c
     unfold eqW;exact RcAt.str_int _ _ _ _
    ·first|(obtain⟨g,rfl⟩:=c)|cases c
     unfold eqW;exact RcAt.str_str _ _ _ _
   |lst e q=>
    subst e;cases c;obtain⟨i,p⟩:=u q
    rcases z with⟨rfl,rfl⟩|⟨_,rfl,rfl⟩|⟨_,rfl,rfl⟩|⟨_,rfl,rfl⟩
    ·cases j;unfold eqW;exact RcAt.none_list p d
    ·cases j;unfold eqW;exact RcAt.bool_list _ p d
    ·obtain⟨t,rfl⟩:=j;unfold eqW;exact RcAt.int_list _ t p d
    ·obtain⟨t,rfl⟩:=j;unfold eqW;exact RcAt.str_list _ t p d
   |tup e q=>
    subst e;cases c;obtain⟨i,p⟩:=o q
    rcases z with⟨rfl,rfl⟩|⟨_,rfl,rfl⟩|⟨_,rfl,rfl⟩|⟨_,rfl,rfl⟩
    ·cases j;unfold eqW;exact RcAt.none_tuple p d
    ·cases j;unfold eqW;exact RcAt.bool_tuple _ p d
    ·obtain⟨t,rfl⟩:=j;unfold eqW;exact RcAt.int_tuple _ t p d
    ·obtain⟨t,rfl⟩:=j;unfold eqW;exact RcAt.str_tuple _ t p d
  | @lst N _ _ _ e q r m=>
   subst e;cases j;obtain⟨i,p⟩:=u q;have L:=Xo x C M;cases L with
   |flat Z w=>
    rcases w with⟨rfl,rfl⟩|⟨_,rfl,rfl⟩|⟨_,rfl,rfl⟩|⟨_,rfl,rfl⟩
    ·cases c;unfold eqW;exact RcAt.list_none p d
    ·cases c;unfold eqW;exact RcAt.list_bool _ p d
    ·obtain⟨t,rfl⟩:=c;unfold eqW;exact RcAt.list_int _ t p d
    ·obtain⟨t,rfl⟩:=c;unfold eqW;exact RcAt.list_str _ t p d
   |tup v l=>
    subst v;cases c;obtain⟨y,E⟩:=o l;unfold eqW;exact RcAt.list_tuple p E d
   |lst v l D G=>
    subst v;cases c;unfold eqW;exact QaL I d Y q l r D m G
  | @tup N _ _ _ e q r m=>
   subst e;cases j;obtain⟨i,p⟩:=o q;have L:=Xo x C M;cases L with
   |flat Z w=>
    rcases w with⟨rfl,rfl⟩|⟨_,rfl,rfl⟩|⟨_,rfl,rfl⟩|⟨_,rfl,rfl⟩
    ·cases c;unfold eqW;exact RcAt.tuple_none p d
    ·cases c;unfold eqW;exact RcAt.tuple_bool _ p d
    ·obtain⟨t,rfl⟩:=c;unfold eqW;exact RcAt.tuple_int _ t p d
    ·obtain⟨t,rfl⟩:=c;unfold eqW;exact RcAt.tuple_str _ t p d
   |lst v l=>
    subst v;cases c;obtain⟨y,E⟩:=u l;unfold eqW;exact RcAt.tuple_list p E d
   |tup v l D G=>
    subst v;cases c;unfold eqW;exact Qeq I d Y q l r D m G
theorem Qfs(I:Inv X pins σ H s)(x:Rh X.K R h H)(n:Nat)(A:Around)(hu:A.units+n<cLine)(P O:W)(v1 Q:V)(U S:Value)(a b:W)(r1:Rw X.K R P v1)(C:Rw X.K R O Q)(j:RelV v1 U)(c:RelV Q S)(e1:drf h n P=some a)(M:drf h n O=some b):RcNeAt A s U S (!eqW a b):=by
 cases n with
 |zero=>cases e1
 | succ n=>
  have d:A.units<cLine:=by exact Nf (Nm _ _) hu
  have Y:=Qa8 I x n A.in1 (by show A.units+1+n<cLine;omega)
  have u:∀{ad:Addr} {B:List V},SqL X.K H ad B->∃i:Array Value,s.heap.IsList ad i:=fun q=>by
   obtain⟨i,_,p,_⟩:=I.list q;exact⟨_,p.isList⟩
  have o:∀{ad:Addr} {B:List V},SqT X.K H ad B->∃i:Array Value,s.heap.IsTuple ad i:=fun q=>by
   obtain⟨i,_,p,_⟩:=I.tuple q;exact⟨_,p⟩
  cases Xo x r1 e1 with
  | flat f z=>
   cases Xo x C M with
   | flat Z w=>
    rcases z with⟨rfl,rfl⟩|⟨_,rfl,rfl⟩|⟨_,rfl,rfl⟩|⟨_,rfl,rfl⟩<;>rcases w with⟨rfl,rfl⟩|⟨_,rfl,rfl⟩|⟨_,rfl,rfl⟩|⟨_,rfl,rfl⟩<;>first|(obtain⟨aa,rfl⟩:=j)|cases j
    ·first|(obtain⟨g,rfl⟩:=c)|cases c
     unfold eqW;exact RcNeAt.none_none
    ·first|(obtain⟨g,rfl⟩:=c)|cases c
     unfold eqW;exact RcNeAt.none_bool _
    ·first|(obtain⟨g,rfl⟩:=c)|cases c
     unfold eqW;exact RcNeAt.none_int _ _
    ·first|(obtain⟨g,rfl⟩:=c)|cases c
     unfold eqW;exact RcNeAt.none_str _ _
    ·first|(obtain⟨g,rfl⟩:=c)|cases c
     unfold eqW;exact RcNeAt.bool_none _
    ·first|(obtain⟨g,rfl⟩:=c)|cases c
     unfold eqW;exact RcNeAt.bool_bool _ _
    ·first|(obtain⟨g,rfl⟩:=c)|cases c
     unfold eqW;exact RcNeAt.bool_int _ _ _
    ·first|(obtain⟨g,rfl⟩:=c)|cases c
     unfold eqW;exact RcNeAt.bool_str _ _ _
    ·first|(obtain⟨g,rfl⟩:=c)|cases c
     unfold eqW;exact RcNeAt.int_none _ _
    ·first|(obtain⟨g,rfl⟩:=c)|cases c
     unfold eqW;exact RcNeAt.int_bool _ _ _
    ·first|(obtain⟨g,rfl⟩:=c)|cases c
     unfold eqW;exact RcNeAt.int_int _ _ _ _
    ·first|(obtain⟨g,rfl⟩:=c)|cases c
     unfold eqW;exact RcNeAt.int_str _ _ _ _
    ·first|(obtain⟨g,rfl⟩:=c)|cases c
     unfold eqW;exact RcNeAt.str_none _ _
    ·first|(obtain⟨g,rfl⟩:=c)|cases c
     unfold eqW;exact RcNeAt.str_bool _ _ _
    ·first|(obtain⟨g,rfl⟩:=c)|cases c
     unfold eqW;exact RcNeAt.str_int _ _ _ _
    ·first|(obtain⟨g,rfl⟩:=c)|cases c
     unfold eqW;exact RcNeAt.str_str _ _ _ _
   |lst e q=>
    subst e;cases c;obtain⟨i,p⟩:=u q
    rcases z with⟨rfl,rfl⟩|⟨_,rfl,rfl⟩|⟨_,rfl,rfl⟩|⟨_,rfl,rfl⟩
    ·cases j;unfold eqW;exact RcNeAt.none_list p d
    ·cases j;unfold eqW;exact RcNeAt.bool_list _ p d
    ·obtain⟨t,rfl⟩:=j;unfold eqW;exact RcNeAt.int_list _ t p d
    ·obtain⟨t,rfl⟩:=j;unfold eqW;exact RcNeAt.str_list _ t p d
   |tup e q=>
    subst e;cases c;obtain⟨i,p⟩:=o q
    rcases z with⟨rfl,rfl⟩|⟨_,rfl,rfl⟩|⟨_,rfl,rfl⟩|⟨_,rfl,rfl⟩
    ·cases j;unfold eqW;exact RcNeAt.none_tuple p d
    ·cases j;unfold eqW;exact RcNeAt.bool_tuple _ p d
    ·obtain⟨t,rfl⟩:=j;unfold eqW;exact RcNeAt.int_tuple _ t p d
    ·obtain⟨t,rfl⟩:=j;unfold eqW;exact RcNeAt.str_tuple _ t p d
  | @lst N _ _ _ e q r m=>
   subst e;cases j;obtain⟨i,p⟩:=u q;have L:=Xo x C M;cases L with
   |flat Z w=>
    rcases w with⟨rfl,rfl⟩|⟨_,rfl,rfl⟩|⟨_,rfl,rfl⟩|⟨_,rfl,rfl⟩
    ·cases c;unfold eqW;exact RcNeAt.list_none p d
    ·cases c;unfold eqW;exact RcNeAt.list_bool _ p d
    ·obtain⟨t,rfl⟩:=c;unfold eqW;exact RcNeAt.list_int _ t p d
    ·obtain⟨t,rfl⟩:=c;unfold eqW;exact RcNeAt.list_str _ t p d
   |tup v l=>
    subst v;cases c;obtain⟨y,E⟩:=o l;unfold eqW;exact RcNeAt.list_tuple p E d
   |lst v l D G=>
    subst v;cases c;unfold eqW;exact Qb2 I d Y q l r D m G
  | @tup N _ _ _ e q r m=>
   subst e;cases j;obtain⟨i,p⟩:=o q;have L:=Xo x C M;cases L with
   |flat Z w=>
    rcases w with⟨rfl,rfl⟩|⟨_,rfl,rfl⟩|⟨_,rfl,rfl⟩|⟨_,rfl,rfl⟩
    ·cases c;unfold eqW;exact RcNeAt.tuple_none p d
    ·cases c;unfold eqW;exact RcNeAt.tuple_bool _ p d
    ·obtain⟨t,rfl⟩:=c;unfold eqW;exact RcNeAt.tuple_int _ t p d
    ·obtain⟨t,rfl⟩:=c;unfold eqW;exact RcNeAt.tuple_str _ t p d
   |lst v l=>
    subst v;cases c;obtain⟨y,E⟩:=u l;unfold eqW;exact RcNeAt.tuple_list p E d
   |tup v l D G=>
    subst v;cases c;unfold eqW;exact Qez I d Y q l r D m G
end
noncomputable def wEq(a b:W)(h:MH):Option (W×MH):=(drf h 40 a).bind fun x=>(drf h 40 b).map fun y=>(.bl (eqW x y),h)
noncomputable def wNe(a b:W)(h:MH):Option (W×MH):=(drf h 40 a).bind fun x=>(drf h 40 b).map fun y=>(.bl (!eqW x y),h)
theorem Ql{K:Nj}:OpM K (F2 K f) f:=fun _ _ _ _ q=>q
section
variable{X:Cx}
theorem QjT(hu:X.A.units+64<cLine):OpR X (compareOp .Eq) (F2 X.K wEq):=by
 intro d s t H x y v u Q I g f q;obtain⟨R,h,a,b,w,z,c,j,i,e,k⟩:=q;obtain⟨r,o,n⟩:=Na.mp e;obtain⟨p,m,l⟩:=Nk.mp n;cases l;exact Qkh I c 40 X.A (NW (NO (by decide) _) hu) a b x y v u r p j i g f o m _ _ _ _ ⟨.bl _,H,I,rfl,k R H _ (Ext.refl _) c (Rw.bl _)⟩
theorem Qbp(hu:X.A.units+64<cLine):OpR X (compareOp .NotEq) (F2 X.K wNe):=by
 intro d s t H x y v u Q I g f q;obtain⟨R,h,a,b,w,z,c,j,i,e,k⟩:=q;obtain⟨r,o,n⟩:=Na.mp e;obtain⟨p,m,l⟩:=Nk.mp n;cases l;exact Qfs I c 40 X.A (NW (NO (by decide) _) hu) a b x y v u r p j i g f o m _ _ _ _ ⟨.bl _,H,I,rfl,k R H _ (Ext.refl _) c (Rw.bl _)⟩
noncomputable def inW(x:W)(xs:List W):Bool:=xs.any fun y=>eqW y x
noncomputable def wIn(neg:Bool)(a b:W)(h:MH):Option (W×MH):=match b with
 |.tup d=>(drf h 40 a).bind fun x=>(Zo (drf h 40) d).map fun c=>(.bl (if neg then !inW x c else inW x c),h)
 |b=>(lsW h b).bind fun d=>(drf h 40 a).bind fun x=>(Zo (drf h 40) d).map fun c=>(.bl (if neg then !inW x c else inW x c),h)
open Classical in
noncomputable def Qfy(K:Nj)(R:Rn)(h:MH)(x:W)(u:Value):Bool:=decide (∃w v a,Rw K R w v/\RelV v u/\drf h 40 w=some a/\eqW a x=true)
open Classical in
theorem QaJ(I:Inv X c σ H s)(i:Rh X.K R h H)(r:Rw X.K R w v)(t:RelV v u)(e:drf h 40 w=some a):Qfy X.K R h x u=eqW a x:=by
 unfold Qfy
 by_cases q:eqW a x=true
 ·rw[q];exact decide_eq_true ⟨w,v,a,r,t,e,q⟩
 ·have b:eqW a x=false:=by simpa using q
  rw[b];refine decide_eq_false fun d=>?_;obtain⟨f,n,m,j,g,l,z⟩:=d;have:=t.inj g;subst this;rw[Yj I i 40 w f v a m r j e l,z]at b;cases b
theorem Qen(I:Inv X b σ H s)(a:Rh X.K R h H):∀{ws as:List W} {xs:List V} {us:List Value},Rws X.K R ws xs->Vals xs us->Zo (drf h 40) ws=some as->us.any (Qfy X.K R h x)=inW x as
 |[],_,_,_,r,t,m=>by
  rw[Rws.nil_iff]at r;subst r;cases t;cases m;rfl
 | w::ws,_,_,_,r,t,m=>by
  rw[Rws.cons_iff]at r;obtain⟨v,d,rfl,i,g⟩:=r;cases t with
  |cons f e=>
   obtain⟨y,o,n⟩:=Na.mp m;obtain⟨p,l,j⟩:=Nk.mp n;subst j;have c:=Qen I a (x:=x) g e l;unfold inW at c ⊢;rw[De,De,QaJ I a i f o,c]
theorem WU(I:Inv X j σ H s)(g:Rh X.K R h H)(hu:A.units+40<cLine)(q:Rw X.K R a v)(p:RelV v u)(E:drf h 40 a=some x) 
  (r:Rws X.K R ws xs) (t:Vals xs us) (m:Zo (drf h 40) ws=some as):∀y∈us,EqAt A s y u (Qfy X.K R h x y):=by
 intro y C;obtain⟨i,l,e⟩:=Dz.mp C;have B:=r.length;have z:=t.length;obtain⟨w,hw⟩:∃w,ws[i]?=some w:=⟨ws[i]'(Nd (Nd l (Nt z.symm)) (Nt B.symm)),Nl _⟩
 obtain⟨o,D,d⟩:=r.get hw;obtain⟨G,c,f⟩:=t.get D;rw[Nl l,e]at c;cases c;obtain⟨b,L,n⟩:=(Qz m).2 i w hw;rw[QaJ I g d f n];exact Qa8 I g 40 A hu w a o v y u b x d q f p n E
theorem Qet(hu:X.A.units+64<cLine):OpR X (compareOp .In) (F2 X.K (wIn false)):=by
 intro p s Y H x y v u Q I P O q;obtain⟨R,h,a,b,w,N,l,U,S,e,k⟩:=q;have B:X.A.in1.units+40<cLine:=by show X.A.units+1+40<cLine;lia
 have main:∀g,((drf h 40 a).bind fun x=>(Zo (drf h 40) g).map fun c=>((W.bl (if false then !inW x c else inW x c),h):W×MH))=some (w,N)->∃d c,drf h 40 a=some d/\Zo (drf h 40) g=some c/\w=.bl (inW d c)/\N=h:=fun g e=>by
  obtain⟨d,j,e2⟩:=Na.mp e;obtain⟨c,i,Z⟩:=Nk.mp e2;cases Z;exact⟨d,c,j,i,rfl,rfl⟩
 have fin:∀{d:W} {c E:List W} {m:List V} {f:List Value},Rws X.K R E m->Vals m f->drf h 40 a=some d->Zo (drf h 40) E=some c->w=.bl (inW d c)->N=h->EP X p Y Q (.bool (f.toArray.any (Qfy X.K R h d))) s:=fun {d c E m f} r t ea em C D=>by
  subst C D;rw[List.any_toArray,Qen I l r t em];exact⟨.bl _,H,I,rfl,k R H _ (Ext.refl _) l (Rw.bl _)⟩
 unfold wIn at e;split at e
 ·rename_i g;obtain⟨d,c,j,i,C,D⟩:=main g e;obtain⟨ad,m,rfl,G,o⟩:=l.tupAt S;cases O;obtain⟨f,n,L,_⟩:=I.tuple G;exact in_tupleAt (Qfy X.K R h d) (show s.heap.IsTuple ad f.toArray from L) (fun z M=>WU I l B U P j o n i z (by simpa using M)) (fin o n j i C D)
 ·obtain⟨g,e0,e⟩:=Na.mp e;obtain⟨d,c,j,i,C,D⟩:=main g e;obtain⟨ad,m,rfl,G,o⟩:=l.lsAt S e0;cases O;obtain⟨f,n,L,_⟩:=I.list G;exact in_listAt (Qfy X.K R h d) L.isList (fun z M=>WU I l B U P j o n i z (by simpa using M)) (fin o n j i C D)
end
noncomputable def VJ(a b:W)(h:MH):Option (W×MH):=match a,b with
 |.int i,.int j=>some (.int (i+j),h)
 |.str x,.str y=>if x.length+y.length<=sizeLine then some (.str (x++y),h)else none
 |.tup d,.tup c=>if d.length+c.length<=sizeLine then some (.tup (d++c),h)else none
 |a,b=>(loW h a).bind fun d=>(loW h b).bind fun c=>if d.length+c.length<=sizeLine then some (.lst (d++c),h)else none
noncomputable def UQ(a b:W)(h:MH):Option (W×MH):=match a,b with|.int i,.int j=>some (.int (i-j),h)|_,_=>none
noncomputable def QkD(a b:W)(h:MH):Option (W×MH):=match a,b with|.int i,.int j=>if(-(2^64)<i/\i<2^64)\/(-(2^64)<j/\j<2^64)then some (.int (i*j),h)else none|_,_=>none
noncomputable def QgG(a b:W)(h:MH):Option (W×MH):=match a,b with|.int i,.int j=>if 0<j/\j<1073741824 then some (.int (i/j),h)else none|_,_=>none
noncomputable def QeB(a b:W)(h:MH):Option (W×MH):=match a,b with|.int i,.int j=>if 0<j then some (.int (i%j),h)else none|_,_=>none
noncomputable def Qjp(a b:W)(h:MH):Option (W×MH):=match a,b with|.int i,.int j=>if 0<=j/\j<=1000000/\i.natAbs<2^64 then some (.int (i^j.toNat),h)else none|_,_=>none
noncomputable def wLt(a b:W)(h:MH):Option (W×MH):=match a,b with|.int i,.int j=>some (.bl (decide (i<j)),h)|.str x,.str y=>some (.bl (decide (x.cps.toList<y.cps.toList)),h)|_,_=>none
noncomputable def wLe(a b:W)(h:MH):Option (W×MH):=match a,b with|.int i,.int j=>some (.bl (decide (i<=j)),h)|.str x,.str y=>some (.bl (!decide (y.cps.toList<x.cps.toList)),h)|_,_=>none
noncomputable def wGt(a b:W)(h:MH):Option (W×MH):=match a,b with|.int i,.int j=>some (.bl (decide (j<i)),h)|_,_=>none
noncomputable def wGe(a b:W)(h:MH):Option (W×MH):=match a,b with|.int i,.int j=>some (.bl (decide (j<=i)),h)|_,_=>none
noncomputable def Xu:W->Bool
 |.non=>true
 |_=>false
noncomputable def wIs(a b:W)(h:MH):Option (W×MH):=match b with
 |.non=>some (.bl (Xu a),h)
 |.bl y=>match a with|.bl x=>some (.bl (x==y),h)|_=>none
 |_=>none
noncomputable def YQ(a b:W)(h:MH):Option (W×MH):=match b with
 |.non=>some (.bl (!Xu a),h)
 |_=>none
theorem QgC{K:Nj}(r:Rw K R a v):decide (v=.non)=Xu a:=by
 cases a with
 |non=>rw[r.non_eq];rfl
 |bl _=>rw[r.bl_eq];rfl
 |int _=>rw[r.int_eq];rfl
 |str _=>rw[r.str_eq];rfl
 |ty _=>rw[r.ty_eq];rfl
 |tup _=>unfold Rw at r;obtain⟨_,_,rfl,_⟩:=r;rfl
 |lst _=>unfold Rw at r;obtain⟨_,_,rfl,_⟩:=r;rfl
 |frz _=>unfold Rw at r;obtain⟨_,_,rfl,_⟩:=r;rfl
 |ref _=>unfold Rw at r;obtain⟨_,rfl⟩:=r;rfl
section
variable{X:Cx}
noncomputable def QmE(K:Nj):R2:=fun x y H Q=>∃a b c d,x=.ref a/\y=.ref b/\SqT K H a c/\SqT K H b d/\c.length+d.length<=sizeLine /\
 (c=[]->Q (.ref b) H)/\(c≠[]->d=[]->Q (.ref a) H)/\(c≠[]->d≠[]->∀p,H p=none->Q (.ref p) (upd H p (.tup (c++d))))
theorem op_catA:OpR X (binaryOp .Add) (QmE X.K):=by
 intro c s A H x y v u Q I p o h;obtain⟨a,b,m,B,rfl,rfl,w,t,S,L,G,E⟩:=h
 by_cases i:m=[]
 ·subst i;cases p;cases o;obtain⟨P,D,N,_⟩:=I.tuple w;obtain⟨d,U,M,_⟩:=I.tuple t;cases D;obtain⟨⟨cls,dd,data,C⟩,q,r,n,hd⟩:=id N;obtain⟨⟨z,l,data2,j⟩,e,g,O,f⟩:=id M;simp only at r hd g f;subst r hd g f
  exact Oe ⟨_,q,rfl⟩ ⟨_,e,rfl⟩ IF LR FK FG (Fw _ _)
   (tuple_addW0 a b #[] d.toArray n O dd l C j (by simp)) ⟨q,e,⟨.ref b,H,I,rfl,L rfl⟩⟩
 ·exact QiX c s A H _ _ v u Q I p o ⟨a,b,m,B,rfl,rfl,w,t,i,S,G i,E i⟩
theorem Qdc:OpR X (compareOp .LtE) (fun x y H Q=>∃i j,x=.str i/\y=.str j/\Q (.bl (!decide (j.cps.toList<i.cps.toList))) H):=by
 intro a s d H x y v u Q I c b h;obtain⟨i,j,rfl,rfl,q⟩:=h;obtain⟨t,rfl⟩:=c;obtain⟨e,rfl⟩:=b;exact PySem.P.le_str ⟨.bl _,H,I,rfl,q⟩
theorem QkZ:OpR X (compareOp .Is) (fun x y H Q=>∃i j,x=.bl i/\y=.bl j/\Q (.bl (i==j)) H):=by
 intro a s d H x y v u Q I c b h;obtain⟨i,j,rfl,rfl,q⟩:=h;cases c;cases b;exact is_bool ⟨.bl _,H,I,rfl,q⟩
theorem Qjr:OpR X (binaryOp .Add) (F2 X.K VJ):=by
 intro m s S H x y v u Q I Y U q;refine(op_add.or (op_add_str.or (op_catA.or QjV))) m s S H x y v u Q I Y U ?_;obtain⟨R,h,a,b,w,Z,c,i,g,e,k⟩:=q;unfold VJ at e;split at e
 ·cases e;exact .inl ⟨_,_,i.int_eq,g.int_eq,k R H _ (Ext.refl _) c (Rw.int _)⟩
 ·split at e
  ·rename_i E;cases e;exact .inr (.inl ⟨_,_,i.str_eq,g.str_eq,E,k R H _ (Ext.refl _) c (Rw.str _)⟩)
  ·cases e
 ·split at e
  ·rename_i N M E;cases e;obtain⟨ad,t,o,C,l⟩:=c.tupAt i;obtain⟨G,r,n,B,j⟩:=c.tupAt g;have P:=l.length;have O:=j.length;refine .inr (.inr (.inl ⟨ad,G,t,r,o,n,C,B,by lia,fun z=>?_,fun _ z=>?_,fun _ _ p D=>?_⟩))
   ·subst z;have:N=[]:=N7.mp P;subst this;exact k R H _ (Ext.refl _) c (n▸g)
   ·subst z;have:M=[]:=N7.mp O;subst this;rw[EE]at k;exact k R H _ (Ext.refl _) c (o▸i)
   ·obtain⟨L,A,f,d⟩:=c.tup D (Rws.append l j);exact k L _ _ A f d
  ·cases e
 ·obtain⟨N,o,e⟩:=Na.mp e;obtain⟨M,n,e⟩:=Na.mp e;split at e
  ·rename_i E;cases e;obtain⟨ad,t,f1,C,l⟩:=c.loAt i o;obtain⟨G,r,f2,B,j⟩:=c.loAt g n;have P:=l.length;have O:=j.length;refine .inr (.inr (.inr ⟨ad,G,t,r,f1,f2,C,B,by omega,fun p D=>?_⟩));obtain⟨L,A,f,d⟩:=c.lstI D (Rws.append l j);exact k L _ _ A f d
  ·cases e
theorem JG:OpR X (binaryOp .Sub) (F2 X.K UQ):=by
 intro c s d H x y v u Q I g f q;refine Qkb c s d H x y v u Q I g f ?_;obtain⟨R,h,a,b,w,m,i,l,j,e,k⟩:=q;unfold UQ at e;split at e
 ·cases e;exact⟨_,_,l.int_eq,j.int_eq,k R H _ (Ext.refl _) i (Rw.int _)⟩
 ·cases e
theorem Qhj:OpR X (binaryOp .Mult) (F2 X.K QkD):=by
 intro c s d H x y v u Q I g f q;refine Qlx c s d H x y v u Q I g f ?_;obtain⟨R,h,a,b,w,n,i,l,j,e,k⟩:=q;unfold QkD at e;split at e
 ·split at e
  ·rename_i m;cases e;exact⟨_,_,l.int_eq,j.int_eq,m,k R H _ (Ext.refl _) i (Rw.int _)⟩
  ·cases e
 ·cases e
theorem Qaq:OpR X (binaryOp .FloorDiv) (F2 X.K QgG):=by
 intro c s d H x y v u Q I g f q;refine QiM c s d H x y v u Q I g f ?_;obtain⟨R,h,a,b,w,n,i,l,j,e,k⟩:=q;unfold QgG at e;split at e
 ·split at e
  ·rename_i m;cases e;exact⟨_,_,l.int_eq,j.int_eq,m,k R H _ (Ext.refl _) i (Rw.int _)⟩
  ·cases e
 ·cases e
theorem Kx:OpR X (binaryOp .Mod) (F2 X.K QeB):=by
 intro c s d H x y v u Q I g f q;refine QlK c s d H x y v u Q I g f ?_;obtain⟨R,h,a,b,w,n,i,l,j,e,k⟩:=q;unfold QeB at e;split at e
 ·split at e
  ·rename_i m;cases e;exact⟨_,_,l.int_eq,j.int_eq,m,k R H _ (Ext.refl _) i (Rw.int _)⟩
  ·cases e
 ·cases e
theorem QeD:OpR X (binaryOp .Pow) (F2 X.K Qjp):=by
 intro c s d H x y v u Q I g f q;refine Qlp c s d H x y v u Q I g f ?_;obtain⟨R,h,a,b,w,n,i,l,j,e,k⟩:=q;unfold Qjp at e;split at e
 ·split at e
  ·rename_i m;cases e;exact⟨_,_,l.int_eq,j.int_eq,m,k R H _ (Ext.refl _) i (Rw.int _)⟩
  ·cases e
 ·cases e
theorem Wr:OpR X (compareOp .Lt) (F2 X.K wLt):=by
 intro c s i H x y v u Q I l j q;refine(op_lt.or Qec) c s i H x y v u Q I l j ?_;obtain⟨R,h,a,b,w,m,d,g,f,e,k⟩:=q;unfold wLt at e;split at e
 ·cases e;exact .inl ⟨_,_,g.int_eq,f.int_eq,k R H _ (Ext.refl _) d (Rw.bl _)⟩
 ·cases e;exact .inr ⟨_,_,g.str_eq,f.str_eq,k R H _ (Ext.refl _) d (Rw.bl _)⟩
 ·cases e
theorem QjK:OpR X (compareOp .LtE) (F2 X.K wLe):=by
 intro c s i H x y v u Q I l j q;refine(op_le.or Qdc) c s i H x y v u Q I l j ?_;obtain⟨R,h,a,b,w,m,d,g,f,e,k⟩:=q;unfold wLe at e;split at e
 ·cases e;exact .inl ⟨_,_,g.int_eq,f.int_eq,k R H _ (Ext.refl _) d (Rw.bl _)⟩
 ·cases e;exact .inr ⟨_,_,g.str_eq,f.str_eq,k R H _ (Ext.refl _) d (Rw.bl _)⟩
 ·cases e
theorem YN:OpR X (compareOp .Gt) (F2 X.K wGt):=by
 intro c s d H x y v u Q I g f q;refine QnK c s d H x y v u Q I g f ?_;obtain⟨R,h,a,b,w,m,i,l,j,e,k⟩:=q;unfold wGt at e;split at e
 ·cases e;exact⟨_,_,l.int_eq,j.int_eq,k R H _ (Ext.refl _) i (Rw.bl _)⟩
 ·cases e
theorem Qky:OpR X (compareOp .GtE) (F2 X.K wGe):=by
 intro c s d H x y v u Q I g f q;refine Qm1 c s d H x y v u Q I g f ?_;obtain⟨R,h,a,b,w,m,i,l,j,e,k⟩:=q;unfold wGe at e;split at e
 ·cases e;exact⟨_,_,l.int_eq,j.int_eq,k R H _ (Ext.refl _) i (Rw.bl _)⟩
 ·cases e
theorem Ws:OpR X (compareOp .Is) (F2 X.K wIs):=by
 intro c s i H x y v u Q I l j q;refine(op_isN.or QkZ) c s i H x y v u Q I l j ?_;obtain⟨R,h,a,b,w,m,d,g,f,e,k⟩:=q;unfold wIs at e;split at e
 ·cases e;exact .inl ⟨f.non_eq,by rw[QgC g];exact k R H _ (Ext.refl _) d (Rw.bl _)⟩
 ·split at e
  ·cases e;exact .inr ⟨_,_,g.bl_eq,f.bl_eq,k R H _ (Ext.refl _) d (Rw.bl _)⟩
  ·cases e
 ·cases e
theorem Gm:OpR X (compareOp .IsNot) (F2 X.K YQ):=by
 intro c s d H x y v u Q I g f q;refine Qh4 c s d H x y v u Q I g f ?_;obtain⟨R,h,a,b,w,m,i,l,j,e,k⟩:=q;unfold YQ at e;split at e
 ·cases e;exact⟨j.non_eq,by rw[QgC l];exact k R H _ (Ext.refl _) i (Rw.bl _)⟩
 ·cases e
noncomputable def U9(a:W)(h:MH):Option (W×MH):=match a with|.int i=>some (.int (-i),h)|_=>none
theorem VI(f:PM X a d):PM X (.UnaryOp .USub a pos) (mUn U9 d):=Q7 (Qnz Qkx f) fun i H Q q=>JE (un1 q) <|by
 rintro x g ⟨R,h,a,w,j,b,c,e,k⟩
 unfold U9 at e;split at e
 ·cases e;exact⟨_,c.int_eq,k R g _ (Ext.refl _) b (Rw.int _)⟩
 ·cases e
noncomputable def wIx(a b:W)(h:MH):Option (W×MH):=match b with
 |.int i=>match a with
  |.tup d=>(atI d i).map fun w=>(w,h)
  |.str x=>if x.length<=sizeLine then(atI x.cps.toList i).map fun c=>(.str ⟨#[c]⟩,h)else none
  |a=>(lsW h a).bind fun d=>(atI d i).map fun w=>(w,h)
 |_=>none
theorem Qco{K:Nj}(r:Rws K R ws xs)(e:atI ws i=some w):∃v,atI xs i=some v/\Rw K R w v:=by
 unfold atI at e ⊢;rw[<-r.length];obtain⟨j,d,c⟩:=Na.mp e;obtain⟨v,b,a⟩:=r.get c;exact⟨v,by rw[d];exact b,a⟩
theorem Qh1:IxR X (F2 X.K wIx):=by
 intro value slice f s z H x y v u Q I D C q E;refine Qj3 value slice f s z H x y v u Q I D C ?_ E;obtain⟨R,h,a,b,w,M,d,n,m,e,k⟩:=q;unfold wIx at e;split at e
 ·rename_i i;split at e
  ·rename_i A;obtain⟨B,j,g⟩:=Nk.mp e;cases g;obtain⟨ad,l,rfl,r,p⟩:=d.tupAt n;obtain⟨v1,t,o⟩:=Qco p j;exact .inr (.inl ⟨ad,l,i,v1,rfl,m.int_eq,r,t,k R H _ (Ext.refl _) d o⟩)
  ·split at e
   ·rename_i G;obtain⟨c,j,g⟩:=Nk.mp e;cases g;exact .inr (.inr ⟨_,i,c,n.str_eq,m.int_eq,G,j,k R H _ (Ext.refl _) d (Rw.str _)⟩)
   ·cases e
  ·obtain⟨A,L,e⟩:=Na.mp e;obtain⟨B,j,g⟩:=Nk.mp e;cases g;obtain⟨ad,l,rfl,r,p⟩:=d.lsAt n L;obtain⟨v1,t,o⟩:=Qco p j;exact .inl ⟨ad,l,i,v1,rfl,m.int_eq,r,t,k R H _ (Ext.refl _) d o⟩
 ·cases e
theorem Qm3(i:PM X a f)(h:PM X b e)(g:G9 b:=by intro _ _;rfl):PM X (.Subscript a b pos) (Qe wIx f e):=
 Q7 (Qn6 Qh1 i h g) fun _ _ _ q=>JE (Qk6 q) fun _ _ d=>JE d fun _ _ c=>c
noncomputable def Vp(ws:List W)(h:MH):Option (W×MH):=match ws with
 |[.str x]=>if x.length<=sizeLine then some (.int x.length,h)else none
 |[.tup ws]=>some (.int ws.length,h)
 |[a]=>(lsW h a).map fun ws=>(.int ws.length,h)
 |_=>none
theorem Jt{K:Nj}:Qhh K (Fs K f) f:=fun _ _ _ q=>q
theorem GS{K:Nj}(r:Rws K R [a] xs):∃v,xs=[v]/\Rw K R a v:=by
 rw[Rws.cons_iff]at r;obtain⟨v,d,rfl,c,b⟩:=r;rw[Rws.nil_iff]at b;subst b;exact⟨v,rfl,c⟩
theorem Qme{K:Nj}(r:Rws K R [a,b] xs):∃v u,xs=[v,u]/\Rw K R a v/\Rw K R b u:=by
 rw[Rws.cons_iff]at r;obtain⟨v,f,rfl,e,d⟩:=r;obtain⟨u,rfl,c⟩:=GS d;exact⟨v,u,rfl,e,c⟩
theorem Qc3:CallR X (.builtin "len") (Fs X.K Vp):=by
 intro d s i H a j Q I r q;refine(call_len_seq.or Gi) d s i H a j Q I r ?_;obtain⟨R,h,p,w,t,b,rw,e,k⟩:=q;unfold Vp at e;split at e
 ·split at e
  ·rename_i l;cases e;obtain⟨v,rfl,c⟩:=GS rw;exact .inr ⟨_,by rw[c.str_eq],l,k R H _ (Ext.refl _) b (Rw.int _)⟩
  ·cases e
 ·cases e;obtain⟨v,rfl,c⟩:=GS rw;obtain⟨ad,a,rfl,g,f⟩:=b.tupAt c;exact .inl ⟨ad,a,rfl,.inr g,by rw[<-f.length];exact k R H _ (Ext.refl _) b (Rw.int _)⟩
 ·obtain⟨o,n,m⟩:=Nk.mp e;cases m;obtain⟨v,rfl,c⟩:=GS rw;obtain⟨ad,a,rfl,g,f⟩:=b.lsAt c n;exact .inl ⟨ad,a,rfl,.inl g,by rw[<-f.length];exact k R H _ (Ext.refl _) b (Rw.int _)⟩
 ·cases e
noncomputable def VV(ws:List W)(h:MH):Option (W×MH):=match ws with
 |[.tup ws]=>some (.tup ws,h)
 |[a]=>(lsW h a).map fun ws=>(.tup ws,h)
 |_=>none
noncomputable def Qe8(ws:List W)(h:MH):Option (W×MH):=match ws with
 |[.tup ws]=>some (.lst ws,h)
 |[a]=>(lsW h a).map fun ws=>(.lst ws,h)
 |_=>none
theorem QaB:CallR X (.type "tuple") (Fs X.K VV):=by
 intro b s l H a n Q I r q;refine W5 b s l H a n Q I r ?_;obtain⟨R,h,z,w,A,c,rw,e,k⟩:=q;unfold VV at e;split at e
 ·cases e;obtain⟨v,rfl,d⟩:=GS rw;obtain⟨ad,a,rfl,i,j⟩:=c.tupAt d;exact⟨ad,a,rfl,.inr ⟨i,k R H _ (Ext.refl _) c d⟩⟩
 ·obtain⟨y,u,t⟩:=Nk.mp e;cases t;obtain⟨v,rfl,d⟩:=GS rw;obtain⟨ad,a,rfl,i,j⟩:=c.lsAt d u;refine⟨ad,a,rfl,.inl ⟨i,fun p o=>?_⟩⟩;obtain⟨x,m,g,f⟩:=c.tup o j;exact k x _ _ m g f
 ·cases e
theorem QbU:CallR X (.type "list") (Fs X.K Qe8):=by
 intro d s o H c t Q I r q;refine Gv d s o H c t Q I r ?_;obtain⟨R,h,z,w,A,f,rw,e,k⟩:=q;unfold Qe8 at e;split at e
 ·cases e;obtain⟨v,rfl,j⟩:=GS rw;obtain⟨ad,c,rfl,l,i⟩:=f.tupAt j;refine⟨ad,c,rfl,.inr l,fun p m=>?_⟩;obtain⟨n,g,b,a⟩:=f.lstI m i;exact k n _ _ g b a
 ·obtain⟨y,x,u⟩:=Nk.mp e;cases u;obtain⟨v,rfl,j⟩:=GS rw;obtain⟨ad,c,rfl,l,i⟩:=f.lsAt j x;refine⟨ad,c,rfl,.inl l,fun p m=>?_⟩;obtain⟨n,g,b,a⟩:=f.lstI m i;exact k n _ _ g b a
 ·cases e
end
section
variable{prog:Program}{w:World}{A:Around}{E:Value->Shared->Prop}{s:Shared}
theorem XN{lo hi:Option Int}(a:IsTup s.heap t items)(g:s.heap.IsSliceOf f j i .none)(n:IsPart j lo)(l:IsPart i hi)
  (hw:HT.sIx items.size 0 lo=0/\HT.sIx items.size items.size hi=items.size) (h:Q (.ref t) s):wpAny (model prog w) A (getItem (.ref t) (.ref f)) Q E s:=by
 obtain⟨os,b,d,o⟩:=id g;have e:s.TypeIs (.ref f) "slice":=⟨os,b,d⟩
 unfold getItem
 try with_reducible refine Ej ?_
 first|refine Nc (Nq ?_)|skip
 refine Nc (OA a.typeIs (by decide) ?_)
 refine Nc (DN (name:=Str.ofString "__getitem__") a.typeIs El
  (EM El a.typeIs LZ ?_ (Of _ _)))
 show wpAny _ _ (Builtin.Tuple.tupleItemsOf (.ref t)>>=_) _ _ s;refine Nc (tupleItemsOf_ a ?_);refine Nc (D3 e ?_);rw[if_pos (by decide)];refine Nc (HT.sliceApplied_gen g n l ?_)
 have c:((((HT.sIx items.size 0 lo:Nat):Int)==0&&(1:Int)==1&&(HT.sIx items.size items.size hi-HT.sIx items.size 0 lo)==items.size)=true):=by
  rw[hw.1,hw.2];simp
 show wpAny _ _ (if(((HT.sIx items.size 0 lo:Nat):Int)==0&&(1:Int)==1&&(HT.sIx items.size items.size hi-HT.sIx items.size 0 lo)==items.size)=true then _ else _) _ _ s;rw[if_pos c];refine Nc (m:=Builtin.Tuple.tupleIsExact _) ?_;unfold Builtin.Tuple.tupleIsExact;refine Nc (D3 a.typeIs (Nq ?_));rw[if_pos (by decide)];exact Nc (FF (Nq ⟨_,rfl,Nq h⟩))
end
noncomputable def Qai(xs:List a)(lo hi:Option Int):List a:=(xs.drop (HT.sIx xs.length 0 lo)).take (HT.sIx xs.length xs.length hi-HT.sIx xs.length 0 lo)
noncomputable def wSl(a:W)(lo hi:Option Int)(h:MH):Option (W×MH):=match a with
 |.tup b=>some (.tup (Qai b lo hi),h)
 |.str x=>if x.length<=sizeLine then some (.str (Txt.slice x lo hi),h)else none
 |a=>(lsW h a).map fun b=>(.lst (Qai b lo hi),h)
theorem Qew{K:Nj}{ws:List W}(r:Rws K R ws xs)(lo hi:Option Int):Rws K R (Qai ws lo hi) (QfU xs lo hi):=by
 unfold Qai QfU;rw[r.length];exact(r.drop _).take _
theorem QbR{xs:List a}{lo hi:Option Int}(h:HT.sIx xs.length 0 lo=0/\HT.sIx xs.length xs.length hi=xs.length):Qai xs lo hi=xs:=by
 unfold Qai;rw[h.1,h.2];simp
noncomputable abbrev MOp:=MSt->MH->Option (Option Int×MH)
noncomputable def tIO(K:Nj)(m:MOp):TO:=fun e H Q=>∃R a h o b,Rh K R h H/\Rst K R a e/\m a h=some (o,b)/\∀c d,Ext R c->Rh K c b d->Q o d
def PMO(X:Cx)(e:Option Expr)(m:MOp):Prop:=PO X e (tIO X.K m)
noncomputable def Xy:MOp:=fun _ h=>some (none,h)
noncomputable def XO(m:ME):MOp:=fun a h=>(m a h).bind fun p=>match p.1 with|.int i=>some (some i,p.2)|_=>none
noncomputable def mSl(d:ME)(b c:MOp):ME:=fun a h=>(d a h).bind fun p=>(b a p.2).bind fun q=>(c a q.2).bind fun r=>wSl p.1 q.1 r.1 r.2
section
variable{X:Cx}
theorem sl_tupA:SlR X (fun x lo hi H Q=>∃a xs,x=.ref a/\SqT X.K H a xs/\((HT.sIx xs.length 0 lo=0/\HT.sIx xs.length xs.length hi=xs.length)->Q (.ref a) H) /\
  (¬(HT.sIx xs.length 0 lo=0/\HT.sIx xs.length xs.length hi=xs.length)->∀p,H p=none->Q (.ref p) (upd H p (.tup (QfU xs lo hi))))):=by
 intro b s m H x v o n lo hi q Q I e l g f h;obtain⟨a,xs,rfl,i,u,t⟩:=h
 by_cases hw:HT.sIx xs.length 0 lo=0/\HT.sIx xs.length xs.length hi=xs.length
 ·cases e;obtain⟨d,r,j,w⟩:=I.tuple i;have c:d.toArray.size=xs.length:=by rw[Nr];exact r.length.symm
  refine⟨"tuple",_,El.lookup,j.typeIs,?_⟩;exact XN j l g f (by rw[c];exact hw) ⟨.ref a,H,I,rfl,u hw⟩
 ·exact Qj6 b s m H (.ref a) v o n lo hi q Q I e l g f ⟨a,xs,rfl,i,hw,t hw⟩
theorem Qlk:SlR X (fun x lo hi H Q=>∃z,x=.str z/\z.length<=sizeLine/\Q (.str (Txt.slice z lo hi)) H):=by
 intro a s m H x v r p lo hi w Q I n c o g h;obtain⟨z,rfl,b,q⟩:=h;obtain⟨t,rfl⟩:=n;refine⟨"str",_,PySem.F.slot_str_getitem.lookup,typeIs_str _ _ _,?_⟩;have fin:∀(e:Tok) (k:Nat),EP X a m Q (.str (Txt.slice z lo hi) e) { s with toks:=k }:=fun e k=>⟨.str _,H,I.tok _,⟨e,rfl⟩,q⟩
 cases o with
 |none=>
  cases g with
  |none=>exact DO (l:=none) (u:=none) (st:=none) c rfl (FW ⟨Nh (IH z _ _) b,fin⟩)
  |int j d=>exact DO (l:=none) (u:=some (j,d)) (st:=none) c rfl (FW ⟨Nh (IH z _ _) b,fin⟩)
 |int i f=>
  cases g with
  |none=>exact DO (l:=some (i,f)) (u:=none) (st:=none) c rfl (FW ⟨Nh (IH z _ _) b,fin⟩)
  |int j d=>exact DO (l:=some (i,f)) (u:=some (j,d)) (st:=none) c rfl (FW ⟨Nh (IH z _ _) b,fin⟩)
theorem Vt:PMO X none Xy:=fun a s c H Q I d=>by
 obtain⟨R,b,h,o,g,f,st,e,k⟩:=d;cases e;exact Qh0 a s c H Q I (k R H (Ext.refl _) f)
theorem Vu(n:PM X e m):PMO X (some e) (XO m):=fun a s f H Q I g=>by
 obtain⟨R,b,h,o,u,l,st,r,k⟩:=g;refine Qix n a s f H Q I ?_;obtain⟨⟨w,p⟩,q,d⟩:=Na.mp r;refine⟨R,b,h,w,p,l,st,q,fun R1 t v i c j=>?_⟩;cases w<;>simp only at d<;>first|(cases d;exact⟨_,j.int_eq,k R1 t i c⟩)|cases d
theorem VF{lo hi:Option Expr}{pos M:Pos}(Z:PM X a P)(U:PMO X lo N)(Y:PMO X hi O):PM X (.Subscript a (.Slice lo hi none M) pos) (mSl P N O):=
 Q7 (Qf1 (sl_list.or (sl_tupA.or Qlk)) Z U Y) fun σ H Q G=>by
  obtain⟨R,f,h,w,h',L,st,e,k⟩:=G;obtain⟨⟨a,C⟩,ea,e2⟩:=Na.mp e;obtain⟨⟨l,B⟩,el,e3⟩:=Na.mp e2;obtain⟨⟨u,h3⟩,eu,d⟩:=Na.mp e3;refine⟨R,f,h,a,C,L,st,ea,fun R1 H1 x r t I=>⟨R1,f,C,l,B,t,st.mono r,el,fun R2 H2 q s=>⟨R2,f,B,u,h3,s,st.mono (r.trans q),eu,fun D E A b=>?_⟩⟩⟩;have c:=Rw.mono (q.trans A) _ _ I;have j:=k.ext (r.trans (q.trans A));dsimp only at d;unfold wSl at d;split at d
  ·cases d;obtain⟨ad,n,rfl,v,m⟩:=b.tupAt c;refine .inr (.inl ⟨ad,n,rfl,v,fun hw=>?_,fun _ p y=>?_⟩)
   ·rw[QbR (by rw[m.length];exact hw)]at j;exact j D E _ (Ext.refl _) b c
   ·obtain⟨z,o,i,g⟩:=b.tup y (Qew m l u);exact j z _ _ o i g
  ·split at d
   ·rename_i S;cases d;exact .inr (.inr ⟨_,c.str_eq,S,j D E _ (Ext.refl _) b (Rw.str _)⟩)
   ·cases d
  ·obtain⟨ys,e5,e6⟩:=Nk.mp d;cases e6;obtain⟨ad,n,rfl,v,m⟩:=b.lsAt c e5;refine .inl ⟨ad,n,rfl,v,fun p y=>?_⟩;obtain⟨z,o,i,g⟩:=b.lstI y (Qew m l u);exact j z _ _ o i g
end
def QgI(X:Cx)(id:String)(f:W->List W->MH->Option (W×MH)):Prop:=
 MtR X id (fun x d H Q=>∃R h a b w c,Rh X.K R h H/\Rw X.K R a x/\Rws X.K R b d/\f a b h=some (w,c)/\After X.K R w c Q)
noncomputable def tyW(h:MH)(T:String):W->Bool
 |.str _=>T=="str"
 |.int _=>T=="int"
 |.lst _=>T=="list"
 |.frz _=>T=="list"
 |.ref n=>match h[n]? with|some (.lst _)=>T=="list"|some (.dic _)=>T=="dict"|some (.dct _)=>T=="dict"|none=>false
 |_=>false
noncomputable def mMt(T:String)(f:W->List W->MH->Option (W×MH))(mo:ME)(b:MA):ME:=fun a h=>(mo a h).bind fun p=>if tyW p.2 T p.1=true then(b a p.2).bind fun q=>f p.1 q.1 q.2 else none
theorem QdU{K:Nj}{x:V}(c:Rh K R h H)(r:Rw K R a x)(e:tyW h T a=true):tyV K T x H:=by
 cases a with
 |str _=>rw[r.str_eq];exact DE e
 |int _=>rw[r.int_eq];exact DE e
 |lst _=>
  obtain⟨ad,b,rfl,q,_⟩:=c.lstAt r;exact .inl ⟨DE e,b,SqL.of q⟩
 |frz _=>
  obtain⟨ad,b,rfl,q,_⟩:=c.frzAt r;exact .inl ⟨DE e,b,q⟩
 |ref n=>
  simp only[tyW]at e;split at e
  ·rename_i j d;obtain⟨_,rfl,b,f,_⟩:=c.refAt r d;exact .inl ⟨DE e,b,SqL.of f⟩
  ·rename_i i d;unfold Rw at r;obtain⟨g,f,_⟩:=c.obj n _ d;rw[r.2];exact .inr (.inr (.inl ⟨DE e,.inl ⟨g,f⟩⟩))
  ·rename_i i d;unfold Rw at r;obtain⟨g,f,_⟩:=c.obj n _ d;rw[r.2];exact .inr (.inr (.inl ⟨DE e,.inr ⟨g,f⟩⟩))
  ·cases e
 |_=>cases e
section
variable{X:Cx}{o e:Expr}{es:List Expr}{mo:ME}{ms:MA}{name:Str}{apos cpos:Pos}{T id:String}{f:W->List W->MH->Option (W×MH)}
theorem QlX{X:Cx}{e:Expr}{es:List Expr}{cpos:Pos}(a:decide ((e::es).length<30)=true)(c:V2 e=false)(b:Xq es=true) :
  ((backTo cpos (starEach (e::es) X.env)).all (fun x=>!x.1)&&(backToKw cpos (keywordEach [] X.env)).all (fun x=>x.1.isSome)
   && decide ((e::es).length+([]:List Keyword).length+(if([]:List Keyword).isEmpty then 0 else 1)<30))=true:=by
 rw[QfL (by unfold Xq at b ⊢;rw[LU,c,b];rfl)];exact a
theorem Qb3(B:PlainAttrs T)(slot:Slot T name id)(p:typeOf (.builtin id)=pure (.type "method_descriptor"))(E:QgI X id f)(D:PM X o mo)(G:PMA X (e::es) ms)
  (d:attributeBase o name X.env (eval o X.env)=eval o X.env:=by rfl) (j:decide ((e::es).length<30)=true:=by rfl)
  (c:(apos.endLine==cpos.line)=true:=by rfl) (u:V2 e=false:=by rfl) (b:Xq es=true:=by rfl) :
  PM X (.Call (.Attribute o name apos) (e::es) [] cpos) (mMt T f mo ms):=
 Q7 (Qn8 B slot p E D G d (QlX j u b) c (Q1 u) (JS b)) fun N H Q z=>by
  obtain⟨R,g,h,w,I,A,st,e,k⟩:=z;obtain⟨⟨a,y⟩,L,l⟩:=Na.mp e;dsimp only at l;split at l
  ·rename_i C;obtain⟨⟨s,v⟩,es,M⟩:=Na.mp l;exact⟨R,g,h,a,y,A,st,L,fun R1 S x r i t=>⟨QdU i t C,R1,g,y,s,v,i,st.mono r,es,fun R2 P O q n m=>⟨R2,v,a,s,w,I,n,Rw.mono q _ _ t,m,M,k.ext (r.trans q)⟩⟩⟩
  ·cases l
theorem QkT(r:PlainAttrs T)(slot:Slot T name id)(j:typeOf (.builtin id)=pure (.type "method_descriptor"))(u:QgI X id f)(t:PM X o mo)
  (c:attributeBase o name X.env (eval o X.env)=eval o X.env:=by rfl) (b:(apos.endLine==cpos.line)=true:=by rfl):PM X (.Call (.Attribute o name apos) [] [] cpos) (mMt T f mo Qd):=
 Q7 (QkP r slot j u t c b) fun A H Q n=>by
  obtain⟨R,i,h,w,v,q,st,e,k⟩:=n;obtain⟨⟨a,m⟩,y,g⟩:=Na.mp e;dsimp only at g;split at g
  ·rename_i s;obtain⟨⟨B,C⟩,es,z⟩:=Na.mp g;cases es;exact⟨R,i,h,a,m,q,st,y,fun R1 D x p d l=>⟨QdU d l s,R1,m,a,[],w,v,d,l,Rws.nil,z,k.ext p⟩⟩
  ·cases g
end
noncomputable def QL(a:W)(ws:List W)(h:MH):Option (W×MH):=match a,ws with
 |.ref n,[w]=>match h[n]? with|some (.lst b)=>if b.length<sizeLine then some (.non,h.set n (.lst (b++[w])))else none|_=>none
 |_,_=>none
noncomputable def WN(a:W)(ws:List W)(h:MH):Option (W×MH):=match a,ws with
 |.ref n,[w]=>match h[n]? with|some (.lst c)=>(loW h w).bind fun b=>if c.length+b.length<=sizeLine then some (.non,h.set n (.lst (c++b)))else none|_=>none
 |_,_=>none
noncomputable def Qmg(a:W)(ws:List W)(h:MH):Option (W×MH):=match a,ws with
 |.ref n,[]=>match h[n]? with|some (.lst b)=>(b[b.length-1]?).map fun w=>(w,h.set n (.lst b.dropLast))|_=>none
 |_,_=>none
section
variable{X:Cx}
theorem Rws.dropLast{K:Nj}(r:Rws K R ws vs):Rws K R ws.dropLast vs.dropLast:=by
 rw[D4,D4,r.length];exact r.take _
theorem QbN:QgI X "list.append" QL:=by
 intro b s i H x l v m Q I p r q;refine Qeb b s i H x l v m Q I p r ?_;obtain⟨R,h,a,C,w,E,f,t,c,e,k⟩:=q;unfold QL at e;split at e
 ·rename_i n D;split at e
  ·rename_i B u;split at e
   ·rename_i z;cases e;obtain⟨d,rfl,j,A,g⟩:=f.refAt t u;obtain⟨y,rfl,o⟩:=GS c;refine⟨_,j,y,rfl,rfl,A,by rw[<-g.length];exact z,?_⟩;exact k R _ _ (Ext.refl _) (f.put d ⟨_,rfl,Rws.append g (Rws.cons o Rws.nil)⟩) Rw.non
   ·cases e
  ·cases e
 ·cases e
theorem Qce:QgI X "list.extend" WN:=by
 intro b s j H x o v p Q I t u q;refine QeA b s j H x o v p Q I t u ?_;obtain⟨R,h,a,N,w,P,d,z,c,e,k⟩:=q;unfold WN at e;split at e
 ·rename_i n O;split at e
  ·rename_i M A;obtain⟨L,E,e⟩:=Na.mp e;split at e
   ·rename_i B;cases e;obtain⟨f,rfl,m,D,i⟩:=d.refAt z A;obtain⟨y,rfl,r⟩:=GS c;obtain⟨G,l,rfl,C,g⟩:=d.loAt r E;refine⟨_,G,m,l,rfl,rfl,D,C,by rw[<-i.length,<-g.length];exact B,?_⟩;exact k R _ _ (Ext.refl _) (d.put f ⟨_,rfl,Rws.append i g⟩) Rw.non
   ·cases e
  ·cases e
 ·cases e
theorem Qic:QgI X "list.pop" Qmg:=by
 intro c s i H x l v m Q I p r q;refine Qls c s i H x l v m Q I p r ?_;obtain⟨R,h,a,E,w,L,g,t,b,e,k⟩:=q;unfold Qmg at e;split at e
 ·rename_i n;split at e
  ·rename_i D u;obtain⟨G,C,B⟩:=Nk.mp e;cases B;obtain⟨f,rfl,j,z,d⟩:=g.refAt t u;rw[Rws.nil_iff]at b;subst b;obtain⟨y,A,o⟩:=d.get C;refine⟨_,j,y,rfl,rfl,z,by rw[<-d.length];exact A,?_⟩;exact k R _ _ (Ext.refl _) (g.put f ⟨_,rfl,d.dropLast⟩) o
  ·cases e
 ·cases e
end
structure Cal(P:Program)(w:World)(K:Nj)(mg:Str->Option Value)(base:Heap)(k:Nat)(x:Str)(ps:List Str)(g:FM):Prop where
 ex:∃(f:Addr) (fd:FuncData),FnOk P w K mg base CX0 k f fd ps (spM K ps.length g)/\mg x=some (.ref f)/\Dg K (.ref f)=true/\Binds K fd ps []/\∃(oc:Value) (od:Option Addr) (osl:Array (Option Value)),K.lookup f=some ⟨oc,od,.func fd,osl⟩
structure DefAt(K:Nj)(mg:Str->Option Value)(x:Str)(st:Stmt)(ps:List Str):Prop where
 ex:∃(f:Addr) (fd:FuncData),Fun K x x st f fd/\mg x=some (.ref f)/\Binds K fd ps []
theorem X4{K:Nj}{h:Heap}{x:Str}{st:Stmt}{f:Addr}{i:Value}{kV d pm cd ct:Value}(X:K.In h)(G:h.Ns mainGlobals j)
  (a:FX K mainGlobals x=some (some (.ref f))) (l:K.lookup f=some ⟨i,n,.func (Di x x (XH st) (J8 st) (Qf st) .none kV d pm g cd ct),m⟩) (c:F8 K cd x=true) (k:Dg K (.ref f)=true)
  (b:∀(kV d pm:Value) (g:Option Addr) (e ct:Value) (us:List Value),us.length=ps.length->bindArgs (Di x x (XH st) (J8 st) (Qf st) .none kV d pm g e ct) ⟨us,[]⟩=pure (ps.zip us)):DefAt K j x st ps:=
 ⟨f,_,Qgn l c k,FN X G a,(Qgn l c k).binds b⟩
structure Glob(K:Nj)(mg:Str->Option Value)(x:Str)(w:W):Prop where
 ex:∃(v:V) (u:Value),mg x=some u/\RelV v u/\∀R,Rw K R w v
theorem Qmf{K:Nj}(X:K.In h)(G:h.Ns mainGlobals b)(a:FX K mainGlobals x=some (some (.int i t))):Glob K b x (.int i):=
 ⟨.int i,_,FN X G a,⟨t,rfl⟩,fun _=>Rw.int i⟩
noncomputable def Qd7:List Str->List W:=List.map W.str
theorem QaY{K:Nj}:∀(a:List Str),Rws K R (Qd7 a) (a.map V.str)
 |[]=>Rws.nil
 |y::a=>Rws.cons (Rw.str y) (QaY a)
theorem Gc:∀{a:List Value} {b:List Str},StrsAre a b->Vals (b.map V.str) a
 |_,_,.nil=>.nil
 |_,_,.cons y t r=>.cons ⟨t,rfl⟩ (Gc r)
theorem Qdp{K:Nj}{h:Heap}{x:Str}{c:Addr}{n:Nat}(X:K.In h)(G:h.Ns mainGlobals e)(a:FX K mainGlobals x=some (some (.ref c)))
  (l:K.lookup c=some ⟨.type "tuple",dd,.seq b n,g⟩) (hz:b.size<=sizeLine) (f:StrsAre b.toList d):Glob K e x (.tup (Qd7 d)):=
 ⟨.ref c,_,FN X G a,rfl,fun R=>by
  unfold Rw
  exact⟨c,_,rfl,.inr ⟨_,b,n,l,rfl,rfl,hz,Gc f⟩,QaY d⟩⟩
section
variable{X:Cx}{k n:Nat}{g:FM}{x:Str}{ps:List Str}{p pos:Pos}{e:Expr}{es:List Expr}{ms:MA}
theorem Qh(C:Cal X.prog X.w X.K X.mg X.base k x ps g)(hr:Room k X.A)(i:Gl X x)(m:PMA X (e::es) ms)(c:ps.length=n:=by rfl)
  (b:(x==("__debug__":Str))=false:=by decide) (j:V2 e=false:=by rfl) (a:Xq es=true:=by rfl) :
  PM X (.Call (.Name x p) (e::es) [] pos) (Qi n g ms):=by
 obtain⟨f,fd,F,d,h,l,_⟩:=C.ex;subst c;exact QhB F hr i d h l Qks m b j a
theorem Qd6(C:Cal X.prog X.w X.K X.mg X.base k x ps g)(hr:Room k X.A)(h:Gl X x)(b:ps.length=n:=by rfl)(a:(x==("__debug__":Str))=false:=by decide):PM X (.Call (.Name x p) [] [] pos) (Qi n g Qd):=by
 obtain⟨f,fd,F,c,d,i,_⟩:=C.ex;subst b;exact Qgd F hr h c d i Qks a
theorem Qbf(C:Glob X.K X.mg x w)(b:Gl X x)(hd:(x==("__debug__":Str))=false:=by decide):PM X (.Name x pos) (mC w):=by
 obtain⟨v,u,a,r,rw⟩:=C.ex;exact Qi3 b a r rw hd
end
section
variable{P:Program}{w:World}{K:Nj}{mg:Str->Option Value}{base:Heap}
theorem Qs{st:Stmt}(d:DefAt K mg x st ps)(S:FnScope N ps (Qf st))(hN:N.length=ps.length+more)
  (c:∀(f:Addr) (b:Value) (A:Around) (a:List Env) (s:Shared) (H:Hp) (E:XK),Room k (A.deeper (envOfC x (Qf st) s.heap.objs.size f b))->Qef (QgR CX0 P w K mg base N x (Qf st) f b A a s H E).nox (J8 st) m) :
  Cal P w K mg base (k+1) x ps (Qx more m):=by
 obtain⟨f,fd,F,j,n⟩:=d.ex;obtain⟨i,h,kV,o,pm,p,b,ct,g,e,lk,l⟩:=F.ex;exact⟨f,fd,Qoe F S hN (fun b A a s H E hr=>c f b A a s H E hr),j,F.kp,n,i,h,g,lk⟩
theorem Cal.imp(C:Cal P w K mg base k x ps g)(h:∀vs H Q E,spM K ps.length g' vs H Q E->spM K ps.length g vs H Q E):Cal P w K mg base k x ps g':=by
 obtain⟨f,fd,F,r⟩:=C.ex;exact⟨f,fd,F.imp h,r⟩
theorem Cal.eq(C:Cal P w K mg base k x ps g)(h:∀ws a r,ws.length=ps.length->g' ws a=some r->g ws a=some r):Cal P w K mg base k x ps g':=
 C.imp fun _ _ _ _ z=>by
  obtain⟨R,ws,a,w,f,c,d,b,e,k⟩:=z;exact⟨R,ws,a,w,f,c,d,b,h ws a _ c e,k⟩
end
theorem QaR{K:Nj}:∀(ns:List Int),Rws K R (ns.map W.int) (ns.map V.int)
 |[]=>Rws.nil
 |n::ns=>Rws.cons (Rw.int n) (QaR ns)
theorem Qna{l:PySem.W.OpenLaw}{d:DefRec}{K:Params->Nj}{st:Stmt}{sem:FM}{k:Nat}(y:l.most=some 63)(B:d.params.defaults=[])(hr:Room k callerA)(A:d.name="law")
  (Y:∀(w:World) (h:Heap),YP w h->(K w.params).In h)
  (U:∀(kV c pm:Value) (C:Option Addr) (g ct:Value) (s:Shared) (u:Value),BindsTo s (Di "law" "law" (XH st) (J8 st) (Qf st) .none kV c pm C g ct) ⟨[u],[]⟩ [("script",u)])
  (F:∀(w:World) (i:Str->Option Value) (h:Heap),(K w.params).In h->h.Ns mainGlobals i ->
   DefAt (K w.params) i "law" st ["script"]/\∀base:Heap,(K w.params).In base->base.Ns mainGlobals i->Cal l.prog w (K w.params) i base k "law" ["script"] sem)
  (main:∀ns:List Int,ns.length<=63->∃h',sem [.frz (ns.map W.int)] []=some (.bl true,h')) :
  Yal q t XP YP l.row.toRowW d [] (fun f vs=>Yaa f vs):=by
 refine L2.QhU (n:=63) (k:=k) (x:="script") (CX:=fun _=>CX0) (sp:=fun w=>spM (K w.params) 1 sem) y (by decide) B hr Y ?_ ?_ fun _ _ _ _ _ z=>z
 ·intro w i fa h KX G b;obtain⟨D,Fn⟩:=F w i h KX G;obtain⟨f,fd,Fu,r,_⟩:=D.ex;rw[A]at b;rw[r]at b;cases b;obtain⟨oc,od,kV,c,pm,C,g,ct,L,e,lk,S⟩:=Fu.ex;refine⟨fd,fun s u=>?_,fun base P O=>?_⟩
  rotate_left
  ·obtain⟨f',Z,F',p,_,_,N,M,E,j⟩:=(Fn base P O).ex;rw[r]at p;cases p;rw[lk]at j;cases j;exact F'
  rw[e];exact U kV c pm C g ct s u
 ·intro w H a ns Q hO hS;obtain⟨h',e⟩:=main ns Q;refine⟨⟨fun _=>0,0,H,fun _=>none⟩,[.frz (ns.map W.int)],[],.bl true,h',rfl,⟨rfl,fun _ _ z=>z,fun n y=>absurd y (FY _),fun m n r=>absurd r (FY _),(fun n o z=>by simp at z),(fun _ _ z=>by cases z),(fun _ _=>rfl),(fun _ _ z=>by cases z)⟩,?_,e,fun R' H' v _ _ I=>I.bl_eq⟩;refine Rws.cons ?_ Rws.nil;unfold Rw;exact⟨a,_,rfl,hS,QaR ns⟩
noncomputable def Qde(a:Scope):Bool:=a.names.all fun y=>y.2 != .cell&&(y.2 != .local ||a.names.lookup y.1==some .local)
noncomputable def QnT(N:List Str)(xs a:Scope)(cp:List (Option Nat))(Nb:List Str):Bool:=(cp.zip Nb).all fun p=>match p.1 with
 |none=>true
 |some j=>N[j]?==some p.2&&(xs.names.lookup p.2==some .cell ||xs.names.lookup p.2==some .free)&&a.names.lookup p.2==some .free
noncomputable def Qhc(a:Scope)(ks:List Str):Bool:=a.names.all fun y=>y.2 != .free ||ks.contains y.1
theorem JQ{env:Env}:∀{a:List (Str×NameKind)} {x:Str},a.lookup x=some .free ->
  (a.map fun(n,k)=>if(k==NameKind.free&&env.scope.kind==.function&&env.kindOf n==some .cell)then(n,NameKind.cell)else(n,k)).lookup x=some .cell \/
  (a.map fun(n,k)=>if(k==NameKind.free&&env.scope.kind==.function&&env.kindOf n==some .cell)then(n,NameKind.cell)else(n,k)).lookup x=some .free
 |[],_,h=>by simp at h
 | (n,k)::r,x,h=>by
  have d:=@JQ env r x;rw[NA];dsimp only;cases b:x==n with
  |true=>
   simp only[Ek,b]at h;cases h
   by_cases c:(NameKind.free==NameKind.free&&env.scope.kind==.function&&env.kindOf n==some .cell)=true
   ·rw[if_pos c];exact .inl (by simp[Ek,b])
   ·rw[if_neg c];exact .inr (by simp[Ek,b])
  |false=>
   simp only[Ek,b]at h
   by_cases c:(k==NameKind.free&&env.scope.kind==.function&&env.kindOf n==some .cell)=true
   ·rw[if_pos c];simp only[Ek,b];exact d h
   ·rw[if_neg c];simp only[Ek,b];exact d h
theorem Zr{env:Env}:∀{a:List (Str×NameKind)} {x:Str} {c:NameKind},(∀y∈a,y.2≠.cell)->(c=.cell\/c=.free) ->
  (a.map fun(n,k)=>if(k==NameKind.free&&env.scope.kind==.function&&env.kindOf n==some .cell)then(n,NameKind.cell)else(n,k)).lookup x=some c->(x,NameKind.free)∈a
 |[],_,_,_,_,h=>by simp at h
 | (n,k)::r,x,c,e,f,h=>by
  rw[NA]at h;dsimp only at h;have g:=@Zr env r x c (fun y i=>e y (Nu _ i)) f;cases d:x==n with
  | true=>
   have:x=n:=DE d;subst this
   by_cases b:(k==NameKind.free&&env.scope.kind==.function&&env.kindOf x==some .cell)=true
   ·have:k=.free:=by
     simp only[NS,beq_iff_eq]at b;exact b.1.1
    subst this;exact Ny
   ·rw[if_neg b]at h;simp[Ek]at h;subst h
    rcases f with z|z
    ·exact absurd z (e (x,k) Ny)
    ·subst z;exact Ny
  |false=>
   refine Nu _ (g ?_)
   by_cases b:(k==NameKind.free&&env.scope.kind==.function&&env.kindOf n==some .cell)=true
   ·rw[if_pos b]at h;simpa only[Ek,d]using h
   ·rw[if_neg b]at h;simpa only[Ek,d]using h
theorem QbQ{d:List (Str×Addr)}(h:d.lookup x=some c):(x,c)∈d:=by
 induction d with
 |nil=>simp at h
 | cons p r e=>
  obtain⟨n,a⟩:=p;cases b:x==n with
  |true=>
   simp only[Ek,b]at h;cases h;rw[DE b];exact Ny
  |false=>
   simp only[Ek,b]at h;exact Nu _ (e h)
theorem W9{d:List (Str×Addr)}(h:x∈d.map (·.1)):∃c,d.lookup x=some c:=by
 induction d with
 |nil=>simp at h
 | cons p r e=>
  obtain⟨n,a⟩:=p;cases b:x==n with
  |true=>exact⟨a,by simp only[Ek,b]⟩
  |false=>
   rcases NH.mp h with z|z
   ·dsimp only at z;rw[z,beq_self_eq_true]at b;cases b
   ·obtain⟨c,f⟩:=e z;exact⟨c,by simp only[Ek,b];exact f⟩
theorem Wh(g:closureFor d X.env=pure o)(kind:d.kind=.function)(r:Qde d=true)(u:o.map (·.1)=ks)(n:Qhc d ks=true)
  (f:∀p∈o,X.env.cells.lookup p.1=some p.2) (hN:X.N=N) (q:X.env.scope=xs) (m:cp.length=Nb.length) (v:QnT N xs d cp Nb=true):BlkOk X d o Nb cp:=by
 have e:∀y∈d.names,y.2≠.cell:=fun y l=>by
  have:=EL.mp r y l;simp only[NS,bne_iff_ne]at this;exact this.1
 refine⟨g,e,kind,fun y l m=>?_,fun x c h=>f _ (QbQ h),fun x h=>?_,m,fun i j x A w=>?_⟩
 ·have:=EL.mp r y l;simp only[NS,Dn,bne_iff_ne,beq_iff_eq]at this
  rcases this.2 with z|z
  ·exact absurd m z
  ·exact z
 ·have t:(x,NameKind.free)∈d.names:=by
   rcases h with h|h
   ·exact Zr e (.inl rfl) h
   ·exact Zr e (.inr rfl) h
  have:=EL.mp n _ t;simp only[Dn,bne_iff_ne,ne_eq,not_true_eq_false,false_or,List.contains_iff_mem]at this;exact W9 (by rw[u];exact this)
 ·have s:(cp.zip Nb)[i]?=some (some j,x):=by rw[List.getElem?_zip_eq_some];exact⟨A,w⟩
  have:=EL.mp v _ (EO s);simp only[NS,Dn,beq_iff_eq]at this;obtain⟨⟨a,b⟩,c⟩:=this;refine⟨by rw[hN];exact a,?_,?_,JQ c⟩
  ·rw[q]
   rcases b with b|b
   ·exact .inr (.inl b)
   ·exact .inr (.inr b)
  ·unfold Env.kindOf;rw[q];exact b
theorem Ji(kind:a.kind=.function)(l:Qde a=true)(g:Qhc a []=true)(f:cp.length=Nb.length)(n:cp.all (·.isNone)=true):BlkOk X a [] Nb cp:=by
 have d:∀y∈a.names,y.2≠.free:=fun y e z=>by
  have:=EL.mp g y e;simp[z]at this
 have b:∀y∈a.names,y.2≠.cell:=fun y e=>by
  have:=EL.mp l y e;simp only[NS,bne_iff_ne]at this;exact this.1
 refine⟨closureFor_none d,b,kind,fun y e f=>?_,fun x c h=>by simp at h,fun x h=>?_,f,fun i j x o p=>?_⟩
 ·have:=EL.mp l y e;simp only[NS,Dn,bne_iff_ne,beq_iff_eq]at this
  rcases this.2 with z|z
  ·exact absurd f z
  ·exact z
 ·have m:(x,NameKind.free)∈a.names:=by
   rcases h with h|h
   ·exact Zr b (.inl rfl) h
   ·exact Zr b (.inr rfl) h
  exact absurd rfl (d _ m)
 ·have:=EL.mp n _ (EO o);simp at this
theorem Zp(items:List W)(h:MH):live none items h:=fun _ z=>by cases z
theorem Kw{mt:MT}{me:ME}{h:MH}:∀(rest a:List W) (o:Option W),
  (∀w∈rest,mt (some w::caps) h=some (p w,h))->(∀w∈rest,p w=true->me (some w::caps) h=some (f w,h))->a.length+rest.length<=sizeLine ->
  JO fin items none (JM 0) mt me rest a (o::caps) h=fin (a++(rest.filter p).map f) h
 |[],a,o,_,_,_=>by
  unfold JO;rw[if_pos (Zp _ _)];simp
 | w::rest,a,o,d,e,i=>by
  unfold JO;rw[if_pos (Zp _ _)];have j:JM 0 w (o::caps) h=some (some w::caps):=rfl;rw[j,Nv,d w Ny,Nv];have g:a.length+(rest.length+1)<=sizeLine:=by simpa using i
  cases c:p w with
  |true=>
   simp only[c];rw[e w Ny c,Nv,if_pos (by lia)];rw[Kw rest (a++[f w]) (some w) (fun x b=>d x (Nu _ b)) (fun x b=>e x (Nu _ b)) (by simp;lia)];simp[OX,c]
  |false=>
   simp only[c];rw[Kw rest a (some w) (fun x b=>d x (Nu _ b)) (fun x b=>e x (Nu _ b)) (by lia)];simp[OX,c]
theorem Qge:X1 items none b body [] σ h=some (.nx σ h):=by
 rw[X1,if_pos (Zp _ _)]
section
variable{σ σ1:MSt}{h h1 h2 h3:MH}{a b c w:W}{ws:List W}{ma mb mc:ME}{ms:MA}{mt mu:MT}{s1 s2:SM}{f f':W->W->MH->Option (W×MH)}{g:List W->MH->Option (W×MH)}{z:MF}
theorem QnS:Qd σ h=some ([],h):=rfl
theorem Qcr(e:ma σ h=some (a,h1))(d:ms σ h1=some (ws,h2)):Qa ma ms σ h=some (a::ws,h2):=by unfold Qa;rw[e,Nv,d];rfl
end
theorem QcP(c:(-(2^64)<i/\i<2^64)\/(-(2^64)<j/\j<2^64)):QkD (.int i) (.int j) h=some (.int (i*j),h):=by unfold QkD;exact if_pos c
theorem QhT(c:0<j/\j<1073741824):QgG (.int i) (.int j) h=some (.int (i/j),h):=by unfold QgG;exact if_pos c
theorem QhV(c:0<j):QeB (.int i) (.int j) h=some (.int (i%j),h):=by unfold QeB;exact if_pos c
theorem Qir(c:0<=j/\j<=1000000/\i.natAbs<2^64):Qjp (.int i) (.int j) h=some (.int (i^j.toNat),h):=by unfold Qjp;exact if_pos c
theorem Qjg(a:x.length<=sizeLine)(e:atI x.cps.toList i=some d):wIx (.str x) (.int i) h=some (.str ⟨#[d]⟩,h):=by
 unfold wIx;simp only;rw[if_pos a,e];rfl
noncomputable def Qjs(mo mi mv:ME):SM:=fun a h=>(mv a h).bind fun v=>(mo a v.2).bind fun o=>(mi a o.2).bind fun i=>match o.1,i.1 with
 |.ref n,.int k=>match i.2[n]? with
  |some (.lst b)=>(ixN b.length k).map fun j=>.nx a (i.2.set n (.lst (b.set j v.1)))
  |_=>none
 |_,_=>none
section
variable{X:Cx}{o i e:Expr}{mo mi mv:ME}{pos pos':Pos}
theorem QkN{K:Nj}(q:tS K (Qjs mo mi mv) D σ H):Qml (tI K mv) (QoW (tI K mo) (tI K mi) Qj8) D σ H:=by
 obtain⟨R,a,h,r,G,s,e,k⟩:=q;obtain⟨⟨v,w⟩,e1,e2⟩:=Na.mp e;obtain⟨⟨ob,u⟩,Z,Y⟩:=Na.mp e2;obtain⟨⟨L,O⟩,U,b⟩:=Na.mp Y;refine⟨R,a,h,v,w,G,s,e1,fun R1 H1 x g m E=>⟨R1,a,w,ob,u,m,s.mono g,Z,fun R2 H2 y f l C=>⟨R2,a,u,L,O,l,s.mono (g.trans f),U,fun R3 H3 z d c B=>?_⟩⟩⟩;dsimp only at b;split at b
 ·rename_i n I;split at b
  ·rename_i xs M;obtain⟨j,S,Q⟩:=Nk.mp b;cases Q;obtain⟨p,P,A,N,t⟩:=c.refAt (Rw.mono d _ _ C) M;refine⟨_,A,I,j,P,B.int_eq,N,by rw[<-t.length];exact S,?_⟩;exact k R3 _ σ (g.trans (f.trans d)) (c.put p ⟨_,rfl,t.set j (Rw.mono (f.trans d) _ _ E)⟩) (s.mono (g.trans (f.trans d)))
  ·cases b
 ·cases b
theorem G0(d:PM X o mo)(hi:PM X i mi)(f:PM X e mv)
  (g:∀v,assign (.Subscript o i pos') X.env v=(do
   let a <-holding [v] (eval o X.env)
   let b <-holding [v,a] (eval i X.env)
   standAt pos'
   holding [v,a,b] (setItem a b v)
   release [v,a,b] []):=by intro _;rfl)
  (c:UJ e=false:=by rfl) (hw:swappedStores [.Subscript o i pos'] e X.env=pure none:=by rfl):PMS X (.Assign [.Subscript o i pos'] e pos) (Qjs mo mi mv):=
 VT (Qkk f (Qlt d hi set_list g) (show swapsWith e (some (.Subscript o i pos')) pos.line X.env=pure false from Yk c) hw rfl) fun _ _ _=>QkN
end
noncomputable def Qcj(a b:W)(h:MH):Option (W×MH):=match a,b with|.int i,.int j=>some (.int (i+j),h)|_,_=>none
section
variable{X:Cx}{o i e:Expr}{mo mi mv:ME}{pos pos':Pos}
theorem Ul:OpR X (inplaceOp .Add) (F2 X.K Qcj):=by
 intro c s d H x y v u Q I g f q;refine Qje c s d H x y v u Q I g f ?_;obtain⟨R,h,a,b,w,n,j,m,l,e,k⟩:=q;unfold Qcj at e;split at e
 ·cases e;exact⟨_,_,m.int_eq,l.int_eq,k R H _ (Ext.refl _) j (Rw.int _)⟩
 ·cases e
end
noncomputable def UO(a:W)(ws:List W)(h:MH):Option (W×MH):=match ws with
 |[w]=>(lsW h a).bind fun c=>(drf h 40 w).bind fun x=>(Zo (drf h 40) c).bind fun b=>(b.findIdx? fun y=>eqW y x).map fun j=>(.int (j:Nat),h)
 |_=>none
theorem QcI(hu:X.A.units+64<cLine):QgI X "list.index" UO:=by
 intro Z s σ H x xs v us Q I rx rv q;obtain⟨R,h,a,ws,w,h',p,ra,C,e,k⟩:=q;unfold UO at e;split at e
 ·rename_i w1;obtain⟨Y,e1,e⟩:=Na.mp e;obtain⟨r,e2,e⟩:=Na.mp e;obtain⟨U,S,e⟩:=Na.mp e;obtain⟨j,e4,e5⟩:=Nk.mp e;cases e5;obtain⟨y,rfl,ry⟩:=GS C;obtain⟨u,rfl,ru⟩:=UC rv;obtain⟨ad,xv,rfl,q1,G⟩:=p.lsAt ra e1;cases rx;obtain⟨c,B,p1,hz⟩:=I.list q1;have O:X.A.in1.units+40<cLine:=by show X.A.units+1+40<cLine;lia
  have l1:=G.length;have l2:=B.length;have l3:=(Qz S).1;obtain⟨hj,l,d⟩:=Ep.mp e4
  have o:∀m (f:m<c.toArray.size),Qfy X.K R h r c.toArray[m]=eqW (U[m]'(by rw[Nr]at f;lia)) r:=by
   intro m f;rw[Nr]at f;obtain⟨t,g⟩:∃t,Y[m]?=some t:=⟨Y[m]'(Nd (Nd f (Nt l2.symm)) (Nt l1.symm)),Nl _⟩
   obtain⟨v2,M,D⟩:=G.get g;obtain⟨u2,N,E⟩:=B.get M;obtain⟨b,hb,eb⟩:=(Qz S).2 m t g;have eu:c.toArray[m]=u2:=by have:=N;rw[Nl f]at this;simpa using this
   have ez:U[m]'(by omega)=b:=by have:=hb;rw[Nl (by omega)]at this;simpa using this
   rw[eu,ez];exact QaJ I p D E eb
  obtain⟨ob,n,ho,hc,ab,hd⟩:=p1;obtain⟨cls,dd,data,sl⟩:=ob;simp only at hc hd;subst hc hd;have i:j<c.toArray.size:=by rw[Nr];lia
  refine FD IR ⟨_,ho,rfl⟩ PySem.F.entry_list_index (PySem.F.args_list_index_2 _ _)
   (list_indexAt ad c.toArray n dd sl u (Qfy X.K R h r) j i ?_ ?_ ?_) ⟨ho,fun z L=>WU I p O ry ru e2 G B S z (by simpa using L),?_⟩
  ·have:(sizeLine:Nat)<2^62:=by decide
   have aa:j<2^62:=by lia
   lia
  ·rw[o j i];exact l
  ·intro m f P;rw[o m f];simpa using d m P
  ·exact⟨.int j,H,I.tok _,⟨_,rfl⟩,k R H _ (Ext.refl _) p (Rw.int _)⟩
 ·cases e
inductive TabIs:List DictEntry->List (Str×Int)->Prop where
 |nil:TabIs [] []
 |cons {e:DictEntry} {x:Str} {i:Int} {t t':Tok} {es:List DictEntry} {tab:List (Str×Int)} (hk:e.key=.str x t) (hv:e.val=.int i t') (r:TabIs es tab):TabIs (e::es) ((x,i)::tab)
structure GTab(w:World)(K:Nj)(mg:Str->Option Value)(x:Str)(tab:List (Str×Int)):Prop where
 ex:∃(a:Addr) (es:List DictEntry) (n:Nat),mg x=some (.ref a)/\K.lookup a=some ⟨.type "dict",none,.dict es.toArray n,#[]⟩/\Yab w.params es/\(a==sysModules)=false/\TabIs es tab
theorem Qn7{K:Nj}{x:Str}{c:Addr}{n:Nat}(X:K.In h)(G:h.Ns mainGlobals d)(a:FX K mainGlobals x=some (some (.ref c)))
  (l:K.lookup c=some ⟨.type "dict",none,.dict b.toArray n,#[]⟩) (k:Yab w.params b) (s:(c==sysModules)=false) (t:TabIs b tab):GTab w K d x tab:=
 ⟨c,b,n,FN X G a,l,k,s,t⟩
theorem Qhp(a b:Int)(h:MH):wEq (.int a) (.int b) h=some (.bl (a==b),h):=by unfold wEq;simp[drf,eqW]
theorem QiN(a b:Str)(h:MH):wEq (.str a) (.str b) h=some (.bl (a==b),h):=by unfold wEq;simp[drf,eqW]
theorem UK:∀a:List Str,(∀z∈a,z.length<=m)->(a.map (·.length)).sum<=a.length*m
 |[],_=>NJ _
 |z::a,h=>by
  rw[NA,DP,NP,Nat.succ_mul];have:=UK a fun x b=>h x (Nu _ b);have c:=h z Ny;lia
noncomputable def Ql3(lo c:Int)(n:Nat):It:=⟨fun i _=>i<n,fun i H x a=>a=H/\x=.int (lo+i*c),fun i _=>n<=i⟩
theorem Qdw{K:Nj}(it:Addr)(lo c:Int)(n:Nat):Turn P w K L (Ql3 lo c n) [it] it (fun i h=>IsRangeIter h it (lo+(i:Nat)*c) ((n:Int)-(i:Nat)) c) where
 mem:=by simp
 obj:=fun i h st b d=>by
  have e:b=it:=by simpa using d
  subst e
  exact⟨_,st,fun v z=>by
   have B:Data.fields _=Data.cell v:=z
   cases B⟩
 keep:=fun i h j st k=>k it (by simp) _ st
 item:=by
  intro X p hw q m i a s y H E I g st l;subst p hw q;obtain⟨x,f1,f2,f3,u,r⟩:=g it (by simp);have W:=Walks.range (prog:=X.prog) (w:=X.w) (I.ok.hd m) it lo c n;refine W.item i s _ _ l st fun v j tk D f C=>?_;obtain⟨t,rfl⟩:=D;have I1:Inv X a y H { s with heap:=j,toks:=tk }:=I.turned (fun b o d e=>C b o (by simpa using d) e) x f1 f3 u r;exact⟨_,rfl,Qd1 (s:={ s with heap:=j,toks:=tk }) (n:="range_iterator") f rfl rfl (by decide) ⟨.int (lo+i*c),H,I1,⟨t,rfl⟩,⟨rfl,rfl⟩,f,fun b d=>(g b d).1⟩⟩
 done:=by
  intro X p hw q m i a s y H E I g st l;subst p hw q;obtain⟨x,f1,f2,f3,u,r⟩:=g it (by simp);exact Lf (I.ok.hd m) st (by have:n<=i:=l;lia) fun j G=>⟨rfl,I.turned (t':=s.toks) (fun b o d e=>G b o d e) x f1 f3 u r⟩
 self:=fun _ _ _ _ _ st h=>Lg st h
theorem Gr(d:c≠0):0<=Builtin.Range.rangeSize a b c:=by
 unfold Builtin.Range.rangeSize;split
 ·split
  ·have:0<=(b-a-1)/c:=Int.ediv_nonneg (by lia) (by lia);omega
  ·exact Ic _
 ·split
  ·have:0<=(a-b-1)/(-c):=Int.ediv_nonneg (by lia) (by lia);omega
  ·exact Ic _
section
variable{X:Cx}{tg:Expr}
theorem Qi0{σ:L2.St}{H:Hp}{lo hi c:Int}{tk:Nat}(I:Inv X d σ H s)(f:c≠0)(h:Builtin.Range.small lo hi c=true)
  (q:R (Ql3 lo c (Builtin.Range.rangeSize lo hi c).toNat) H):wpAny (model X.prog X.w) X.A (pyIter (.ref s.heap.objs.size)) (PIE X d σ tg R) E { s with heap:=s.heap.push { cls:=.type "range",data:=.fields #[.int lo t,.int hi u,.int c v] },toks:=tk }:=by
 refine Od (IsRange.new ..) h ?_;have I1:Inv X d σ H { s with heap:=s.heap.push { cls:=.type "range",data:=.fields #[.int lo t,.int hi u,.int c v] },toks:=tk }:=I.kept fun b o e=>Np _ e
 refine⟨(s.heap.push { cls:=.type "range",data:=.fields #[.int lo t,.int hi u,.int c v] }).objs.size,[(s.heap.push { cls:=.type "range",data:=.fields #[.int lo t,.int hi u,.int c v] }).objs.size],_,_,H,rfl,
  I1.kept (t':=tk) fun b o e=>Np _ e,Qdw _ lo c (Builtin.Range.rangeSize lo hi c).toNat,?_,fun b g=>?_,q⟩
 ·have j:lo+((0:Nat):Int)*c=lo:=by simp
  have i:(((Builtin.Range.rangeSize lo hi c).toNat:Nat):Int)-((0:Nat):Int)=Builtin.Range.rangeSize lo hi c:=by
   have:=Gr (a:=lo) (b:=hi) f;lia
  show IsRangeIter _ _ (lo+((0:Nat):Int)*c) ((((Builtin.Range.rangeSize lo hi c).toNat:Nat):Int)-((0:Nat):Int)) c;rw[j,i];exact NK _ rfl
 ·have e:b=(s.heap.push { cls:=.type "range",data:=.fields #[.int lo t,.int hi u,.int c v] }).objs.size:=by simpa using g
  subst e;exact I1.fpOk (Nw _) (I1.hok.fresh (Nw _))
noncomputable def Qob(d:TA):TI:=fun a H R=>d a H fun b e=>∃i j c:Int,b=[.int i,.int j,.int c]/\(c≠0/\c.natAbs<1073741824/\Builtin.Range.small i j c=true)/\R (Ql3 i c (Builtin.Range.rangeSize i j c).toNat) e
theorem Qdq(D:Gl X "range")(C:X.mg "range"=none)(E:PA X [a,b,d] v)(B:starEach [a,b,d] X.env=[(false,eval a X.env),(false,eval b X.env),(false,eval d X.env)]:=by rfl)(l:starEach [b,d] X.env=[(false,eval b X.env),(false,eval d X.env)]:=by rfl) :
  PI X tg (.Call (.Name "range" p) [a,b,d] [] pos) (Qob v):=by
 intro g s o H R I h;refine Call_ (XU I D C Qq (EG (thn (E pos g s o H _ I h) fun L N u=>?_) (by rw[B,l]) (by rw[l];rfl)));obtain⟨G,O,I1,x,m⟩:=u;obtain⟨i,j,c,e,⟨m,A,z⟩,q⟩:=m;subst e;cases x with
 | cons r f=>
  cases f with
  | cons y f=>
   cases f with
   |cons n f=>
    cases f;obtain⟨t,rfl⟩:=r;obtain⟨M,rfl⟩:=y;obtain⟨w,rfl⟩:=n;exact call_range_3 m (Qi0 I1 m z q) (.inl (Lj A))
end
noncomputable def ZO(lo c:Int)(n:Nat):List W:=(List.range n).map fun(i:Nat)=>W.int (lo+(i:Int)*c)
section
variable{K:Nj}{R:Rn}
theorem QeC{lo c:Int}:ItOk K R (Ql3 lo c n) (ZO lo c n) none where
 go:=fun i w d h H _ _ _ e=>by
  have:=(Ng.mp e).1;show i<n;simpa[ZO]using this
 yld:=fun i w d h H v o e f _ b g=>by
  obtain⟨rfl,rfl⟩:=g;unfold ZO at b;rw[Nz]at b;obtain⟨j,a,m⟩:=Nk.mp b;rw[Df (by have:=(Ng.mp a).1;simpa using this)]at a;cases a;cases m;exact⟨d,Ext.refl _,f,Rw.int _⟩
 stop:=fun i d h H _ _ _ l=>by
  show n<=i;simpa[ZO]using l
end
noncomputable def QgQ(b:MA):MI:=fun a h=>(b a h).bind fun p=>match p.1 with
 |[.int i,.int j,.int c]=>if c≠0/\c.natAbs<1073741824/\Builtin.Range.small i j c=true then some (ZO i c (Builtin.Range.rangeSize i j c).toNat,none,p.2)else none
 |_=>none
section
variable{X:Cx}{tg a b d:Expr}{ms:MA}{p pos:Pos}
theorem Qgu(M:Gl X "range")(L:X.mg "range"=none)(O:PMA X [a,b,d] ms)(I:starEach [a,b,d] X.env=[(false,eval a X.env),(false,eval b X.env),(false,eval d X.env)]:=by rfl)(m:starEach [b,d] X.env=[(false,eval b X.env),(false,eval d X.env)]:=by rfl):PMI X tg (.Call (.Name "range" p) [a,b,d] [] pos) (QgQ ms):=
 Qa4 (Qdq M L O I m) fun U H C t=>by
  obtain⟨R,g,h,items,A,h',B,st,e,k⟩:=t;obtain⟨⟨w,P⟩,Q,f⟩:=Na.mp e;refine⟨R,g,h,w,P,B,st,Q,fun R1 S Y u l n=>?_⟩;split at f
  ·rename_i i j c s;simp only at s;subst s;split at f
   ·rename_i N;cases f;rw[Rws.cons_iff]at n;obtain⟨v,z,rfl,G,r⟩:=n;rw[Rws.cons_iff]at r;obtain⟨v2,y,rfl,E,q⟩:=r;rw[Rws.cons_iff]at q;obtain⟨Z,x,rfl,D,o⟩:=q;rw[Rws.nil_iff]at o;subst o;rw[G.int_eq,E.int_eq,D.int_eq];exact⟨i,j,c,rfl,N,k R1 S _ u l QeC⟩
   ·cases f
  ·cases f
end
noncomputable def UF(kvs:List (Key×W))(k:Key):Option W:=(kvs.find? fun a=>decide (a.1=k)).map (·.2)
noncomputable def Qcm(kvs:List (Key×W))(k:Key)(v:W):List (Key×W):=
 if(kvs.any fun a=>decide (a.1=k))=true then kvs.map (fun a=>if a.1=k then(a.1,v)else a)else kvs++[(k,v)]
noncomputable def Qi9:W->Option Key
 |.int i=>some (.inl i)
 |.str x=>some (.inr x)
 |_=>none
section
variable{K:Nj}{R:Rn}
noncomputable abbrev DicR(K:Nj)(R:Rn):List (Key×W)->List (Key×V)->Prop:=Paired fun p q=>p.1=q.1/\Rw K R p.2 q.2
theorem Yn(r:Rw K R w v)(e:Qi9 w=some k):v=kV k:=by
 cases w with
 |int i=>cases e;exact r.int_eq
 |str x=>cases e;exact r.str_eq
 |_=>cases e
theorem QaI:∀{kvs:List (Key×W)} {a:List (Key×V)},DicR K R kvs a->(UF kvs k=none/\Qa0 a k=none)\/∃w v,UF kvs k=some w/\Qa0 a k=some v/\Rw K R w v
 |_,_,.nil=>.inl ⟨rfl,rfl⟩
 | p::ps,q::qs,.cons h t=>by
  by_cases e:p.1=k
  ·have b:q.1=k:=h.1▸e;exact .inr ⟨p.2,q.2,by simp[UF,EV,e],by simp[Qa0,EV,b],h.2⟩
  ·have b:¬q.1=k:=h.1▸e;have d:UF (p::ps) k=UF ps k:=by simp only[UF,EV,e,decide_false]
   have c:Qa0 (q::qs) k=Qa0 qs k:=by simp only[Qa0,EV,b,decide_false]
   rcases QaI (k:=k) t with z|⟨w,v,i,g,f⟩
   ·exact .inl ⟨d.trans z.1,c.trans z.2⟩
   ·exact .inr ⟨w,v,d.trans i,c.trans g,f⟩
theorem QdX:∀{kvs:List (Key×W)} {d:List (Key×V)},DicR K R kvs d->(kvs.any fun c=>decide (c.1=k))=d.any fun c=>decide (c.1=k)
 |_,_,.nil=>rfl
 |_,_,.cons (a:=p) (b:=q) h t=>by
  rw[De,De,QdX t,h.1]
theorem QaS(r:Rw K R w v):∀{kvs:List (Key×W)} {d:List (Key×V)},DicR K R kvs d->DicR K R (kvs.map (fun c=>if c.1=k then(c.1,w)else c)) (d.map (fun c=>if c.1=k then(c.1,v)else c))
 |_,_,.nil=>.nil
 |_,_,.cons (a:=p) (b:=q) h t=>by
  rw[NA,NA];refine .cons ?_ (QaS r t)
  by_cases e:p.1=k
  ·rw[if_pos e,if_pos (h.1▸e)];exact⟨h.1,r⟩
  ·rw[if_neg e,if_neg (h.1▸e)];exact h
theorem QcN(d:DicR K R kvs a)(r:Rw K R w v):DicR K R (Qcm kvs k w) (GR a k v):=by
 unfold Qcm GR;rw[QdX d];split
 ·exact QaS r d
 ·exact Paired.snoc d ⟨rfl,r⟩
theorem Rh.dicAt(q:Rh K R h H)(r:Rw K R (.ref n) v)(e:h[n]?=some (.dic kvs)) :
  n<R.N/\v=.ref (R.ρ n)/\∃a,H (R.ρ n)=some (.dK a)/\DicR K R kvs a:=by
 unfold Rw at r;exact⟨r.1,r.2,q.obj n _ e⟩
end
noncomputable def QeH(h:MH):W->Option (List (Key×W))
 |.ref n=>match h[n]? with|some (.dic kvs)=>some kvs|_=>none
 |_=>none
theorem Ya(e:QeH h a=some kvs):∃n,a=.ref n/\h[n]?=some (.dic kvs):=by
 cases a with
 |ref n=>
  simp only[QeH]at e;split at e
  ·rename_i c b;cases e;exact⟨n,rfl,b⟩
  ·cases e
 |_=>cases e
noncomputable def Qcl(a b:W)(h:MH):Option (W×MH):=(QeH h a).bind fun c=>(Qi9 b).bind fun k=>(UF c k).map fun v=>(v,h)
noncomputable def QbV(mo mi mv:ME):SM:=fun b h=>(mv b h).bind fun v=>(mo b v.2).bind fun o=>(mi b o.2).bind fun i=>(Qi9 i.1).bind fun k=>match o.1 with
 |.ref n=>match i.2[n]? with
  |some (.dic a)=>if a.length<sizeLine then some (.nx b (i.2.set n (.dic (Qcm a k v.1))))else none
  |_=>none
 |_=>none
section
variable{X:Cx}{o i e a b:Expr}{mo mi mv ma mb:ME}{pos pos':Pos}
theorem Wx(hu:X.A.units+64<cLine)(G:PM X a ma)(E:PM X b mb)(C:G9 b:=by intro _ _;rfl):PM X (.Subscript a b pos) (Qe Qcl ma mb):=
 Q7 (Qid (NW (NO (by decide) _) hu) G E C) fun Z H Q q=>JE (Qk6 q) fun x H1 s=>JE s fun y Y l=>by
  obtain⟨R,h,a,b,w,h',d,r,p,e,k⟩:=l;unfold Qcl at e;obtain⟨t,S,P⟩:=Na.mp e;obtain⟨u,O,N⟩:=Na.mp P;obtain⟨v,c,M⟩:=Nk.mp N;cases M;obtain⟨n,rfl,D⟩:=Ya S;obtain⟨_,I,kx,B,U⟩:=d.dicAt r D;have L:=Yn p O;subst L
  rcases QaI (k:=u) U with z|⟨w',m,j,g,f⟩
  ·rw[z.1]at c;cases c
  ·rw[j]at c;cases c;exact⟨_,m,I,by rw[<-g];exact DGet.k B,k R Y _ (Ext.refl _) d f⟩
theorem Qim{K:Nj}(q:tS K (QbV mo mi mv) D σ H):QjJ (tI K mo) (tI K mi) (tI K mv) D σ H:=by
 obtain⟨R,d,h,r,I,s,e,k⟩:=q;obtain⟨⟨v,B⟩,e1,e2⟩:=Na.mp e;obtain⟨⟨ob,A⟩,e3,e4⟩:=Na.mp e2;obtain⟨⟨M,P⟩,Z,Y⟩:=Na.mp e4;obtain⟨kk,U,c⟩:=Na.mp Y;refine⟨R,d,h,v,B,I,s,e1,fun R1 H1 x m t G=>⟨R1,d,B,ob,A,t,s.mono m,e3,fun R2 H2 y l p E=>⟨R2,d,A,M,P,p,s.mono (m.trans l),Z,fun R3 H3 z j f C=>?_⟩⟩⟩;dsimp only at c;split at c
 ·rename_i n;split at c
  ·rename_i L N;split at c
   ·rename_i g;cases c;obtain⟨u,S,kx,O,w⟩:=f.dicAt (Rw.mono j _ _ E) N;have Q:=Yn C U;subst Q;refine⟨_,_,S,DPut.k O (by rw[<-Ec w];exact g),?_⟩;exact k R3 _ σ (m.trans (l.trans j)) (f.put u ⟨_,rfl,QcN w (Rw.mono (l.trans j) _ _ G)⟩) (s.mono (m.trans (l.trans j)))
   ·cases c
  ·cases c
 ·cases c
theorem Qfw(hu:X.A.units+64<cLine)(d:PM X o mo)(hi:PM X i mi)(f:PM X e mv)(c:UJ e=false:=by rfl):PMS X (.Assign [.Subscript o i pos'] e pos) (QbV mo mi mv):=
 VT (Qjo (NW (NO (by decide) _) hu) d hi f (show swapsWith e (some (.Subscript o i pos')) pos.line X.env=pure false from Yk c)) fun _ _ _=>Qim
end
theorem W2(xs:List a)(x:a):atI (xs++[x]) (-1)=some x:=by
 unfold atI ixN;rw[if_neg (by decide),if_pos (by simp;lia),Nv];have:((-1:Int)+((xs++[x]).length:Nat)).toNat=xs.length:=by simp;lia
 rw[this];simp
theorem Xb{lo c:Int}(e:(ZO lo c n)[j]?=some w):j<n/\w=.int (lo+(j:Int)*c):=by
 unfold ZO at e;rw[Nz]at e;obtain⟨i,d,rfl⟩:=Nk.mp e;obtain⟨a,b⟩:=Ng.mp d;rw[Iw]at a;rw[List.getElem_range]at b;subst b;exact⟨a,rfl⟩
theorem QeR{k:Nat}(a:k<1000000):Builtin.Range.small ((k:Int)-1) (-1) (-1)=true/\(Builtin.Range.rangeSize ((k:Int)-1) (-1) (-1)).toNat=k:=by
 have e:Builtin.Range.rangeSize ((k:Int)-1) (-1) (-1)=k:=by
  unfold Builtin.Range.rangeSize;rw[if_neg (by decide)]
  by_cases z:k=0
  ·subst z;rfl
  ·rw[if_pos (by lia)];simp
 refine⟨?_,by rw[e];simp⟩;unfold Builtin.Range.small;rw[e];simp only[Builtin.Range.rangeFitsLong,NS,Dn,decide_eq_true_eq,beq_iff_eq];exact⟨by lia,.inr (by decide)⟩
theorem QnC{c b a:ME}{k:Nat}(e:c σ h=some (.int ((k:Int)-1),h))(j:b σ h=some (.int (-1),h))(i:a σ h=some (.int (-1),h))(d:k<1000000):QgQ (Qa c (Qa b (Qa a Qd))) σ h=some (ZO ((k:Int)-1) (-1) k,none,h):=by
 unfold QgQ;rw[Qcr e (Qcr j (Qcr i QnS)),Nv];obtain⟨g,f⟩:=QeR d;show(if _ then _ else _)=_;rw[if_pos ⟨by decide,by decide,g⟩,f]
mutual
noncomputable def pur:W->Bool
 |.tup ws=>Zu ws
 |.lst ws=>Zu ws
 |.frz ws=>Zu ws
 |.ref _=>false
 |_=>true
noncomputable def Zu:List W->Bool
 |[]=>true
 |w::ws=>pur w&&Zu ws
end
noncomputable def QcY:MO->Bool
 |.lst ws=>Zu ws
 |.dic kvs=>Zu (kvs.map (·.2))
 |.dct kvs=>Zu (kvs.map (·.2))
mutual
noncomputable def th(f:Nat->Option W):W->Option W
 |.tup ws=>(ths f ws).map .tup
 |.lst ws=>(ths f ws).map .lst
 |.frz ws=>(ths f ws).map .frz
 |.ref j=>f j
 |w=>some w
noncomputable def ths(f:Nat->Option W):List W->Option (List W)
 |[]=>some []
 |w::ws=>(th f w).bind fun x=>(ths f ws).map (x::·)
end
noncomputable def thO(f:Nat->Option W):MO->Option MO
 |.lst ws=>(ths f ws).map .lst
 |.dic kvs=>(ths f (kvs.map (·.2))).map fun vs=>.dic ((kvs.map (·.1)).zip vs)
 |.dct kvs=>(ths f (kvs.map (·.2))).map fun vs=>.dct ((kvs.map (·.1)).zip vs)
noncomputable def res(a:Nat->Option Nat)(g:MH):Nat->Nat->Option W
 |0,j=>(a j).map .ref
 | d+1,j=>match a j with
  |some n=>some (.ref n)
  |none=>match g[j]? with
   |some (.lst ws)=>(ths (res a g d) ws).map .lst
   |_=>none
noncomputable def Wu(ns a:List Nat)(N j:Nat):Option Nat:=match ns[j]? with
 |some n=>some n
 |none=>(a.findIdx? (·==j)).map (N+·)
noncomputable def XJ:Nat->List W->Option (List W×List Nat)
 |_,[]=>some ([],[])
 |k,.ref n::ws=>(XJ (k+1) ws).map fun p=>(.ref k::p.1,n::p.2)
 |k,w::ws=>if pur w then(XJ k ws).map fun p=>(w::p.1,p.2)else none
noncomputable def QF:List Nat->List MO->MH->MH
 |n::ns,o::os,h=>QF ns os (h.set n o)
 |_,_,h=>h
noncomputable def UE(h:MH)(n:Nat):Option MO:=match h[n]? with|some o=>if QcY o then some o else none|none=>none
noncomputable def Qgs(a:W->List Nat)(m:FM)(as:List W)(ns:List Nat)(h:MH):Option (W×MH):=
 if ns.Nodup then(Zo (UE h) ns).bind fun c=>(m as c).bind fun p=>
  if(a p.1).Nodup/\(∀j∈a p.1,ns.length<=j)then
   (th (res (Wu ns (a p.1) h.length) p.2 3) p.1).bind fun w=>
   (Zo (fun j=>(p.2[j]?).bind (thO (res (Wu ns (a p.1) h.length) p.2 3))) (List.range ns.length)).bind fun os=>
   (Zo (fun j=>(p.2[j]?).bind (thO (res (Wu ns (a p.1) h.length) p.2 3))) (a p.1)).map fun b=>
   (w,QF ns os h++b)
  else none
 else none
noncomputable def box(c:W->List Nat)(m:FM):FM:=fun b h=>(XJ 0 b).bind fun a=>Qgs c m a.1 a.2 h
section
variable{K:Nj}{R R':Rn}
mutual
theorem Rw.pur_mono(b:∀a o,R.F a=some o->R'.F a=some o):∀(w:W) (v:V),pur w=true->Rw K R w v->Rw K R' w v
 |.non,_,_,h=>by unfold Rw at h ⊢;exact h
 |.bl _,_,_,h=>by unfold Rw at h ⊢;exact h
 |.int _,_,_,h=>by unfold Rw at h ⊢;exact h
 |.str _,_,_,h=>by unfold Rw at h ⊢;exact h
 |.ty _,_,_,h=>by unfold Rw at h ⊢;exact h
 |.tup ws,_,p,h=>by
  unfold Rw at h ⊢;obtain⟨a,xs,e,d,c⟩:=h;exact⟨a,xs,e,J1 b d,Rws.pur_mono b ws xs (by unfold pur at p;exact p) c⟩
 |.lst ws,_,p,h=>by
  unfold Rw at h ⊢;obtain⟨a,xs,e,d,c⟩:=h;exact⟨a,xs,e,b a _ d,Rws.pur_mono b ws xs (by unfold pur at p;exact p) c⟩
 |.frz ws,_,p,h=>by
  unfold Rw at h ⊢;obtain⟨a,xs,e,d,c⟩:=h;exact⟨a,xs,e,ZA b d,Rws.pur_mono b ws xs (by unfold pur at p;exact p) c⟩
 |.ref n,_,p,h=>by unfold pur at p;cases p
theorem Rws.pur_mono(c:∀a o,R.F a=some o->R'.F a=some o):∀(ws:List W) (vs:List V),Zu ws=true->Rws K R ws vs->Rws K R' ws vs
 |[],_,_,h=>by unfold Rws at h ⊢;exact h
 |w::ws,_,p,h=>by
  unfold Rws at h ⊢;obtain⟨v,b,f,e,d⟩:=h;unfold Zu at p;rw[NS]at p;exact⟨v,b,f,Rw.pur_mono c w v p.1 e,Rws.pur_mono c ws b p.2 d⟩
end
mutual
theorem Rw.th_ok(c:∀a o,R.F a=some o->R'.F a=some o)(hr:∀j v w,Rw K R (.ref j) v->f j=some w->Rw K R' w v):∀(w:W) (v:V) (w':W),th f w=some w'->Rw K R w v->Rw K R' w' v
 |.non,_,_,e,h=>by unfold th at e;cases e;unfold Rw at h ⊢;exact h
 |.bl _,_,_,e,h=>by unfold th at e;cases e;unfold Rw at h ⊢;exact h
 |.int _,_,_,e,h=>by unfold th at e;cases e;unfold Rw at h ⊢;exact h
 |.str _,_,_,e,h=>by unfold th at e;cases e;unfold Rw at h ⊢;exact h
 |.ty _,_,_,e,h=>by unfold th at e;cases e;unfold Rw at h ⊢;exact h
 |.tup ws,_,_,e,h=>by
  unfold th at e;obtain⟨us,d,h2⟩:=Nk.mp e;subst h2;unfold Rw at h ⊢;obtain⟨a,b,l,i,g⟩:=h;exact⟨a,b,l,J1 c i,Rws.th_ok c hr ws b us d g⟩
 |.lst ws,_,_,e,h=>by
  unfold th at e;obtain⟨us,d,h2⟩:=Nk.mp e;subst h2;unfold Rw at h ⊢;obtain⟨a,b,l,i,g⟩:=h;exact⟨a,b,l,c a _ i,Rws.th_ok c hr ws b us d g⟩
 |.frz ws,_,_,e,h=>by
  unfold th at e;obtain⟨us,d,h2⟩:=Nk.mp e;subst h2;unfold Rw at h ⊢;obtain⟨a,b,l,i,g⟩:=h;exact⟨a,b,l,ZA c i,Rws.th_ok c hr ws b us d g⟩
 |.ref n,v,w',e,h=>by unfold th at e;exact hr n v w' h e
theorem Rws.th_ok(d:∀a o,R.F a=some o->R'.F a=some o)(hr:∀j v w,Rw K R (.ref j) v->f j=some w->Rw K R' w v):∀(ws:List W) (vs:List V) (b:List W),ths f ws=some b->Rws K R ws vs->Rws K R' b vs
 |[],_,_,e,h=>by unfold ths at e;cases e;unfold Rws at h ⊢;exact h
 |w::ws,_,_,e,h=>by
  unfold ths at e;obtain⟨x,m,h2⟩:=Na.mp e;obtain⟨g,l,i⟩:=Nk.mp h2;subst i;unfold Rws at h;obtain⟨v,c,q,p,n⟩:=h;subst q;exact Rws.cons (Rw.th_ok d hr w v x m p) (Rws.th_ok d hr ws c g l n)
end
theorem DicR.vals:∀{kvs:List (Key×W)} {a:List (Key×V)},Paired (fun p q=>p.1=q.1/\Rw K R p.2 q.2) kvs a->Rws K R (kvs.map (·.2)) (a.map (·.2))/\kvs.map (·.1)=a.map (·.1):=by
 intro kvs a p
 induction p with
 |nil=>exact⟨Rws.nil,rfl⟩
 |cons h t b=>exact⟨Rws.cons h.2 b.1,by rw[NA,NA,b.2,h.1]⟩
theorem DicR.zip:∀{ks:List Key} {a:List (Key×V)} {us:List W},ks=a.map (·.1)->Rws K R us (a.map (·.2))->Paired (fun p q=>p.1=q.1/\Rw K R p.2 q.2) (ks.zip us) a
 |_,[],us,e,h=>by
  subst e;exact .nil
 | _,q::a,us,e,h=>by
  subst e;rw[NA]at h;cases us with
  |nil=>rw[Rws.nil_iff]at h;cases h
  |cons u us=>
   rw[Rws.cons_iff]at h;obtain⟨v,vs,d,c,b⟩:=h;cases d;exact .cons ⟨rfl,c⟩ (DicR.zip rfl b)
theorem Qbk:∀(n:Nat) (w:W) (k:Tr),Qg3 n w=some k->pur w=true
 |0,_,_,e=>by simp[Qg3]at e
 | n+1,w,k,e=>by
  cases w with
  | tup ws=>
   simp only[Qg3]at e;obtain⟨ks,b,f⟩:=Nk.mp e;unfold pur;clear e f
   induction ws generalizing ks with
   |nil=>rfl
   |cons x ws d=>
    rw[List.mapM_cons]at b;obtain⟨c,h,i⟩:=Na.mp b;obtain⟨a,g,_⟩:=Na.mp i;unfold Zu;rw[Qbk n x c h,d a g];rfl
  |lst ws=>simp[Qg3]at e
  |frz ws=>simp[Qg3]at e
  |ref j=>simp[Qg3]at e
  |_=>rfl
theorem Qc5(e:nrm w=some k):pur w=true:=by
 cases w with
 |tup a=>exact Qbk 8 _ k e
 |_=>cases e
theorem DctR.vals:∀{kvs:List (W×W)} {a:List (Tr×Addr×V)},Paired (fun p q=>Rw K R p.1 (.ref q.2.1)/\nrm p.1=some q.1/\Rw K R p.2 q.2.2) kvs a->Rws K R (kvs.map (·.2)) (a.map (·.2.2))/\Paired (fun p q=>Rw K R p (.ref q.2.1)/\nrm p=some q.1) (kvs.map (·.1)) a:=by
 intro kvs a p
 induction p with
 |nil=>exact⟨Rws.nil,.nil⟩
 |cons h t b=>exact⟨Rws.cons h.2.2 b.1,.cons ⟨h.1,h.2.1⟩ b.2⟩
theorem DctR.zip:∀{ks:List W} {a:List (Tr×Addr×V)} {us:List W},Paired (fun p q=>Rw K R p (.ref q.2.1)/\nrm p=some q.1) ks a->Rws K R us (a.map (·.2.2))->Paired (fun p q=>Rw K R p.1 (.ref q.2.1)/\nrm p.1=some q.1/\Rw K R p.2 q.2.2) (ks.zip us) a
 |_,[],us,.nil,h=>.nil
 | _,q::a,us,.cons e t,h=>by
  rw[NA]at h;cases us with
  |nil=>rw[Rws.nil_iff]at h;cases h
  |cons u us=>
   rw[Rws.cons_iff]at h;obtain⟨v,vs,d,c,b⟩:=h;cases d;exact .cons ⟨e.1,e.2,c⟩ (DctR.zip t b)
theorem QbD(m:∀a o,R.F a=some o->R'.F a=some o)(hr:∀j v w,Rw K R (.ref j) v->f j=some w->Rw K R' w v)(e:thO f o=some x)(h:Ro K R o u):Ro K R' x u:=by
 cases o with
 |lst t=>
  unfold thO at e;obtain⟨c,g,d⟩:=Nk.mp e;subst d;obtain⟨s,l,i⟩:=h;exact⟨s,l,Rws.th_ok m hr t s c g i⟩
 |dic r=>
  unfold thO at e;obtain⟨c,g,d⟩:=Nk.mp e;subst d;obtain⟨n,l,i⟩:=h;obtain⟨a,b⟩:=DicR.vals i;exact⟨n,l,DicR.zip b (Rws.th_ok m hr _ _ c g a)⟩
 |dct r=>
  unfold thO at e;obtain⟨c,g,d⟩:=Nk.mp e;subst d;obtain⟨n,l,i⟩:=h;obtain⟨a,b⟩:=DctR.vals i;exact⟨n,l,DctR.zip (Paired.mapP b fun p q z=>⟨Rw.pur_mono m _ _ (Qc5 z.2) z.1,z.2⟩) (Rws.th_ok m hr _ _ c g a)⟩
theorem Qah(f:∀a o,R.F a=some o->R'.F a=some o)(p:QcY o=true)(h:Ro K R o u):Ro K R' o u:=by
 cases o with
 |lst l=>
  obtain⟨j,d,e⟩:=h;exact⟨j,d,Rws.pur_mono f l j p e⟩
 | dic c=>
  obtain⟨g,d,e⟩:=h;refine⟨g,d,?_⟩;have b:Zu (c.map (·.2))=true:=p;clear p d;revert b
  induction e with
  |nil=>exact fun _=>.nil
  |cons h t i=>
   intro b;rw[NA]at b;unfold Zu at b;rw[NS]at b;exact .cons ⟨h.1,Rw.pur_mono f _ _ b.1 h.2⟩ (i b.2)
 | dct c=>
  obtain⟨g,d,e⟩:=h;refine⟨g,d,?_⟩;have b:Zu (c.map (·.2))=true:=p;clear p d;revert b
  induction e with
  |nil=>exact fun _=>.nil
  |cons h t i=>
   intro b;rw[NA]at b;unfold Zu at b;rw[NS]at b;exact .cons ⟨Rw.pur_mono f _ _ (Qc5 h.2.1) h.1,h.2.1,Rw.pur_mono f _ _ b.1 h.2.2⟩ (i b.2)
theorem GX(f:∀a o,R.F a=some o->R0.F a=some o)(b:∀(i n:Nat),all[i]?=some n->i<R0.N/\R0.ρ i=R.ρ n):∀{ws:List W} {vs:List V} {pre:List Nat} {as:List W} {ns:List Nat},XJ pre.length ws=some (as,ns)->all=pre++ns->Rws K R ws vs->Rws K R0 as vs
 |[],vs,pre,as,ns,e,d,h=>by
  unfold XJ at e;cases e;rw[Rws.nil_iff]at h;subst h;exact Rws.nil
 | w::ws,vs,pre,as,ns,e,d,h=>by
  rw[Rws.cons_iff]at h;obtain⟨v,t,rfl,g,h2⟩:=h
  by_cases hw:∃n,w=.ref n
  ·obtain⟨n,rfl⟩:=hw;unfold XJ at e;obtain⟨⟨q,c⟩,l,j⟩:=Nk.mp e;cases j;refine Rws.cons ?_ (GX f b (pre:=pre++[n]) (ns:=c) (by rw[NC];exact l) (by rw[d];simp) h2);obtain⟨s,r⟩:=b pre.length n (by rw[d];simp);unfold Rw at g ⊢;exact⟨s,by rw[r];exact g.2⟩
  ·have m:(if pur w then(XJ pre.length ws).map fun p=>(w::p.1,p.2)else none)=some (as,ns):=by
    rw[<-e];cases w<;>first|(exact absurd ⟨_,rfl⟩ hw)|(conv=>rhs;unfold XJ)
   split at m
   ·rename_i u;obtain⟨⟨q,c⟩,l,j⟩:=Nk.mp m;cases j;exact Rws.cons (Rw.pur_mono f w v u g) (GX f b l d h2)
   ·cases m
theorem Z6:∀(ns:List Nat) (os:List MO) (h:MH),(QF ns os h).length=h.length
 |[],_,h=>by unfold QF;rfl
 |_::_,[],h=>by unfold QF;rfl
 |n::ns,o::os,h=>by unfold QF;rw[Z6 ns os,Dl]
theorem XG:∀(ns:List Nat) (os:List MO) (h:MH) (n:Nat),n∉ns->(QF ns os h)[n]?=h[n]?
 |[],_,h,n,_=>by unfold QF;rfl
 |_::_,[],h,n,_=>by unfold QF;rfl
 |m::ns,o::os,h,n,a=>by
  unfold QF;rw[XG ns os _ n (fun z=>a (Nu _ z)),D8 (fun z=>a (by rw[z];exact Ny))]
theorem WB:∀(ns:List Nat) (os:List MO) (h:MH) (i n:Nat),ns.Nodup->ns.length=os.length->ns[i]?=some n->n<h.length->(QF ns os h)[n]?=os[i]?
 |[],_,h,i,n,_,_,e,_=>by simp at e
 |m::ns,[],h,i,n,_,a,_,_=>by simp at a
 |m::ns,o::os,h,0,n,hd,a,e,b=>by
  simp at e;subst e;unfold QF;rw[XG ns os _ m (EF.mp hd).1,DW b];rfl
 |m::ns,o::os,h,i+1,n,hd,a,e,b=>by
  unfold QF;rw[WB ns os (h.set m o) i n (EF.mp hd).2 (by simpa using a) (by simpa using e) (by rw[Dl];exact b)];simp
end
end Mi
namespace Mi
open L2
theorem WG:∀{ws:List W} {k:Nat} {as:List W} {ns:List Nat},XJ k ws=some (as,ns)->as.length=ws.length
  |[],k,as,ns,e=>by unfold XJ at e;cases e;rfl
  | w::ws,k,as,ns,e=>by
    cases w<;>unfold XJ at e<;>first
      | (obtain⟨⟨d,a⟩,c,b⟩:=Nk.mp e
         cases b
         simp[WG c])
      | (split at e
         · obtain⟨⟨d,a⟩,c,b⟩:=Nk.mp e;cases b;simp[WG c]
         · cases e)
theorem GJ{a:List Nat}(e:a.findIdx? (·==j)=some i):a[i]?=some j:=by
 rw[Ep]at e;obtain⟨h,b,_⟩:=e;rw[Nl h];simp at b;rw[b]
theorem U4{js:List Nat}(e:js.findIdx? (·==j)=none):j∉js:=by
 rw[Fm]at e;intro z;have:=e j z;simp at this
theorem QdM(e:UE h n=some o):h[n]?=some o/\QcY o=true:=by
 unfold UE at e;split at e
 ·rename_i c b;split at e
  ·rename_i a;cases e;exact⟨b,a⟩
  ·cases e
 ·cases e
theorem Gy{a:List Nat}(h:a.Nodup){i b j:Nat}(e:a[i]?=some j)(c:a[b]?=some j):i=b:=
 (List.getElem?_inj (Ng.mp e).1 h).mp (e.trans c.symm)
section
variable{K:Nj}
open Classical in
theorem QlH(q:spM K n (box fr m) vs H Q E):spM K n m vs H Q E:=by
 obtain⟨R,ws,h,wx,h2,hl,M,a0,e,k⟩:=q;unfold box at e;obtain⟨⟨as,A⟩,e1,e2⟩:=Na.mp e;unfold Qgs at e2;split at e2
 case isFalse=>cases e2
 rename_i hd;obtain⟨h0,e3,e4⟩:=Na.mp e2;obtain⟨⟨w,g⟩,e5,e6⟩:=Na.mp e4;dsimp only at e6;split at e6
 case isFalse=>cases e6
 rename_i hj;obtain⟨a7,a6⟩:=hj;obtain⟨wy,e7,e8⟩:=Na.mp e6;obtain⟨os,e9,bb⟩:=Na.mp e8;obtain⟨us,ap,ba⟩:=Nk.mp bb;cases ba;generalize bc:fr w=js at *
 have aa:∀(i x:Nat),A[i]?=some x->x<R.N/\∃o,h[x]?=some o/\h0[i]?=some o/\QcY o=true:=fun i x l=>by
  obtain⟨o,D,t⟩:=(Qz e3).2 i x l;obtain⟨z3,z4⟩:=QdM t;exact⟨by rw[M.len];exact(Ng.mp z3).1,o,z3,D,z4⟩
 have aj:∀x,x∈A->∃i:Nat,A[i]?=some x:=fun x l=>NI.mp l
 let R0:Rn:={ ρ:=fun i=>R.ρ (A.getD i 0),N:=A.length,F:=R.F,G:=fun a=>if∃x,x<R.N/\x∉A/\R.ρ x=a then H a else R.G a }
 have Y:∀(i x:Nat),A[i]?=some x->i<R0.N/\R0.ρ i=R.ρ x:=fun i x l=>by
  refine⟨(Ng.mp l).1,?_⟩;show R.ρ (A.getD i 0)=_;rw[Ff,l];rfl
 have ak:∀i:Nat,i<A.length->∃x,A[i]?=some x:=fun i P=>⟨A[i],Nl P⟩
 have ao:∀x,x<R.N->x∉A->R0.G (R.ρ x)=H (R.ρ x):=fun x l hn=>if_pos ⟨x,l,hn,rfl⟩
 have an:∀a o,R.G a=some o->R0.G a=some o:=fun a o z=>by
  show(if∃x,x<R.N/\x∉A/\R.ρ x=a then H a else R.G a)=some o;split
  ·exact M.gsub a o z
  ·exact z
 have a1:Rh K R0 h0 H:=by
  refine⟨(Qz e3).1,M.sub,fun i P=>?_,fun i j P hj ee=>?_,fun i o P=>?_,fun a o ha=>?_,fun i P=>?_,fun a o ha=>?_⟩
  ·obtain⟨x,l⟩:=ak i P;rw[(Y i x l).2];exact M.sep x (aa i x l).1
  ·obtain⟨x,l⟩:=ak i P;obtain⟨y,Z⟩:=ak j hj;rw[(Y i x l).2,(Y j y Z).2]at ee;have:=M.inj x y (aa i x l).1 (aa j y Z).1 ee;subst this;exact Gy hd l Z
  ·have a9:i<A.length:=by rw[(Qz e3).1];exact(Ng.mp P).1
   obtain⟨x,l⟩:=ak i a9;obtain⟨_,o',D,t,z3⟩:=aa i x l;rw[P]at t;cases t;rw[(Y i x l).2];exact Qah (R:=R) (R':=R0) (fun _ _ z=>z) z3 (M.obj x o D)
  ·have L:(if∃x,x<R.N/\x∉A/\R.ρ x=a then H a else R.G a)=some o:=ha;split at L
   ·exact L
   ·exact M.gsub a o L
  ·obtain⟨x,l⟩:=ak i P;rw[(Y i x l).2];show(if∃y,y<R.N/\y∉A/\R.ρ y=R.ρ x then H (R.ρ x)else R.G (R.ρ x))=none;rw[if_neg]
   ·exact M.gsep x (aa i x l).1
   ·rintro⟨y,Z,a2,ey⟩
    have:=M.inj y x Z (aa i x l).1 ey;subst this;exact a2 (NI.mpr ⟨i,l⟩)
  ·have L:(if∃x,x<R.N/\x∉A/\R.ρ x=a then H a else R.G a)=some o:=ha;split at L
   ·rename_i l;obtain⟨x,l,_,rfl⟩:=l;exact M.sep x l
   ·exact M.gf a o L
 refine⟨R0,as,h0,w,g,(WG e1).trans hl,a1,GX (R:=R) (R0:=R0) (pre:=[]) (fun _ _ z=>z) Y e1 rfl a0,e5,fun R1 H1 v x1 s rv=>?_⟩;have ah:R1.G=R0.G:=x1.g
 have af:∀(i x:Nat),A[i]?=some x->i<R1.N/\R1.ρ i=R.ρ x:=fun i x l=>by
  obtain⟨D,t⟩:=Y i x l;exact⟨Nd D x1.n,(x1.ρ i D).trans t⟩
 have ab:∀(i j:Nat),js[i]?=some j->A.length<=j/\j<R1.N/\∃o u,us[i]?=some u/\g[j]?=some o/\thO (res (Wu A js h.length) g 3) o=some u:=fun i j p=>by
  obtain⟨u,D,t⟩:=(Qz ap).2 i j p;obtain⟨o,z3,z4⟩:=Na.mp t;exact⟨a6 j (NI.mpr ⟨i,p⟩),by rw[s.len];exact(Ng.mp z3).1,o,u,D,z3,z4⟩
 have S:∀x,x<R.N->∀j,A.length<=j->j<R1.N->R1.ρ j≠R.ρ x:=fun x l j hj av ee=>by
  by_cases hm:x∈A
  ·obtain⟨i,P⟩:=aj x hm;obtain⟨D,t⟩:=af i x P;have:=s.inj j i av D (ee.trans t.symm);have:=(Ng.mp P).1;lia
  ·have z:=s.gsep j av;rw[ah,ee,ao x l hm]at z;obtain⟨_,u,_,hu⟩:=M.there l;rw[hu]at z;cases z
 let R2:Rn:={ ρ:=fun n=>if n<R.N then R.ρ n else R1.ρ (js.getD (n-R.N) 0),N:=R.N+js.length,F:=fun a=>match R1.F a with|some o=>some o|none=>if∃j,A.length<=j/\j<R1.N/\j∉js/\R1.ρ j=a then H1 a else none,G:=R.G }
 have C:∀x,x<R.N->R2.ρ x=R.ρ x:=fun x l=>if_pos l
 have I:∀(i j:Nat),js[i]?=some j->R2.ρ (R.N+i)=R1.ρ j:=fun i j p=>by
  show(if R.N+i<R.N then R.ρ (R.N+i)else R1.ρ (js.getD (R.N+i-R.N) 0))=_;rw[if_neg (NN.mpr (Nm _ _)),EH,Ff,p];rfl
 have f1:∀a o,R1.F a=some o->R2.F a=some o:=fun a o z=>by
  show(match R1.F a with|some o=>some o|none=>if∃j,A.length<=j/\j<R1.N/\j∉js/\R1.ρ j=a then H1 a else none)=some o;rw[z]
 have ae:∀a,R1.F a=none->(¬∃j,A.length<=j/\j<R1.N/\j∉js/\R1.ρ j=a)->R2.F a=none:=fun a D t=>by
  show(match R1.F a with|some o=>some o|none=>if∃j,A.length<=j/\j<R1.N/\j∉js/\R1.ρ j=a then H1 a else none)=none;rw[D];exact if_neg t
 have aw:∀j,A.length<=j->j<R1.N->j∉js->R2.F (R1.ρ j)=H1 (R1.ρ j):=fun j a b c=>by
  show(match R1.F (R1.ρ j)with|some o=>some o|none=>if∃j',A.length<=j'/\j'<R1.N/\j'∉js/\R1.ρ j'=R1.ρ j then H1 (R1.ρ j)else none)=_;rw[s.sep j b];exact if_pos ⟨j,a,b,c,rfl⟩
 have am:Ext R R2:=⟨Nm _ _,fun x l=>C x l,fun a o z=>f1 a o (x1.f a o z),rfl⟩
 have B:∀x,x<R2.N->x<R.N\/∃i j:Nat,x=R.N+i/\js[i]?=some j:=fun x l=>by
  have al:x<R.N+js.length:=l
  by_cases z:x<R.N
  ·exact .inl z
  ·exact .inr ⟨x-R.N,js[x-R.N]'(E3 (NN.mp z) al),by lia,Nl (E3 (NN.mp z) al)⟩
 have hr:∀d j v w,Rw K R1 (.ref j) v->res (Wu A js h.length) g d j=some w->Rw K R2 w v:=by
  have ai:∀j v x,Rw K R1 (.ref j) v->Wu A js h.length j=some x->Rw K R2 (.ref x) v:=fun j v x r z=>by
   unfold Rw at r ⊢;unfold Wu at z;split at z
   ·rename_i y Z;cases z;obtain⟨D,t⟩:=af j x Z;have aq:=(aa j x Z).1;exact⟨Nd aq am.n,by rw[C x aq,<-t];exact r.2⟩
   ·obtain⟨i,D,t⟩:=Nk.mp z;have p:=GJ D;subst t;rw[<-M.len,I i j p];exact⟨NO (Ng.mp p).1 _,r.2⟩
  intro d
  induction d with
  |zero=>
   intro j v w r z;unfold res at z;obtain⟨x,D,t⟩:=Nk.mp z;subst t;exact ai j v x r D
  | succ d ih=>
   intro j v w r z;unfold res at z;split at z
   ·rename_i x l;cases z;exact ai j v x r l
   ·rename_i O;split at z
    ·rename_i ay hg;obtain⟨az,D,t⟩:=Nk.mp z;subst t;obtain⟨xs,o1,o2⟩:=s.obj j _ hg;have ar:j<R1.N/\v=.ref (R1.ρ j):=by unfold Rw at r;exact r
     unfold Wu at O;split at O
     ·cases O
     ·rename_i a5;have au:j∉js:=U4 (by simpa using O);unfold Rw;refine⟨R1.ρ j,xs,ar.2,?_,Rws.th_ok f1 ih ay xs az D o2⟩;rw[aw j (DA.mp a5) ar.1 au];exact o1
    ·cases z
 refine k R2 H1 v am ⟨?_,fun a o ha=>?_,fun x l=>?_,fun x y l Z ee=>?_,fun x o l=>?_,fun a o ha=>?_,fun x l=>?_,fun a o ha=>?_⟩ (Rw.th_ok f1 (hr 3) w v _ e7 rv)
 ·show R.N+js.length=_;rw[NC,Z6,<-(Qz ap).1,M.len]
 ·have L:(match R1.F a with|some o=>some o|none=>if∃j,A.length<=j/\j<R1.N/\j∉js/\R1.ρ j=a then H1 a else none)=some o:=ha;split at L
  ·rename_i o' a4;cases L;exact s.sub a _ a4
  ·split at L
   ·exact L
   ·cases L
 ·rcases B x l with l|⟨i,j,rfl,p⟩
  ·rw[C x l];refine ae _ ?_ (fun⟨j,a,b,_,c⟩=>S x l j a b c)
   by_cases hm:x∈A
   ·obtain⟨i,P⟩:=aj x hm;obtain⟨D,t⟩:=af i x P;rw[<-t];exact s.sep i D
   ·obtain⟨_,u,_,hu⟩:=M.there l;exact s.gf _ u (by rw[ah,ao x l hm];exact hu)
  ·obtain⟨D,t,_⟩:=ab i j p;rw[I i j p];refine ae _ (s.sep j t) (fun⟨j',a,b,c,d⟩=>?_);have:=s.inj j' j b t d;subst this;exact c (NI.mpr ⟨i,p⟩)
 ·rcases B x l with l|⟨i,j,rfl,p⟩<;>rcases B y Z with Z|⟨i',j',rfl,U⟩
  ·rw[C x l,C y Z]at ee;exact M.inj x y l Z ee
  ·rw[C x l,I i' j' U]at ee;obtain⟨D,t,_⟩:=ab i' j' U;exact absurd ee.symm (S x l j' D t)
  ·rw[C y Z,I i j p]at ee;obtain⟨D,t,_⟩:=ab i j p;exact absurd ee (S y Z j D t)
  ·rw[I i j p,I i' j' U]at ee;obtain⟨_,t,_⟩:=ab i j p;obtain⟨_,ax,_⟩:=ab i' j' U;have:=s.inj j j' t ax ee;subst this;rw[Gy a7 p U]
 ·have al:x<R2.N:=by
   have:=(Ng.mp l).1;rw[NC,Z6,<-(Qz ap).1,<-M.len]at this;exact this
  rcases B x al with hn|⟨i,j,rfl,p⟩
  ·rw[NQ (by rw[Z6,<-M.len];exact hn)]at l;rw[C x hn]
   by_cases hm:x∈A
   ·obtain⟨i,P⟩:=aj x hm;obtain⟨D,t⟩:=af i x P;have a8:=(Ng.mp P).1;rw[WB A os h i x hd (by rw[<-(Qz e9).1,Iw]) P (by rw[<-M.len];exact hn)]at l;obtain⟨u,y1,y2⟩:=(Qz e9).2 i i (by rw[Df a8]);rw[l]at y1;cases y1;obtain⟨o',y3,y4⟩:=Na.mp y2;rw[<-t];exact QbD f1 (hr 3) y4 (s.obj i o' y3)
   ·rw[XG A os h x hm]at l;obtain⟨_,u,_,hu⟩:=M.there hn;have a3:H1 (R.ρ x)=some u:=s.gsub _ u (by rw[ah,ao x hn hm];exact hu);have:=M.obj x o l;rw[hu]at this;rw[a3];exact this.mono am
  ·obtain⟨D,t,o',u,y1,y2,y3⟩:=ab i j p;rw[N2 (by rw[Z6,<-M.len];exact Nm _ _),Z6,<-M.len,EH,y1]at l;cases l;rw[I i j p];exact QbD f1 (hr 3) y3 (s.obj j o' y2)
 ·exact s.gsub a o (by rw[ah];exact an a o ha)
 ·rcases B x l with l|⟨i,j,rfl,p⟩
  ·rw[C x l];exact M.gsep x l
  ·rw[I i j p];obtain⟨_,t,_⟩:=ab i j p;cases z:R2.G (R1.ρ j)with
   |none=>rfl
   |some u=>
    have z3:=s.gsep j t;rw[ah,an _ u z]at z3;cases z3
 ·have hg:R1.G a=some o:=by rw[ah];exact an a o ha
  refine ae a (s.gf a o hg) (fun⟨j,_,b,_,d⟩=>?_);have z3:=s.gsep j b;rw[d,hg]at z3;cases z3
theorem Cal.box(b:W->List Nat)(C:Cal P w K a base k x ps g):Cal P w K a base k x ps (Mi.box b g):=
 C.imp fun _ _ _ _ q=>QlH q
end
noncomputable def frN:W->List Nat:=fun _=>[]
noncomputable def frR:W->List Nat
 |.ref j=>[j]
 |_=>[]
noncomputable def Qf0:List Nat->List W->MSt->Option MSt
 |[],[],σ=>some σ
 |i::is,w::ws,σ=>Qf0 is ws (σ.set i (some w))
 |_,_,_=>none
noncomputable def Wc(is:List Nat):MG:=fun w a _=>match w with|.tup b=>Qf0 is b a|_=>none
noncomputable def Qch:List Nat->TGs
 |[]=>Qpf
 |i::is=>Qkj (Qee i) (Qch is)
theorem Ym:PGs X [] (Qch []):=Qhu
theorem ZR(hN:X.N.Nodup)(hi:X.N[i]?=some x)(a:Loc X.env.scope x)(h:PGs X c (Qch is))(b:X.fn x=true\/X.env.scope.names.lookup x=some .local)
  : PGs X (.Name x pos::c) (Qch (i::is)):=Qe4 (Qdz hN hi a b) h
theorem Qbn{K:Nj}:∀{is:List Nat} {ws:List W} {xs:List V} {a b:MSt} {σ:L2.St},Qf0 is ws a=some b->Rws K R ws xs->Rst K R a σ->(∀c,Rst K R b c->C c H)->Qch is xs σ H C
 |[],[],xs,a,b,σ,e,r,s,k=>by
  cases e;rw[Rws.nil_iff]at r;exact⟨r,k σ s⟩
 |i::is,w::ws,xs,a,b,σ,e,r,s,k=>by
  rw[Rws.cons_iff]at r;obtain⟨v,vs,rfl,f,d⟩:=r;exact⟨v,vs,rfl,Qbn (is:=is) e d (s.set f) k⟩
 |[],_::_,_,_,_,_,e,_,_,_=>by cases e
 |_::_,[],_,_,_,_,e,_,_,_=>by cases e
theorem Gd:∀{is:List Nat} {ws:List W} {σ a:MSt},Qf0 is ws σ=some a->ws.length=is.length
 |[],[],_,_,_=>rfl
 |i::is,w::ws,σ,a,e=>by
  have:=Gd (is:=is) (ws:=ws) e;simp[this]
 |[],_::_,_,_,e=>by cases e
 |_::_,[],_,_,e=>by cases e
theorem Ye{is:List Nat}(p:X.calm=true)(h:PGs X b (Qch is))(o:(assignEach b X.env).length=is.length)(n:(assignEach b X.env).findIdx? (·.1)=none):PMG X (.Tuple b k pos) (Wc is):=
 QgJ (QkH p h o n) fun v r H C i=>by
  obtain⟨R,f,h,w,g,c,st,rw,e,q⟩:=i;unfold Wc at e;split at e
  ·rename_i s;obtain⟨ad,j,rfl,m,d⟩:=c.tupAt rw;exact⟨ad,j,rfl,m,by rw[<-d.length];exact Gd e,Qbn e d st fun a l=>q R H a (Ext.refl _) c l⟩
  ·cases e
noncomputable def Qjz(ws:List W)(h:MH):Option (W×MH):=match ws with
 |[.int i,.int j]=>some (.int (if j>i then j else i),h)
 |_=>none
noncomputable def QjI(ws:List W)(h:MH):Option (W×MH):=match ws with
 |[.int i,.int j]=>some (.int (if j<i then j else i),h)
 |_=>none
section
variable{X:Cx}
theorem Qcz(j:X.calm=true):CallR X (.builtin "max") (Fs X.K Qjz):=by
 intro a s b H c d Q I r q;refine Qei j a s b H c d Q I r ?_;obtain⟨R,h,l,w,m,f,rw,e,k⟩:=q;unfold Qjz at e;split at e
 ·cases e;obtain⟨v,u,rfl,i,g⟩:=Qme rw;exact⟨_,_,by rw[i.int_eq,g.int_eq],k R H _ (Ext.refl _) f (Rw.int _)⟩
 ·cases e
theorem QcT(j:X.calm=true):CallR X (.builtin "min") (Fs X.K QjI):=by
 intro a s b H c d Q I r q;refine Qek j a s b H c d Q I r ?_;obtain⟨R,h,l,w,m,f,rw,e,k⟩:=q;unfold QjI at e;split at e
 ·cases e;obtain⟨v,u,rfl,i,g⟩:=Qme rw;exact⟨_,_,by rw[i.int_eq,g.int_eq],k R H _ (Ext.refl _) f (Rw.int _)⟩
 ·cases e
noncomputable def rep(x:Str)(n:Int):Str:=⟨((List.replicate n.toNat x.cps.toList).flatten).toArray⟩
theorem GM:∀(l:List (Array Nat)) (a:Array Nat),l.foldl (·++·) a=(a.toList++(l.map Array.toList).flatten).toArray
 |[],a=>by simp
 |b::l,a=>by rw[Fo,GM l];simp
theorem Qgv(x:Str)(n:Int):(⟨(List.replicate n.toNat x.cps).foldl (·++·) #[]⟩:Str)=rep x n:=by
 unfold rep;rw[GM];simp
theorem Qgg(x:Str)(h:n<1):Str.empty=rep x n:=by
 unfold rep;rw[show n.toNat=0 by lia];rfl
theorem QiR(x:Str):x=rep x 1:=by
 unfold rep;simp
theorem Qhm(n:Int)(h:(x.length==0)=true):x=rep x n:=by
 unfold rep
 have:x.cps=#[]:=by
  have:x.cps.size=0:=by simpa[Str.length]using h
  exact Array.eq_empty_of_size_eq_zero this
 obtain⟨c⟩:=x;simp at this;subst this;simp
noncomputable def X6(a b:W)(h:MH):Option (W×MH):=match a,b with
 |.str x,.int n=>if n<1000/\-1000<n/\x.length<1000 then some (.str (rep x n),h)else none
 |a,b=>QkD a b h
theorem Qiy:OpR X (binaryOp .Mult) (fun x y H Q=>∃z n,x=.str z/\y=.int n/\(n<1000/\-1000<n/\z.length<1000)/\Q (.str (rep z n)) H):=by
  intro b s e H x y v u Q I h g ⟨z,n,o,m,⟨B,A,w⟩,q⟩;subst o m;obtain⟨t,rfl⟩:=h;obtain⟨r,rfl⟩:=g
  have i:z.length*n.toNat<1000000:=by
    calc z.length*n.toNat<=999*999:=Nat.mul_le_mul (by lia) (by lia)
      _<1000000:=by decide
  refine PySem.P.mul_str (by rw[decide_eq_false (by lia),decide_eq_false (by lia)];rfl) (fun a _=>?_) (fun a _=>?_) ?_
  · have:(2^63-1)/n >= 1000:=by
      rw[ge_iff_le,Int.le_ediv_iff_mul_le (by lia)];lia
    lia
  · unfold Builtin.Str.tooLong
    exact decide_eq_false (by show¬_;have:sizeLine=16777216:=by decide
                              lia)
  · have done:∀(y:Str) (tk:Tok) (d:Shared),y=rep z n->Inv X b e H d->EP X b e Q (.str y tk) d:=fun y tk d l p=>⟨.str y,H,p,⟨_,rfl⟩,by rw[l];exact q⟩
    split
    · rename_i f;exact⟨by decide,done _ _ _ (Qgg z f) (I.tok _)⟩
    · split
      · rename_i f c;rw[Dn]at c;refine done _ _ _ ?_ I
        rcases c with c|c
        · have:n=1:=by simpa using c
          subst this;exact QiR z
        · exact Qhm n c
      · refine⟨?_,done _ _ _ (Qgv z n) (I.tok _)⟩;rw[Qgv]
        have j:(rep z n).length=n.toNat*z.length:=by
          unfold rep Str.length;simp
        rw[j,Nat.mul_comm];have:sizeLine=16777216:=by decide
        exact Nn (Nd (NW i (by decide)) (Nt this.symm))
theorem Xd:OpR X (binaryOp .Mult) (F2 X.K X6):=by
 intro c s d H x y v u Q I g f q;obtain⟨R,h,a,b,w,n,i,l,j,e,k⟩:=q;unfold X6 at e;split at e
 ·split at e
  ·rename_i m;cases e;exact Qiy c s d H x y v u Q I g f ⟨_,_,l.str_eq,j.int_eq,m,k R H _ (Ext.refl _) i (Rw.str _)⟩
  ·cases e
 ·exact Qhj c s d H x y v u Q I g f ⟨R,h,a,b,w,n,i,l,j,e,k⟩
end
section
variable{X:Cx}{elt tg iter c:Expr}{scope:Scope}{pos pos' spos:Pos}{cl:List (Str×Addr)}{Nb:List Str}{cp:List (Option Nat)}{mi:MI}{b:MG}{mt:MT}{me m:ME}{fin:List W->MH->Option (W×MH)}{i:Nat}{x:Str}{e:Expr}
theorem QhW{K:Nj}(q:tS K (Q4 i m) D σ H):tI K m σ H fun v f=>Qee i v σ f D.nx:=by
 obtain⟨R,a,h,r,l,s,e,k⟩:=q;obtain⟨⟨w,n⟩,p,o⟩:=Nk.mp e;cases o;exact⟨R,a,h,w,n,l,s,p,fun R1 f v g d j=>k R1 f _ g d ((s.mono g).set j)⟩
theorem GD(hN:X.N.Nodup)(l:X.N[i]?=some x)(u:Loc X.env.scope x)(n:X.fn x=true\/X.env.scope.names.lookup x=some .local)(y:QcC X.K fin)(A:X.calm=true)(B:BlkOk X scope cl Nb cp)(hi:PMI X tg iter mi)(w:∀a d C ex f,PMG (Mi.blk X scope cl Nb a d C ex f) tg b)
  (z:∀a d C ex f,PM (Mi.blk X scope cl Nb a d C ex f) elt me) (v:∀x,foldedSetIterable iter X.env x=pure x) (j:swapsWith (.ListComp elt [⟨tg,iter,[],0⟩] scope pos) (some (.Name x pos')) spos.line X.env=pure true) :
  PMS X (.Assign [.Name x pos'] (.ListComp elt [⟨tg,iter,[],0⟩] scope pos) spos) (Q4 i (Zj fin mi cp b Xm me)):=
 VT (Qhf (g:=tIG X.K b) (te:=tI X.K me) (tt:=tIT X.K Xm) hN l u n j A B hi w (fun a d C ex f o s D H Q I q=>wpAny_tests_nil (by
  obtain⟨R,p,h,t,L,r,st,e,k⟩:=q;cases e
  exact⟨H,I,k R H (Ext.refl _) r⟩)) z v) fun _ _ _ q=>Qcu y (QhW q)
end
set_option checkBinderAnnotations false in
noncomputable def ob[f:b->Option a](x:Option b):Option a:=x.bind f
set_option checkBinderAnnotations false in
noncomputable def om[f:b->a](x:Option b):Option a:=x.map f
@[simp]theorem Qi2:@ob _ _ f (some a)=f a:=id rfl
@[simp]theorem Qm7:@om _ _ f (some a)=some (f a):=id rfl
noncomputable def Qmo(b:SM):MF->Option MF
 |.nx σ h=>b σ h
 |r=>some r
section
variable{σ σ':MSt}{h h':MH}{a b:SM}{m ma mb mc:ME}{t u:MT}{ms:MA}{w x y:W}{ws:List W}
@[simp]theorem QnD:Qmo b (.nx σ h)=b σ h:=id rfl
@[simp]theorem Qmw:Qmo b (.rt w h)=some (.rt w h):=id rfl
@[simp]theorem Qnt:Qmo b (.ct σ h)=some (.ct σ h):=id rfl
@[simp]theorem QqP:Qt a b σ h=@ob _ _ (Qmo b) (a σ h):=by
 unfold Qt;refine congrArg (fun c=>@ob _ _ c (a σ h)) (funext fun r=>?_);cases r<;>rfl
@[simp]theorem QoX:QP σ h=some (.nx σ h):=id rfl
@[simp]theorem QpQ:Zm m σ h=@om _ _ (fun p=>.rt p.1 p.2) (m σ h):=id rfl
@[simp]theorem Qqa:Ql7 σ h=some (.ct σ h):=id rfl
noncomputable def onB(a b:SM)(σ:MSt)(p:Bool×MH):Option MF:=if p.1=true then a σ p.2 else b σ p.2
@[simp]theorem Qn1(c:Bool):onB a b σ (c,h)=if c=true then a σ h else b σ h:=id rfl
@[simp]theorem Qqp:Jq t a b σ h=@ob _ _ (onB a b σ) (t σ h):=by
 unfold Jq;refine congrArg (fun d=>@ob _ _ d (t σ h)) (funext fun p=>?_);obtain⟨c,h⟩:=p;cases c<;>rfl
@[simp]theorem Qos:ZQ m σ h=@om _ _ (fun p=>.nx σ p.2) (m σ h):=id rfl
@[simp 500]theorem Qq7:Q4 i m σ h=@om _ _ (fun p=>.nx (σ.set i (some p.1)) p.2) (m σ h):=id rfl
@[simp]theorem QqC:QiD i f m σ h=@ob _ _ (fun x=>@ob _ _ (fun p=>@om _ _ (fun q=>.nx (σ.set i (some q.1)) q.2) (f x.1 p.1 p.2)) (m σ h)) (Qb i σ h):=by
 unfold QiD Qb
 rcases σ[i]? with _|_|x<;>rfl
@[simp 1100]theorem Qq6{v0 x:Option W}{r:MSt}:List.set (v0::r) 0 x=x::r:=id rfl
@[simp 1100]theorem QqD{v0 v1 x:Option W}{r:MSt}:List.set (v0::v1::r) 1 x=v0::x::r:=id rfl
@[simp 1100]theorem QqL{v0 v1 c x:Option W}{r:MSt}:List.set (v0::v1::c::r) 2 x=v0::v1::x::r:=id rfl
@[simp 1100]theorem Qp7{v0 v1 c d x:Option W}{r:MSt}:List.set (v0::v1::c::d::r) 3 x=v0::v1::c::x::r:=id rfl
@[simp 1100]theorem QqJ{v0 v1 d c v4 x:Option W}{r:MSt}:List.set (v0::v1::d::c::v4::r) 4 x=v0::v1::d::c::x::r:=id rfl
@[simp 1100]theorem QqG{v0 v1 d c v4 e x:Option W}{r:MSt}:List.set (v0::v1::d::c::v4::e::r) 5 x=v0::v1::d::c::v4::x::r:=id rfl
@[simp 1100]theorem Qqe{v0 v1 e d v4 c v6 x:Option W}{r:MSt}:List.set (v0::v1::e::d::v4::c::v6::r) 6 x=v0::v1::e::d::v4::c::x::r:=id rfl
@[simp 1100]theorem QqS{v0 v1 e d v4 c v6 f x:Option W}{r:MSt}:List.set (v0::v1::e::d::v4::c::v6::f::r) 7 x=v0::v1::e::d::v4::c::v6::x::r:=id rfl
@[simp 1100]theorem Qqs{v0 v1 f e v4 d v6 c g x:Option W}{r:MSt}:List.set (v0::v1::f::e::v4::d::v6::c::g::r) 8 x=v0::v1::f::e::v4::d::v6::c::x::r:=id rfl
@[simp 1100]theorem Qqb{v0 v1 g f v4 e v6 d c i x:Option W}{r:MSt}:List.set (v0::v1::g::f::v4::e::v6::d::c::i::r) 9 x=v0::v1::g::f::v4::e::v6::d::c::x::r:=id rfl
@[simp]theorem Qkc:Qb 0 (some o::r) h=some (o,h):=id rfl
@[simp]theorem QoO:Qb 1 (v0::some o::r) h=some (o,h):=id rfl
@[simp]theorem Qpj:Qb 2 (v0::v1::some o::r) h=some (o,h):=id rfl
@[simp]theorem Qoj:Qb 3 (v0::v1::c::some o::r) h=some (o,h):=id rfl
@[simp]theorem QoU:Qb 4 (v0::v1::d::c::some o::r) h=some (o,h):=id rfl
@[simp]theorem QoP:Qb 5 (v0::v1::d::c::v4::some o::r) h=some (o,h):=id rfl
@[simp]theorem Qo5:Qb 6 (v0::v1::e::d::v4::c::some o::r) h=some (o,h):=id rfl
@[simp]theorem Qoz:Qb 7 (v0::v1::e::d::v4::c::v6::some o::r) h=some (o,h):=id rfl
@[simp]theorem Qol:Qb 9 (v0::v1::g::f::v4::e::v6::d::c::some o::r) h=some (o,h):=id rfl
@[simp]theorem s_c:mC w σ h=some (w,h):=id rfl
@[simp 500]theorem Qqo:Qe f ma mb σ h=@ob _ _ (fun p=>@ob _ _ (fun q=>f p.1 q.1 q.2) (mb σ p.2)) (ma σ h):=id rfl
@[simp]theorem Qrc:mUn f ma σ h=@ob _ _ (fun p=>f p.1 p.2) (ma σ h):=id rfl
@[simp]theorem QpN:mFn f ms σ h=@ob _ _ (fun p=>f p.1 p.2) (ms σ h):=id rfl
@[simp]theorem Qpr:Qi n g ms σ h=@ob _ _ (fun p=>if p.1.length=n then g p.1 p.2 else none) (ms σ h):=id rfl
@[simp]theorem QmM:Qd σ h=some ([],h):=id rfl
@[simp 600]theorem Qo2:Qe f ma (mC w) σ h=@ob _ _ (fun p=>f p.1 w p.2) (ma σ h):=id rfl
@[simp 600]theorem Qog:Qa (mC w) ms σ h=@ob _ _ (fun q=>some (w::q.1,q.2)) (ms σ h):=id rfl
@[simp 610]theorem Qm8:Qa m Qd σ h=@ob _ _ (fun p=>some ([p.1],p.2)) (m σ h):=id rfl
@[simp 620]theorem Qmt:Qa (mC w) Qd σ h=some ([w],h):=id rfl
@[simp 600]theorem QoA:Q4 i (mC w) σ h=some (.nx (σ.set i (some w)) h):=id rfl
@[simp 500]theorem QjM:Qa m ms σ h=@ob _ _ (fun p=>@ob _ _ (fun q=>some (p.1::q.1,q.2)) (ms σ p.2)) (m σ h):=id rfl
noncomputable def asB(p:W×MH):Option (Bool×MH):=match p.1 with|.bl b=>some (b,p.2)|_=>none
@[simp]theorem QoN(c:Bool):asB (.bl c,h)=some (c,h):=id rfl
@[simp 500]theorem Qpu:Qm m σ h=@ob _ _ asB (m σ h):=id rfl
@[simp]theorem QoL:Qes t σ h=@om _ _ (fun p=>(!p.1,p.2)) (t σ h):=by
 unfold Qes
 first|rfl|(cases t σ h<;>rfl)
noncomputable def Qla(u:MT)(σ:MSt)(p:Bool×MH):Option (Bool×MH):=if p.1=true then u σ p.2 else some (false,p.2)
noncomputable def QoG(u:MT)(σ:MSt)(p:Bool×MH):Option (Bool×MH):=if p.1=true then some (true,p.2)else u σ p.2
@[simp]theorem Qkw(c:Bool):Qla u σ (c,h)=if c=true then u σ h else some (false,h):=id rfl
@[simp]theorem Qms(c:Bool):QoG u σ (c,h)=if c=true then some (true,h)else u σ h:=id rfl
@[simp 500]theorem Qbm:Xl t u σ h=@ob _ _ (Qla u σ) (t σ h):=by
 unfold Xl;refine congrArg (fun d=>@ob _ _ d (t σ h)) (funext fun p=>?_);obtain⟨c,h⟩:=p;cases c<;>rfl
@[simp 500]theorem Qqy:QdQ t u σ h=@ob _ _ (QoG u σ) (t σ h):=by
 unfold QdQ;refine congrArg (fun d=>@ob _ _ d (t σ h)) (funext fun p=>?_);obtain⟨c,h⟩:=p;cases c<;>rfl
noncomputable def Qox(ma mb:ME)(σ:MSt)(p:Bool×MH):Option (W×MH):=if p.1=true then ma σ p.2 else mb σ p.2
@[simp]theorem Qmp(c:Bool):Qox ma mb σ (c,h)=if c=true then ma σ h else mb σ h:=id rfl
@[simp]theorem Qrj:mIf t ma mb σ h=@ob _ _ (Qox ma mb σ) (t σ h):=by
 unfold mIf;refine congrArg (fun d=>@ob _ _ d (t σ h)) (funext fun p=>?_);obtain⟨c,h⟩:=p;cases c<;>rfl
@[simp]theorem QqI:Qia m σ h=@ob _ _ (fun p=>@om _ _ (fun b=>(b,p.2)) (Qif p.2 p.1)) (m σ h):=by
 unfold Qia;rfl
@[simp]theorem Qrm:mMt T f m ms σ h=@ob _ _ (fun p=>if tyW p.2 T p.1=true then@ob _ _ (fun q=>f p.1 q.1 q.2) (ms σ p.2)else none) (m σ h):=id rfl
end
section
variable{h:MH}{i j:Int}{x y:Str}{ws us:List W}{w:W}
@[simp]theorem QqV:VJ (.int i) (.int j) h=some (.int (i+j),h):=id rfl
@[simp]theorem Qq8:UQ (.int i) (.int j) h=some (.int (i-j),h):=id rfl
@[simp]theorem Qrh:wLt (.int i) (.int j) h=some (.bl (decide (i<j)),h):=id rfl
@[simp]theorem Qre:wLe (.int i) (.int j) h=some (.bl (decide (i<=j)),h):=id rfl
@[simp]theorem Qq9:wGt (.int i) (.int j) h=some (.bl (decide (j<i)),h):=id rfl
@[simp]theorem Qra:wGe (.int i) (.int j) h=some (.bl (decide (j<=i)),h):=id rfl
@[simp]theorem Qqr:U9 (.int i) h=some (.int (-i),h):=id rfl
@[simp]theorem Qo7:Qcj (.int i) (.int j) h=some (.int (i+j),h):=id rfl
@[simp]theorem Qp3(c:0<j):QeB (.int i) (.int j) h=some (.int (i%j),h):=QhV c
@[simp]theorem Qql(c:0<j)(a:j<1073741824):QgG (.int i) (.int j) h=some (.int (i/j),h):=QhT ⟨c,a⟩
@[simp]theorem QoV(c:-18446744073709551616<j)(a:j<18446744073709551616):X6 (.int i) (.int j) h=some (.int (i*j),h):=QcP (.inr ⟨c,a⟩)
@[simp]theorem Qoq(c:-18446744073709551616<i)(a:i<18446744073709551616):X6 (.int i) (.int j) h=some (.int (i*j),h):=QcP (.inl ⟨c,a⟩)
@[simp]theorem Qp2(c:0<=j)(b:j<=1000000)(a:i.natAbs<18446744073709551616):Qjp (.int i) (.int j) h=some (.int (i^j.toNat),h):=Qir ⟨c,b,a⟩
theorem Qc7(c:j<1000/\-1000<j/\x.length<1000):X6 (.str x) (.int j) h=some (.str (rep x j),h):=if_pos c
@[simp]theorem QnM:Qjz [.int i,.int j] h=some (.int (if j>i then j else i),h):=id rfl
@[simp]theorem QmG:QjI [.int i,.int j] h=some (.int (if j<i then j else i),h):=id rfl
@[simp]theorem Qqx:Z1 ws h=if ws.length<=sizeLine then some (.tup ws,h)else none:=id rfl
@[simp]theorem Qqm:KR ws h=if ws.length<=sizeLine then some (.lst ws,h)else none:=id rfl
@[simp]theorem QpL:GT ws h=if ws.length<=sizeLine then some (.ref h.length,h++[.lst ws])else none:=id rfl
@[simp]theorem QqY:wIx (.tup ws) (.int i) h=@om _ _ (fun w=>(w,h)) (atI ws i):=id rfl
@[simp]theorem QqU:wIx (.lst ws) (.int i) h=@om _ _ (fun w=>(w,h)) (atI ws i):=id rfl
@[simp]theorem Qqu:wIx (.frz ws) (.int i) h=@om _ _ (fun w=>(w,h)) (atI ws i):=id rfl
@[simp]theorem QqB:wIx (.ref n) (.int i) h=@ob _ _ (fun(ws:List W)=>@om _ _ (fun w=>(w,h)) (atI ws i)) (match h[n]? with|some (.lst ws)=>some ws|_=>none):=id rfl
@[simp]theorem Qo1:Vp [.tup ws] h=some (.int ws.length,h):=id rfl
@[simp]theorem Qpd:Vp [.lst ws] h=some (.int ws.length,h):=id rfl
@[simp]theorem Qk2:Vp [.frz ws] h=some (.int ws.length,h):=id rfl
@[simp]theorem Qo4:Vp [.ref n] h=@om _ _ (fun(ws:List W)=>(.int ws.length,h)) (match h[n]? with|some (.lst ws)=>some ws|_=>none):=id rfl
theorem QN{xs:List a}{n:Nat}:atI xs (n:Int)=xs[n]?:=by
 cases e:xs[n]? with
 |some x=>exact QiE e
 |none=>
  unfold atI ixN;have:xs.length<=n:=DA.mp e;rw[if_pos (by lia)];rw[if_neg (by lia)];rfl
@[simp]theorem Qqw:atI xs 0=xs[0]?:=QN (n:=0)
@[simp]theorem Qrl:atI xs 1=xs[1]?:=QN (n:=1)
@[simp]theorem Qor{a:Type}{xs:List a}{y:a}:atI (xs++[y]) (-1)=some y:=W2 xs y
@[simp]theorem Qqq:ixN (n+1) 0=some 0:=by unfold ixN;rw[if_pos (by decide),if_pos (by lia)];rfl
@[simp]theorem QqK:ixN (n+2) 1=some 1:=by unfold ixN;rw[if_pos (by decide),if_pos (by lia)];rfl
@[simp]theorem Qow:ixN (n+1) (-1)=some n:=by unfold ixN;rw[if_neg (by decide),if_pos (by lia)];congr 1;lia
noncomputable def Qlr(o i v:W)(σ:MSt)(h:MH):Option MF:=match o,i with
 |.ref n,.int k=>match h[n]? with
  |some (.lst a)=>@om _ _ (fun j=>.nx σ (h.set n (.lst (a.set j v)))) (ixN a.length k)
  |_=>none
 |_,_=>none
@[simp]theorem QqQ:Qjs mo mi mv σ h=@ob _ _ (fun v=>@ob _ _ (fun o=>@ob _ _ (fun i=>Qlr o.1 i.1 v.1 σ i.2) (mi σ o.2)) (mo σ v.2)) (mv σ h):=id rfl
@[simp]theorem QnX:Qlr (.ref n) (.int i) v σ h=match h[n]? with
  |some (.lst xs)=>@om _ _ (fun j=>.nx σ (h.set n (.lst (xs.set j v)))) (ixN xs.length i)
  |_=>none:=id rfl
@[simp]theorem QoF{w:W}:Qjw (some (.rt w h))=some (w,h):=id rfl
@[simp]theorem Qpt:Qjw (some (.nx σ h))=some (.non,h):=id rfl
@[simp]theorem Qmv{n:Nat}{w:W}:QL (.ref n) [w] h=match h[n]? with|some (.lst xs)=>if xs.length<sizeLine then some (.non,h.set n (.lst (xs++[w])))else none|_=>none:=id rfl
@[simp]theorem Qmu{n:Nat}{w:W}:WN (.ref n) [w] h=match h[n]? with|some (.lst xs)=>@ob _ _ (fun a=>if xs.length+a.length<=sizeLine then some (.non,h.set n (.lst (xs++a)))else none) (loW h w)|_=>none:=id rfl
@[simp]theorem Qq0:loW h (.lst ws)=some ws:=id rfl
@[simp]theorem Qq2:Qmg (.ref n) [] h=match h[n]? with|some (.lst xs)=>@om _ _ (fun w=>(w,h.set n (.lst xs.dropLast))) (xs[xs.length-1]?)|_=>none:=id rfl
@[simp]theorem QqA:tyW h T (.ref n)=match h[n]? with|some (.lst _)=>T=="list"|some (.dic _)=>T=="dict"|some (.dct _)=>T=="dict"|none=>false:=id rfl
@[simp]theorem QpZ:tyW h T (.lst ws)=(T=="list"):=id rfl
@[simp]theorem QoJ:Qif h (.bl b)=some b:=id rfl
@[simp]theorem QoB:Qif h (.tup ws)=some (!ws.isEmpty):=id rfl
@[simp]theorem Qmd:VV [.lst ws] h=some (.tup ws,h):=id rfl
@[simp]theorem Ql1:VV [.ref n] h=@om _ _ (fun(ws:List W)=>(.tup ws,h)) (match h[n]? with|some (.lst ws)=>some ws|_=>none):=id rfl
@[simp]theorem Qrb:mSl c a b σ h=@ob _ _ (fun p=>@ob _ _ (fun q=>@ob _ _ (fun r=>wSl p.1 q.1 r.1 r.2) (b σ q.2)) (a σ p.2)) (c σ h):=id rfl
@[simp]theorem Qrd:Xy σ h=some (none,h):=id rfl
noncomputable def asI(p:W×MH):Option (Option Int×MH):=match p.1 with|.int i=>some (some i,p.2)|_=>none
@[simp]theorem QnW:asI (.int i,h)=some (some i,h):=id rfl
@[simp]theorem Qrn:XO m σ h=@ob _ _ asI (m σ h):=id rfl
@[simp]theorem QpK{lo hi:Option Int}:wSl (.tup ws) lo hi h=some (.tup (Qai ws lo hi),h):=id rfl
@[simp]theorem QpT{lo hi:Option Int}:wSl (.lst ws) lo hi h=some (.lst (Qai ws lo hi),h):=id rfl
@[simp]theorem Qou:VJ (.tup ws) (.tup us) h=if ws.length+us.length<=sizeLine then some (.tup (ws++us),h)else none:=id rfl
@[simp]theorem Qo0:VJ (.str x) (.str y) h=if x.length+y.length<=sizeLine then some (.str (x++y),h)else none:=id rfl
@[simp]theorem QqZ:wIs a .non h=some (.bl (Xu a),h):=id rfl
@[simp]theorem Qnl:YQ a .non h=some (.bl (!Xu a),h):=id rfl
@[simp]theorem Qmr:Xu .non=true:=id rfl
@[simp]theorem Ql2:Xu (.tup ws)=false:=id rfl
@[simp]theorem Qmq:Xu (.int i)=false:=id rfl
@[simp]theorem Qmb:Xu (.str x)=false:=id rfl
end
mutual
noncomputable def pln:W->Bool
 |.tup ws=>K2 ws
 |.lst ws=>K2 ws
 |.frz _=>false
 |.ref _=>false
 |.ty _=>false
 |_=>true
noncomputable def K2:List W->Bool
 |[]=>true
 |w::ws=>pln w&&K2 ws
end
mutual
noncomputable def dep:W->Nat
 |.tup ws=>Qbl ws+1
 |.lst ws=>Qbl ws+1
 |_=>1
noncomputable def Qbl:List W->Nat
 |[]=>0
 |w::ws=>max (dep w) (Qbl ws)
end
mutual
theorem Kp(h:MH):∀(w:W) (n:Nat),pln w=true->dep w<=n->drf h n w=some w
 |.non,n+1,_,_=>rfl
 |.bl _,n+1,_,_=>rfl
 |.int _,n+1,_,_=>rfl
 |.str _,n+1,_,_=>rfl
 |.tup ws,n+1,p,d=>by
  unfold pln at p;unfold dep at d;show(Zo (drf h n) ws).map W.tup=_;rw[V8 h ws n p (by lia)];rfl
 |.lst ws,n+1,p,d=>by
  unfold pln at p;unfold dep at d;show(Zo (drf h n) ws).map W.lst=_;rw[V8 h ws n p (by omega)];rfl
 |.frz _,_,p,_=>by unfold pln at p;cases p
 |.ref _,_,p,_=>by unfold pln at p;cases p
 |.ty _,_,p,_=>by unfold pln at p;cases p
 |.non,0,_,d=>by unfold dep at d;lia
 |.bl _,0,_,d=>by unfold dep at d;omega
 |.int _,0,_,d=>by unfold dep at d;omega
 |.str _,0,_,d=>by unfold dep at d;omega
 |.tup _,0,_,d=>by unfold dep at d;lia
 |.lst _,0,_,d=>by unfold dep at d;omega
theorem V8(h:MH):∀(ws:List W) (n:Nat),K2 ws=true->Qbl ws<=n->Zo (drf h n) ws=some ws
 |[],_,_,_=>rfl
 |w::ws,n,p,d=>by
  unfold K2 at p;unfold Qbl at d;rw[NS]at p;rw[Zo,Kp h w n p.1 (Nh (I0 _ _) d),Nv,V8 h ws n p.2 (Nh (Nat.le_max_right _ _) d)];rfl
end
mutual
theorem Qbo:∀(w:W),pln w=true->eqW w w=true
 |.non,_=>by unfold eqW;rfl
 |.bl _,_=>by unfold eqW;simp
 |.int _,_=>by unfold eqW;simp
 |.str _,_=>by unfold eqW;simp
 |.tup ws,p=>by unfold pln at p;unfold eqW;exact YY ws p
 |.lst ws,p=>by unfold pln at p;unfold eqW;exact YY ws p
 |.frz _,p=>by unfold pln at p;cases p
 |.ref _,p=>by unfold pln at p;cases p
 |.ty _,p=>by unfold pln at p;cases p
theorem YY:∀(ws:List W),K2 ws=true->Wz ws ws=true
 |[],_=>by unfold Wz;rfl
 |w::ws,p=>by
  unfold K2 at p;rw[NS]at p;unfold Wz;rw[Qbo w p.1,YY ws p.2];rfl
end
theorem QqO(d:pln a=true)(c:pln b=true)(f:dep a<=40)(e:dep b<=40):wNe a b h=some (.bl (!eqW a b),h):=by
 unfold wNe;rw[Kp h a 40 d f,Kp h b 40 c e];rfl
@[simp]theorem QmS:wEq (.int i) (.int j) h=some (.bl (i==j),h):=Qhp i j h
@[simp]theorem Qn5:wEq (.str x) (.str y) h=some (.bl (x==y),h):=QiN x y h
mutual
theorem YX:∀(w:W),pln w=true->pur w=true
 |.non,_=>rfl
 |.bl _,_=>rfl
 |.int _,_=>rfl
 |.str _,_=>rfl
 |.tup ws,p=>by unfold pln at p;unfold pur;exact QG ws p
 |.lst ws,p=>by unfold pln at p;unfold pur;exact QG ws p
 |.frz _,p=>by unfold pln at p;cases p
 |.ref _,p=>by unfold pln at p;cases p
 |.ty _,p=>by unfold pln at p;cases p
theorem QG:∀(ws:List W),K2 ws=true->Zu ws=true
 |[],_=>rfl
 |w::ws,p=>by
  unfold K2 at p;rw[NS]at p;unfold Zu;rw[YX w p.1,QG ws p.2];rfl
end
mutual
theorem UX(f:Nat->Option W):∀(w:W),pur w=true->th f w=some w
 |.non,_=>rfl
 |.bl _,_=>rfl
 |.int _,_=>rfl
 |.str _,_=>rfl
 |.ty _,_=>rfl
 |.tup ws,p=>by unfold pur at p;unfold th;rw[ZC f ws p];rfl
 |.lst ws,p=>by unfold pur at p;unfold th;rw[ZC f ws p];rfl
 |.frz ws,p=>by unfold pur at p;unfold th;rw[ZC f ws p];rfl
 |.ref _,p=>by unfold pur at p;cases p
theorem ZC(f:Nat->Option W):∀(ws:List W),Zu ws=true->ths f ws=some ws
 |[],_=>rfl
 |w::ws,p=>by
  unfold Zu at p;rw[NS]at p;unfold ths;rw[UX f w p.1,ZC f ws p.2];rfl
end
theorem Qv(b:Zu ws=true)(e:m ws []=some (w,g))(hw:pur w=true):box frN m ws h=some (w,h):=by
 have hr:XJ 0 ws=some (ws,[]):=by
  generalize 0=k;clear e
  induction ws with
  |nil=>rfl
  |cons a r c=>
   unfold Zu at b;rw[NS]at b;have:=c b.2;cases a<;>first|(unfold pur at b;cases b.1;done)|(unfold XJ;rw[if_pos b.1,this];rfl)
 unfold box;rw[hr,Nv];unfold Qgs;rw[if_pos EI];simp only[Zo,Nv,e,frN,Dm,Yac];rw[if_pos ⟨EI,by simp⟩,UX _ w hw];simp[QF]
theorem QaW(b:Zu ws=true)(e:m ws []=some (.ref j,g))(d:g[j]?=some (.lst us))(hu:Zu us=true):box frN m ws h=some (.lst us,h):=by
 have hr:XJ 0 ws=some (ws,[]):=by
  generalize 0=k;clear e
  induction ws with
  |nil=>rfl
  |cons a r c=>
   unfold Zu at b;rw[NS]at b;have:=c b.2;cases a<;>first|(unfold pur at b;cases b.1;done)|(unfold XJ;rw[if_pos b.1,this];rfl)
 unfold box;rw[hr,Nv];unfold Qgs;rw[if_pos EI];simp only[Zo,Nv,e,frN,Dm,Yac];rw[if_pos ⟨EI,by simp⟩]
 have:th (res (Wu [] [] h.length) g 3) (.ref j)=some (.lst us):=by
  unfold th res;simp only[Wu,OF,OG,Yad,d];rw[ZC _ us hu];rfl
 rw[this];simp[QF]
theorem ZD(b:Zu ws=true)(q:h[n]?=some o)(p:QcY o=true)(e:m (.ref 0::ws) [o]=some (w,j::g))(hw:pur w=true)(i:∃us,j=.lst us/\Zu us=true):box frN m (.ref n::ws) h=some (w,h.set n j):=by
 obtain⟨us,rfl,c⟩:=i
 have hr:∀k,XJ k ws=some (ws,[]):=by
  clear e
  induction ws with
  |nil=>intro k;rfl
  |cons a r l=>
   intro k;unfold Zu at b;rw[NS]at b;have:=l b.2 k;cases a<;>first|(unfold pur at b;cases b.1;done)|(unfold XJ;rw[if_pos b.1,this];rfl)
 unfold box
 have d:XJ 0 (.ref n::ws)=some (.ref 0::ws,[n]):=by
  unfold XJ;rw[hr];rfl
 rw[d,Nv];unfold Qgs;rw[if_pos (by simp)];have f:UE h n=some o:=by unfold UE;rw[q];simp[p]
 simp only[Zo,f,Nv,Fp,e,frN,E2];rw[if_pos ⟨EI,by simp⟩,UX _ w hw];simp[QF,List.range_succ,Zo,thO,ZC _ us c]
theorem Us{os os':List MO}(hr:XJ 0 args=some (as,ns))(hd:ns.Nodup)(r:Zo (UE h) ns=some os)(e:m as os=some (w,os'++g))(s:os'.length=ns.length)
  (c:∀o∈os',∃us,o=.lst us/\Zu us=true) (hw:th (res (Wu ns [] h.length) (os'++g) 3) w=some w'):box frN m args h=some (w',QF ns os' h):=by
 unfold box;rw[hr,Nv];unfold Qgs;rw[if_pos hd,r];simp only[Nv,e];rw[if_pos (show(frN w).Nodup/\∀j∈frN w,ns.length<=j from⟨EI,fun j t=>by simp[frN]at t⟩)];show(th (res (Wu ns [] h.length) (os'++g) 3) w).bind _=_;rw[hw,Nv];show(Zo (fun j=>((os'++g)[j]?).bind (thO (res (Wu ns [] h.length) (os'++g) 3))) (List.range ns.length)).bind (fun os=>(Zo (fun j=>((os'++g)[j]?).bind (thO (res (Wu ns [] h.length) (os'++g) 3))) []).map fun us=>(w',QF ns os h++us))=_
 have:Zo (fun j=>((os'++g)[j]?).bind (thO (res (Wu ns [] h.length) (os'++g) 3))) (List.range ns.length)=some os':=by
  rw[<-s]
  have key:∀(k:Nat) (a:List MO),(∀i o,a[i]?=some o->(os'++g)[k+i]?=some o)->(∀o∈a,∃us,o=.lst us/\Zu us=true)->Zo (fun j=>((os'++g)[j]?).bind (thO (res (Wu ns [] h.length) (os'++g) 3))) (List.range' k a.length)=some a:=by
   intro k a
   induction a generalizing k with
   |nil=>intro _ _;rfl
   |cons x a n=>
    intro f d;obtain⟨us,hu,q⟩:=d x Ny;rw[NP,FO];unfold Zo;have l:=f 0 x rfl;rw[Fx]at l;rw[l,Nv,n (k+1) (fun i o b=>by have:=f (i+1) o (by simpa using b);rw[show k+1+i=k+(i+1) by exact DT _ _ _];exact this) fun o p=>d o (Nu _ p),hu];show((ths _ us).map MO.lst).bind _=_;rw[ZC _ us q];rfl
  rw[LL];exact key 0 os' (fun i o b=>by rw[NX,NQ (Ng.mp b).1];exact b) c
 rw[this];simp[Zo]
@[simp]theorem Qaw{os:List MO}:QF [] os h=h:=by unfold QF;rfl
theorem Qbc(e:h[n]?=some (.lst us))(a:Zu us=true):UE h n=some (.lst us):=by unfold UE;rw[e];simp[QcY,a]
theorem JT(f:W->W)(hi:mi σ h=some (items,none,h))(a:∃o,Qho cp σ=o::caps)(c:∀w∈items,me (some w::caps) h=some (f w,h))(b:items.length<=sizeLine) :
  Zj fin mi cp (JM 0) Xm me σ h=fin (items.map f) h:=by
 obtain⟨o,a⟩:=a;unfold Zj;rw[hi,Nv];simp only[a];rw[Kw (p:=fun _=>true) (f:=f) items [] o (fun _ _=>rfl) (fun w hw _=>c w hw) (by simpa using b),List.filter_eq_self.mpr (fun _ _=>rfl)];rfl
theorem Ub(P:List l->MSt->MH->Prop)(f:l->W):∀(rest:List W) (a:List l) (e:MSt) (h:MH),P a e h->a.length+rest.length<=sizeLine ->
  (∀w∈rest,∀a e h,P a e h->∃d x i,b w e h=some d/\me d h=some (f x,i)/\P (a++[x]) d i) ->
  ∃c g h',JO fin items none b Xm me rest (a.map f) e h=fin (c.map f) h'/\P c g h'/\c.length=a.length+rest.length
 |[],a,e,h,j,_,_=>⟨a,e,h,by unfold JO;rw[if_pos (Zp _ _)],j,by simp⟩
 |w::rest,a,e,h,j,t,m=>by
  have s:a.length+(rest.length+1)<=sizeLine:=by simpa using t
  obtain⟨d,x,i,v,u,p⟩:=m w Ny a e h j;obtain⟨c,g,h',n,o,q⟩:=Ub (items:=items) (b:=b) (me:=me) (fin:=fin) P f rest (a++[x]) d i p (by simp;lia) fun y r=>m y (Nu _ r);refine⟨c,g,h',?_,o,by rw[q];simp;exact DT _ _ _⟩;unfold JO;rw[if_pos (Zp _ _),v,Nv];show(some (true,h)).bind _=_;rw[Nv];simp only[u,Nv];rw[if_pos (by rw[NG];lia)];rw[Eb,NA,IG]at n;exact n
theorem J9(P:Nat->MSt->MH->Prop):∀(r:List W) (n:Nat) (σ:MSt) (h:MH),P n σ h ->
  (∀(j:Nat) (w:W),r[j]?=some w->∀σ h,P (n+j) σ h->∃a,b w σ h=some a/\∃σ2 h2,(body a h=some (.nx σ2 h2)\/body a h=some (.ct σ2 h2))/\P (n+j+1) σ2 h2) ->
  ∃c h',X1 items none b body r σ h=some (.nx c h')/\P (n+r.length) c h'
 |[],n,σ,h,d,_=>⟨σ,h,Qge,d⟩
 | w::r,n,σ,h,d,f=>by
  obtain⟨a,o,σ2,h2,e,i⟩:=f 0 w rfl σ h d
  obtain⟨c,h',m,g⟩:=J9 (items:=items) (b:=b) (body:=body) P r (n+1) σ2 h2 i fun j x l σ h d=>by
   have:=f (j+1) x (by simpa using l) σ h (by rw[show n+(j+1)=n+1+j by lia];exact d);rw[show n+(j+1)+1=n+1+j+1 by exact DT _ _ _]at this;exact this
  refine⟨c,h',?_,by rw[NP,show n+(r.length+1)=n+1+r.length by lia];exact g⟩;rw[X1,if_pos (Zp _ _),o,Nv]
  rcases e with e|e<;>rw[e]<;>exact m
theorem Yz(P:Nat->MSt->MH->Prop):∀(n f:Nat) (σ:MSt) (h:MH),n<f->P n σ h ->
  (∀n σ h,P n σ h->(t σ h=some (false,h)/\n=0)\/(t σ h=some (true,h)/\∃m σ2 h2,m<n/\(body σ h=some (.nx σ2 h2)\/body σ h=some (.ct σ2 h2))/\P m σ2 h2)) ->
  ∃a h',QQ t body f σ h=some (.nx a h')/\P 0 a h'
 |n,0,_,_,l,_,_=>by lia
 | n,f+1,σ,h,l,d,c=>by
  rcases c n σ h d with⟨e,j⟩|⟨e,m,σ2,h2,p,b,i⟩
  ·subst j;exact⟨σ,h,by rw[QQ,e];rfl,d⟩
  ·obtain⟨a,h',o,g⟩:=Yz P m f σ2 h2 (by lia) i c;refine⟨a,h',?_,g⟩;rw[QQ,e]
   rcases b with b|b<;>simp only[Nv,b]<;>exact o
noncomputable def eqS(y:Str)(p:W×MH):Option (Bool×MH):=@ob _ _ asB (wEq p.1 (.str y) p.2)
noncomputable def eqN(j:Int)(p:W×MH):Option (Bool×MH):=@ob _ _ asB (wEq p.1 (.int j) p.2)
@[simp 650]theorem Qoy:Qm (Qe wEq a (mC (.str y))) σ h=@ob _ _ (eqS y) (a σ h):=by
 unfold Qm Qe mC eqS ob;cases a σ h<;>rfl
@[simp 650]theorem QoT:Qm (Qe wEq a (mC (.int j))) σ h=@ob _ _ (eqN j) (a σ h):=by
 unfold Qm Qe mC eqN ob;cases a σ h<;>rfl
@[simp]theorem QmH:eqS y (.str x,h)=some (x==y,h):=by unfold eqS;rw[Qn5];rfl
@[simp]theorem QnI:eqN j (.int i,h)=some (i==j,h):=by unfold eqN;rw[QmS];rfl
end Mi
namespace Mi
open L2
noncomputable def Qon(ws:List W)(h:MH):Option (W×MH):=match ws with
 |[.tup ws]=>some (.ref h.length,h++[.lst ws])
 |[a]=>(lsW h a).map fun ws=>(.ref h.length,h++[.lst ws])
 |_=>none
noncomputable def QpH(a:W)(ws:List W)(h:MH):Option (W×MH):=match a,ws with
 |.ref n,[.int 0]=>match h[n]? with|some (.lst (x::b))=>some (x,h.set n (.lst b))|_=>none
 |_,_=>none
theorem QeF{st:List Stmt}:Qef X st fun _ _=>none:=fun a s c H D I q=>by
 obtain⟨R,b,h,r,d,st,e,k⟩:=q;cases e
section
open PySem.AutoSeq1
theorem QbE(l:Addr)(c:Array Value)(n:Nat)(b:Addr)(a:Array Value)(r:Nat)(e:Obj)(u:e.cls=.type "tuple")(hd:e.data=.seq a r)(t:¬(!c.isEmpty&&Builtin.List.listTooLong (c.size+a.size))=true)(j:c.size<=sizeLine)(i:c.size+a.size<=sizeLine+1) :
  Meets (Builtin.«list.extend» ⟨[.ref l,.ref b],[]⟩) (fun _ R s=>s.heap.get? l=some { cls:=.type "list",dict:=none,data:=.seq c n,slots:=#[] }/\s.heap.get? b=some e /\
   R (.ok (.ret Value.none)) { s with heap:=s.heap.update l (Obj.mapSeq fun x=>x++a),toks:=s.toks }):=
 .of_wp fun m w A R s h=>by
  obtain⟨G,E,y,q⟩:=e;subst u hd;obtain⟨B,g,d,tk,os⟩:=s;obtain⟨o,v,h⟩:=h;have f1:=idx_int;have f2:=II;have f3:=AutoSeq1.sub_list_list;have D:=AutoSeq1.sub_tuple_list;have C:=AutoSeq1.sub_list_tuple;have f:(c++a).size<=sizeLine+1:=by rw[Array.size_append];exact i
  wp_walk using(La o rfl (hz:=j) (_hz':=f)),DR o,DR v
  exact⟨_,rfl,h⟩
end
section
variable{X:Cx}
theorem QbP:MtM X "list.extend" (fun x vs H Q=>∃l b xs g,x=.ref l/\vs=[.ref b]/\H l=some (.lst xs)/\SqT X.K H b g/\xs.length+g.length<=sizeLine/\Q .non (upd H l (.lst (xs++g)))):=by
 intro j s N H x vs v O Q I t w h;obtain⟨l,b,xs,g,rfl,rfl,p,L,C,q⟩:=h;cases t;obtain⟨u,rfl,y⟩:=w.one;cases y;obtain⟨z,c,n,r,E,e⟩:=I.lstM p;obtain⟨a,i,⟨A,M,G,B,hd⟩,D⟩:=I.tuple L;have o:=i.length;have f:c.toArray.size+a.toArray.size<=sizeLine:=by rw[Nr,Nr];lia
 have d:¬(!c.toArray.isEmpty&&Builtin.List.listTooLong (c.toArray.size+a.toArray.size))=true:=by
  rw[Qbg f,D0];exact Eu
 refine FD Dj ⟨_,e,rfl⟩ L4 (LK _ _)
  (QbE l c.toArray n b a.toArray B A G hd d (by rw[Nr];exact Nh (Nt E.symm) z) (Nh f (Nm _ _))) ⟨e,M,?_⟩
 refine⟨.non,_,I.lset (its':=c++a) p e (by simp) (r.append i) ?_,rfl,q⟩;rw[NC];exact C
noncomputable def Xf(a:W)(ws:List W)(h:MH):Option (W×MH):=match a,ws with
 |.ref n,[.tup b]=>match h[n]? with|some (.lst c)=>if c.length+b.length<=sizeLine then some (.non,h.set n (.lst (c++b)))else none|_=>none
 |_,_=>none
theorem YI:QgI X "list.extend" Xf:=by
 intro b s j H x o v p Q I t u q;refine QbP b s j H x o v p Q I t u ?_;obtain⟨R,h,a,M,w,N,d,z,c,e,k⟩:=q;unfold Xf at e;split at e
 ·rename_i n G;split at e
  ·rename_i L A;split at e
   ·rename_i B;cases e;obtain⟨f,rfl,m,D,i⟩:=d.refAt z A;obtain⟨y,rfl,r⟩:=GS c;obtain⟨E,l,rfl,C,g⟩:=d.tupAt r;refine⟨_,E,m,l,rfl,rfl,D,C,by rw[<-i.length,<-g.length];exact B,?_⟩;exact k R _ _ (Ext.refl _) (d.put f ⟨_,rfl,Rws.append i g⟩) Rw.non
   ·cases e
  ·cases e
 ·cases e
@[simp]theorem QlN:Xf (.ref n) [.tup a] h=match h[n]? with|some (.lst xs)=>if xs.length+a.length<=sizeLine then some (.non,h.set n (.lst (xs++a)))else none|_=>none:=id rfl
end
end Mi
namespace L2
def RawD(h:Heap)(d:Addr)(a:Array DictEntry)(ep:Nat):Prop:=∃o,h.get? d=some o/\o.ExactDict/\o.data=.dict a ep
theorem RawD.typeIs{s:Shared}(m:RawD s.heap d c ep):s.TypeIs (.ref d) "dict":=by obtain⟨o,a,b,_⟩:=m;exact⟨o,a,b.1⟩
theorem RawD.lt(m:RawD h d b ep):d<h.objs.size:=by obtain⟨_,a,_⟩:=m;exact ND a
theorem RawD.at(m:RawD h d b ep)(k:∀o,h.get? d=some o->h'.get? d=some o):RawD h' d b ep:=by obtain⟨o,a,r⟩:=m;exact⟨o,k o a,r⟩
end L2
namespace Mi
open L2
noncomputable abbrev DctR(K:Nj)(R:Rn):List (W×W)->List (Tr×Addr×V)->Prop:=Paired fun p q=>Rw K R p.1 (.ref q.2.1)/\nrm p.1=some q.1/\Rw K R p.2 q.2.2
section
variable{X:Cx}{pins:List (Addr×Obj)}{σ:L2.St}{H:Hp}{s:Shared}{R:Rn}{h:MH}
def DctE(prog:Program)(w:World)(h:Heap)(d:Addr)(xs:List (Tr×Addr×Value)):Prop:=
 ∃o a b,h.get? d=some o/\o.ExactDict/\o.data=.dict a b/\a.toList=xs.map (entryOfKey (K9 prog w))/\(∀x∈xs,(K9 prog w).is h x.1 x.2.1)/\(xs.map (·.1)).Nodup/\b=a.size
theorem DctE.of{h:Heap}:DctE prog w h d xs->h.DictOfH (K9 prog w) d xs:=fun z=>by
 obtain⟨o,i,j,g,f,e,c,b,a,_⟩:=z;exact⟨o,i,j,g,f,e,c,b,a⟩
end
end Mi
namespace L2
section
variable{X:Cx}{pins:List (Addr×Obj)}{σ:St}{H:Hp}{s:Shared}{h':Heap}{t':Nat}{ch:List Addr}
theorem Inv.turnedL(I:Inv X pins σ H s)(k:∀b o,b∉ch->s.heap.get? b=some o->h'.get? b=some o)(f:∀b∈ch,Qck X pins H b)(d:∀b u,H b=some u->i b=some u)(x:∀b o,s.heap.get? b=some o->H b=none->i b=none)
  (new:∀b u,H b=none->i b=some u->ObjOk X.prog X.w i h' b u):Inv X pins σ i { s with heap:=h',toks:=t' }:=by
 have g:∀b u,H b=some u->b∉ch:=fun b u e z=>by rw[(f b z).1]at e;cases e
 refine I.step (g':=s.gens) (d':=s.drawn) (ch:=ch) (fun b h=>⟨(f b h).2.2.2.1,(f b h).2.1,(f b h).2.2.2.2.1,(f b h).2.2.2.2.2⟩) (fun b o _ _ a e _=>k b o a e) (fun b o _ _ a e _=>⟨o.slots,k b o a e⟩) (fun b o _ e n=>x b o e n)
  (fun b o a e=>⟨o,k b o a e⟩) (fun b j e=>d b _ e) (fun b o u e=>d b _ e) (fun b ps e=>⟨#[],by rw[d b _ e];simp⟩) (fun m y=>?_) (fun b u e=>?_) I.bare
 ·obtain⟨o,A,B,t,r⟩:=y;exact⟨o,A,B,k _ o (fun z=>(f _ z).2.1 rfl) t,r⟩
 ·cases q:H b with
  |none=>exact new b u q e
  |some l=>
   rw[d b l q]at e;cases e;refine(I.hok b _ q).stay (fun c v a p=>k c v ?_ p) (fun c z=>d c _ z) fun c j z=>d c _ z
   rcases a with z|z
   ·rw[z];exact g b _ q
   ·exact g c _ z
theorem Inv.turnedN(I:Inv X pins σ H s)(k:∀b o,b∉ch->s.heap.get? b=some o->h'.get? b=some o)(c:∀b∈ch,Qck X pins H b)(hT:s.heap.objs.size<=T)(new:ObjOk X.prog X.w (upd H T (.tup xs)) h' T (.tup xs)) :
  Inv X pins σ (upd H T (.tup xs)) { s with heap:=h',toks:=t' }:=by
 have a:=I.hok.fresh hT;refine I.turnedL k c (fun b u e=>by rw[Qp (JA e a)];exact e) (fun b o e n=>by rw[Qp (fun z=>by rw[z]at e;exact absurd (ND e) (NN.mpr hT))];exact n) fun b u n e=>?_
 by_cases z:b=T
 ·subst z;rw[ZK]at e;cases e;exact new
 ·rw[Qp z,n]at e;cases e
end
end L2
namespace St
theorem Wb(t:SetTable)(n:Nat):(t.orStandIn n).led=t.led/\(t.plain=false->(t.orStandIn n).plain=false):=by
 unfold SetTable.orStandIn;split
 ·exact⟨rfl,id⟩
 ·exact⟨rfl,fun _=>rfl⟩
theorem GZ(t:SetTable)(a:Array (Int×Value))(g:Int)(x:Value):(layNew t a g x).2.1.led=t.led/\(t.plain=false->(layNew t a g x).2.1.plain=false):=by
 unfold layNew;split
 ·exact Wb _ _
 ·exact⟨rfl,fun _=>rfl⟩
theorem QcS(e:SetTable.laid m f v l p b=some r):r.1.led=l/\r.1.plain=p:=by
 unfold SetTable.laid at e;obtain⟨o,_,a⟩:=Na.mp e;cases a;exact⟨rfl,rfl⟩
theorem Ua(t:SetTable)(b:Array (Int×Value))(n:Nat):(relayAll t b n).2.1.led=t.led/\(t.plain=false->(relayAll t b n).2.1.plain=false):=by
 unfold relayAll;split
 ·rename_i d f e;have a:=QcS e;dsimp only;split
  ·exact⟨a.1,fun c=>a.2.trans c⟩
  ·exact⟨rfl,fun _=>rfl⟩
 ·exact⟨rfl,fun _=>rfl⟩
section
variable{prog:Program}{w:World}{A:Around}{E:Value->Shared->Prop}{s:Shared}
def SetL(prog:Program)(w:World)(h:Heap)(a:Addr)(ks:List Str)(led:Bool):Prop:=
 ∃o b c t,h.get? a=some o/\o.ExactSet/\o.data=.set b c t/\ElemsOf (strKind prog w) b.toList/\b.size<scanBound/\t.fits b.size=true/\t.led=led/\(b.size=0\/t.plain=false)/\ks.Nodup/\b.size=ks.length/\∀k,k∈ks↔∃e∈b.toList,(strKind prog w).is k e.2=true
theorem SetL.at{h h':Heap}{a:Addr}{ks:List Str}{led:Bool}(x:SetL prog w h a ks led)(e:∀o,h.get? a=some o->h'.get? a=some o):SetL prog w h' a ks led:=by obtain⟨o,c,d,t,b,r⟩:=x;exact⟨o,c,d,t,e _ b,r⟩
theorem SetL.lt{h:Heap}{a:Addr}{ks:List Str}{led:Bool}(x:SetL prog w h a ks led):a<h.objs.size:=by obtain⟨_,_,_,_,b,_⟩:=x;exact ND b
theorem SetL.typeIs{a:Addr}{ks:List Str}{led:Bool}(x:SetL prog w s.heap a ks led):s.TypeIs (.ref a) "set":=by obtain⟨o,_,_,_,c,b,_⟩:=x;exact⟨o,c,b.1⟩
theorem stored{h:Heap}{o:Obj}(g:h.get? a=some o)(f:o.ExactSet)(hd:o.data=.set q ep t)(p:ElemsOf (strKind prog w) b.toList)(h2:b.size<scanBound)(n:t'.fits b.size=true)(m:b.size=0\/t'.plain=false)(l:ks.Nodup)(j:b.size=ks.length)(i:∀k,k∈ks↔∃e∈b.toList,(strKind prog w).is k e.2=true) :
  (h.update a (Obj.putSet b t')).get? a=some (Obj.putSet b t' o)/\(Obj.putSet b t' o).ExactSet/\(∃c,(Obj.putSet b t' o).data=.set b c t')/\SetL prog w (h.update a (Obj.putSet b t')) a ks t'.led:=by
 have g1:(h.update a (Obj.putSet b t')).get? a=some (Obj.putSet b t' o):=EK _ g (by rw[Ii b t' hd];rfl);have g2:(Obj.putSet b t' o).ExactSet:=by rw[Ii b t' hd];exact f
 have g3:∃c,(Obj.putSet b t' o).data=.set b c t':=by rw[Ii b t' hd];exact⟨_,rfl⟩
 obtain⟨c,d⟩:=g3;exact⟨g1,g2,⟨c,d⟩,_,b,c,t',g1,g2,d,p,h2,n,rfl,m,l,j,i⟩
theorem QgE(x:Str)(c:Tok):(strKind prog w).is x (.str x c)=true:=by
 show Value.isStrOf x (.str x c)=true;simp[Value.isStrOf]
theorem Qqc{a:Addr}{ks:List Str}{led:Bool}{x:Str}{c:Tok}{Q:Bool->Shared->Prop}(hS:SetL prog w s.heap a ks led)(room:ks.length+1<scanBound)
  (h:∀b h',Heap.SameBut a s.heap h'->SetL prog w h' a (if x∈ks then ks else ks++[x]) led->Q b { s with heap:=h' }) :
  wpAny (model prog w) A (setAddHashed a (.str x c) ((strKind prog w).hash x)) Q E s:=by
 obtain⟨o,M,ep,t,Y,hx,hd,y,hb,hf,m,ae,Z,hn,i⟩:=hS;have hk:(strKind prog w).is x (.str x c)=true:=QgE x c;have H:(Value.str x c).scannable=true:=rfl;have quiet:∀(b:Bool) {B:Shared} {D:Unit->Shared->Prop},D () B->wpAny (model prog w) A (match b with|true=>rule "set.scan.the-table-gave-way"|false=>pure ()) D E B:=fun b _ _ q=>by cases b<;>first|exact Nq q|exact FF q
 unfold setAddHashed setAddHashedIn;refine Ej (Nc (Dw Y hd hf ?_));dsimp only;rw[byScan_of H hb y,if_pos rfl];unfold setAddByScan;refine Nc (Nc (FF (Nc (wpAny_setScan_of hk Y hd hf y ?_))));cases hr:List.findIdx? (fun e=>(strKind prog w).is x e.2) M.toList with
 |some j=>
  obtain⟨hj,pj,_⟩:=Ep.mp hr;have f:x∈ks:=(i x).mpr ⟨M.toList[j],Ez hj,pj⟩;refine Nq (Nq ?_);have q:=h false s.heap (Heap.SameBut.refl a s.heap) ⟨o,M,ep,t,Y,hx,hd,y,hb,hf,m,ae,by rw[if_pos f];exact Z,by rw[if_pos f];exact hn,by rw[if_pos f];exact i⟩;exact q
 | none=>
  have f:x∉ks:=fun f=>by
   obtain⟨e,z,p⟩:=(i x).mp f;have:=Fm.mp hr e z;rw[p]at this;cases this
  rw[if_neg f]at h;have pm:=layNew_perm t M ((strKind prog w).hash x) (.str x c);have ft:=layNew_fits t M ((strKind prog w).hash x) (.str x c);have kp:=GZ t M ((strKind prog w).hash x) (.str x c);dsimp only;generalize layNew t M ((strKind prog w).hash x) (.str x c)=L at pm ft kp ⊢;obtain⟨d,t1,af,gv⟩:=L;dsimp only at pm ft kp ⊢;rw[Dx]at pm;have ab:ElemsOf (strKind prog w) d.toList:=(y.push hk H).perm pm;have G:d.size=(ks++[x]).length:=by rw[<-NB,pm.length_eq,NC,NB,NC,hn];rfl
  have b1:d.size<scanBound:=by rw[G,NC,E2];exact room
  have U:(ks++[x]).Nodup:=by
   rw[Iy];exact⟨Z,by simp,fun u hu v hv e=>f (by rw[NR.mp hv]at e;rw[<-e];exact hu)⟩
  have C:∀k,k∈ks++[x]↔∃e∈d.toList,(strKind prog w).is k e.2=true:=fun k=>by
   rw[N9,NR,i k];constructor
   ·rintro(⟨e,z,p⟩|rfl)
    ·exact⟨e,pm.mem_iff.mpr (Et _ z),p⟩
    ·exact⟨_,pm.mem_iff.mpr (NY _ (NR.mpr rfl)),hk⟩
   ·rintro⟨e,z,p⟩
    rcases N9.mp (pm.mem_iff.mp z)with q|q
    ·exact .inl ⟨e,q,p⟩
    ·rw[NR.mp q]at p;exact .inr ((strKind prog w).inj _ _ _ p hk)
  -- ai table is stored,and laid anew where it is ah full
  have fin:∀(g:SetTable),g.fits d.size=true->g.led=led->g.plain=false->wpAny (model prog w) A (do
    storeSet a d g
    if(!af&&g.tooFull)=true then do
      (match (relayAll g d (SetTable.grown d.size)).2.2 with|true=>rule "set.scan.the-table-gave-way"|false=>pure ())
      storeSet a (relayAll g d (SetTable.grown d.size)).1 (relayAll g d (SetTable.grown d.size)).2.1
      pure (some true)
     else pure (some true)) (fun r P=>∃v,r=some v/\∃h',Heap.SameBut a s.heap h'/\SetL prog w h' a (ks++[x]) led/\P={ s with heap:=h' }) E s:=by
   intro g f2 l2 p2;refine Nc (OH Y hd ?_ (OI b1));obtain⟨g1,g2,⟨ak,g3⟩,g4⟩:=stored (prog:=prog) (w:=w) Y hx hd ab b1 f2 (.inr p2) U G C;rw[l2]at g4;have sb:=EA s.heap a (Obj.putSet d g);split
   ·have l:=relayAll_perm g d (SetTable.grown d.size);have I:=relayAll_fits g d (SetTable.grown d.size);have n:=Ua g d (SetTable.grown d.size);generalize relayAll g d (SetTable.grown d.size)=R at l I n ⊢;obtain⟨aa,t3,aj⟩:=R;dsimp only at l I n ⊢;have O:aa.size=d.size:=by rw[<-NB,l.length_eq,NB]
    have b2:aa.size<scanBound:=by rw[O];exact b1
    refine Nc (quiet _ (Nc (OH g1 g3 (Nq ⟨true,rfl,_,sb.trans (EA _ a _),?_,rfl⟩) (OI b2))));obtain⟨_,_,_,g5⟩:=stored (prog:=prog) (w:=w) (ks:=ks++[x]) g1 g2 g3 (ab.perm l) b2 I (.inr (n.2 p2)) U (O.trans G) (fun k=>(C k).trans ⟨fun⟨e,z,q⟩=>⟨e,l.mem_iff.mpr z,q⟩,fun⟨e,z,q⟩=>⟨e,l.mem_iff.mp z,q⟩⟩);rw[n.1,l2]at g5;exact g5
   ·exact Nq ⟨true,rfl,_,sb,g4,rfl⟩
  have S:∀r P,(∃v,r=some v/\∃h',Heap.SameBut a s.heap h'/\SetL prog w h' a (ks++[x]) led/\P={ s with heap:=h' })->wpAny (model prog w) A (match r with|some N=>pure N|none=>setAddHashedIn a (.str x c) ((strKind prog w).hash x) 99999) Q E P:=by
   rintro r P ⟨v,rfl,h',q1,q2,rfl⟩
   exact Nq (h v h' q1 q2)
  refine Nc (quiet _ ?_);cases hp:t1.plain with
  |true=>
   rw[if_pos rfl,hashByValue_scannable 8 H];refine Nc (Nq ?_);exact NU (fin { t1 with plain:=false } (SetTable.fits_plain_off ft) (kp.1.trans m) rfl) S fun _ _ q=>q
  |false=>
   rw[if_neg (by simp)];refine Nc (Nq ?_);exact NU (fin t1 ft (kp.1.trans m) hp) S fun _ _ q=>q
end
noncomputable def uniq(l:List Str):List Str:=l.foldl (fun u x=>if x∈u then u else u++[x]) []
theorem uniq_snoc(l:List Str)(x:Str):uniq (l++[x])=if x∈uniq l then uniq l else uniq l++[x]:=by unfold uniq;rw[List.foldl_append];rfl
theorem QfQ:∀(n:Nat) (l:List Str),l.length=n->(uniq l).length<=n:=by
 intro n
 induction n with
 |zero=>intro l h;rw[N7.mp h];exact Nw _
 |succ n a=>
  intro l h;obtain⟨u,x,rfl⟩:∃u x,l=u++[x]:=⟨l.dropLast,l.getLast (fun z=>by rw[z]at h;cases h),(ER _).symm⟩
  rw[uniq_snoc];have:=a u (by simp at h;exact h);split
  ·exact Nh this (Nm _ _)
  ·rw[NC,E2];exact DB this _
theorem uniq_mem:∀(n:Nat) (l:List Str),l.length=n->∀y,y∈uniq l↔y∈l:=by
 intro n
 induction n with
 |zero=>intro l h y;rw[N7.mp h];exact Iff.rfl
 |succ n a=>
  intro l h y;obtain⟨u,x,rfl⟩:∃u x,l=u++[x]:=⟨l.dropLast,l.getLast (fun z=>by rw[z]at h;cases h),(ER _).symm⟩
  have q:=a u (by simp at h;exact h);rw[uniq_snoc,N9,NR];split
  ·rename_i b;rw[q y];exact⟨.inl,fun z=>z.elim id fun e=>by rw[e];exact(q x).mp b⟩
  ·rw[N9,NR,q y]
section
variable{prog:Program}{w:World}{A:Around}{R:Result->Shared->Prop}{I:Addr}{fp wr:List Addr}{G:Array GenState->Array GenState->Prop}{n:Nat}{P:Nat->Value->Prop}{St':Nat->Shared->Prop}
theorem QnU(W:WalksS prog w A.in1 I fp wr G n P St')(S:Addr)(f:S∉fp)(led:Bool)(l:List Str)(H:l.length=n)(E:∀i v,P i v->∃x c,l[i]?=some x/\v=.str x c)(Q:n+1<scanBound) :
  ∀(k i:Nat) (s:Shared),n-i=k->i<=n->St' i s->SetL prog w s.heap S (uniq (l.take i)) led ->
   (∀a,Moved (S::wr) G s a->SetL prog w a.heap S (uniq l) led->R (.ok (.ret .none)) a) ->
   codeAny (model prog w) A (.builtin "set.update.loop" ⟨[.ref S,.ref I],[]⟩) R s:=by
 have B:S∉wr:=fun z=>f (W.sub _ z);have sub:∀b∈wr,b∈S::wr:=fun b z=>Nu _ z;intro k
 induction k with
 |zero=>
  intro i s L M st hS t;obtain rfl:i=n:=by lia
  refine E6 IS ?_;rw[E7 FH _];show wpAny _ A.in1 (pyNext (.ref I)>>=_) _ _ s;refine Nc (W.done s _ _ st fun a d=>Nq (t a (d.mono sub) ?_));rw[Dh (Nt H)]at hS;exact hS.at fun o e=>d.heap S _ B e
 | succ k C=>
  intro i s L M st hS t;have lt:i<n:=by lia
  refine E6 IS ?_;rw[E7 FH _];show wpAny _ A.in1 (pyNext (.ref I)>>=_) _ _ s;refine Nc (W.item i s _ _ lt st fun v a N g d=>?_);obtain⟨x,c,D,rfl⟩:=E i v N;have r:SetL prog w a.heap S (uniq (l.take i)) led:=hS.at fun o e=>d.heap S _ B e;show wpAny _ A.in1 (holding [Value.str x c] (setAdd S (.str x c))>>=_) _ _ a;refine Nc (Ej ?_);unfold setAdd;refine Ej (Nc ((strKind prog w).pyHash (k:=x) (QgE x c) ?_))
  have room:(uniq (l.take i)).length+1<scanBound:=by
   have:=QfQ _ (l.take i) rfl;rw[Ey]at this;lia
  refine Qqc (s:={ a with toks:=a.toks+1 }) r room fun b O y p=>?_
  have m:SetL prog w O S (uniq (l.take (i+1))) led:=by
   rw[DX,D,Oj,uniq_snoc];exact p
  refine Nq ⟨Fg FH _,C (i+1) _ (by lia) lt (W.frame _ a _ _ g (Lm _) fun b z o e=>?_) m fun h j q=>?_⟩
  ·exact(y.2 b (fun u:b=S=>f (by rw[<-u];exact z))).trans e
  ·refine t h (Moved.trans W.gtrans ((d.mono sub).then_heap (Lm _) fun b o z e=>?_) j) q;exact(y.2 b (fun u:b=S=>z (by rw[u];exact Ny))).trans e
end
section
variable{prog:Program}{w:World}{A:Around}{E:Value->Shared->Prop}{s:Shared}
noncomputable abbrev Yi(w:World):Bool:=!(w.params.followText "set-order")
noncomputable abbrev QS(b:Bool):Obj:={ cls:=.type "set",dict:=none,data:=.set #[] 0 (.fresh 0 0 b) }
theorem QqN(a:Value)(h:Q₁ (.ref s.heap.objs.size) { s with heap:=s.heap.push (QS (Yi w)) }) :
  codeAny (model prog w) A (.call (.builtin "set.__new__") ⟨[.type "set",a],[]⟩) (wants Q₁ E) s:=by
 refine codeAny_of_tree (show wpAny _ A.in1 (do checkBuiltinCall "set.__new__" ⟨[.type "set",a],[]⟩;again (.builtin "set.__new__" ⟨[.type "set",a],[]⟩)) _ _ s from ?_);refine Nc (wpAny_of_eq (F.newCall_set_1 a) (Nq ⟨Fg F.plain_set_new _,E6 (F.entry_set_new) ?_⟩));rw[E7 F.plain_set_new _];unfold Builtin.«set.__new__» Builtin.Frozenset.newClass;have b:=sub_set_self;obtain⟨c,g,d,tk,os⟩:=s;dsimp only
 wp_walk
 refine DG (Nq ?_);dsimp only;simp only[newObj];exact Nc (wpAny_alloc (Nq (Nq h)))
theorem Qcd(e:h.get? a=some (QS b)):SetL prog w h a [] b:=
 ⟨_,#[],0,_,e,⟨rfl,rfl,rfl⟩,rfl,fun x c=>by simp at c,by decide,rfl,rfl,.inl rfl,EI,rfl,fun k=>by simp⟩
theorem Qnj{Q:Value->Shared->Prop}(O:A.handled=none)(N:s.heap.IsList l items)(hi:StrsAre items.toList ss)(P:items.size+1<scanBound)
  (h:∀(h':Heap) (tk:Nat),SetL prog w h' s.heap.objs.size (uniq ss) (Yi w)->(∀b o,b<s.heap.objs.size->s.heap.get? b=some o->h'.get? b=some o)->Q (.ref s.heap.objs.size) { s with heap:=h',toks:=tk }) :
  wpAny (model prog w) A (Builtin.«set.__init__» ⟨[.ref s.heap.objs.size,.ref l],[]⟩) (fun fin u=>fin=.done (.ret .none)/\Q (.ref s.heap.objs.size) u) E { s with heap:=s.heap.push (QS (Yi w)) }:=by
 have hS:(s.heap.push (QS (Yi w))).get? s.heap.objs.size=some (QS (Yi w)):=NK _ rfl;have hT:Shared.TypeIs { s with heap:=s.heap.push (QS (Yi w)) } (.ref s.heap.objs.size) "set":=⟨_,hS,rfl⟩
 obtain⟨ol,j,q,nl,p⟩:=N;obtain⟨H,f,z,a⟩:=ol;simp only at q p;subst q p;have g:(s.heap.push (QS (Yi w))).get? l=some { cls:=.type "list",dict:=f,data:=.seq items nl,slots:=a }:=Np _ j;have n:(s.heap.push (QS (Yi w))).IsList l items:=⟨_,g,rfl,nl,rfl⟩
 have n1:=F.sub_list_set;have n2:=F.sub_list_frozenset;have n3:(Value.type "list"==Value.type "dict")=false:=by decide
 unfold Builtin.«set.__init__» noKeywords Builtin.Frozenset.updateFrom;generalize G:pyIter=PI
 wp_walk
 subst G;refine Iv n (Nc (wpAny_runValue ?_));have m:l<s.heap.objs.size:=ND j;have d:(s.heap.push (QS (Yi w))).objs.size=s.heap.objs.size+1:=FE _ _;have B:l≠(s.heap.push (QS (Yi w))).objs.size:=by rw[d];exact NM (Er m)
 have L:s.heap.objs.size∉[(s.heap.push (QS (Yi w))).objs.size,l]:=by
  rw[d];simp only[NH,EN,or_false,not_or];exact⟨NM (N1 _),DF m⟩
 have C:ss.length=items.size:=by have:=Lx hi;rw[NB]at this;exact this.symm
 have M:∀(i:Nat) (v:Value),items[i]?=some v->∃x c,ss[i]?=some x/\v=.str x c:=fun i v e=>by
  have I:items.toList[i]?=some v:=by rw[N0];exact e
  obtain⟨x,c,rfl⟩:=hi.all v (NI.mpr ⟨i,I⟩);refine⟨x,c,?_,rfl⟩;rw[<-hi.strs,Nz,I];rfl
 refine QnU ((Walks.list (show A.in1.handled=none by simp[O]) _ l B items).toS) s.heap.objs.size L (Yi w) ss C M P (items.size-0) 0 _ rfl (NJ _) ⟨⟨_,NK _ rfl,rfl,rfl⟩,n.push _⟩ (Qcd (Np _ hS)) fun u r D=>?_;obtain⟨h',S,d',t,y⟩:=u;have Y:S=s.gens:=r.gens;have Z:d'=s.drawn:=r.drawn;have U:y=s.os:=r.os;subst Y Z U;refine Nq (Nq ⟨rfl,h h' t D fun b o lt e=>?_⟩);refine r.heap b o ?_ (Np _ (Np _ e));simp only[NH,EN,or_false,not_or];exact⟨NM lt,by rw[d];exact NM (Er lt)⟩
theorem set_list(u:A.handled=none)(t:s.heap.IsList l items)(hi:StrsAre items.toList ss)(v:items.size+1<scanBound)
  (h:∀(h':Heap) (tk:Nat),SetL prog w h' s.heap.objs.size (uniq ss) (Yi w)->(∀b o,b<s.heap.objs.size->s.heap.get? b=some o->h'.get? b=some o)->Q (.ref s.heap.objs.size) { s with heap:=h',toks:=tk }) :
  wpAny (model prog w) A (call (.type "set") [.ref l]) Q E s:=by
 have body:∀(j:Around),j.handled=none->wpAny (model prog w) j (Builtin.«set.__init__» ⟨[.ref s.heap.objs.size,.ref l],[]⟩) (fun fin m=>fin=.done (.ret .none)/\Q (.ref s.heap.objs.size) m) E { s with heap:=s.heap.push (QS (Yi w)) }:=by
  intro j x;exact Qnj x t hi v h
 obtain⟨c,y,n⟩:=DH.mro;have I:=DH.made;have H:=DH.sub;refine wpAny_call (codeAny_of_tree (show wpAny _ _ (callAny (.type "set") _) _ _ _ from ?_));refine Nq ⟨Ol _ (by decide +kernel),E6 (F.entry_type_call) ?_⟩;rw[Around.under_plain (weight_type_call_type "set" [Value.ref l] []) rfl];have G:=DH.notType;have D:=DH.canCreate;have C:=F.typeCall_set_1 (Value.ref l)
 repeat (any_goals (first|assumption|wp_step))
 refine Fv (QqN (Value.ref l) (E:=E) (Q₁:=fun obj f=>obj=.ref s.heap.objs.size/\f={ s with heap:=s.heap.push (QS (Yi w)) }) ⟨rfl,rfl⟩) fun r f hr=>?_;cases r with
 |error e=>exact hr
 | ok fl=>
  cases fl with
  | ret obj=>
   obtain⟨rfl,rfl⟩:=hr;have hS:(s.heap.push (QS (Yi w))).get? s.heap.objs.size=some (QS (Yi w)):=NK _ rfl;have hT:Shared.TypeIs { s with heap:=s.heap.push (QS (Yi w)) } (.ref s.heap.objs.size) "set":=⟨_,hS,rfl⟩
   have B:=DH.init.lookup;have z:=DH.init.bind (.ref s.heap.objs.size)
   repeat (any_goals (first|assumption|wp_step))
   refine Fv (codeAny_call_builtin (R:=wants (fun r d=>r=.none/\Q (.ref s.heap.objs.size) d) E) DH.init.plain F.entry_set_init (check_set_init_1 hT (NU (body _ (by simp[u])) (fun fin m q=>?_) fun _ _ q=>q))) fun i d a=>?_
   ·obtain⟨rfl,q⟩:=q;exact⟨rfl,q⟩
   ·cases i with
    |error e=>exact a
    | ok g=>
     cases g with
     |ret r=>
      obtain⟨rfl,q⟩:=a
      repeat (any_goals (first|assumption|wp_step))
     |_=>exact a.elim
  |_=>exact hr.elim
end
theorem slotN:Slot "set_iterator" "__next__" "set_iterator.__next__":=.of (owner:="set_iterator") (n:="__next__") (by rw[Lb,FQ];kernel_rfl) (by decide +kernel) (by decide +kernel) (by decide +kernel) (by first|exact .inl (by decide +kernel)|exact .inr (by decide +kernel)) (by rw[Ly];kernel_rfl)
theorem QgW:entryFor table "set_iterator.__next__"=some Builtin.«set_iterator.__next__»:=entryFor_of_tree (by kernel_rfl)
theorem QlI(a:Value):argsOk "set_iterator.__next__" ⟨[a],[]⟩:=by unfold argsOk;kernel_rfl
theorem QkK:entryFor table "set.__iter__"=some Builtin.«frozenset.__iter__»:=entryFor_alias (id':="frozenset.__iter__") (by kernel_rfl) rfl (by decide +kernel) (by kernel_rfl)
theorem Wl(lt:j<l.length):List.Perm (l[j]::l.eraseIdx j) l:=by
 rw[List.eraseIdx_eq_take_drop_succ];have e:l=l.take j++l[j]::l.drop (j+1):=by rw[<-Ea lt,EB]
 conv=>rhs;rw[e]
 exact List.perm_middle.symm
theorem QdC(nx:Nat->Nat):∀(f k:Nat) (l:List a) (o:Array a),f=l.length->List.Perm (pickOrder.go nx f k l o).toList (o.toList++l)
 |0,k,l,o,h=>by
  rw[N7.mp h.symm,EE];exact .rfl
 |f+1,k,l,o,h=>by
  unfold pickOrder.go;have lt:nx k%l.length<l.length:=Nat.mod_lt _ (Nd (D5 _) (Nt h));generalize nx k%l.length=j at lt;rw[Nl lt];refine(QdC nx f (k+1) (l.eraseIdx j) (o.push l[j]) (by rw[Im lt];lia)).trans ?_;rw[Dx,N6,List.singleton_append];exact Dp _ (Wl lt)
theorem QdW(nx:Nat->Nat)(xs:Array a):List.Perm (pickOrder nx xs).toList xs.toList:=by
 have:=QdC nx xs.size 0 xs.toList #[] (by simp);simpa[pickOrder]using this
section
variable{prog:Program}{w:World}{A:Around}{E:Value->Shared->Prop}{s:Shared}
theorem QkA(a:n≠0)(h:∀j d,j<n->Q j { s with drawn:=d }):wpAny M A (choose src n) Q E s:=fun b p _=>by
 show Sem.wp M b (.choose src n fun i=>pure i) _ _ p s;rw[Sem.wp_choose];exact⟨a,h _ _ (Nat.mod_lt _ (Nat.pos_of_ne_zero a))⟩
theorem Gj:∀(n:Nat) (xs:List c) (s:Shared) (Q:List c->Shared->Prop),n=xs.length->(∀b d,List.Perm b xs->Q b { s with drawn:=d })->wpAny (model prog w) A (drawOrder n xs) Q E s
 |0,xs,s,Q,a,h=>by
  have e:=N7.mp a.symm;subst e;exact Nq (h [] s.drawn .rfl)
 |n+1,[],s,Q,a,h=>by cases a
 |n+1,x::xs,s,Q,a,h=>by
  unfold drawOrder;refine Nc (QkA (by simp) fun j f lt=>?_);rw[Nl lt];refine Nc (Gj n _ _ _ (by rw[Im lt];simp at a ⊢;exact a) fun b d p=>Nq (h _ d ?_));exact(p.cons _).trans (Wl lt)
end
end St
namespace Sb
open PySem SetTable
noncomputable abbrev At(xs:Array Nat)(i:Nat):Nat:=xs.getD i 0
def Up(xs:Array Nat):Prop:=∀i j,i<j->j<xs.size->At xs i<At xs j
theorem Ux(up:Up xs):∀(f lo hi:Nat),hi-lo<=f->lo<=hi->hi<=xs.size->(∀i,i<lo->At xs i<j)->(∀i,hi<=i->i<xs.size->j<=At xs i) ->
  below.go xs j f lo hi<=xs.size/\(∀i,i<below.go xs j f lo hi->At xs i<j)/\∀i,below.go xs j f lo hi<=i->i<xs.size->j<=At xs i
 |0,lo,hi,q,h2,l,h,g=>by
  have:lo=hi:=by lia
  subst this;exact⟨l,h,g⟩
 | f+1,lo,hi,q,h2,l,h,g=>by
  unfold below.go
  by_cases c:lo<hi
  ·rw[if_pos c];have o:(lo+hi)/2<xs.size:=by lia
   have e:xs.getD ((lo+hi)/2) j=At xs ((lo+hi)/2):=by simp[Array.getD,o]
   have rel:∀a b,a<=b->b<xs.size->At xs a<=At xs b:=fun a b n m=>by
    rcases IJ a b with z|z
    ·exact Nn (up a b z m)
    ·rw[show a=b by exact Eh n z];exact Nw _
   dsimp only;rw[e]
   by_cases d:At xs ((lo+hi)/2)<j
   ·rw[if_pos d];exact Ux up f _ hi (by omega) (by lia) l (fun i p=>Nf (rel i _ (by lia) o) d) g
   ·rw[if_neg d];exact Ux up f lo _ (by omega) (by lia) (Nn o) h (fun i n m=>Nh (NN.mp d) (rel _ i n m))
  ·rw[if_neg c];have:lo=hi:=by exact Eh h2 (NN.mp c)
   subst this;exact⟨l,h,g⟩
theorem Qbd(up:Up xs)(j:Nat):below xs j<=xs.size/\(∀i,i<below xs j->At xs i<j)/\∀i,below xs j<=i->i<xs.size->j<=At xs i:=
 Ux up xs.size 0 xs.size (NZ _ _) (NJ _) (Nw _) (fun i h=>absurd h (FY _)) (fun i b a=>by omega)
theorem below_next(up:Up xs)(hi:i<xs.size):below xs (At xs i+1)=i+1:=by
 obtain⟨c,b,a⟩:=Qbd up (At xs i+1)
 rcases Iz (below xs (At xs i+1)) (i+1)with z|z|z
 ·have:=a i (by omega) hi;lia
 ·exact z
 ·have:=b (i+1) z;have:=up i (i+1) (N1 _) (Nd z c);omega
theorem below_zero(up:Up xs):below xs 0=0:=by
 obtain⟨c,a,b⟩:=Qbd up 0
 rcases Nat.eq_zero_or_pos (below xs 0)with z|z
 ·exact z
 ·exact absurd (a 0 z) (FY _)
theorem at_get(hi:i<xs.size):xs[i]?=some (At xs i):=by simp[Array.getD,hi]
noncomputable def adv(m:Nat)(p:Probe):Probe:=
 if p.more>0 then { p with j:=p.j+1,more:=p.more-1 }else
 let(i,perturb):=leap m p.i p.perturb
 { p with j:=i,more:=runEnd m i-i,i,perturb }
noncomputable def sq(m:Nat)(h:Int):Nat->Probe
 |0=>{ j:=bits h%(m+1),more:=runEnd m (bits h%(m+1))-bits h%(m+1),i:=bits h%(m+1),perturb:=bits h,dummy:=none }
 |n+1=>adv m (sq m h n)
noncomputable abbrev sj(m:Nat)(h:Int)(n:Nat):Nat:=(sq m h n).j
noncomputable def bk(m:Nat)(h:Int):Nat->Nat×Nat
 |0=>(bits h%(m+1),bits h)
 |k+1=>leap m (bk m h k).1 (bk m h k).2
noncomputable def ps(m:Nat)(h:Int):Nat->Nat
 |0=>0
 |k+1=>ps m h k+(runEnd m (bk m h k).1-(bk m h k).1)+1
noncomputable def lcg(m:Nat):Nat->Nat->Nat
 |0,i=>i
 |r+1,i=>(lcg m r i*5+1)%(m+1)
noncomputable def orb(m:Nat):Nat->Nat->List Nat
 |0,_=>[]
 |r+1,i=>i::orb m r ((i*5+1)%(m+1))
def Qe5(m:Nat):Prop:=(List.range (m+1)).all (fun x=>(orb m (m+1) 0).contains x)=true/\lcg m (m+1) 0=0
theorem Qnx:Qe5 7:=by unfold Qe5;decide +kernel
theorem QjS:Qe5 31:=by unfold Qe5;decide +kernel
theorem QhG:Qe5 127:=by unfold Qe5;decide +kernel
theorem Qiq:Qe5 511:=by unfold Qe5;decide +kernel
end Sb
namespace St
theorem Qg7:Slot "set_iterator" "__iter__" "set_iterator.__iter__":=.of (owner:="set_iterator") (n:="__iter__") (by rw[Lb,FQ];kernel_rfl) (by decide +kernel) (by decide +kernel) (by decide +kernel) (by first|exact .inl (by decide +kernel)|exact .inr (by decide +kernel)) (by rw[Ly];kernel_rfl)
theorem Qh5:entryFor table "set_iterator.__iter__"=some Builtin.«dict_keyiterator.__iter__»:=entryFor_alias (id':="dict_keyiterator.__iter__") (by kernel_rfl) rfl (by decide +kernel) (by kernel_rfl)
theorem QjQ(a:Value):argsOk "set_iterator.__iter__" ⟨[a],[]⟩:=by unfold argsOk;kernel_rfl
section
variable{prog:Program}{w:World}{A:Around}{E:Value->Shared->Prop}{s:Shared}
noncomputable abbrev Qfr(f:Value)(i:Nat)(S:Addr)(n ep:Nat):Obj:={ cls:=.type "set_iterator",data:=.fields #[f,.int i 0,.ref S,.int n 0,.int ep 0] }
inductive How(w:World)(S T:Addr)(h:Heap)(es:Array (Int×Value))(ep:Nat)(t:SetTable)(vs:List Value):Nat->Value->Prop where
 |tup {i:Nat} {ps:List Nat} (hT:h.get? T=some { cls:=.type "tuple",data:=.seq (ps.map fun(p:Nat)=>rawInt p).toArray 0 }) (hl:ps.length=vs.length) (hp:∀(j p:Nat),ps[j]?=some p->∃e,es[p]?=some e/\vs[j]?=some e.2):How w S T h es ep t vs i (.ref T)
 |text {i:Nat} (c:Nat) (hb:w.params.followText "set-order"=true) (hv:vs=(pickOrder (w.params.setOrder S ep) es).toList.map (·.2)):How w S T h es ep t vs i (.int c 0)
 |slots {i:Nat} (c:Nat) (hb:w.params.followText "set-order"=false) (hled:t.led=true) (hs:t.plain=true\/es.size<=1) (hv:vs=es.toList.map (·.2)) (hc:SetTable.below t.place c=i):How w S T h es ep t vs i (.int c 0)
def ItT(w:World)(I S T:Addr)(vs:List Value)(i:Nat)(h:Heap):Prop:=
 ∃f o a b t,h.get? I=some (Qfr f i S vs.length b)/\h.get? S=some o/\o.data=.set a b t/\t.fits a.size=true/\(t.plain=true\/a.size<=1->Sb.Up t.place)/\a.size=vs.length/\How w S T h a b t vs i f
theorem QaQ{t:SetTable}(a:t.fits n=true):t.place.size=n:=by
 simp only[SetTable.fits,NS,beq_iff_eq]at a;exact a.1
theorem How.keep(x:How w S T h m ep t vs i f)(k:∀o,h.get? T=some o->h'.get? T=some o):How w S T h' m ep t vs i f:=by
 cases x with
 |tup hT j g=>exact .tup (k _ hT) j g
 |text c d b=>exact .text c d b
 |slots c d a e b l=>exact .slots c d a e b l
theorem Qh6(k:Nat):rawInt (k:Int)=Value.int k 0:=rfl
theorem Qq3:(#[f,a,b,c,d]:Array Value).setIfInBounds 0 x=#[x,a,b,c,d]:=by rfl
theorem Qp6:(#[f,a,b,c,d]:Array Value).setIfInBounds 1 x=#[f,x,b,c,d]:=by rfl
theorem Qby{h:Heap}(e:h.get? I=some (Qfr f i S n ep))(k:Nat)(x:Value):(h.update I (Obj.mapFields (·.setIfInBounds k x))).get? I=some { cls:=.type "set_iterator",data:=.fields ((#[f,.int i 0,.ref S,.int n 0,.int ep 0]:Array Value).setIfInBounds k x) }:=EK _ e rfl
theorem Qp4{h:Heap}(e:h.get? I=some (Qfr f i S n ep)):((h.update I (Obj.mapFields (·.setIfInBounds 0 x))).update I (Obj.mapFields (·.setIfInBounds 1 y))).get? I=some { cls:=.type "set_iterator",data:=.fields #[x,y,.ref S,.int n 0,.int ep 0] }:=by
 have g1:=Qby e 0 x;rw[Qq3]at g1;exact EK (Obj.mapFields (·.setIfInBounds 1 y)) g1 rfl
theorem Ky(g:s.heap.get? S=some o)(f:o.data=.set d ep t)(b:t.fits d.size=true)(a:w.params.followText "set-order"=true)
  (h:Q (((pickOrder (w.params.setOrder S ep) d)[i]?).map fun e=>(e.2,c)) s):wpAny (model prog w) A (setNext S c i ep) Q E s:=by
 unfold setNext;refine Nc (Dw g f b ?_);dsimp only;unfold setsByText;refine Nc (Nc (DG (Nq ?_)));show wpAny _ _ (if(w.params.followText "set-order")=true then _ else _) _ _ _;rw[if_pos a];rw[if_neg (by simp)];refine Nc ?_;unfold setWalk;refine Nc (Dw g f b ?_);dsimp only;unfold setsByText;refine Nc (Nc (DG (Nq ?_)));show wpAny _ _ (if(w.params.followText "set-order")=true then _ else _) _ _ _;rw[if_pos a];refine Nc (DG (Nq ?_));exact Nq h
theorem Uq(f:s.heap.get? S=some o)(d:o.data=.set a ep t)(c:t.fits a.size=true)(b:a[p]?=some e)(h:Q e.2 s):wpAny (model prog w) A (setNextDrawn S p ep) Q E s:=by
 unfold setNextDrawn;refine Nc (Dw f d c ?_);dsimp only;rw[if_neg (by simp),b];exact Nq h
theorem X0(l:s.heap.get? S=some o)(g:o.data=.set a ep t)(f:t.fits a.size=true)(e:w.params.followText "set-order"=false)(b:t.led=true)(d:t.plain=true\/a.size<=1)
  (h:Q (match a[SetTable.below t.place c]?,t.place[SetTable.below t.place c]? with|some (_,x),some j=>some (x,j+1)|_,_=>none) s):wpAny (model prog w) A (setNext S c i ep) Q E s:=by
 unfold setNext;refine Nc (Dw l g f ?_);dsimp only;unfold setsByText;refine Nc (Nc (DG (Nq ?_)));show wpAny _ _ (if(w.params.followText "set-order")=true then _ else _) _ _ _;rw[if_neg (by rw[e];simp)];show wpAny _ _ (if(!t.plain&&decide (a.size>1))=true then _ else _) _ _ _
 rw[if_neg (by
  rcases d with z|z
  ·rw[z];simp
  ·have:¬a.size>1:=by exact NN.mpr z
   simp[this])]
 show wpAny _ _ ((if(!t.led&&!a.isEmpty)=true then unsupported "set:maker-not-led"else pure ())>>=_) _ _ _;rw[if_neg (by rw[b];simp)];exact Nc (Nq (Nq h))
theorem Qdd{i:Nat}(G:S≠I)(D:T≠I)(st:ItT w I S T vs i s.heap)(hi:i<vs.length)
  (Z:∀v h',vs[i]?=some v->ItT w I S T vs (i+1) h'->Heap.SameBut I s.heap h'->Q (some v) { s with heap:=h' }):wpAny (model prog w) A (pyNext (.ref I)) Q E s:=by
 obtain⟨f,o,m,H,t,l,r,n,j,up,d,hw⟩:=st;have hT:s.TypeIs (.ref I) "set_iterator":=⟨_,l,rfl⟩
 unfold pyNext;refine Nc (LV (DN (name:=Str.ofString "__next__") hT slotN (EM slotN hT QgW ?_ (QlI _))));unfold Builtin.«set_iterator.__next__»;refine Nc (Nq (Nc (wpAny_fieldsOf l rfl ?_)));dsimp only;refine Nc (F5 r n j ?_);rw[if_neg (by simp[d])];have two:∀(x y:Value),Heap.SameBut I s.heap ((s.heap.update I (Obj.mapFields (·.setIfInBounds 0 x))).update I (Obj.mapFields (·.setIfInBounds 1 y))):=fun x y=>(EA ..).trans (EA ..)
 have P:∀(x:Value) (nx:Nat),vs[i]?=some x->How w S T s.heap m H t vs (i+1) (.int nx 0)->wpAny (model prog w) A.in1 (do
   setField (Value.ref I) 0 (rawInt (nx:Int))
   setField (Value.ref I) 1 (rawInt ((i:Int)+1))
   ret x) (fun fin L=>∃v,fin=Fin.done (Flow.ret v)/\wpAny (model prog w) A (pure (some v)) Q E L) (fun e L=>wpAny (model prog w) A (do if(<-isInstance e (Value.type "StopIteration"))=true then pure none else throw e) Q E L) s:=by
  intro x nx hx M;refine Nc (D6 l rfl (by simp) (Nc (D6 (Qby l 0 _) rfl (by simp) (Nq ⟨x,rfl,Nq (Z x _ hx ?_ (two _ _))⟩))));refine⟨.int nx 0,o,m,H,t,Qp4 l,?_,n,j,up,d,M.keep fun o' e=>?_⟩
  ·rw[(two _ _).2 S G];exact r
  ·rw[(two _ _).2 T D];exact e
 cases hw with
 |@tup ps C Y U=>
  simp only[Dd];refine Nc (Ls C rfl ?_);dsimp only;have h:ps[i]?=some ps[i]:=Nl (Nd hi (Nt Y.symm));generalize ps[i]=q at h;obtain⟨e,he,u⟩:=U i q h;have:((ps.map fun(p:Nat)=>rawInt p).toArray)[i]?=some (Value.int (q:Int) 0):=by simp[h,Qh6]
  rw[this];dsimp only;refine Nc (Uq r n j (p:=q) he (Nc (D6 l rfl (by simp) (Nq ⟨e.2,rfl,Nq (Z e.2 _ u ?_ (EA ..))⟩))));have O:Heap.SameBut I s.heap (s.heap.update I (Obj.mapFields (·.setIfInBounds 1 (rawInt ((i:Int)+1))))):=EA ..;refine⟨.ref T,o,m,H,t,?_,by rw[O.2 S G];exact r,n,j,up,d,How.keep (.tup C Y U) fun o' e=>by rw[O.2 T D];exact e⟩;have g:=Qby l 1 (rawInt ((i:Int)+1));rw[Qp6]at g;exact g
 |text c B u=>
  simp only[Dd];refine Nc (Ky r n j (i:=i) (c:=c) B ?_);subst u;have a:i<(pickOrder (w.params.setOrder S H) m).size:=by simpa using hi
  rw[N3 a];exact P _ c (by rw[Nz,N0,N3 a];rfl) (.text c B rfl)
 |slots c B b N u hc=>
  simp only[Dd];refine Nc (X0 r n j (i:=i) (c:=c) B b N ?_);subst u;have a:i<m.size:=by simpa using hi
  have z:i<t.place.size:=by rw[QaQ j];exact a
  rw[hc,N3 a,Sb.at_get z];exact P m[i].2 (Sb.At t.place i+1) (by rw[Nz,N0,N3 a];rfl) (.slots _ B b N rfl (Sb.below_next (up N) z))
theorem Qbe(d:B.handled=none)(f:∀h',(∀b o,s.heap.get? b=some o->h'.get? b=some o)->Q none { s with heap:=h' }) :
  wpAny (model prog w) B (newExc (.type "StopIteration") []>>=raiseNew) (fun(fin:Fin) c=>∃v,fin=Fin.done (Flow.ret v)/\wpAny (model prog w) A (pure (some v)) Q E c) (fun e c=>wpAny (model prog w) A (do if(<-isInstance e (Value.type "StopIteration"))=true then pure none else throw e) Q E c) s:=by
 refine Nc ?_;simp only[newExc,newTuple];refine Nc (EJ ?_ (by size_fits));refine Nc (m:=firstArgMember _ _) (wpAny_of_eq (a:=Value.none) (by first|rfl|(simp only[firstArgMember];rfl)) (EJ ?_ (by size_fits)));simp only[raiseNew];refine Nc (wpAny_handled ?_);rw[d];refine Nc (Nq (wpAny_throw ?_));refine Nc (ID (T:="StopIteration") (b:=true) ⟨_,NK _ rfl,rfl⟩ isSubtype_stop ?_);refine Nq (f _ ?_);exact fun b o e=>Np _ (Np _ e)
theorem W7(D:A.handled=none)(L:S≠I)(H:T≠I)(st:ItT w I S T vs vs.length s.heap)
  (x:∀h',Heap.ExtBut I s.heap h'->Q none { s with heap:=h' }):wpAny (model prog w) A (pyNext (.ref I)) Q E s:=by
 obtain⟨f,o,z,M,t,h,r,q,n,up,d,hw⟩:=st;have hT:s.TypeIs (.ref I) "set_iterator":=⟨_,h,rfl⟩
 unfold pyNext;refine Nc (LV (DN (name:=Str.ofString "__next__") hT slotN (EM slotN hT QgW ?_ (QlI _))));unfold Builtin.«set_iterator.__next__»;refine Nc (Nq (Nc (wpAny_fieldsOf h rfl ?_)));dsimp only;refine Nc (F5 r q n ?_);rw[if_neg (by simp[d])];have y:A.in1.handled=none:=D
 have one:wpAny (model prog w) A.in1 (do
   setField (Value.ref I) 2 Value.none
   raiseNew (<-newExc (Value.type "StopIteration") [])) (fun(fin:Fin) j=>∃v,fin=Fin.done (Flow.ret v)/\wpAny (model prog w) A (pure (some v)) Q E j) (fun e j=>wpAny (model prog w) A (do if(<-isInstance e (Value.type "StopIteration"))=true then pure none else throw e) Q E j) s:=by
  refine Nc (D6 h rfl (by simp) (Qbe y fun h' k=>x h' fun b l a e=>k b l ?_));rw[(EA ..).2 b a];exact e
 cases hw with
 |@tup ps m C N=>
  simp only[Dd];refine Nc (Ls m rfl ?_);dsimp only;rw[show((ps.map fun(p:Nat)=>rawInt p).toArray)[vs.length]?=none by simp[C]];refine Nc (D6 h rfl (by simp) (Nc (D6 (Qby h 0 _) rfl (by simp) (Qbe y fun h' k=>x h' fun b l a e=>k b l ?_))));rw[((EA s.heap I _).trans (EA ..)).2 b a];exact e
 |text c a u=>
  simp only[Dd];refine Nc (Ky r q n (i:=vs.length) (c:=c) a ?_);rw[show(pickOrder (w.params.setOrder S M) z)[vs.length]?=none by rw[u];simp];exact one
 |slots c a g B u G=>
  simp only[Dd];refine Nc (X0 r q n (i:=vs.length) (c:=c) a g B ?_);rw[G,show z[vs.length]?=none from Lo (Nt d)];exact one
theorem Qmx(st:ItT w I S T vs i s.heap)(h:Q (.ref I) s):wpAny (model prog w) A (pyIter (.ref I)) Q E s:=by
 obtain⟨f,o,b,c,t,a,_⟩:=st;have hT:s.TypeIs (.ref I) "set_iterator":=⟨_,a,rfl⟩
 refine OJ hT Qg7 (EM Qg7 hT Qh5 ?_ (QjQ _));exact Nq ⟨_,rfl,"set_iterator",_,hT,slotN.lookup,h⟩
theorem QlZ(u:A.handled=none)(I S T:Addr)(d:S≠I)(c:T≠I)(vs:List Value) :
  Walks prog w A I [I,S,T] [I] vs.length (fun i v=>vs[i]?=some v) (fun i h=>ItT w I S T vs i h) where
 sub:=fun b a=>by simp at a;simp[a]
 frame:=fun i h g z k=>by
  obtain⟨f,o,B,C,t,H,G,D,y,up,l,hw⟩:=z;exact⟨f,o,B,C,t,k I (by simp) _ H,k S (by simp) _ G,D,y,up,l,hw.keep fun o e=>k T (by simp) o e⟩
 item:=fun i s Q E r st m=>Qdd d c st r fun v g p j n=>m v g s.toks p j fun b o a e=>by rw[n.2 b (fun z=>a (by simp[z]))];exact e
 done:=fun s Q E st m=>W7 u d c st fun g x=>m g s.toks fun b o a e=>x b o (fun z=>a (by simp[z])) e
 self:=fun i s Q E st q=>Qmx st q
noncomputable abbrev atP(a:Array (Int×Value))(i:Nat):Value:=(a.getD i (0,.none)).2
theorem QbM{ps:List Nat}(p:ps.Perm (List.range a.size)):(ps.map (atP a)).Perm (a.toList.map (·.2))/\∀(j q:Nat),ps[j]?=some q->∃e,a[q]?=some e/\(ps.map (atP a))[j]?=some e.2:=by
 constructor
 ·refine(p.map _).trans ?_
  have:(List.range a.size).map (atP a)=a.toList.map (·.2):=by
   apply Iq;intro j;rw[Nz,Nz]
   by_cases lt:j<a.size
   ·simp[atP,Array.getD,lt]
   ·rw[Eg (by simpa using lt),Eg (by simpa using lt)];rfl
  rw[this]
 ·intro j q b;have lt:q<a.size:=DZ.mp (p.mem_iff.mp (NI.mpr ⟨j,b⟩));refine⟨a[q],N3 lt,?_⟩;rw[Nz,b];simp[atP,Array.getD,lt]
theorem QnZ{a:Array (Int×Value)}(g:s.heap.get? S=some o)(N:o.ExactSet)(x:o.data=.set a ep t)(u:t.fits a.size=true)(up:t.plain=true\/a.size<=1->Sb.Up t.place)(y:t.led=Yi w)(hz:a.size<=sizeLine)
  (h:∀h' d I T (vs:List Value),(∀b o,s.heap.get? b=some o->h'.get? b=some o)->s.heap.objs.size<=I->(T=S\/s.heap.objs.size<=T)->S≠I->T≠I->vs.Perm (a.toList.map (·.2))->vs.length=a.size->ItT w I S T vs 0 h'->Q (.ref I) { s with heap:=h',drawn:=d }) :
  wpAny (model prog w) A (pyIter (.ref S)) Q E s:=by
 have hT:s.TypeIs (.ref S) "set":=⟨o,g,N.1⟩
 have m:=ND g;refine OJ hT F.slot_set_iter (EM F.slot_set_iter hT QkK ?_ (F.args_set_iter_1 _));unfold Builtin.«frozenset.__iter__» Builtin.Frozenset.slot0;refine Nc (Nc (Nq (Nq ?_)));unfold Builtin.Frozenset.sizeOf;refine Nc (Nc (F5 g x u (Nq ?_)));refine Nc (Nc (Dw g x u ?_));dsimp only;unfold setsByText;refine Nc (Nc (DG (Nq (Nq ?_))));show wpAny _ _ (if(!(w.params.followText "set-order")&&(!t.plain&&decide (a.size>1)))=true then _ else _) _ _ _
 have made:∀(c:Int) (vs:List Value),c=0->vs.Perm (a.toList.map (·.2))->How w S S (s.heap.push (Qfr (.int (0:Nat) 0) 0 S a.size ep)) a ep t vs 0 (.int (0:Nat) 0)->wpAny (model prog w) A.in1 (do
   let first <-pure (rawInt c)
   ret (<-newFields "set_iterator" [first,rawInt 0,Value.ref S,rawInt (a.size:Int),rawInt ((<-setEpoch S):Int)])) (fun fin D=>∃v,fin=Fin.done (Flow.ret v)/\∃G r,D.TypeIs v G/\typeLookup (Value.type G) (Str.ofString "__next__")=pure (some r)/\Q v D) E s:=by
  intro c vs P p hw;subst P;refine Nc (Nq (Nc (OL g x u (Nc (EJ (Nq ⟨_,rfl,"set_iterator",_,⟨_,NK _ rfl,rfl⟩,slotN.lookup,?_⟩))))));have f:a.size=vs.length:=by rw[p.length_eq,NG,NB]
  refine h _ s.drawn s.heap.objs.size S vs (fun b M e=>Np _ e) (Nw _) (.inl rfl) (NM m) (NM m) p f.symm ?_;exact⟨.int (0:Nat) 0,o,a,ep,t,by rw[<-f];exact NK _ rfl,Np _ g,x,u,up,f,hw⟩
 cases q:w.params.followText "set-order"with
 |true=>
  rw[if_neg (by simp)];exact made 0 ((pickOrder (w.params.setOrder S ep) a).toList.map (·.2)) rfl ((QdW _ a).map _) (.text 0 q rfl)
 | false=>
  have n:t.led=true:=by rw[y];simp[Yi,q]
  by_cases C:t.plain=false/\a.size>1
  ·rw[if_pos (by simp[C.1,C.2])];refine Nc (Gj a.size (List.range a.size) s _ (by simp) fun ps d p=>?_);have B:ps.length=a.size:=by rw[p.length_eq,Iw]
   refine Nc (Lz ?_ (by rw[NG,B];exact hz));refine Nc (OL (s:={ s with drawn:=d,heap:=s.heap.push { cls:=.type "tuple",data:=.seq (ps.map fun(i:Nat)=>rawInt i).toArray } }) (Np _ g) x u ?_);refine Nc (EJ (Nq ⟨_,rfl,"set_iterator",_,⟨_,NK _ rfl,rfl⟩,slotN.lookup,?_⟩));obtain⟨L,H⟩:=QbM p;have f:a.size=(ps.map (atP a)).length:=by rw[NG,B]
   have j:(s.heap.push { cls:=.type "tuple",data:=.seq (ps.map fun(i:Nat)=>rawInt i).toArray }).objs.size=s.heap.objs.size+1:=FE _ _;refine h _ d _ s.heap.objs.size (ps.map (atP a)) (fun b M e=>Np _ (Np _ e)) (by show s.heap.objs.size<=(s.heap.push _).objs.size;rw[j];exact Nm _ _) (.inr (Nw _)) (by show S≠(s.heap.push _).objs.size;rw[j];exact NM (Er m)) (by show s.heap.objs.size≠(s.heap.push _).objs.size;rw[j];exact NM (N1 _)) L f.symm ?_;refine⟨.ref s.heap.objs.size,o,a,ep,t,by rw[<-f];exact NK _ rfl,Np _ (Np _ g),x,u,up,f,.tup (ps:=ps) (Np _ (NK _ rfl)) (by rw[<-f,B]) H⟩
  ·have l:t.plain=true\/a.size<=1:=by
    cases O:t.plain with
    |true=>exact .inl rfl
    |false=>
     right
     rcases IJ 1 a.size with z|z
     ·exact absurd ⟨O,z⟩ C
     ·exact z
   rw[if_neg (by
    rcases l with z|z
    ·rw[z];simp
    ·have:¬a.size>1:=by exact NN.mpr z
     simp[this])]
   exact made 0 (a.toList.map (·.2)) rfl .rfl (.slots 0 q n l rfl (Sb.below_zero (up l)))
theorem Qmz(hT:s.TypeIs (.ref S) "set")(h:Q false s):wpAny (model prog w) A (Builtin.List.listLengthHint (.ref S)) Q E s:=by
 unfold Builtin.List.listLengthHint;refine Nc (IY hT F.slot_set_len.lookup ?_);generalize a:("set.__len__":String)=c
 wp_delta
 rw[show splitId c=some ("set","__len__")from by subst a;decide +kernel];subst a;refine Nc (ID (T:="set") (b:=true) hT (by rw[Ly];kernel_rfl) ?_);refine Lc (fun z=>absurd z (by decide)) (fun _=>Lc (fun _=>?_) (fun z=>absurd (by decide +kernel) z));exact Nc (D3 hT (Nq h))
noncomputable abbrev lsO(xs:Array Value)(c:Nat):Obj:={ cls:=.type "list",dict:=none,data:=.seq xs c,slots:=#[] }
theorem Qjl(hh:A.handled=none)(e2:s.heap.get? S=some o)(M:o.ExactSet)(e3:o.data=.set H ep t)(ft:t.fits H.size=true)(up:t.plain=true\/H.size<=1->Sb.Up t.place)(y:t.led=Yi w)(m:N≠S)(res:Value)(i:Nat)(hN:s.heap.get? N=some (lsO #[] i))(hz:H.size<=sizeLine)
  (hR:∀h' d tk (vs:List Value) r,vs.Perm (H.toList.map (·.2))->(∀b o,b≠N->s.heap.get? b=some o->h'.get? b=some o)->h'.get? N=some (lsO vs.toArray r)->R (.ok (.ret res)) { s with heap:=h',drawn:=d,toks:=tk }) :
  wpAny (model prog w) A.in1 (Builtin.List.listExtendWith (.ref N) (.ref S) res) (fun fin l=>match fin with|.done f=>R (.ok f) l|.again r=>r.quiet=true/\codeAny (model prog w) A r R l) (fun e l=>R (.error e) l) s:=by
 unfold Builtin.List.listExtendWith;refine Nc (D3 (T:="set") ⟨o,e2,M.1⟩ ?_);have n1:Builtin.List.listSameRef (.ref N) (.ref S)=false:=by simp[Builtin.List.listSameRef,m]
 have n2:(Value.type "set"==Value.type "list")=false:=by decide
 have n3:(Value.type "set"==Value.type "tuple")=false:=by decide
 simp only[n1,n2,n3,LS,Ef,if_false];refine Nc (QnZ e2 M e3 ft up y hz fun h1 d I T vs D hI P U Q str O st=>?_);have n:=D _ _ hN;have v:N<s.heap.objs.size:=ND hN;have Z:N≠I:=fun z=>absurd hI (by rw[<-z];exact DS.mpr v)
 have Y:N≠T:=by
  rcases P with z|z
  ·rw[z];exact m
  ·exact fun e=>absurd z (by rw[<-e];exact DS.mpr v)
 have nf:N∉[I,S,T]:=by
  simp only[NH,EN,or_false,not_or];exact⟨Z,m,Y⟩
 have W:=QlZ (prog:=prog) (w:=w) (A:=A.in1.in1) (by simp[hh]) I S T U Q vs
 have key:∀(C:Heap) (a:Nat),ItT w I S T vs 0 C->(∀b o,b≠N->s.heap.get? b=some o->C.get? b=some o)->C.get? N=some (lsO #[] a)->codeAny (model prog w) A (.builtin "list.extend.loop" ⟨[.ref N,.ref I,res],[]⟩) R { s with heap:=C,drawn:=d }:=by
  intro C a L k2 g;refine codeAny_extend_loopS (Walks.of_in1 W).toS (by rw[O];exact hz) N nf res vs.length 0 _ #[] a rfl (NJ _) L g (ItemsOf.nil _) fun l p r hm B h=>?_;rw[Moved.eq_with hm]
  have ea:p=vs.toArray:=by
   apply Array.ext_getElem?;intro j
   by_cases G:j<p.size
   ·have q:=h.2 j p[j] (N3 G);rw[N3 G,FR,q]
   ·rw[Lo (NN.mp G),FR,Eg (by have:=h.1;exact Nh (Nt this.symm) (NN.mp G))]
  rw[ea]at B;refine hR l.heap d l.toks vs r str (fun b o c e=>hm.heap b o (fun x=>?_) (k2 b o c e)) B
  rcases NH.mp x with z|z
  ·exact c z
  ·rw[NR.mp z]at e;exact absurd (ND e) (NN.mpr hI)
 refine Nc (Ej (Qmz ⟨o,D _ _ e2,M.1⟩ ?_));refine Lc (fun _=>?_) (fun _=>Nq ⟨Fg L5 _,key h1 i st (fun b o _ e=>D b o e) n⟩);refine Nc (FF (Nc ?_));show wpAny _ _ (updateSeq N (·.push .none)>>=fun _=>updateSeq N (·.pop)) _ _ _;refine Nc (La n rfl ?_);have g:=EK (Obj.mapSeq (·.push Value.none)) n rfl;refine La (hz:=by seq_fits) g rfl ?_;have aa:=EK (Obj.mapSeq (·.pop)) g rfl;have u:∀b o,b≠N->h1.get? b=some o->((h1.update N (Obj.mapSeq (·.push Value.none))).update N (Obj.mapSeq (·.pop))).get? b=some o:=fun b o c e=>(N4 _ _ (EZ c)).trans ((N4 _ _ (EZ c)).trans e);refine Nq ⟨Fg L5 _,key _ _ (W.frame 0 _ _ st fun b c o e=>u b o (fun z=>nf (by rw[<-z];exact c)) e) (fun b o c e=>u b o c (D b o e)) aa⟩
theorem Qfj(x:A.handled=none)(n:s.heap.get? S=some o)(u:o.ExactSet)(z:o.data=.set i ep t)(y:t.fits i.size=true)(up:t.plain=true\/i.size<=1->Sb.Up t.place)(l:t.led=Yi w)(hz:i.size<=sizeLine)
  (h:∀h' d tk (vs:List Value),vs.Perm (i.toList.map (·.2))->(∀b o,s.heap.get? b=some o->h'.get? b=some o)->s.heap.objs.size<=h'.objs.size->Q vs { s with heap:=h',drawn:=d,toks:=tk }):wpAny (model prog w) A (collect (.ref S)) Q E s:=by
 unfold collect;refine Nc (wpAny_runValue (E6 entry_proto_collect' (show wpAny _ _ (do again (.builtin "list.__iadd__" ⟨[<-newList [],.ref S],[]⟩)) _ _ s from ?_)));refine Nc (Fh (Nq ⟨Ol _ (by decide +kernel),E6 (entry_list_iadd') ?_⟩));have m:=ND n;rw[E7 F.plain_list_iadd _]
 have fin:∀(r:Result) (c:Shared),(r=.ok (.ret (.ref s.heap.objs.size))/\∃h' d tk,∃vs:List Value,∃g,vs.Perm (i.toList.map (·.2))/\(∀b o,s.heap.get? b=some o->h'.get? b=some o)/\h'.get? s.heap.objs.size=some (lsO vs.toArray g)/\c={ s with heap:=h',drawn:=d,toks:=tk })->(match r with
   | .ok (.ret v)=>wpAny (model prog w) A (match v with
    |.ref a=>do
     match (<-load a).data with
     |.seq p _=>pure p.toList
     |_=>unsupported "internal:collect"
    |_=>unsupported "internal:collect") Q E c
   |.ok _=>False
   |.error e=>E e c):=by
  rintro r c ⟨rfl,h',d,tk,vs,g,str,k,hN,rfl⟩
  refine Nc (O9 hN ?_);show wpAny _ _ (pure vs.toArray.toList) Q E _;rw[Fk];exact Nq (h h' d tk vs str k (Nn (ND hN)))
 refine NU (Qjl (A:=A) (s:={ s with heap:=s.heap.push (lsO #[] 0) }) (R:=fun r c=>r=.ok (.ret (.ref s.heap.objs.size))/\∃h' d tk,∃vs:List Value,∃g,vs.Perm (i.toList.map (·.2))/\(∀b o,s.heap.get? b=some o->h'.get? b=some o)/\h'.get? s.heap.objs.size=some (lsO vs.toArray g)/\c={ s with heap:=h',drawn:=d,toks:=tk }) x (Np _ n) u z y up l (DF m) (.ref s.heap.objs.size) 0 (NK _ rfl) hz fun h' d tk vs g str k hN=>⟨rfl,h',d,tk,vs,g,str,fun b o e=>k b o (NM (ND e)) (Np _ e),hN,rfl⟩) ?_ ?_
 ·intro f c q;cases f with
  |done f=>exact fin _ _ q
  |again g=>exact⟨q.1,Fv q.2 fun r j hr=>fin r j hr⟩
 ·intro e c q;exact fin _ _ q
end
theorem Wo:∀(ks a:List Str),ks.Nodup->(∀k∈ks,k∈a)->a.length=ks.length->a.Perm ks
 |[],a,_,_,h=>by rw[N7.mp h]
 |k::r,a,nd,c,h=>by
  have d:=c k Ny;rw[EF]at nd;refine(LM d).trans (List.Perm.cons k (Wo r (a.erase k) nd.2 (fun x b=>?_) ?_))
  ·exact(FZ (fun z=>nd.1 (by rw[<-z];exact b))).mpr (c x (Nu _ b))
  ·rw[Fy d,h];rfl
section
variable{prog:Program}{w:World}{A:Around}{E:Value->Shared->Prop}{s:Shared}
theorem QhP{h:Heap}{a:Addr}{led:Bool}{b:Array (Int×Value)}(o:ElemsOf (strKind prog w) b.toList)(n:ks.Nodup)(m:b.size=ks.length)(l:∀k,k∈ks↔∃e∈b.toList,(strKind prog w).is k e.2=true)(p:vs.Perm (b.toList.map (·.2))):∃ss,StrsAre vs ss/\ss.Perm ks:=by
 have d:∀v∈vs,∃x c,v=.str x c:=fun v d=>by
  obtain⟨e,i,rfl⟩:=NT.mp (p.mem_iff.mp d);obtain⟨⟨k,g,_⟩,_⟩:=o e i;obtain⟨c,j⟩:=Fi g;exact⟨k,c,j⟩
 refine⟨vs.map strOf,strsAre_map vs d,Wo ks _ n (fun k g=>?_) ?_⟩
 ·obtain⟨e,i,f⟩:=(l k).mp g;obtain⟨c,j⟩:=Fi f;exact NT.mpr ⟨e.2,p.mem_iff.mpr (NT.mpr ⟨e,i,rfl⟩),by rw[j];rfl⟩
 ·rw[NG,p.length_eq,NG,NB,m]
theorem QgL{t:SetTable}(b:t.fits n=true)(c:n<=1):Sb.Up t.place:=fun i j d a=>by
 rw[QaQ b]at a;omega
theorem QfE(n:A.handled=none)(hS:SetL prog w s.heap S ks (Yi w))(hz:ks.length<=sizeLine)
  (h:∀h' d tk vs,(∃ss,StrsAre vs ss/\ss.Perm ks)->(∀b o,s.heap.get? b=some o->h'.get? b=some o)->s.heap.objs.size<=h'.objs.size->Q vs { s with heap:=h',drawn:=d,toks:=tk }):wpAny (model prog w) A (collect (.ref S)) Q E s:=by
 obtain⟨o,v,x,t,r,m,q,i,u,j,e,f,g,l,c⟩:=hS;refine Qfj n r m q j (fun z=>?_) e (by rw[l];exact hz) fun h' d tk vs p=>h h' d tk vs (QhP (h:=s.heap) (a:=S) (led:=true) i g l c p)
 rcases z with z|z
 ·rcases f with y|y
  ·exact QgL j (Nn (Nf (Nt y) (by decide)))
  ·rw[z]at y;cases y
 ·exact QgL j z
theorem sortedS'(u:A.handled=none)(hS:SetL prog w s.heap S ks (Yi w))(hz:ks.length<64)
  (h:∀(D:Addr) h' d tk (vs:List Value) (ss:List Str) c,StrsAre vs ss->ss.Perm ks->sortedS ss=true->(∀b o,s.heap.get? b=some o->h'.get? b=some o)->s.heap.objs.size<=D->h'.get? D=some (lsO vs.toArray c)->Q (.ref D) { s with heap:=h',drawn:=d,toks:=tk }) :
  wpAny (model prog w) A (call (.builtin "sorted") [.ref S]) Q E s:=by
 refine Fq OT Om On (Oo _) ?_;unfold Builtin.«sorted»;refine Nc (m:=checkCount "sorted" 1 1 _) (Nq (Nc (QfE (by simp[u]) hS (by rw[Ew];exact Nn (NW hz (by decide))) fun l d tk vs str q j=>?_)));obtain⟨ss,st,pm⟩:=str;have g:vs.length<64:=by rw[Lx st,pm.length_eq];exact hz
 refine Nc (Fh ?_ (by rw[Ew];exact Nn (NW g (by decide))));have a:(l.push (seqObj "list" vs.toArray 0)).get? l.objs.size=some (seqObj "list" vs.toArray 0):=NK _ rfl;refine Nc (Ej (EM LA ⟨_,a,rfl⟩ Ld (list_sort_treeK (κ:=PyProof.Rows.strKind) strKind_oneLt a st.keysOf (fun p n rest e=>keyKind_strs (by rw[<-e];exact st)) g fun f y x=>⟨_,rfl,?_⟩) (LB _)));obtain⟨i,b1,b2,b3⟩:=sorted_out_str st y x;obtain⟨c,v⟩:=sortedHeap_at (out:=(arrOf f).map (·.2)) a;refine Nq ⟨_,rfl,h l.objs.size _ d tk ((arrOf f).map (·.2)).toList i c b1 (b2.trans pm) b3 (fun b o e=>?_) j ?_⟩
 ·have r:=Np (seqObj "list" vs.toArray 0) (q b o e);rw[sortedHeap_old (NM (ND (q b o e))) (ND r)];exact r
 ·rw[Array.toArray_toList];exact v
end
theorem le_of_lt{a b:Str}:ltCps b.cps.toList a.cps.toList=false↔a.cps.toList<=b.cps.toList:=by
 rw[ltCps_eq,decide_eq_false_iff_not];exact Iff.rfl
theorem Xe:∀(x:Str) (r:List Str),risingS x r=true->∀z∈r,x.cps.toList<=z.cps.toList
 |x,[],_,z,hz=>by cases hz
 |x,y::r,h,z,hz=>by
  have h':(!ltCps y.cps.toList x.cps.toList&&risingS y r)=true:=h;rw[NS,FJ]at h';have a:=le_of_lt.mp h'.1
  rcases NH.mp hz with rfl|hz
  ·exact a
  ·exact List.le_trans a (Xe y r h'.2 z hz)
theorem XD(h:sortedS (x::r)=true):sortedS r=true:=by
 cases r with
 |nil=>rfl
 |cons y r=>
  have a:(!ltCps y.cps.toList x.cps.toList&&risingS y r)=true:=h;rw[NS]at a;exact a.2
theorem str_eq{a b:Str}(h:a.cps.toList=b.cps.toList):a=b:=by
 obtain⟨a⟩:=a;obtain⟨b⟩:=b;congr 1;exact OY.mp h
theorem Vf:∀(a b:List Str),a.Perm b->sortedS a=true->sortedS b=true->a=b
 |[],b,p,_,_=>(List.nil_perm.mp p).symm
 |x::r,[],p,_,_=>by cases List.perm_nil.mp p
 | x::r,y::t,p,d,c=>by
  have e:x=y:=by
   have g:y∈x::r:=p.mem_iff.mpr Ny;have f:x∈y::t:=p.mem_iff.mp Ny
   rcases NH.mp g with z|z
   ·exact z.symm
   ·rcases NH.mp f with q|q
    ·exact q
    ·exact str_eq (OZ (Xe x r d y z) (Xe y t c x q))
  subst e;rw[Vf r t (Oq p) (XD d) (XD c)]
open Classical in
noncomputable def srt(ks:List Str):List Str:=if h:∃a:List Str,a.Perm ks/\sortedS a=true then h.choose else[]
theorem srt_eq(p:ss.Perm ks)(h:sortedS ss=true):srt ks=ss:=by
 have a:∃ss:List Str,ss.Perm ks/\sortedS ss=true:=⟨ss,p,h⟩
 unfold srt;rw[dif_pos a];exact Vf _ _ (a.choose_spec.1.trans p.symm) a.choose_spec.2 h
end St
namespace Mi
open L2
noncomputable def txW:List W->Option (List Str)
 |[]=>some []
 |.str x::r=>(txW r).map (x::·)
 |_=>none
@[simp]theorem Qjj(l:List Str):txW (l.map .str)=some l:=by
 induction l with
 |nil=>rfl
 |cons x l a=>rw[NA,txW,a];rfl
theorem Qgo:∀{ws:List W} {ss:List Str},txW ws=some ss->ws=ss.map .str
 |[],ss,e=>by cases e;rfl
 |.str x::r,ss,e=>by
  obtain⟨t,b,a⟩:=Nk.mp e;subst a;rw[Qgo b];rfl
theorem QgF{K:Nj}:∀{ss:List Str} {xs:List V} {us:List Value},Rws K R (ss.map .str) xs->Vals xs us->StrsAre us ss
 |[],xs,us,r,v=>by
  rw[IG,Rws.nil_iff]at r;subst r;cases v;exact .nil
 | x::ss,xs,us,r,v=>by
  rw[NA]at r;unfold Rws at r;obtain⟨y,d,rfl,a,b⟩:=r;unfold Rw at a;subst a;cases v with
  |cons h t=>
   obtain⟨c,rfl⟩:=h;exact .cons x c (QgF b t)
theorem QaC{K:Nj}:∀{ss:List Str} {us:List Value},StrsAre us ss->Vals (ss.map V.str) us/\Rws K R (ss.map W.str) (ss.map V.str)
 |[],_,.nil=>⟨.nil,by unfold Rws;rfl⟩
 |_::_,_,.cons x c h=>by
  obtain⟨a,b⟩:=QaC (K:=K) (R:=R) h;refine⟨.cons ⟨c,rfl⟩ a,?_⟩;rw[NA,NA];unfold Rws;exact⟨_,_,rfl,by unfold Rw;rfl,b⟩
noncomputable def Qq1(ws:List W)(h:MH):Option (W×MH):=match ws with
 |[a]=>(lsW h a).bind fun c=>(txW c).bind fun b=>if b.length<64 then some (.lst ((St.srt b).map .str),h)else none
 |_=>none
noncomputable def VP(ws:List W)(h:MH):Option (W×MH):=match ws with
 |[a]=>(lsW h a).bind fun c=>(txW c).bind fun b=>if b.length<4000/\(St.uniq b).length<64 then some (.ref h.length,h++[.lst ((St.srt (St.uniq b)).map .str)])else none
 |_=>none
section
variable{X:Cx}
theorem Inv.drew(I:Inv X a σ H s)(d:Drawn):Inv X a σ H { s with drawn:=d }:=⟨I.ok,I.os,I.bare,I.base,I.loc,I.cell,I.free,I.freeC,I.pin,I.hok,I.len⟩
theorem GL{p1 O l g:Pos}(Y:X.calm=true)(hg:Gl X "sorted")(hm:X.mg "sorted"=none)(E:Gl X "set")(A:X.mg "set"=none)(he:PM X e me)(U:V2 e=false:=by rfl) :
  PM X (.Call (.Name "sorted" p1) [.Call (.Name "set" O) [e] [] g] [] l) (mFn VP (Qa me Qd)):=by
 intro m s σ H Q I ⟨R,p,h,w,h',rh,st,e1,P⟩;obtain⟨⟨as,h2⟩,e2,e3⟩:=Na.mp e1;obtain⟨⟨a,Z⟩,e4,e5⟩:=Na.mp e2;obtain⟨⟨bs,h3⟩,e6,e7⟩:=Na.mp e5;cases e6;cases e7;refine E1 (XU I hg hm IT (DQ ?_ (Q1 rfl) (JS rfl)) (by decide) (by decide));rw[Q1 (e:=.Call (.Name "set" O) [e] [] g) rfl];refine Ft (E1 (XU I E A boot_set (EG ?_ (Q1 U) (JS rfl)) (by decide) (by decide)));rw[Q1 U];refine Ft (thn (he m s σ H (fun v H2=>∃R2,Ext R R2/\Rh X.K R2 Z H2/\Rw X.K R2 a v) I ⟨R,p,h,a,Z,rh,st,e4,fun R2 H2 v x f z=>⟨R2,x,f,z⟩⟩) fun u M ⟨v,H1,I1,ru,R2,x2,f,z⟩=>FI ?_);obtain⟨ys,e8,e9⟩:=Na.mp e3;obtain⟨ss,G,j⟩:=Na.mp e9;split at j
 ·rename_i S;cases j;obtain⟨ad,xs,rfl,q1,N⟩:=f.lsAt z e8;cases ru;rw[Qgo G]at N;obtain⟨aa,rv,pl,hl⟩:=I1.list q1;have hS:=QgF N rv;have B:=Lx hS;refine St.set_list (I1.ok.hd Y) pl.isList (by rw[Fk];exact hS) (by rw[Nr,B];show ss.length+1<4096;lia) fun g1 r i k1=>FI ?_;refine St.sortedS' (s:={ M with heap:=g1,toks:=r }) (I1.ok.hd Y) i S.2 fun D g2 d q vs L c b1 b2 b3 k2 C hD=>?_;obtain⟨v1,v2⟩:=QaC (K:=X.K) (R:=R2) b1;have n:M.heap.objs.size<=D:=Nh (Nn i.lt) C;have hp:=I1.hok.fresh n;have eq:=St.srt_eq b2 b3;obtain⟨R3,x3,y,t⟩:=f.new (mo:=.lst (L.map .str)) (o:=.lst (L.map V.str)) hp fun R' x'=>⟨_,rfl,(QaC (K:=X.K) (R:=R') b1).2⟩
  rw[eq]at P;refine⟨.ref D,_,Inv.drew (I1.laid (t':=q) (fun b o e=>k2 b o (k1 b o (ND e) e)) n (show ObjOk X.prog X.w _ _ _ (.lst _)from⟨?_,vs,c,v1,hD⟩)) d,rfl,P R3 _ _ (x2.trans x3) y t⟩;rw[NG,b2.length_eq,Ew];exact Nn (NW S.2 (by decide))
 ·cases j
end
noncomputable def Y9(ws:List W):List W:=ws.zipIdx.map fun q=>.tup [.int q.2,q.1]
end Mi
namespace Dc
section
variable{prog:Program}{w:World}{A:Around}{E:Value->Shared->Prop}{s:Shared}
theorem QhM:typeLookup (.type "list") (Str.ofString "keys")=pure none:=by rw[Lb,FQ];kernel_rfl
set_option maxHeartbeats 4000000 in
theorem Qd0(i:s.heap.get? a=some { cls:=.type "list",dict:=none,data:=.seq xs k,slots:=j })(m:A.handled=none)
  (h:∀h' tk,(∀b o,s.heap.get? b=some o->h'.get? b=some o)->Q none { s with heap:=h',toks:=tk }):wpAny (model prog w) A (getAttr? (.ref a) (Str.ofString "keys")) Q E s:=by
 obtain⟨l,g,d,tk,os⟩:=s;have hT:∀c,(⟨l,g,d,c,os⟩:Shared).TypeIs (.ref a) "list":=fun _=>⟨_,i,rfl⟩
 have f1:=sub_AttributeError;have f3:=Fz.lookup;have t:=Fz.bind (.ref a);have r:=am_list_getattr_none;unfold getAttr? getAttrBy? getAttrBy
 repeat (any_goals (first|assumption|exact hT _|((with_reducible show wpAny _ _ (call (Value.builtin "list.__getattribute__") _ _) _ _ _);refine FD Fz (hT _) am_entry_list_getattribute (F.args_list_getattribute_2 _ _) (meets_getattribute_miss_list a xs k j (Str.ofString "keys") _ QhM (by decide +kernel)) ⟨i,m,fun h' c e f=>?_⟩)|wp_step))
 obtain⟨p,n,q⟩:=f.there;show wpAny _ _ (getattributeRaised _ _ _ _ _ _ _) _ _ _;unfold getattributeRaised
 repeat (any_goals (first|assumption|wp_step))
 exact h _ _ f.keeps
end
theorem Ql0:entryFor table "dict.update.loop"=some Builtin.«dict.update.loop»:=entryFor_of_tree (by kernel_rfl)
theorem Qff:plainId "dict.update.loop"=true:=by decide +kernel
section
variable{prog:Program}{w:World}{K:Type}[DecidableEq K]{knd:KeyKind prog w K}{A:Around}{E:Value->Shared->Prop}{s:Shared}
def PairAt(knd:KeyKind prog w K)(h:Heap)(v:Value)(p:K×Value):Prop:=∃a o n key,v=.ref a/\h.get? a=some o/\o.cls=.type "tuple"/\o.data=.seq #[key,p.2] n/\knd.is p.1 key=true
theorem PairAt.keep(x:PairAt knd h v p)(k:∀a o,v=.ref a->h.get? a=some o->h'.get? a=some o):PairAt knd h' v p:=by
 obtain⟨a,o,n,key,rfl,e,d,c,b⟩:=x;exact⟨a,o,n,key,rfl,k a o rfl e,d,c,b⟩
noncomputable def mrg(kvs ps:List (K×Value)):List (K×Value):=ps.foldl (fun a p=>stored a p.1 p.2) kvs
theorem Qjb(kvs:List (K×Value))(k:K)(v:Value):(stored kvs k v).length<=kvs.length+1:=by
 unfold stored;split
 ·rw[NG];exact Nm _ _
 ·rw[NC,NP,Dm];lia
theorem Qod{ps:List (K×Value)}(hh:A.in1.handled=none)(L:l≠I)(h:D≠I)(P:D≠l)(q:ps.length=items.size):∀(k i:Nat) (s:Shared) (kvs:List (K×Value)),items.size-i=k->i<=items.size->s.heap.IsListIter I l i->s.heap.IsList l items ->
  (∀(j:Nat) (v:Value) (p:K×Value),items[j]?=some v->ps[j]?=some p->PairAt knd s.heap v p/\v≠.ref D/\v≠.ref I)->s.heap.DictOf knd D kvs->kvs.length+k<=sizeLine ->
  (∀h' tk,h'.DictOf knd D (mrg kvs (ps.drop i))->(∀b o,b≠D->b≠I->s.heap.get? b=some o->h'.get? b=some o)->R (.ok (.ret .none)) { s with heap:=h',toks:=tk }) ->
  ∀t,codeAny (model prog w) A (.builtin "dict.update.loop" ⟨[.ref D,.ref I,.int i t,.none],[]⟩) R s:=by
 intro k;have W:=Walks.list (prog:=prog) (w:=w) (A:=A.in1) hh I l L items
 induction k with
 |zero=>
  intro i s kvs hk hi d c H hD hz O t;have M:i=items.size:=by lia
  subst M;refine E6 Ql0 ?_;rw[E7 Qff _];refine(show wpAny _ A.in1 (pyNext (.ref I)>>=_) _ _ s from Nc (W.done s _ _ ⟨d,c⟩ fun h' tk f=>?_));refine(show wpAny _ A.in1 (Builtin.Dict.addKeywords D []>>=_) _ _ _ from Nc (Nq (Nq (O h' tk ?_ fun b o _ hb e=>f b o (by simpa using hb) e))));rw[List.drop_of_length_le (Nt q)];exact hD.at fun o e=>f D o (by simpa using h) e
 | succ k ih=>
  intro i s kvs hk hi d c H hD hz O t;have g:i<items.size:=by lia
  refine E6 Ql0 ?_;rw[E7 Qff _];refine(show wpAny _ A.in1 (pyNext (.ref I)>>=_) _ _ s from Nc (W.item i s _ _ g ⟨d,c⟩ fun v h' tk hv m f=>?_));have r:i<ps.length:=by exact Nd g (Nt q.symm)
  obtain⟨pa,nD,nI⟩:=H i v ps[i] hv (Nl r);obtain⟨a,o,n,key,rfl,h1,h2,Y,h4⟩:=pa;have N:a≠I:=fun z=>nI (by rw[z]);have ab:a≠D:=fun z=>nD (by rw[z]);have y:=f a o (by simpa using N) h1;refine(show wpAny _ A.in1 (holding [Value.ref a] _>>=_) _ _ _ from Nc (Ej ?_));refine Nc (wpAny_tryCatch (show wpAny _ _ (Builtin.Dict.pairItems (.ref a)) _ _ _ from ?_));unfold Builtin.Dict.pairItems;refine Nc (D3 (T:="tuple") ⟨o,y,h2⟩ ?_);rw[if_pos (by decide)];refine Nc (show wpAny _ _ (seqItems? (.ref a)) _ _ _ from ?_);unfold seqItems?;refine Nc (O9 y ?_);rw[Y];refine Nq (Nq ?_);refine(show wpAny _ A.in1 (holding [key,(ps[i]).2] (dictSet D key (ps[i]).2)) _ _ _ from Ej ?_);have U:h'.DictOf knd D kvs:=hD.at fun o e=>f D o (by simpa using h) e;refine wpAny_dictSet_pairs (s:={ s with heap:=h',toks:=tk }) (hsz:=by exact Nh (Nm _ _) hz) h4 U fun h2 S B=>?_;refine Nq ⟨Fg Qff _,ih (i+1) _ (stored kvs (ps[i]).1 (ps[i]).2) (by lia) g (m.1.at fun o e=>by rw[B.2 I (EZ h)];exact e) (m.2.at fun o e=>by rw[B.2 l (EZ P)];exact e) (fun j v p e1 e2=>?_) S (by have:=Qjb kvs (ps[i]).1 (ps[i]).2;lia) (fun Y C Q G=>?_) _⟩
  ·obtain⟨q1,q2,Z⟩:=H j v p e1 e2;refine⟨q1.keep fun b o eb e=>?_,q2,Z⟩;rw[B.2 b fun z=>q2 (by rw[eb,z])];exact f b o (by simpa using fun z=>Z (by rw[eb,z])) e
  ·refine O Y C ?_ fun b o x u e=>G b o x u ?_
   ·rw[Ea r];exact Q
   ·rw[B.2 b x];exact f b o (by simpa using u) e
theorem call_pairs{Q:Value->Shared->Prop}(L:A.handled=none)(G:s.heap.get? l=some { cls:=.type "list",dict:=none,data:=.seq items m,slots:=Z })(D:ps.length=items.size)(hz:items.size<=sizeLine)
  (N:∀(j:Nat) (v:Value) (p:K×Value),items[j]?=some v->ps[j]?=some p->PairAt knd s.heap v p)
  (h:∀h' tk,h'.DictOf knd s.heap.objs.size (mrg [] ps)->(∀b o,s.heap.get? b=some o->h'.get? b=some o)->Q (.ref s.heap.objs.size) { s with heap:=h',toks:=tk }) :
  wpAny (model prog w) A (call (.type "dict") [.ref l]) Q E s:=by
 refine callType_codes (Q₁:=fun obj d=>obj=.ref s.heap.objs.size/\d={ s with heap:=s.heap.push { cls:=.type "dict",data:=.dict #[] } }) F.kt_called_dict (F.kt_typeCall_dict_1 _) F.entry_dict_init (kt_code_dict_new _ ⟨rfl,rfl⟩) fun obj d r=>?_;obtain⟨rfl,rfl⟩:=r;have c:(s.heap.push { cls:=.type "dict",data:=.dict #[] }).DictOf knd s.heap.objs.size []:=Heap.DictOf.new s.heap;have g:l<s.heap.objs.size:=ND G;have f:=Np { cls:=.type "dict",data:=.dict #[] } G;refine⟨c.typeIs,F.args_dict_init_2 _ _,?_⟩;unfold Builtin.«dict.__init__» Builtin.Dict.selfAndRest;refine Nc (Nc (wpAny_notOrdered_dict c.typeIs (show wpAny _ _ (pure (s.heap.objs.size,[Value.ref l])) _ _ _ from Nq ?_)));show wpAny _ _ (Builtin.Dict.updateFrom "dict.__init__" s.heap.objs.size (.ref l) [] .none) _ _ _;unfold Builtin.Dict.updateFrom;refine Nc (D3 (T:="list") ⟨_,f,rfl⟩ ?_);rw[if_pos (by decide)];refine Nc (Qd0 f (by simp[L]) fun i y u=>?_);rw[if_pos (by rfl)];refine Nc (FF (Nc (Iv (s:={ s with heap:=i,toks:=y }) ⟨_,u _ _ f,rfl,_,rfl⟩ ?_)));have C:∀b o,s.heap.get? b=some o->(i.push { cls:=.type "list_iterator",data:=.fields #[.ref l,.int 0 0] }).get? b=some o:=fun b o e=>Np _ (u _ _ (Np _ e));have I:(i.push { cls:=.type "list_iterator",data:=.fields #[.ref l,.int 0 0] }).DictOf knd s.heap.objs.size []:=c.keep fun b o e=>Np _ (u _ _ e)
 have t:s.heap.objs.size<i.objs.size:=by
  obtain⟨o,_,_,e,_⟩:=c;exact ND (u _ _ e)
 refine Nq ⟨Fg Qff _,Qod (knd:=knd) (l:=l) (items:=items) (ps:=ps) (by simp[L]) (NM (NW g t)) (NM t) (DF g) D (items.size-0) 0 _ [] rfl (NJ _) ⟨_,NK _ rfl,rfl,rfl⟩ ⟨_,C _ _ G,rfl,_,rfl⟩ (fun j v p U S=>?_) I (by simpa using hz) (fun O x H B=>?_) _⟩
 ·have q:=N j v p U S
  have lt:∀b,v=.ref b->b<s.heap.objs.size:=fun b P=>by
   obtain⟨a,o,n,key,e,Y,_⟩:=q;rw[P]at e;cases e;exact ND Y
  refine⟨q.keep fun b o _ e=>C b o e,fun z=>absurd (lt _ z) (Ed _),fun z=>?_⟩;have:=lt _ z;change i.objs.size<s.heap.objs.size at this;exact O0 (Nn this) t
 ·refine⟨rfl,h O x (by simpa using H) fun b o e=>B b o ?_ ?_ (C b o e)⟩
  ·exact NM (ND e)
  ·exact NM (NW (ND e) t)
end
open PySem.W
theorem Qcq(h:k<n):(List.toArray (List.range n)).getD k 0=k:=by simp[Array.getD,h]
theorem Qg1{s:Shared}
  (b:∀(k tk:Nat) (C:Bool->Shared->Prop),1<=k->k<n->(∀t,C false { s with toks:=t })->cmp k (k-1) C { s with toks:=tk }) (a:∀t,Q n { s with toks:=t }) :
  ∀(f k tk:Nat),1<=k->k+f=n->(kas_asc (List.toArray (List.range n)) f k).kasWp cmp Q { s with toks:=tk }
 |0,k,tk,_,e=>by
  have:k=n:=by omega
  subst this;exact a tk
 |f+1,k,tk,c,e=>by
  unfold kas_asc;rw[Qcq (by lia),Qcq (by omega)];refine(show cmp k (k-1) _ _ from b k tk _ c (by omega) fun t=>?_);show KasT.kasWp cmp (if false=true then _ else _) _ _;rw[if_neg (by simp)];exact Qg1 b a f (k+1) t (E8 _ _) (by lia)
theorem Qhk{s:Shared}(b:1<=n)
  (c:∀(k tk:Nat) (C:Bool->Shared->Prop),1<=k->k<n->(∀t,C false { s with toks:=t })->cmp k (k-1) C { s with toks:=tk }) (a:∀t,Q (List.toArray (List.range n)) { s with toks:=t }) (tk:Nat):(kas_sort n).kasWp cmp Q { s with toks:=tk }:=by
 unfold kas_sort kas_count;rw[KasT.kasWp_bind,KasT.kasWp_bind];refine Qg1 c (fun t=>?_) (n-1) 1 tk (Nw _) (DL b);show KasT.kasWp cmp (if(n==n)=true then _ else _) _ _;rw[if_pos (by simp)];show KasT.kasWp cmp (if n<n then _ else _) _ _;rw[if_neg (Ed _)];exact a t
section
variable{prog:Program}{w:World}{A:Around}{E:Value->Shared->Prop}{s:Shared}
theorem QfH(u:s.heap.get? a=some (seqObj "list" vs.toArray n))(f:vs.length<64)
  (N:2<=vs.length->∀g:Heap,(∀b o,b≠a->s.heap.get? b=some o->g.get? b=some o)->∀Q:SortKind->Shared->Prop,Q κ { s with heap:=g }->wpAny (model prog w) A (keyKind' vs.toArray) Q (fun _ _=>False) { s with heap:=g })
  (O:∀g:Heap,(∀b o,b≠a->s.heap.get? b=some o->g.get? b=some o)->∀(k tk:Nat) (C:Bool->Shared->Prop),1<=k->k<vs.length->(∀t,C false { s with heap:=g,toks:=t })->kas_ask prog w A κ vs k (k-1) C { s with heap:=g,toks:=tk })
  (h:∀(g:Heap) (tk c:Nat),(∀b o,b≠a->s.heap.get? b=some o->g.get? b=some o)->g.get? a=some (seqObj "list" vs.toArray c)->P (.done (.ret .none)) { s with heap:=g,toks:=tk }) :
  wpAny (model prog w) A (Builtin.«list.sort» ⟨[.ref a],[]⟩) P E s:=by
 have Y:a<s.heap.objs.size:=ND u;obtain⟨y,g1⟩:∃y,(s.heap.update a (Obj.mapSeq fun _=>(#[]:Array Value))).get? a=some (seqObj "list" #[] y):=⟨_,F0 u fun _=>#[]⟩
 rw[list_sort_plain];refine Nc (listItems_at u rfl (Nc (Io u rfl ?_ (by rw[Nr,Ew];exact Nn (NW f (by decide))) (NJ _))));refine Nc (Lp g1 rfl (Nc (Lz ?_ (by show vs.length<=_;rw[Ew];exact Nn (NW f (by decide))))));refine Nc (Fh (Ej ?_) (NJ _));show wpAny (model prog w) A _ P E { s with heap:=((s.heap.update a (Obj.mapSeq fun _=>(#[]:Array Value))).push (seqObj "tuple" vs.toArray 0)).push (seqObj "list" #[] 0) };have q:∀b o,b≠a->s.heap.get? b=some o->(((s.heap.update a (Obj.mapSeq fun _=>(#[]:Array Value))).push (seqObj "tuple" vs.toArray 0)).push (seqObj "list" #[] 0)).get? b=some o:=fun b o v e=>Np _ (Np _ ((N4 _ _ (EZ v)).trans e));have g2:(((s.heap.update a (Obj.mapSeq fun _=>(#[]:Array Value))).push (seqObj "tuple" vs.toArray 0)).push (seqObj "list" #[] 0)).get? a=some (seqObj "list" #[] y):=Np _ (Np _ g1);generalize((s.heap.update a (Obj.mapSeq fun _=>(#[]:Array Value))).push (seqObj "tuple" vs.toArray 0)).push (seqObj "list" #[] 0)=g at q g2;dsimp only
 have fin:∀(st:SortSt) (tk:Nat),(arrOf st).map (·.2)=vs.toArray->failedOf st=none->wpAny (model prog w) A (do
   let d:=(<-seqEpoch a) != y
   Builtin.List.listUpdate (.ref a) fun _=>(arrOf st).map (·.2)
   if let some e:=failedOf st then rule "list.sort.comparison-raised";throw e
   if d then rule "list.sort.modified";raiseError "ValueError" "list modified during sort"
   ret .none) P E { s with heap:=g,toks:=tk }:=by
  intro st tk M L;rw[M,L];refine Nc (Lp g2 rfl (Nc (Io g2 rfl ?_ (NJ _) (by rw[Nr,Ew];exact Nn (Nd (NW f (by decide)) (Nm _ _))))));simp only[bne_self_eq_false,Ef,if_false];refine Nq ?_;exact h _ tk _ (fun b o v e=>(N4 _ _ (EZ v)).trans (q b o v e)) (F0 g2 fun _=>vs.toArray)
 by_cases l:vs.toArray.size<2
 ·rw[if_pos l,if_pos l];refine Nc (Nq ?_);rw[Yae];refine Nc (Nq (fin (SortSt.mk' general' (vs.toArray.zip vs.toArray) #[] 7 none) s.toks ?_ rfl));show(vs.toArray.zip vs.toArray).map (·.2)=vs.toArray;apply Array.ext
  ·simp
  ·intro i h1 x;simp
 ·rw[if_neg l,if_neg l];have x:2<=vs.length:=by rw[Nr]at l;exact NN.mp l
  refine Nc (NU (N x g q (fun m j=>m=κ/\j={ s with heap:=g }) ⟨rfl,rfl⟩) (fun m j z=>?_) fun _ _ z=>z.elim);obtain⟨rfl,rfl⟩:=z;refine Nc (NU (kat_run (Q:=fun st j=>(arrOf st).map (·.2)=vs.toArray/\failedOf st=none/\∃t,j={ s with heap:=g,toks:=t }) rfl x f (G:=fun p j=>p=List.toArray (List.range vs.length)/\∃t,j={ s with heap:=g,toks:=t }) (fun p st j c1 U S D=>⟨?_,S,D.2⟩) (Qhk (s:={ s with heap:=g }) (Nn (Nd (by decide) x)) (O g q) (fun t=>⟨rfl,t,rfl⟩) s.toks)) (fun r j z=>?_) fun _ _ z=>z)
  ·rw[kat_snds rfl U,D.1];congr 1;apply List.ext_getElem
   ·simp
   ·intro i B Z;simp at B;simp[B]
  ·obtain⟨I,H,t,rfl⟩:=z;exact fin r.2 t I H
end
section
variable{prog:Program}{w:World}{A:Around}{E:Value->Shared->Prop}{s:Shared}
theorem Qey:Looks (model prog w) h (typeOf (.str x t)) (.type "str"):=Looks.of_pure rfl
theorem Qak:∀(as:List Addr),(∀a∈as,∃x t u,h.get? a=some { cls:=.type "tuple",data:=.seq #[.str x t,u] })->∃fs,KatTups h (as.map Value.ref) fs/\fs.length=as.length/\∀f∈fs,∃x t,f=Value.str x t
 |[],_=>⟨[],trivial,rfl,fun _ c=>nomatch c⟩
 |a::as,d=>by
  obtain⟨x,t,u,e⟩:=d a Ny;obtain⟨fs,l,j,i⟩:=Qak as fun b g=>d b (Nu _ g);refine⟨.str x t::fs,KatTups.cons e rfl rfl (by simp) l,by simp[j],fun f c=>?_⟩
  rcases NH.mp c with rfl|c
  ·exact⟨x,t,rfl⟩
  ·exact i f c
theorem sorted_view{ss:List Str}(hh:A.handled=none)(q:s.heap.objs.size=v+1)(U:s.heap.IsItemsView v d)(hd:s.heap.DictOf (L2.Zd prog w) d kvs)(N:kvs.map (·.1)=ss.map Sum.inr)(hs:ss.Pairwise fun a b=>a.cps.toList<b.cps.toList)(hz:kvs.length<64)
  (h:∀(D:Addr) (g:Heap) (tk c:Nat) (as:List Addr),(∀b o,s.heap.get? b=some o->g.get? b=some o)->s.heap.objs.size<=D->D∉as->as.length=kvs.length->as.Nodup->(∀a∈as,s.heap.objs.size<=a) ->
   (∀(j:Nat) (a:Addr),as[j]?=some a->∃key k x,kvs[j]?=some (k,x)/\(L2.Zd prog w).is k key=true/\g.get? a=some { cls:=.type "tuple",data:=.seq #[key,x] })->g.get? D=some (seqObj "list" (as.map Value.ref).toArray c)->Q (.ref D) { s with heap:=g,toks:=tk }) :
  wpAny (model prog w) A (call (.builtin "sorted") [.ref v]) Q E s:=by
 obtain⟨o,es,Y,q1,q2,q3,q4⟩:=hd;refine Fq OT Om On (Oo _) ?_;unfold Builtin.«sorted»;refine Nc (m:=checkCount "sorted" 1 1 _) (Nq (Nc (kdx_collect (A:=A.in1) (knd:=L2.Zd prog w) (kvs:=kvs) (ep:=Y) hh U ⟨o,es,q1,q2,q3,q4⟩ (by rw[Ew];exact Nn (NW hz (by decide))) fun g tk as I M r=>?_)));refine Nc (Fh ?_ (by rw[NG,M,Ew];exact Nn (NW hz (by decide))));have hN:(g.push (seqObj "list" (as.map Value.ref).toArray 0)).get? g.objs.size=some (seqObj "list" (as.map Value.ref).toArray 0):=NK _ rfl;have lt:∀a∈as,a<g.objs.size:=fun a l=>r.there l;have n:(as.map Value.ref).length=kvs.length:=by rw[NG,M]
 have key:∀(j:Nat) (a:Addr),as[j]?=some a->∃x t u,ss[j]?=some x/\kvs[j]?=some (Sum.inr x,u)/\g.get? a=some { cls:=.type "tuple",data:=.seq #[.str x t,u] }:=by
  intro j a l;obtain⟨H,k,x,B,P,O⟩:=r.pairs j a l;have Z:(kvs.map (·.1))[j]?=some k:=by rw[Nz,B];rfl
  rw[N,Nz]at Z;obtain⟨y,e5,e6⟩:=Nk.mp Z;subst e6;obtain⟨t,e7⟩:=Fi (x:=y) (v:=H) P;subst e7;exact⟨y,t,x,e5,B,O⟩
 refine Nc (Ej (EM LA ⟨_,hN,rfl⟩ Ld (QfH (A:=A.in1.in1) (s:={ s with heap:=g.push (seqObj "list" (as.map Value.ref).toArray 0),toks:=tk }) (κ:=tuples' true) hN (by rw[n];exact hz) ?hk ?hc ?hf) (LB _)))
 case hk=>
  intro i g2 p Q' hq
  obtain⟨fs,f1,f2,f3⟩:=Qak (h:=g2) as fun a l=>by
   obtain⟨j,hj⟩:=NI.mp l;obtain⟨x,t,u,_,_,e⟩:=key j a hj;exact⟨x,t,u,p a _ (NM (lt a l)) (Np _ e)⟩
  refine kat_kind (T:=.type "str") f1 (by rw[n]at i;lia) (fun f hf=>?_) (by decide) hq;obtain⟨x,t,rfl⟩:=f3 f hf;exact Qey
 case hc=>
  intro g2 p k t C h1 i hC;rw[NG]at i;have b1:as[k]?=some as[k]:=Nl i;have b0:as[k-1]?=some (as[k-1]'(Nf (NZ _ _) i)):=Nl (Nf (NZ _ _) i);obtain⟨x,t1,u1,x1,_,x3⟩:=key k _ b1;obtain⟨y,t0,u0,y1,_,y3⟩:=key (k-1) _ b0
  have S:y.cps.toList<x.cps.toList:=by
   have l1:=(Ng.mp x1)
   have l0:=(Ng.mp y1)
   obtain⟨p1,z1⟩:=l1;obtain⟨p0,z0⟩:=l0;have:=E4.mp hs (k-1) k p0 p1 (by omega);rw[z1,z0]at this;exact this
  have m1:as[k]∈as:=Ez i;have m0:(as[k-1]'(Nf (NZ _ _) i))∈as:=Ez (Nf (NZ _ _) i);have r1:=p _ _ (NM (lt _ m1)) (Np _ x3);have r0:=p _ _ (NM (lt _ m0)) (Np _ y3);have d1:(as.map Value.ref).getD k Value.none=.ref as[k]:=by simp[i]
  have d0:(as.map Value.ref).getD (k-1) Value.none=.ref (as[k-1]'(Nf (NZ _ _) i)):=by
   have:k-1<as.length:=by exact Nf (NZ _ _) i
   simp[this]
  unfold kas_ask;rw[d1,d0];refine kat_lt r1 rfl r0 rfl (kat_cons (PyProof.Rows.eqBool_str ?_))
  have ne:(x==y)=false:=by
   rw[beq_eq_false_iff_ne]
   rintro rfl
   exact absurd S (LC _)
  rw[ne];refine kat_no (oneLt_str ?_);rw[decide_eq_false (fun z=>absurd (List.lt_trans z S) (LC _))];exact hC t
 case hf=>
  intro g2 G c p hD;refine⟨_,rfl,Nq ⟨_,rfl,h g.objs.size g2 G c as (fun b o e=>?_) ?_ (fun z=>absurd (lt _ z) (Ed _)) M ?_ ?_ (fun j a l=>?_) hD⟩⟩
  ·exact p b o (NM (ND (I b o e))) (Np _ (I b o e))
  ·obtain⟨ov,L,_⟩:=U;rw[q];exact ND (I _ _ L)
  ·exact r.rise.imp fun z=>NM z
  ·exact fun a l=>Nn (r.above a l)
  ·obtain⟨H,k,x,B,P,O⟩:=r.pairs j a l;exact⟨H,k,x,B,P,p a _ (NM (lt a (EO l))) (Np _ O)⟩
end
end Dc
namespace Mi
open L2
noncomputable def prW:List W->Option (List (Key×W))
 |[]=>some []
 |.tup [k,v]::r=>(Qi9 k).bind fun y=>(prW r).map ((y,v)::·)
 |_=>none
noncomputable def QhK(kvs ps:List (Key×W)):List (Key×W):=ps.foldl (fun a p=>Qcm a p.1 p.2) kvs
noncomputable def KA(ws:List W)(h:MH):Option (W×MH):=match ws with
 |[a]=>(lsW h a).bind fun b=>(prW b).bind fun ps=>if ps.length<=100000 then some (.ref h.length,h++[.dic (QhK [] ps)])else none
 |_=>none
noncomputable def Qkq(p:Key×W):W:=.tup [kW p.1,p.2]
def Asc(kvs:List (Key×W)):Prop:=∃c:List Str,kvs.map (·.1)=c.map Sum.inr/\c.Pairwise fun a b=>a.cps.toList<b.cps.toList
open Classical in
noncomputable def Qjv(p:W×MH):Option (W×MH):=(QeH p.2 p.1).bind fun a=>if Asc a/\a.length<64 then some (.lst (a.map Qkq),p.2)else none
noncomputable def Qiz(me:ME):ME:=fun a h=>(me a h).bind Qjv
section
variable{X:Cx}{pins:List (Addr×Obj)}{σ:L2.St}{H H':Hp}{s:Shared}{h':Heap}
theorem Inv.lays(I:Inv X pins σ H s)(k:∀b u,s.heap.get? b=some u->h'.get? b=some u)(old:∀b,b<s.heap.objs.size->H' b=H b)(new:∀b o,s.heap.objs.size<=b->H' b=some o->ObjOk X.prog X.w H' h' b o):Inv X pins σ H' { s with heap:=h',toks:=t' }:=by
 have ol:∀b o,H b=some o->H' b=some o:=fun b o q=>by rw[old b (I.hok.lt q)];exact q
 refine I.un ⟨fun b u q _ _ _=>k b u q,fun b u q _ _ _=>⟨u.slots,k b u q⟩,fun b u q n _=>?_,fun b u q _=>⟨u,k b u q⟩,fun b a q=>ol b _ q,fun b u a q=>ol b _ q,fun b ps q=>⟨#[],?_⟩⟩ fun b o e=>?_
 ·rw[old b (ND q)];exact n
 ·rw[ol b _ q];simp
 ·by_cases d:b<s.heap.objs.size
  ·rw[old b d]at e;exact(I.hok b o e).stay (fun c v _ q=>k c v q) (fun c q=>ol c _ q) fun c a q=>ol c _ q
  ·exact new b o (OW d) e
end
noncomputable def QeY:List (Addr×List V)->Hp->Hp
 |[],H=>H
 |p::r,H=>QeY r (upd H p.1 (.tup p.2))
theorem Kl:∀(l:List (Addr×List V)) (H:Hp) (b:Addr),b∉l.map (·.1)->QeY l H b=H b
 |[],_,_,_=>rfl
 |p::r,H,b,a=>by
  rw[NA,NH,not_or]at a;rw[QeY,Kl r _ b a.2,Qp a.1]
theorem Qdx:∀(l:List (Addr×List V)) (H:Hp) (p:Addr×List V),(l.map (·.1)).Nodup->p∈l->QeY l H p.1=some (.tup p.2)
 |[],_,_,_,a=>nomatch a
 |q::r,H,p,b,a=>by
  rw[NA,EF]at b
  rcases NH.mp a with rfl|a
  ·rw[QeY,Kl r _ _ b.1,ZK]
  ·exact Qdx r _ p b.2 a
section
variable{K:Nj}{h:MH}
theorem Qcy:∀(l:List (Addr×List V)) (c:List (List W)) {R:Rn} {H:Hp},Rh K R h H->(l.map (·.1)).Nodup->(∀p∈l,H p.1=none)->Paired (fun ws (p:Addr×List V)=>Rws K R ws p.2) c l->∃R',Ext R R'/\Rh K R' h (QeY l H)/\Rws K R' (c.map .tup) (l.map fun p=>.ref p.1)
 |[],_,R,H,i,_,_,j=>by
  cases j;exact⟨R,Ext.refl _,i,Rws.nil⟩
 | p::r,_,R,H,i,m,t,j=>by
  cases j with
  |@cons ws _ c _ u h2=>
  rw[NA,EF]at m;obtain⟨R1,o,g,e⟩:=i.tup (t p Ny) u
  obtain⟨R2,n,f,d⟩:=Qcy r c g m.2 (fun q s=>by
   rw[Qp (fun z=>m.1 (by rw[<-z];exact EW s))]
   exact t q (Nu _ s)) (Paired.mapP h2 fun a b z=>Rws.mono o _ _ z)
  exact⟨R2,o.trans n,f,Rws.cons (Rw.mono n _ _ e) d⟩
end
theorem Qh3(e:(Zd P w).is k u=true):RelV (kV k) u:=by
 rcases QR e with⟨i,t,rfl,rfl⟩|⟨x,t,rfl,rfl⟩
 ·exact⟨t,rfl⟩
 ·exact⟨t,rfl⟩
theorem Qk7{K:Nj}:Rw K R (kW k) (kV k):=by
 cases k with
 |inl i=>unfold kW kV Rw;rfl
 |inr x=>unfold kW kV Rw;rfl
section
variable{X:Cx}
theorem QaP{K:Nj}:∀{kvs:List (Key×W)} {a:List (Key×V)},DicR K R kvs a->kvs.map (·.1)=a.map (·.1)
 |_,_,.nil=>rfl
 |_,_,.cons h t=>by rw[NA,NA,QaP t,h.1]
theorem GF{K:Nj}{g:Heap}:∀{kvs:List (Key×W)} {o:List (Key×V)} {vs:List (Key×Value)} {as:List Addr},DicR K R kvs o->KV o vs->as.length=vs.length ->
  (∀(j:Nat) (a:Addr),as[j]?=some a->∃key k x,vs[j]?=some (k,x)/\(Zd P w).is k key=true/\g.get? a=some { cls:=.type "tuple",data:=.seq #[key,x] }) ->
  ∃l:List (Addr×List V),l.map (·.1)=as/\Paired (fun ws (p:Addr×List V)=>Rws K R ws p.2) (kvs.map fun p=>[kW p.1,p.2]) l/\∀p∈l,p.2.length=2/\∃c:List Value,Vals p.2 c/\g.get? p.1=some { cls:=.type "tuple",data:=.seq c.toArray }
 |_,_,_,[],.nil,.nil,_,_=>⟨[],rfl,.nil,fun _ e=>nomatch e⟩
 |_,_,_,_::_,.nil,.nil,d,_=>by simp at d
 |_,_,_,[],.cons _ _,.cons _ _,d,_=>by simp at d
 | _,_,_,a::as,.cons (a:=p) (b:=q) h t,.cons (b:=r) h' t',d,e=>by
  obtain⟨l,B,A,y⟩:=GF (P:=P) (w:=w) (g:=g) t t' (as:=as) (by simpa using d) fun j b v=>by
   obtain⟨key,k,x,m,i,f⟩:=e (j+1) b (by simpa using v);exact⟨key,k,x,by simpa using m,i,f⟩
  obtain⟨key,k,x,m,i,f⟩:=e 0 a rfl;have s:r=(k,x):=by simpa using m
  subst s;have u:q.1=k:=h'.1;refine⟨(a,[kV k,q.2])::l,by rw[NA,B],.cons ?_ A,fun z n=>?_⟩
  ·show Rws K R [kW p.1,p.2] [kV k,q.2];rw[h.1,u];exact Rws.cons Qk7 (Rws.cons h.2 Rws.nil)
  ·rcases NH.mp n with rfl|n
   ·exact⟨rfl,[key,x],.cons (Qh3 i) (.cons h'.2 .nil),f⟩
   ·exact y z n
theorem Y4{p1 p2 O i:Pos}(hc:X.calm=true)(hg:Gl X "sorted")(hm:X.mg "sorted"=none)(he:PM X e me)
  (E:attributeBase e "items" X.env (eval e X.env)=eval e X.env:=by rfl) (C:(p2.endLine==i.line)=true:=by rfl) :
  PM X (.Call (.Name "sorted" p1) [.Call (.Attribute e "items" p2) [] [] i] [] O) (Qiz me):=by
 intro t s σ H Q I ⟨R,af,h,w,h',rh,st,e1,kk⟩;obtain⟨⟨a,h1⟩,e2,e3⟩:=Na.mp e1;unfold Qjv at e3;obtain⟨ap,e4,e5⟩:=Na.mp e3;split at e5
 ·rename_i hz;cases e5;obtain⟨n,rfl,hn⟩:=Ya e4;obtain⟨ss,am,ak⟩:=hz.1;refine E1 (XU I hg hm IT (DQ ?_ (Q1 rfl) (JS rfl)) (by decide) (by decide));rw[Q1 (e:=.Call (.Attribute e "items" p2) [] [] i) rfl];refine Ft (IQ E C (thn (he t s σ H (fun v H2=>∃R2,Ext R R2/\Rh X.K R2 h1 H2/\Rw X.K R2 (.ref n) v) I ⟨R,af,h,.ref n,h1,rh,st,e2,fun R2 H2 v x f ra=>⟨R2,x,f,ra⟩⟩) fun u d ⟨v,r,I1,ru,R2,x2,f,ra⟩=>?_));obtain⟨_,rfl,kx,hx,dr⟩:=f.dicAt ra hn;have aj:tyW h1 "dict" (.ref n)=true:=by simp only[tyW,hn];decide
  obtain⟨t1,t2⟩:=QcH I1 ru (QdU f ra aj);obtain rfl:u=Value.ref (R2.ρ n):=ru;obtain⟨z,lo,vs,rel,dd⟩:=Qkn I1.hok hx;refine⟨"dict","dict.items",IU,IV,PySem.F.type_dict_items,t1,t2,FL rfl (L0 ?_)⟩;refine call_meetsIn IV dd.typeIs PySem.F.entry_dict_items (PySem.F.args_dict_items_1 _) (meets_dict_items (Zd X.prog X.w) (R2.ρ n) lo) ⟨⟨vs,dd⟩,FI ?_⟩;have l1:=Ec dr;have l2:=rel.length;refine Dc.sorted_view (s:={ d with heap:=d.heap.push { cls:=.type "dict_items",data:=.fields #[.ref (R2.ρ n)] } }) (ss:=ss) (I1.ok.hd hc) (FE _ _) ⟨_,NK _ rfl,rfl,rfl⟩ (dd.push _) (by rw[<-rel.keys,<-QaP dr];exact am) ak (Nf (Nh (Nt l2.symm) (Nt l1.symm)) hz.2) fun D g tk c as kp hD ab Y S an al ao=>?_;have P:(d.heap.push { cls:=.type "dict_items",data:=.fields #[.ref (R2.ρ n)] }).objs.size=d.heap.objs.size+1:=FE _ _;have ah:∀b o,d.heap.get? b=some o->g.get? b=some o:=fun b o q=>kp b o (Np _ q);obtain⟨l,B,q2,q3⟩:=GF (K:=X.K) (R:=R2) dr rel Y al;have fr:∀b,d.heap.objs.size+1<=b->r b=none:=fun b G=>I1.hok.fresh (IA G);have j:∀p∈l,d.heap.objs.size+1<=p.1:=fun p y=>by rw[<-P];exact an p.1 (by rw[<-B];exact EW y)
  obtain⟨R3,x3,N,L⟩:=Qcy l _ f (by rw[B];exact S) (fun p y=>fr p.1 (j p y)) q2;have ae:d.heap.objs.size+1<=D:=by rw[<-P];exact hD
  have aa:QeY l r D=none:=by rw[Kl l r D (by rw[B];exact ab)];exact fr D ae
  obtain⟨R4,x4,M,A⟩:=N.lstI (p:=D) aa L
  have low:∀b,b<d.heap.objs.size->upd (QeY l r) D (.lst (l.map fun p=>.ref p.1)) b=r b:=fun b G=>by
   rw[Qp (NM (Nd G (IA ae))),Kl l r b fun z=>?_];obtain⟨p,y,rfl⟩:=NT.mp z;exact absurd G (NN.mpr (IA (j p y)))
  refine⟨.ref D,upd (QeY l r) D (.lst (l.map fun p=>.ref p.1)),(Inv.lays (t':=tk) (s:=d) I1 ah low fun b o G e=>?_:Inv X t σ _ { d with heap:=g,toks:=tk }),rfl,kk R4 _ _ (x2.trans (x3.trans x4)) M (by rw[N8]at A;exact A)⟩
  have m:Vals (l.map fun p=>V.ref p.1) (as.map Value.ref):=by
   rw[<-B,N8];clear B q2 q3 j N L M A low e aa
   induction l with
   |nil=>exact .nil
   |cons p l ih=>exact .cons rfl ih
  by_cases Z:b=D
  ·subst Z;rw[ZK]at e;cases e;have ll:l.length=as.length:=by rw[<-B,NG]
   refine⟨?_,as.map Value.ref,c,m,ao⟩;rw[NG,Ew];lia
  ·rw[Qp Z]at e
   by_cases U:b∈l.map (·.1)
   ·obtain⟨p,y,rfl⟩:=NT.mp U;rw[Qdx l r p (by rw[B];exact S) y]at e;cases e;obtain⟨w1,ai,w2,w3⟩:=q3 p y;exact⟨by rw[w1,Ew];exact by decide,ai,w2,⟨_,w3,rfl,_,rfl⟩⟩
   ·rw[Kl l r b U,I1.hok.fresh G]at e;cases e
 ·cases e5
theorem QdS{K:Nj}{H:Hp}(i:Rh K R h H)(ok:∀a xs,SqT K H a xs->∃o n b,g.get? a=some o/\o.cls=.type "tuple"/\o.data=.seq b.toArray n/\Vals xs b):∀{d:List W} {ps:List (Key×W)} {xs:List V} {us:List Value},prW d=some ps->Rws K R d xs->Vals xs us ->
  ∃(c:List (Key×V)) (vs:List (Key×Value)),DicR K R ps c/\KV c vs/\vs.length=us.length/\∀(j:Nat) (u:Value) (p:Key×Value),us[j]?=some u->vs[j]?=some p->Dc.PairAt (Zd P w) g u p
 |[],ps,xs,us,e,r,v=>by
  cases e;rw[Rws.nil_iff]at r;subst r;cases v;exact⟨[],[],.nil,.nil,rfl,fun j u p hu=>by simp at hu⟩
 | .tup [k,x]::d,ps,xs,us,e,r,v=>by
  obtain⟨y,Y,U⟩:=Na.mp e;obtain⟨qs,S,Q⟩:=Nk.mp U;subst Q;rw[Rws.cons_iff]at r;obtain⟨z,zs,rfl,l,I⟩:=r;cases v with
  |@cons _ u _ us hu B=>
  obtain⟨c,vs,d1,d2,d3,Z⟩:=QdS i ok S I B;unfold Rw at l;obtain⟨a,t,rfl,M,L⟩:=l;obtain⟨o,n,b,g1,g2,g3,O⟩:=ok a t (J1 i.sub M);obtain⟨z1,s,rfl,G,E⟩:=Qme L;obtain⟨A,f,rfl,D,C⟩:=QeP O;have N:=Yn G Y;subst N;obtain rfl:u=Value.ref a:=hu;refine⟨(y,s)::c,(y,f)::vs,.cons ⟨rfl,E⟩ d1,.cons ⟨rfl,C⟩ d2,by simp[d3],fun j u p q m=>?_⟩;cases j with
  |zero=>
   have f1:Value.ref a=u:=by simpa using q
   have f2:(y,f)=p:=by simpa using m
   subst f1;subst f2;exact⟨a,o,n,A,rfl,g1,g2,g3,QfT D⟩
  |succ j=>exact Z j u p (by simpa using q) (by simpa using m)
theorem QiO{K:Nj}:∀{ps a:List (Key×W)} {e c:List (Key×V)},DicR K R ps e->DicR K R a c->DicR K R (QhK a ps) (e.foldl (fun b p=>GR b p.1 p.2) c):=by
 intro ps a e c t d
 induction t generalizing a c with
 |nil=>exact d
 |@cons p q _ _ h t f=>
  show DicR K R (QhK (Qcm _ p.1 p.2) _) (List.foldl _ (GR _ q.1 q.2) _);have:=QcN (k:=p.1) d h.2;rw[h.1]at this;rw[h.1];exact f this
theorem QgK:∀{c e:List (Key×V)} {vs f:List (Key×Value)},KV c vs->KV e f->KV (c.foldl (fun b p=>GR b p.1 p.2) e) (Dc.mrg f vs)
 |_,_,_,_,.nil,d=>d
 |_,_,_,_,.cons (a:=p) (b:=q) h t,d=>by
  show KV (List.foldl _ (GR _ p.1 p.2) _) (Dc.mrg (stored _ q.1 q.2) _);have:=KV.put d p.1 h.2;rw[h.1]at this;rw[h.1];exact QgK t this
theorem QgN:∀(ps a:List (Key×V)),(ps.foldl (fun b p=>GR b p.1 p.2) a).length<=a.length+ps.length
 |[],a=>by simp
 |p::ps,a=>by
  have d:=QgN ps (GR a p.1 p.2);have c:=YU a p.1 p.2;rw[Fo,NP];lia
theorem Yy(hc:X.calm=true):CallR X (.type "dict") (Fs X.K KA):=by
 intro A s σ H L us Q I r q;obtain⟨R,h,ws,w,h',t,f,e,k⟩:=q;unfold KA at e;split at e
 ·rename_i a;obtain⟨ys,e1,e2⟩:=Na.mp e;obtain⟨ps,e3,y⟩:=Na.mp e2;split at y
  ·rename_i hz;cases y;obtain⟨v,rfl,Z⟩:=GS f;obtain⟨ad,L,rfl,q1,Y⟩:=t.lsAt Z e1;obtain⟨u,rfl,U⟩:=UC r;obtain rfl:u=Value.ref ad:=U;obtain⟨c,S,x,hl⟩:=I.list q1
   obtain⟨D,O,G,E,d3,d4⟩:=QdS (P:=X.prog) (w:=X.w) (g:=s.heap) t (fun b zs q=>by
    obtain⟨c,g1,⟨o,g2,g3,n,g4⟩,g5⟩:=I.tuple q
    exact⟨o,n,c,g2,g3,g4,g1⟩) e3 Y S
   ·have l1:=Ec G;have l2:=E.length;obtain⟨⟨oc,ab,ae,aa⟩,m,x,C,B,d⟩:=x;dsimp only at C B d;subst C B d;refine Dc.call_pairs (knd:=Zd X.prog X.w) (ps:=O) (items:=c.toArray) (I.ok.hd hc) x (by simpa using d3) (by rw[Nr,Ew];lia) (fun j u p h1 h2=>d4 j u p (by simpa using h1) h2) fun g tk dd kp=>?_;have hp:=I.hok.fresh (Nw s.heap.objs.size);obtain⟨R3,M,l,i⟩:=t.new (mo:=.dic (QhK [] ps)) (o:=.dK (D.foldl (fun b p=>GR b p.1 p.2) [])) hp fun R' N=>⟨_,rfl,Paired.mapP (QiO G .nil) fun a b z=>⟨z.1,Rw.mono N _ _ z.2⟩⟩
    refine⟨.ref s.heap.objs.size,_,I.laid (t':=tk) kp (Nw _) (show ObjOk X.prog X.w _ _ _ (.dK _)from⟨?_,?_,_,QgK E .nil,dd⟩),rfl,k R3 _ _ M l i⟩
    ·have:=QgN D [];rw[Ew];simp at this;lia
    ·exact beq_eq_false_iff_ne.mpr fun z=>absurd I.big (by rw[<-z];exact Ed _)
  ·cases y
 ·cases e
end
theorem Qf3{K:Nj}(X:K.In h)(G:h.Ns mainGlobals b)(a:FX K mainGlobals x=some (some (.str y t))):Glob K b x (.str y):=
 ⟨.str y,_,FN X G a,⟨t,rfl⟩,fun _=>Rw.str y⟩
theorem Ug:∀(l:List (b×a)),(l.map (·.1)).zip (l.map (·.2))=l
 |[]=>rfl
 |p::l=>by rw[NA,NA,FA,Ug l]
theorem Qjd(f:Nat->Option W):∀(o:MO),QcY o=true->thO f o=some o
 |.lst ws,p=>by show(ths f ws).map MO.lst=_;rw[ZC f ws p];rfl
 |.dic kvs,p=>by show(ths f (kvs.map (·.2))).map (fun vs=>MO.dic ((kvs.map (·.1)).zip vs))=_;rw[ZC f _ p,Fp,Ug]
 |.dct kvs,p=>by show(ths f (kvs.map (·.2))).map (fun vs=>MO.dct ((kvs.map (·.1)).zip vs))=_;rw[ZC f _ p,Fp,Ug]
theorem KD:∀(ns:List Nat) (os:List MO) (h:MH),Zo (UE h) ns=some os->QF ns os h=h
 |[],os,h,_=>by unfold QF;rfl
 | n::ns,os,h,e=>by
  unfold Zo at e;obtain⟨o,a,j⟩:=Na.mp e;obtain⟨r,i,g⟩:=Nk.mp j;subst g
  have f:h[n]?=some o:=by
   unfold UE at a;split at a
   ·rename_i q b;split at a
    ·cases a;exact b
    ·cases a
   ·cases a
  have d:h.set n o=h:=by
   obtain⟨c,b⟩:=Ng.mp f;rw[<-b];exact List.set_getElem_self c
  rw[QF,d];exact KD ns r h i
theorem QaM:∀(ns:List Nat) (os:List MO) (h:MH),Zo (UE h) ns=some os->ns.length=os.length/\∀o∈os,QcY o=true
 |[],os,h,e=>by cases e;exact⟨rfl,fun _ b=>nomatch b⟩
 | n::ns,os,h,e=>by
  unfold Zo at e;obtain⟨o,a,j⟩:=Na.mp e;obtain⟨r,i,g⟩:=Nk.mp j;subst g;obtain⟨f,d⟩:=QaM ns r h i;refine⟨by simp[f],fun x b=>?_⟩
  rcases NH.mp b with rfl|b
  ·unfold UE at a;split at a
   ·split at a
    ·rename_i c;cases a;exact c
    ·cases a
   ·cases a
  ·exact d x b
theorem Yf{os:List MO}(hr:XJ 0 args=some (as,ns))(hd:ns.Nodup)(c:Zo (UE h) ns=some os)(e:m as os=some (w,os++g))(hw:pur w=true):box frN m args h=some (w,h):=by
 obtain⟨s,r⟩:=QaM ns os h c;unfold box;rw[hr,Nv];unfold Qgs;rw[if_pos hd,c];simp only[Nv,e];rw[if_pos (show(frN w).Nodup/\∀j∈frN w,ns.length<=j from⟨EI,fun j t=>by simp[frN]at t⟩),UX _ w hw,Nv]
 have key:∀(f:Nat->Option W) (k:Nat) (a:List MO),(∀i o,a[i]?=some o->(os++g)[k+i]?=some o)->(∀o∈a,QcY o=true)->Zo (fun j=>((os++g)[j]?).bind (thO f)) (List.range' k a.length)=some a:=by
  intro f k a
  induction a generalizing k with
  |nil=>intro _ _;rfl
  |cons x a p=>
   intro l d;rw[NP,FO];unfold Zo;have n:=l 0 x rfl;rw[Fx]at n;rw[n,Nv,p (k+1) (fun i o b=>by have:=l (i+1) o (by simpa using b);rw[show k+1+i=k+(i+1) by exact DT _ _ _];exact this) fun o q=>d o (Nu _ q),Qjd _ x (d x Ny)];rfl
 rw[s,LL,key _ 0 os (fun i o b=>by rw[NX,NQ (Ng.mp b).1];exact b) r,Nv];have:frN w=[]:=rfl;rw[this];simp[Zo,KD ns os h c]
noncomputable def frD:W->List Nat
 |.tup (.ref j::_)=>[j]
 |_=>[]
@[simp]theorem Qpn:Qiz me σ h=@ob _ _ Qjv (me σ h):=id rfl
theorem Qhq(a:h[n]?=some (.dic kvs))(c:Asc kvs)(b:kvs.length<64):Qjv (.ref n,h)=some (.lst (kvs.map Qkq),h):=by
 unfold Qjv;simp only[QeH,a,Nv];rw[if_pos ⟨c,b⟩]
@[simp]theorem Qov:QeH h (.ref n)=match h[n]? with|some (.dic kvs)=>some kvs|_=>none:=id rfl
@[simp]theorem Qqn:Qcl a (.str x) h=@ob _ _ (fun kvs=>@om _ _ (fun v=>(v,h)) (UF kvs (.inr x))) (QeH h a):=id rfl
noncomputable def Qd4(o:W)(k:Key)(v:W)(σ:MSt)(h:MH):Option MF:=match o with
 |.ref n=>match h[n]? with
  |some (.dic a)=>if a.length<sizeLine then some (.nx σ (h.set n (.dic (Qcm a k v))))else none
  |_=>none
 |_=>none
@[simp]theorem Qpg:QbV mo mi mv σ h=@ob _ _ (fun v=>@ob _ _ (fun o=>@ob _ _ (fun i=>@ob _ _ (fun k=>Qd4 o.1 k v.1 σ i.2) (Qi9 i.1)) (mi σ o.2)) (mo σ v.2)) (mv σ h):=by
 unfold QbV ob Qd4;rfl
@[simp]theorem QoM:Qi9 (.str x)=some (.inr x):=id rfl
@[simp]theorem Ql9:Qd4 (.ref n) k v σ h=match h[n]? with
  |some (.dic kvs)=>if kvs.length<sizeLine then some (.nx σ (h.set n (.dic (Qcm kvs k v))))else none
  |_=>none:=id rfl
noncomputable def Qe6(a:W)(ws:List W)(h:MH):Option (W×MH):=match ws with
 |[b,v]=>(QeH h a).bind fun c=>(Qi9 b).map fun k=>((UF c k).getD v,h)
 |_=>none
section
variable{X:Cx}
theorem QfY(hu:X.A.units+64<cLine):QgI X "dict.get" Qe6:=by
 intro g s σ H x xs v us Q I u B q;obtain⟨R,h,a,ws,w,h',f,E,d,e,k⟩:=q;unfold Qe6 at e;split at e
 ·rename_i b dv;obtain⟨G,Y,U⟩:=Na.mp e;obtain⟨i,S,P⟩:=Nk.mp U;cases P;obtain⟨n,rfl,M⟩:=Ya Y;obtain⟨y,z,rfl,D,C⟩:=Qme d;obtain⟨uy,uz,rfl,t,r⟩:=QeP B;obtain⟨_,N,kx,L,Z⟩:=f.dicAt E M;have O:=Yn D S;subst O N;obtain rfl:v=Value.ref (R.ρ n):=u;refine QlS (NW (NO (by decide) _) hu) I (DGet.k (k:=i) L) t r fun p s' j c=>?_
  rcases QaI (k:=i) Z with z|⟨p,v',o,m,l⟩
  ·rw[z.2]at c;rw[z.1]at k;exact⟨_,H,j,c,k R H _ (Ext.refl _) f C⟩
  ·rw[m]at c;rw[o]at k;exact⟨_,H,j,c,k R H _ (Ext.refl _) f l⟩
 ·cases e
@[simp]theorem Qpo:Qe6 a [.str x,v] h=@ob _ _ (fun kvs=>some ((UF kvs (.inr x)).getD v,h)) (QeH h a):=id rfl
end
end Mi
namespace L2
noncomputable def ItE(K:Nj)(a:Addr)(n:Nat):It:=
  ⟨fun i H=>i<n/\∃b,SqL K H a b/\b.length=n,
   fun i H v c=>∃T x,v=.ref T/\H T=none/\c=upd H T (.tup [.int i,x])/\∀b,SqL K H a b->b[i]?=some x,
   fun i H=>n<=i/\∃b,SqL K H a b/\b.length=n⟩
theorem Qb4{K:Nj}(l e it:Addr)(n:Nat)(c:e≠it)(C:l≠e)(B:l≠it):Turn P w K (.Tuple N kk pos) (ItE K l n) [e,it] e (fun i h=>i<=n/\(∃old,IsEnum h e it i old)/\h.IsListIter it l i) where
 mem:=by simp
 obj:=fun i h st b d=>by
  obtain⟨_,⟨old,g⟩,⟨o1,O,c1,d1⟩⟩:=st;have j:b=e\/b=it:=by simpa using d
  rcases j with rfl|rfl
  ·exact⟨_,g,fun v q=>nomatch q⟩
  ·exact⟨o1,O,fun v q=>by rw[d1]at q;cases q⟩
 keep:=fun i h h' st k=>by
  obtain⟨m,⟨old,g⟩,h1⟩:=st;exact⟨m,⟨old,k e (by simp) _ g⟩,h1.at fun o x=>k it (by simp) o x⟩
 item:=by
  intro X M hw hK hc i z s σ H E I hf st hg;subst M hw hK;obtain⟨m,Q,Z,hn⟩:=hg;obtain⟨a,Y,p,hz⟩:=I.list Z;have hl:=Y.length;obtain⟨_,S,U⟩:=st;have W:=OM (prog:=X.prog) (w:=X.w) (Draws.list (A:=X.A.in1) (I.ok.hd hc) it l B a.toArray) e c (by simp[c,EZ C]) (by simp);refine W.item i s _ _ (by rw[Nr];exact Nd (Nd m (Nt hn.symm)) (Nt hl)) ⟨S,U,p.isList⟩ fun T vals h' tk M hT G f hk=>?_;obtain⟨t,u,hu,rfl⟩:=M;refine⟨.ref T,rfl,W.go N kk pos i T _ _ _ f fun ai L D=>?_⟩;obtain⟨x,hx⟩:∃x,Q[i]?=some x:=⟨Q[i]'(Nd m (Nt hn.symm)),Nl _⟩
  obtain⟨v,hv,r⟩:=Y.get hx;have O:v=u:=by have:=hu;rw[FR,hv]at this;exact N5 this
  subst O;have ae:=W.apart i T _ f
  have af:IsTup ai T #[.int i t,v]:=by
   obtain⟨o,ho,ab,q⟩:=G;exact⟨o,D T o ae ho,ab,q⟩
  have ah:=I.hok.fresh hT;refine⟨.ref T,_,I.turnedN (ch:=[e,it]) (t':=tk) (xs:=[.int i,x]) (fun b o d e=>D b o d (hk b o d e)) hf hT ⟨by simp[Ew],[.int i t,v],.cons ⟨t,rfl⟩ (.cons r .nil),af⟩,rfl,⟨T,x,rfl,ah,rfl,fun ys hy=>by rw[I.list_inj hy Z];exact hx⟩,⟨m,L.1,L.2.1⟩,fun b d=>?_⟩;rw[Qp (fun q=>?_)]
  ·exact(hf b d).1
  ·obtain⟨o,ho,_⟩:∃o,s.heap.get? b=some o/\True:=by
    obtain⟨old,g⟩:=S;obtain⟨o1,O,_⟩:=U;have j:b=e\/b=it:=by simpa using d
    rcases j with rfl|rfl
    ·exact⟨_,g,trivial⟩
    ·exact⟨o1,O,trivial⟩
   rw[q]at ho;exact absurd (ND ho) (NN.mpr hT)
 done:=by
  intro X M hw hK hc i z s σ H E I hf st hg;subst M hw hK;obtain⟨m,Q,Z,hn⟩:=hg;obtain⟨a,Y,p,hz⟩:=I.list Z;have hl:=Y.length;obtain⟨aj,S,U⟩:=st;have W:=OM (prog:=X.prog) (w:=X.w) (Draws.list (A:=X.A.in1) (I.ok.hd hc) it l B a.toArray) e c (by simp[c,EZ C]) (by simp);have aa:a.toArray.size=i:=by rw[Nr];lia
  refine W.done s _ _ (by rw[aa];exact⟨S,U,p.isList⟩) fun h' tk hk=>⟨rfl,?_⟩
  exact I.turnedL (ch:=[e,it]) (fun b o d e=>hk b o d e) hf (fun _ _ e=>e) (fun _ _ _ n=>n) fun b u n e=>by rw[n]at e;cases e
 self:=fun _ _ _ _ _ st h=>let⟨_,g⟩:=st.2.1;ON g h
noncomputable def QkC(K:Nj)(f:TA):TI:=fun d H R=>f d H fun e c=>∃a b,e=[.ref a]/\SqL K c a b/\R (ItE K a b.length) c
theorem Qf7{X:Cx}{i:List Expr}(G:Gl X "enumerate")(D:X.mg "enumerate"=none)(L:PA X [a] v)(A:starEach [a] X.env=[(false,eval a X.env)]:=by rfl) :
  PI X (.Tuple i S j) (.Call (.Name "enumerate" p) [a] [] pos) (QkC X.K v):=by
 intro d s o H R I h;refine Call_ (XU I G D boot_enumerate (EG (thn (L pos d s o H _ I h) fun O c r=>?_) A rfl));obtain⟨N,M,I1,x,y⟩:=r;obtain⟨ad,t,e,B,q⟩:=y;subst e;obtain⟨u,rfl,w⟩:=UC x;cases w;obtain⟨z,Q,l,U⟩:=I1.list B;have f:ad<c.heap.objs.size:=let⟨_,C,_⟩:=l.isList;ND C
 refine call_enumerate_list l.isList fun Y m hit _ E=>ON m ?_;refine⟨c.heap.objs.size+1,[c.heap.objs.size+1,c.heap.objs.size],_,_,M,rfl,I1.kept (t':=c.toks) E,Qb4 ad _ _ t.length (Nat.succ_ne_self _) (NM (Er f)) (NM f),⟨NJ _,⟨_,m⟩,hit⟩,fun b n=>?_,q⟩
 have g:c.heap.objs.size<=b:=by
  simp at n
  rcases n with h|h<;>(rw[h];first|exact Nw _|exact Nm _ _)
 exact I1.fpOk g (I1.hok.fresh g)
end L2
namespace Mi
open L2
noncomputable def Ut(c:MA):MI:=fun a h=>(c a h).bind fun p=>match p.1 with
 |[.lst b]=>some (Y9 b,none,p.2)
 |_=>none
section
variable{K:Nj}{R:Rn}
theorem QbT(l:SqL K R.F a xs)(r:Rws K R ws xs):ItOk K R (ItE K a xs.length) (Y9 ws) none where
 go:=fun i w p h H x d _ e=>by
  have c:=(Ng.mp e).1;have g:=r.length;unfold Y9 at c;rw[NG,Os]at c;exact⟨by exact Nd c (Nt g),xs,ZA (fun b o z=>d.sub b o (x.f b o z)) l,rfl⟩
 yld:=fun i w p h H x D e d _ m q=>by
  obtain⟨T,A,rfl,hT,rfl,s⟩:=q;unfold Y9 at m;rw[Nz,List.getElem?_zipIdx]at m;obtain⟨⟨C,j⟩,y,rfl⟩:=Nk.mp m;obtain⟨B,u,t⟩:=Nk.mp y;cases t;obtain⟨v,g1,g2⟩:=r.get u;have n:=s xs (ZA (fun b o z=>d.sub b o (e.f b o z)) l);rw[g1]at n;cases n;rw[NX];exact d.tup hT (Rws.cons (by unfold Rw;rfl) (Rws.cons (Rw.mono e _ _ g2) Rws.nil))
 stop:=fun i p h H x d _ c=>by
  have g:=r.length;unfold Y9 at c;rw[NG,Os]at c;exact⟨by exact Nh (Nt g.symm) c,xs,ZA (fun b o z=>d.sub b o (x.f b o z)) l,rfl⟩
end
section
variable{X:Cx}{tg a:Expr}{ms:MA}{p pos tpos:Pos}{elts:List Expr}{kk:Nat}
theorem Qeg(u:Gl X "enumerate")(t:X.mg "enumerate"=none)(w:PMA X [a] ms)(s:starEach [a] X.env=[(false,eval a X.env)]:=by rfl):PMI X (.Tuple elts kk tpos) (.Call (.Name "enumerate" p) [a] [] pos) (Ut ms):=
 Qa4 (Qf7 u t w s) fun A H C i=>by
  obtain⟨R,c,h,items,n,E,r,st,e,k⟩:=i;obtain⟨⟨m,x⟩,y,d⟩:=Na.mp e;refine⟨R,c,h,m,x,r,st,y,fun R1 z B l b o=>?_⟩;split at d
  ·rename_i D g;simp only at g;subst g;cases d;obtain⟨v,rfl,f⟩:=GS o;unfold Rw at f;obtain⟨ad,j,rfl,hF,q⟩:=f;exact⟨ad,j,rfl,ZA b.sub (.inl (.inl hF)),k R1 z _ l b (QbT (.inl (.inl hF)) q)⟩
  ·cases d
end
end Mi
namespace Sb
open PySem SetTable
noncomputable abbrev pz(t:SetTable)(a:Array (Int×Value)):List (Nat×(Int×Value)):=t.place.toList.zip a.toList
structure Tab(t:SetTable)(es:Array (Int×Value)):Prop where
 up:Up t.place
 dum:t.dummies=#[]
 len:t.place.size=es.size
 le:∀j∈t.place.toList,j<=t.mask
 own:∀q∈pz t es,∃n,sj t.mask q.2.1 n=q.1/\∀k,k<n->sj t.mask q.2.1 k∈t.place.toList
theorem Tab.fill(T:Tab t a):t.fill=a.size:=by
 unfold SetTable.fill;rw[T.dum,T.len];rfl
theorem Tab.fits(T:Tab t a)(h:a.size<=t.mask):t.fits a.size=true:=by
 unfold SetTable.fits;rw[T.fill,T.len];simp[h]
open L2
def Szs(t:SetTable)(n:Nat):Prop:=(t.mask=7/\n<=4)\/(t.mask=31/\n<=18)\/(t.mask=127/\n<=76)\/(t.mask=511/\n<=306)
theorem Szs.full(h:Szs t n):Qe5 t.mask:=by
 rcases h with⟨e,_⟩|⟨e,_⟩|⟨e,_⟩|⟨e,_⟩<;>rw[e]
 ·exact Qnx
 ·exact QjS
 ·exact QhG
 ·exact Qiq
theorem Szs.lt(h:Szs t n):n<t.mask/\t.mask<=511/\t.gaveWay=false:=by
 unfold gaveWay
 rcases h with⟨e,_⟩|⟨e,_⟩|⟨e,_⟩|⟨e,_⟩<;>rw[e]<;>exact⟨by lia,by decide,by decide⟩
section
variable{prog:Program}{w:World}{A:Around}{E:Value->Shared->Prop}{s:Shared}
def Els(w:World)(h:Heap)(a:Array (Int×Value)):Prop:=∀e∈a.toList,∃k b,e.2=.ref b/\L2.IsT h 8 k (.ref b)/\e.1=hN w 8 k
end
noncomputable abbrev Ex(h h':Heap):Prop:=∀b o,h.get? b=some o->h'.get? b=some o
theorem QaV(e:Ex h h')(x:h.IsTuple a b):h'.IsTuple a b:=by obtain⟨o,c,r⟩:=x;exact⟨o,e _ _ c,r⟩
theorem Qa6(e:Ex h h'):∀{n:Nat} (k:Tr) (v:Value),L2.IsT h n k v->L2.IsT h' n k v
 |0,_,_,x=>x.elim
 |n+1,.i k,v,x=>x
 |n+1,.s k,v,x=>x
 |n+1,.t ks,v,⟨a,b,q,p,r⟩=>⟨a,b,q,QaV e p,Vc (fun k v=>Qa6 e k v) r⟩
section
variable{prog:Program}{w:World}{A:Around}{E:Value->Shared->Prop}{s:Shared}{h₀:Heap}{G:Value->Prop}
def SetT(w:World)(G:Value->Prop)(h₀ h:Heap)(a:Addr)(ks:List Tr)(led:Bool):Prop:=
 ∃o b c t,h.get? a=some o/\o.ExactSet/\o.data=.set b c t/\Tab t b/\Szs t b.size/\t.led=led/\Els w h₀ b/\ks.Nodup/\b.size=ks.length/\(∀k,k∈ks↔∃e∈b.toList,L2.IsT h₀ 8 k e.2)/\∀e∈b.toList,G e.2
theorem SetT.at{led:Bool}(x:SetT w G h₀ h a ks led)(e:∀o,h.get? a=some o->h'.get? a=some o):SetT w G h₀ h' a ks led:=by obtain⟨o,c,d,t,b,r⟩:=x;exact⟨o,c,d,t,e _ b,r⟩
theorem SetT.lt{led:Bool}(x:SetT w G h₀ h a ks led):a<h.objs.size:=by obtain⟨_,_,_,_,b,_⟩:=x;exact ND b
theorem SetT.typeIs{led:Bool}(x:SetT w G h₀ s.heap a ks led):s.TypeIs (.ref a) "set":=by obtain⟨o,_,_,_,c,b,_⟩:=x;exact⟨o,c,b.1⟩
theorem Els.mono(e:Ex h h')(x:Els w h g):Els w h' g:=fun q f=>let⟨k,b,d,c,a⟩:=x q f;⟨k,b,d,Qa6 e _ _ c,a⟩
theorem SetT.store{h:Heap}(e:h.get? a=some o)(d:o.ExactSet)(hd:o.data=.set g ep t) :
  ∃c,(h.update a (Obj.putSet b t')).get? a=some (Obj.putSet b t' o)/\(Obj.putSet b t' o).ExactSet/\(Obj.putSet b t' o).data=.set b c t':=by
 have g1:(h.update a (Obj.putSet b t')).get? a=some (Obj.putSet b t' o):=EK _ e (by rw[Ii b t' hd];rfl);have g2:(Obj.putSet b t' o).ExactSet:=by rw[Ii b t' hd];exact d
 have g3:∃c,(Obj.putSet b t' o).data=.set b c t':=by rw[Ii b t' hd];exact⟨_,rfl⟩
 obtain⟨c,f⟩:=g3;exact⟨c,g1,g2,f⟩
end
section
variable{prog:Program}{w:World}{A:Around}{E:Value->Shared->Prop}{s:Shared}{G₁:Value->Prop}
def QpW(h:Heap)(items:Array Value)(a:List Tr):Prop:=a.length=items.size/\∀(i:Nat) (v:Value),items[i]?=some v->∃(k:Tr) (x:Addr),a[i]?=some k/\v=Value.ref x/\L2.IsT h 8 k (Value.ref x)
end
theorem Qbs[DecidableEq e]:∀(ks a:List e),ks.Nodup->(∀k∈ks,k∈a)->a.length=ks.length->a.Perm ks
 |[],a,_,_,h=>by rw[N7.mp h]
 |k::r,a,nd,c,h=>by
  have d:=c k Ny;rw[EF]at nd;refine(LM d).trans (List.Perm.cons k (Qbs r (a.erase k) nd.2 (fun x b=>?_) ?_))
  ·exact(FZ (fun z=>nd.1 (by rw[<-z];exact b))).mpr (c x (Nu _ b))
  ·rw[Fy d,h];rfl
section
variable{prog:Program}{w:World}{A:Around}{E:Value->Shared->Prop}{s:Shared}{h₀:Heap}{G:Value->Prop}
theorem Qak{vs:List Value}(B:Els w h₀ g)(z:ks.Nodup)(y:g.size=ks.length)(u:∀k,k∈ks↔∃e∈g.toList,L2.IsT h₀ 8 k e.2)(t:∀e∈g.toList,G e.2)(p:vs.Perm (g.toList.map (·.2))):∃n,QpW h₀ vs.toArray n/\n.Perm ks/\∀v∈vs,G v:=by
 have a:∀v∈vs,∃k x,v=.ref x/\L2.IsT h₀ 8 k (.ref x):=fun v a=>by
  obtain⟨e,d,rfl⟩:=NT.mp (p.mem_iff.mp a);obtain⟨k,b,D,C,_⟩:=B e d;exact⟨k,b,D,C⟩
 letI:∀p:Prop,Decidable p:=fun p=>Classical.propDecidable p
 let f:Value->Tr:=fun v=>if h:∃k x,v=.ref x/\L2.IsT h₀ 8 k (.ref x)then Classical.choose h else .i 0
 have o:∀v∈vs,∃x,v=.ref x/\L2.IsT h₀ 8 (f v) (.ref x):=fun v h=>by
  have:=a v h;show∃x,v=.ref x/\L2.IsT h₀ 8 (if h:∃k x,v=.ref x/\L2.IsT h₀ 8 k (.ref x)then Classical.choose h else .i 0) (.ref x);rw[dif_pos this];exact FS this
 refine⟨vs.map f,⟨by simp,fun i v e=>?_⟩,Qbs ks _ z (fun k r=>?_) ?_,fun v a=>by
  obtain⟨e,d,rfl⟩:=NT.mp (p.mem_iff.mp a)
  exact t e d⟩
 ·have q:vs[i]?=some v:=by simpa using e
  obtain⟨x,l,j⟩:=o v (EO q);exact⟨f v,x,by rw[Nz,q];rfl,l,j⟩
 ·obtain⟨e,d,c⟩:=(u k).mp r;have m:e.2∈vs:=p.mem_iff.mpr (NT.mpr ⟨e,d,rfl⟩);obtain⟨x,l,j⟩:=o _ m;refine NT.mpr ⟨e.2,m,?_⟩;rw[l]at c;exact YE _ _ _ j c
 ·rw[NG,p.length_eq,NG,NB,y]
end
inductive Sh where
 |i
 |s
 |t (l:List Sh)
noncomputable def Wf:Nat->Sh->Tr->Prop
 |0,_,_=>False
 |_+1,.i,k=>∃n,k=.i n
 |_+1,.s,k=>∃x,k=.s x
 |n+1,.t l,k=>∃ks,k=.t ks/\Paired (Wf n) l ks
noncomputable def lex(lt:Tr->Tr->Bool):List Tr->List Tr->Bool
 |k::ks,l::ls=>if k=l then lex lt ks ls else lt k l
 |_,_=>false
noncomputable def ltN:Nat->Tr->Tr->Bool
 |0,_,_=>false
 |_+1,.i a,.i b=>decide (a<b)
 |_+1,.s a,.s b=>decide (a.cps.toList<b.cps.toList)
 |n+1,.t ks,.t ls=>lex (ltN n) ks ls
 |_+1,_,_=>false
theorem Qll{a b:Str}(h:a.cps.toList=b.cps.toList):a=b:=by
 obtain⟨a⟩:=a;obtain⟨b⟩:=b;congr 1;exact OY.mp h
theorem QiP(i:∀sh a b,Wf n sh a->Wf n sh b->a≠b->ltN n a b=true\/ltN n b a=true)(p:Paired (Wf n) l ks)(q:Paired (Wf n) l ls)(h:ks≠ls):lex (ltN n) ks ls=true\/lex (ltN n) ls ks=true:=by
 induction p generalizing ls with
 |nil=>cases q;exact absurd rfl h
 |@cons _ k _ ks f o g=>
  obtain _|⟨e,d⟩:=q
  rename_i m r
  by_cases c:k=m
  ·subst c;simp only[lex,if_true];exact g d fun z=>h (by rw[z])
  ·have j:¬m=k:=fun z=>c z.symm;simp only[lex,c,j,if_false];exact i _ k m f e c
theorem QaH:∀(n:Nat) (sh:Sh) (a b:Tr),Wf n sh a->Wf n sh b->a≠b->ltN n a b=true\/ltN n b a=true
 |0,_,_,_,h,_,_=>h.elim
 | n+1,sh,a,b,e,d,h=>by
  cases sh with
  |i=>
   obtain⟨x,rfl⟩:=e;obtain⟨y,rfl⟩:=d;have:x≠y:=fun z=>h (by rw[z]);simp only[ltN,decide_eq_true_eq];lia
  |s=>
   obtain⟨x,rfl⟩:=e;obtain⟨y,rfl⟩:=d;simp only[ltN,decide_eq_true_eq]
   by_cases c:x.cps.toList<y.cps.toList
   ·exact .inl c
   ·right;refine Em fun f=>h ?_;rw[Qll (OZ (List.not_lt.mp f) (List.not_lt.mp c))]
  |t l=>
   obtain⟨j,rfl,p⟩:=e;obtain⟨g,rfl,q⟩:=d;simp only[ltN];exact QiP (QaH n) p q fun z=>h (by rw[z])
theorem Qej:∀(n:Nat) (a:Tr),ltN n a a=false
 |0,_=>rfl
 |n+1,.i x=>by simp[ltN]
 |n+1,.s x=>by simp only[ltN,decide_eq_false_iff_not];exact LC _
 |n+1,.t ks=>by
  simp only[ltN]
  induction ks with
  |nil=>rfl
  |cons k ks b=>simp only[lex,if_true];exact b
theorem Qeh(w:∀sh a b c,Wf n sh a->Wf n sh b->Wf n sh c->ltN n a b=true->ltN n b c=true->ltN n a c=true)(p:Paired (Wf n) l ks)(q:Paired (Wf n) l ls)(r:Paired (Wf n) l f)(d:lex (ltN n) ks ls=true)(h2:lex (ltN n) ls f=true):lex (ltN n) ks f=true:=by
 induction p generalizing ls f with
 |nil=>cases q;cases r;exact d
 | @cons _ k _ ks u x v=>
  obtain _|⟨t,s⟩:=q
  obtain _|⟨j,i⟩:=r
  rename_i m ls o f;simp only[lex]at d h2 ⊢
  by_cases g:k=m
  ·subst g;rw[if_pos rfl]at d
   by_cases e:k=o
   ·subst e;rw[if_pos rfl]at h2 ⊢;exact v s i d h2
   ·rw[if_neg e]at h2 ⊢;exact h2
  ·rw[if_neg g]at d
   by_cases e:m=o
   ·subst e;rw[if_neg g];exact d
   ·rw[if_neg e]at h2;have:=w _ k m o u t j d h2
    by_cases h:k=o
    ·subst h;rw[Qej]at this;cases this
    ·rw[if_neg h];exact this
theorem YF:∀(n:Nat) (sh:Sh) (a b c:Tr),Wf n sh a->Wf n sh b->Wf n sh c->ltN n a b=true->ltN n b c=true->ltN n a c=true
 |0,_,_,_,_,h,_,_,_,_=>h.elim
 | n+1,sh,a,b,c,f,e,d,g,h2=>by
  cases sh with
  |i=>
   obtain⟨x,rfl⟩:=f;obtain⟨y,rfl⟩:=e;obtain⟨z,rfl⟩:=d;simp only[ltN,decide_eq_true_eq]at *;exact Int.lt_trans g h2
  |s=>
   obtain⟨x,rfl⟩:=f;obtain⟨y,rfl⟩:=e;obtain⟨z,rfl⟩:=d;simp only[ltN,decide_eq_true_eq]at *;exact List.lt_trans g h2
  |t l=>
   obtain⟨o,rfl,p⟩:=f;obtain⟨m,rfl,q⟩:=e;obtain⟨j,rfl,r⟩:=d;simp only[ltN]at *;exact Qeh (YF n) p q r g h2
theorem Vf:∀(a b:List Tr),(∀t∈a,Wf 8 sh t)->a.Perm b->(a.Pairwise fun x y=>ltN 8 y x=false)->(b.Pairwise fun x y=>ltN 8 y x=false)->a=b
 |[],b,_,p,_,_=>(List.nil_perm.mp p).symm
 |x::r,[],_,p,_,_=>by cases List.perm_nil.mp p
 | x::r,y::t,w,p,d,c=>by
  rw[Ot]at d c
  have f:x=y:=by
   have e:y∈x::r:=p.mem_iff.mpr Ny;have h:x∈y::t:=p.mem_iff.mp Ny
   rcases NH.mp e with z|z
   ·exact z.symm
   ·rcases NH.mp h with q|q
    ·exact q
    ·refine Em fun ne=>?_
     rcases QaH 8 sh x y (w x Ny) (w y e) ne with u|u
     ·rw[c.1 x q]at u;cases u
     ·rw[d.1 y z]at u;cases u
  subst f;rw[Vf r t (fun t g=>w t (Nu _ g)) (Oq p) d.2 c.2]
open Classical in
noncomputable def srtT(ks:List Tr):List Tr:=if h:∃a:List Tr,a.Perm ks/\a.Pairwise fun x y=>ltN 8 y x=false then h.choose else[]
theorem srtT_eq(w:∀t∈ks,Wf 8 sh t)(p:ss.Perm ks)(h:ss.Pairwise fun x y=>ltN 8 y x=false):srtT ks=ss:=by
 have a:∃ss:List Tr,ss.Perm ks/\ss.Pairwise fun x y=>ltN 8 y x=false:=⟨ss,p,h⟩
 unfold srtT;rw[dif_pos a];exact Vf (sh:=sh) _ _ (fun t b=>w t (a.choose_spec.1.mem_iff.mp b)) (a.choose_spec.1.trans p.symm) a.choose_spec.2 h
noncomputable def rk(a:List Tr)(t:Tr):Nat:=a.countP fun u=>ltN 8 u t
theorem QbC:∀{l:List i},(∀x∈l,p x=true->q x=true)->(∃x∈l,q x=true/\p x=false)->l.countP p<l.countP q
 |[],_,⟨_,h,_⟩=>nomatch h
 | a::l,e,⟨x,d,h2,f⟩=>by
  have le:l.countP p<=l.countP q:=LD fun y b=>e y (Nu _ b);rw[Fc,Fc]
  rcases NH.mp d with rfl|d
  ·rw[if_neg (by rw[f];simp),if_pos h2];lia
  ·have g:=QbC (l:=l) (fun y b=>e y (Nu _ b)) ⟨x,d,h2,f⟩;have:=e a Ny
   by_cases c:p a=true
   ·rw[if_pos c,if_pos (this c)];exact Fe g _
   ·rw[if_neg c];split<;>omega
theorem Qnm(w:∀t∈d,Wf 8 sh t)(f:a∈d)(g:b∈d):(rk d a<rk d b)↔ltN 8 a b=true:=by
 constructor
 ·intro h;cases c:ltN 8 a b with
  |true=>rfl
  | false=>
   exfalso
   have:rk d b<=rk d a:=by
    unfold rk;refine LD fun u hu z=>?_
    by_cases e:a=b
    ·rw[e];exact z
    ·rcases QaH 8 sh a b (w a f) (w b g) e with y|y
     ·rw[c]at y;cases y
     ·exact YF 8 sh u b a (w u hu) (w b g) (w a f) z y
   exact O0 this h
 ·intro h;unfold rk;exact QbC (fun u hu z=>YF 8 sh u a b (w u hu) (w a f) (w b g) z h) ⟨a,f,h,Qej 8 a⟩
open PySem.W SeqAt
def LtAt(A:Around)(s:Shared)(p q:Value)(b:Bool):Prop:=∀(a:Program) (w:World) (E:Value->Shared->Prop) (Q:Value->Shared->Prop),Q (.bool b) s->wpAny (model a w) A (richCompare .Lt p q) Q E s
inductive LexAt(A:Around)(s:Shared)(fin:Bool):List (Value×Value)->Bool->Prop where
 |nil:LexAt A s fin [] fin
 |same {p q:Value} {r:List (Value×Value)} {b:Bool}:EqAt A s p q true->LexAt A s fin r b->LexAt A s fin ((p,q)::r) b
 |diff {p q:Value} {r:List (Value×Value)} {b:Bool}:EqAt A s p q false->LtAt A s p q b->LexAt A s fin ((p,q)::r) b
theorem Qb1(l b:Addr)(items a:Array Value)(n v:Nat)(dd r:Option Addr)(u i:Array (Option Value))(c:Bool) :
  Meets (Builtin.«tuple.__lt__» ⟨[.ref l,.ref b],[]⟩)
   (fun A R s=>s.heap.get? l=some { cls:=.type "tuple",dict:=dd,data:=.seq items n,slots:=u }/\s.heap.get? b=some { cls:=.type "tuple",dict:=r,data:=.seq a v,slots:=i } /\
    LexAt A.in1 s (decide (items.size<a.size)) (items.toList.zip a.toList) c/\R (.ok (.ret (.bool c))) s):=
 .of_wp fun e w A R s h=>by
  obtain⟨t,g,d,tk,os⟩:=s;obtain⟨z,C,B,h⟩:=h;have f2:=II
  wp_walk using DR z,DR C,wpAny_forIn_list _ (fun rest b j=>b.1=none/\j=⟨t,g,d,tk,os⟩/\LexAt A.in1 ⟨t,g,d,tk,os⟩ (decide (items.size<a.size)) rest c) _
  case turn=>
   rintro⟨y,x⟩ rest b j ⟨f,o,m⟩
   subst o;cases m with
   |same q p=>
    refine Nc (q e w _ _ ?_)
    wp_walk
    exact⟨rfl,rfl,p⟩
   |diff q p=>
    refine Nc (q e w _ _ ?_);simp only[Bool.not_false,if_true];refine Nc (FF (Nc (p e w _ _ ?_)))
    wp_walk
    exact⟨_,rfl,h⟩
  case fin=>
   rintro⟨b1,b2⟩ j ⟨f,rfl,m⟩
   simp only at f;subst f;cases m
   wp_walk
   exact⟨_,rfl,by simpa[Builtin.Tuple.tupleCompareSizes]using h⟩
  case h=>
   exact⟨rfl,rfl,B⟩
section
variable{A:Around}{s:Shared}
theorem LtAt.tuples(t:s.heap.IsTuple l items)(v:s.heap.IsTuple b a)(hu:A.units<cLine)
  (u:LexAt A.in1 s (decide (items.size<a.size)) (items.toList.zip a.toList) c):LtAt A s (.ref l) (.ref b) c:=fun j w E Q h=>by
 obtain⟨⟨cls,dd,data,q⟩,m,o,n,hd⟩:=id t;obtain⟨⟨p,i,data2,g⟩,d,f,r,e⟩:=id v;simp only at o hd f e;subst o hd f e
 exact richCompare_meets_room (op:=.Lt) ⟨_,m,rfl⟩ ⟨_,d,rfl⟩ F.slot_tuple_lt F.entry_tuple_lt (F.args_tuple_lt_2 _ _) (Qb1 l b items a n r dd i q g c)
  ⟨m,d,u,show Value.bool c≠Value.notImplemented/\Q (.bool c) s from⟨(fun x=>nomatch x),h⟩⟩ hu
noncomputable def IsQ(h:Heap):Nat->Tr->Value->Prop
 |0,_,_=>False
 |_+1,.i k,v=>∃t,v=.int k t
 |_+1,.s x,v=>∃t,v=.str x t
 |n+1,.t ks,v=>∃a b,v=.ref a/\h.IsTuple a b/\Paired (IsQ h n) ks b.toList
theorem WK:∀{n:Nat} (k:Tr) (v:Value),IsQ h n k v->L2.IsT h n k v
 |0,_,_,x=>x.elim
 |n+1,.i k,v,x=>.inl x
 |n+1,.s y,v,x=>x
 |n+1,.t ks,v,⟨a,b,e,p,q⟩=>⟨a,b,e,p,Vc (fun k v=>WK k v) q⟩
theorem Yh(e:Ex h h'):∀{n:Nat} (k:Tr) (v:Value),IsQ h n k v->IsQ h' n k v
 |0,_,_,x=>x.elim
 |n+1,.i k,v,x=>x
 |n+1,.s k,v,x=>x
 |n+1,.t ks,v,⟨a,b,q,p,r⟩=>⟨a,b,q,QaV e p,Vc (fun k v=>Yh e k v) r⟩
theorem Qld(A:Around)(hu:A.units+n<cLine)(o:∀sh x y u v,Wf n sh x->Wf n sh y->IsQ s.heap n x u->IsQ s.heap n y v->LtAt A s u v (ltN n x y))
  (p:Paired (Wf n) l ks) (q:Paired (Wf n) l ls) (r:Paired (IsQ s.heap n) ks us) (t:Paired (IsQ s.heap n) ls vs):LexAt A s false (us.zip vs) (lex (ltN n) ks ls):=by
 induction p generalizing ls us vs with
 |nil=>cases q;cases r;cases t;exact .nil
 |@cons _ k _ ks i w j=>
  obtain _|⟨h,g⟩:=q
  obtain _|⟨b,f⟩:=r
  obtain _|⟨a,d⟩:=t
  rename_i m z u us v vs;have e:=QjD n A hu k m u v (WK _ _ b) (WK _ _ a);rw[FA];unfold lex
  by_cases c:k=m
  ·rw[if_pos c];rw[decide_eq_true c]at e;exact .same e (j g f d)
  ·rw[if_neg c];rw[decide_eq_false c]at e;exact .diff e (o _ k m u v i h b a)
theorem QgA{us vs:Array Value}(p:Paired (Wf n) l ks)(q:Paired (Wf n) l ls)(r:Paired (IsQ h n) ks us.toList)(t:Paired (IsQ h n) ls vs.toList):us.size=vs.size:=by
 have f:=Ec p;have e:=Ec q;have d:=Ec r;have c:=Ec t;have b:us.toList.length=us.size:=NB ..;have a:vs.toList.length=vs.size:=NB ..;lia
theorem QmR:∀(n:Nat) (A:Around),A.units+n<cLine->∀sh x y u v,Wf n sh x->Wf n sh y->IsQ s.heap n x u->IsQ s.heap n y v->LtAt A s u v (ltN n x y)
 |0,_,_,_,_,_,_,_,h,_,_,_=>h.elim
 | n+1,A,hu,sh,x,y,u,v,e,d,g,f=>by
  cases sh with
  |i=>
   obtain⟨x,rfl⟩:=e;obtain⟨y,rfl⟩:=d;obtain⟨t,rfl⟩:=g;obtain⟨r,rfl⟩:=f;intro c w E Q h;show wpAny _ _ (compareOp .Lt _ _) _ _ _;refine PyProof.Rows.lt_int ?_;simpa only[ltN]using h
  |s=>
   obtain⟨x,rfl⟩:=e;obtain⟨y,rfl⟩:=d;obtain⟨t,rfl⟩:=g;obtain⟨r,rfl⟩:=f;intro c w E Q h;show wpAny _ _ (compareOp .Lt _ _) _ _ _;refine PyProof.Rows.lt_str ?_;simpa only[ltN]using h
  |t l=>
   obtain⟨G,rfl,p⟩:=e;obtain⟨D,rfl,q⟩:=d;obtain⟨a,z,rfl,C,m⟩:=g;obtain⟨b,o,rfl,B,j⟩:=f;refine LtAt.tuples C B (Nf (Nm _ _) hu) ?_;rw[QgA p q m j];simp only[Ed,decide_false,ltN];exact Qld A.in1 (by show A.units+1+n<cLine;lia) (QmR n A.in1 (by show A.units+1+n<cLine;lia)) p q m j
end
end Sb
namespace Ts
open PySem.W
set_option autoImplicit false
noncomputable def Jn:Bool->Keyed->Array Keyed->Nat->Nat->Nat->StateT SortSt Sem (Option Nat):=sortPriv% PySem.Builtin.gallop
section
variable{prog:Program}{w:World}{A:Around}{E:Value->Shared->Prop}{s:Shared}
def T(prog:Program)(w:World)(A:Around)(E:Value->Shared->Prop)(s:Shared){c:Type}(m:StateT SortSt Sem c)(P:c->SortSt->Prop)(st:SortSt):Prop:=
 ∀tk,kasC (model prog w) A E m (fun a b d=>(∃t,d={ s with toks:=t })/\P a b) st { s with toks:=tk }
theorem Qj{b:Type}{a:b}{P:b->SortSt->Prop}{st:SortSt}(h:P a st):T prog w A E s (pure a) P st:=fun tk=>kasC_pure ⟨⟨tk,rfl⟩,h⟩
theorem Qg{d c:Type}{m:StateT SortSt Sem d}{g:d->StateT SortSt Sem c}{P:c->SortSt->Prop}{st:SortSt}
  (h:T prog w A E s m (fun a b=>T prog w A E s (g a) P b) st):T prog w A E s (m>>=g) P st:=fun tk=>by
 refine kasC_bind (NU (h tk) (fun r j i=>?_) fun _ _ e=>e);obtain⟨⟨t,rfl⟩,f⟩:=i;exact f t
theorem QV{c:Type}{m:StateT SortSt Sem c}{P f:c->SortSt->Prop}{st:SortSt}(h:T prog w A E s m P st)(g:∀a b,P a b->f a b):T prog w A E s m f st:=
 fun tk=>NU (h tk) (fun _ _ d=>⟨d.1,g _ _ d.2⟩) fun _ _ e=>e
theorem Y7{P:SortSt->SortSt->Prop}{st:SortSt}(h:P st st):T prog w A E s get P st:=fun tk=>kasC_get ⟨⟨tk,rfl⟩,h⟩
theorem Jb{g:SortSt->SortSt}{P:PUnit->SortSt->Prop}{st:SortSt}(h:P ⟨⟩ (g st)):T prog w A E s (modify g) P st:=fun tk=>kasC_modify ⟨⟨tk,rfl⟩,h⟩
theorem QmV{a:SortSt}{P:PUnit->SortSt->Prop}{st:SortSt}(h:P ⟨⟩ a):T prog w A E s (set a) P st:=fun tk=>by
 unfold kasC;rw[StateT.run_set];exact Nq ⟨⟨tk,rfl⟩,h⟩
theorem Wv{x:String}{P:Unit->SortSt->Prop}{st:SortSt}(h:P () st):T prog w A E s (liftM (rule x):StateT SortSt Sem Unit) P st:=fun tk=>kasC_lift (FF ⟨⟨tk,rfl⟩,h⟩)
theorem Qg4{f:Type}(g:Nat->f->StateT SortSt Sem (ForInStep f))(I:List Nat->f->SortSt->Prop)(Q:f->SortSt->Prop)
  (a:∀x rest b st,I (x::rest) b st->T prog w A E s (g x b) (fun r c=>match r with|.done e=>Q e c|.yield e=>I rest e c) st)
  (d:∀b st,I [] b st->Q b st):∀(l:List Nat) (b:f) (st:SortSt),I l b st->T prog w A E s (forIn l b g) Q st
 |[],b,st,h=>by rw[List.forIn_nil];exact Qj (d _ _ h)
 |x::rest,b,st,h=>by
  rw[O6];refine Qg (QV (a x rest b st h) fun r c h'=>?_);cases r with
  |done e=>exact Qj h'
  |yield e=>exact Qg4 g I Q a d rest e c h'
theorem Xn{o:Type}{a b:Nat}{g:Nat->o->StateT SortSt Sem (ForInStep o)}(I:Nat->o->SortSt->Prop){Q:o->SortSt->Prop}
  (f:∀i c st,a<=i->i<b->I i c st->T prog w A E s (g i c) (fun r e=>match r with|.done t=>Q t e|.yield t=>I (i+1) t e) st)
  (q:∀c st,I (max a b) c st->Q c st) {c:o} {st:SortSt} (h:I a c st):T prog w A E s (forIn [a:b] c g) Q st:=by
 rw[L6];have u:([a:b]:Std.Legacy.Range).size=b-a:=by simp[Std.Legacy.Range.size]
 show T prog w A E s (forIn (List.range' a ([a:b]:Std.Legacy.Range).size 1) c g) Q st;rw[u];refine Qg4 g (fun l c st=>∃i,a<=i/\i<=max a b/\l=List.range' i (max a b-i) 1/\I i c st) Q ?_ ?_ _ c st ⟨a,Nw _,by exact I0 _ _,by congr 1;omega,h⟩
 ·rintro x rest c st ⟨i,m,p,j,z⟩
  have y:i<max a b:=by
   rcases IJ i (max a b)with d|d
   ·exact d
   ·rw[show max a b-i=0 by lia]at j;simp at j
  obtain⟨n,v⟩:∃n,max a b-i=n+1:=⟨max a b-i-1,by lia⟩
  rw[v,FO]at j;obtain⟨rfl,rfl⟩:=List.cons.inj j;refine QV (f x c st m (by lia) z) fun r e d=>?_;cases r with
  |done t=>exact d
  |yield t=>exact⟨x+1,by exact Nh m (Nm _ _),by exact y,by congr 1;lia,d⟩
 ·rintro c st ⟨i,m,p,j,z⟩
  have:i=max a b:=by
   rcases IJ i (max a b)with d|d
   ·obtain⟨n,v⟩:∃n,max a b-i=n+1:=⟨max a b-i-1,by omega⟩
    rw[v,FO]at j;simp at j
   ·exact Eh p d
  subst this;exact q _ _ z
def Cmp(prog:Program)(w:World)(A:Around)(s:Shared)(κ:SortKind)(M:Keyed->Prop)(f:Keyed->Int):Prop:=
 ∀x y,M x->M y->∀(tk:Nat) (C:Bool->Shared->Prop),(∀t,C (decide (f x<f y)) { s with toks:=t })->wpAny (model prog w) A (keyLt' κ x.1 y.1) C (fun _ _=>False) { s with toks:=tk }
variable{κ:SortKind}{M:Keyed->Prop}{f:Keyed->Int}
theorem Qkz{x y:Keyed}{P:Option Bool->SortSt->Prop}{st:SortSt}(e:Cmp prog w A s κ M f)(d:kindOf st=κ)(c:M x)(b:M y)(h:P (some (decide (f x<f y))) st):T prog w A E s (lt' x y) P st:=by
 rw[lt'_eq];refine Qg (Y7 ?_);refine Qg (m:=liftM (keyLt' (kindOf st) x.1 y.1).attempt) fun tk=>kasC_lift (LV ?_);rw[d];refine NU (e x y c b tk _ fun t=>(?_:(∃a,({ s with toks:=t }:Shared)={ s with toks:=a })/\_)) (fun _ _ h=>h) fun _ _ h=>h.elim;exact⟨⟨t,rfl⟩,Qj h⟩
theorem Q8{xs:Array Keyed}{i:Nat}{P:Keyed->SortSt->Prop}{st:SortSt}(hi:i<xs.size)(h:P xs[i] st):T prog w A E s (elem' xs i) P st:=by
 rw[elem'_eq,getElem?_pos xs i hi];exact Qj h
end
theorem QbL(left:Bool)(key:Keyed)(arr:Array Keyed)(base n hint:Nat):Jn left key arr base n hint=(do
 let b (i:Nat):StateT SortSt Sem (Option Bool):=do
  let x <-elem' arr (base+i)
  if left then lt' x key else return(<-lt' key x).map (!·)
 let mut lastofs:=0
 let mut ofs:=1
 let mut lo:=0
 let mut hi:=0
 let some right <-b hint|return none
 if right then
  let a:=n-hint
  for _ in [0:n] do
   if ofs >= a then break
   let some more <-b (hint+ofs)|return none
   if !more then break
   lastofs:=ofs
   ofs:=2*ofs+1
  lo:=hint+lastofs+1
  hi:=hint+min ofs a
 else
  let a:=hint+1
  for _ in [0:n] do
   if ofs >= a then break
   let some found <-b (hint-ofs)|return none
   if found then break
   lastofs:=ofs
   ofs:=2*ofs+1
  lo:=hint+1-min ofs a
  hi:=hint-lastofs
 for _ in [0:n] do
  if lo >= hi then break
  let m:=lo+(hi-lo)/2
  let some more <-b m|return none
  if more then lo:=m+1 else hi:=m
 return some hi):=rfl
set_option autoImplicit false
section
variable{prog:Program}{w:World}{A:Around}{E:Value->Shared->Prop}{s:Shared}{κ:SortKind}{M:Keyed->Prop}{f:Keyed->Int}
noncomputable def bey(f:Keyed->Int)(left:Bool)(key x:Keyed):Bool:=if left=true then decide (f x<f key)else !decide (f key<f x)
theorem Qfv{left:Bool}{key:Keyed}{arr:Array Keyed}{i:Nat}{P:Option Bool->SortSt->Prop}{st:SortSt}(d:Cmp prog w A s κ M f)(c:kindOf st=κ)(a:M key)(hi:i<arr.size)(b:M arr[i])(h:P (some (bey f left key arr[i])) st) :
  T prog w A E s (do
   let x <-elem' arr i
   if left then lt' x key else return(<-lt' key x).map (!·)) P st:=by
 refine Qg (Q8 hi ?_);cases left with
 |true=>exact Qkz d c b a h
 |false=>exact Qg (Qkz d c a b (Qj h))
noncomputable def Qo6(left:Bool)(key:Keyed)(arr:Array Keyed)(base n lo hi:Nat):StateT SortSt Sem (Option Nat):=do
 let mut lo:=lo
 let mut hi:=hi
 for _ in [0:n] do
  if lo >= hi then break
  let m:=lo+(hi-lo)/2
  let some more <-(do
   let x <-elem' arr (base+m)
   if left then lt' x key else return(<-lt' key x).map (!·))|return none
  if more then lo:=m+1 else hi:=m
 return some hi
theorem Qkr{left:Bool}{key:Keyed}{arr:Array Keyed}{base n lo hi:Nat}{P:Option Nat->SortSt->Prop}{st:SortSt}(B:Cmp prog w A s κ M f)(z:kindOf st=κ)(o:M key)
  (G:base+n<=arr.size) (y:∀i (h:i<arr.size),M arr[i]) (mono:∀i j (hi:base+i<arr.size) (H:base+j<arr.size),i<=j->j<n->bey f left key arr[base+j]=true->bey f left key arr[base+i]=true)
  (q:lo<=hi) (t:hi<=n) (bl:∀i (h:base+i<arr.size),i<lo->bey f left key arr[base+i]=true) (D:∀i (h:base+i<arr.size),hi<=i->i<n->bey f left key arr[base+i]=false)
  (h:∀k,k<=n->(∀i (hi:base+i<arr.size),i<k->bey f left key arr[base+i]=true)->(∀i (hi:base+i<arr.size),k<=i->i<n->bey f left key arr[base+i]=false)->P (some k) st) :
  T prog w A E s (Qo6 left key arr base n lo hi) P st:=by
 unfold Qo6
 refine Qg (QV (Xn (I:=fun x c a=>a=st/\∃l r,c=(none,l,r)/\l<=r/\r<=n/\r-l<=n-x/\(∀i (h:base+i<arr.size),i<l->bey f left key arr[base+i]=true)/\(∀i (h:base+i<arr.size),r<=i->i<n->bey f left key arr[base+i]=false))
  (Q:=fun c a=>a=st/\∃l r,c=(none,l,r)/\r<=n/\l=r/\(∀i (h:base+i<arr.size),i<l->bey f left key arr[base+i]=true)/\(∀i (h:base+i<arr.size),r<=i->i<n->bey f left key arr[base+i]=false)) ?_ ?_ ⟨rfl,lo,hi,rfl,q,t,by lia,bl,D⟩) ?_)
 ·rintro i c a _ p ⟨rfl,l,r,rfl,v,m,C,g,d⟩
  dsimp only
  by_cases b:l >= r
  ·rw[if_pos b];exact Qj ⟨rfl,l,r,rfl,m,by exact Eh v b,g,d⟩
  ·rw[if_neg b];refine Qg (Qfv B z o (by lia) (y _ _) ?_);cases u:bey f left key arr[base+(l+(r-l)/2)]with
   |true=>
    refine Qj ⟨rfl,l+(r-l)/2+1,r,rfl,by lia,m,by omega,fun i h hi=>mono i (l+(r-l)/2) _ (by lia) (by lia) (by lia) u,d⟩
   |false=>
    refine Qj ⟨rfl,l,l+(r-l)/2,rfl,by exact Nm _ _,by lia,by omega,g,fun i h hi p=>?_⟩;cases e:bey f left key arr[base+i]with
    |false=>rfl
    |true=>rw[mono (l+(r-l)/2) i (Nf (NL hi _) h) h hi p e]at u;exact absurd u (by simp)
 ·rintro c a ⟨rfl,l,r,rfl,v,m,C,g,d⟩
  exact⟨rfl,l,r,rfl,m,by lia,g,d⟩
 ·rintro c a ⟨rfl,l,r,rfl,m,rfl,g,d⟩
  exact Qj (h l m g d)
theorem V9{left:Bool}{key:Keyed}{arr:Array Keyed}{base n hint:Nat}{P:Option Nat->SortSt->Prop}{st:SortSt}(C:Cmp prog w A s κ M f)(B:kindOf st=κ)(b:M key)
  (y:base+n<=arr.size) (G:hint<n) (z:∀i (h:i<arr.size),M arr[i]) (N:∀i j (hi:i<arr.size) (v:j<arr.size),base<=i->i<=j->j<base+n->f arr[i]<=f arr[j])
  (h:∀k,k<=n->(∀i (hi:base+i<arr.size),i<k->bey f left key arr[base+i]=true)->(∀i (hi:base+i<arr.size),k<=i->i<n->bey f left key arr[base+i]=false)->P (some k) st) :
  T prog w A E s (Jn left key arr base n hint) P st:=by
 rw[QbL]
 have mono:∀i j (hi:base+i<arr.size) (v:base+j<arr.size),i<=j->j<n->bey f left key arr[base+j]=true->bey f left key arr[base+i]=true:=by
  intro i j hi v u t;have:=N (base+i) (base+j) hi v (Nm _ _) (NL u _) (NO t _);unfold bey;cases left<;>simp<;>lia
 have r:∀i j (hi:base+i<arr.size) (v:base+j<arr.size),i<=j->j<n->bey f left key arr[base+i]=false->bey f left key arr[base+j]=false:=by
  intro i j hi v u t e;cases O:bey f left key arr[base+j]with
  |false=>rfl
  |true=>rw[mono i j hi v u t O]at e;exact absurd e (by simp)
 dsimp only;refine Qg (Qfv C B b (Nd (NO G _) y) (z _ _) ?_);cases hr:bey f left key arr[base+hint]with
 | true=>
  dsimp only;rw[if_pos rfl]
  refine Qg (QV (Xn (I:=fun x c a=>a=st/\∃l o,c=(none,l,o)/\l<o/\x+1<=o/\hint+l<n/\(∀(h:base+(hint+l)<arr.size),bey f left key arr[base+(hint+l)]=true))
   (Q:=fun c a=>a=st/\∃l o,c=(none,l,o)/\l<o/\hint+l<n/\(∀(h:base+(hint+l)<arr.size),bey f left key arr[base+(hint+l)]=true)/\(∀(h:base+(hint+o)<arr.size),hint+o<n->bey f left key arr[base+(hint+o)]=false)) ?_ ?_ ⟨rfl,0,1,rfl,by exact by decide,by exact by decide,by omega,fun _=>hr⟩) ?_)
  ·rintro i c a _ m ⟨rfl,l,o,rfl,q,L,d,g⟩
   dsimp only
   by_cases p:o >= n-hint
   ·rw[if_pos p];exact Qj ⟨rfl,l,o,rfl,q,d,g,fun _ h=>by omega⟩
   ·rw[if_neg p];refine Qg (Qfv C B b (by lia) (z _ _) ?_);cases D:bey f left key arr[base+(hint+o)]with
    |true=>exact Qj ⟨rfl,o,2*o+1,rfl,by lia,by lia,by lia,fun _=>D⟩
    |false=>exact Qj ⟨rfl,l,o,rfl,q,d,g,fun _ _=>D⟩
  ·rintro c a ⟨rfl,l,o,rfl,q,L,d,g⟩
   exact⟨rfl,l,o,rfl,q,d,g,fun _ h=>by lia⟩
  ·rintro c a ⟨rfl,l,o,rfl,q,d,g,H⟩
   refine Qkr (lo:=hint+l+1) (hi:=hint+min o (n-hint)) C B b y z mono (by omega) (by omega) (fun i h hi=>mono i (hint+l) h (Nd (NO d _) y) (by lia) d (g (Nd (NO d _) y))) (fun i h hi m=>r (hint+o) i (by lia) h (by omega) m (H (by omega) (by lia))) h
 | false=>
  dsimp only;rw[if_neg (by simp)]
  refine Qg (QV (Xn (I:=fun x c a=>a=st/\∃l o,c=(none,l,o)/\l<o/\x+1<=o/\l<=hint/\(∀(h:base+(hint-l)<arr.size),bey f left key arr[base+(hint-l)]=false))
   (Q:=fun c a=>a=st/\∃l o,c=(none,l,o)/\l<o/\l<=hint/\(∀(h:base+(hint-l)<arr.size),bey f left key arr[base+(hint-l)]=false)/\(∀(h:base+(hint-o)<arr.size),o<=hint->bey f left key arr[base+(hint-o)]=true)) ?_ ?_ ⟨rfl,0,1,rfl,by exact by decide,by exact by decide,by exact NJ _,fun _=>hr⟩) ?_)
  ·rintro i c a _ m ⟨rfl,l,o,rfl,q,L,d,g⟩
   dsimp only
   by_cases p:o >= hint+1
   ·rw[if_pos p];exact Qj ⟨rfl,l,o,rfl,q,d,g,fun _ h=>by lia⟩
   ·rw[if_neg p];refine Qg (Qfv C B b (by lia) (z _ _) ?_);cases D:bey f left key arr[base+(hint-o)]with
    |true=>exact Qj ⟨rfl,l,o,rfl,q,d,g,fun _ _=>D⟩
    |false=>exact Qj ⟨rfl,o,2*o+1,rfl,by omega,by omega,by lia,fun _=>D⟩
  ·rintro c a ⟨rfl,l,o,rfl,q,L,d,g⟩
   exact⟨rfl,l,o,rfl,q,d,g,fun _ h=>by lia⟩
  ·rintro c a ⟨rfl,l,o,rfl,q,d,g,H⟩
   refine Qkr (lo:=hint+1-min o (hint+1)) (hi:=hint-l) C B b y z mono (by omega) (Nn (Nf (NZ _ _) G)) (fun i h hi=>mono i (hint-o) h (by lia) (by omega) (Nf (NZ _ _) G) (H (by omega) (by omega))) (fun i h hi m=>r (hint-l) i (Nf (NL hi _) h) h hi m (g (Nf (NL hi _) h))) h
end
set_option autoImplicit false
noncomputable def K5:Array Keyed->Array Keyed->StateT SortSt Sem (Array Keyed):=sortPriv% PySem.Builtin.mergeLo
noncomputable def K0:Array Keyed->Array Keyed->StateT SortSt Sem (Array Keyed):=sortPriv% PySem.Builtin.mergeHi
noncomputable def WL(g:Nat)(st:SortSt):SortSt:=SortSt.mk' (kindOf st) (arrOf st) (pendingOf st) g (failedOf st)
theorem Qas(a b:Array Keyed):K5 a b=(do
 rule "list.sort.merge-lo"
 let d:=a.size+b.size
 let done (out:Array Keyed) (ia ib:Nat):=out++a.extract ia a.size++b.extract ib b.size
 let c (out:Array Keyed) (ia ib:Nat):=out++b.extract ib b.size++a.extract ia a.size
 let mut out:Array Keyed:=#[<-elem' b 0]
 let mut ia:=0
 let mut ib:=1
 if ib==b.size then return done out ia ib
 if ia+1==a.size then return c out ia ib
 let mut minGallop:=gallopOf (<-get)
 for _ in [0:d] do
  let mut acount:=0
  let mut bcount:=0
  for _ in [0:d] do
   let some e <-lt' (<-elem' b ib) (<-elem' a ia)|return done out ia ib
   if e then
    out:=out.push (<-elem' b ib);ib:=ib+1;bcount:=bcount+1;acount:=0
    if ib==b.size then return done out ia ib
    if bcount >= minGallop then break
   else
    out:=out.push (<-elem' a ia);ia:=ia+1;acount:=acount+1;bcount:=0
    if ia+1==a.size then return c out ia ib
    if acount >= minGallop then break
  rule "list.sort.gallop"
  minGallop:=minGallop+1
  for _ in [0:d] do
   if minGallop>1 then minGallop:=minGallop-1
   modify (WL minGallop)
   let some k <-Jn false (<-elem' b ib) a ia (a.size-ia) 0|return done out ia ib
   acount:=k
   if k>0 then
    out:=out++a.extract ia (ia+k);ia:=ia+k
    if ia+1==a.size then return c out ia ib
    if ia==a.size then return done out ia ib
   out:=out.push (<-elem' b ib);ib:=ib+1
   if ib==b.size then return done out ia ib
   let some k <-Jn true (<-elem' a ia) b ib (b.size-ib) 0|return done out ia ib
   bcount:=k
   if k>0 then
    out:=out++b.extract ib (ib+k);ib:=ib+k
    if ib==b.size then return done out ia ib
   out:=out.push (<-elem' a ia);ia:=ia+1
   if ia+1==a.size then return c out ia ib
   if acount<7&&bcount<7 then break
  minGallop:=minGallop+1
  modify (WL minGallop)
 unsupported "internal:list.sort.merge-bound"):=rfl
theorem Qae(a b:Array Keyed):K0 a b=(do
 rule "list.sort.merge-hi"
 let d:=a.size+b.size
 let done (out:Array Keyed) (na nb:Nat):=a.extract 0 na++b.extract 0 nb++out.reverse
 let c (out:Array Keyed) (na nb:Nat):=b.extract 0 nb++a.extract 0 na++out.reverse
 let mut na:=a.size-1
 let mut nb:=b.size
 let mut out:Array Keyed:=#[<-elem' a na]
 if na==0 then return done out na nb
 if nb==1 then return c out na nb
 let mut minGallop:=gallopOf (<-get)
 for _ in [0:d] do
  let mut acount:=0
  let mut bcount:=0
  for _ in [0:d] do
   let some f <-lt' (<-elem' b (nb-1)) (<-elem' a (na-1))|return done out na nb
   if f then
    na:=na-1;out:=out.push (<-elem' a na);acount:=acount+1;bcount:=0
    if na==0 then return done out na nb
    if acount >= minGallop then break
   else
    nb:=nb-1;out:=out.push (<-elem' b nb);bcount:=bcount+1;acount:=0
    if nb==1 then return c out na nb
    if bcount >= minGallop then break
  rule "list.sort.gallop"
  minGallop:=minGallop+1
  for _ in [0:d] do
   if minGallop>1 then minGallop:=minGallop-1
   modify (WL minGallop)
   let some e <-Jn false (<-elem' b (nb-1)) a 0 na (na-1)|return done out na nb
   let k:=na-e
   acount:=k
   if k>0 then
    out:=out++(a.extract e na).reverse;na:=e
    if na==0 then return done out na nb
   nb:=nb-1;out:=out.push (<-elem' b nb)
   if nb==1 then return c out na nb
   let some e <-Jn true (<-elem' a (na-1)) b 0 nb (nb-1)|return done out na nb
   let k:=nb-e
   bcount:=k
   if k>0 then
    out:=out++(b.extract e nb).reverse;nb:=e
    if nb==1 then return c out na nb
    if nb==0 then return done out na nb
   na:=na-1;out:=out.push (<-elem' a na)
   if na==0 then return done out na nb
   if acount<7&&bcount<7 then break
  minGallop:=minGallop+1
  modify (WL minGallop)
 unsupported "internal:list.sort.merge-bound"):=rfl
structure J(f:Keyed->Int)(la lb o:List Keyed)(ia ib:Nat):Prop where
 pm:(o++(la.drop ia++lb.drop ib)).Perm (la++lb)
 so:o.Pairwise fun x y=>f x<=f y
 ua:∀x∈o,∀y∈la.drop ia,f x<=f y
 ub:∀x∈o,∀y∈lb.drop ib,f x<=f y
variable{f:Keyed->Int}{la lb o:List Keyed}{ia ib:Nat}
theorem J.swap(h:J f la lb o ia ib):J f lb la o ib ia:=⟨(Dp o Dq).trans (h.pm.trans Dq),h.so,h.ub,h.ua⟩
theorem J.chunk(h:J f la lb o ia ib)(sa:la.Pairwise fun x y=>f x<=f y)(k:Nat)(d:∀x∈(la.drop ia).take k,∀y∈lb.drop ib,f x<=f y):J f la lb (o++(la.drop ia).take k) (ia+k) ib:=by
 have e:la.drop ia=(la.drop ia).take k++la.drop (ia+k):=by rw[<-LF,EB]
 have c:=Dr (DY ia la) sa;rw[e,ES]at c;refine⟨?_,?_,?_,?_⟩
 ·have:=h.pm;rw[e]at this;simpa[N6]using this
 ·rw[ES];refine⟨h.so,c.1,fun x a y b=>h.ua x a y ?_⟩;rw[e];exact Et _ b
 ·intro x a y b
  rcases N9.mp a with a|a
  ·exact h.ua x a y (by rw[e];exact NY _ b)
  ·exact c.2.2 x a y b
 ·intro x a y b
  rcases N9.mp a with a|a
  ·exact h.ub x a y b
  ·exact d x a y b
theorem QbB{l:List Keyed}{i:Nat}(hi:i<l.length):(l.drop i).take 1=[l[i]]:=by
 rw[Ea hi];rfl
theorem J.one(h:J f la lb o ia ib)(sa:la.Pairwise fun x y=>f x<=f y)(hi:ia<la.length)(c:∀y∈lb.drop ib,f la[ia]<=f y):J f la lb (o++[la[ia]]) (ia+1) ib:=by
 have:=h.chunk sa 1;rw[QbB hi]at this;exact this fun x b y a=>by rw[NR.mp b];exact c y a
def Out(f:Keyed->Int)(la lb r:List Keyed):Prop:=r.Perm (la++lb)/\r.Pairwise fun x y=>f x<=f y
theorem J.endB(h:J f la lb o ia ib)(sa:la.Pairwise fun x y=>f x<=f y)(a:lb.length<=ib):Out f la lb (o++la.drop ia++lb.drop ib):=by
 have e:lb.drop ib=[]:=Ee a;refine⟨by rw[N6];exact h.pm,?_⟩;rw[e,EE,ES];exact⟨h.so,Dr (DY ia la) sa,h.ua⟩
theorem J.endA(h:J f la lb o ia ib)(sb:lb.Pairwise fun x y=>f x<=f y)(a:la.length<=ia):Out f la lb (o++la.drop ia++lb.drop ib):=by
 have e:la.drop ia=[]:=Ee a;refine⟨by rw[N6];exact h.pm,?_⟩;rw[e,EE,ES];exact⟨h.so,Dr (DY ib lb) sb,h.ub⟩
theorem J.lastA(h:J f la lb o ia ib)(sa:la.Pairwise fun x y=>f x<=f y)(sb:lb.Pairwise fun x y=>f x<=f y)(b:∀x∈lb.drop ib,∀y∈la.drop ia,f x<=f y):Out f la lb (o++lb.drop ib++la.drop ia):=by
 refine⟨by rw[N6];exact(Dp o Dq).trans h.pm,?_⟩;rw[N6,ES,ES];refine⟨h.so,⟨Dr (DY ib lb) sb,Dr (DY ia la) sa,b⟩,fun x c y a=>?_⟩
 rcases N9.mp a with a|a
 ·exact h.ub x c y a
 ·exact h.ua x c y a
end Ts
namespace Ts
open PySem.W
set_option autoImplicit false
noncomputable abbrev LoS:=Option (Array Keyed)×Array Keyed×Nat×Nat×Nat
noncomputable abbrev InS:=Option (Array Keyed)×Array Keyed×Nat×Nat×Nat×Nat
noncomputable abbrev GaS:=Option (Array Keyed)×Array Keyed×Nat×Nat×Nat×Nat×Nat
theorem QT{f:Type}{c:Prop}[Decidable c]{a b e d:f}(g:a=e)(h2:b=d):ite c a b=ite c e d:=by rw[g,h2]
theorem Qo{a b:Type}{m:StateT SortSt Sem a}{g g':a->StateT SortSt Sem b}(h:∀x,g x=g' x):(m>>=g)=(m>>=g'):=by rw[funext h]
theorem Zy{a b:Type}{m:StateT SortSt Sem (Option a)}{g g':Option a->StateT SortSt Sem b}(d:g none=g' none)(c:∀x,g (some x)=g' (some x)):(m>>=g)=(m>>=g'):=Qo fun x=>by cases x;exact d;exact c _
section
variable(a b:Array Keyed)
noncomputable def Qmn(d:Nat)(_:Nat)(s:InS):StateT SortSt Sem (ForInStep InS):=do
 let y <-elem' b s.2.2.2.1
 let x <-elem' a s.2.2.1
 match <-lt' y x with
 | some c=>
  if c=true then do
   let y <-elem' b s.2.2.2.1
   if(s.2.2.2.1+1==b.size)=true then pure (.done (some (s.2.1.push y++a.extract s.2.2.1 a.size++b.extract (s.2.2.2.1+1) b.size),s.2.1.push y,s.2.2.1,s.2.2.2.1+1,0,s.2.2.2.2.2+1))
   else if s.2.2.2.2.2+1 >= d then pure (.done (none,s.2.1.push y,s.2.2.1,s.2.2.2.1+1,0,s.2.2.2.2.2+1))
   else pure (.yield (none,s.2.1.push y,s.2.2.1,s.2.2.2.1+1,0,s.2.2.2.2.2+1))
  else do
   let x <-elem' a s.2.2.1
   if(s.2.2.1+1+1==a.size)=true then pure (.done (some (s.2.1.push x++b.extract s.2.2.2.1 b.size++a.extract (s.2.2.1+1) a.size),s.2.1.push x,s.2.2.1+1,s.2.2.2.1,s.2.2.2.2.1+1,0))
   else if s.2.2.2.2.1+1 >= d then pure (.done (none,s.2.1.push x,s.2.2.1+1,s.2.2.2.1,s.2.2.2.2.1+1,0))
   else pure (.yield (none,s.2.1.push x,s.2.2.1+1,s.2.2.2.1,s.2.2.2.2.1+1,0))
 |_=>pure (.done (some (s.2.1++a.extract s.2.2.1 a.size++b.extract s.2.2.2.1 b.size),s.2.1,s.2.2.1,s.2.2.2.1,s.2.2.2.2.1,s.2.2.2.2.2))
noncomputable def Qln(out:Array Keyed)(c d f ac e:Nat):StateT SortSt Sem (ForInStep GaS):=do
 let x <-elem' a c
 if(c+1+1==a.size)=true then pure (.done (some (out.push x++b.extract d b.size++a.extract (c+1) a.size),out.push x,c+1,d,f,ac,e))
 else if(decide (ac<7)&&decide (e<7))=true then pure (.done (none,out.push x,c+1,d,f,ac,e))
 else pure (.yield (none,out.push x,c+1,d,f,ac,e))
noncomputable def Qj1(out:Array Keyed)(d c e ac f:Nat):StateT SortSt Sem (ForInStep GaS):=do
 let y <-elem' b c
 if(c+1==b.size)=true then pure (.done (some (out.push y++a.extract d a.size++b.extract (c+1) b.size),out.push y,d,c+1,e,ac,f))
 else do
  let x <-elem' a d
  match <-Jn true x b (c+1) (b.size-(c+1)) 0 with
  | some k=>
   if k>0 then
    if(c+1+k==b.size)=true then pure (.done (some (out.push y++b.extract (c+1) (c+1+k)++a.extract d a.size++b.extract (c+1+k) b.size),out.push y++b.extract (c+1) (c+1+k),d,c+1+k,e,ac,k))
    else Qln a b (out.push y++b.extract (c+1) (c+1+k)) d (c+1+k) e ac k
   else Qln a b (out.push y) d (c+1) e ac k
  |_=>pure (.done (some (out.push y++a.extract d a.size++b.extract (c+1) b.size),out.push y,d,c+1,e,ac,f))
noncomputable def QjC(out:Array Keyed)(c d e ac f:Nat):StateT SortSt Sem (ForInStep GaS):=do
 modify (WL e)
 let y <-elem' b d
 match <-Jn false y a c (a.size-c) 0 with
 | some k=>
  if k>0 then
   if(c+k+1==a.size)=true then pure (.done (some (out++a.extract c (c+k)++b.extract d b.size++a.extract (c+k) a.size),out++a.extract c (c+k),c+k,d,e,k,f))
   else if(c+k==a.size)=true then pure (.done (some (out++a.extract c (c+k)++a.extract (c+k) a.size++b.extract d b.size),out++a.extract c (c+k),c+k,d,e,k,f))
   else Qj1 a b (out++a.extract c (c+k)) (c+k) d e k f
  else Qj1 a b out c d e k f
 |_=>pure (.done (some (out++a.extract c a.size++b.extract d b.size),out,c,d,e,ac,f))
noncomputable def Qoc(_:Nat)(s:GaS):StateT SortSt Sem (ForInStep GaS):=
 if s.2.2.2.2.1>1 then QjC a b s.2.1 s.2.2.1 s.2.2.2.1 (s.2.2.2.2.1-1) s.2.2.2.2.2.1 s.2.2.2.2.2.2 else QjC a b s.2.1 s.2.2.1 s.2.2.2.1 s.2.2.2.2.1 s.2.2.2.2.2.1 s.2.2.2.2.2.2
noncomputable def Qfd(_:Nat)(s:LoS):StateT SortSt Sem (ForInStep LoS):=do
 let t <-forIn [0:a.size+b.size] ((none,s.2.1,s.2.2.1,s.2.2.2.1,0,0):InS) (Qmn a b s.2.2.2.2)
 match t.1 with
 |some r=>pure (.done (some r,t.2.1,t.2.2.1,t.2.2.2.1,s.2.2.2.2))
 | none=>do
  rule "list.sort.gallop"
  let u <-forIn [0:a.size+b.size] ((none,t.2.1,t.2.2.1,t.2.2.2.1,s.2.2.2.2+1,t.2.2.2.2.1,t.2.2.2.2.2):GaS) (Qoc a b)
  match u.1 with
  |some r=>pure (.done (some r,u.2.1,u.2.2.1,u.2.2.2.1,u.2.2.2.2.1))
  |none=>do
   modify (WL (u.2.2.2.2.1+1))
   pure (.yield (none,u.2.1,u.2.2.1,u.2.2.2.1,u.2.2.2.2.1+1))
set_option maxRecDepth 10000 in
set_option maxHeartbeats 400000 in
theorem Qb0:K5 a b=(do
 rule "list.sort.merge-lo"
 let y <-elem' b 0
 if(1==b.size)=true then pure (#[y]++a.extract 0 a.size++b.extract 1 b.size)
 else if(0+1==a.size)=true then pure (#[y]++b.extract 1 b.size++a.extract 0 a.size)
 else do
  let st <-get
  let t <-forIn [0:a.size+b.size] ((none,#[y],0,1,gallopOf st):LoS) (Qfd a b)
  match t.1 with
  |some r=>pure r
  |none=>unsupported "internal:list.sort.merge-bound"):=by
 rw[Qas];unfold Qfd Qoc QjC Qj1 Qln Qmn;dsimp only;refine congrArg (bind _) (funext fun _=>congrArg (bind _) (funext fun y=>congrArg (ite _ _) (congrArg (ite _ _) (congrArg (bind _) (funext fun st=>congr (congrArg bind ?_) ?_)))))
 ·refine congrArg (forIn _ _) (funext fun _=>funext fun s=>?_);refine congr (congrArg bind ?_) (funext fun t=>?_)
  ·refine congrArg (forIn _ _) (funext fun _=>funext fun t=>?_)
   (repeat' (first|(with_reducible rfl)|((with_reducible refine Zy ?_ fun _=>?_)<;>dsimp only)|(with_reducible refine Qo fun _=>?_)|(with_reducible refine QT ?_ ?_)))
  ·obtain⟨_|r,t⟩:=t
   ·refine congrArg (bind _) (funext fun _=>congr (congrArg bind ?_) (funext fun u=>?_))
    ·refine congrArg (forIn _ _) (funext fun _=>funext fun t=>?_)
     (repeat' (first|(with_reducible rfl)|((with_reducible refine Zy ?_ fun _=>?_)<;>dsimp only)|(with_reducible refine Qo fun _=>?_)|(with_reducible refine QT ?_ ?_)))
    ·obtain⟨_|r,u⟩:=u<;>rfl
   ·rfl
 ·funext t;obtain⟨_|r,t⟩:=t<;>rfl
end
set_option autoImplicit false
theorem Kq(a:Array Keyed)(i:Nat):(a.extract i a.size).toList=a.toList.drop i:=by
 rw[E9,Eo];exact Dh (by simp)
theorem QkE(a:Array Keyed)(i k:Nat):(a.extract i (i+k)).toList=(a.toList.drop i).take k:=by simp[Eo]
theorem Qel{f:Keyed->Int}{l:List Keyed}(h:l.Pairwise fun x y=>f x<=f y){i j:Nat}(hi:i<l.length)(a:j<l.length)(b:i<=j):f l[i]<=f l[j]:=by
 by_cases e:i=j
 ·subst e;lia
 ·exact E4.mp h i j hi a (by lia)
theorem Jk{l:List Keyed}{i:Nat}{x:Keyed}(h:x∈l.drop i):∃j,∃b:j<l.length,i<=j/\x=l[j]:=by
 obtain⟨k,a,e⟩:=Dz.mp h;rw[Fb]at a;rw[OO]at e;exact⟨i+k,by omega,by exact Nm _ _,e.symm⟩
theorem VZ{l:List Keyed}{i k:Nat}{x:Keyed}(h:x∈(l.drop i).take k):∃j,∃b:j<l.length,i<=j/\j<i+k/\x=l[j]:=by
 obtain⟨n,a,e⟩:=Dz.mp h;rw[Ey,Fb]at a;rw[OP,OO]at e;exact⟨i+n,by omega,by exact Nm _ _,by lia,e.symm⟩
section
variable{prog:Program}{w:World}{A:Around}{E:Value->Shared->Prop}{s:Shared}{κ:SortKind}{M:Keyed->Prop}{f:Keyed->Int}{a b:Array Keyed}
structure Two(f:Keyed->Int)(M:Keyed->Prop)(a b:Array Keyed):Prop where
 ma:∀i (h:i<a.size),M a[i]
 mb:∀i (h:i<b.size),M b[i]
 sa:a.toList.Pairwise fun x y=>f x<=f y
 sb:b.toList.Pairwise fun x y=>f x<=f y
def Top(f:Keyed->Int)(a b:Array Keyed):Prop:=∀i (h:i<a.size),i+1=a.size->∀x∈b.toList,f x<=f a[i]
def Ja(f:Keyed->Int)(a b out:Array Keyed)(d c:Nat):Prop:=J f a.toList b.toList out.toList d c
def Ro(f:Keyed->Int)(a b r:Array Keyed):Prop:=Out f a.toList b.toList r.toList
variable(W:Two f M a b)(hT:Top f a b)
include W in
theorem Ja.pushA{out:Array Keyed}{c d:Nat}(h:Ja f a b out c d)(hi:c<a.size)(i:∀j (e:j<b.size),d<=j->f a[c]<=f b[j]):Ja f a b (out.push a[c]) (c+1) d:=by
 unfold Ja;rw[Dx];refine J.one h W.sa (by simpa using hi) fun y g=>?_;obtain⟨j,e,l,rfl⟩:=Jk g;exact i j (by simpa using e) l
include W in
theorem Ja.pushB{out:Array Keyed}{d c:Nat}(h:Ja f a b out d c)(hi:c<b.size)(i:∀j (e:j<a.size),d<=j->f b[c]<=f a[j]):Ja f a b (out.push b[c]) d (c+1):=by
 unfold Ja;rw[Dx];refine(J.one (J.swap h) W.sb (by simpa using hi) fun y g=>?_).swap;obtain⟨j,e,l,rfl⟩:=Jk g;exact i j (by simpa using e) l
include W in
theorem Ja.manyA{out:Array Keyed}{c d:Nat}(h:Ja f a b out c d)(k:Nat)(m:∀i (hi:i<a.size),i<c+k->∀j (e:j<b.size),d<=j->f a[i]<=f b[j]):Ja f a b (out++a.extract c (c+k)) (c+k) d:=by
 unfold Ja;rw[NV,QkE];refine J.chunk h W.sa k fun x l y g=>?_;obtain⟨i,hi,_,o,rfl⟩:=VZ l;obtain⟨j,e,n,rfl⟩:=Jk g;exact m i (by simpa using hi) o j (by simpa using e) n
include W in
theorem Ja.manyB{out:Array Keyed}{d c:Nat}(h:Ja f a b out d c)(k:Nat)(m:∀i (hi:i<b.size),i<c+k->∀j (e:j<a.size),d<=j->f b[i]<=f a[j]):Ja f a b (out++b.extract c (c+k)) d (c+k):=by
 unfold Ja;rw[NV,QkE];refine(J.chunk (J.swap h) W.sb k fun x l y g=>?_).swap;obtain⟨i,hi,_,o,rfl⟩:=VZ l;obtain⟨j,e,n,rfl⟩:=Jk g;exact m i (by simpa using hi) o j (by simpa using e) n
include W in
theorem Ja.doneB{out:Array Keyed}{d c:Nat}(h:Ja f a b out d c)(e:b.size<=c):Ro f a b (out++a.extract d a.size++b.extract c b.size):=by
 unfold Ro;rw[NV,NV,Kq,Kq];exact J.endB h W.sa (by simpa using e)
include W in
theorem Ja.doneA{out:Array Keyed}{c d:Nat}(h:Ja f a b out c d)(e:a.size<=c):Ro f a b (out++a.extract c a.size++b.extract d b.size):=by
 unfold Ro;rw[NV,NV,Kq,Kq];exact J.endA h W.sb (by simpa using e)
include W hT in
theorem Ja.doneL{out:Array Keyed}{c e:Nat}(h:Ja f a b out c e)(m:c+1=a.size):Ro f a b (out++b.extract e b.size++a.extract c a.size):=by
 unfold Ro;rw[NV,NV,Kq,Kq];refine J.lastA h W.sa W.sb fun x i y g=>?_;obtain⟨j,l,n,rfl⟩:=Jk g;have d:j<a.size:=by simpa using l
 have:j=c:=by lia
 subst this;exact hT j d m x (DC i)
structure Lv(f:Keyed->Int)(a b out:Array Keyed)(ia ib:Nat):Prop where
 j:Ja f a b out ia ib
 ia:ia+1<a.size
 ib:ib<b.size
def fl(g:Nat)(st:SortSt)(c:SortSt):Prop:=c=WL g st
include W in
theorem aLe{i j:Nat}(hi:i<a.size)(c:j<a.size)(h:i<=j):f a[i]<=f a[j]:=Qel W.sa (i:=i) (j:=j) (by simpa using hi) (by simpa using c) h
include W in
theorem bLe{i j:Nat}(hi:i<b.size)(c:j<b.size)(h:i<=j):f b[i]<=f b[j]:=Qel W.sb (i:=i) (j:=j) (by simpa using hi) (by simpa using c) h
def InP(f:Keyed->Int)(a b:Array Keyed)(n:Nat)(t:InS):Prop:=(∃r,t.1=some r/\Ro f a b r)\/(t.1=none/\Lv f a b t.2.1 t.2.2.1 t.2.2.2.1/\n<=t.2.2.1+t.2.2.2.1)
include W hT in
theorem Qjy{y i n:Nat}{t:InS}{st:SortSt}(C:Cmp prog w A s κ M f)(B:kindOf st=κ)(h:t.1=none/\Lv f a b t.2.1 t.2.2.1 t.2.2.2.1/\n<=t.2.2.1+t.2.2.2.1) :
  T prog w A E s (Qmn a b y i t) (fun r q=>q=st/\match r with|.done c=>InP f a b (n+1) c|.yield c=>c.1=none/\Lv f a b c.2.1 c.2.2.1 c.2.2.2.1/\n+1<=c.2.2.1+c.2.2.2.1) st:=by
 obtain⟨_,x,v,u,ac,D⟩:=t;obtain⟨rfl,L,z⟩:=h;dsimp only at L z;have o:=L.ia;have l:=L.ib;unfold Qmn;dsimp only;refine Qg (Q8 l (Qg (Q8 (Nf (Nm _ _) o) (Qg (Qkz C B (W.mb _ _) (W.ma _ _) ?_)))))
 by_cases m:f b[u]<f a[v]
 ·rw[decide_eq_true m];dsimp only;rw[if_pos rfl];refine Qg (Q8 l ?_);have g:=L.j.pushB W l fun j p d=>by have:=aLe W (Nf d p) p d;omega
  by_cases e:(u+1==b.size)=true
  ·rw[if_pos e];simp only[beq_iff_eq]at e;exact Qj ⟨rfl,.inl ⟨_,rfl,g.doneB W (Nt e.symm)⟩⟩
  ·rw[if_neg e];simp only[beq_iff_eq]at e;split
   ·exact Qj ⟨rfl,.inr ⟨rfl,⟨g,o,by dsimp only;lia⟩,by dsimp only;lia⟩⟩
   ·exact Qj ⟨rfl,rfl,⟨g,o,by dsimp only;omega⟩,by dsimp only;omega⟩
 ·rw[decide_eq_false m];dsimp only;rw[if_neg (by simp)];refine Qg (Q8 (Nf (Nm _ _) o) ?_);have g:=L.j.pushA W (Nf (Nm _ _) o) fun j p d=>by have:=bLe W l p d;omega
  by_cases e:(v+1+1==a.size)=true
  ·rw[if_pos e];simp only[beq_iff_eq]at e;exact Qj ⟨rfl,.inl ⟨_,rfl,g.doneL W hT e⟩⟩
  ·rw[if_neg e];simp only[beq_iff_eq]at e;split
   ·exact Qj ⟨rfl,.inr ⟨rfl,⟨g,by dsimp only;lia,l⟩,by dsimp only;lia⟩⟩
   ·exact Qj ⟨rfl,rfl,⟨g,by dsimp only;omega,l⟩,by dsimp only;omega⟩
end
set_option autoImplicit false
section
variable{prog:Program}{w:World}{A:Around}{E:Value->Shared->Prop}{s:Shared}{κ:SortKind}{M:Keyed->Prop}{f:Keyed->Int}{a b:Array Keyed}
def Sg(st c:SortSt):Prop:=∃g,c=WL g st
theorem Sg.refl(st:SortSt):Sg st st:=⟨gallopOf st,rfl⟩
theorem Sg.kind{st c:SortSt}(h:Sg st c):kindOf c=kindOf st:=by obtain⟨g,rfl⟩:=h;rfl
theorem Sg.set{st c:SortSt}(h:Sg st c)(g:Nat):Sg st (WL g c):=by obtain⟨d,rfl⟩:=h;exact⟨g,rfl⟩
def GaL(f:Keyed->Int)(a b:Array Keyed)(n:Nat)(u:GaS):Prop:=u.1=none/\Lv f a b u.2.1 u.2.2.1 u.2.2.2.1/\n<=u.2.2.1+u.2.2.2.1
def GaP(f:Keyed->Int)(a b:Array Keyed)(n:Nat)(u:GaS):Prop:=(∃r,u.1=some r/\Ro f a b r)\/GaL f a b n u
def GaR(f:Keyed->Int)(a b:Array Keyed)(n:Nat)(r:ForInStep GaS):Prop:=match r with|.done c=>GaP f a b n c|.yield c=>GaL f a b n c
variable(W:Two f M a b)(hT:Top f a b)
include W hT in
theorem Qgk{out:Array Keyed}{c d i ac m n:Nat}{st:SortSt}(j:Ja f a b out c d)(l:c+1<a.size)(h2:d<b.size)(p:n<=c+d)(h:∀j (q:j<b.size),d<=j->f a[c]<=f b[j]) :
  T prog w A E s (Qln a b out c d i ac m) (fun r g=>g=st/\GaR f a b n r) st:=by
 unfold Qln;refine Qg (Q8 (Nf (Nm _ _) l) ?_);have o:=j.pushA W (Nf (Nm _ _) l) h
 by_cases e:(c+1+1==a.size)=true
 ·rw[if_pos e];simp only[beq_iff_eq]at e;exact Qj ⟨rfl,.inl ⟨_,rfl,o.doneL W hT e⟩⟩
 ·rw[if_neg e];simp only[beq_iff_eq]at e;have k:GaL f a b n (none,out.push a[c],c+1,d,i,ac,m):=⟨rfl,⟨o,by dsimp only;lia,h2⟩,by dsimp only;lia⟩
  split
  ·exact Qj ⟨rfl,.inr k⟩
  ·exact Qj ⟨rfl,k⟩
include W hT in
theorem Qgq{out:Array Keyed}{g c G ac O n:Nat}{st:SortSt}(N:Cmp prog w A s κ M f)(I:kindOf st=κ)(j:Ja f a b out g c)(v:g+1<a.size)(h2:c<b.size)(P:n<=g+c)(o:∀j (l:j<a.size),g<=j->f b[c]<=f a[j]) :
  T prog w A E s (Qj1 a b out g c G ac O) (fun r x=>x=st/\GaR f a b n r) st:=by
 unfold Qj1;refine Qg (Q8 h2 ?_);have B:=j.pushB W h2 o
 by_cases e:(c+1==b.size)=true
 ·rw[if_pos e];simp only[beq_iff_eq]at e;exact Qj ⟨rfl,.inl ⟨_,rfl,B.doneB W (Nt e.symm)⟩⟩
 ·rw[if_neg e];simp only[beq_iff_eq]at e;refine Qg (Q8 (Nf (Nm _ _) v) (Qg (V9 N I (W.ma _ _) (by omega) (by lia) W.mb (fun i j m l _ d _=>bLe W m l d) fun k H z y=>?_)));dsimp only
  have lo:∀i (m:i<b.size),i<c+1+k->f b[i]<=f a[g]:=by
   intro i m p
   by_cases q:i<=c
   ·have D:=bLe W m h2 q;have C:=o g (Nf (Nm _ _) v) (Nw _);lia
   ·have:=z (i-(c+1)) (by omega) (by omega);simp only[bey,if_true,decide_eq_true_eq,show c+1+(i-(c+1))=i by exact DL (DS.mp q)]at this;omega
  have t:∀j (l:j<b.size),c+1+k<=j->f a[g]<=f b[j]:=by
   intro j l L;have:=y (j-(c+1)) (by omega) (by omega) (by omega);simp only[bey,if_true,decide_eq_false_iff_not,show c+1+(j-(c+1))=j by lia]at this;omega
  by_cases h:k>0
  ·rw[if_pos h];have J2:=B.manyB W k fun i m p j l d=>by have D:=lo i m p;have C:=aLe W (Nf d l) l d;omega
   by_cases u:(c+1+k==b.size)=true
   ·rw[if_pos u];simp only[beq_iff_eq]at u;exact Qj ⟨rfl,.inl ⟨_,rfl,J2.doneB W (Nt u.symm)⟩⟩
   ·rw[if_neg u];simp only[beq_iff_eq]at u;exact Qgk W hT J2 v (by omega) (by lia) t
  ·rw[if_neg h];have:k=0:=by exact Eh (NN.mp h) (NJ _)
   subst this;exact Qgk W hT B v (by lia) (by lia) t
include W hT in
theorem Qku{out:Array Keyed}{c v l ac Z n:Nat}{st o:SortSt}(H:Cmp prog w A s κ M f)(G:kindOf o=κ)(u:Sg o st)(L:Lv f a b out c v)(Q:n<=c+v) :
  T prog w A E s (QjC a b out c v l ac Z) (fun r d=>Sg o d/\GaR f a b n r) st:=by
 have Y:=L.ia;have D:=L.ib;unfold QjC;refine Qg (Jb (Qg (Q8 D (Qg (V9 H ((u.set l).kind.trans G) (W.mb _ _) (by lia) (by lia) W.ma (fun i j t x _ p _=>aLe W t x p) fun k S N I=>?_)))));dsimp only
 have lo:∀i (t:i<a.size),i<c+k->0<k->f a[i]<=f b[v]:=by
  intro i t y g;have q:=N (max i c-c) (by omega) (by omega);simp only[bey,Ef,if_false,FJ,decide_eq_false_iff_not,show c+(max i c-c)=max i c by lia]at q;have:=aLe W t (show max i c<a.size by omega) (I0 _ _);omega
 have z:∀j (x:j<a.size),c+k<=j->f b[v]<=f a[j]:=by
  intro j x U;have:=I (j-c) (by lia) (by lia) (by lia);simp only[bey,Ef,if_false,Ij,decide_eq_true_eq,show c+(j-c)=j by lia]at this;omega
 have fin:∀{m:StateT SortSt Sem (ForInStep GaS)},T prog w A E s m (fun r d=>d=WL l st/\GaR f a b n r) (WL l st)->T prog w A E s m (fun r d=>Sg o d/\GaR f a b n r) (WL l st):=
  fun h=>QV h fun r d ⟨e,q⟩=>⟨e▸u.set l,q⟩
 by_cases g:k>0
 ·rw[if_pos g];have J2:=L.j.manyA W k fun i t y j x p=>by have P:=lo i t y g;have O:=bLe W D x p;exact ED P O
  by_cases C:(c+k+1==a.size)=true
  ·rw[if_pos C];simp only[beq_iff_eq]at C;exact Qj ⟨u.set l,.inl ⟨_,rfl,J2.doneL W hT C⟩⟩
  ·rw[if_neg C];simp only[beq_iff_eq]at C
   by_cases B:(c+k==a.size)=true
   ·rw[if_pos B];simp only[beq_iff_eq]at B;exact Qj ⟨u.set l,.inl ⟨_,rfl,J2.doneA W (Nt B.symm)⟩⟩
   ·rw[if_neg B];simp only[beq_iff_eq]at B;exact fin (Qgq W hT H ((u.set l).kind.trans G) J2 (by lia) D (by lia) z)
 ·rw[if_neg g];have:k=0:=by exact Eh (NN.mp g) (NJ _)
  subst this;exact fin (Qgq W hT H ((u.set l).kind.trans G) L.j Y D Q z)
include W hT in
theorem QhQ{i n:Nat}{t:LoS}{st g:SortSt}(D:Cmp prog w A s κ M f)(C:kindOf g=κ)(u:Sg g st)(h:t.1=none/\Lv f a b t.2.1 t.2.2.1 t.2.2.2.1/\n<=t.2.2.1+t.2.2.2.1) :
  T prog w A E s (Qfd a b i t) (fun r d=>Sg g d/\match r with|.done c=>∃r,c.1=some r/\Ro f a b r|.yield c=>c.1=none/\Lv f a b c.2.1 c.2.2.1 c.2.2.2.1/\n+1<=c.2.2.1+c.2.2.2.1) st:=by
 obtain⟨_,H,ia,ib,mg⟩:=t;obtain⟨rfl,L,B⟩:=h;dsimp only at L B;have h1:=L.ia;unfold Qfd;refine Qg (QV (Xn (I:=fun x c d=>d=st/\c.1=none/\Lv f a b c.2.1 c.2.2.1 c.2.2.2.1/\n+x<=c.2.2.1+c.2.2.2.1) (Q:=fun c d=>d=st/\InP f a b (n+1) c) ?_ ?_ ⟨rfl,rfl,L,B⟩) ?_)
 ·rintro x c d _ _ ⟨rfl,p⟩
  refine QV (Qjy W hT D (u.kind.trans C) p) ?_
  rintro(v|v) m ⟨rfl,q⟩
  ·refine⟨rfl,?_⟩
   rcases q with q|⟨e,o,l⟩
   ·exact .inl q
   ·exact .inr ⟨e,o,by exact Nf (Nm _ _) l⟩
  ·exact⟨rfl,q.1,q.2.1,by have:=q.2.2;omega⟩
 ·rintro c d ⟨rfl,e,o,l⟩
  exact⟨rfl,.inr ⟨e,o,by lia⟩⟩
 ·rintro⟨c1,z,U,P,ab,Z⟩ d ⟨rfl,q⟩
  rcases q with⟨r,e,o⟩|⟨e,L1,l⟩
  ·dsimp only at e;subst e;exact Qj ⟨u,r,rfl,o⟩
  ·dsimp only at e L1 l;subst e;dsimp only;refine Qg (Wv ?_);refine Qg (QV (Xn (I:=fun x c d=>Sg g d/\GaL f a b (n+1) c) (Q:=fun c d=>Sg g d/\GaP f a b (n+1) c) ?_ ?_ ⟨u,rfl,L1,l⟩) ?_)
   ·rintro x c m _ _ ⟨j,p⟩
    unfold Qoc;split
    all_goals
     refine QV (Qku W hT D C j p.2.1 p.2.2) ?_
     rintro(v|v) G q
     ·exact q
     ·exact q
   ·exact fun c m q=>⟨q.1,.inr q.2⟩
   ·rintro⟨c2,y,S,O,N,aa,Y⟩ m ⟨j,q⟩
    rcases q with⟨r,e,o⟩|⟨e,L2,l⟩
    ·dsimp only at e;subst e;exact Qj ⟨j,r,rfl,o⟩
    ·dsimp only at e L2 l;subst e;exact Qg (Jb (Qj ⟨j.set _,rfl,L2,l⟩))
include W hT in
theorem Qdu{P:Array Keyed->SortSt->Prop}{st:SortSt}(y:Cmp prog w A s κ M f)(u:kindOf st=κ)(z:0<a.size)(n:0<b.size)(C:f b[0]<=f a[0])
  (h:∀r d,Sg st d->Ro f a b r->P r d):T prog w A E s (K5 a b) P st:=by
 rw[Qb0];refine Qg (Wv (Qg (Q8 n ?_)));have t:Ja f a b #[] 0 0:=⟨by simp,by simp,by simp,by simp⟩
 have i:Ja f a b #[b[0]] 0 1:=t.pushB W n fun j v _=>by have:=aLe W z v (NJ _);exact ED C this
 by_cases e:(1==b.size)=true
 ·rw[if_pos e];simp only[beq_iff_eq]at e;exact Qj (h _ _ (Sg.refl _) (i.doneB W (Nt e.symm)))
 ·rw[if_neg e];simp only[beq_iff_eq]at e
  by_cases g:(0+1==a.size)=true
  ·rw[if_pos g];simp only[beq_iff_eq]at g;exact Qj (h _ _ (Sg.refl _) (i.doneL W hT g))
  ·rw[if_neg g];simp only[beq_iff_eq]at g;refine Qg (Y7 (Qg (QV (Xn (I:=fun x c d=>Sg st d/\c.1=none/\Lv f a b c.2.1 c.2.2.1 c.2.2.2.1/\x+1<=c.2.2.1+c.2.2.2.1) (Q:=fun c d=>Sg st d/\∃r,c.1=some r/\Ro f a b r) ?_ ?_ ⟨Sg.refl _,rfl,⟨i,by dsimp only;lia,by dsimp only;lia⟩,by dsimp only;exact by decide⟩) ?_)))
   ·rintro x c d _ _ ⟨l,B⟩
    refine QV (QhQ W hT y u l B) ?_
    rintro(D|D) o q
    ·exact q
    ·exact q
   ·rintro c d ⟨_,_,L,q⟩
    have:=L.ia;have:=L.ib;lia
   ·rintro⟨H,G⟩ d ⟨l,r,m,p⟩
    dsimp only at m;subst m;exact Qj (h _ _ l p)
end
set_option autoImplicit false
noncomputable abbrev HiS:=Option (Array Keyed)×Nat×Nat×Array Keyed×Nat
noncomputable abbrev HnS:=Option (Array Keyed)×Nat×Nat×Array Keyed×Nat×Nat
noncomputable abbrev HgS:=Option (Array Keyed)×Nat×Nat×Array Keyed×Nat×Nat×Nat
section
variable(a b:Array Keyed)
noncomputable def hD(out:Array Keyed)(d c:Nat):Array Keyed:=a.extract 0 d++b.extract 0 c++out.reverse
noncomputable def hF(out:Array Keyed)(d c:Nat):Array Keyed:=b.extract 0 c++a.extract 0 d++out.reverse
noncomputable def Ql5(d:Nat)(_:Nat)(s:HnS):StateT SortSt Sem (ForInStep HnS):=do
 let y <-elem' b (s.2.2.1-1)
 let x <-elem' a (s.2.1-1)
 match <-lt' y x with
 | some c=>
  if c=true then do
   let x <-elem' a (s.2.1-1)
   if(s.2.1-1==0)=true then pure (.done (some (hD a b (s.2.2.2.1.push x) (s.2.1-1) s.2.2.1),s.2.1-1,s.2.2.1,s.2.2.2.1.push x,s.2.2.2.2.1+1,0))
   else if s.2.2.2.2.1+1 >= d then pure (.done (none,s.2.1-1,s.2.2.1,s.2.2.2.1.push x,s.2.2.2.2.1+1,0))
   else pure (.yield (none,s.2.1-1,s.2.2.1,s.2.2.2.1.push x,s.2.2.2.2.1+1,0))
  else do
   let y <-elem' b (s.2.2.1-1)
   if(s.2.2.1-1==1)=true then pure (.done (some (hF a b (s.2.2.2.1.push y) s.2.1 (s.2.2.1-1)),s.2.1,s.2.2.1-1,s.2.2.2.1.push y,0,s.2.2.2.2.2+1))
   else if s.2.2.2.2.2+1 >= d then pure (.done (none,s.2.1,s.2.2.1-1,s.2.2.2.1.push y,0,s.2.2.2.2.2+1))
   else pure (.yield (none,s.2.1,s.2.2.1-1,s.2.2.2.1.push y,0,s.2.2.2.2.2+1))
 |_=>pure (.done (some (hD a b s.2.2.2.1 s.2.1 s.2.2.1),s.2.1,s.2.2.1,s.2.2.2.1,s.2.2.2.2.1,s.2.2.2.2.2))
noncomputable def Qlg(c d:Nat)(out:Array Keyed)(f ac e:Nat):StateT SortSt Sem (ForInStep HgS):=do
 let x <-elem' a (c-1)
 if(c-1==0)=true then pure (.done (some (hD a b (out.push x) (c-1) d),c-1,d,out.push x,f,ac,e))
 else if(decide (ac<7)&&decide (e<7))=true then pure (.done (none,c-1,d,out.push x,f,ac,e))
 else pure (.yield (none,c-1,d,out.push x,f,ac,e))
noncomputable def QlD(d c:Nat)(out:Array Keyed)(e ac f:Nat):StateT SortSt Sem (ForInStep HgS):=do
 let y <-elem' b (c-1)
 if(c-1==1)=true then pure (.done (some (hF a b (out.push y) d (c-1)),d,c-1,out.push y,e,ac,f))
 else do
  let x <-elem' a (d-1)
  match <-Jn true x b 0 (c-1) (c-1-1)with
  | some k=>
   if c-1-k>0 then
    if(k==1)=true then pure (.done (some (hF a b (out.push y++(b.extract k (c-1)).reverse) d k),d,k,out.push y++(b.extract k (c-1)).reverse,e,ac,c-1-k))
    else if(k==0)=true then pure (.done (some (hD a b (out.push y++(b.extract k (c-1)).reverse) d k),d,k,out.push y++(b.extract k (c-1)).reverse,e,ac,c-1-k))
    else Qlg a b d k (out.push y++(b.extract k (c-1)).reverse) e ac (c-1-k)
   else Qlg a b d (c-1) (out.push y) e ac (c-1-k)
  |_=>pure (.done (some (hD a b (out.push y) d (c-1)),d,c-1,out.push y,e,ac,f))
noncomputable def QjX(c d:Nat)(out:Array Keyed)(e ac f:Nat):StateT SortSt Sem (ForInStep HgS):=do
 modify (WL e)
 let y <-elem' b (d-1)
 match <-Jn false y a 0 c (c-1)with
 | some k=>
  if c-k>0 then
   if(k==0)=true then pure (.done (some (hD a b (out++(a.extract k c).reverse) k d),k,d,out++(a.extract k c).reverse,e,c-k,f))
   else QlD a b k d (out++(a.extract k c).reverse) e (c-k) f
  else QlD a b c d out e (c-k) f
 |_=>pure (.done (some (hD a b out c d),c,d,out,e,ac,f))
noncomputable def Qn0(_:Nat)(s:HgS):StateT SortSt Sem (ForInStep HgS):=
 if s.2.2.2.2.1>1 then QjX a b s.2.1 s.2.2.1 s.2.2.2.1 (s.2.2.2.2.1-1) s.2.2.2.2.2.1 s.2.2.2.2.2.2 else QjX a b s.2.1 s.2.2.1 s.2.2.2.1 s.2.2.2.2.1 s.2.2.2.2.2.1 s.2.2.2.2.2.2
noncomputable def QeX(_:Nat)(s:HiS):StateT SortSt Sem (ForInStep HiS):=do
 let t <-forIn [0:a.size+b.size] ((none,s.2.1,s.2.2.1,s.2.2.2.1,0,0):HnS) (Ql5 a b s.2.2.2.2)
 match t.1 with
 |some r=>pure (.done (some r,t.2.1,t.2.2.1,t.2.2.2.1,s.2.2.2.2))
 | none=>do
  rule "list.sort.gallop"
  let u <-forIn [0:a.size+b.size] ((none,t.2.1,t.2.2.1,t.2.2.2.1,s.2.2.2.2+1,t.2.2.2.2.1,t.2.2.2.2.2):HgS) (Qn0 a b)
  match u.1 with
  |some r=>pure (.done (some r,u.2.1,u.2.2.1,u.2.2.2.1,u.2.2.2.2.1))
  |none=>do
   modify (WL (u.2.2.2.2.1+1))
   pure (.yield (none,u.2.1,u.2.2.1,u.2.2.2.1,u.2.2.2.2.1+1))
set_option maxRecDepth 10000 in
set_option maxHeartbeats 400000 in
theorem QbF:K0 a b=(do
 rule "list.sort.merge-hi"
 let x <-elem' a (a.size-1)
 if(a.size-1==0)=true then pure (hD a b #[x] (a.size-1) b.size)
 else if(b.size==1)=true then pure (hF a b #[x] (a.size-1) b.size)
 else do
  let st <-get
  let t <-forIn [0:a.size+b.size] ((none,a.size-1,b.size,#[x],gallopOf st):HiS) (QeX a b)
  match t.1 with
  |some r=>pure r
  |none=>unsupported "internal:list.sort.merge-bound"):=by
 rw[Qae];unfold QeX Qn0 QjX QlD Qlg Ql5 hD hF;dsimp only;refine congrArg (bind _) (funext fun _=>congrArg (bind _) (funext fun y=>congrArg (ite _ _) (congrArg (ite _ _) (congrArg (bind _) (funext fun st=>congr (congrArg bind ?_) ?_)))))
 ·refine congrArg (forIn _ _) (funext fun _=>funext fun s=>?_);refine congr (congrArg bind ?_) (funext fun t=>?_)
  ·refine congrArg (forIn _ _) (funext fun _=>funext fun t=>?_)
   (repeat' (first|(with_reducible rfl)|((with_reducible refine Zy ?_ fun _=>?_)<;>dsimp only)|(with_reducible refine Qo fun _=>?_)|(with_reducible refine QT ?_ ?_)))
  ·obtain⟨_|r,t⟩:=t
   ·refine congrArg (bind _) (funext fun _=>congr (congrArg bind ?_) (funext fun u=>?_))
    ·refine congrArg (forIn _ _) (funext fun _=>funext fun t=>?_)
     (repeat' (first|(with_reducible rfl)|((with_reducible refine Zy ?_ fun _=>?_)<;>dsimp only)|(with_reducible refine Qo fun _=>?_)|(with_reducible refine QT ?_ ?_)))
    ·obtain⟨_|r,u⟩:=u<;>rfl
   ·rfl
 ·funext t;obtain⟨_|r,t⟩:=t<;>rfl
end
section
variable{f:Keyed->Int}{M:Keyed->Prop}{a b:Array Keyed}
def Jh(f:Keyed->Int)(a b out:Array Keyed)(d c:Nat):Prop:=J (fun x=>- f x) a.toList.reverse b.toList.reverse out.toList (a.size-d) (b.size-c)
theorem U6{l:List Keyed}(h:l.Pairwise fun x y=>f x<=f y):l.reverse.Pairwise fun x y=>(fun x=>- f x) x<=(fun x=>- f x) y:=by
 rw[LG];exact h.imp fun {x y} q=>by dsimp only;lia
theorem Je(a:Array Keyed){n:Nat}(h:n<=a.size):a.toList.reverse.drop (a.size-n)=(a.toList.take n).reverse:=by
 rw[List.drop_reverse,NB,show a.size-(a.size-n)=n by lia]
theorem QcE(a:Array Keyed){k n:Nat}(c:k<=n)(h:n<=a.size):(a.toList.reverse.drop (a.size-n)).take (n-k)=(a.extract k n).toList.reverse:=by
 rw[Je a h,List.take_reverse,Ey,NB,Ds h,show n-(n-k)=k by lia,E9,Eo,List.drop_take]
theorem Out.rev{d c r:List Keyed}(h:Out (fun x=>- f x) d.reverse c.reverse r):Out f d c r.reverse:=by
 refine⟨(IB r).trans (h.1.trans ((IB d).append (IB c))),?_⟩;rw[LG];exact h.2.imp fun {x y} q=>by dsimp only at q;lia
theorem Out.comm{d c r:List Keyed}(h:Out f d c r):Out f c d r:=⟨h.1.trans Dq,h.2⟩
theorem YR{l:List Keyed}{n:Nat}{x:Keyed}(h:x∈l.take n):∃j,∃d:j<l.length,j<n/\x=l[j]:=by
 obtain⟨k,c,e⟩:=Dz.mp h;rw[Ey]at c;rw[OP]at e;exact⟨k,by exact Nd c (D9 _ _),by exact Nd c (Nat.min_le_left _ _),e.symm⟩
variable(W:Two f M a b)
include W in
theorem Jh.manyA{out:Array Keyed}{k c d:Nat}(h:Jh f a b out c d)(n:k<=c)(m:c<=a.size)(p:d<=b.size)(o:∀i (hi:i<a.size),k<=i->i<c->∀j (l:j<b.size),j<d->f b[j]<=f a[i]):Jh f a b (out++(a.extract k c).reverse) k d:=by
 unfold Jh;have q:=J.chunk h (U6 W.sa) (c-k);rw[QcE a n m,show a.size-c+(c-k)=a.size-k by lia]at q;rw[NV,DD];refine q fun x g y e=>?_;rw[FP,E9,Eo]at g;rw[Je b p,FP]at e;obtain⟨i,hi,s,t,rfl⟩:=VZ g;obtain⟨j,l,r,rfl⟩:=YR e;have:=o i (by simpa using hi) s (by lia) j (by simpa using l) r;show-f a[i]<=- f b[j];lia
include W in
theorem Jh.manyB{out:Array Keyed}{k d c:Nat}(h:Jh f a b out d c)(g:k<=c)(e:d<=a.size)(m:c<=b.size)(l:∀i (hi:i<b.size),k<=i->i<c->∀j (o:j<a.size),j<d->f a[j]<=f b[i]):Jh f a b (out++(b.extract k c).reverse) d k:=by
 have n:Two f M b a:=⟨W.mb,W.ma,W.sb,W.sa⟩
 exact J.swap (Jh.manyA (a:=b) (b:=a) n (J.swap h) g m e l)
theorem Qdi(a:Array Keyed){n:Nat}(c:0<n)(h:n<=a.size)(out:Array Keyed):out++(a.extract (n-1) n).reverse=out.push a[n-1]:=by
 apply Array.ext';rw[NV,DD,Dx,E9,Eo,show n-(n-1)=1 by lia,QbB (by simpa using by omega)];rfl
include W in
theorem Jh.pushA{out:Array Keyed}{c d:Nat}(h:Jh f a b out c d)(o:0<c)(e:c<=a.size)(m:d<=b.size)(l:∀j (g:j<b.size),j<d->f b[j]<=f a[c-1]):Jh f a b (out.push a[c-1]) (c-1) d:=by
 rw[<-Qdi a o e out];refine h.manyA W (NZ _ _) e m fun i p r q j g n=>?_;have:i=c-1:=by lia
 subst this;exact l j g n
include W in
theorem Jh.pushB{out:Array Keyed}{d c:Nat}(h:Jh f a b out d c)(o:0<c)(l:d<=a.size)(g:c<=b.size)(m:∀j (e:j<a.size),j<d->f a[j]<=f b[c-1]):Jh f a b (out.push b[c-1]) d (c-1):=by
 rw[<-Qdi b o g out];refine h.manyB W (NZ _ _) l g fun i p r q j e n=>?_;have:i=c-1:=by lia
 subst this;exact m j e n
theorem Qcc(a:Array Keyed)(n:Nat):(a.extract 0 n).toList=a.toList.take n:=by simp[Eo]
include W in
theorem Jh.doneA{out:Array Keyed}{d c:Nat}(h:Jh f a b out d c)(g:d=0)(e:c<=b.size):Ro f a b (hD a b out d c):=by
 subst g;have q:=(J.endA h (U6 W.sb) (by simp)).rev;rw[Je b e,Je a (NJ _)]at q;unfold Ro hD;rw[NV,NV,DD,Qcc,Qcc];simpa using q
include W in
theorem Jh.doneB{out:Array Keyed}{c:Nat}(h:Jh f a b out c 0)(d:c<=a.size):Ro f a b (hD a b out c 0):=by
 have q:=(J.endB h (U6 W.sa) (by simp)).rev;rw[Je a d,Je b (NJ _)]at q;unfold Ro hD;rw[NV,NV,DD,Qcc,Qcc];simpa using q
def Bot(f:Keyed->Int)(a b:Array Keyed):Prop:=∀i (h:i<b.size),i=0->∀x∈a.toList,f b[i]<=f x
include W in
theorem Jh.doneF{out:Array Keyed}{d c:Nat}(n:Bot f a b)(h:Jh f a b out d c)(i:d<=a.size)(p:c=1)(l:c<=b.size):Ro f a b (hF a b out d c):=by
 have q:=(J.lastA (J.swap h) (U6 W.sb) (U6 W.sa) fun x g y e=>?_).comm.rev
 ·rw[Je a i,Je b l]at q;unfold Ro hF;rw[NV,NV,DD,Qcc,Qcc];simpa using q
 ·rw[Je a i,FP]at g;rw[Je b l,FP]at e;obtain⟨j,m,o,rfl⟩:=YR e;have:=n j (by simpa using m) (by lia) x (F3 g);show-f x<=- f b[j];lia
end
set_option autoImplicit false
section
variable{prog:Program}{w:World}{A:Around}{E:Value->Shared->Prop}{s:Shared}{κ:SortKind}{M:Keyed->Prop}{f:Keyed->Int}{a b:Array Keyed}
structure Lh(f:Keyed->Int)(a b:Array Keyed)(na nb:Nat)(out:Array Keyed)(n:Nat):Prop where
 j:Jh f a b out na nb
 a1:0<na
 a2:na<=a.size
 b1:1<nb
 b2:nb<=b.size
 n:n<=(a.size-na)+(b.size-nb)
def HL(f:Keyed->Int)(a b:Array Keyed)(n:Nat)(t:HnS):Prop:=t.1=none/\Lh f a b t.2.1 t.2.2.1 t.2.2.2.1 n
def HP(f:Keyed->Int)(a b:Array Keyed)(n:Nat)(t:HnS):Prop:=(∃r,t.1=some r/\Ro f a b r)\/HL f a b n t
def HgL(f:Keyed->Int)(a b:Array Keyed)(n:Nat)(t:HgS):Prop:=t.1=none/\Lh f a b t.2.1 t.2.2.1 t.2.2.2.1 n
def HgP(f:Keyed->Int)(a b:Array Keyed)(n:Nat)(t:HgS):Prop:=(∃r,t.1=some r/\Ro f a b r)\/HgL f a b n t
def HgR(f:Keyed->Int)(a b:Array Keyed)(n:Nat)(r:ForInStep HgS):Prop:=match r with|.done c=>HgP f a b n c|.yield c=>HgL f a b n c
variable(W:Two f M a b)(hB:Bot f a b)
include W hB in
theorem QjY{y i n:Nat}{t:HnS}{st:SortSt}(B:Cmp prog w A s κ M f)(z:kindOf st=κ)(h:HL f a b n t) :
  T prog w A E s (Ql5 a b y i t) (fun r q=>q=st/\match r with|.done c=>HP f a b (n+1) c|.yield c=>HL f a b (n+1) c) st:=by
 obtain⟨_,g,d,l,ac,D⟩:=t;obtain⟨rfl,L⟩:=h;dsimp only at L;obtain⟨j,x,o,b1,b2,C⟩:=L;unfold Ql5;dsimp only;refine Qg (Q8 (by lia) (Qg (Q8 (by omega) (Qg (Qkz B z (W.mb _ _) (W.ma _ _) ?_)))))
 by_cases m:f b[d-1]<f a[g-1]
 ·rw[decide_eq_true m];dsimp only;rw[if_pos rfl];refine Qg (Q8 (by lia) ?_);have p:=j.pushA W x o b2 fun j u v=>by have:=bLe W u (show d-1<b.size by lia) (by lia);omega
  by_cases e:(g-1==0)=true
  ·rw[if_pos e];simp only[beq_iff_eq]at e;exact Qj ⟨rfl,.inl ⟨_,rfl,p.doneA W e b2⟩⟩
  ·rw[if_neg e];simp only[beq_iff_eq]at e;have k:Lh f a b (g-1) d (l.push a[g-1]) (n+1):=⟨p,by lia,by exact Nh (NZ _ _) o,b1,b2,by lia⟩
   split
   ·exact Qj ⟨rfl,.inr ⟨rfl,k⟩⟩
   ·exact Qj ⟨rfl,rfl,k⟩
 ·rw[decide_eq_false m];dsimp only;rw[if_neg (by simp)];refine Qg (Q8 (by lia) ?_);have p:=j.pushB W (NW (by decide) b1) o b2 fun j u v=>by have:=aLe W u (show g-1<a.size by lia) (by lia);omega
  by_cases e:(d-1==1)=true
  ·rw[if_pos e];simp only[beq_iff_eq]at e;exact Qj ⟨rfl,.inl ⟨_,rfl,p.doneF W hB o e (Nh (NZ _ _) b2)⟩⟩
  ·rw[if_neg e];simp only[beq_iff_eq]at e;have k:Lh f a b g (d-1) (l.push b[d-1]) (n+1):=⟨p,x,o,by lia,by exact Nh (NZ _ _) b2,by lia⟩
   split
   ·exact Qj ⟨rfl,.inr ⟨rfl,k⟩⟩
   ·exact Qj ⟨rfl,rfl,k⟩
include W in
theorem Qgh{out:Array Keyed}{c d m ac o n:Nat}{st:SortSt}(L:Lh f a b c d out n)(i:c-1<a.size)(h:∀j (u:j<b.size),j<d->f b[j]<=f a[c-1]) :
  T prog w A E s (Qlg a b c d out m ac o) (fun r g=>g=st/\HgR f a b n r) st:=by
 obtain⟨j,q,p,b1,b2,t⟩:=L;unfold Qlg;refine Qg (Q8 i ?_);have l:=j.pushA W q p b2 h
 by_cases e:(c-1==0)=true
 ·rw[if_pos e];simp only[beq_iff_eq]at e;exact Qj ⟨rfl,.inl ⟨_,rfl,l.doneA W e b2⟩⟩
 ·rw[if_neg e];simp only[beq_iff_eq]at e;have k:Lh f a b (c-1) d (out.push a[c-1]) n:=⟨l,by lia,by exact Nn i,b1,b2,by lia⟩
  split
  ·exact Qj ⟨rfl,.inr ⟨rfl,k⟩⟩
  ·exact Qj ⟨rfl,rfl,k⟩
include W hB in
theorem Qgt{out:Array Keyed}{o g O ac Y n:Nat}{st:SortSt}(Q:Cmp prog w A s κ M f)(P:kindOf st=κ)(L:Lh f a b o g out n)(c:g-1<b.size)(y:∀j (d:j<a.size),j<o->f a[j]<=f b[g-1]) :
  T prog w A E s (QlD a b o g out O ac Y) (fun r x=>x=st/\HgR f a b n r) st:=by
 obtain⟨j,N,m,b1,b2,hn⟩:=L;unfold QlD;refine Qg (Q8 c ?_);have I:=j.pushB W (NW (by decide) b1) m b2 y
 by_cases e:(g-1==1)=true
 ·rw[if_pos e];simp only[beq_iff_eq]at e;exact Qj ⟨rfl,.inl ⟨_,rfl,I.doneF W hB m e (Nn c)⟩⟩
 ·rw[if_neg e];simp only[beq_iff_eq]at e;refine Qg (Q8 (by lia) (Qg (V9 Q P (W.ma _ _) (by lia) (by lia) W.mb (fun i j t d _ q _=>bLe W t d q) fun k l H G=>?_)));dsimp only
  have lo:∀i (t:i<b.size),i<k->f b[i]<=f a[o-1]:=by
   intro i t C;have:=H i (by lia) C;simp only[bey,if_true,decide_eq_true_eq,NX]at this;omega
  have D:∀j (d:j<b.size),k<=j->j<g-1->f a[o-1]<=f b[j]:=by
   intro j d z B;have:=G j (by omega) z B;simp only[bey,if_true,decide_eq_false_iff_not,NX]at this;omega
  by_cases p:g-1-k>0
  ·rw[if_pos p];have J2:=I.manyB W (k:=k) l m (Nn c) fun i t U S j d q=>by have q1:=D i t U S;have Z:=aLe W d (show o-1<a.size by lia) (by lia);omega
   by_cases v:(k==1)=true
   ·rw[if_pos v];simp only[beq_iff_eq]at v;exact Qj ⟨rfl,.inl ⟨_,rfl,J2.doneF W hB m v (Nn (Nf l c))⟩⟩
   ·rw[if_neg v];simp only[beq_iff_eq]at v
    by_cases u:(k==0)=true
    ·rw[if_pos u];simp only[beq_iff_eq]at u;subst u;exact Qj ⟨rfl,.inl ⟨_,rfl,J2.doneB W m⟩⟩
    ·rw[if_neg u];simp only[beq_iff_eq]at u;exact Qgh W ⟨J2,N,m,by lia,by exact Nn (Nf l c),by lia⟩ (by lia) fun j d h=>lo j d h
  ·rw[if_neg p];exact Qgh W ⟨I,N,m,by lia,by exact Nn c,by lia⟩ (by omega) fun j d h=>lo j d (by lia)
include W hB in
theorem QjL{out:Array Keyed}{z o g ac U n:Nat}{st d:SortSt}(I:Cmp prog w A s κ M f)(B:kindOf d=κ)(x:Sg d st)(L:Lh f a b z o out n) :
  T prog w A E s (QjX a b z o out g ac U) (fun r c=>Sg d c/\HgR f a b n r) st:=by
 have Y:=L;obtain⟨j,a1,P,b1,b2,hn⟩:=L;unfold QjX;refine Qg (Jb (Qg (Q8 (by lia) (Qg (V9 I ((x.set g).kind.trans B) (W.mb _ _) (by lia) (by omega) W.ma (fun i j l u _ v _=>aLe W l u v) fun k p O N=>?_)))));dsimp only
 have lo:∀i (l:i<a.size),i<k->f a[i]<=f b[o-1]:=by
  intro i l G;have q:=O i (by lia) G;simp only[bey,Ef,if_false,FJ,decide_eq_false_iff_not,NX]at q;omega
 have H:∀j (u:j<a.size),k<=j->j<z->f b[o-1]<=f a[j]:=by
  intro j u D C;have:=N j (by omega) D C;simp only[bey,Ef,if_false,Ij,decide_eq_true_eq,NX]at this;omega
 have fin:∀{m:StateT SortSt Sem (ForInStep HgS)},T prog w A E s m (fun r c=>c=WL g st/\HgR f a b n r) (WL g st)->T prog w A E s m (fun r c=>Sg d c/\HgR f a b n r) (WL g st):=
  fun h=>QV h fun r c ⟨e,q⟩=>⟨e▸x.set g,q⟩
 by_cases t:z-k>0
 ·rw[if_pos t];have J2:=j.manyA W (k:=k) p P b2 fun i l S Q j u v=>by have q1:=H i l S Q;have Z:=bLe W u (show o-1<b.size by lia) (by lia);omega
  by_cases y:(k==0)=true
  ·rw[if_pos y];simp only[beq_iff_eq]at y;subst y;exact Qj ⟨x.set g,.inl ⟨_,rfl,J2.doneA W rfl b2⟩⟩
  ·rw[if_neg y];simp only[beq_iff_eq]at y;exact fin (Qgt W hB I ((x.set g).kind.trans B) ⟨J2,by lia,by exact Nh p P,b1,b2,by lia⟩ (by lia) lo)
 ·rw[if_neg t];exact fin (Qgt W hB I ((x.set g).kind.trans B) Y (by omega) fun i l h=>lo i l (by lia))
include W hB in
theorem QiV{i n:Nat}{t:HiS}{st g:SortSt}(P:Cmp prog w A s κ M f)(O:kindOf g=κ)(C:Sg g st)(h:t.1=none/\Lh f a b t.2.1 t.2.2.1 t.2.2.2.1 n) :
  T prog w A E s (QeX a b i t) (fun r d=>Sg g d/\match r with|.done c=>∃r,c.1=some r/\Ro f a b r|.yield c=>c.1=none/\Lh f a b c.2.1 c.2.2.1 c.2.2.2.1 (n+1)) st:=by
 obtain⟨_,z,y,u,mg⟩:=t;obtain⟨rfl,L⟩:=h;dsimp only at L;have h1:=L.a1;have h2:=L.a2;unfold QeX;have v:∀{z y:Nat} {u:Array Keyed} {p q:Nat},q<=p->Lh f a b z y u p->Lh f a b z y u q:=fun B L=>⟨L.j,L.a1,L.a2,L.b1,L.b2,Nh B L.n⟩
 refine Qg (QV (Xn (I:=fun x c d=>d=st/\HL f a b (n+x) c) (Q:=fun c d=>d=st/\HP f a b (n+1) c) ?_ ?_ ⟨rfl,rfl,L⟩) ?_)
 ·rintro x c d _ _ ⟨rfl,D⟩
  refine QV (QjY W hB P (C.kind.trans O) D) ?_
  rintro(G|G) m ⟨rfl,q⟩
  ·refine⟨rfl,?_⟩
   rcases q with q|⟨e,o⟩
   ·exact .inl q
   ·exact .inr ⟨e,v (Nf (Nm _ _) (N1 _)) o⟩
  ·exact⟨rfl,q⟩
 ·rintro c d ⟨rfl,e,o⟩
  exact⟨rfl,.inr ⟨e,v (by lia) o⟩⟩
 ·rintro⟨c1,aa,Y,N,ai,af⟩ d ⟨rfl,q⟩
  rcases q with⟨r,e,o⟩|⟨e,L1⟩
  ·dsimp only at e;subst e;exact Qj ⟨C,r,rfl,o⟩
  ·dsimp only at e L1;subst e;dsimp only;refine Qg (Wv ?_);refine Qg (QV (Xn (I:=fun x c d=>Sg g d/\HgL f a b (n+1) c) (Q:=fun c d=>Sg g d/\HgP f a b (n+1) c) ?_ ?_ ⟨C,rfl,L1⟩) ?_)
   ·rintro x c m _ _ ⟨l,D⟩
    unfold Qn0;split
    all_goals
     refine QV (QjL W hB P O l D.2) ?_
     rintro(G|G) S q
     ·exact q
     ·exact q
   ·exact fun c m q=>⟨q.1,.inr q.2⟩
   ·rintro⟨c2,Z,U,H,ab,ah,ae⟩ m ⟨l,q⟩
    rcases q with⟨r,e,o⟩|⟨e,L2⟩
    ·dsimp only at e;subst e;exact Qj ⟨l,r,rfl,o⟩
    ·dsimp only at e L2;subst e;exact Qg (Jb (Qj ⟨l.set _,rfl,L2⟩))
include W hB in
theorem QdK{P:Array Keyed->SortSt->Prop}{st:SortSt}(y:Cmp prog w A s κ M f)(v:kindOf st=κ)(o:0<a.size)(D:0<b.size)(hT:Top f a b)
  (h:∀r d,Sg st d->Ro f a b r->P r d):T prog w A E s (K0 a b) P st:=by
 rw[QbF];refine Qg (Wv (Qg (Q8 (by omega) ?_)))
 have u:Jh f a b #[] a.size b.size:=by
  unfold Jh;rw[FV,FV];exact⟨by simp,by simp,by simp,by simp⟩
 have i:Jh f a b #[a[a.size-1]] (a.size-1) b.size:=u.pushA W o (Nw _) (Nw _) fun j C _=>hT (a.size-1) (by omega) (Nat.sub_add_cancel o) _ (by simp)
 by_cases e:(a.size-1==0)=true
 ·rw[if_pos e];simp only[beq_iff_eq]at e;exact Qj (h _ _ (Sg.refl _) (i.doneA W e (Nw _)))
 ·rw[if_neg e];simp only[beq_iff_eq]at e
  by_cases g:(b.size==1)=true
  ·rw[if_pos g];simp only[beq_iff_eq]at g;exact Qj (h _ _ (Sg.refl _) (i.doneF W hB (NZ _ _) g (Nw _)))
  ·rw[if_neg g];simp only[beq_iff_eq]at g;refine Qg (Y7 (Qg (QV (Xn (I:=fun x c d=>Sg st d/\c.1=none/\Lh f a b c.2.1 c.2.2.1 c.2.2.2.1 (x+1)) (Q:=fun c d=>Sg st d/\∃r,c.1=some r/\Ro f a b r) ?_ ?_ ⟨Sg.refl _,rfl,⟨i,by dsimp only;lia,by dsimp only;exact NZ _ _,by dsimp only;lia,by dsimp only;exact Nw _,by dsimp only;lia⟩⟩) ?_)))
   ·rintro x c d _ _ ⟨l,z⟩
    refine QV (QiV W hB y v l z) ?_
    rintro(B|B) p q
    ·exact q
    ·exact q
   ·rintro c d ⟨_,_,L⟩
    have:=L.a1;have:=L.b1;have:=L.n;omega
   ·rintro⟨H,G⟩ d ⟨l,r,m,t⟩
    dsimp only at m;subst m;exact Qj (h _ _ l t)
end
set_option autoImplicit false
noncomputable def Qk5(lo a d:Nat):StateT SortSt Sem AscSt:=
 forIn [a:d] ((none,a):AscSt) fun _ c=>do
  let e <-ltAt' (lo+c.snd) (lo+c.snd-1)
  match e with
  |some b=>if b=true then pure (ForInStep.done (none,c.snd))else pure (ForInStep.yield (none,c.snd+1))
  |_=>pure (ForInStep.done (some none,c.snd))
noncomputable def QcX(lo n a:Nat):StateT SortSt Sem (Option Nat):=do
 reverseSlice' lo (lo+n)
 let b <-Qk5 lo n a
 match b.fst with
 |some r=>pure r
 |none=>pure (some b.snd)
noncomputable def QfC(lo n e:Nat):StateT SortSt Sem DescSt:=
 forIn [n:e] ((none,n,0):DescSt) fun _ a=>do
  let d <-ltAt' (lo+a.snd.fst) (lo+a.snd.fst-1)
  match d with
  | some b=>
   if b=true then
    if a.snd.snd>0 then do
     reverseSlice' (lo+a.snd.fst-(a.snd.snd+1)) (lo+a.snd.fst)
     pure (ForInStep.yield (none,a.snd.fst+1,0))
    else pure (ForInStep.yield (none,a.snd.fst+1,0))
   else do
    let d <-ltAt' (lo+a.snd.fst-1) (lo+a.snd.fst)
    match d with
    |some c=>
     if c=true then pure (ForInStep.done (none,a.snd.fst,a.snd.snd))
     else pure (ForInStep.yield (none,a.snd.fst+1,a.snd.snd+1))
    |_=>pure (ForInStep.done (some none,a.snd.fst,a.snd.snd))
  |_=>pure (ForInStep.done (some none,a.snd.fst,a.snd.snd))
noncomputable def Ge(lo n b:Nat):StateT SortSt Sem (Option Nat):=do
 liftM (rule "list.sort.descending-run")
 let a <-QfC lo (n+1) b
 match a.fst with
 |some r=>pure r
 | none=>
  if a.snd.snd>0 then do
   reverseSlice' (lo+a.snd.fst-(a.snd.snd+1)) (lo+a.snd.fst)
   QcX lo a.snd.fst b
  else QcX lo a.snd.fst b
theorem QfR(lo b:Nat):countRun' lo b=(do
  let a <-Qk5 lo 1 b
  match a.fst with
  |some r=>pure r
  | none=>
   if(a.snd==b)=true then pure (some a.snd)
   else if a.snd>1 then do
    let i <-ltAt' lo (lo+a.snd-1)
    match i with
    | some c=>if c=true then pure (some a.snd)else do
      reverseSlice' lo (lo+a.snd)
      Ge lo a.snd b
    |_=>pure none
   else Ge lo a.snd b):=by
 rw[countRun'_eq];unfold Ge QcX QfC Qk5;refine congr (congrArg bind ?_) ?_
 ·(focus (refine congrArg (forIn _ _) (funext fun _=>funext fun t=>?_);(repeat' (first|(with_reducible rfl)|((with_reducible refine Zy ?_ fun _=>?_)<;>dsimp only)|(with_reducible refine Qo fun _=>?_)|(with_reducible refine QT ?_ ?_)))))
 funext a;obtain⟨r,n⟩:=a;cases r with
 |some r=>rfl
 | none=>
  dsimp only;refine QT rfl (QT (Zy rfl fun c=>?_) ?_)
  ·dsimp only;refine QT rfl (Qo fun _=>?_)
   (refine Qo fun _=>?_;refine congr (congrArg bind ?_) ?_;(focus (refine congrArg (forIn _ _) (funext fun _=>funext fun t=>?_);(repeat' (first|(with_reducible rfl)|((with_reducible refine Zy ?_ fun _=>?_)<;>dsimp only)|(with_reducible refine Qo fun _=>?_)|(with_reducible refine QT ?_ ?_)))));(funext g;obtain⟨f,l,j⟩:=g;rcases f with _|f;(dsimp only;refine QT (Qo fun _=>?_) ?_;(refine Qo fun _=>?_;refine congr (congrArg bind ?_) ?_;(focus (refine congrArg (forIn _ _) (funext fun _=>funext fun t=>?_);(repeat' (first|(with_reducible rfl)|((with_reducible refine Zy ?_ fun _=>?_)<;>dsimp only)|(with_reducible refine Qo fun _=>?_)|(with_reducible refine QT ?_ ?_)))));(funext d;obtain⟨e,h⟩:=d;cases e<;>rfl));(refine Qo fun _=>?_;refine congr (congrArg bind ?_) ?_;(focus (refine congrArg (forIn _ _) (funext fun _=>funext fun t=>?_);(repeat' (first|(with_reducible rfl)|((with_reducible refine Zy ?_ fun _=>?_)<;>dsimp only)|(with_reducible refine Qo fun _=>?_)|(with_reducible refine QT ?_ ?_)))));(funext d;obtain⟨e,h⟩:=d;cases e<;>rfl)));rfl))
  ·(refine Qo fun _=>?_;refine congr (congrArg bind ?_) ?_;(focus (refine congrArg (forIn _ _) (funext fun _=>funext fun t=>?_);(repeat' (first|(with_reducible rfl)|((with_reducible refine Zy ?_ fun _=>?_)<;>dsimp only)|(with_reducible refine Qo fun _=>?_)|(with_reducible refine QT ?_ ?_)))));(funext g;obtain⟨f,l,j⟩:=g;rcases f with _|f;(dsimp only;refine QT (Qo fun _=>?_) ?_;(refine Qo fun _=>?_;refine congr (congrArg bind ?_) ?_;(focus (refine congrArg (forIn _ _) (funext fun _=>funext fun t=>?_);(repeat' (first|(with_reducible rfl)|((with_reducible refine Zy ?_ fun _=>?_)<;>dsimp only)|(with_reducible refine Qo fun _=>?_)|(with_reducible refine QT ?_ ?_)))));(funext d;obtain⟨e,h⟩:=d;cases e<;>rfl));(refine Qo fun _=>?_;refine congr (congrArg bind ?_) ?_;(focus (refine congrArg (forIn _ _) (funext fun _=>funext fun t=>?_);(repeat' (first|(with_reducible rfl)|((with_reducible refine Zy ?_ fun _=>?_)<;>dsimp only)|(with_reducible refine Qo fun _=>?_)|(with_reducible refine QT ?_ ?_)))));(funext d;obtain⟨e,h⟩:=d;cases e<;>rfl)));rfl))
noncomputable def F(f:Keyed->Int)(xs:Array Keyed)(i:Nat):Int:=(xs[i]?.map f).getD 0
theorem QeJ{f:Keyed->Int}{xs:Array Keyed}{i:Nat}(h:i<xs.size):F f xs i=f xs[i]:=by unfold F;rw[getElem?_pos xs i h];rfl
theorem XB{f:Keyed->Int}{xs a:Array Keyed}{i j:Nat}(h:xs[i]?=a[j]?):F f xs i=F f a j:=by unfold F;rw[h]
def So(f:Keyed->Int)(xs:Array Keyed)(i j:Nat):Prop:=∀k l,i<=k->k<=l->l<j->F f xs k<=F f xs l
def Ni(f:Keyed->Int)(xs:Array Keyed)(i j:Nat):Prop:=∀k l,i<=k->k<=l->l<j->F f xs l<=F f xs k
structure Mv(lo hi:Nat)(xs ys:Array Keyed):Prop where
 pm:ys.Perm xs
 out:∀k,k<lo\/hi<=k->ys[k]?=xs[k]?
theorem Mv.refl{lo hi:Nat}(xs:Array Keyed):Mv lo hi xs xs:=⟨Array.Perm.refl _,fun _ _=>rfl⟩
theorem Mv.trans{lo hi:Nat}{xs b a:Array Keyed}(h:Mv lo hi xs b)(h':Mv lo hi b a):Mv lo hi xs a:=⟨h'.pm.trans h.pm,fun k c=>(h'.out k c).trans (h.out k c)⟩
theorem Mv.wide{lo hi lo' hi':Nat}{xs a:Array Keyed}(h:Mv lo hi xs a)(c:lo'<=lo)(h2:hi<=hi'):Mv lo' hi' xs a:=⟨h.pm,fun k b=>h.out k (by lia)⟩
theorem Mv.size{lo hi:Nat}{xs a:Array Keyed}(h:Mv lo hi xs a):a.size=xs.size:=by
 have:=(Dv.mp h.pm).length_eq;simpa using this
theorem X2{xs:Array Keyed}{i j:Nat}(a:j<=xs.size):Mv i j xs (mirror xs i j ((j-i)/2)):=
 ⟨mirror_perm _ _ _ _,fun k b=>by rw[L7 a,if_neg (by lia)]⟩
theorem QeG{xs:Array Keyed}{src d:Nat}(a:src<xs.size)(hd:d<=src):Mv (src-d) (src+1) xs (bubble xs src d):=
 ⟨bubble_perm _ _ _,fun k b=>by rw[getElem?_bubble a d hd,if_neg (by lia),if_neg (by lia)]⟩
section
variable{f:Keyed->Int}{xs:Array Keyed}
theorem WI{i j:Nat}(b:j<=xs.size)(k:Nat):F f (mirror xs i j ((j-i)/2)) k=if i<=k/\k<j then F f xs (i+j-1-k)else F f xs k:=by
 have e:=L7 (i:=i) b k
 by_cases a:i<=k/\k<j
 ·rw[if_pos a]at e ⊢;exact XB e
 ·rw[if_neg a]at e ⊢;exact XB e
theorem Z8{i j:Nat}(a:j<=xs.size)(heq:∀k,i<=k->k<j->F f xs k=F f xs (j-1))(k:Nat):F f (mirror xs i j ((j-i)/2)) k=F f xs k:=by
 rw[WI a];split
 ·rw[heq _ (by omega) (by omega),heq k (by lia) (by lia)]
 ·rfl
theorem Qbz{src d:Nat}(a:src<xs.size)(hd:d<=src)(k:Nat):F f (bubble xs src d) k=if k=src-d then F f xs src else if src-d<k/\k<=src then F f xs (k-1)else F f xs k:=by
 have e:=getElem?_bubble a d hd k
 repeat' split
 all_goals simp_all[F]
end
section
variable{prog:Program}{w:World}{A:Around}{E:Value->Shared->Prop}{s:Shared}{κ:SortKind}{M:Keyed->Prop}{f:Keyed->Int}
def Al(M:Keyed->Prop)(xs:Array Keyed):Prop:=∀x∈xs.toList,M x
theorem Al.at{xs:Array Keyed}(h:Al M xs)(i:Nat)(hi:i<xs.size):M xs[i]:=h _ (by simp)
theorem Al.mv{lo hi:Nat}{xs a:Array Keyed}(h:Al M xs)(m:Mv lo hi xs a):Al M a:=fun x b=>h x ((Dv.mp m.pm).mem_iff.mp b)
theorem Qep{i j:Nat}{P:Option Bool->SortSt->Prop}{st:SortSt}(d:Cmp prog w A s κ M f)(c:kindOf st=κ)(b:Al M (arrOf st))(hi:i<(arrOf st).size)(a:j<(arrOf st).size)(h:P (some (decide (F f (arrOf st) i<F f (arrOf st) j))) st):T prog w A E s (ltAt' i j) P st:=by
 rw[ltAt'_eq];refine Qg (Y7 (Qg (Q8 hi (Qg (Q8 a (Qkz d c (b.at _ hi) (b.at _ a) ?_))))));rw[QeJ hi,QeJ a]at h;exact h
theorem QhF{i j:Nat}{P:Option Bool->SortSt->Prop}{st:SortSt}{a:Array Keyed}(e:Cmp prog w A s κ M f)(c:kindOf st=κ)(b:Al M a)(hi:i<a.size)(d:j<a.size)(h:P (some (decide (F f a i<F f a j))) (setArr st a)):T prog w A E s (ltAt' i j) P (setArr st a):=
 Qep (st:=setArr st a) e c b hi d h
theorem QeW{i j:Nat}{P:Unit->SortSt->Prop}{st:SortSt}(h:P () (setArr st (mirror (arrOf st) i j ((j-i)/2)))):T prog w A E s (reverseSlice' i j) P st:=by
 rw[reverseSlice'_eq];exact Jb h
theorem QkB{lo a b:Nat}{st:SortSt}{P:AscSt->SortSt->Prop}(C:Cmp prog w A s κ M f)(B:kindOf st=κ)(z:Al M (arrOf st))(u:lo+b<=(arrOf st).size)(G:1<=a)(t:a<=b)(y:So f (arrOf st) lo (lo+a))
  (h:∀n,a<=n->n<=b->So f (arrOf st) lo (lo+n)->(n=b\/F f (arrOf st) (lo+n)<F f (arrOf st) (lo+n-1))->P (none,n) st):T prog w A E s (Qk5 lo a b) P st:=by
 unfold Qk5;refine Xn (I:=fun x c g=>g=st/\c=(none,x)/\So f (arrOf st) lo (lo+x)) ?_ ?_ ⟨rfl,rfl,y⟩
 ·rintro x c g r l ⟨rfl,rfl,e⟩
  dsimp only;refine Qg (Qep C B z (Nd (NO l _) u) (Nd (Nf (NZ _ _) (NO l _)) u) ?_)
  by_cases d:F f (arrOf g) (lo+x)<F f (arrOf g) (lo+x-1)
  ·rw[decide_eq_true d];exact Qj (h x r (Nn l) e (.inr d))
  ·rw[decide_eq_false d];refine Qj ⟨rfl,rfl,fun i j v p D=>?_⟩
   by_cases m:j<lo+x
   ·exact e i j v p m
   ·have o:j=lo+x:=by lia
    subst o
    by_cases q:i=lo+x
    ·subst q;lia
    ·have:=e i (lo+x-1) v (by lia) (by omega);exact ED this (F4.mp d)
 ·rintro c g ⟨rfl,rfl,e⟩
  rw[show max a b=b by lia]at e ⊢;exact h b t (Nw _) e (.inl rfl)
theorem QgS{lo n a:Nat}{st:SortSt}{P:Option Nat->SortSt->Prop}(v:Cmp prog w A s κ M f)(t:kindOf st=κ)(r:Al M (arrOf st))(o:lo+a<=(arrOf st).size)(p:1<=n)(c:n<=a)(q:Ni f (arrOf st) lo (lo+n))
  (h:∀m d,1<=m->m<=a->Mv lo (lo+a) (arrOf st) d->So f d lo (lo+m)->P (some m) (setArr st d)):T prog w A E s (QcX lo n a) P st:=by
 unfold QcX;have b:lo+n<=(arrOf st).size:=by exact Nh (NL c _) o
 have mv:=(X2 (i:=lo) b).wide (Nw lo) (show lo+n<=lo+a by exact NL c _);refine Qg (QeW (Qg (QkB v t (r.mv mv) (by rw[show arrOf (setArr st _)=_ from rfl,mv.size];exact o) p c ?_ fun m l g e _=>Qj (h m _ (Nh p l) g mv e))));intro i j y u x;show F f (mirror (arrOf st) lo (lo+n) _) i<=F f (mirror (arrOf st) lo (lo+n) _) j;rw[WI b,WI b,if_pos (by lia),if_pos (by lia)];exact q _ _ (by omega) (by omega) (by omega)
theorem Qk3{lo n b:Nat}{st:SortSt}{P:DescSt->SortSt->Prop}(hc:Cmp prog w A s κ M f)(v:kindOf st=κ)(Y:Al M (arrOf st))(U:lo+b<=(arrOf st).size)(y:1<=n)(C:n<=b)(hs:Ni f (arrOf st) lo (lo+n))
  (h:∀m a d,n<=m->m<=b->Mv lo (lo+b) (arrOf st) d->Ni f d lo (lo+m)->a+1<=m->(∀i,lo+m-(a+1)<=i->i<lo+m->F f d i=F f d (lo+m-1))->P (none,m,a) (setArr st d)):T prog w A E s (QfC lo n b) P st:=by
 unfold QfC;refine Xn (I:=fun x c q=>∃a d,c=(none,x,a)/\q=setArr st d/\Mv lo (lo+b) (arrOf st) d/\Ni f d lo (lo+x)/\a+1<=x/\(∀i,lo+x-(a+1)<=i->i<lo+x->F f d i=F f d (lo+x-1))) ?_ ?_ ⟨0,arrOf st,rfl,rfl,Mv.refl _,hs,by exact y,fun i y S=>by congr 1;lia⟩
 ·rintro x c q Q o ⟨a,d,rfl,rfl,mv,l,u,r⟩
  dsimp only;have t:=mv.size
  have g:∀B:Array Keyed,(∀k,F f B k=F f d k)->F f d (lo+x)<=F f d (lo+x-1)->Ni f B lo (lo+(x+1)):=by
   intro B v D i j Z N hj;rw[v,v]
   by_cases G:j<lo+x
   ·exact l i j Z N G
   ·have H:j=lo+x:=by lia
    subst H
    by_cases O:i=lo+x
    ·subst O;lia
    ·have:=l i (lo+x-1) Z (by lia) (by omega);exact ED D this
  refine Qg (QhF hc v (Y.mv mv) (Nd (Nd (NO o _) U) (Nt t.symm)) (by lia) ?_)
  by_cases e:F f d (lo+x)<F f d (lo+x-1)
  ·rw[decide_eq_true e];dsimp only;rw[if_pos rfl]
   by_cases p:a>0
   ·rw[if_pos p];have hb:lo+x<=d.size:=by lia
    have me:∀k,F f (mirror d (lo+x-(a+1)) (lo+x) ((lo+x-(lo+x-(a+1)))/2)) k=F f d k:=Z8 hb r;exact Qg (QeW (Qj ⟨0,_,rfl,rfl,mv.trans ((X2 hb).wide (by lia) (Nn (NO o _))),g _ me (E5 e),by exact D5 _,fun i y S=>by congr 1;lia⟩))
   ·rw[if_neg p];exact Qj ⟨0,d,rfl,rfl,mv,g _ (fun _=>rfl) (E5 e),by exact D5 _,fun i y S=>by congr 1;omega⟩
  ·rw[decide_eq_false e];dsimp only;rw[if_neg (by simp)];refine Qg (QhF hc v (Y.mv mv) (by lia) (Nd (Nd (NO o _) U) (Nt t.symm)) ?_)
   by_cases z:F f d (lo+x-1)<F f d (lo+x)
   ·rw[decide_eq_true z];exact Qj (h x a d Q (Nn o) mv l u r)
   ·rw[decide_eq_false z];refine Qj ⟨a+1,d,rfl,rfl,mv,g _ (fun _=>rfl) (F4.mp z),by exact DB u _,fun i y S=>?_⟩;rw[show lo+(x+1)-1=lo+x by exact rfl]
    by_cases L:i=lo+x
    ·subst L;rfl
    ·rw[r i (by lia) (by lia)];exact Le (F4.mp e) (F4.mp z)
 ·rintro c q ⟨a,d,rfl,rfl,mv,l,u,r⟩
  rw[show max n b=b by lia]at l u r ⊢;exact h b a d C (Nw _) mv l u r
end
set_option autoImplicit false
section
variable{prog:Program}{w:World}{A:Around}{E:Value->Shared->Prop}{s:Shared}{κ:SortKind}{M:Keyed->Prop}{f:Keyed->Int}
theorem Qea{lo n a:Nat}{st:SortSt}{P:Option Nat->SortSt->Prop}(G:Cmp prog w A s κ M f)(C:kindOf st=κ)(B:Al M (arrOf st))(q:lo+a<=(arrOf st).size)(z:n+1<=a)(L:Ni f (arrOf st) lo (lo+(n+1)))
  (h:∀m c,1<=m->m<=a->Mv lo (lo+a) (arrOf st) c->So f c lo (lo+m)->P (some m) (setArr st c)):T prog w A E s (Ge lo n a) P st:=by
 unfold Ge;refine Qg (Wv (Qg (Qk3 G C B q (E8 _ _) z L fun m b c p d mv o S Q=>?_)));dsimp only;have l:=mv.size
 by_cases e:b>0
 ·rw[if_pos e];have I:lo+m<=c.size:=by exact Nh (Nh (NL d _) q) (Nt l.symm)
  have H:∀k,F f (mirror c (lo+m-(b+1)) (lo+m) ((lo+m-(lo+m-(b+1)))/2)) k=F f c k:=Z8 I Q;have g:Mv lo (lo+a) (arrOf st) (mirror c (lo+m-(b+1)) (lo+m) ((lo+m-(lo+m-(b+1)))/2)):=mv.trans ((X2 I).wide (by lia) (NL d _));refine Qg (QeW (QgS (st:=setArr st (mirror c (lo+m-(b+1)) (lo+m) ((lo+m-(lo+m-(b+1)))/2))) G C (B.mv g) (by show _<=Array.size (mirror _ _ _ _);rw[g.size];exact q) (Nh (E8 _ _) p) d ?_ fun y r x v u t=>h y r x v (g.trans u) t));intro i j O D N;show F f (mirror c _ _ _) j<=F f (mirror c _ _ _) i;rw[H,H];exact o i j O D N
 ·rw[if_neg e];exact QgS (st:=setArr st c) G C (B.mv mv) (by show _<=c.size;exact Nh q (Nt l.symm)) (Nh (E8 _ _) p) d o fun y r x v u t=>h y r x v (mv.trans u) t
theorem Qi5{lo a:Nat}{st:SortSt}{P:Option Nat->SortSt->Prop}(z:Cmp prog w A s κ M f)(t:kindOf st=κ)(y:Al M (arrOf st))(x:lo+a<=(arrOf st).size)(Z:1<=a)
  (h:∀m B,1<=m->m<=a->Mv lo (lo+a) (arrOf st) B->So f B lo (lo+m)->P (some m) (setArr st B)):T prog w A E s (countRun' lo a) P st:=by
 rw[QfR];refine Qg (QkB z t y x (Nw 1) Z (fun i j v e I=>by have:i=j:=(by lia);subst this;lia) fun n o d c C=>?_);dsimp only
 by_cases l:n=a
 ·rw[if_pos (by simpa using l)];exact Qj (h n (arrOf st) o d (Mv.refl _) c)
 ·rw [if_neg (by simpa using l)];have p:=C.resolve_left l
  by_cases r:n>1
  ·rw[if_pos r];refine Qg (Qep z t y (by lia) (by lia) ?_)
   by_cases hr:F f (arrOf st) lo<F f (arrOf st) (lo+n-1)
   ·rw[decide_eq_true hr];exact Qj (h n (arrOf st) o d (Mv.refl _) c)
   ·rw[decide_eq_false hr];dsimp only;rw[if_neg (by simp)];have g:lo+n<=(arrOf st).size:=by exact Nh (NL d _) x
    have b:∀k,lo<=k->k<lo+n->F f (arrOf st) k=F f (arrOf st) (lo+n-1):=by
     intro k L t;have a1:=c lo k (Nw _) L t;have a2:=c k (lo+n-1) L (by lia) (by omega);exact Le a2 (ED (F4.mp hr) a1)
    have mv:=(X2 (i:=lo) g).wide (Nw lo) (show lo+n<=lo+a by exact NL d _);refine Qg (QeW (Qea (st:=setArr st (mirror (arrOf st) lo (lo+n) ((lo+n-lo)/2))) z t (y.mv mv) (by show _<=Array.size (mirror _ _ _ _);rw[mv.size];exact x) (by lia) ?_ fun Y N U S Q O=>h Y N U S (mv.trans Q) O));intro i j v e I;show F f (mirror (arrOf st) _ _ _) j<=F f (mirror (arrOf st) _ _ _) i;rw[Z8 g b,Z8 g b]
    by_cases u:j<lo+n
    ·rw[b i v (Nf e u),b j (Nh v e) u];lia
    ·have G:j=lo+n:=by lia
     subst G
     by_cases q:i=lo+n
     ·subst q;lia
     ·rw[b i v (by lia)];exact E5 p
  ·rw[if_neg r];have:n=1:=by exact Eh (NN.mp r) o
   subst this;refine Qea z t y x (by lia) ?_ h;intro i j v e I
   by_cases q:i=j
   ·subst q;lia
   ·have H:i=lo:=by lia
    have D:j=lo+1:=by lia
    subst H;subst D;rw[show i+1-1=i by exact rfl]at p;exact E5 p
theorem QfN{lo n ok:Nat}{st:SortSt}{P:Bool->SortSt->Prop}(D:Cmp prog w A s κ M f)(Z:kindOf st=κ)(L:Al M (arrOf st))(H:lo+n<=(arrOf st).size)(S:ok<=n)(O:So f (arrOf st) lo (lo+ok))
  (h:∀a,Mv lo (lo+n) (arrOf st) a->So f a lo (lo+n)->P true (setArr st a)):T prog w A E s (binarySort' lo n ok) P st:=by
 rw[binarySort'_eq]
 refine Qg (QV (Xn (I:=fun k c g=>c=(none,())/\∃a,g=setArr st a/\Mv lo (lo+n) (arrOf st) a/\So f a lo (lo+min k n))
  (Q:=fun c g=>c=(none,())/\∃a,g=setArr st a/\Mv lo (lo+n) (arrOf st) a/\So f a lo (lo+n)) ?step ?fin ?init) ?post)
 case post=>
  rintro c g ⟨rfl,a,rfl,mv,e⟩
  exact Qj (h a mv e)
 case init=>
  refine⟨rfl,arrOf st,rfl,Mv.refl _,fun i j C z hj=>?_⟩
  by_cases B:ok=0
  ·have:i=j:=by lia
   subst this;lia
  ·exact O i j C z (by lia)
 case fin=>
  rintro c g ⟨D,a,rfl,mv,e⟩
  refine⟨D,a,rfl,mv,?_⟩;rwa[show min (max (max ok 1) n) n=n by lia]at e
 case step=>
  rintro k c g aa t ⟨rfl,a,rfl,mv,e⟩
  rw[show min k n=k by lia]at e;have v:=mv.size
  refine Qg (QV (Xn (I:=fun x c b=>b=setArr st a/\∃l r,c=(none,l,r)/\l<=r/\r<=k/\r-l<=k-x /\
    (∀i,lo<=i->i<lo+l->F f a i<=F f a (lo+k))/\(∀i,lo+r<=i->i<lo+k->F f a (lo+k)<F f a i))
   (Q:=fun c b=>b=setArr st a/\∃l r,c=(none,l,r)/\l<=k /\
    (∀i,lo<=i->i<lo+l->F f a i<=F f a (lo+k))/\(∀i,lo+l<=i->i<lo+k->F f a (lo+k)<F f a i)) ?istep ?ifin ?iinit) ?ipost)
  case iinit=>exact⟨rfl,0,k,rfl,by exact NJ _,by exact Nw _,by exact Nw _,fun i C=>by lia,fun i B G=>by lia⟩
  case ifin=>
   rintro c b ⟨rfl,l,r,rfl,y,p,L,m,o⟩
   have:l=r:=by lia
   subst this;exact⟨rfl,l,l,rfl,p,m,o⟩
  case istep=>
   rintro x c b _ N ⟨rfl,l,r,rfl,y,p,U,m,o⟩
   dsimp only
   by_cases u:l >= r
   ·rw[if_pos u];have:l=r:=by exact Eh y u
    subst this;exact Qj ⟨rfl,l,l,rfl,p,m,o⟩
   ·rw[if_neg u];refine Qg (QhF D Z (L.mv mv) (Nd (Nd (NO t _) H) (Nt v.symm)) (by lia) ?_)
    by_cases d:F f a (lo+k)<F f a (lo+(l+r)/2)
    ·rw[decide_eq_true d];refine Qj ⟨rfl,l,(l+r)/2,rfl,by lia,by lia,by omega,m,fun i B G=>?_⟩;have:=e (lo+(l+r)/2) i (Nm _ _) B G;exact Int.lt_of_lt_of_le d this
    ·rw[decide_eq_false d];refine Qj ⟨rfl,(l+r)/2+1,r,rfl,by lia,by exact p,by omega,fun i B G=>?_,o⟩;have:=e i (lo+(l+r)/2) B (by lia) (by lia);exact ED this (F4.mp d)
  case ipost=>
   rintro c b ⟨rfl,l,r,rfl,Y,m,o⟩
   show T _ _ _ _ _ (do moveDown' (lo+k) (lo+l);pure (ForInStep.yield (none,()))) _ _;rw[moveDown'_eq];have q:lo+k<a.size:=by exact Nd (Nd (NO t _) H) (Nt v.symm)
   refine Qg (Jb (Qj ⟨rfl,bubble a (lo+k) (lo+k-(lo+l)),rfl,mv.trans ((QeG q (NZ _ _)).wide (by omega) (NO t _)),?_⟩));rw[show min (k+1) n=k+1 by lia];intro i j C z hj;rw[Qbz q (NZ _ _),Qbz q (NZ _ _),show lo+k-(lo+k-(lo+l))=lo+l by lia]
   repeat' split
   all_goals first
    |(exfalso;lia)
    |lia
    |exact m _ (by omega) (by lia)
    |exact E5 (o _ (by lia) (by omega))
    |exact e _ _ (by omega) (by lia) (by omega)
end
theorem Qa5(s:Nat):∀(l:List Keyed) (n:Nat) (xs:Array Keyed),s+n+l.length<=xs.size ->
  ((l.zipIdx n).foldl (fun a (p,j)=>a.setIfInBounds (s+j) p) xs).size=xs.size/\∀k,((l.zipIdx n).foldl (fun a (p,j)=>a.setIfInBounds (s+j) p) xs)[k]?=if s+n<=k/\k<s+n+l.length then l[k-(s+n)]? else xs[k]?
 |[],n,xs,_=>⟨rfl,fun k=>by rw[if_neg (by simp)];rfl⟩
 | p::l,n,xs,h=>by
  rw[NP]at h;have b:=Qa5 s l (n+1) (xs.setIfInBounds (s+n) p) (by rw[IK];lia);rw[List.zipIdx_cons,Fo];refine⟨b.1.trans (IK ..),fun k=>?_⟩;rw[b.2 k,NP]
  by_cases c:s+(n+1)<=k/\k<s+(n+1)+l.length
  ·rw[if_pos c,if_pos (by lia),show k-(s+n)=(k-(s+(n+1)))+1 by lia,List.getElem?_cons_succ]
  ·rw[if_neg c]
   by_cases d:k=s+n
   ·subst d;rw[if_pos (by lia),FV,IW,F9,if_pos rfl,if_pos (by lia)]
   ·rw[if_neg (by lia),F9,if_neg (by lia)]
set_option autoImplicit false
theorem QbG(i:Nat):mergeAt' i=(do
 let s <-get
 let(some (sa,c,power),some (sb,b,_)):=((pendingOf s)[i]?,(pendingOf s)[i+1]?)|unsupported "internal:list.sort.pending"
 set (setPending s (((pendingOf s).setIfInBounds i (sa,c+b,power)).eraseIdxIfInBounds (i+1)))
 let some k <-Jn false (<-elem' (arrOf s) sb) (arrOf s) sa c 0|return false
 let(sa,c):=(sa+k,c-k)
 if c==0 then return true
 let some b <-Jn true (<-elem' (arrOf s) (sa+c-1)) (arrOf s) sb b (b-1)|return false
 if b==0 then return true
 let x:=(arrOf s).extract sa sb
 let y:=(arrOf s).extract sb (sb+b)
 let merged <-if c<=b then K5 x y else K0 x y
 modify fun s=>setArr s (merged.toList.zipIdx.foldl (fun a (p,j)=>a.setIfInBounds (sa+j) p) (arrOf s))
 return(failedOf (<-get)).isNone):=rfl
section
variable{f:Keyed->Int}{M:Keyed->Prop}{xs:Array Keyed}
theorem XF{i j k:Nat}(b:j<=xs.size)(a:k<(xs.extract i j).size):∃h:i+k<xs.size,(xs.extract i j)[k]=xs[i+k]:=by
 have:k<j-i:=by simpa[Ds b]using a
 exact⟨by omega,by simp⟩
theorem V7{i j:Nat}(a:j<=xs.size):(xs.extract i j).size=j-i:=by simp[Ds a]
theorem Qg2{i j:Nat}(d:j<=xs.size)(h:So f xs i j):(xs.extract i j).toList.Pairwise fun x y=>f x<=f y:=by
 rw[E4];intro p q m l c;have b:p<(xs.extract i j).size:=by rw[<-NB];exact m
 have a:q<(xs.extract i j).size:=by rw[<-NB];exact l
 obtain⟨g,o⟩:=XF d b;obtain⟨e,n⟩:=XF d a;rw[V7 d]at b a;show f (xs.extract i j)[p]<=f (xs.extract i j)[q];rw[o,n,<-QeJ (f:=f) g,<-QeJ (f:=f) e];exact h _ _ (Nm _ _) (Nn (NO c _)) (by lia)
theorem WV{i j:Nat}(b:j<=xs.size){x:Keyed}(h:x∈(xs.extract i j).toList):∃k,∃l:k<xs.size,i<=k/\k<j/\x=xs[k]:=by
 obtain⟨p,d,e⟩:=Dz.mp h;have a:p<(xs.extract i j).size:=by rw[<-NB];exact d
 obtain⟨c,g⟩:=XF b a;rw[V7 b]at a;exact⟨i+p,c,by exact Nm _ _,by omega,by rw[<-e,<-g];rfl⟩
theorem QeZ{sa sb se:Nat}{m a:Array Keyed}(g:sa<=sb)(h2:sb<=se)(b:se<=xs.size)(e:m.toList.Perm ((xs.extract sa sb).toList++(xs.extract sb se).toList))(hsz:a.size=xs.size)
  (d:∀k,a[k]?=if sa<=k/\k<sa+m.toList.length then m.toList[k-sa]? else xs[k]?):Mv sa se xs a/\m.size=se-sa:=by
 have i:=e.length_eq;rw[NC,NB,NB,NB,V7 (Nh h2 b),V7 b]at i;refine⟨⟨?_,fun k o=>?_⟩,by lia⟩
 ·rw[Dv]
  have j:a.toList=xs.toList.take sa++(m.toList++xs.toList.drop se):=by
   apply Iq;intro k;rw[N0,d k,LN,LN,Ey,NB,NB,Ds (Nh (Nh g h2) b),List.getElem?_take,Ou,N0]
   by_cases c:k<sa
   ·rw[if_neg (by lia),if_pos c,if_pos c,N0]
   ·rw[if_neg c]
    by_cases h:k-sa<m.size
    ·rw[if_pos (by lia),if_pos h]
    ·rw[if_neg (by lia),if_neg h];rw[show se+(k-sa-m.size)=k by lia,N0]
  have ex:xs.toList=xs.toList.take sa++(((xs.extract sa sb).toList++(xs.extract sb se).toList)++xs.toList.drop se):=by
   have n:(xs.extract sa sb).toList++(xs.extract sb se).toList=(xs.toList.drop sa).take (se-sa):=by
    rw[E9,E9,Eo,Eo,show se-sa=(sb-sa)+(se-sb) by lia,List.take_add,LF,show sa+(sb-sa)=sb by exact DL g]
   rw[n];have l:xs.toList.drop se=(xs.toList.drop sa).drop (se-sa):=by rw[LF,show sa+(se-sa)=se by lia]
   rw[l,EB,EB]
  rw[j]
  conv=>rhs;rw[ex]
  exact Dp _ (e.append_right _)
 ·rw[d k,if_neg (by rw[NB];lia)]
end
section
variable{prog:Program}{w:World}{A:Around}{E:Value->Shared->Prop}{s:Shared}{κ:SortKind}{M:Keyed->Prop}{f:Keyed->Int}
set_option maxHeartbeats 1000000 in
theorem QdZ {i sa z pw sb t pw2:Nat} {l1 l2:List (Nat×Nat×Nat)} {st:SortSt} {P:Bool->SortSt->Prop} (hc:Cmp prog w A s κ M f) (I:kindOf st=κ) (hf:failedOf st=none) (hm:Al M (arrOf st))
    (hp:(pendingOf st).toList=l1++(sa,z,pw)::(sb,t,pw2)::l2) (hi:l1.length=i) (y:sb=sa+z) (h1:1<=z) (h2:1<=t) (b:sb+t<=(arrOf st).size) (s1:So f (arrOf st) sa sb) (N:So f (arrOf st) sb (sb+t))
    (h:∀m:SortSt,kindOf m=κ->failedOf m=none->(pendingOf m).toList=l1++(sa,z+t,pw)::l2->Mv sa (sb+t) (arrOf st) (arrOf m)->So f (arrOf m) sa (sb+t)->P true m):T prog w A E s (mergeAt' i) P st:=by
  rw[QbG];refine Qg (Y7 ?_)
  have e1:(pendingOf st)[i]?=some (sa,z,pw):=by
    rw[<-N0,hp,<-hi];simp
  have e2:(pendingOf st)[i+1]?=some (sb,t,pw2):=by
    rw[<-N0,hp,<-hi];simp
  rw[e1,e2];dsimp only;refine Qg (QmV ?_)
  have U:(((pendingOf st).setIfInBounds i (sa,z+t,pw)).eraseIdxIfInBounds (i+1)).toList=l1++(sa,z+t,pw)::l2:=by
    rw[Array.toList_eraseIdxIfInBounds,Array.toList_setIfInBounds,hp,<-hi];simp[List.set_append,List.eraseIdx_append];intro hh;lia
  generalize((pendingOf st).setIfInBounds i (sa,z+t,pw)).eraseIdxIfInBounds (i+1)=pq at U;have hF:∀k (I:k<(arrOf st).size),F f (arrOf st) k=f (arrOf st)[k]:=fun k I=>QeJ I;refine Qg (Q8 (by lia) (Qg (V9 (st:=setPending st pq) hc I (hm.at _ _) (Nh (Nh (Nt y.symm) (Nm _ _)) b) h1 hm.at (fun i j hi L d c u=>by rw[<-hF,<-hF];exact s1 i j d c (Nd u (Nt y.symm))) fun k H am al=>?_)));dsimp only
  have lo1:∀j,sa<=j->j<sa+k->F f (arrOf st) j<=F f (arrOf st) sb:=by
    intro j d c;have:=am (j-sa) (by lia) (E3 d c);simp only[bey,Ef,if_false,FJ,decide_eq_false_iff_not,show sa+(j-sa)=j by exact DL d]at this;rw[hF _ (by lia),hF _ (by lia)];omega
  have Y:∀j,sa+k<=j->j<sb->F f (arrOf st) sb<F f (arrOf st) j:=by
    intro j d c;have:=al (j-sa) (by lia) (by lia) (by lia);simp only[bey,Ef,if_false,Ij,decide_eq_true_eq,show sa+(j-sa)=j by lia]at this;rw[hF _ (by lia),hF _ (Nd (Nd c (Nm _ _)) b)];omega
  by_cases hz:(z-k==0)=true
  · rw[if_pos hz];simp only[beq_iff_eq]at hz;refine Qj (h (setPending st pq) I hf U (Mv.refl _) fun p q d c u=>?_);show F f (arrOf st) p<=F f (arrOf st) q
    by_cases o:q<sb
    · exact s1 p q d c o
    · by_cases n:p<sb
      · have Q:=lo1 p d (by lia);have O:=N sb q (Nw _) (NN.mp o) u;exact ED Q O
      · exact N p q (NN.mp n) c u
  · rw [if_neg hz];simp only[beq_iff_eq]at hz;refine Qg (Q8 (by lia) (Qg (V9 (st:=setPending st pq) hc I (hm.at _ _) b (by omega) hm.at (fun i j hi L d c u=>by rw[<-hF,<-hF];exact N i j d c u) fun e l ak aj=>?_)));dsimp only;have el:sa+k+(z-k)-1=sb-1:=by lia
    have ai:∀j,sb<=j->j<sb+e->F f (arrOf st) j<F f (arrOf st) (sb-1):=by
      intro j d c;have:=ak (j-sb) (by lia) (E3 d c);simp only[bey,if_true,decide_eq_true_eq,show sb+(j-sb)=j by exact DL d,el]at this;rw[hF _ (Nd (Nd c (NL l _)) b),hF _ (by lia)];exact this
    have af:∀j,sb+e<=j->j<sb+t->F f (arrOf st) (sb-1)<=F f (arrOf st) j:=by
      intro j d c;have:=aj (j-sb) (by lia) (by lia) (by lia);simp only[bey,if_true,decide_eq_false_iff_not,show sb+(j-sb)=j by lia,el]at this;rw[hF _ (by lia),hF _ (Nd c b)];omega
    by_cases C:(e==0)=true
    · rw[if_pos C];simp only[beq_iff_eq]at C;subst C;exfalso;have Q:=Y (sb-1) (by lia) (by omega);have O:=af sb (by lia) (by lia);lia
    · rw [if_neg C];simp only[beq_iff_eq]at C;have z1:((arrOf st).extract (sa+k) sb).size=z-k:=by rw[V7 (Nh (Nm _ _) b)];omega
      have z2:((arrOf st).extract sb (sb+e)).size=e:=by rw[V7 (Nh (NL l _) b)];exact EH ..
      have W:Two f M ((arrOf st).extract (sa+k) sb) ((arrOf st).extract sb (sb+e)):=by
        refine⟨fun i hi=>?_,fun i hi=>?_,Qg2 (Nh (Nm _ _) b) fun p q d c u=>s1 p q (Nh (Nm _ _) d) c u,Qg2 (Nh (NL l _) b) fun p q d c u=>N p q d c (Nd u (NL l _))⟩
        · obtain⟨d,c⟩:=XF (xs:=arrOf st) (i:=sa+k) (j:=sb) (Nh (Nm _ _) b) hi;rw[c];exact hm.at _ d
        · obtain⟨d,c⟩:=XF (xs:=arrOf st) (i:=sb) (j:=sb+e) (Nh (NL l _) b) hi;rw[c];exact hm.at _ d
      have gA:∀i (hi:i<((arrOf st).extract (sa+k) sb).size),f ((arrOf st).extract (sa+k) sb)[i]=F f (arrOf st) (sa+k+i):=by
        intro i hi;obtain⟨d,c⟩:=XF (xs:=arrOf st) (i:=sa+k) (j:=sb) (Nh (Nm _ _) b) hi;rw[c,hF _ d]
      have gB:∀i (hi:i<((arrOf st).extract sb (sb+e)).size),f ((arrOf st).extract sb (sb+e))[i]=F f (arrOf st) (sb+i):=by
        intro i hi;obtain⟨d,c⟩:=XF (xs:=arrOf st) (i:=sb) (j:=sb+e) (Nh (NL l _) b) hi;rw[c,hF _ d]
      have hT:Top f ((arrOf st).extract (sa+k) sb) ((arrOf st).extract sb (sb+e)):=by
        intro i hi he x S;obtain⟨j,L,d,c,rfl⟩:=WV (Nh (NL l _) b) S;rw[gA i hi,show sa+k+i=sb-1 by lia,<-hF _ L];exact E5 (ai j d c)
      have hB:Bot f ((arrOf st).extract (sa+k) sb) ((arrOf st).extract sb (sb+e)):=by
        intro i hi he x S;obtain⟨j,L,d,c,rfl⟩:=WV (Nh (Nm _ _) b) S;subst he;rw[gB 0 hi,<-hF _ L];exact E5 (Y j d c)
      have fin:∀ (r:Array Keyed) (m:SortSt),Sg (setPending st pq) m->Ro f ((arrOf st).extract (sa+k) sb) ((arrOf st).extract sb (sb+e)) r ->
          T prog w A E s (do
            modify fun s=>setArr s (r.toList.zipIdx.foldl (fun a (p,j)=>a.setIfInBounds (sa+k+j) p) (arrOf s))
            return(failedOf (<-get)).isNone) P m:=by
        rintro r m ⟨g,rfl⟩ ⟨rp,rs⟩
        have hl:=rp.length_eq;rw[NC,NB,NB,NB,z1,z2]at hl;obtain⟨fs,Z⟩:=Qa5 (sa+k) r.toList 0 (arrOf st) (by rw[NB];omega);simp only[Fx]at Z
        have fin2:∀G:Array Keyed,G.size=(arrOf st).size->(∀B,G[B]?=if sa+k<=B/\B<sa+k+r.toList.length then r.toList[B-(sa+k)]? else(arrOf st)[B]?)->P true (setArr (WL g (setPending st pq)) G):=by
         intro G fs Z;obtain⟨mv,ap⟩:=QeZ (xs:=arrOf st) (sa:=sa+k) (sb:=sb) (se:=sb+e) (Nh (NL H _) (Nt y.symm)) (Nm _ _) (Nh (NL l _) b) rp fs Z
         have key:∀p,sa+k<=p->p<sb+e->∃x∈r.toList,F f G p=f x/\∃j,F f (arrOf st) j=f x/\sa+k<=j/\j<sb+e:=by
           intro p d c;have ae:p-(sa+k)<r.toList.length:=by rw[NB];omega
           refine⟨r.toList[p-(sa+k)],Ez _,?_,?_⟩
           · unfold F;rw[Z p,if_pos (by rw[NB];lia),Nl ae];rfl
           · rcases N9.mp (rp.mem_iff.mp (Ez ae))with S|S
             · obtain⟨j,L,o,n,ex⟩:=WV (j:=sb) (Nh (Nm _ _) b) S;exact⟨j,by rw[hF j L,<-ex],by exact o,by exact Nd n (Nm _ _)⟩
             · obtain⟨j,L,o,n,ex⟩:=WV (j:=sb+e) (Nh (NL l _) b) S;exact⟨j,by rw[hF j L,<-ex],by exact Nh (Nh (NL H _) (Nt y.symm)) o,by exact n⟩
         have v:∀p,p<sa+k\/sb+e<=p->F f G p=F f (arrOf st) p:=fun p hp=>XB (mv.out p hp);refine h (setArr (WL g (setPending st pq)) G) I hf U (mv.wide (lo':=sa) (hi':=sb+t) (Nm _ _) (NL l _)) ?_;show So f G sa (sb+t);intro p q d c u
         -- where an ah
         have left:∀p j,sa<=p->p<sa+k->sa+k<=j->j<sb+e->F f (arrOf st) p<=F f (arrOf st) j:=by
           intro p j o n D c4
           by_cases c5:j<sb
           · exact s1 p j o (Nn (Nd n D)) c5
           · have Q:=lo1 p o n;have O:=N sb j (Nw _) (NN.mp c5) (Nd c4 (NL l _));exact ED Q O
         have right:∀j q,sa+k<=j->j<sb+e->sb+e<=q->q<sb+t->F f (arrOf st) j<=F f (arrOf st) q:=by
           intro j q o n D c4
           by_cases c5:j<sb
           · have Q:=s1 j (sb-1) (Nh (Nm _ _) o) (by lia) (by lia);have O:=af q D c4;exact ED Q O
           · exact N j q (NN.mp c5) (Nn (Nd n D)) c4
         by_cases o:p<sa+k
         · rw[v p (.inl o)]
           by_cases n:q<sa+k
           · rw[v q (.inl n)];exact s1 p q d c (Nd (Nd n (NL H _)) (Nt y.symm))
           · by_cases D:q<sb+e
             · obtain⟨x,_,ex,j,ej,j1,j2⟩:=key q (NN.mp n) D;rw[ex,<-ej];exact left p j d o j1 j2
             · rw[v q (.inr (NN.mp D))];have Q:=left p sb d o (Nh (NL H _) (Nt y.symm)) (by lia);have O:=N sb q (Nw _) (Nh (Nm _ _) (NN.mp D)) u;exact ED Q O
         · by_cases n:p<sb+e
           · by_cases D:q<sb+e
             · have ab:p-(sa+k)<r.toList.length:=by rw[NB];omega
               have aa:q-(sa+k)<r.toList.length:=by rw[NB];lia
               have ep:F f G p=f r.toList[p-(sa+k)]:=by
                 unfold F;rw[Z p,if_pos (by rw[NB];lia),Nl ab];rfl
               have eq:F f G q=f r.toList[q-(sa+k)]:=by
                 unfold F;rw[Z q,if_pos (by rw[NB];lia),Nl aa];rfl
               rw[ep,eq];exact Qel rs ab aa (by lia)
             · obtain⟨x,_,ex,j,ej,j1,j2⟩:=key p (NN.mp o) n;rw[ex,<-ej,v q (.inr (NN.mp D))];exact right j q j1 j2 (NN.mp D) u
           · rw[v p (.inr (NN.mp n)),v q (.inr (Nh (NN.mp n) c))];exact N p q (Nh (Nm _ _) (NN.mp n)) c u
        refine Qg (Jb (Qg (Y7 (Qj ?_))));show P ((failedOf st).isNone) _;rw[hf];exact fin2 _ fs Z
      split
      · refine Qg (Qdu W hT hc I (by lia) (by lia) ?_ fin);rw[gA 0 (by omega),gB 0 (by omega)];have:=Y (sa+k+0) (Nm _ _) (by lia);rw[Fx sb];exact E5 this
      · exact Qg (QdK W hB hc I (by lia) (by omega) hT fin)
end
set_option autoImplicit false
section
variable{f:Keyed->Int}{xs ys:Array Keyed}
noncomputable def Ch(f:Keyed->Int)(xs:Array Keyed):List (Nat×Nat×Nat)->Nat->Nat->Prop
 |[],a,b=>a=b
 |p::r,a,b=>p.1=a/\1<=p.2.1/\So f xs a (a+p.2.1)/\Ch f xs r (a+p.2.1) b
theorem Ch.le:∀{l:List (Nat×Nat×Nat)} {a b:Nat},Ch f xs l a b->a+l.length<=b
 |[],a,b,h=>by have:a=b:=h;simp;exact Nt this
 |p::r,a,b,⟨_,d,_,c⟩=>by have:=c.le;rw[NP];lia
theorem Ch.app:∀{d c:List (Nat×Nat×Nat)} {a b:Nat},Ch f xs (d++c) a b->∃m,Ch f xs d a m/\Ch f xs c m b
 |[],c,a,b,h=>⟨a,rfl,h⟩
 |p::r,c,a,b,⟨l,h2,j,i⟩=>by
  obtain⟨m,g,e⟩:=i.app;exact⟨m,⟨l,h2,j,g⟩,e⟩
theorem Ch.join:∀{d c:List (Nat×Nat×Nat)} {a m b:Nat},Ch f xs d a m->Ch f xs c m b->Ch f xs (d++c) a b
 |[],c,a,m,b,h,h'=>by have:a=m:=h;subst this;exact h'
 |p::r,c,a,m,b,⟨j,i,g,e⟩,h'=>⟨j,i,g,e.join h'⟩
theorem So.same{i j:Nat}(h:So f xs i j)(e:∀k,i<=k->k<j->F f ys k=F f xs k):So f ys i j:=fun k l c b a=>by rw[e k c (Nf b a),e l (Nh c b) a];exact h k l c b a
theorem Ch.same:∀{l:List (Nat×Nat×Nat)} {a b:Nat},Ch f xs l a b->(∀k,a<=k->k<b->F f ys k=F f xs k)->Ch f ys l a b
 |[],a,b,h,_=>h
 |p::r,a,b,⟨j,h2,i,g⟩,e=>by
  have:=g.le;exact⟨j,h2,i.same fun k d c=>e k d (Nd (Nd c (Nm _ _)) this),g.same fun k d c=>e k (Nh (Nm _ _) d) c⟩
theorem Ch.pow{l:List (Nat×Nat×Nat)}{p q:Nat×Nat×Nat}{a b:Nat}(h:Ch f xs (l++[p]) a b)(e:q.1=p.1)(h2:q.2.1=p.2.1):Ch f xs (l++[q]) a b:=by
 obtain⟨m,d,c⟩:=h.app;refine d.join ?_;unfold Ch at c ⊢;rw[e,h2];exact c
end
section
variable{prog:Program}{w:World}{A:Around}{E:Value->Shared->Prop}{s:Shared}{κ:SortKind}{M:Keyed->Prop}{f:Keyed->Int}{a₀:Array Keyed}
structure R(κ:SortKind)(M:Keyed->Prop)(f:Keyed->Int)(a₀:Array Keyed)(lo:Nat)(st:SortSt):Prop where
 kind:kindOf st=κ
 failed:failedOf st=none
 al:Al M (arrOf st)
 mv:Mv 0 a₀.size a₀ (arrOf st)
 le:lo<=a₀.size
 ch:Ch f (arrOf st) (pendingOf st).toList 0 lo
theorem QbA{i lo:Nat}{st:SortSt}(U:Cmp prog w A s κ M f)(h:R κ M f a₀ lo st)(hi:i+1<(pendingOf st).size) :
  T prog w A E s (mergeAt' i) (fun b a=>b=true/\R κ M f a₀ lo a/\(pendingOf a).size+1=(pendingOf st).size/\∀k,lo<=k->(arrOf a)[k]?=(arrOf st)[k]?) st:=by
 have hl:i+1<(pendingOf st).toList.length:=by simpa using hi
 have e:(pendingOf st).toList=(pendingOf st).toList.take i++(pendingOf st).toList[i]::(pendingOf st).toList[i+1]::(pendingOf st).toList.drop (i+2):=by
  rw[<-Ea,<-Ea,EB]
 generalize(pendingOf st).toList[i]=p at e;generalize(pendingOf st).toList[i+1]=q at e;have g:((pendingOf st).toList.take i).length=i:=by rw[Ey];lia
 generalize(pendingOf st).toList.take i=l1 at e g;generalize(pendingOf st).toList.drop (i+2)=l2 at e;have c:=h.ch;rw[e]at c;obtain⟨m,C,B,o,z,j,y,x,n⟩:=c.app;obtain⟨I,P,Y⟩:=p;obtain⟨H,t,pw2⟩:=q;dsimp only at B o z j y x n;subst B;have Z:=n.le;have l:=h.le;have S:=h.mv.size;refine QdZ U h.kind h.failed h.al e g j o y (by lia) (by rw[j];exact z) (by rw[j];exact x) fun a O N r d L=>⟨rfl,⟨O,N,h.al.mv d,h.mv.trans (d.wide (NJ _) (by lia)),l,?_⟩,?_,fun k hk=>d.out k (.inr (by lia))⟩
 ·rw[r];have Q:=C.le;refine(C.same fun k v u=>XB (d.out k (.inl u))).join ⟨rfl,by dsimp only;exact Nh o (Nm _ _),?_,?_⟩
  ·dsimp only;rw[show I+(P+t)=H+t by lia];exact L
  ·dsimp only;rw[<-Du];exact n.same fun k v u=>XB (d.out k (.inr (Nh (DB (Nt j) _) v)))
 ·have G:=congrArg List.length r;have D:=congrArg List.length e;simp only[NC,NP,NB]at G D;lia
theorem R.push{lo n:Nat}{st:SortSt}(h:R κ M f a₀ lo st)(b:1<=n)(c:lo+n<=a₀.size)(a:So f (arrOf st) lo (lo+n)):R κ M f a₀ (lo+n) (setPending st ((pendingOf st).push (lo,n,0))):=by
 refine⟨h.kind,h.failed,h.al,h.mv,c,?_⟩;show Ch f (arrOf st) ((pendingOf st).push (lo,n,0)).toList 0 (lo+n);rw[Dx];exact h.ch.join ⟨rfl,b,a,rfl⟩
theorem R.pow{lo a:Nat}{st:SortSt}(h:R κ M f a₀ lo st):R κ M f a₀ lo (setPending st ((pendingOf st).modify ((pendingOf st).size-1) fun x=>(x.1,x.2.1,a))):=by
 refine⟨h.kind,h.failed,h.al,h.mv,h.le,?_⟩;show Ch f (arrOf st) ((pendingOf st).modify ((pendingOf st).size-1) fun x=>(x.1,x.2.1,a)).toList 0 lo;have c:=h.ch;rw[Array.toList_modify]
 rcases List.eq_nil_or_concat (pendingOf st).toList with e|⟨l,x,e⟩
 ·rw[e]at c ⊢;simpa using c
 ·have z:=congrArg List.length e;rw[NB,LH,NC,E2]at z;rw[e,LH]at c ⊢;rw[z,Nat.add_sub_cancel]
  have:(l++[x]).modify l.length (fun x=>(x.1,x.2.1,a))=l++[(x.1,x.2.1,a)]:=by
   clear c z e
   induction l with
   |nil=>rfl
   |cons y l b=>exact congrArg (y::·) b
  rw[this];exact c.pow rfl rfl
end
set_option autoImplicit false
section
variable{prog:Program}{w:World}{A:Around}{E:Value->Shared->Prop}{s:Shared}{κ:SortKind}{M:Keyed->Prop}{f:Keyed->Int}{a₀:Array Keyed}
theorem Qpi{a:Type}{m b:StateT SortSt Sem a}{P:a->SortSt->Prop}{st:SortSt}(e:m=b)(h:T prog w A E s b P st):T prog w A E s m P st:=e▸h
theorem Qg8{size lo n:Nat}{st:SortSt}(G:Cmp prog w A s κ M f)(h:R κ M f a₀ lo st)(o:1<=n)(u:lo+n<=a₀.size)(m:So f (arrOf st) lo (lo+n)){P:ForInStep (Option Unit×Nat)->SortSt->Prop}
  (v:∀a,R κ M f a₀ (lo+n) a->P (.yield (none,lo+n)) a):T prog w A E s (do
   let st <-get
   match (pendingOf st).back? with
   | some (j,e,_)=>do
    let t <-forIn [0:size] ((none,()):Option Unit×Unit) fun _ _=>do
     let st <-get
     match (if(pendingOf st).size>1 then(pendingOf st)[(pendingOf st).size-2]? else none)with
     | some (_,_,d)=>if d<=power' size (2*j+e) (2*j+e+e+n) size then pure (.done (none,()))else do
       let b <-mergeAt' ((pendingOf st).size-2)
       if(!b)=true then pure (.done (some (),()))else pure (.yield (none,()))
     |_=>pure (.done (none,()))
    match t.1 with
    |some r=>pure (.done (some r,lo))
    |none=>do
     modify fun s=>setPending s ((pendingOf s).modify ((pendingOf s).size-1) fun x=>(x.1,x.2.1,power' size (2*j+e) (2*j+e+e+n) size))
     modify fun s=>setPending s ((pendingOf s).push (lo,n,0))
     pure (.yield (none,lo+n))
   |_=>do
    modify fun s=>setPending s ((pendingOf s).push (lo,n,0))
    pure (.yield (none,lo+n))) P st:=by
 refine Qg (Y7 ?_);cases U:(pendingOf st).back? with
 |none=>exact Qg (Jb (Qj (v _ (h.push o u m))))
 | some p=>
  obtain⟨j,e,L⟩:=p;dsimp only;refine Qg (QV (Xn (I:=fun x c a=>c=(none,())/\R κ M f a₀ lo a/\So f (arrOf a) lo (lo+n)) (Q:=fun c a=>c=(none,())/\R κ M f a₀ lo a/\So f (arrOf a) lo (lo+n)) ?_ (fun _ _ q=>q) ⟨rfl,h,m⟩) ?_)
  ·rintro x c a _ _ ⟨rfl,i,g⟩
   refine Qg (Y7 ?_)
   by_cases l:(pendingOf a).size>1
   ·rw[if_pos l];cases S:(pendingOf a)[(pendingOf a).size-2]? with
    |none=>exact Qj ⟨rfl,i,g⟩
    | some C=>
     obtain⟨H,N,d⟩:=C;dsimp only;split
     ·exact Qj ⟨rfl,i,g⟩
     ·refine Qg (QV (QbA G i (by lia)) ?_)
      rintro b y ⟨rfl,B,_,z⟩
      exact Qj ⟨rfl,B,g.same fun k D O=>XB (z k D)⟩
   ·rw[if_neg l];exact Qj ⟨rfl,i,g⟩
  ·rintro c a ⟨rfl,i,g⟩
   exact Qg (Jb (Qg (Jb (Qj (v _ (i.pow.push o u g))))))
theorem Qcb{st:SortSt}{P:Unit->SortSt->Prop}(u:Cmp prog w A s κ M f)(hk:kindOf st=κ)(hf:failedOf st=none)(hm:Al M a₀)(O:arrOf st=a₀)(hp:pendingOf st=#[])
  (h:∀a,(arrOf a).Perm a₀->failedOf a=none->So f (arrOf a) 0 a₀.size->P () a):T prog w A E s sortRuns' P st:=by
 rw[sortRuns'_eq];refine Qg (Y7 ?_);dsimp only;rw[O];refine Qg (QV (Xn (I:=fun x c a=>∃lo,c=(none,lo)/\R κ M f a₀ lo a/\min x a₀.size<=lo) (Q:=fun c a=>c=(none,a₀.size)/\R κ M f a₀ a₀.size a) ?_ ?_ ⟨0,rfl,⟨hk,hf,O▸hm,O▸Mv.refl _,NJ _,by rw[hp];rfl⟩,by exact Nat.min_le_left _ _⟩) ?_)
 ·rintro x c a _ hx ⟨lo,rfl,q,N⟩
  dsimp only;have g:=q.le;have aa:=q.mv.size
  by_cases j:lo >= a₀.size
  ·rw[if_pos j];have:lo=a₀.size:=by exact Eh g j
   subst this;exact Qj ⟨rfl,q⟩
  ·rw[if_neg j];refine Qg (Qi5 u q.kind q.al (by lia) (by lia) fun m Y L ab mv hs=>?_);dsimp only
   have q':∀{n:Nat} {y:Array Keyed},lo+n<=a₀.size->Mv lo (lo+n) (arrOf a) y->R κ M f a₀ lo (setArr a y):=fun {n y} hn z=>
    ⟨q.kind,q.failed,q.al.mv z,q.mv.trans (z.wide (NJ _) hn),g,q.ch.same fun k k1 k2=>XB (z.out k (.inl k2))⟩
   by_cases o:m<minRun' a₀.size a₀.size 0
   ·rw[if_pos o];refine Qg (Wv ?_);have z:=mv.size;refine Qg (QfN (st:=setArr a Y) u q.kind (q.al.mv mv) (show lo+min (a₀.size-lo) (minRun' a₀.size a₀.size 0)<=Y.size by lia) (show m<=min (a₀.size-lo) (minRun' a₀.size a₀.size 0) by omega) hs fun y C H=>?_);simp only[LP,Ef,if_false];refine Qpi ?_ (Qg8 (size:=a₀.size) (n:=min (a₀.size-lo) (minRun' a₀.size a₀.size 0)) u (q' (n:=a₀.size-lo) (by lia) (mv.trans (C.wide (Nw _) (by omega)))) (by lia) (by lia) H fun d r=>⟨_,rfl,r,by lia⟩)
    (refine Qo fun st=>?_;rcases(pendingOf st).back? with _|⟨_,_,_⟩;rfl;(dsimp only;refine congr (congrArg bind ?_) (funext fun t=>?_);(focus (refine congrArg (forIn _ _) (funext fun _=>funext fun t=>?_);rfl));(obtain⟨_|r,t⟩:=t<;>rfl)))
   ·rw[if_neg o];refine Qpi ?_ (Qg8 (size:=a₀.size) (n:=m) u (q' (n:=a₀.size-lo) (by lia) (mv.wide (Nw _) (Nw _))) L (by lia) hs fun d r=>⟨_,rfl,r,by lia⟩)
    (refine Qo fun st=>?_;rcases(pendingOf st).back? with _|⟨_,_,_⟩;rfl;(dsimp only;refine congr (congrArg bind ?_) (funext fun t=>?_);(focus (refine congrArg (forIn _ _) (funext fun _=>funext fun t=>?_);rfl));(obtain⟨_|r,t⟩:=t<;>rfl)))
 ·rintro c a ⟨lo,rfl,q,N⟩
  have g:=q.le;have:lo=a₀.size:=by lia
  subst this;exact⟨rfl,q⟩
 ·rintro c a ⟨rfl,q⟩
  dsimp only;refine Qg (QV (Xn (I:=fun x c a=>c=(none,())/\R κ M f a₀ a₀.size a/\(pendingOf a).size<=a₀.size-x) (Q:=fun c a=>c=(none,())/\R κ M f a₀ a₀.size a/\(pendingOf a).size<=1) ?_ ?_ ⟨rfl,q,?_⟩) ?_)
  ·rintro x c d _ hx ⟨rfl,r,G⟩
   refine Qg (Y7 ?_)
   by_cases S:(pendingOf d).size<=1
   ·rw[if_pos S];exact Qj ⟨rfl,r,S⟩
   ·rw[if_neg S]
    have go:∀i,i+1<(pendingOf d).size->T prog w A E s (do
      let b <-mergeAt' i
      if(!b)=true then pure (ForInStep.done (some (),()))else pure (ForInStep.yield (none,()))) (fun r a=>match r with|.done v=>v=(none,())/\R κ M f a₀ a₀.size a/\(pendingOf a).size<=1|.yield v=>v=(none,())/\R κ M f a₀ a₀.size a/\(pendingOf a).size<=a₀.size-(x+1)) d:=by
     intro i hi;refine Qg (QV (QbA u r hi) ?_)
     rintro b B ⟨rfl,r1,r2,_⟩
     exact Qj ⟨rfl,r1,by lia⟩
    refine QV (go _ ?_) ?_
    ·repeat' split
     all_goals omega
    ·rintro(v|v) B Z
     ·exact Z
     ·exact Z
  ·rintro c d ⟨rfl,r,G⟩
   exact⟨rfl,r,by lia⟩
  ·have:=q.ch.le;simp at this;omega
  ·rintro c d ⟨rfl,r,G⟩
   refine Qj (h d r.mv.pm r.failed ?_);have c:=r.ch;have D:(pendingOf d).toList.length<=1:=by simpa using G
   match e:(pendingOf d).toList,D with
   |[],_=>
    rw[e]at c;have:0=a₀.size:=c;intro k l q1 q2 q3;lia
   |[p],_=>
    rw[e]at c;obtain⟨c1,c2,c3,c4⟩:=c;have U:0+p.2.1=a₀.size:=c4;rw[U]at c3;exact c3
end
theorem pw2{a:Type}{R:a->a->Prop}:∀{l:List a},l.length<2->l.Pairwise R
 |[],_=>.nil
 |[_],_=>IX _ _
set_option autoImplicit false
section
variable{prog:Program}{w:World}{A:Around}{E:Value->Shared->Prop}{s:Shared}
theorem Qe2{a:Addr}{vs:List Value}{n:Nat}{κ:SortKind}{f:Value->Int}{P:PySem.Fin->Shared->Prop}(D:s.heap.get? a=some (seqObj "list" vs.toArray n))(hz:vs.length<=sizeLine)
  (hk:2<=vs.length->∀g:Heap,(∀b o,b≠a->s.heap.get? b=some o->g.get? b=some o)->∀Q:SortKind->Shared->Prop,Q κ { s with heap:=g }->wpAny (model prog w) A (keyKind' vs.toArray) Q (fun _ _=>False) { s with heap:=g })
  (hc:∀g:Heap,(∀b o,b≠a->s.heap.get? b=some o->g.get? b=some o)->∀x∈vs,∀y∈vs,∀(tk:Nat) (C:Bool->Shared->Prop),(∀t,C (decide (f x<f y)) { s with heap:=g,toks:=t })->wpAny (model prog w) A (keyLt' κ x y) C (fun _ _=>False) { s with heap:=g,toks:=tk })
  (h:∀(g:Heap) (tk c:Nat) (us:List Value),us.Perm vs->(us.Pairwise fun x y=>f x<=f y)->(∀b o,b≠a->s.heap.get? b=some o->g.get? b=some o)->g.get? a=some (seqObj "list" us.toArray c)->P (.done (.ret .none)) { s with heap:=g,toks:=tk }) :
  wpAny (model prog w) A (Builtin.«list.sort» ⟨[.ref a],[]⟩) P E s:=by
 have la:a<s.heap.objs.size:=ND D;obtain⟨H,g1⟩:∃H,(s.heap.update a (Obj.mapSeq fun _=>(#[]:Array Value))).get? a=some (seqObj "list" #[] H):=⟨_,F0 D fun _=>#[]⟩
 rw[list_sort_plain];refine Nc (listItems_at D rfl (Nc (Io D rfl ?_ (by rw[Nr];exact hz) (NJ _))));refine Nc (Lp g1 rfl (Nc (Lz ?_ (by show vs.length<=_;exact hz))));refine Nc (Fh (Ej ?_) (NJ _));show wpAny (model prog w) A _ P E { s with heap:=((s.heap.update a (Obj.mapSeq fun _=>(#[]:Array Value))).push (seqObj "tuple" vs.toArray 0)).push (seqObj "list" #[] 0) };have v:∀b o,b≠a->s.heap.get? b=some o->(((s.heap.update a (Obj.mapSeq fun _=>(#[]:Array Value))).push (seqObj "tuple" vs.toArray 0)).push (seqObj "list" #[] 0)).get? b=some o:=fun b o G e=>Np _ (Np _ ((N4 _ _ (EZ G)).trans e));have g2:(((s.heap.update a (Obj.mapSeq fun _=>(#[]:Array Value))).push (seqObj "tuple" vs.toArray 0)).push (seqObj "list" #[] 0)).get? a=some (seqObj "list" #[] H):=Np _ (Np _ g1);generalize((s.heap.update a (Obj.mapSeq fun _=>(#[]:Array Value))).push (seqObj "tuple" vs.toArray 0)).push (seqObj "list" #[] 0)=g at v g2;dsimp only
 have fin:∀(st:SortSt) (tk:Nat) (us:List Value),us.Perm vs->(us.Pairwise fun x y=>f x<=f y)->(arrOf st).map (·.2)=us.toArray->failedOf st=none->wpAny (model prog w) A (do
   let l:=(<-seqEpoch a) != H
   Builtin.List.listUpdate (.ref a) fun _=>(arrOf st).map (·.2)
   if let some e:=failedOf st then rule "list.sort.comparison-raised";throw e
   if l then rule "list.sort.modified";raiseError "ValueError" "list modified during sort"
   ret .none) P E { s with heap:=g,toks:=tk }:=by
  intro st tk us Y u2 q1 q2;rw[q1,q2];refine Nc (Lp g2 rfl (Nc (Io g2 rfl ?_ (NJ _) (by rw[Nr,Y.length_eq];exact Nh hz (Nm _ _)))));simp only[bne_self_eq_false,Ef,if_false];refine Nq ?_;exact h _ tk _ us Y u2 (fun b o G e=>(N4 _ _ (EZ G)).trans (v b o G e)) (F0 g2 fun _=>us.toArray)
 by_cases r:vs.toArray.size<2
 ·rw[if_pos r,if_pos r];refine Nc (Nq ?_);rw[Yae];have hl:vs.length<2:=by rwa[Nr]at r
  refine Nc (Nq (fin (SortSt.mk' general' (vs.toArray.zip vs.toArray) #[] 7 none) s.toks vs (List.Perm.refl _) ?_ ?_ rfl))
  ·exact pw2 hl
  ·show(vs.toArray.zip vs.toArray).map (·.2)=vs.toArray;apply Array.ext
   ·simp
   ·intro i h1 h2;simp
 ·rw[if_neg r,if_neg r];have h2:2<=vs.length:=by rw[Nr]at r;exact NN.mp r
  refine Nc (NU (hk h2 g v (fun m I=>m=κ/\I={ s with heap:=g }) ⟨rfl,rfl⟩) (fun m I z=>?_) fun _ _ z=>z.elim);obtain⟨rfl,rfl⟩:=z;have hC:Cmp prog w A { s with heap:=g } m (fun p=>p.1=p.2/\p.1∈vs) (fun p=>f p.1):=fun x y B hy tk C q=>hc g v x.1 B.2 y.1 hy.2 tk C q;refine Nc (NU (Qcb (E:=E) (P:=fun _ d=>(arrOf d).Perm (pairsOf vs)/\failedOf d=none/\So (fun p=>f p.1) (arrOf d) 0 (pairsOf vs).size) (st:=SortSt.mk' m (pairsOf vs) #[] 7 none) (a₀:=pairsOf vs) hC rfl rfl (fun x B=>by rw[pairsOf_toList]at B;exact Ov B) rfl rfl (fun d u N M=>⟨u,N,M⟩) s.toks) ?_ fun _ _ e=>e)
  rintro⟨⟨⟩,d⟩ I ⟨⟨t,rfl⟩,u,N,M⟩
  have L:(arrOf d).toList.Perm (vs.zip vs):=by rw[<-pairsOf_toList];exact Dv.mp u
  have O:(arrOf d).size=(pairsOf vs).size:=u.size_eq;refine fin d t ((arrOf d).toList.map (·.2)) ?_ ?_ ?_ N
  ·have:=L.map (·.2);rwa[List.map_snd_zip (Nw _)]at this
  ·rw[Dy,E4];intro i j Z S U;rw[NB]at Z S;have q:=M i j (NJ _) (Nn U) (Nd S (Nt O));rw[QeJ Z,QeJ S]at q;have m1:=Ov (L.mem_iff.mp (show(arrOf d)[i]∈(arrOf d).toList by simp));have m2:=Ov (L.mem_iff.mp (show(arrOf d)[j]∈(arrOf d).toList by simp));show f (arrOf d)[i].2<=f (arrOf d)[j].2;rw[<-m1.1,<-m2.1];exact q
  ·apply Array.ext';simp
theorem sorted_any{l:Addr}{vs:List Value}{κ:SortKind}{f:Value->Int}{Q:Value->Shared->Prop}(q:s.heap.IsList l vs.toArray)(hz:vs.length<=sizeLine)
  (r:2<=vs.length->∀(A:Around) (g:Heap),(∀b o,s.heap.get? b=some o->g.get? b=some o)->∀Q:SortKind->Shared->Prop,Q κ { s with heap:=g }->wpAny (model prog w) A (keyKind' vs.toArray) Q (fun _ _=>False) { s with heap:=g })
  (u:∀(j:Around) (g:Heap),j=A.in1.in1->(∀b o,s.heap.get? b=some o->g.get? b=some o)->∀x∈vs,∀y∈vs,∀(tk:Nat) (C:Bool->Shared->Prop),(∀t,C (decide (f x<f y)) { s with heap:=g,toks:=t })->wpAny (model prog w) j (keyLt' κ x y) C (fun _ _=>False) { s with heap:=g,toks:=tk })
  (h:∀(D:Addr) (g:Heap) (tk c:Nat) (us:List Value),us.Perm vs->(us.Pairwise fun x y=>f x<=f y)->(∀b o,s.heap.get? b=some o->g.get? b=some o)->s.heap.objs.size<=D->g.get? D=some (seqObj "list" us.toArray c)->Q (.ref D) { s with heap:=g,toks:=tk }) :
  wpAny (model prog w) A (call (.builtin "sorted") [.ref l]) Q E s:=by
 refine Fq OT Om On (Oo _) ?_;unfold Builtin.«sorted»;refine Nc (m:=checkCount "sorted" 1 1 _) (Nq ?_);refine Nc (collect_list q ?_ hz);refine Nc (Fh ?_ hz)
 have d:((s.heap.push (seqObj "list" #[] 0)).update s.heap.objs.size (Obj.mapSeq (·++vs.toArray))).objs.size=s.heap.objs.size+1:=by
  rw[Heap.size_update,size_push']
 have i:(((s.heap.push (seqObj "list" #[] 0)).update s.heap.objs.size (Obj.mapSeq (·++vs.toArray))).push (seqObj "list" vs.toArray 0)).get? (s.heap.objs.size+1)=some (seqObj "list" vs.toArray 0):=by
  rw[<-d];exact NK _ rfl
 have old:∀b o,s.heap.get? b=some o->(((s.heap.push (seqObj "list" #[] 0)).update s.heap.objs.size (Obj.mapSeq (·++vs.toArray))).push (seqObj "list" vs.toArray 0)).get? b=some o:=fun b o e=>
  Np _ ((N4 _ _ (DF (ND e))).trans (Np _ e))
 show wpAny _ _ _ _ _ { s with heap:=((s.heap.push (seqObj "list" #[] 0)).update s.heap.objs.size (Obj.mapSeq (·++vs.toArray))).push (seqObj "list" vs.toArray 0) };rw[d];have ne:∀b o,s.heap.get? b=some o->b≠s.heap.objs.size+1:=fun b o e=>NM (Er (ND e))
 refine Nc (Ej (EM LA ⟨_,i,rfl⟩ Ld (Qe2 (A:=A.in1.in1) (κ:=κ) (f:=f) (s:={ s with heap:=((s.heap.push (seqObj "list" #[] 0)).update s.heap.objs.size (Obj.mapSeq (·++vs.toArray))).push (seqObj "list" vs.toArray 0) }) i hz
  (fun v g a=>r v _ g fun b o e=>a b o (ne b o e) (old b o e)) (fun g a=>u _ g rfl fun b o e=>a b o (ne b o e) (old b o e)) fun g tk c us p n a hD=>⟨_,rfl,?_⟩) (LB _)))
 exact Nq ⟨_,rfl,h _ g tk c us p n (fun b o e=>a b o (ne b o e) (old b o e)) (Lm _) hD⟩
end
end Ts
namespace Sb
open L2 PySem.W SeqAt
section
variable{prog:Program}{w:World}{A:Around}{E:Value->Shared->Prop}{s:Shared}{b:Bool}{Q:Bool->Shared->Prop}
theorem QeT(hu:A.units+n<cLine)(i:Nat)(hi:(b&&i==0)=false)(p:Paired (Wf n) l ks)(q:Paired (Wf n) l ls)(r:Paired (IsQ s.heap n) ks us)(t:Paired (IsQ s.heap n) ls vs)(h:Q (lex (ltN n) ks ls) s):KatLex prog w A b false Q (us.zip vs) i s:=by
 induction p generalizing ls us vs i with
 |nil=>cases q;cases r;cases t;exact kat_nil h
 |@cons _ k _ ks o y x=>
  obtain _|⟨j,g⟩:=q
  obtain _|⟨d,f⟩:=r
  obtain _|⟨a,e⟩:=t
  rename_i m z u us v vs;rw[FA];refine kat_cons (QjD n A hu k m u v (WK _ _ d) (WK _ _ a) _ _ _ _ ?_);unfold lex at h
  by_cases c:k=m
  ·rw[if_pos c]at h;rw[decide_eq_true c];exact kat_yes (x (i+1) (by simp) g f e h)
  ·rw[if_neg c]at h;rw[decide_eq_false c];refine kat_no ?_;rw[hi];exact kat_one u v (QmR n A hu _ k m u v o j d a _ _ _ _ h)
noncomputable def ty0:Sh->String
 |.i=>"int"
 |.s=>"str"
 |.t _=>"tuple"
theorem QlQ (hu:A.units+(n+1)<cLine) (p:Wf (n+1) (.t (sh0::shs)) x) (q:Wf (n+1) (.t (sh0::shs)) y) (r:IsQ s.heap (n+1) x u) (t:IsQ s.heap (n+1) y v) (h:Q (ltN (n+1) x y) s) :
  wpAny (model prog w) A (keyLt' (tuples' (Value.type (ty0 sh0) != Value.type "tuple")) u v) Q E s:=by
 obtain⟨L,rfl,p⟩:=p;obtain⟨ls,rfl,q⟩:=q;obtain⟨a,o,rfl,O,r⟩:=r;obtain⟨b,d,rfl,N,t⟩:=t;have M:=QgA p q r t;obtain⟨Y,S,_,n1,P⟩:=O;obtain⟨U,b1,_,Z,b2⟩:=N;refine kat_lt S P b1 b2 ?_;rw[M];simp only[Ed,decide_false];simp only[ltN]at h;generalize o.toList=B at r;generalize d.toList=z at t;cases p with
 | cons g I=>
  cases q with
  | cons j H=>
   cases r with
   | cons f G=>
    cases t with
    | cons e C=>
     rename_i k L m ms u B v z;rw[FA];refine kat_cons (QjD n A (by lia) k m u v (WK _ _ f) (WK _ _ e) _ _ _ _ ?_);unfold lex at h
     by_cases c:k=m
     ·rw[if_pos c]at h;rw[decide_eq_true c];exact kat_yes (QeT (by omega) 1 (by simp) I H G C h)
     ·rw[if_neg c]at h;rw[decide_eq_false c];refine kat_no ?_;cases n with
      |zero=>exact g.elim
      | succ n=>
       cases sh0 with
       |i=>
        obtain⟨x,rfl⟩:=g;obtain⟨y,rfl⟩:=j;obtain⟨t,rfl⟩:=f;obtain⟨D,rfl⟩:=e;refine oneLt_int ?_;simpa only[ltN]using h
       |s=>
        obtain⟨x,rfl⟩:=g;obtain⟨y,rfl⟩:=j;obtain⟨t,rfl⟩:=f;obtain⟨D,rfl⟩:=e;refine oneLt_str ?_;simpa only[ltN]using h
       |t l=>exact kat_one u v (QmR (n+1) A (by lia) _ k m u v g j f e _ _ _ _ h)
theorem Qbi:∀(vs:List Value),(∀v∈vs,∃t,IsQ h (n+2) t v/\Wf (n+2) (.t (sh0::shs)) t)->∃fs,KatTups h vs fs/\fs.length=vs.length/\∀f∈fs,Looks (model prog w) h (typeOf f) (.type (ty0 sh0))
 |[],_=>⟨[],trivial,rfl,fun _ d=>nomatch d⟩
 | v::vs,z=>by
  obtain⟨t,r,p⟩:=z v Ny;obtain⟨fs,f1,f2,f3⟩:=Qbi vs fun b H=>z b (Nu _ H);obtain⟨C,rfl,p⟩:=p;obtain⟨a,c,rfl,⟨o,D,G,l,hd⟩,r⟩:=r;obtain⟨e,rfl⟩:∃e:List Value,c=e.toArray:=⟨c.toList,by simp⟩
  rw[Fk]at r;cases p with
  | cons j M=>
   cases r with
   | cons g L=>
    rename_i k C u e;refine⟨u::fs,KatTups.cons D G hd (by simp) f1,by simp[f2],fun f d=>?_⟩
    rcases NH.mp d with rfl|d
    ·cases sh0 with
     |i=>
      obtain⟨x,rfl⟩:=j;obtain⟨t,rfl⟩:=g;exact Looks.of_pure rfl
     |s=>
      obtain⟨x,rfl⟩:=j;obtain⟨t,rfl⟩:=g;exact Looks.of_pure rfl
     |t l=>
      obtain⟨x,rfl,_⟩:=j;obtain⟨I,y,rfl,⟨B,m,q,_⟩,_⟩:=g;have:Looks (model prog w) h (typeOf (.ref I)) B.cls:=(Looks.ld m).andThen .now;rw[q]at this;exact this
    ·exact f3 f d
open Classical in
noncomputable def trV(h:Heap)(v:Value):Tr:=if x:∃t,IsQ h 8 t v then x.choose else .i 0
theorem GQ(x:IsQ h 8 t v):trV h v=t:=by
 have a:∃t,IsQ h 8 t v:=⟨t,x⟩
 unfold trV;rw[dif_pos a];exact YE _ _ _ (WK _ _ a.choose_spec) (WK _ _ x)
noncomputable abbrev Qct(h:Heap)(us:List Value):Prop:=us.Pairwise fun x y=>ltN 8 (trV h y) (trV h x)=false
noncomputable abbrev Qds(h:Heap)(sh0:Sh)(shs:List Sh)(vs:List Value):Prop:=∀v∈vs,∃t,IsQ h 8 t v/\Wf 8 (.t (sh0::shs)) t
theorem Qer(i:Qds h sh0 shs vs)(e:x∈vs)(d:y∈vs):(rk (vs.map (trV h)) (trV h x)<rk (vs.map (trV h)) (trV h y))↔ltN 8 (trV h x) (trV h y)=true:=
 Qnm (sh:=.t (sh0::shs)) (fun t g=>by
  obtain⟨v,f,rfl⟩:=NT.mp g;obtain⟨t,c,a⟩:=i v f
  rw[GQ c];exact a) (EW e) (EW d)
theorem QeS(e:Qds h sh0 shs vs)(p:us.Perm vs)(o:us.Pairwise fun x y=>(rk (vs.map (trV h)) (trV h x):Int)<=rk (vs.map (trV h)) (trV h y)):Qct h us:=by
 refine IL ?_ o;intro x y d a f;cases c:ltN 8 (trV h y) (trV h x)with
 |false=>rfl
 |true=>
  have:=(Qer e (p.mem_iff.mp a) (p.mem_iff.mp d)).mpr c;lia
theorem sorted_tups{Q:Value->Shared->Prop}(hu:A.units+12<cLine)(G:s.heap.IsList l vs.toArray)(hz:vs.length<=sizeLine)(a:Qds s.heap sh0 shs vs)
  (h:∀(D:Addr) (g:Heap) (tk c:Nat) (us:List Value),us.Perm vs->Qct s.heap us->Ex s.heap g->s.heap.objs.size<=D->g.get? D=some (seqObj "list" us.toArray c)->Q (.ref D) { s with heap:=g,toks:=tk }) :
  wpAny (model prog w) A (call (.builtin "sorted") [.ref l]) Q E s:=by
 refine Ts.sorted_any (κ:=tuples' (Value.type (ty0 sh0) != Value.type "tuple")) (f:=fun v=>(rk (vs.map (trV s.heap)) (trV s.heap v):Int)) G hz ?_ ?_ fun D g tk c us p o k hD H=>h D g tk c us p (QeS a p o) k hD H
 ·intro L N g j P m
  obtain⟨fs,f1,f2,f3⟩:=Qbi (prog:=prog) (w:=w) (h:=g) (n:=6) vs fun v B=>by
   obtain⟨t,i,d⟩:=a v B;exact⟨t,Yh j _ _ i,d⟩
  exact kat_kind (s:={ s with heap:=g }) f1 (Nd (Nd (by decide) L) (Nt f2.symm)) f3 (by simp) m
 ·rintro N g rfl j x r y q tk C I
  obtain⟨i,u,M⟩:=a x r;obtain⟨d,b1,b2⟩:=a y q;refine QlQ (n:=7) (s:={ s with heap:=g,toks:=tk }) (by show A.units+1+1+8<cLine;lia) M b2 (Yh j _ _ u) (Yh j _ _ b1) ?_
  have e:decide ((rk (vs.map (trV s.heap)) (trV s.heap x):Int)<rk (vs.map (trV s.heap)) (trV s.heap y))=ltN 8 i d:=by
   have:=Qer a r q;rw[GQ u,GQ b1]at this ⊢;cases c:ltN 8 i d with
   |true=>rw[decide_eq_true_eq];have:=this.mpr c;lia
   |false=>
    rw[decide_eq_false_iff_not];intro z;have:=this.mp (by omega);rw[c]at this;cases this
  have:=I tk;rw[e]at this;exact this
end
end Sb
namespace Mi
open L2 Sb
noncomputable def plN:Nat->W->Option Tr
 |0,_=>none
 |_+1,.int i=>some (.i i)
 |_+1,.str x=>some (.s x)
 |n+1,.tup ws=>(ws.mapM (plN n)).map .t
 |_+1,_=>none
mutual
noncomputable def toW:Tr->W
 |.i n=>.int n
 |.s x=>.str x
 |.t ks=>.tup (Qmc ks)
noncomputable def Qmc:List Tr->List W
 |[]=>[]
 |k::ks=>toW k::Qmc ks
end
noncomputable def plL:List W->Option (List Tr)
 |[]=>some []
 |.tup ws::r=>(plN 8 (.tup ws)).bind fun t=>(plL r).map (t::·)
 |_::_=>none
theorem mapM_cons(e:(a::l).mapM f=some ks):∃k r,f a=some k/\l.mapM f=some r/\ks=k::r:=by
 rw[List.mapM_cons]at e;obtain⟨c,g,i⟩:=Na.mp e;obtain⟨b,d,h⟩:=Na.mp i;cases(show some (c::b)=some ks from h);exact⟨_,_,g,d,rfl⟩
theorem Qgp:∀(n:Nat) (w:W) (t:Tr),plN n w=some t->w=toW t
 |0,_,_,e=>by simp[plN]at e
 | n+1,w,t,e=>by
  cases w with
  |int i=>simp only[plN]at e;cases e;simp[toW]
  |str x=>simp only[plN]at e;cases e;simp[toW]
  | tup ws=>
   simp only[plN]at e;obtain⟨ks,a,rfl⟩:=Nk.mp e;rw[toW];congr 1;clear e
   induction ws generalizing ks with
   |nil=>cases(show some []=some ks from a);rw[Qmc]
   |cons w ws b=>
    obtain⟨k,r,d,c,rfl⟩:=mapM_cons a;rw[Qmc,<-Qgp n w k d,<-b r c]
  |_=>simp[plN]at e
section
variable{X:Cx}{pins:List (Addr×Obj)}{σ:L2.St}{H:Hp}{s:Shared}{R:Rn}{h:MH}
theorem Qkm(I:Inv X pins σ H s)(j:Rh X.K R h H):∀(n:Nat) (w:W) (v:V) (u:Value) (t:Tr),Rw X.K R w v->plN n w=some t->RelV v u->IsQ s.heap n t u
 |0,_,_,_,_,_,e,_=>by simp[plN]at e
 | n+1,w,v,u,t,r,e,b=>by
  cases w with
  |int i=>
   simp only[plN]at e;cases e;rw[r.int_eq]at b;exact b
  |str x=>
   simp only[plN]at e;cases e;rw[r.str_eq]at b;exact b
  | tup ws=>
   simp only[plN]at e;obtain⟨ks,m,E⟩:=Nk.mp e;subst E;obtain⟨a,p,rfl,q,d⟩:=j.tupAt r;cases b;obtain⟨c,g,l,D⟩:=I.tuple q;refine⟨a,c.toArray,rfl,l,?_⟩;rw[Fk];clear e r q l D
   induction ws generalizing ks p c with
   |nil=>
    rw[Rws.nil_iff]at d;subst d;cases(show some []=some ks from m);cases g;exact .nil
   |cons x ws C=>
    obtain⟨B,f,L,G,rfl⟩:=mapM_cons m;rw[Rws.cons_iff]at d;obtain⟨y,o,rfl,A,z⟩:=d;cases g with
    |cons b1 b2=>exact .cons (Qkm I j n x y _ B A L b1) (C f G o z _ b2)
  |_=>simp[plN]at e
def Ql6(K:Nj)(R:Rn)(g:Heap)(t:Tr)(u:Value):Prop:=∃a,u=.ref a/\IsQ g 8 t u/\Rw K R (toW t) (.ref a)
theorem QgX(I:Inv X pins σ H s)(c:Rh X.K R h H):∀{ws:List W} {b:List Tr} {xs:List V} {us:List Value},plL ws=some b->Rws X.K R ws xs->Vals xs us->Paired (Ql6 X.K R s.heap) b us/\ws=b.map toW
 |[],b,xs,us,e,r,v=>by
  cases e;rw[Rws.nil_iff]at r;subst r;cases v;exact⟨.nil,rfl⟩
 | w::ws,b,xs,us,e,r,v=>by
  cases w with
  | tup q=>
   unfold plL at e;obtain⟨t,g,p⟩:=Na.mp e;obtain⟨j,o,rfl⟩:=Nk.mp p;rw[Rws.cons_iff]at r;obtain⟨y,u,rfl,d,l⟩:=r;cases v with
   |cons v1 i=>
    obtain⟨n,m⟩:=QgX I c o l i;obtain⟨a,xs,rfl,_⟩:=c.tupAt d;have f:=Qgp 8 _ _ g;refine⟨.cons ⟨a,v1,Qkm I c 8 _ _ _ _ d g v1,by rw[<-f];exact d⟩ n,?_⟩;rw[NA,<-f,<-m]
  |_=>simp[plL]at e
theorem Wq:∀{b:List e} {a:List d},Paired F b a->∀y∈a,∃x∈b,F x y
 |_,_,.nil,_,h=>nomatch h
 |_,_,.cons r t,y,h=>by
  rcases NH.mp h with rfl|h
  ·exact⟨_,Ny,r⟩
  ·obtain⟨x,c,x2⟩:=Wq t y h;exact⟨x,Nu _ c,x2⟩
theorem Qkg{K:Nj}:∀{a:List Tr} {us:List Value},Paired (Ql6 K R g) a us->us.map (trV g)=a:=by
 intro a us p
 induction p with
 |nil=>rfl
 |cons h t b=>obtain⟨_,_,q,_⟩:=h;rw[NA,b,GQ q]
theorem Qc1{K:Nj}:∀{us:List Value},(∀u∈us,∃t,Ql6 K R g t u)->∃xs:List V,Vals xs us/\(∀R',Ext R R'->Rws K R' ((us.map (trV g)).map toW) xs)/\xs.length=us.length
 |[],_=>⟨[],.nil,fun R' _=>by unfold Rws;rfl,rfl⟩
 |u::us,hu=>by
  obtain⟨t,a,rfl,q,r⟩:=hu u Ny;obtain⟨xs,e,d,c⟩:=Qc1 (us:=us) fun f i=>hu f (Nu _ i);refine⟨.ref a::xs,.cons rfl e,fun R' b=>?_,by simp[c]⟩;rw[NA,NA,GQ q];exact Rws.cons_iff.mpr ⟨_,_,rfl,Rw.mono b _ _ r,d R' b⟩
end
def One(c:List Tr):Prop:=∃b a,∀t∈c,Wf 8 (.t (b::a)) t
open Classical in
noncomputable def Kv(ws:List W)(h:MH):Option (W×MH):=match ws with
 |[a]=>(lsW h a).bind fun c=>(plL c).bind fun b=>if One b then some (.ref h.length,h++[.lst ((srtT b).map toW)])else none
 |_=>none
section
variable{X:Cx}
theorem Qau(hu:X.A.units+64<cLine):CallR X (.builtin "sorted") (Fs X.K Kv):=by
 intro M s σ H P b Q I r q;obtain⟨R,h,ws,w,h',C,y,e,k⟩:=q;unfold Kv at e;split at e
 ·obtain⟨ys,e1,e2⟩:=Na.mp e;obtain⟨n,e3,E⟩:=Na.mp e2;split at E
  ·rename_i l;obtain⟨i,f,l⟩:=l;cases E;obtain⟨v,rfl,r1⟩:=GS y;obtain⟨ad,P,rfl,q1,r2⟩:=C.lsAt r1 e1;obtain⟨u,rfl,ru⟩:=UC r;cases ru;obtain⟨d,G,pl,hl⟩:=I.list q1;obtain⟨L,_⟩:=QgX I C e3 r2 G;have N:∀u∈d,∃t∈n,Ql6 X.K R s.heap t u:=Wq L;have j:d.length<=sizeLine:=by rw[<-G.length];exact hl
   refine Sb.sorted_tups (sh0:=i) (shs:=f) (vs:=d) (by first|exact NW (NO (by decide) _) hu|(show X.A.units+1+12<cLine;omega)) pl.isList j (fun u hu=>?_) fun D g tk c b p o kx hD hg=>?_
   ·obtain⟨t,t1,a,_,x,_⟩:=N u hu;exact⟨t,x,l t t1⟩
   ·obtain⟨m,Y,U,S⟩:=Qc1 (us:=b) (g:=s.heap) (K:=X.K) (R:=R) fun u hu=>let⟨t,_,x⟩:=N u (p.mem_iff.mp hu);⟨t,x⟩
    have pt:(b.map (trV s.heap)).Perm n:=by
     rw[<-Qkg L];exact p.map _
    have eq:srtT n=b.map (trV s.heap):=srtT_eq l pt (Dy.mpr o);rw[eq]at k;have hp:=I.hok.fresh hD;obtain⟨R3,O,B,z⟩:=C.new (mo:=.lst ((b.map (trV s.heap)).map toW)) (o:=.lst m) hp fun R' Z=>⟨_,rfl,U R' Z⟩
    refine⟨.ref D,_,I.laid (t':=tk) kx hD (show ObjOk X.prog X.w _ _ _ (.lst _)from⟨?_,b,c,Y,hg⟩),rfl,k R3 _ _ O B z⟩;rw[S,p.length_eq];exact j
  ·cases E
 ·cases e
end
end Mi
namespace Mi
open L2
noncomputable def Qga(ws:List W)(h:MH):Option (W×MH):=match ws with
 |[a]=>(QeH h a).map fun b=>(.int b.length,h)
 |_=>none
section
variable{X:Cx}
theorem QbY:CallR X (.builtin "len") (Fs X.K Qga):=by
 intro a s d H f g Q I r q;refine Qdr a s d H f g Q I r ?_;obtain⟨R,h,x,w,y,c,b,e,k⟩:=q;unfold Qga at e;split at e
 ·obtain⟨l,t,p⟩:=Nk.mp e;cases p;obtain⟨n,rfl,o⟩:=Ya t;obtain⟨v,rfl,i⟩:=GS b;obtain⟨_,rfl,j,m,u⟩:=c.dicAt i o;exact⟨_,j,rfl,m,by rw[<-Ec u];exact k R H _ (Ext.refl _) c (Rw.int _)⟩
 ·cases e
end
open PySem
section
variable{p:List Value->Prop}
theorem ar0(h:p []):∀us:List Value,us.length=0->p us
 |[],_=>h
theorem ar1(h:∀a,p [a]):∀us:List Value,us.length=1->p us
 |[_],_=>h _
theorem ar2(h:∀a b,p [a,b]):∀us:List Value,us.length=2->p us
 |[_,_],_=>h _ _
theorem ar3(h:∀a b c,p [a,b,c]):∀us:List Value,us.length=3->p us
 |[_,_,_],_=>h _ _ _
theorem ar6(h:∀a b c d e f,p [a,b,c,d,e,f]):∀us:List Value,us.length=6->p us
 |[_,_,_,_,_,_],_=>h _ _ _ _ _ _
end
end Mi
namespace My
open L2 Mi
set_option maxHeartbeats 4000000
local macro_rules|`(tactic|walk_at $s:str)=>do
 let l:=s.getString.toList
 if l.head? != some '~'then Lean.Macro.throwUnsupported
 let mut r:Array (Lean.TSyntax `tactic):=#[]
 let mut f:=false
 for c in l.tail do
  if c=='!'then f:=true
  else
   r:=r.push (<-match f,c with
    |false,'#'=>`(tactic|refine QeN ?_ ?_)
    |false,'$'=>`(tactic|exact rfl)
    |false,'%'=>`(tactic|exact QiL)
    |false,'&'=>`(tactic|exact Qly)
    |false,'('=>`(tactic|first|exact .inl rfl|exact .inr rfl)
    |false,')'=>`(tactic|refine Qf9 ?_ ?_)
    |false,'*'=>`(tactic|refine Qm3 ?_ ?_)
    |false,'+'=>`(tactic|exact $(Lean.mkIdent `hr.mono) (by decide))
    |false,','=>`(tactic|refine Qh (k:=1) (ps:=["feed","many"]) ?_ ?_ ?_ ?_ ?_ ?_ ?_ ?_)
    |false,'-'=>`(tactic|exact Qk 0)
    |false,'.'=>`(tactic|refine QhX ?_ ?_ ?_ ?_ ?_ ?_)
    |false,'/'=>`(tactic|refine Qiu ?_)
    |false,'0'=>`(tactic|refine Qb3 ET FU PySem.F.type_list_append QbN ?_ ?_)
    |false,'1'=>`(tactic|exact Qk 1)
    |false,'2'=>`(tactic|decide)
    |false,'3'=>`(tactic|refine X8 Qc3 Jt ?_ ?_ Yaj ?_ ?_ ?_ ?_ ?_)
    |false,'4'=>`(tactic|refine Qw (QjT ?_) Ql ?_ ?_)
    |false,'5'=>`(tactic|refine Qi7 ?_)
    |false,'6'=>`(tactic|exact(Or.inl rfl))
    |false,'7'=>`(tactic|refine QlV ?_ ?_ ?_)
    |false,'8'=>`(tactic|exact Qk 2)
    |false,'9'=>`(tactic|refine ZU Qjr Ql ?_ ?_)
    |false,':'=>`(tactic|have $(Lean.mkIdent `hu):ident:=$(Lean.mkIdent `hr.units))
    |false,';'=>`(tactic|refine Qk0 ?_)
    |false,'<'=>`(tactic|exact $(Lean.mkIdent `nd_))
    |false,'='=>`(tactic|exact Qlo)
    |false,'>'=>`(tactic|exact Qk 3)
    |false,'?'=>`(tactic|exact $(Lean.mkIdent `c__law_take))
    |false,'@'=>`(tactic|exact QhI)
    |false,'A'=>`(tactic|exact $(Lean.mkIdent `hu))
    |false,'B'=>`(tactic|refine Qh (k:=1) (ps:=["spot","k"]) ?_ ?_ ?_ ?_ ?_ ?_ ?_ ?_)
    |false,'C'=>`(tactic|refine XY QaB Jt ?_ ?_ PyProof.Rows.boot_tuple ?_ ?_ ?_ ?_ ?_)
    |false,'D'=>`(tactic|exact Qk 4)
    |false,'E'=>`(tactic|refine Qfz ?_)
    |false,'F'=>`(tactic|refine Qh (k:=1) (ps:=["line"]) ?_ ?_ ?_ ?_ ?_ ?_ ?_ ?_)
    |_,_=>Lean.Macro.throwUnsupported)
   f:=false
 `(tactic|($[$r]*))
noncomputable def top(i:Nat):Stmt:=F6.main.body.getD i (.Pass ⟨0,0,0,0⟩)
noncomputable abbrev Vh:W:=.tup (Qd7 ["pair","first","second","same","none"])
noncomputable abbrev Zc:W:=.str "-"
section
variable{P:Program}{w:World}{K:Nj}{mg:Str->Option Value}{base:Heap}
noncomputable abbrev J6:Stmt:=top 38
theorem KE:FnScope ["feed","many","found"] ["feed","many"] (Qf J6):=⟨rfl,rfl,rfl,by decide +kernel,rfl,by decide +kernel,by decide +kernel⟩
noncomputable def Ju:FM:=Qx 1
  (Qt (Jq (Qm (Qe wGt (Qe wIx (Qb 0) (mC (.int 0))) (mC (.int 0)))) (Qt (Q4 2 (Qe QeB (Qe wIx (Qb 0) (mC (.int 0))) (Qb 1)))
  (Qt (Qjs (Qb 0) (mC (.int 0)) (Qe QgG (Qe wIx (Qb 0) (mC (.int 0))) (Qb 1)))
  (Zm (Qb 2)))) QP)
  (Qt (Qjs (Qb 0) (mC (.int 1)) (Qe QeB (Qe VJ (Qe X6 (Qe wIx (Qb 0) (mC (.int 1))) (mC (.int 69621))) (mC (.int 12345))) (mC (.int 2147483647))))
  (Zm (Qe QeB (Qe QgG (Qe wIx (Qb 0) (mC (.int 1))) (mC (.int 8191))) (Qb 1)))))
theorem W3(d:DefAt K mg "_law_take" J6 ["feed","many"]):Cal P w K mg base 1 "_law_take" ["feed","many"] Ju:=by
 refine Qs (k:=0) (more:=1) d KE rfl fun _ _ _ _ _ _ _ hr=>?_;have nd_:=(KE).nd
 walk_at"~:)7"
 refine Qw YN Ql ?_ ?_
 walk_at"~*-&&).<$6"
 refine ZU Kx Ql ?_ ?_
 walk_at"~*-&1$()"
 refine G0 ?_ ?_ ?_ ?_ ?_ ?_
 walk_at"~-&"
 refine ZU Qaq Ql ?_ ?_
 walk_at"~*-&1"
 exact fun _=>rfl
 walk_at"~$$/58@)"
 refine G0 ?_ ?_ ?_ ?_ ?_ ?_
 walk_at"~-&"
 refine ZU Kx Ql ?_ ?_
 walk_at"~9"
 refine ZU Xd Ql ?_ ?_
 walk_at"~*-&&&&"
 exact fun _=>rfl
 walk_at"~$$/5"
 refine ZU Kx Ql ?_ ?_;refine ZU Qaq Ql ?_ ?_
 walk_at"~*-&&1"
noncomputable def Qc:FM:=box frN Ju
noncomputable abbrev Zi:Stmt:=top 39
theorem Km:FnScope ["feed","many","letters","filler","first","step","size","place","back"] ["feed","many"] (Qf Zi):=⟨rfl,rfl,rfl,by decide +kernel,rfl,by decide +kernel,by decide +kernel⟩
noncomputable def Jg:FM:=Qx 7
  (Qt (Q4 2 (mC (.str "abcdefghijklmnopqrstuvwxyz")))
  (Qt (Q4 3 (Qe wIx (Qb 2) (Qi 2 Qc (Qa (Qb 0) (Qa (mC (.int 26)) Qd)))))
  (Qt (Jq (Qm (Qe wEq (Qi 2 Qc (Qa (Qb 0) (Qa (mC (.int 3)) Qd))) (mC (.int 0)))) (Zm (Zj VL (YD (Qa (Qb 1) Qd)) [none,some 3] (JM 0) Xm (Qe X6 (Qb 1) (Qe VJ (Qb 0) (mC (.int 1)))))) QP)
  (Qt (Q4 4 (Qi 2 Qc (Qa (Qb 0) (Qa (mC (.int 26)) Qd))))
  (Qt (Q4 5 (Qe wIx (mFn KR (Qa (mC (.int 1)) (Qa (mC (.int 3)) (Qa (mC (.int 5)) (Qa (mC (.int 7)) (Qa (mC (.int 9)) (Qa (mC (.int 11)) Qd))))))) (Qi 2 Qc (Qa (Qb 0) (Qa (mC (.int 6)) Qd)))))
  (Qt (Q4 6 (Qe wIx (mFn KR (Qa (mC (.int 1)) (Qa (mC (.int 3)) (Qa (mC (.int 4)) (Qa (mC (.int 5)) (Qa (mC (.int 6)) (Qa (mC (.int 7)) (Qa (mC (.int 8)) (Qa (mC (.int 1)) Qd))))))))) (Qi 2 Qc (Qa (Qb 0) (Qa (mC (.int 8)) Qd)))))
  (Qt (Q4 7 (Qi 2 Qc (Qa (Qb 0) (Qa (Qb 6) Qd))))
  (Qt (Q4 8 (Qe X6 (Qb 3) (Qe UQ (Qe UQ (Qb 6) (mC (.int 1))) (Qb 7))))
  (Zm (Zj VL (YD (Qa (Qb 1) Qd)) [none,some 8,some 3,some 7,some 2,some 4,some 5] (JM 0) Xm (Qe VJ (Qe VJ (Qe X6 (Qb 2) (Qb 3)) (Qe wIx (Qb 4) (Qe QeB (Qe VJ (Qb 5) (Qe X6 (Qb 6) (Qb 0))) (mC (.int 26))))) (Qb 1))))))))))))
theorem Y5(d:DefAt K mg "_law_names" Zi ["feed","many"])(b_range:mg "range"=none)(c__law_take:Cal P w K mg base 1 "_law_take" ["feed","many"] Qc):Cal P w K mg base 2 "_law_names" ["feed","many"] Jg:=by
 refine Qs (k:=1) (more:=7) d Km rfl fun _ _ _ _ _ _ _ hr=>?_;have nd_:=(Km).nd
 walk_at"~:).<$"
 exact(Or.inr rfl)
 walk_at"~=$().<$"
 exact(Or.inr rfl)
 walk_at"~*8,?+$#-#&%$2$$$()74A,?+$#-#&%$2$$&/5"
 refine Zv Z5 ?_ (Wh (ks:=["filler"]) (Nb:=["k","filler"]) (cp:=[none,some 3]) (N:=["feed","many","letters","filler","first","step","size","place","back"]) (xs:=(Qf Zi)) rfl rfl (by decide +kernel) rfl (by decide +kernel) (by intro p hp;simp only[NH,EN,or_false]at hp;rcases hp with rfl<;>rfl) rfl rfl rfl (by decide +kernel)) ?_ (fun _ _ _ _ _=>?_) (fun _ _ _ _ _=>?_)
 walk_at"~$"
 refine X9 ?_ ?_ ?_ ?_
 walk_at"~$"
 exact b_range
 walk_at"~#1%$"
 exact QA (i:=0) (x:="k") (show List.Nodup (["k","filler"]:List Str)from by decide +kernel) rfl (Or.inl rfl);refine ZU Xd Ql ?_ ?_
 walk_at"~19-&@).<$"
 exact(Or.inr rfl)
 walk_at"~,?+$#-#&%$2$$$().<$"
 exact(Or.inr rfl)
 walk_at"~*"
 refine Zn ?_
 walk_at"~#&#&#&#&#&#&%,?+$#-#&%$2$$$().<$6*"
 refine Zn ?_
 walk_at"~#&#&#&#&#&#&#&#&%,?+$#-#&%$2$$$().<$"
 exact(Or.inr rfl)
 walk_at"~,?+$#-#"
 exact Qk 6
 walk_at"~%$2$$$().<$"
 exact(Or.inr rfl);refine ZU Xd Ql ?_ ?_
 walk_at"~>"
 refine ZU JG Ql ?_ ?_;refine ZU JG Ql ?_ ?_;exact Qk 6
 walk_at"~&"
 exact Qk 7
 walk_at"~$(/5"
 refine Zv Z5 ?_ (Wh (ks:=["step","place","letters","first","filler","back"]) (Nb:=["k","back","filler","place","letters","first","step"]) (cp:=[none,some 8,some 3,some 7,some 2,some 4,some 5]) (N:=["feed","many","letters","filler","first","step","size","place","back"]) (xs:=(Qf Zi)) rfl rfl (by decide +kernel) rfl (by decide +kernel) (by intro p hp;simp only[NH,EN,or_false]at hp;rcases hp with rfl|rfl|rfl|rfl|rfl|rfl<;>rfl) rfl rfl rfl (by decide +kernel)) ?_ (fun _ _ _ _ _=>?_) (fun _ _ _ _ _=>?_)
 walk_at"~$"
 refine X9 ?_ ?_ ?_ ?_
 walk_at"~$"
 exact b_range
 walk_at"~#1%$"
 exact QA (i:=0) (x:="k") (show List.Nodup (["k","back","filler","place","letters","first","step"]:List Str)from by decide +kernel) rfl (Or.inl rfl)
 walk_at"~99"
 refine ZU Xd Ql ?_ ?_
 walk_at"~8>*D"
 refine ZU Kx Ql ?_ ?_
 walk_at"~9"
 exact Qk 5;refine ZU Xd Ql ?_ ?_;exact Qk 6
 walk_at"~-&1"
noncomputable def QI:FM:=box frN Jg
noncomputable abbrev ZS:Stmt:=top 41
theorem VM:FnScope ["lines","opened"] ["lines","opened"] (Qf ZS):=⟨rfl,rfl,rfl,by decide +kernel,rfl,by decide +kernel,by decide +kernel⟩
noncomputable def Zw:FM:=Qx 0
  (Jq (Qm (Qe wEq (Qe wIx (Qb 1) (mUn U9 (mC (.int 1)))) (mC (.str "either")))) (Qt (ZQ (mMt "list" QL (Qb 0) (Qa (mFn Z1 (Qa (mC (.str "or")) Qd)) Qd)))
  (Qjs (Qb 1) (mUn U9 (mC (.int 1))) (mC (.str "or")))) (Qt (ZQ (mMt "list" QL (Qb 0) (Qa (mFn Z1 (Qa (mC (.str "end")) Qd)) Qd)))
  (ZQ (mMt "list" Qmg (Qb 1) Qd))))
theorem KU(d:DefAt K mg "_law_step_on" ZS ["lines","opened"]):Cal P w K mg base 1 "_law_step_on" ["lines","opened"] Zw:=by
 refine Qs (k:=0) (more:=0) d VM rfl fun _ _ _ _ _ _ _ hr=>?_;have nd_:=(VM).nd
 walk_at"~:/74A*1"
 refine VI ?_
 walk_at"~&=)E0-#;#=%%/"
 refine G0 ?_ ?_ ?_ ?_ ?_ ?_
 walk_at"~1"
 refine VI ?_
 walk_at"~&="
 exact fun _=>rfl
 walk_at"~$$)E0-#;#=%%/E"
 refine QkT ET Oh PySem.F.type_list_pop Qic ?_
 walk_at"~1"
noncomputable def Qy:FM:=box frN Zw
noncomputable abbrev Jx:Stmt:=top 40
theorem XT:FnScope ["feed","boxes","words","way","x","y","z"] ["feed","boxes","words"] (Qf Jx):=⟨rfl,rfl,rfl,by decide +kernel,rfl,by decide +kernel,by decide +kernel⟩
noncomputable def Z7:FM:=Qx 4
  (Qt (Q4 3 (Qi 2 Qc (Qa (Qb 0) (Qa (mC (.int 10)) Qd))))
  (Qt (Q4 4 (Qe wIx (Qb 1) (Qi 2 Qc (Qa (Qb 0) (Qa (mFn Vp (Qa (Qb 1) Qd)) Qd)))))
  (Qt (Q4 5 (Qe wIx (Qb 1) (Qi 2 Qc (Qa (Qb 0) (Qa (mFn Vp (Qa (Qb 1) Qd)) Qd)))))
  (Qt (Jq (Qm (Qe wLt (Qb 3) (mC (.int 4)))) (Qt (Q4 6 (Qe wIx (Qb 1) (Qi 2 Qc (Qa (Qb 0) (Qa (mFn Vp (Qa (Qb 1) Qd)) Qd)))))
  (Zm (mFn Z1 (Qa (mC (.str "pair")) (Qa (Qb 4) (Qa (Qe wIx (Qb 2) (Qi 2 Qc (Qa (Qb 0) (Qa (mFn Vp (Qa (Qb 2) Qd)) Qd)))) (Qa (Qb 5) (Qa (Qb 6) Qd)))))))) QP)
  (Zm (Qe wIx (mFn KR (Qa (mFn Z1 (Qa (mC (.str "first")) (Qa (Qb 4) (Qa (Qb 5) Qd)))) (Qa (mFn Z1 (Qa (mC (.str "second")) (Qa (Qb 4) (Qa (Qb 5) Qd)))) (Qa (mFn Z1 (Qa (mC (.str "same")) (Qa (Qb 4) (Qa (Qb 5) Qd)))) (Qa (mFn Z1 (Qa (mC (.str "none")) (Qa (Qb 4) Qd))) (Qa (mFn Z1 (Qa (mC (.str "tell")) (Qa (Qb 5) Qd))) (Qa (mFn Z1 (Qa (mC (.str "tell")) (Qa (Qb 4) Qd))) Qd))))))) (Qe UQ (Qb 3) (mC (.int 4)))))))))
theorem Y6(d:DefAt K mg "_law_plain" Jx ["feed","boxes","words"])(b_len:mg "len"=none)(c__law_take:Cal P w K mg base 1 "_law_take" ["feed","many"] Qc):Cal P w K mg base 2 "_law_plain" ["feed","boxes","words"] Z7:=by
 refine Qs (k:=1) (more:=4) d XT rfl fun _ _ _ _ _ _ _ hr=>?_;have nd_:=(XT).nd
 walk_at"~:).<$6,?+$#-#&%$2$$$().<$6*1,?+$#-#3$"
 exact b_len
 walk_at"~#1%22$$%$2$$$().<$6*1,?+$#-#3$"
 exact b_len
 walk_at"~#1%22$$%$2$$$()7"
 refine Qw Wr Ql ?_ ?_
 walk_at"~>&).<$6*1,?+$#-#3$"
 exact b_len
 walk_at"~#1%22$$%$2$$$(/5;#=#D#*8,?+$#-#3$"
 exact b_len
 walk_at"~#8%22$$%$2$$#"
 exact Qk 5
 walk_at"~#"
 exact Qk 6
 walk_at"~%@/5*"
 refine Zn ?_
 walk_at"~#;#=#D#"
 exact Qk 5
 walk_at"~%#;#=#D#"
 exact Qk 5
 walk_at"~%#;#=#D#"
 exact Qk 5
 walk_at"~%#;#=#D%#;#=#"
 exact Qk 5
 walk_at"~%#;#=#D%%"
 refine ZU JG Ql ?_ ?_
 walk_at"~>&"
noncomputable def QJ:FM:=box frN Z7
noncomputable abbrev JW:Stmt:=top 42
theorem KG:FnScope ["feed","size","menus","later","opens","dos","lines","opened","k","way"] ["feed","size","menus","later","opens","dos"] (Qf JW):=⟨rfl,rfl,rfl,by decide +kernel,rfl,by decide +kernel,by decide +kernel⟩
noncomputable abbrev Jc:SM:=(Qt (Q4 9 (Qi 2 Qc (Qa (Qb 0) (Qa (mC (.int 14)) Qd))))
  (Jq (Xl (Qm (Qe wLt (Qb 9) (mC (.int 3)))) (Qm (Qe wGt (Qb 4) (mC (.int 0))))) (Qt (ZQ (mMt "list" QL (Qb 7) (Qa (Qe wIx (mFn KR (Qa (mC (.str "either")) (Qa (mC (.str "again")) (Qa (mC (.str "either")) Qd)))) (Qb 9)) Qd)))
  (Qt (ZQ (mMt "list" QL (Qb 6) (Qa (mFn Z1 (Qa (Qe wIx (Qb 7) (mUn U9 (mC (.int 1)))) Qd)) Qd)))
  (Q4 4 (Qe UQ (Qb 4) (mC (.int 1)))))) (Jq (Xl (Qm (Qe wLt (Qb 9) (mC (.int 6)))) (Qm (Qe wGt (mFn Vp (Qa (Qb 7) Qd)) (mC (.int 0))))) (ZQ (Qi 2 Qy (Qa (Qb 6) (Qa (Qb 7) Qd)))) (Jq (Xl (Qm (Qe (wIn false) (Qb 9) (mFn KR (Qa (mC (.int 6)) (Qa (mC (.int 7)) Qd))))) (Xl (Qm (Qe wGt (Qb 5) (mC (.int 0)))) (Qm (Qe wGt (mFn Vp (Qa (Qb 3) Qd)) (mC (.int 0)))))) (Qt (ZQ (mMt "list" QL (Qb 6) (Qa (mFn Z1 (Qa (mC (.str "do")) (Qa (Qe wIx (Qb 3) (Qi 2 Qc (Qa (Qb 0) (Qa (mFn Vp (Qa (Qb 3) Qd)) Qd)))) Qd))) Qd)))
  (Q4 5 (Qe UQ (Qb 5) (mC (.int 1))))) (ZQ (mMt "list" QL (Qb 6) (Qa (Qi 3 QJ (Qa (Qb 0) (Qa (Qe wIx (Qb 2) (mC (.int 0))) (Qa (Qe wIx (Qb 2) (mC (.int 1))) Qd)))) Qd)))))))
noncomputable abbrev Xt:SM:=(ZQ (Qi 2 Qy (Qa (Qb 6) (Qa (Qb 7) Qd))))
noncomputable def VG:FM:=Qx 4
  (Qt (Q4 6 (mFn GT Qd))
  (Qt (Q4 7 (mFn GT Qd))
  (Qt (K3 (YD (Qa (Qb 1) Qd)) (JM 8)
  Jc)
  (Qt (QQ (Qm (Qe wGt (mFn Vp (Qa (Qb 7) Qd)) (mC (.int 0)))) Xt 1000000)
  (Zm (mFn VV (Qa (Qb 6) Qd)))))))
theorem UA(d:DefAt K mg "_law_part" JW ["feed","size","menus","later","opens","dos"])(b_len:mg "len"=none)(b_range:mg "range"=none)(b_tuple:mg "tuple"=none)(c__law_plain:Cal P w K mg base 2 "_law_plain" ["feed","boxes","words"] QJ)(c__law_step_on:Cal P w K mg base 1 "_law_step_on" ["lines","opened"] Qy)(c__law_take:Cal P w K mg base 1 "_law_take" ["feed","many"] Qc):Cal P w K mg base 3 "_law_part" ["feed","size","menus","later","opens","dos"] VG:=by
 refine Qs (k:=2) (more:=4) d KG rfl fun _ _ _ _ _ _ _ hr=>?_;have nd_:=(KG).nd
 walk_at"~:).<$6"
 refine Vg ?_
 walk_at"~%$().<$6"
 refine Vg ?_
 walk_at"~%$()"
 refine JI ?_ ?_ ?_ ?_ ?_ ?_;exact Ei
 walk_at"~$"
 refine X9 ?_ ?_ ?_ ?_
 walk_at"~$"
 exact b_range
 walk_at"~#1%$"
 exact QA (i:=8) (x:="k") nd_ rfl (Or.inl rfl)
 walk_at"~).<$6,?+$#-#&%$2$$$(/7"
 refine PMW.pt ?_;refine Xz ?_ ?_;refine Qw Wr Ql ?_ ?_;exact Qk 9
 walk_at"~&"
 refine Xa ?_;refine Qw YN Ql ?_ ?_
 walk_at"~D&)E0"
 exact Qk 7
 walk_at"~#*"
 refine Zn ?_
 walk_at"~#=#=#=%"
 exact Qk 9
 walk_at"~%)E0"
 exact Qk 6
 walk_at"~#;#*"
 exact Qk 7;refine VI ?_
 walk_at"~&%%/.<$6"
 refine ZU JG Ql ?_ ?_
 walk_at"~D&$(/7"
 refine PMW.pt ?_;refine Xz ?_ ?_;refine Qw Wr Ql ?_ ?_;exact Qk 9
 walk_at"~&"
 refine Xa ?_;refine Qw YN Ql ?_ ?_
 walk_at"~3$"
 exact b_len
 walk_at"~#"
 exact Qk 7
 walk_at"~%22$$&/E"
 refine Qh (k:=1) (ps:=["lines","opened"]) ?_ ?_ ?_ ?_ ?_ ?_ ?_ ?_;exact c__law_step_on
 walk_at"~+$#"
 exact Qk 6
 walk_at"~#"
 exact Qk 7
 walk_at"~%$2$$/7"
 refine PMW.pt ?_;refine Xz ?_ ?_;refine Qw (Qet ?_) Ql ?_ ?_
 walk_at"~A"
 exact Qk 9;refine Zn ?_
 walk_at"~#&#&%"
 refine Xz ?_ ?_;refine Qw YN Ql ?_ ?_;exact Qk 5
 walk_at"~&"
 refine Xa ?_;refine Qw YN Ql ?_ ?_
 walk_at"~3$"
 exact b_len
 walk_at"~#>%22$$&)E0"
 exact Qk 6
 walk_at"~#;#=#*>,?+$#-#3$"
 exact b_len
 walk_at"~#>%22$$%$2$$%%/.<$6"
 refine ZU JG Ql ?_ ?_;exact Qk 5
 walk_at"~&$(/E0"
 exact Qk 6
 walk_at"~#"
 refine Qh (k:=2) (ps:=["feed","boxes","words"]) ?_ ?_ ?_ ?_ ?_ ?_ ?_ ?_;exact c__law_plain
 walk_at"~+$#-#*8&#*8&%$2$$%"
 exact fun _=>rfl
 walk_at"~)"
 refine YA 1000000 ?_ ?_ ?_;exact Ei;refine Qw YN Ql ?_ ?_
 walk_at"~3$"
 exact b_len
 walk_at"~#"
 exact Qk 7
 walk_at"~%22$$&/E"
 refine Qh (k:=1) (ps:=["lines","opened"]) ?_ ?_ ?_ ?_ ?_ ?_ ?_ ?_;exact c__law_step_on
 walk_at"~+$#"
 exact Qk 6
 walk_at"~#"
 exact Qk 7
 walk_at"~%$2$$/5C$"
 exact b_tuple
 walk_at"~#"
 exact Qk 6
 walk_at"~%22$$"
noncomputable def Za:FM:=box frN VG
noncomputable abbrev ZM:Stmt:=top 43
theorem VX:FnScope ["feed","bounds","menus","names","size","found","k"] ["feed","bounds"] (Qf ZM):=⟨rfl,rfl,rfl,by decide +kernel,rfl,by decide +kernel,by decide +kernel⟩
noncomputable abbrev Vj:SM:=(ZQ (mMt "list" QL (Qb 5) (Qa (mFn Z1 (Qa (Qe wIx (Qb 3) (Qb 6)) (Qa (Qi 6 Za (Qa (Qb 0) (Qa (Qi 2 Qc (Qa (Qb 0) (Qa (mC (.int 4)) Qd))) (Qa (Qb 2) (Qa (mSl (Qb 3) (XO (Qe VJ (Qb 6) (mC (.int 1)))) Xy) (Qa (mC (.int 1)) (Qa (mC (.int 1)) Qd))))))) Qd))) Qd)))
noncomputable def Jp:FM:=Qx 5
  (Qt (Q4 2 (mFn Z1 (Qa (Qi 2 QI (Qa (Qb 0) (Qa (Qe VJ (mC (.int 1)) (Qi 2 Qc (Qa (Qb 0) (Qa (Qe wIx (Qb 1) (mC (.int 0))) Qd)))) Qd))) (Qa (Qi 2 QI (Qa (Qb 0) (Qa (Qe VJ (mC (.int 1)) (Qi 2 Qc (Qa (Qb 0) (Qa (Qe wIx (Qb 1) (mC (.int 1))) Qd)))) Qd))) Qd))))
  (Qt (Q4 3 (Qi 2 QI (Qa (Qb 0) (Qa (Qe VJ (mC (.int 1)) (Qi 2 Qc (Qa (Qb 0) (Qa (Qe wIx (Qb 1) (mC (.int 2))) Qd)))) Qd))))
  (Qt (Q4 4 (Qe UQ (Qe wIx (Qb 1) (mC (.int 3))) (Qi 2 Qc (Qa (Qb 0) (Qa (mC (.int 3)) Qd)))))
  (Qt (Jq (Qm (Qe wEq (Qi 2 Qc (Qa (Qb 0) (Qa (mC (.int 4)) Qd))) (mC (.int 0)))) (Q4 4 (Qi 2 Qc (Qa (Qb 0) (Qa (Qe VJ (Qb 4) (mC (.int 1))) Qd)))) QP)
  (Qt (Q4 5 (mFn GT (Qa (mFn Z1 (Qa (Qe wIx (Qb 3) (mC (.int 0))) (Qa (Qi 6 Za (Qa (Qb 0) (Qa (Qb 4) (Qa (Qb 2) (Qa (mSl (Qb 3) (XO (mC (.int 1))) Xy) (Qa (mC (.int 2)) (Qa (mC (.int 2)) Qd))))))) Qd))) Qd)))
  (Qt (K3 (Qfn (Qa (mC (.int 1)) (Qa (mFn Vp (Qa (Qb 3) Qd)) Qd))) (JM 6)
  Vj)
  (Zm (mFn VV (Qa (Qb 5) Qd)))))))))
theorem KP(d:DefAt K mg "_law_program" ZM ["feed","bounds"])(b_len:mg "len"=none)(b_range:mg "range"=none)(b_tuple:mg "tuple"=none)(c__law_names:Cal P w K mg base 2 "_law_names" ["feed","many"] QI)(c__law_part:Cal P w K mg base 3 "_law_part" ["feed","size","menus","later","opens","dos"] Za)(c__law_take:Cal P w K mg base 1 "_law_take" ["feed","many"] Qc):Cal P w K mg base 4 "_law_program" ["feed","bounds"] Jp:=by
 refine Qs (k:=3) (more:=5) d VX rfl fun _ _ _ _ _ _ _ hr=>?_;have nd_:=(VX).nd
 walk_at"~:).<$6;#"
 refine Qh (k:=2) (ps:=["feed","many"]) ?_ ?_ ?_ ?_ ?_ ?_ ?_ ?_;exact c__law_names
 walk_at"~+$#-#9&,?+$#-#*1&%$2$$%$2$$#"
 refine Qh (k:=2) (ps:=["feed","many"]) ?_ ?_ ?_ ?_ ?_ ?_ ?_ ?_;exact c__law_names
 walk_at"~+$#-#9&,?+$#-#*1&%$2$$%$2$$%$().<$6"
 refine Qh (k:=2) (ps:=["feed","many"]) ?_ ?_ ?_ ?_ ?_ ?_ ?_ ?_;exact c__law_names
 walk_at"~+$#-#9&,?+$#-#*1&%$2$$%$2$$$().<$6"
 refine ZU JG Ql ?_ ?_
 walk_at"~*1&,?+$#-#&%$2$$$()74A,?+$#-#&%$2$$&/.<$6,?+$#-#9D&%$2$$$(@).<$6"
 refine Vg ?_
 walk_at"~#;#*>&#"
 refine Qh (k:=3) (ps:=["feed","size","menus","later","opens","dos"]) ?_ ?_ ?_ ?_ ?_ ?_ ?_ ?_;exact c__law_part
 walk_at"~+$#-#D#8#"
 refine VF ?_ ?_ ?_
 walk_at"~>"
 refine Vu ?_
 walk_at"~&"
 exact Vt
 walk_at"~#&#&%$2$$%%$()"
 refine JI ?_ ?_ ?_ ?_ ?_ ?_;exact Ei
 walk_at"~$"
 refine QgO ?_ ?_ ?_ ?_ ?_
 walk_at"~$"
 exact b_range
 walk_at"~#&#3$"
 exact b_len
 walk_at"~#>%22$$%$$"
 exact QA (i:=6) (x:="k") nd_ rfl (Or.inl rfl)
 walk_at"~/E0"
 exact Qk 5
 walk_at"~#;#*>"
 exact Qk 6
 walk_at"~#"
 refine Qh (k:=3) (ps:=["feed","size","menus","later","opens","dos"]) ?_ ?_ ?_ ?_ ?_ ?_ ?_ ?_;exact c__law_part
 walk_at"~+$#-#,?+$#-#&%$2$$#8#"
 refine VF ?_ ?_ ?_
 walk_at"~>"
 refine Vu ?_
 walk_at"~9"
 exact Qk 6
 walk_at"~&"
 exact Vt
 walk_at"~#&#&%$2$$%%"
 exact fun _=>rfl
 walk_at"~/5C$"
 exact b_tuple
 walk_at"~#"
 exact Qk 5
 walk_at"~%22$$"
noncomputable def JB:FM:=box frN Jp
noncomputable abbrev Zh:Stmt:=top 44
theorem XQ:FnScope ["feed","menus","names","way","lines","small","many","opened","k"] ["feed"] (Qf Zh):=⟨rfl,rfl,rfl,by decide +kernel,rfl,by decide +kernel,by decide +kernel⟩
noncomputable abbrev ZL:SM:=(Qt (ZQ (mMt "list" QL (Qb 4) (Qa (Qi 3 QJ (Qa (Qb 0) (Qa (Qe wIx (Qb 1) (mC (.int 0))) (Qa (Qe wIx (Qb 1) (mC (.int 1))) Qd)))) Qd)))
  (Qt (ZQ (mMt "list" QL (Qb 7) (Qa (Qe wIx (mFn KR (Qa (mC (.str "either")) (Qa (mC (.str "again")) Qd))) (Qi 2 Qc (Qa (Qb 0) (Qa (mC (.int 2)) Qd)))) Qd)))
  (ZQ (mMt "list" QL (Qb 4) (Qa (mFn Z1 (Qa (Qe wIx (Qb 7) (mUn U9 (mC (.int 1)))) Qd)) Qd)))))
noncomputable abbrev JP:SM:=(Qt (ZQ (mMt "list" QL (Qb 4) (Qa (Qi 3 QJ (Qa (Qb 0) (Qa (Qe wIx (Qb 1) (mC (.int 0))) (Qa (Qe wIx (Qb 1) (mC (.int 1))) Qd)))) Qd)))
  (ZQ (Qi 2 Qy (Qa (Qb 4) (Qa (Qb 7) Qd)))))
noncomputable def ZY:SM:=(Qt (Jq (Qm (Qe wEq (Qb 3) (mC (.int 0)))) (Qt (Q4 4 (Zj Qmj (YD (Qa (Qe VJ (mC (.int 40)) (Qi 2 Qc (Qa (Qb 0) (Qa (mC (.int 9)) Qd)))) Qd)) [none,some 0,some 1] (JM 0) Xm (Qi 3 QJ (Qa (Qb 1) (Qa (Qe wIx (Qb 2) (mC (.int 0))) (Qa (Qe wIx (Qb 2) (mC (.int 1))) Qd))))))
  (Zm (mFn Z1 (Qa (mFn Z1 (Qa (Qe wIx (Qb 2) (mC (.int 0))) (Qa (mFn VV (Qa (Qb 4) Qd)) Qd))) Qd)))) QP)
  (Qt (Jq (Qm (Qe wEq (Qb 3) (mC (.int 1)))) (Qt (Q4 5 (Qi 6 Za (Qa (Qb 0) (Qa (Qi 2 Qc (Qa (Qb 0) (Qa (mC (.int 2)) Qd))) (Qa (Qb 1) (Qa (mFn KR Qd) (Qa (mC (.int 0)) (Qa (mC (.int 0)) Qd))))))))
  (Qt (Q4 6 (Qe VJ (mC (.int 20)) (Qi 2 Qc (Qa (Qb 0) (Qa (mC (.int 4)) Qd)))))
  (Zm (mFn Z1 (Qa (mFn Z1 (Qa (Qe wIx (Qb 2) (mC (.int 0))) (Qa (mFn VV (Qa (Zj VL (YD (Qa (Qb 6) Qd)) [none,some 2] (JM 0) Xm (mFn Z1 (Qa (mC (.str "do")) (Qa (Qe wIx (Qb 1) (mC (.int 1))) Qd)))) Qd)) Qd))) (Qa (mFn Z1 (Qa (Qe wIx (Qb 2) (mC (.int 1))) (Qa (Qb 5) Qd))) Qd)))))) QP)
  (Qt (Q4 4 (mFn GT Qd))
  (Qt (Q4 7 (mFn GT Qd))
  (Qt (K3 (YD (Qa (mC (.int 6)) Qd)) (JM 8)
  ZL)
  (Qt (QQ (Qm (Qe wGt (mFn Vp (Qa (Qb 7) Qd)) (mC (.int 0)))) JP 1000000)
  (Zm (mFn VV (Qa (Qe VJ (mFn KR (Qa (mFn Z1 (Qa (Qe wIx (Qb 2) (mC (.int 0))) (Qa (mFn VV (Qa (Qb 4) Qd)) Qd))) Qd)) (Zj VL (Zl (mSl (Qb 2) (XO (mC (.int 1))) Xy)) [none] (JM 0) Xm (mFn Z1 (Qa (Qb 0) (Qa (mFn Z1 Qd) Qd))))) Qd)))))))))
noncomputable def Z9:FM:=Qx 8
  (Qt (Q4 1 (mFn Z1 (Qa (Qi 2 QI (Qa (Qb 0) (Qa (mC (.int 5)) Qd))) (Qa (Qi 2 QI (Qa (Qb 0) (Qa (mC (.int 5)) Qd))) Qd))))
  (Qt (Q4 2 (Qi 2 QI (Qa (Qb 0) (Qa (mC (.int 5)) Qd))))
  (Qt (Q4 3 (Qi 2 Qc (Qa (Qb 0) (Qa (mC (.int 3)) Qd))))
  ZY)))
theorem Y8(d:DefAt K mg "_law_great" Zh ["feed"])(b_len:mg "len"=none)(b_range:mg "range"=none)(b_tuple:mg "tuple"=none)(c__law_names:Cal P w K mg base 2 "_law_names" ["feed","many"] QI)(c__law_part:Cal P w K mg base 3 "_law_part" ["feed","size","menus","later","opens","dos"] Za)(c__law_plain:Cal P w K mg base 2 "_law_plain" ["feed","boxes","words"] QJ)(c__law_step_on:Cal P w K mg base 1 "_law_step_on" ["lines","opened"] Qy)(c__law_take:Cal P w K mg base 1 "_law_take" ["feed","many"] Qc):Cal P w K mg base 4 "_law_great" ["feed"] Z9:=by
 refine Qs (k:=3) (more:=8) d XQ rfl fun _ _ _ _ _ _ _ hr=>?_;have nd_:=(XQ).nd
 walk_at"~:).<$"
 exact(Or.inr rfl)
 walk_at"~;#"
 refine Qh (k:=2) (ps:=["feed","many"]) ?_ ?_ ?_ ?_ ?_ ?_ ?_ ?_;exact c__law_names
 walk_at"~+$#-#&%$2$$#"
 refine Qh (k:=2) (ps:=["feed","many"]) ?_ ?_ ?_ ?_ ?_ ?_ ?_ ?_;exact c__law_names
 walk_at"~+$#-#&%$2$$%$().<$"
 exact(Or.inr rfl);refine Qh (k:=2) (ps:=["feed","many"]) ?_ ?_ ?_ ?_ ?_ ?_ ?_ ?_;exact c__law_names
 walk_at"~+$#-#&%$2$$$().<$6,?+$#-#&%$2$$$()74A>&)"
 refine GD nd_ rfl (Or.inl rfl) ?_ Qhx ?_ (Wh (ks:=["menus","feed"]) (Nb:=["k","feed","menus"]) (cp:=[none,some 0,some 1]) (N:=["feed","menus","names","way","lines","small","many","opened","k"]) (xs:=(Qf Zh)) rfl rfl (by decide +kernel) rfl (by decide +kernel) (by intro p hp;simp only[NH,EN,or_false]at hp;rcases hp with rfl|rfl<;>rfl) rfl rfl rfl (by decide +kernel)) ?_ (fun _ _ _ _ _=>?_) (fun _ _ _ _ _=>?_) ?_ ?_
 walk_at"~($"
 refine X9 ?_ ?_ ?_ ?_
 walk_at"~$"
 exact b_range
 walk_at"~#9&,?+$#-#&%$2$$%$"
 exact QA (i:=0) (x:="k") (show List.Nodup (["k","feed","menus"]:List Str)from by decide +kernel) rfl (Or.inl rfl);refine Qh (k:=2) (ps:=["feed","boxes","words"]) ?_ ?_ ?_ ?_ ?_ ?_ ?_ ?_;exact c__law_plain
 walk_at"~+$#1#*8&#*8&%$2$$"
 exact fun _=>rfl
 walk_at"~$/5;#;#*8&#C$"
 exact b_tuple
 walk_at"~#D%22$$%%@)74A>&).<$6"
 refine Qh (k:=3) (ps:=["feed","size","menus","later","opens","dos"]) ?_ ?_ ?_ ?_ ?_ ?_ ?_ ?_;exact c__law_part
 walk_at"~+$#-#,?+$#-#&%$2$$#1#"
 refine Zn ?_
 walk_at"~%#&#&%$2$$$().<$69&,?+$#-#&%$2$$$(/5;#;#*8&#C$"
 exact b_tuple
 walk_at"~#"
 refine Zv Z5 ?_ (Wh (ks:=["names"]) (Nb:=["k","names"]) (cp:=[none,some 2]) (N:=["feed","menus","names","way","lines","small","many","opened","k"]) (xs:=(Qf Zh)) rfl rfl (by decide +kernel) rfl (by decide +kernel) (by intro p hp;simp only[NH,EN,or_false]at hp;rcases hp with rfl<;>rfl) rfl rfl rfl (by decide +kernel)) ?_ (fun _ _ _ _ _=>?_) (fun _ _ _ _ _=>?_)
 walk_at"~$"
 refine X9 ?_ ?_ ?_ ?_
 walk_at"~$"
 exact b_range
 walk_at"~#"
 exact Qk 6
 walk_at"~%$"
 exact QA (i:=0) (x:="k") (show List.Nodup (["k","names"]:List Str)from by decide +kernel) rfl (Or.inl rfl)
 walk_at"~;#=#*1&%%22$$%#;#*8&#"
 exact Qk 5
 walk_at"~%%@).<$6"
 refine Vg ?_
 walk_at"~%$().<$6"
 refine Vg ?_
 walk_at"~%$()"
 refine JI ?_ ?_ ?_ ?_ ?_ ?_;exact Ei
 walk_at"~$"
 refine X9 ?_ ?_ ?_ ?_
 walk_at"~$"
 exact b_range
 walk_at"~#&%$"
 exact QA (i:=8) (x:="k") nd_ rfl (Or.inl rfl)
 walk_at"~)E0D#"
 refine Qh (k:=2) (ps:=["feed","boxes","words"]) ?_ ?_ ?_ ?_ ?_ ?_ ?_ ?_;exact c__law_plain
 walk_at"~+$#-#*1&#*1&%$2$$%)E0"
 exact Qk 7
 walk_at"~#*"
 refine Zn ?_
 walk_at"~#=#=%,?+$#-#&%$2$$%/E0D#;#*"
 exact Qk 7;refine VI ?_
 walk_at"~&%%"
 exact fun _=>rfl
 walk_at"~)"
 refine YA 1000000 ?_ ?_ ?_;exact Ei;refine Qw YN Ql ?_ ?_
 walk_at"~3$"
 exact b_len
 walk_at"~#"
 exact Qk 7
 walk_at"~%22$$&)E0D#"
 refine Qh (k:=2) (ps:=["feed","boxes","words"]) ?_ ?_ ?_ ?_ ?_ ?_ ?_ ?_;exact c__law_plain
 walk_at"~+$#-#*1&#*1&%$2$$%/E"
 refine Qh (k:=1) (ps:=["lines","opened"]) ?_ ?_ ?_ ?_ ?_ ?_ ?_ ?_;exact c__law_step_on
 walk_at"~+$#D#"
 exact Qk 7
 walk_at"~%$2$$/5C$"
 exact b_tuple
 walk_at"~#9"
 refine Zn ?_
 walk_at"~#;#*8&#C$"
 exact b_tuple
 walk_at"~#D%22$$%%"
 refine Zv Z5 ?_ (Ji (Nb:=["name"]) (cp:=[none]) rfl (by decide +kernel) (by decide +kernel) rfl rfl) ?_ (fun _ _ _ _ _=>?_) (fun _ _ _ _ _=>?_)
 walk_at"~$"
 refine JL ?_;refine VF ?_ ?_ ?_
 walk_at"~8"
 refine Vu ?_
 walk_at"~&"
 exact Vt;exact QA (i:=0) (x:="name") (show List.Nodup (["name"]:List Str)from by decide +kernel) rfl (Or.inl rfl)
 walk_at"~;#-#;%%%22$$"
noncomputable def VC:FM:=box frN Z9
noncomputable abbrev VB:Stmt:=top 45
theorem YS:FnScope ["feed","bounds"] ["feed","bounds"] (Qf VB):=⟨rfl,rfl,rfl,by decide +kernel,rfl,by decide +kernel,by decide +kernel⟩
noncomputable def J3:FM:=Qx 0
  (Qt (Jq (Qm (Qe wEq (Qi 2 Qc (Qa (Qb 0) (Qa (mC (.int 8)) Qd))) (mC (.int 5)))) (Zm (Qi 1 VC (Qa (Qb 0) Qd))) QP)
  (Zm (Qi 2 JB (Qa (Qb 0) (Qa (Qb 1) Qd)))))
theorem U8(d:DefAt K mg "_law_any" VB ["feed","bounds"])(c__law_great:Cal P w K mg base 4 "_law_great" ["feed"] VC)(c__law_program:Cal P w K mg base 4 "_law_program" ["feed","bounds"] JB)(c__law_take:Cal P w K mg base 1 "_law_take" ["feed","many"] Qc):Cal P w K mg base 5 "_law_any" ["feed","bounds"] J3:=by
 refine Qs (k:=4) (more:=0) d YS rfl fun _ _ _ _ _ _ _ hr=>?_;have nd_:=(YS).nd
 walk_at"~:)74A,?+$#-#&%$2$$&/5"
 refine Qh (k:=4) (ps:=["feed"]) ?_ ?_ ?_ ?_ ?_ ?_ ?_ ?_;exact c__law_great
 walk_at"~+$#-%$2$$@/5"
 refine Qh (k:=4) (ps:=["feed","bounds"]) ?_ ?_ ?_ ?_ ?_ ?_ ?_ ?_;exact c__law_program
 walk_at"~+$#-#1%$2$$"
noncomputable def XM:FM:=box frN J3
noncomputable abbrev QU:Stmt:=top 46
theorem VU:FnScope ["feed","many","way"] ["feed"] (Qf QU):=⟨rfl,rfl,rfl,by decide +kernel,rfl,by decide +kernel,by decide +kernel⟩
noncomputable def Zx:FM:=Qx 2
  (Qt (Q4 1 (Qe wIx (mFn KR (Qa (Qi 2 Qc (Qa (Qb 0) (Qa (mC (.int 9)) Qd))) (Qa (Qi 2 Qc (Qa (Qb 0) (Qa (mC (.int 41)) Qd))) Qd))) (Qe QgG (Qi 2 Qc (Qa (Qb 0) (Qa (mC (.int 8)) Qd))) (mC (.int 7)))))
  (Qt (Q4 2 (Qi 2 Qc (Qa (Qb 0) (Qa (mC (.int 8)) Qd))))
  (Qt (Jq (Qm (Qe wLt (Qb 2) (mC (.int 2)))) (Zm (Zj VL (YD (Qa (Qb 1) Qd)) [none,some 2] (JM 0) Xm (Qb 1))) QP)
  (Zm (Zj VL (YD (Qa (Qb 1) Qd)) [none,some 0] (JM 0) Xm (Qi 2 Qc (Qa (Qb 1) (Qa (mC (.int 2)) Qd))))))))
theorem KZ(d:DefAt K mg "_law_choices" QU ["feed"])(b_range:mg "range"=none)(c__law_take:Cal P w K mg base 1 "_law_take" ["feed","many"] Qc):Cal P w K mg base 2 "_law_choices" ["feed"] Zx:=by
 refine Qs (k:=1) (more:=2) d VU rfl fun _ _ _ _ _ _ _ hr=>?_;have nd_:=(VU).nd
 walk_at"~:).<$6*"
 refine Zn ?_
 walk_at"~#,?+$#-#&%$2$$#,?+$#-#&%$2$$%"
 refine ZU Qaq Ql ?_ ?_
 walk_at"~,?+$#-#&%$2$$&$().<$"
 exact(Or.inr rfl)
 walk_at"~,?+$#-#&%$2$$$()7"
 refine Qw Wr Ql ?_ ?_
 walk_at"~8&/5"
 refine Zv Z5 ?_ (Wh (ks:=["way"]) (Nb:=["k","way"]) (cp:=[none,some 2]) (N:=["feed","many","way"]) (xs:=(Qf QU)) rfl rfl (by decide +kernel) rfl (by decide +kernel) (by intro p hp;simp only[NH,EN,or_false]at hp;rcases hp with rfl<;>rfl) rfl rfl rfl (by decide +kernel)) ?_ (fun _ _ _ _ _=>?_) (fun _ _ _ _ _=>?_)
 walk_at"~$"
 refine X9 ?_ ?_ ?_ ?_
 walk_at"~$"
 exact b_range
 walk_at"~#1%$"
 exact QA (i:=0) (x:="k") (show List.Nodup (["k","way"]:List Str)from by decide +kernel) rfl (Or.inl rfl)
 walk_at"~1@/5"
 refine Zv Z5 ?_ (Wh (ks:=["feed"]) (Nb:=["k","feed"]) (cp:=[none,some 0]) (N:=["feed","many","way"]) (xs:=(Qf QU)) rfl rfl (by decide +kernel) rfl (by decide +kernel) (by intro p hp;simp only[NH,EN,or_false]at hp;rcases hp with rfl<;>rfl) rfl rfl rfl (by decide +kernel)) ?_ (fun _ _ _ _ _=>?_) (fun _ _ _ _ _=>?_)
 walk_at"~$"
 refine X9 ?_ ?_ ?_ ?_
 walk_at"~$"
 exact b_range
 walk_at"~#1%$"
 exact QA (i:=0) (x:="k") (show List.Nodup (["k","feed"]:List Str)from by decide +kernel) rfl (Or.inl rfl)
 walk_at"~,?+$#1#&%$2$$"
noncomputable def JD:FM:=box frN Zx
noncomputable abbrev Jd:Stmt:=top 13
theorem Xv:FnScope ["program","name"] ["program","name"] (Qf Jd):=⟨rfl,rfl,rfl,by decide +kernel,rfl,by decide +kernel,by decide +kernel⟩
noncomputable def JJ:FM:=Qx 0
  (Zm (mMt "list" UO (Zj VL (Zl (Qb 0)) [none] (JM 0) Xm (Qe wIx (Qb 0) (mC (.int 0)))) (Qa (Qb 1) Qd)))
theorem YL(d:DefAt K mg "part_number" Jd ["program","name"]):Cal P w K mg base 1 "part_number" ["program","name"] JJ:=by
 refine Qs (k:=0) (more:=0) d Xv rfl fun _ _ _ _ _ _ _ hr=>?_;have nd_:=(Xv).nd
 walk_at"~:/5"
 refine Qb3 ET IR PySem.F.type_list_index (QcI ?_) ?_ ?_
 walk_at"~A"
 refine Zv Z5 ?_ (Ji (Nb:=["part"]) (cp:=[none]) rfl (by decide +kernel) (by decide +kernel) rfl rfl) ?_ (fun _ _ _ _ _=>?_) (fun _ _ _ _ _=>?_)
 walk_at"~$"
 refine JL ?_
 walk_at"~-"
 exact QA (i:=0) (x:="part") (show List.Nodup (["part"]:List Str)from by decide +kernel) rfl (Or.inl rfl)
 walk_at"~*-&#1%"
noncomputable def QB:FM:=box frN JJ
noncomputable abbrev Ze:Stmt:=top 33
theorem Vs:FnScope ["program","part","lines","line"] ["program","part"] (Qf Ze):=⟨rfl,rfl,rfl,by decide +kernel,rfl,by decide +kernel,by decide +kernel⟩
noncomputable abbrev VY(a:FM):SM:=(Jq (Qm (Qe wEq (Qe wIx (Qb 3) (mC (.int 0))) (mC (.str "do")))) (ZQ (mMt "list" Xf (Qb 2) (Qa (Qi 2 a (Qa (Qb 0) (Qa (Qi 2 QB (Qa (Qb 0) (Qa (Qe wIx (Qb 3) (mC (.int 1))) Qd))) Qd))) Qd))) (ZQ (mMt "list" QL (Qb 2) (Qa (Qb 3) Qd))))
noncomputable def Vb(a:FM):FM:=Qx 2
  (Qt (Q4 2 (mFn GT Qd))
  (Qt (K3 (Zl (Qe wIx (Qe wIx (Qb 0) (Qb 1)) (mC (.int 1)))) (JM 3)
  (VY a))
  (Zm (mFn VV (Qa (Qb 2) Qd)))))
theorem Y1{k:Nat}{rec_:FM}(hk:1<=k)(d:DefAt K mg "flat_lines" Ze ["program","part"])(b_tuple:mg "tuple"=none)(c_part_number:Cal P w K mg base 1 "part_number" ["program","name"] QB)(c_rec:Cal P w K mg base k "flat_lines" ["program","part"] rec_):Cal P w K mg base (k+1) "flat_lines" ["program","part"] (Vb rec_):=by
 refine Qs (k:=k) (more:=2) d Vs rfl fun _ _ _ _ _ _ _ hr=>?_;have nd_:=(Vs).nd
 walk_at"~:).<$6"
 refine Vg ?_
 walk_at"~%$()"
 refine JI ?_ ?_ ?_ ?_ ?_ ?_;exact Ei
 walk_at"~$"
 refine JL ?_
 walk_at"~**-1&"
 exact QA (i:=3) (x:="line") nd_ rfl (Or.inl rfl)
 walk_at"~/74A*>&=/E"
 refine Qb3 ET Dj FC YI ?_ ?_
 walk_at"~8#"
 refine Qh (k:=k) (ps:=["program","part"]) ?_ ?_ ?_ ?_ ?_ ?_ ?_ ?_;exact c_rec;exact hr.mono (by omega)
 walk_at"~$#-#"
 refine Qh (k:=1) (ps:=["program","name"]) ?_ ?_ ?_ ?_ ?_ ?_ ?_ ?_;exact c_part_number;exact hr.mono (by omega)
 walk_at"~$#-#*>&%$2$$%$2$$%/E08#>%"
 exact fun _=>rfl
 walk_at"~/5C$"
 exact b_tuple
 walk_at"~#8%22$$"
noncomputable def Zs:Nat->FM
 |0=>Qx 2 fun _ _=>none
 |n+1=>box frN (Vb (Zs n))
theorem Xr(d:DefAt K mg "flat_lines" Ze ["program","part"])(b:mg "tuple"=none)(a:Cal P w K mg base 1 "part_number" ["program","name"] QB):∀n,Cal P w K mg base (2+n) "flat_lines" ["program","part"] (Zs n)
 |0=>Qs (k:=1) (more:=2) d Vs rfl fun _ _ _ _ _ _ _ _=>QeF
 |n+1=>(Y1 (k:=2+n) (by omega) d b a (Xr d b a n)).box frN
noncomputable def ZX:FM:=Zs 6
theorem Y3(d:DefAt K mg "flat_lines" Ze ["program","part"])(b:mg "tuple"=none)(a:Cal P w K mg base 1 "part_number" ["program","name"] QB):Cal P w K mg base 8 "flat_lines" ["program","part"] ZX:=Xr d b a 6
noncomputable abbrev Uc:Stmt:=top 32
theorem QcV:FnScope ["program"] ["program"] (Qf Uc):=⟨rfl,rfl,rfl,by decide +kernel,rfl,by decide +kernel,by decide +kernel⟩
noncomputable def Uk:FM:=Qx 0
  (Zm (mFn Z1 (Qa (mFn Z1 (Qa (Qe wIx (Qe wIx (Qb 0) (mC (.int 0))) (mC (.int 0))) (Qa (Qi 2 ZX (Qa (Qb 0) (Qa (mC (.int 0)) Qd))) Qd))) Qd)))
theorem QfG(d:DefAt K mg "flat" Uc ["program"])(c_flat_lines:Cal P w K mg base 8 "flat_lines" ["program","part"] ZX):Cal P w K mg base 9 "flat" ["program"] Uk:=by
 refine Qs (k:=8) (more:=0) d QcV rfl fun _ _ _ _ _ _ _ hr=>?_;have nd_:=(QcV).nd
 walk_at"~:/5;#;#**-&&#"
 refine Qh (k:=8) (ps:=["program","part"]) ?_ ?_ ?_ ?_ ?_ ?_ ?_ ?_;exact c_flat_lines
 walk_at"~+$#-#&%$2$$%%"
noncomputable def Uw:FM:=box frN Uk
noncomputable abbrev Xj:Stmt:=top 18
theorem WA:FnScope ["program","spot","lines"] ["program","spot"] (Qf Xj):=⟨rfl,rfl,rfl,by decide +kernel,rfl,by decide +kernel,by decide +kernel⟩
noncomputable def Q6:FM:=Qx 1
  (Qt (Q4 2 (Qe wIx (Qe wIx (Qb 0) (Qe wIx (Qb 1) (mC (.int 1)))) (mC (.int 1))))
  (Qt (Jq (QdQ (Qia (Qe wIx (Qb 1) (mC (.int 3)))) (Qm (Qe wEq (Qe wIx (Qb 1) (mC (.int 2))) (mFn Vp (Qa (Qb 2) Qd))))) (Zm (mC .non)) QP)
  (Zm (Qe wIx (Qb 2) (Qe wIx (Qb 1) (mC (.int 2)))))))
theorem Qab(d:DefAt K mg "line_of" Xj ["program","spot"])(b_len:mg "len"=none):Cal P w K mg base 1 "line_of" ["program","spot"] Q6:=by
 refine Qs (k:=0) (more:=1) d WA rfl fun _ _ _ _ _ _ _ hr=>?_;have nd_:=(WA).nd
 walk_at"~:).<$6**-*1&&$()7"
 refine PMW.pt ?_;refine Wn ?_ ?_;refine WQ ?_
 walk_at"~*1&"
 refine YK ?_
 walk_at"~4A*1&3$"
 exact b_len
 walk_at"~#8%22$$/5"
 exact Z0
 walk_at"~@/5*8*1&"
noncomputable def QD:FM:=box frN Q6
noncomputable abbrev Yb:Stmt:=top 9
theorem Qbv:FnScope ["line"] ["line"] (Qf Yb):=⟨rfl,rfl,rfl,by decide +kernel,rfl,by decide +kernel,by decide +kernel⟩
noncomputable def JH:FM:=Qx 0
  (Qt (Jq (QdQ (Qm (Qe wEq (Qe wIx (Qb 0) (mC (.int 0))) (mC (.str "first")))) (Qm (Qe wEq (Qe wIx (Qb 0) (mC (.int 0))) (mC (.str "second"))))) (Zm (Qe wIx (Qb 0) (mC (.int 2)))) QP)
  (Zm (mIf (Qm (Qe wEq (Qe wIx (Qb 0) (mC (.int 0))) (mC (.str "tell")))) (Qe wIx (Qb 0) (mC (.int 1))) (mC .non))))
theorem Qeo(d:DefAt K mg "reads" Yb ["line"]):Cal P w K mg base 1 "reads" ["line"] JH:=by
 refine Qs (k:=0) (more:=0) d Qbv rfl fun _ _ _ _ _ _ _ hr=>?_;have nd_:=(Qbv).nd
 walk_at"~:)7"
 refine PMW.pt ?_;refine Wn ?_ ?_
 walk_at"~4A*-&="
 refine YK ?_
 walk_at"~4A*-&=/5*-&@/5"
 refine Gh ?_ ?_ ?_
 walk_at"~4A*-&=*-&"
 exact Z0
noncomputable def Kk:FM:=box frN JH
noncomputable abbrev J7:Stmt:=top 27
theorem KM:FnScope ["line","held"] ["line","held"] (Qf J7):=⟨rfl,rfl,rfl,by decide +kernel,rfl,by decide +kernel,by decide +kernel⟩
noncomputable def Jv:FM:=Qx 0
  (Zm (mIf (Qm (Qe wIs (Qi 1 Kk (Qa (Qb 0) Qd)) (mC .non))) (mC .non) (Qe Qcl (Qb 1) (Qi 1 Kk (Qa (Qb 0) Qd)))))
theorem W1(d:DefAt K mg "room_read" J7 ["line","held"])(c_reads:Cal P w K mg base 1 "reads" ["line"] Kk):Cal P w K mg base 2 "room_read" ["line","held"] Jv:=by
 refine Qs (k:=1) (more:=0) d KM rfl fun _ _ _ _ _ _ _ hr=>?_;have nd_:=(KM).nd
 walk_at"~:/5"
 refine Gh ?_ ?_ ?_;refine Qw Ws Ql ?_ ?_
 walk_at"~F"
 exact c_reads
 walk_at"~+$#-%$2$$"
 exact Z0;exact Z0;refine Wx ?_ ?_ ?_
 walk_at"~A1F"
 exact c_reads
 walk_at"~+$#-%$2$$"
noncomputable def QO:FM:=box frN Jv
noncomputable abbrev Yl:Stmt:=top 8
theorem QaN:FnScope ["line"] ["line"] (Qf Yl):=⟨rfl,rfl,rfl,by decide +kernel,rfl,by decide +kernel,by decide +kernel⟩
noncomputable def Vo:FM:=Qx 0
  (Zm (mIf (Qm (Qe (wIn false) (Qe wIx (Qb 0) (mC (.int 0))) (mC Vh))) (Qe wIx (Qb 0) (mC (.int 1))) (mC .non)))
theorem Qed(d:DefAt K mg "gives" Yl ["line"])(g_GIVING:Glob K mg "GIVING" Vh):Cal P w K mg base 1 "gives" ["line"] Vo:=by
 refine Qs (k:=0) (more:=0) d QaN rfl fun _ _ _ _ _ _ _ hr=>?_;have nd_:=(QaN).nd
 walk_at"~:/5"
 refine Gh ?_ ?_ ?_;refine Qw (Qet ?_) Ql ?_ ?_
 walk_at"~A*-&"
 exact Qbf g_GIVING rfl
 walk_at"~*-&"
 exact Z0
noncomputable def Jw:FM:=box frN Vo
noncomputable abbrev JX:Stmt:=top 10
theorem KH:FnScope ["line"] ["line"] (Qf JX):=⟨rfl,rfl,rfl,by decide +kernel,rfl,by decide +kernel,by decide +kernel⟩
noncomputable def Zg:FM:=Qx 0
  (Qt (Jq (Qm (Qe wEq (Qe wIx (Qb 0) (mC (.int 0))) (mC (.str "first")))) (Zm (mC (.int 1))) QP)
  (Zm (mIf (Qm (Qe wEq (Qe wIx (Qb 0) (mC (.int 0))) (mC (.str "second")))) (mC (.int 2)) (mC .non))))
theorem UD(d:DefAt K mg "letter_of" JX ["line"]):Cal P w K mg base 1 "letter_of" ["line"] Zg:=by
 refine Qs (k:=0) (more:=0) d KH rfl fun _ _ _ _ _ _ _ hr=>?_;have nd_:=(KH).nd
 walk_at"~:)74A*-&=/5&@/5"
 refine Gh ?_ ?_ ?_
 walk_at"~4A*-&=&"
 exact Z0
noncomputable def Jj:FM:=box frN Zg
noncomputable abbrev Jf:Stmt:=top 30
theorem Xp:FnScope ["rooms","room","letter"] ["rooms","room","letter"] (Qf Jf):=⟨rfl,rfl,rfl,by decide +kernel,rfl,by decide +kernel,by decide +kernel⟩
noncomputable def ZV:FM:=Qx 0
  (Zm (mIf (Qm (Qe wIs (Qb 1) (mC .non))) (mC .non) (Qe wIx (Qe wIx (Qb 0) (Qb 1)) (Qb 2))))
theorem Yq(d:DefAt K mg "room_within" Jf ["rooms","room","letter"]):Cal P w K mg base 1 "room_within" ["rooms","room","letter"] ZV:=by
 refine Qs (k:=0) (more:=0) d Xp rfl fun _ _ _ _ _ _ _ hr=>?_;have nd_:=(Xp).nd
 walk_at"~:/5"
 refine Gh ?_ ?_ ?_;refine Qw Ws Ql ?_ ?_
 walk_at"~1"
 exact Z0;exact Z0
 walk_at"~**-18"
noncomputable def Zq:FM:=box frN ZV
noncomputable abbrev VD:Stmt:=top 29
theorem Yx:FnScope ["line","rooms","held","letter"] ["line","rooms","held"] (Qf VD):=⟨rfl,rfl,rfl,by decide +kernel,rfl,by decide +kernel,by decide +kernel⟩
noncomputable def QY:FM:=Qx 1
  (Qt (Jq (Qm (Qe wEq (Qe wIx (Qb 0) (mC (.int 0))) (mC (.str "pair")))) (Zm (Qe UQ (mFn Vp (Qa (Qb 1) Qd)) (mC (.int 1)))) QP)
  (Qt (Jq (Qm (Qe wEq (Qe wIx (Qb 0) (mC (.int 0))) (mC (.str "same")))) (Zm (Qe Qcl (Qb 2) (Qe wIx (Qb 0) (mC (.int 2))))) QP)
  (Qt (Q4 3 (Qi 1 Jj (Qa (Qb 0) Qd)))
  (Zm (mIf (Qm (Qe wIs (Qb 3) (mC .non))) (mC .non) (Qi 3 Zq (Qa (Qb 1) (Qa (Qe Qcl (Qb 2) (Qe wIx (Qb 0) (mC (.int 2)))) (Qa (Qb 3) Qd)))))))))
theorem Gn(d:DefAt K mg "given_by" VD ["line","rooms","held"])(b_len:mg "len"=none)(c_letter_of:Cal P w K mg base 1 "letter_of" ["line"] Jj)(c_room_within:Cal P w K mg base 1 "room_within" ["rooms","room","letter"] Zq):Cal P w K mg base 2 "given_by" ["line","rooms","held"] QY:=by
 refine Qs (k:=1) (more:=1) d Yx rfl fun _ _ _ _ _ _ _ hr=>?_;have nd_:=(Yx).nd
 walk_at"~:)74A*-&=/5"
 refine ZU JG Ql ?_ ?_
 walk_at"~3$"
 exact b_len
 walk_at"~#1%22$$&@)74A*-&=/5"
 refine Wx ?_ ?_ ?_
 walk_at"~A8*-&@).<$6F"
 exact c_letter_of
 walk_at"~+$#-%$2$$$(/5"
 refine Gh ?_ ?_ ?_;refine Qw Ws Ql ?_ ?_
 walk_at"~>"
 exact Z0;exact Z0;refine Qh (k:=1) (ps:=["rooms","room","letter"]) ?_ ?_ ?_ ?_ ?_ ?_ ?_ ?_;exact c_room_within
 walk_at"~+$#1#"
 refine Wx ?_ ?_ ?_
 walk_at"~A8*-&#>%$2$$"
noncomputable def Z4:FM:=box frN QY
noncomputable abbrev JV:Stmt:=top 14
theorem KN:FnScope ["program","lines","part"] ["program"] (Qf JV):=⟨rfl,rfl,rfl,by decide +kernel,rfl,by decide +kernel,by decide +kernel⟩
noncomputable abbrev Xw:SM:=(ZQ (mMt "list" Xf (Qb 1) (Qa (Qe wIx (Qb 2) (mC (.int 1))) Qd)))
noncomputable def Vz:FM:=Qx 2
  (Qt (Q4 1 (mFn GT Qd))
  (Qt (K3 (Zl (Qb 0)) (JM 2)
  Xw)
  (Zm (Qb 1))))
theorem Uu(d:DefAt K mg "all_lines" JV ["program"]):Cal P w K mg base 1 "all_lines" ["program"] Vz:=by
 refine Qs (k:=0) (more:=2) d KN rfl fun _ _ _ _ _ _ _ hr=>?_;have nd_:=(KN).nd
 walk_at"~:).<$6"
 refine Vg ?_
 walk_at"~%$()"
 refine JI ?_ ?_ ?_ ?_ ?_ ?_;exact Ei
 walk_at"~$"
 refine JL ?_
 walk_at"~-"
 exact QA (i:=2) (x:="part") nd_ rfl (Or.inl rfl)
 walk_at"~/E"
 refine Qb3 ET Dj FC YI ?_ ?_
 walk_at"~1#*8&%"
 exact fun _=>rfl
 walk_at"~/51"
noncomputable def ZF:FM:=box frN Vz
noncomputable abbrev Vy:Stmt:=top 15
theorem YV:FnScope ["line"] ["line"] (Qf Vy):=⟨rfl,rfl,rfl,by decide +kernel,rfl,by decide +kernel,by decide +kernel⟩
noncomputable def Q9:FM:=Qx 0
  (Qt (Jq (Qm (Qe wEq (Qe wIx (Qb 0) (mC (.int 0))) (mC (.str "pair")))) (Zm (mFn KR (Qa (Qe wIx (Qb 0) (mC (.int 1))) (Qa (Qe wIx (Qb 0) (mC (.int 3))) (Qa (Qe wIx (Qb 0) (mC (.int 4))) Qd))))) QP)
  (Qt (Jq (Qm (Qe (wIn false) (Qe wIx (Qb 0) (mC (.int 0))) (mFn Z1 (Qa (mC (.str "first")) (Qa (mC (.str "second")) (Qa (mC (.str "same")) (Qa (mC (.str "none")) (Qa (mC (.str "tell")) Qd)))))))) (Zm (mFn Qe8 (Qa (mSl (Qb 0) (XO (mC (.int 1))) Xy) Qd))) QP)
  (Zm (mFn KR Qd))))
theorem UT(d:DefAt K mg "boxes_in" Vy ["line"])(b_list:mg "list"=none):Cal P w K mg base 1 "boxes_in" ["line"] Q9:=by
 refine Qs (k:=0) (more:=0) d YV rfl fun _ _ _ _ _ _ _ hr=>?_;have nd_:=(YV).nd
 walk_at"~:)74A*-&=/5"
 refine Zn ?_
 walk_at"~#*-&#*-&#*-&%@)7"
 refine Qw (Qet ?_) Ql ?_ ?_
 walk_at"~A*-&;#=#=#=#=#=%/5"
 refine XY QbU Jt ?_ ?_ PyProof.Rows.boot_list ?_ ?_ ?_ ?_ ?_
 walk_at"~$"
 exact b_list
 walk_at"~#"
 refine VF ?_ ?_ ?_
 walk_at"~-"
 refine Vu ?_
 walk_at"~&"
 exact Vt
 walk_at"~%22$$@/5"
 refine Zn ?_
 walk_at"~%"
noncomputable def VA:FM:=box frN Q9
noncomputable abbrev Vw:Stmt:=top 12
theorem YB:FnScope ["program","boxes","line"] ["program"] (Qf Vw):=⟨rfl,rfl,rfl,by decide +kernel,rfl,by decide +kernel,by decide +kernel⟩
noncomputable abbrev XS:SM:=(ZQ (mMt "list" WN (Qb 1) (Qa (Qi 1 VA (Qa (Qb 2) Qd)) Qd)))
noncomputable def V3:FM:=Qx 2
  (Qt (Q4 1 (mFn GT Qd))
  (Qt (K3 (Zl (Qi 1 ZF (Qa (Qb 0) Qd))) (JM 2)
  XS)
  (Zm (mFn VP (Qa (Qb 1) Qd)))))
theorem GA(d:DefAt K mg "boxes_of" Vw ["program"])(b_set:mg "set"=none)(b_sorted:mg "sorted"=none)(c_all_lines:Cal P w K mg base 1 "all_lines" ["program"] ZF)(c_boxes_in:Cal P w K mg base 1 "boxes_in" ["line"] VA):Cal P w K mg base 2 "boxes_of" ["program"] V3:=by
 refine Qs (k:=1) (more:=2) d YB rfl fun _ _ _ _ _ _ _ hr=>?_;have nd_:=(YB).nd
 walk_at"~:).<$6"
 refine Vg ?_
 walk_at"~%$()"
 refine JI ?_ ?_ ?_ ?_ ?_ ?_;exact Ei
 walk_at"~$"
 refine JL ?_;refine Qh (k:=1) (ps:=["program"]) ?_ ?_ ?_ ?_ ?_ ?_ ?_ ?_;exact c_all_lines
 walk_at"~+$#-%$2$$"
 exact QA (i:=2) (x:="line") nd_ rfl (Or.inl rfl)
 walk_at"~/E"
 refine Qb3 ET Dj FC Qce ?_ ?_
 walk_at"~1#F"
 exact c_boxes_in
 walk_at"~+$#8%$2$$%"
 exact fun _=>rfl
 walk_at"~/5"
 refine GL ?_ ?_ ?_ ?_ ?_ ?_ ?_
 walk_at"~$$"
 exact b_sorted
 walk_at"~$"
 exact b_set
 walk_at"~1$"
noncomputable def ZE:FM:=box frN V3
noncomputable abbrev J0:Stmt:=top 28
theorem KC:FnScope ["rooms","room"] ["rooms","room"] (Qf J0):=⟨rfl,rfl,rfl,by decide +kernel,rfl,by decide +kernel,by decide +kernel⟩
noncomputable def Jy:FM:=Qx 0
  (Zm (mIf (Qm (Qe wIs (Qb 1) (mC .non))) (mC Zc) (Qe wIx (Qe wIx (Qb 0) (Qb 1)) (mC (.int 0)))))
theorem W8(d:DefAt K mg "word_told" J0 ["rooms","room"])(g_NOTHING_TOLD:Glob K mg "NOTHING_TOLD" Zc):Cal P w K mg base 1 "word_told" ["rooms","room"] Jy:=by
 refine Qs (k:=0) (more:=0) d KC rfl fun _ _ _ _ _ _ _ hr=>?_;have nd_:=(KC).nd
 walk_at"~:/5"
 refine Gh ?_ ?_ ?_;refine Qw Ws Ql ?_ ?_
 walk_at"~1"
 exact Z0;exact Qbf g_NOTHING_TOLD rfl
 walk_at"~**-1&"
noncomputable def ZH:FM:=box frN Jy
noncomputable abbrev Kg:Stmt:=top 26
theorem UG:FnScope ["program","run","rooms","read","told","held","step","line"] ["program","run"] (Qf Kg):=⟨rfl,rfl,rfl,by decide +kernel,rfl,by decide +kernel,by decide +kernel⟩
noncomputable abbrev JN:SM:=(Qt (Q4 7 (Qi 2 QD (Qa (Qb 0) (Qa (Qe wIx (Qb 1) (Qb 6)) Qd))))
  (Qt (Jq (Qm (Qe wIs (Qb 7) (mC .non))) Ql7 QP)
  (Qt (Jq (Qm (Qe YQ (Qi 2 QO (Qa (Qb 7) (Qa (Qb 5) Qd))) (mC .non))) (ZQ (mMt "list" QL (Qb 3) (Qa (mFn Z1 (Qa (Qb 6) (Qa (Qi 2 QO (Qa (Qb 7) (Qa (Qb 5) Qd))) Qd))) Qd))) QP)
  (Qt (Jq (Qm (Qe wEq (Qe wIx (Qb 7) (mC (.int 0))) (mC (.str "tell")))) (ZQ (mMt "list" QL (Qb 4) (Qa (Qi 2 ZH (Qa (Qb 2) (Qa (Qe Qcl (Qb 5) (Qe wIx (Qb 7) (mC (.int 1)))) Qd))) Qd))) QP)
  (Qt (Jq (Qm (Qe wEq (Qe wIx (Qb 7) (mC (.int 0))) (mC (.str "pair")))) (ZQ (mMt "list" QL (Qb 2) (Qa (mFn Z1 (Qa (Qe wIx (Qb 7) (mC (.int 2))) (Qa (Qe Qcl (Qb 5) (Qe wIx (Qb 7) (mC (.int 3)))) (Qa (Qe Qcl (Qb 5) (Qe wIx (Qb 7) (mC (.int 4)))) (Qa (Qe VJ (Qb 6) (mC (.int 1))) Qd))))) Qd))) QP)
  (Jq (Qm (Qe YQ (Qi 1 Jw (Qa (Qb 7) Qd)) (mC .non))) (QbV (Qb 5) (Qi 1 Jw (Qa (Qb 7) Qd)) (Qi 3 Z4 (Qa (Qb 7) (Qa (Qb 2) (Qa (Qb 5) Qd))))) QP))))))
noncomputable def Vd:FM:=Qx 6
  (Qt (Q4 2 (mFn GT Qd))
  (Qt (Q4 3 (mFn GT Qd))
  (Qt (Q4 4 (mFn GT Qd))
  (Qt (Q4 5 (mFn KA (Qa (Zj VL (Zl (Qi 1 ZE (Qa (Qb 0) Qd))) [none] (JM 0) Xm (mFn Z1 (Qa (Qb 0) (Qa (mC .non) Qd)))) Qd)))
  (Qt (K3 (YD (Qa (Qe UQ (mFn Vp (Qa (Qb 1) Qd)) (mC (.int 1))) Qd)) (JM 6)
  JN)
  (Zm (mFn Z1 (Qa (Qb 2) (Qa (Qb 3) (Qa (Qb 4) (Qa (Qiz (Qb 5)) Qd)))))))))))
theorem QbI(d:DefAt K mg "traced" Kg ["program","run"])(b_dict:mg "dict"=none)(b_len:mg "len"=none)(b_range:mg "range"=none)(b_sorted:mg "sorted"=none)(c_boxes_of:Cal P w K mg base 2 "boxes_of" ["program"] ZE)(c_given_by:Cal P w K mg base 2 "given_by" ["line","rooms","held"] Z4)(c_gives:Cal P w K mg base 1 "gives" ["line"] Jw)(c_line_of:Cal P w K mg base 1 "line_of" ["program","spot"] QD)(c_room_read:Cal P w K mg base 2 "room_read" ["line","held"] QO)(c_word_told:Cal P w K mg base 1 "word_told" ["rooms","room"] ZH):Cal P w K mg base 3 "traced" ["program","run"] Vd:=by
 refine Qs (k:=2) (more:=6) d UG rfl fun _ _ _ _ _ _ _ hr=>?_;have nd_:=(UG).nd
 walk_at"~:).<$6"
 refine Vg ?_
 walk_at"~%$().<$6"
 refine Vg ?_
 walk_at"~%$().<$6"
 refine Vg ?_
 walk_at"~%$().<$6"
 refine XY (Yy ?_) Jt ?_ ?_ Lq ?_ ?_ ?_ ?_ ?_
 walk_at"~$$"
 exact b_dict
 walk_at"~#"
 refine Zv Z5 ?_ (Ji (Nb:=["box"]) (cp:=[none]) rfl (by decide +kernel) (by decide +kernel) rfl rfl) ?_ (fun _ _ _ _ _=>?_) (fun _ _ _ _ _=>?_)
 walk_at"~$"
 refine JL ?_;refine Qh (k:=2) (ps:=["program"]) ?_ ?_ ?_ ?_ ?_ ?_ ?_ ?_;exact c_boxes_of
 walk_at"~+$#-%$2$$"
 exact QA (i:=0) (x:="box") (show List.Nodup (["box"]:List Str)from by decide +kernel) rfl (Or.inl rfl)
 walk_at"~;#-#"
 exact Z0
 walk_at"~%%22$$$()"
 refine JI ?_ ?_ ?_ ?_ ?_ ?_;exact Ei
 walk_at"~$"
 refine X9 ?_ ?_ ?_ ?_
 walk_at"~$"
 exact b_range
 walk_at"~#"
 refine ZU JG Ql ?_ ?_
 walk_at"~3$"
 exact b_len
 walk_at"~#1%22$$&%$"
 exact QA (i:=6) (x:="step") nd_ rfl (Or.inl rfl)
 walk_at"~).<$6"
 refine Qh (k:=1) (ps:=["program","spot"]) ?_ ?_ ?_ ?_ ?_ ?_ ?_ ?_;exact c_line_of
 walk_at"~+$#-#*1"
 exact Qk 6
 walk_at"~%$2$$$()7"
 refine Qw Ws Ql ?_ ?_;exact Qk 7;exact Z0
 walk_at"~/"
 exact GC
 walk_at"~@)7"
 refine Qw Gm Ql ?_ ?_;refine Qh (k:=2) (ps:=["line","held"]) ?_ ?_ ?_ ?_ ?_ ?_ ?_ ?_;exact c_room_read
 walk_at"~+$#"
 exact Qk 7
 walk_at"~#"
 exact Qk 5
 walk_at"~%$2$$"
 exact Z0
 walk_at"~/E0>#;#"
 exact Qk 6
 walk_at"~#"
 refine Qh (k:=2) (ps:=["line","held"]) ?_ ?_ ?_ ?_ ?_ ?_ ?_ ?_;exact c_room_read
 walk_at"~+$#"
 exact Qk 7
 walk_at"~#"
 exact Qk 5
 walk_at"~%$2$$%%@)74A*"
 exact Qk 7
 walk_at"~&=/E0D#"
 refine Qh (k:=1) (ps:=["rooms","room"]) ?_ ?_ ?_ ?_ ?_ ?_ ?_ ?_;exact c_word_told
 walk_at"~+$#8#"
 refine Wx ?_ ?_ ?_
 walk_at"~A"
 exact Qk 5
 walk_at"~*"
 exact Qk 7
 walk_at"~&%$2$$%@)74A*"
 exact Qk 7
 walk_at"~&=/E08#;#*"
 exact Qk 7
 walk_at"~&#"
 refine Wx ?_ ?_ ?_
 walk_at"~A"
 exact Qk 5
 walk_at"~*"
 exact Qk 7
 walk_at"~&#"
 refine Wx ?_ ?_ ?_
 walk_at"~A"
 exact Qk 5
 walk_at"~*"
 exact Qk 7
 walk_at"~&#9"
 exact Qk 6
 walk_at"~&%%@/7"
 refine Qw Gm Ql ?_ ?_
 walk_at"~F"
 exact c_gives
 walk_at"~+$#"
 exact Qk 7
 walk_at"~%$2$$"
 exact Z0
 walk_at"~/"
 refine Qfw ?_ ?_ ?_ ?_ ?_
 walk_at"~A"
 exact Qk 5
 walk_at"~F"
 exact c_gives
 walk_at"~+$#"
 exact Qk 7
 walk_at"~%$2$$"
 refine Qh (k:=2) (ps:=["line","rooms","held"]) ?_ ?_ ?_ ?_ ?_ ?_ ?_ ?_;exact c_given_by
 walk_at"~+$#"
 exact Qk 7
 walk_at"~#8#"
 exact Qk 5
 walk_at"~%$2$$$@"
 exact fun _=>rfl
 walk_at"~/5;#8#>#D#"
 refine Y4 ?_ ?_ ?_ ?_
 walk_at"~$$"
 exact b_sorted;exact Qk 5
 walk_at"~%"
noncomputable def Vk:FM:=box frN Vd
noncomputable abbrev JZ:Stmt:=top 37
theorem Kz:FnScope ["script","k","cell","digits"] ["script","k"] (Qf JZ):=⟨rfl,rfl,rfl,by decide +kernel,rfl,by decide +kernel,by decide +kernel⟩
noncomputable def ZW:FM:=Qx 2
  (Qt (Q4 2 (mC (.int 0)))
  (Qt (Jq (Qm (Qe wLt (Qb 1) (mFn Vp (Qa (Qb 0) Qd)))) (Q4 2 (Qe wIx (Qb 0) (Qb 1))) QP)
  (Qt (Q4 3 (mC (.int 0)))
  (Qt (Jq (Qm (Qe wGe (Qb 2) (Qe Qjp (mC (.int 10)) (mC (.int 18))))) (Q4 3 (Qe UQ (Qb 2) (Qe Qjp (mC (.int 10)) (mC (.int 18))))) QP)
  (Zm (mFn GT (Qa (Qb 3) (Qa (Qe VJ (Qe QeB (Qe X6 (Qe QeB (Qb 2) (mC (.int 2147483647))) (mC (.int 48271))) (mC (.int 2147483647))) (Qb 1)) Qd))))))))
theorem WR(d:DefAt K mg "_law_feed" JZ ["script","k"])(b_len:mg "len"=none):Cal P w K mg base 1 "_law_feed" ["script","k"] ZW:=by
 refine Qs (k:=0) (more:=2) d Kz rfl fun _ _ _ _ _ _ _ hr=>?_;have nd_:=(Kz).nd
 walk_at"~:).<$6&$()7"
 refine Qw Wr Ql ?_ ?_
 walk_at"~13$"
 exact b_len
 walk_at"~#-%22$$/.<$6*-1$(@).<$6&$()7"
 refine Qw Qky Ql ?_ ?_
 walk_at"~8"
 refine ZU QeD Ql ?_ ?_
 walk_at"~&&/.<$6"
 refine ZU JG Ql ?_ ?_
 walk_at"~8"
 refine ZU QeD Ql ?_ ?_
 walk_at"~&&$(@/5"
 refine Vg ?_
 walk_at"~#>#9"
 refine ZU Kx Ql ?_ ?_;refine ZU Xd Ql ?_ ?_;refine ZU Kx Ql ?_ ?_
 walk_at"~8&&&1%"
noncomputable def ZG:FM:=box frR ZW
noncomputable abbrev Ke:Stmt:=top 22
theorem UI:FnScope ["spot","k"] ["spot","k"] (Qf Ke):=⟨rfl,rfl,rfl,by decide +kernel,rfl,by decide +kernel,by decide +kernel⟩
noncomputable def Ko:FM:=Qx 0
  (Zm (mFn Z1 (Qa (Qe wIx (Qb 0) (mC (.int 0))) (Qa (Qe wIx (Qb 0) (mC (.int 1))) (Qa (Qb 1) (Qa (mC (.bl false)) Qd))))))
theorem QbX(d:DefAt K mg "at_gap" Ke ["spot","k"]):Cal P w K mg base 1 "at_gap" ["spot","k"] Ko:=by
 refine Qs (k:=0) (more:=0) d UI rfl fun _ _ _ _ _ _ _ hr=>?_;have nd_:=(UI).nd
 walk_at"~:/5;#*-&#*-&#1#"
 exact Uz
 walk_at"~%"
noncomputable def ZN:FM:=box frN Ko
noncomputable abbrev Xi:Stmt:=top 23
theorem Wp:FnScope ["spot","k"] ["spot","k"] (Qf Xi):=⟨rfl,rfl,rfl,by decide +kernel,rfl,by decide +kernel,by decide +kernel⟩
noncomputable def XI:FM:=Qx 0
  (Zm (mFn Z1 (Qa (Qe wIx (Qb 0) (mC (.int 0))) (Qa (Qe wIx (Qb 0) (mC (.int 1))) (Qa (Qb 1) (Qa (mC (.bl true)) Qd))))))
theorem G5(d:DefAt K mg "at_head" Xi ["spot","k"]):Cal P w K mg base 1 "at_head" ["spot","k"] XI:=by
 refine Qs (k:=0) (more:=0) d Wp rfl fun _ _ _ _ _ _ _ hr=>?_;have nd_:=(Wp).nd
 walk_at"~:/5;#*-&#*-&#1#"
 exact Uz
 walk_at"~%"
noncomputable def Xc:FM:=box frN XI
noncomputable abbrev ZT:Stmt:=top 4
theorem V4:FnScope ["line"] ["line"] (Qf ZT):=⟨rfl,rfl,rfl,by decide +kernel,rfl,by decide +kernel,by decide +kernel⟩
noncomputable def QE:FM:=Qx 0
  (Qt (Jq (QdQ (Qm (Qe wEq (Qe wIx (Qb 0) (mC (.int 0))) (mC (.str "either")))) (Qm (Qe wEq (Qe wIx (Qb 0) (mC (.int 0))) (mC (.str "again"))))) (Zm (mC (.int 1))) QP)
  (Zm (mIf (Qm (Qe wEq (Qe wIx (Qb 0) (mC (.int 0))) (mC (.str "end")))) (mUn U9 (mC (.int 1))) (mC (.int 0)))))
theorem KY(d:DefAt K mg "level_change" ZT ["line"]):Cal P w K mg base 1 "level_change" ["line"] QE:=by
 refine Qs (k:=0) (more:=0) d V4 rfl fun _ _ _ _ _ _ _ hr=>?_;have nd_:=(V4).nd
 walk_at"~:)7"
 refine PMW.pt ?_;refine Wn ?_ ?_
 walk_at"~4A*-&="
 refine YK ?_
 walk_at"~4A*-&=/5&@/5"
 refine Gh ?_ ?_ ?_
 walk_at"~4A*-&="
 refine VI ?_
 walk_at"~&&"
noncomputable def Zb:FM:=box frN QE
noncomputable abbrev Xg:Stmt:=top 3
theorem Wj:FnScope ["lines","k","level","j"] ["lines","k"] (Qf Xg):=⟨rfl,rfl,rfl,by decide +kernel,rfl,by decide +kernel,by decide +kernel⟩
noncomputable abbrev KL:SM:=(Qt (QiD 2 Qcj (Qi 1 Zb (Qa (Qe wIx (Qb 0) (Qb 3)) Qd)))
  (Jq (Qm (Qe wEq (Qb 2) (mC (.int 1)))) (Zm (Qb 3)) QP))
noncomputable def XA:FM:=Qx 2
  (Qt (Q4 2 (mC (.int 0)))
  (Qt (K3 (QgQ (Qa (Qe UQ (Qb 1) (mC (.int 1))) (Qa (mUn U9 (mC (.int 1))) (Qa (mUn U9 (mC (.int 1))) Qd)))) (JM 3)
  KL)
  (Zm (mC .non))))
theorem GV(d:DefAt K mg "head_of" Xg ["lines","k"])(b_range:mg "range"=none)(c_level_change:Cal P w K mg base 1 "level_change" ["line"] Zb):Cal P w K mg base 2 "head_of" ["lines","k"] XA:=by
 refine Qs (k:=1) (more:=2) d Wj rfl fun _ _ _ _ _ _ _ hr=>?_;have nd_:=(Wj).nd
 walk_at"~:).<$6&$()"
 refine JI ?_ ?_ ?_ ?_ ?_ ?_;exact Ei
 walk_at"~$"
 refine Qgu ?_ ?_ ?_ ?_ ?_
 walk_at"~$"
 exact b_range
 walk_at"~#"
 refine ZU JG Ql ?_ ?_
 walk_at"~1&#"
 refine VI ?_
 walk_at"~&#"
 refine VI ?_
 walk_at"~&%$$"
 exact QA (i:=3) (x:="j") nd_ rfl (Or.inl rfl)
 walk_at"~)"
 refine Qaj ?_ ?_ ?_ Ul Ql ?_ ?_
 walk_at"~<$6F"
 exact c_level_change
 walk_at"~+$#*->%$2$$(/74A8&/5>@"
 exact fun _=>rfl
 walk_at"~/5"
 exact Z0
noncomputable def Vi:FM:=box frN XA
noncomputable abbrev ZP:Stmt:=top 5
theorem VO:FnScope ["lines","k","kind","level","j"] ["lines","k","kind"] (Qf ZP):=⟨rfl,rfl,rfl,by decide +kernel,rfl,by decide +kernel,by decide +kernel⟩
noncomputable abbrev Vl:SM:=(Qt (Jq (Xl (Qm (Qe wEq (Qb 3) (mC (.int 0)))) (Qm (Qe wEq (Qe wIx (Qe wIx (Qb 0) (Qb 4)) (mC (.int 0))) (Qb 2)))) (Zm (Qb 4)) QP)
  (QiD 3 Qcj (Qi 1 Zb (Qa (Qe wIx (Qb 0) (Qb 4)) Qd))))
noncomputable def Jo:FM:=Qx 2
  (Qt (Q4 3 (mC (.int 0)))
  (Qt (K3 (Qfn (Qa (Qe VJ (Qb 1) (mC (.int 1))) (Qa (mFn Vp (Qa (Qb 0) Qd)) Qd))) (JM 4)
  Vl)
  (Zm (mC .non))))
theorem KQ(d:DefAt K mg "found_behind" ZP ["lines","k","kind"])(b_len:mg "len"=none)(b_range:mg "range"=none)(c_level_change:Cal P w K mg base 1 "level_change" ["line"] Zb):Cal P w K mg base 2 "found_behind" ["lines","k","kind"] Jo:=by
 refine Qs (k:=1) (more:=2) d VO rfl fun _ _ _ _ _ _ _ hr=>?_;have nd_:=(VO).nd
 walk_at"~:).<$6&$()"
 refine JI ?_ ?_ ?_ ?_ ?_ ?_;exact Ei
 walk_at"~$"
 refine QgO ?_ ?_ ?_ ?_ ?_
 walk_at"~$"
 exact b_range
 walk_at"~#91&#3$"
 exact b_len
 walk_at"~#-%22$$%$$"
 exact QA (i:=4) (x:="j") nd_ rfl (Or.inl rfl)
 walk_at"~)7"
 refine PMW.pt ?_;refine Xz ?_ ?_
 walk_at"~4A>&"
 refine Xa ?_
 walk_at"~4A**-D&8/5D@/"
 refine Qaj ?_ ?_ ?_ Ul Ql ?_ ?_
 walk_at"~<$6F"
 exact c_level_change
 walk_at"~+$#*-D%$2$$("
 exact fun _=>rfl
 walk_at"~/5"
 exact Z0
noncomputable def QM:FM:=box frN Jo
noncomputable abbrev Yc:Stmt:=top 2
theorem Qbj:FnScope ["lines","k"] ["lines","k"] (Qf Yc):=⟨rfl,rfl,rfl,by decide +kernel,rfl,by decide +kernel,by decide +kernel⟩
noncomputable def YO:FM:=Qx 0
  (Zm (Qi 3 QM (Qa (Qb 0) (Qa (Qb 1) (Qa (mC (.str "or")) Qd)))))
theorem Qc4(d:DefAt K mg "or_of" Yc ["lines","k"])(c_found_behind:Cal P w K mg base 2 "found_behind" ["lines","k","kind"] QM):Cal P w K mg base 3 "or_of" ["lines","k"] YO:=by
 refine Qs (k:=2) (more:=0) d Qbj rfl fun _ _ _ _ _ _ _ hr=>?_;have nd_:=(Qbj).nd
 walk_at"~:/5"
 refine Qh (k:=2) (ps:=["lines","k","kind"]) ?_ ?_ ?_ ?_ ?_ ?_ ?_ ?_;exact c_found_behind
 walk_at"~+$#-#1#=%$2$$"
noncomputable def Yp:FM:=box frN YO
noncomputable abbrev X5:Stmt:=top 1
theorem UW:FnScope ["lines","k"] ["lines","k"] (Qf X5):=⟨rfl,rfl,rfl,by decide +kernel,rfl,by decide +kernel,by decide +kernel⟩
noncomputable def Kt:FM:=Qx 0
  (Zm (Qi 3 QM (Qa (Qb 0) (Qa (Qb 1) (Qa (mC (.str "end")) Qd)))))
theorem QbS(d:DefAt K mg "end_of" X5 ["lines","k"])(c_found_behind:Cal P w K mg base 2 "found_behind" ["lines","k","kind"] QM):Cal P w K mg base 3 "end_of" ["lines","k"] Kt:=by
 refine Qs (k:=2) (more:=0) d UW rfl fun _ _ _ _ _ _ _ hr=>?_;have nd_:=(UW).nd
 walk_at"~:/5"
 refine Qh (k:=2) (ps:=["lines","k","kind"]) ?_ ?_ ?_ ?_ ?_ ?_ ?_ ?_;exact c_found_behind
 walk_at"~+$#-#1#=%$2$$"
noncomputable def JK:FM:=box frN Kt
noncomputable abbrev ZJ:Stmt:=top 20
theorem VN:FnScope ["lines","spot","k","kind"] ["lines","spot"] (Qf ZJ):=⟨rfl,rfl,rfl,by decide +kernel,rfl,by decide +kernel,by decide +kernel⟩
noncomputable def QC:SM:=(Qt (Jq (Qm (Qe wEq (Qb 3) (mC (.str "either")))) (Zm (mFn KR (Qa (Qi 2 ZN (Qa (Qb 1) (Qa (Qe VJ (Qb 2) (mC (.int 1))) Qd))) (Qa (Qi 2 ZN (Qa (Qb 1) (Qa (Qe VJ (Qi 2 Yp (Qa (Qb 0) (Qa (Qb 2) Qd))) (mC (.int 1))) Qd))) Qd)))) QP)
  (Qt (Jq (Qm (Qe wEq (Qb 3) (mC (.str "or")))) (Zm (mFn KR (Qa (Qi 2 ZN (Qa (Qb 1) (Qa (Qe VJ (Qi 2 JK (Qa (Qb 0) (Qa (Qb 2) Qd))) (mC (.int 1))) Qd))) Qd))) QP)
  (Qt (Jq (Qm (Qe wEq (Qb 3) (mC (.str "again")))) (Zm (mFn KR (Qa (Qi 2 Xc (Qa (Qb 1) (Qa (Qb 2) Qd))) Qd))) QP)
  (Qt (Jq (Xl (Qm (Qe wEq (Qb 3) (mC (.str "end")))) (Qm (Qe wEq (Qe wIx (Qe wIx (Qb 0) (Qi 2 Vi (Qa (Qb 0) (Qa (Qb 2) Qd)))) (mC (.int 0))) (mC (.str "again"))))) (Zm (mFn KR (Qa (Qi 2 Xc (Qa (Qb 1) (Qa (Qi 2 Vi (Qa (Qb 0) (Qa (Qb 2) Qd))) Qd))) Qd))) QP)
  (Zm (mFn KR (Qa (Qi 2 ZN (Qa (Qb 1) (Qa (Qe VJ (Qb 2) (mC (.int 1))) Qd))) Qd)))))))
noncomputable def Q0:FM:=Qx 2
  (Qt (Q4 2 (Qe wIx (Qb 1) (mC (.int 2))))
  (Qt (Q4 3 (Qe wIx (Qe wIx (Qb 0) (Qb 2)) (mC (.int 0))))
  QC))
theorem KW(d:DefAt K mg "next_in_part" ZJ ["lines","spot"])(c_at_gap:Cal P w K mg base 1 "at_gap" ["spot","k"] ZN)(c_at_head:Cal P w K mg base 1 "at_head" ["spot","k"] Xc)(c_end_of:Cal P w K mg base 3 "end_of" ["lines","k"] JK)(c_head_of:Cal P w K mg base 2 "head_of" ["lines","k"] Vi)(c_or_of:Cal P w K mg base 3 "or_of" ["lines","k"] Yp):Cal P w K mg base 4 "next_in_part" ["lines","spot"] Q0:=by
 refine Qs (k:=3) (more:=2) d VN rfl fun _ _ _ _ _ _ _ hr=>?_;have nd_:=(VN).nd
 walk_at"~:).<$6*1&$().<$6**-8&$()74A>=/5"
 refine Zn ?_
 walk_at"~#B"
 exact c_at_gap
 walk_at"~+$#1#98&%$2$$#B"
 exact c_at_gap
 walk_at"~+$#1#9"
 refine Qh (k:=3) (ps:=["lines","k"]) ?_ ?_ ?_ ?_ ?_ ?_ ?_ ?_;exact c_or_of
 walk_at"~+$#-#8%$2$$&%$2$$%@)74A>=/5"
 refine Zn ?_
 walk_at"~#B"
 exact c_at_gap
 walk_at"~+$#1#9"
 refine Qh (k:=3) (ps:=["lines","k"]) ?_ ?_ ?_ ?_ ?_ ?_ ?_ ?_;exact c_end_of
 walk_at"~+$#-#8%$2$$&%$2$$%@)74A>=/5"
 refine Zn ?_
 walk_at"~#B"
 exact c_at_head
 walk_at"~+$#1#8%$2$$%@)7"
 refine PMW.pt ?_;refine Xz ?_ ?_
 walk_at"~4A>="
 refine Xa ?_
 walk_at"~4A**-"
 refine Qh (k:=2) (ps:=["lines","k"]) ?_ ?_ ?_ ?_ ?_ ?_ ?_ ?_;exact c_head_of
 walk_at"~+$#-#8%$2$$&=/5"
 refine Zn ?_
 walk_at"~#B"
 exact c_at_head
 walk_at"~+$#1#"
 refine Qh (k:=2) (ps:=["lines","k"]) ?_ ?_ ?_ ?_ ?_ ?_ ?_ ?_;exact c_head_of
 walk_at"~+$#-#8%$2$$%$2$$%@/5"
 refine Zn ?_
 walk_at"~#B"
 exact c_at_gap
 walk_at"~+$#1#98&%$2$$%"
noncomputable def ZI:FM:=box frN Q0
noncomputable abbrev J5:Stmt:=top 21
theorem KB:FnScope ["spot","way"] ["spot"] (Qf J5):=⟨rfl,rfl,rfl,by decide +kernel,rfl,by decide +kernel,by decide +kernel⟩
noncomputable def Jz:FM:=Qx 1
  (Qt (Q4 1 (Qe wIx (Qb 0) (mC (.int 0))))
  (Qt (Jq (Qes (Qia (Qb 1))) (Zm (mFn KR Qd)) QP)
  (Zm (mFn KR (Qa (mFn Z1 (Qa (mSl (Qb 1) Xy (XO (mUn U9 (mC (.int 1))))) (Qa (Qe wIx (Qe wIx (Qb 1) (mUn U9 (mC (.int 1)))) (mC (.int 0))) (Qa (Qe VJ (Qe wIx (Qe wIx (Qb 1) (mUn U9 (mC (.int 1)))) (mC (.int 1))) (mC (.int 1))) (Qa (mC (.bl false)) Qd))))) Qd)))))
theorem WX(d:DefAt K mg "behind_do" J5 ["spot"]):Cal P w K mg base 1 "behind_do" ["spot"] Jz:=by
 refine Qs (k:=0) (more:=1) d KB rfl fun _ _ _ _ _ _ _ hr=>?_;have nd_:=(KB).nd
 walk_at"~:).<$6*-&$()7"
 refine Qd3 ?_;refine WQ ?_
 walk_at"~1/5"
 refine Zn ?_
 walk_at"~%@/5"
 refine Zn ?_
 walk_at"~#;#"
 refine VF ?_ ?_ ?_
 walk_at"~1"
 exact Vt;refine Vu ?_;refine VI ?_
 walk_at"~&#**1"
 refine VI ?_
 walk_at"~&&#9**1"
 refine VI ?_
 walk_at"~&&&#"
 exact Uz
 walk_at"~%%"
noncomputable def JR:FM:=box frN Jz
noncomputable abbrev Jr:Stmt:=top 19
theorem XW:FnScope ["program","spot","lines","line","way"] ["program","spot"] (Qf Jr):=⟨rfl,rfl,rfl,by decide +kernel,rfl,by decide +kernel,by decide +kernel⟩
noncomputable def QK:FM:=Qx 3
  (Qt (Q4 2 (Qe wIx (Qe wIx (Qb 0) (Qe wIx (Qb 1) (mC (.int 1)))) (mC (.int 1))))
  (Qt (Jq (Qia (Qe wIx (Qb 1) (mC (.int 3)))) (Zm (mFn KR (Qa (Qi 2 ZN (Qa (Qb 1) (Qa (Qe VJ (Qi 2 JK (Qa (Qb 2) (Qa (Qe wIx (Qb 1) (mC (.int 2))) Qd))) (mC (.int 1))) Qd))) (Qa (Qi 2 ZN (Qa (Qb 1) (Qa (Qe VJ (Qe wIx (Qb 1) (mC (.int 2))) (mC (.int 1))) Qd))) Qd)))) QP)
  (Qt (Q4 3 (Qi 2 QD (Qa (Qb 0) (Qa (Qb 1) Qd))))
  (Qt (Jq (Qm (Qe wIs (Qb 3) (mC .non))) (Zm (Qi 1 JR (Qa (Qb 1) Qd))) QP)
  (Qt (Jq (Qm (Qe wEq (Qe wIx (Qb 3) (mC (.int 0))) (mC (.str "do")))) (Qt (Q4 4 (Qe VJ (Qe wIx (Qb 1) (mC (.int 0))) (mFn Z1 (Qa (mFn Z1 (Qa (Qe wIx (Qb 1) (mC (.int 1))) (Qa (Qe wIx (Qb 1) (mC (.int 2))) Qd))) Qd))))
  (Zm (mFn KR (Qa (mFn Z1 (Qa (Qb 4) (Qa (Qi 2 QB (Qa (Qb 0) (Qa (Qe wIx (Qb 3) (mC (.int 1))) Qd))) (Qa (mC (.int 0)) (Qa (mC (.bl false)) Qd))))) Qd)))) QP)
  (Zm (Qi 2 ZI (Qa (Qb 2) (Qa (Qb 1) Qd)))))))))
theorem We(d:DefAt K mg "next_spots" Jr ["program","spot"])(c_at_gap:Cal P w K mg base 1 "at_gap" ["spot","k"] ZN)(c_behind_do:Cal P w K mg base 1 "behind_do" ["spot"] JR)(c_end_of:Cal P w K mg base 3 "end_of" ["lines","k"] JK)(c_line_of:Cal P w K mg base 1 "line_of" ["program","spot"] QD)(c_next_in_part:Cal P w K mg base 4 "next_in_part" ["lines","spot"] ZI)(c_part_number:Cal P w K mg base 1 "part_number" ["program","name"] QB):Cal P w K mg base 5 "next_spots" ["program","spot"] QK:=by
 refine Qs (k:=4) (more:=3) d XW rfl fun _ _ _ _ _ _ _ hr=>?_;have nd_:=(XW).nd
 walk_at"~:).<$6**-*1&&$()7"
 refine WQ ?_
 walk_at"~*1&/5"
 refine Zn ?_
 walk_at"~#B"
 exact c_at_gap
 walk_at"~+$#1#9"
 refine Qh (k:=3) (ps:=["lines","k"]) ?_ ?_ ?_ ?_ ?_ ?_ ?_ ?_;exact c_end_of
 walk_at"~+$#8#*1&%$2$$&%$2$$#B"
 exact c_at_gap
 walk_at"~+$#1#9*1&&%$2$$%@).<$6"
 refine Qh (k:=1) (ps:=["program","spot"]) ?_ ?_ ?_ ?_ ?_ ?_ ?_ ?_;exact c_line_of
 walk_at"~+$#-#1%$2$$$()7"
 refine Qw Ws Ql ?_ ?_
 walk_at"~>"
 exact Z0
 walk_at"~/5"
 refine Qh (k:=1) (ps:=["spot"]) ?_ ?_ ?_ ?_ ?_ ?_ ?_ ?_;exact c_behind_do
 walk_at"~+$#1%$2$$@)74A*>&=).<$69*1&;#;#*1&#*1&%%$(/5"
 refine Zn ?_
 walk_at"~#;#D#"
 refine Qh (k:=1) (ps:=["program","name"]) ?_ ?_ ?_ ?_ ?_ ?_ ?_ ?_;exact c_part_number
 walk_at"~+$#-#*>&%$2$$#&#"
 exact Uz
 walk_at"~%%@/5"
 refine Qh (k:=4) (ps:=["lines","spot"]) ?_ ?_ ?_ ?_ ?_ ?_ ?_ ?_;exact c_next_in_part
 walk_at"~+$#8#1%$2$$"
noncomputable def Zf:FM:=box frN QK
noncomputable abbrev Js:Stmt:=top 17
theorem Kh:FnScope [] [] (Qf Js):=⟨rfl,rfl,rfl,by decide +kernel,rfl,by decide +kernel,by decide +kernel⟩
noncomputable def Va:FM:=Qx 0
  (Zm (mFn Z1 (Qa (mFn Z1 Qd) (Qa (mC (.int 0)) (Qa (mC (.int 0)) (Qa (mC (.bl false)) Qd))))))
theorem Y2(d:DefAt K mg "first_spot" Js []):Cal P w K mg base 1 "first_spot" [] Va:=by
 refine Qs (k:=0) (more:=0) d Kh rfl fun _ _ _ _ _ _ _ hr=>?_;have nd_:=(Kh).nd
 walk_at"~:/5;#;%#&#&#"
 exact Uz
 walk_at"~%"
noncomputable def VH:FM:=box frN Va
noncomputable abbrev Ka:Stmt:=top 35
theorem U2:FnScope ["program","choices","run","used","later"] ["program","choices"] (Qf Ka):=⟨rfl,rfl,rfl,by decide +kernel,rfl,by decide +kernel,by decide +kernel⟩
noncomputable abbrev Yt:SM:=(Qt (Jq (Qm (Qe wEq (mFn Vp (Qa (Qb 4) Qd)) (mC (.int 2)))) (Qt (ZQ (mMt "list" QL (Qb 2) (Qa (Qe wIx (Qb 4) (Qe wIx (Qb 1) (Qb 3))) Qd)))
  (QiD 3 Qcj (mC (.int 1)))) (ZQ (mMt "list" QL (Qb 2) (Qa (Qe wIx (Qb 4) (mC (.int 0))) Qd))))
  (Q4 4 (Qi 2 Zf (Qa (Qb 0) (Qa (Qe wIx (Qb 2) (mUn U9 (mC (.int 1)))) Qd)))))
noncomputable def Ks:FM:=Qx 3
  (Qt (Q4 2 (mFn GT (Qa (Qi 0 VH Qd) Qd)))
  (Qt (Q4 3 (mC (.int 0)))
  (Qt (Q4 4 (Qi 2 Zf (Qa (Qb 0) (Qa (Qe wIx (Qb 2) (mUn U9 (mC (.int 1)))) Qd))))
  (Qt (QQ (QdQ (Qm (Qe wEq (mFn Vp (Qa (Qb 4) Qd)) (mC (.int 1)))) (Xl (Qm (Qe wEq (mFn Vp (Qa (Qb 4) Qd)) (mC (.int 2)))) (Qm (Qe wLt (Qb 3) (mFn Vp (Qa (Qb 1) Qd)))))) Yt 20000000)
  (Zm (mFn Z1 (Qa (Qb 2) (Qa (Qb 3) Qd))))))))
theorem Qb8(d:DefAt K mg "run_by" Ka ["program","choices"])(b_len:mg "len"=none)(c_first_spot:Cal P w K mg base 1 "first_spot" [] VH)(c_next_spots:Cal P w K mg base 5 "next_spots" ["program","spot"] Zf):Cal P w K mg base 6 "run_by" ["program","choices"] Ks:=by
 refine Qs (k:=5) (more:=3) d U2 rfl fun _ _ _ _ _ _ _ hr=>?_;have nd_:=(U2).nd
 walk_at"~:).<$6"
 refine Vg ?_
 walk_at"~#"
 exact Qd6 c_first_spot (hr.mono (by decide)) rfl
 walk_at"~%$().<$6&$().<$6"
 refine Qh (k:=5) (ps:=["program","spot"]) ?_ ?_ ?_ ?_ ?_ ?_ ?_ ?_;exact c_next_spots
 walk_at"~+$#-#*8"
 refine VI ?_
 walk_at"~&%$2$$$()"
 refine YA 20000000 ?_ ?_ ?_;exact Ei;refine PMW.pt ?_;refine Wn ?_ ?_
 walk_at"~4A3$"
 exact b_len
 walk_at"~#D%22$$&"
 refine YK ?_;refine PMW.pt ?_;refine Xz ?_ ?_
 walk_at"~4A3$"
 exact b_len
 walk_at"~#D%22$$&"
 refine Xa ?_;refine Qw Wr Ql ?_ ?_
 walk_at"~>3$"
 exact b_len
 walk_at"~#1%22$$)74A3$"
 exact b_len
 walk_at"~#D%22$$&)E08#*D*1>%/"
 refine Qaj ?_ ?_ ?_ Ul Ql ?_ ?_
 walk_at"~<$6&(/E08#*D&%/.<$6"
 refine Qh (k:=5) (ps:=["program","spot"]) ?_ ?_ ?_ ?_ ?_ ?_ ?_ ?_;exact c_next_spots
 walk_at"~+$#-#*8"
 refine VI ?_
 walk_at"~&%$2$$$(/5;#8#>%"
noncomputable def Ve:FM:=box frN Ks
noncomputable abbrev Vx:Stmt:=top 47
theorem YT:FnScope ["found","rows"] ["found"] (Qf Vx):=⟨rfl,rfl,rfl,by decide +kernel,rfl,by decide +kernel,by decide +kernel⟩
noncomputable def VQ:FM:=Qx 1
  (Qt (Q4 1 (Zj VL (Ut (Qa (Qe wIx (Qb 0) (mC (.int 0))) Qd)) [none,none] (Wc [0,1]) Xm (mFn Z1 (Qa (Qe UQ (Qe wIx (Qb 1) (mC (.int 3))) (mC (.int 1))) (Qa (mC (.int 1)) (Qa (Qb 0) Qd))))))
  (Qt (Q4 1 (Qe VJ (Qb 1) (Zj VL (Zl (Qe wIx (Qb 0) (mC (.int 1)))) [none,none] (Wc [0,1]) Xm (mFn Z1 (Qa (Qb 0) (Qa (mC (.int 0)) (Qa (Qb 1) Qd)))))))
  (Zm (Zj VL (Zl (mFn Kv (Qa (Qb 1) Qd))) [none,none,none] (Wc [0,1,2]) Xm (mFn Z1 (Qa (Qb 1) (Qa (Qb 2) Qd)))))))
theorem UV(d:DefAt K mg "_law_row" Vx ["found"])(b_enumerate:mg "enumerate"=none)(b_sorted:mg "sorted"=none):Cal P w K mg base 1 "_law_row" ["found"] VQ:=by
 refine Qs (k:=0) (more:=1) d YT rfl fun _ _ _ _ _ _ _ hr=>?_;have nd_:=(YT).nd
 walk_at"~:)"
 refine GD nd_ rfl (Or.inl rfl) ?_ Z5 ?_ (Ji (Nb:=["number","room"]) (cp:=[none,none]) rfl (by decide +kernel) (by decide +kernel) rfl rfl) ?_ (fun _ _ _ _ _=>?_) (fun _ _ _ _ _=>?_) ?_ ?_
 walk_at"~($"
 refine Qeg ?_ ?_ ?_ ?_
 walk_at"~$"
 exact b_enumerate
 walk_at"~#*-&%$"
 refine Ye (is:=[0,1]) ?_ ?_ ?_ ?_
 walk_at"~$"
 refine ZR (i:=0) (x:="number") (show List.Nodup (["number","room"]:List Str)from by decide +kernel) rfl (Or.inl rfl) ?_ ?_;refine ZR (i:=1) (x:="room") (show List.Nodup (["number","room"]:List Str)from by decide +kernel) rfl (Or.inl rfl) ?_ ?_;exact Ym
 walk_at"~(($$;#"
 refine ZU JG Ql ?_ ?_
 walk_at"~*1&&#&#-%"
 exact fun _=>rfl
 walk_at"~$).<$691"
 refine Zv Z5 ?_ (Ji (Nb:=["step","number"]) (cp:=[none,none]) rfl (by decide +kernel) (by decide +kernel) rfl rfl) ?_ (fun _ _ _ _ _=>?_) (fun _ _ _ _ _=>?_)
 walk_at"~$"
 refine JL ?_
 walk_at"~*-&"
 refine Ye (is:=[0,1]) ?_ ?_ ?_ ?_
 walk_at"~$"
 refine ZR (i:=0) (x:="step") (show List.Nodup (["step","number"]:List Str)from by decide +kernel) rfl (Or.inl rfl) ?_ ?_;refine ZR (i:=1) (x:="number") (show List.Nodup (["step","number"]:List Str)from by decide +kernel) rfl (Or.inl rfl) ?_ ?_;exact Ym
 walk_at"~(($$;#-#&#1%$(/5"
 refine Zv Z5 ?_ (Ji (Nb:=["step","kind","number"]) (cp:=[none,none,none]) rfl (by decide +kernel) (by decide +kernel) rfl rfl) ?_ (fun _ _ _ _ _=>?_) (fun _ _ _ _ _=>?_)
 walk_at"~$"
 refine JL ?_;refine X8 (Qau ?_) Jt ?_ ?_ IT ?_ ?_ ?_ ?_ ?_
 walk_at"~A$"
 exact b_sorted
 walk_at"~#1%22$$"
 refine Ye (is:=[0,1,2]) ?_ ?_ ?_ ?_
 walk_at"~$"
 refine ZR (i:=0) (x:="step") (show List.Nodup (["step","kind","number"]:List Str)from by decide +kernel) rfl (Or.inl rfl) ?_ ?_;refine ZR (i:=1) (x:="kind") (show List.Nodup (["step","kind","number"]:List Str)from by decide +kernel) rfl (Or.inl rfl) ?_ ?_;refine ZR (i:=2) (x:="number") (show List.Nodup (["step","kind","number"]:List Str)from by decide +kernel) rfl (Or.inl rfl) ?_ ?_;exact Ym
 walk_at"~((($$;#1#8%"
noncomputable def Z2:FM:=box frN VQ
noncomputable abbrev JU:Stmt:=top 48
theorem KJ:FnScope ["held","other","there","box","number"] ["held","other"] (Qf JU):=⟨rfl,rfl,rfl,by decide +kernel,rfl,by decide +kernel,by decide +kernel⟩
noncomputable abbrev Xs:SM:=(Jq (Qm (Qe wNe (mMt "dict" Qe6 (Qb 2) (Qa (Qb 3) (Qa (mC .non) Qd))) (Qb 4))) (Zm (mC (.bl false))) QP)
noncomputable def Vr:FM:=Qx 3
  (Qt (Q4 2 (mFn KA (Qa (Qb 1) Qd)))
  (Qt (K3 (Zl (Qb 0)) (Wc [3,4])
  Xs)
  (Zm (Qe wLe (mFn Qga (Qa (Qb 2) Qd)) (mFn Vp (Qa (Qb 0) Qd))))))
theorem WT(d:DefAt K mg "_law_held" JU ["held","other"])(b_dict:mg "dict"=none)(b_len:mg "len"=none):Cal P w K mg base 1 "_law_held" ["held","other"] Vr:=by
 refine Qs (k:=0) (more:=3) d KJ rfl fun _ _ _ _ _ _ _ hr=>?_;have nd_:=(KJ).nd
 walk_at"~:).<$6"
 refine XY (Yy ?_) Jt ?_ ?_ Lq ?_ ?_ ?_ ?_ ?_
 walk_at"~$$"
 exact b_dict
 walk_at"~#1%22$$$()"
 refine JI ?_ ?_ ?_ ?_ ?_ ?_;exact Ei
 walk_at"~$"
 refine JL ?_
 walk_at"~-"
 refine Ye (is:=[3,4]) ?_ ?_ ?_ ?_
 walk_at"~$"
 refine ZR (i:=3) (x:="box") nd_ rfl (Or.inl rfl) ?_ ?_;refine ZR (i:=4) (x:="number") nd_ rfl (Or.inl rfl) ?_ ?_;exact Ym
 walk_at"~(($$/7"
 refine Qw (Qbp ?_) Ql ?_ ?_
 walk_at"~A"
 refine Qb3 IU Lw PySem.F.type_dict_get (QfY ?_) ?_ ?_
 walk_at"~A8#>#"
 exact Z0
 walk_at"~%D/5"
 exact Uz
 walk_at"~@"
 exact fun _=>rfl
 walk_at"~/5"
 refine Qli QjK Ql ?_ ?_;refine X8 QbY Jt ?_ ?_ Yaj ?_ ?_ ?_ ?_ ?_
 walk_at"~$"
 exact b_len
 walk_at"~#8%22$$3$"
 exact b_len
 walk_at"~#-%22$$"
noncomputable def JY:FM:=box frN Vr
noncomputable abbrev U1:Stmt:=top 49
theorem Qg6:FnScope ["script","k","program","choices","plain","mine","other"] ["script"] (Qf U1):=⟨rfl,rfl,rfl,by decide +kernel,rfl,by decide +kernel,by decide +kernel⟩
noncomputable abbrev Uv:SM:=(Qt (Q4 2 (Qi 2 XM (Qa (Qi 2 ZG (Qa (Qb 0) (Qa (Qb 1) Qd))) (Qa (mFn KR (Qa (mC (.int 3)) (Qa (mC (.int 3)) (Qa (mC (.int 5)) (Qa (mC (.int 8)) Qd))))) Qd))))
  (Qt (Q4 3 (Qi 1 JD (Qa (Qi 2 ZG (Qa (Qb 0) (Qa (Qe VJ (Qb 1) (mC (.int 1))) Qd))) Qd)))
  (Qt (Q4 4 (Qi 1 Uw (Qa (Qb 2) Qd)))
  (Qt (Q4 5 (Qi 2 Vk (Qa (Qb 2) (Qa (Qe wIx (Qi 2 Ve (Qa (Qb 2) (Qa (Qb 3) Qd))) (mC (.int 0))) Qd))))
  (Qt (Q4 6 (Qi 2 Vk (Qa (Qb 4) (Qa (Qe wIx (Qi 2 Ve (Qa (Qb 4) (Qa (Qb 3) Qd))) (mC (.int 0))) Qd))))
  (Qt (Jq (Qm (Qe wNe (Zj VL (Zl (Qe wIx (Qb 5) (mC (.int 0)))) [none] (JM 0) Xm (mSl (Qb 0) Xy (XO (mC (.int 3))))) (Zj VL (Zl (Qe wIx (Qb 6) (mC (.int 0)))) [none] (JM 0) Xm (mSl (Qb 0) Xy (XO (mC (.int 3))))))) (Zm (mC (.bl false))) QP)
  (Jq (QdQ (Qm (Qe wNe (Qi 1 Z2 (Qa (Qb 5) Qd)) (Qi 1 Z2 (Qa (Qb 6) Qd)))) (QdQ (Qm (Qe wNe (Qe wIx (Qb 5) (mC (.int 2))) (Qe wIx (Qb 6) (mC (.int 2))))) (Qes (Qia (Qi 2 JY (Qa (Qe wIx (Qb 5) (mC (.int 3))) (Qa (Qe wIx (Qb 6) (mC (.int 3))) Qd))))))) (Zm (mC (.bl false))) QP)))))))
noncomputable def Kr:FM:=Qx 6
  (Qt (K3 (QgQ (Qa (mC (.int 0)) (Qa (mFn Qjz (Qa (mC (.int 2)) (Qa (mFn QjI (Qa (mC (.int 8)) (Qa (mFn Vp (Qa (Qb 0) Qd)) Qd))) Qd))) (Qa (mC (.int 2)) Qd)))) (JM 1)
  Uv)
  (Zm (mC (.bl true))))
theorem Qih(d:DefAt K mg "law" U1 ["script"])(b_len:mg "len"=none)(b_max:mg "max"=none)(b_min:mg "min"=none)(b_range:mg "range"=none)(c__law_any:Cal P w K mg base 5 "_law_any" ["feed","bounds"] XM)(c__law_choices:Cal P w K mg base 2 "_law_choices" ["feed"] JD)(c__law_feed:Cal P w K mg base 1 "_law_feed" ["script","k"] ZG)(c__law_held:Cal P w K mg base 1 "_law_held" ["held","other"] JY)(c__law_row:Cal P w K mg base 1 "_law_row" ["found"] Z2)(c_flat:Cal P w K mg base 9 "flat" ["program"] Uw)(c_run_by:Cal P w K mg base 6 "run_by" ["program","choices"] Ve)(c_traced:Cal P w K mg base 3 "traced" ["program","run"] Vk):Cal P w K mg base 10 "law" ["script"] Kr:=by
 refine Qs (k:=9) (more:=6) d Qg6 rfl fun _ _ _ _ _ _ _ hr=>?_;have nd_:=(Qg6).nd
 walk_at"~:)"
 refine JI ?_ ?_ ?_ ?_ ?_ ?_;exact Ei
 walk_at"~$"
 refine Qgu ?_ ?_ ?_ ?_ ?_
 walk_at"~$"
 exact b_range
 walk_at"~#&#"
 refine X8 (Qcz ?_) Jt ?_ ?_ PyProof.Rows.boot_max ?_ ?_ ?_ ?_ ?_
 walk_at"~$$"
 exact b_max
 walk_at"~#&#"
 refine X8 (QcT ?_) Jt ?_ ?_ PyProof.Rows.boot_min ?_ ?_ ?_ ?_ ?_
 walk_at"~$$"
 exact b_min
 walk_at"~#&#3$"
 exact b_len
 walk_at"~#-%22$$%22$$%22$$#&%$$"
 exact QA (i:=1) (x:="k") nd_ rfl (Or.inl rfl)
 walk_at"~).<$6"
 refine Qh (k:=5) (ps:=["feed","bounds"]) ?_ ?_ ?_ ?_ ?_ ?_ ?_ ?_;exact c__law_any
 walk_at"~+$#"
 refine Qh (k:=1) (ps:=["script","k"]) ?_ ?_ ?_ ?_ ?_ ?_ ?_ ?_;exact c__law_feed
 walk_at"~+$#-#1%$2$$#"
 refine Zn ?_
 walk_at"~#&#&#&#&%%$2$$$().<$6"
 refine Qh (k:=2) (ps:=["feed"]) ?_ ?_ ?_ ?_ ?_ ?_ ?_ ?_;exact c__law_choices
 walk_at"~+$#"
 refine Qh (k:=1) (ps:=["script","k"]) ?_ ?_ ?_ ?_ ?_ ?_ ?_ ?_;exact c__law_feed
 walk_at"~+$#-#91&%$2$$%$2$$$().<$6"
 refine Qh (k:=9) (ps:=["program"]) ?_ ?_ ?_ ?_ ?_ ?_ ?_ ?_;exact c_flat
 walk_at"~+$#8%$2$$$().<$6"
 refine Qh (k:=3) (ps:=["program","run"]) ?_ ?_ ?_ ?_ ?_ ?_ ?_ ?_;exact c_traced
 walk_at"~+$#8#*"
 refine Qh (k:=6) (ps:=["program","choices"]) ?_ ?_ ?_ ?_ ?_ ?_ ?_ ?_;exact c_run_by
 walk_at"~+$#8#>%$2$$&%$2$$$().<$6"
 refine Qh (k:=3) (ps:=["program","run"]) ?_ ?_ ?_ ?_ ?_ ?_ ?_ ?_;exact c_traced
 walk_at"~+$#D#*"
 refine Qh (k:=6) (ps:=["program","choices"]) ?_ ?_ ?_ ?_ ?_ ?_ ?_ ?_;exact c_run_by
 walk_at"~+$#D#>%$2$$&%$2$$$()7"
 refine Qw (Qbp ?_) Ql ?_ ?_
 walk_at"~A"
 refine Zv Z5 ?_ (Ji (Nb:=["room"]) (cp:=[none]) rfl (by decide +kernel) (by decide +kernel) rfl rfl) ?_ (fun _ _ _ _ _=>?_) (fun _ _ _ _ _=>?_)
 walk_at"~$"
 refine JL ?_
 walk_at"~*"
 exact Qk 5
 walk_at"~&"
 exact QA (i:=0) (x:="room") (show List.Nodup (["room"]:List Str)from by decide +kernel) rfl (Or.inl rfl);refine VF ?_ ?_ ?_
 walk_at"~-"
 exact Vt;refine Vu ?_
 walk_at"~&"
 refine Zv Z5 ?_ (Ji (Nb:=["room"]) (cp:=[none]) rfl (by decide +kernel) (by decide +kernel) rfl rfl) ?_ (fun _ _ _ _ _=>?_) (fun _ _ _ _ _=>?_)
 walk_at"~$"
 refine JL ?_
 walk_at"~*"
 exact Qk 6
 walk_at"~&"
 exact QA (i:=0) (x:="room") (show List.Nodup (["room"]:List Str)from by decide +kernel) rfl (Or.inl rfl);refine VF ?_ ?_ ?_
 walk_at"~-"
 exact Vt;refine Vu ?_
 walk_at"~&/5"
 exact Uz
 walk_at"~@/7"
 refine PMW.pt ?_;refine Wn ?_ ?_;refine Qw (Qbp ?_) Ql ?_ ?_
 walk_at"~A"
 refine Qh (k:=1) (ps:=["found"]) ?_ ?_ ?_ ?_ ?_ ?_ ?_ ?_;exact c__law_row
 walk_at"~+$#"
 exact Qk 5
 walk_at"~%$2$$"
 refine Qh (k:=1) (ps:=["found"]) ?_ ?_ ?_ ?_ ?_ ?_ ?_ ?_;exact c__law_row
 walk_at"~+$#"
 exact Qk 6
 walk_at"~%$2$$"
 refine Wn ?_ ?_;refine Qw (Qbp ?_) Ql ?_ ?_
 walk_at"~A*"
 exact Qk 5
 walk_at"~&*"
 exact Qk 6
 walk_at"~&"
 refine YK ?_;refine Qd3 ?_;refine WQ ?_;refine Qh (k:=1) (ps:=["held","other"]) ?_ ?_ ?_ ?_ ?_ ?_ ?_ ?_;exact c__law_held
 walk_at"~+$#*"
 exact Qk 5
 walk_at"~&#*"
 exact Qk 6
 walk_at"~&%$2$$/5"
 exact Uz
 walk_at"~@"
 exact fun _=>rfl
 walk_at"~/5"
 exact Uz
end
theorem Qhi{P:Program}{w:World}{K:Nj}{b:Str->Option Value}{base:Heap}(ae:DefAt K b "_law_take" J6 ["feed","many"])(H:DefAt K b "_law_names" Zi ["feed","many"])(r:DefAt K b "_law_step_on" ZS ["lines","opened"])(G:DefAt K b "_law_plain" Jx ["feed","boxes","words"])(af:DefAt K b "_law_part" JW ["feed","size","menus","later","opens","dos"])(s:DefAt K b "_law_program" ZM ["feed","bounds"])(I:DefAt K b "_law_great" Zh ["feed"])(aw:DefAt K b "_law_any" VB ["feed","bounds"])(t:DefAt K b "_law_choices" QU ["feed"])(z:DefAt K b "part_number" Jd ["program","name"])(D:DefAt K b "flat_lines" Ze ["program","part"])(bn:DefAt K b "flat" Uc ["program"])(a2:DefAt K b "line_of" Xj ["program","spot"])(bf:DefAt K b "reads" Yb ["line"])(Y:DefAt K b "room_read" J7 ["line","held"])(bh:DefAt K b "gives" Yl ["line"])(Z:DefAt K b "letter_of" JX ["line"])(y:DefAt K b "room_within" Jf ["rooms","room","letter"])(ar:DefAt K b "given_by" VD ["line","rooms","held"])(ab:DefAt K b "all_lines" JV ["program"])(au:DefAt K b "boxes_in" Vy ["line"])(as:DefAt K b "boxes_of" Vw ["program"])(U:DefAt K b "word_told" J0 ["rooms","room"])(a9:DefAt K b "traced" Kg ["program","run"])(ai:DefAt K b "_law_feed" JZ ["script","k"])(bc:DefAt K b "at_gap" Ke ["spot","k"])(a4:DefAt K b "at_head" Xi ["spot","k"])(p:DefAt K b "level_change" ZT ["line"])(a3:DefAt K b "head_of" Xg ["lines","k"])(q:DefAt K b "found_behind" ZP ["lines","k","kind"])(bg:DefAt K b "or_of" Yc ["lines","k"])(bb:DefAt K b "end_of" X5 ["lines","k"])(o:DefAt K b "next_in_part" ZJ ["lines","spot"])(aa:DefAt K b "behind_do" J5 ["spot"])(C:DefAt K b "next_spots" Jr ["program","spot"])(E:DefAt K b "first_spot" Js [])(ba:DefAt K b "run_by" Ka ["program","choices"])(av:DefAt K b "_law_row" Vx ["found"])(ah:DefAt K b "_law_held" JU ["held","other"])(bq:DefAt K b "law" U1 ["script"])(a8:Glob K b "GIVING" Vh)(n:Glob K b "NOTHING_TOLD" Zc)(a7:b "dict"=none)(aq:b "enumerate"=none)(c:b "len"=none)(bp:b "list"=none)(bv:b "max"=none)(bu:b "min"=none)(a:b "range"=none)(bt:b "set"=none)(m:b "sorted"=none)(l:b "tuple"=none):Cal P w K b base 10 "law" ["script"] Kr:=by
 have c__law_take:=(W3 (P:=P) (w:=w) (base:=base) ae).box frN;have i:=(Y5 H a c__law_take).box frN;have f:=(KU (P:=P) (w:=w) (base:=base) r).box frN;have h:=(Y6 G c c__law_take).box frN;have j:=(UA af c a l h f c__law_take).box frN;have v:=(KP s c a l i j c__law_take).box frN;have O:=(Y8 I c a l i j h f c__law_take).box frN;have a1:=(U8 aw O v c__law_take).box frN;have x:=(KZ t a c__law_take).box frN;have g:=(YL (P:=P) (w:=w) (base:=base) z).box frN;have M:Cal P w K b base 8 "flat_lines" ["program","part"] ZX:=Y3 D l g;have bo:=(QfG bn M).box frN;have B:=(Qab (P:=P) (w:=w) (base:=base) a2 c).box frN;have bi:=(Qeo (P:=P) (w:=w) (base:=base) bf).box frN;have ak:=(W1 Y bi).box frN;have bm:=(Qed (P:=P) (w:=w) (base:=base) bh a8).box frN;have al:=(UD (P:=P) (w:=w) (base:=base) Z).box frN;have A:=(Yq (P:=P) (w:=w) (base:=base) y).box frN;have ax:=(Gn ar c al A).box frN;have an:=(Uu (P:=P) (w:=w) (base:=base) ab).box frN;have az:=(UT (P:=P) (w:=w) (base:=base) au bp).box frN;have ay:=(GA as bt m an az).box frN;have aj:=(W8 (P:=P) (w:=w) (base:=base) U n).box frN;have bd:=(QbI a9 a7 c a m ay ax bm B ak aj).box frN;have ap:=(WR (P:=P) (w:=w) (base:=base) ai c).box frR;have S:=(QbX (P:=P) (w:=w) (base:=base) bc).box frN;have a6:=(G5 (P:=P) (w:=w) (base:=base) a4).box frN;have d:=(KY (P:=P) (w:=w) (base:=base) p).box frN;have a5:=(GV a3 a d).box frN;have e:=(KQ q c a d).box frN;have bj:=(Qc4 bg e).box frN;have Q:=(QbS bb e).box frN;have u:=(KW o S a6 Q a5 bj).box frN;have am:=(WX (P:=P) (w:=w) (base:=base) aa).box frN;have L:=(We C S am Q B u g).box frN;have N:=(Y2 (P:=P) (w:=w) (base:=base) E).box frN;have be:=(Qb8 ba c N L).box frN;have a0:=(UV (P:=P) (w:=w) (base:=base) av aq m).box frN;have ao:=(WT (P:=P) (w:=w) (base:=base) ah a7 c).box frN;have br:Cal P w K b base 10 "law" ["script"] Kr:=Qih bq c bv bu a a1 x ap ao a0 bo be bd;exact br
noncomputable abbrev Ln:=List Str
noncomputable def Qn(l:Ln):W:=.tup (l.map .str)
noncomputable def Q5(xs:List Str):W:=.lst (xs.map .str)
noncomputable abbrev Pt:=Str×List Ln
noncomputable def Vq(p:Pt):W:=.tup [.str p.1,.tup (p.2.map Qn)]
noncomputable def Q3(p:List Pt):W:=.tup (p.map Vq)
structure Spt where
 way:List (Nat×Nat)
 part:Nat
 k:Nat
 head:Bool
noncomputable def K8(q:Nat×Nat):W:=.tup [.int q.1,.int q.2]
noncomputable def Q2(s:Spt):W:=.tup [.tup (s.way.map K8),.int s.part,.int s.k,.bl s.head]
theorem QaO:∀{ws:List W},(∀w∈ws,pln w=true)->K2 ws=true
 |[],_=>rfl
 |w::ws,h=>by unfold K2;rw[h w Ny,QaO fun x a=>h x (Nu _ a)];rfl
theorem QaT{n:Nat}:∀{ws:List W},(∀w∈ws,dep w<=n)->Qbl ws<=n
 |[],_=>NJ _
 |w::ws,h=>by unfold Qbl;exact Nat.max_le.mpr ⟨h w Ny,QaT fun x a=>h x (Nu _ a)⟩
theorem QZ{f:a->W}{xs:List a}(h:∀x,pln (f x)=true):K2 (xs.map f)=true:=QaO fun w hw=>by obtain⟨x,_,rfl⟩:=NT.mp hw;exact h x
theorem Ui{f:a->W}{xs:List a}(h:∀x,dep (f x)<=n):Qbl (xs.map f)<=n:=QaT fun w hw=>by obtain⟨x,_,rfl⟩:=NT.mp hw;exact h x
@[simp]theorem XX{xs:List Str}:K2 (xs.map .str)=true:=QZ fun _=>rfl
theorem WE{xs:List Str}:Qbl (xs.map .str)<=1:=Ui fun _=>Nw _
@[simp]theorem Qhr{l:Ln}:pln (Qn l)=true:=by unfold Qn pln;exact XX
@[simp]theorem QeV{xs:List Str}:pln (Q5 xs)=true:=by unfold Q5 pln;exact XX
@[simp]theorem Qi1{ls:List Ln}:K2 (ls.map Qn)=true:=QZ fun _=>Qhr
@[simp]theorem QmB{p:Pt}:pln (Vq p)=true:=by simp[Vq,pln,K2]
@[simp]theorem QeE{ps:List Pt}:K2 (ps.map Vq)=true:=QZ fun _=>QmB
@[simp]theorem Qni{ps:List Pt}:pln (Q3 ps)=true:=by unfold Q3 pln;exact QeE
@[simp]theorem Qny{q:Nat×Nat}:pln (K8 q)=true:=id rfl
theorem Qnd{q:Nat×Nat}:dep (K8 q)<=2:=Nw _
@[simp]theorem Qdj{qs:List (Nat×Nat)}:K2 (qs.map K8)=true:=QZ fun _=>Qny
theorem QiH{qs:List (Nat×Nat)}:Qbl (qs.map K8)<=2:=Ui fun _=>Qnd
@[simp]theorem QjU{s:Spt}:pln (Q2 s)=true:=by simp[Q2,pln,K2]
@[simp]theorem Qjf{ss:List Spt}:K2 (ss.map Q2)=true:=QZ fun _=>QjU
@[simp]theorem Qp8{l:Ln}:pur (Qn l)=true:=YX _ Qhr
@[simp]theorem Qmi{xs:List Str}:pur (Q5 xs)=true:=YX _ QeV
@[simp]theorem Qqz{ps:List Pt}:pur (Q3 ps)=true:=YX _ Qni
@[simp]theorem Qqg{s:Spt}:pur (Q2 s)=true:=YX _ QjU
@[simp]theorem Qfo{xs:List Str}:Zu (xs.map .str)=true:=QG _ XX
@[simp]theorem Qnq{ls:List Ln}:Zu (ls.map Qn)=true:=QG _ Qi1
@[simp]theorem Qnf{ls:List Pt}:Zu (ls.map Vq)=true:=QG _ QeE
@[simp]theorem Qi6{ss:List Spt}:Zu (ss.map Q2)=true:=QG _ Qjf
@[simp]theorem QqF{i:Int}:pur (.int i)=true:=id rfl
@[simp]theorem QpR{x:Str}:pur (.str x)=true:=id rfl
@[simp]theorem Qri{b:Bool}:pur (.bl b)=true:=id rfl
@[simp]theorem Qqi:pur .non=true:=id rfl
@[simp]theorem QpM{ws:List W}:pur (.tup ws)=Zu ws:=by unfold pur;rfl
@[simp]theorem QqM{ws:List W}:pur (.lst ws)=Zu ws:=by unfold pur;rfl
@[simp]theorem QpI{ws:List W}:pur (.frz ws)=Zu ws:=by unfold pur;rfl
@[simp]theorem Qpp:Zu []=true:=id rfl
@[simp]theorem Qeu{ws:List W}:Zu (w::ws)=(pur w&&Zu ws):=by rw[Zu]
@[simp]theorem Qpk{ws us:List W}:Zu (ws++us)=(Zu ws&&Zu us):=by
 induction ws with
 |nil=>simp
 |cons w ws a=>simp[a,Bool.and_assoc]
@[simp]theorem QjB{ns:List Int}:Zu (ns.map .int)=true:=by
 induction ns with
 |nil=>rfl
 |cons n ns a=>simp[a]
@[simp]theorem QoH{ws:List W}:QcY (.lst ws)=Zu ws:=id rfl
theorem KS{n:Nat}(h:n<=1000000):n<=sizeLine:=Nh h (by decide)
theorem Wa{n:Nat}(h:n<=1000000):n<sizeLine:=Nf h (by decide)
@[simp]theorem QoR:1<=sizeLine:=by decide
@[simp]theorem QoI:2<=sizeLine:=by decide
@[simp]theorem Qok:3<=sizeLine:=by decide
@[simp]theorem QpA:4<=sizeLine:=by decide
@[simp]theorem QoE:5<=sizeLine:=by decide
@[simp]theorem Qph:6<=sizeLine:=by decide
@[simp]theorem Qps:8<=sizeLine:=by decide
structure Fd where
 a:Int
 b:Int
 hb:0<=b/\b<1099511627776
noncomputable def Qu(f:Fd):MO:=.lst [.int f.a,.int f.b]
theorem Qaa{xs:List b}{i:Int}{P:b->Prop}{f:b->W}(e:0<=i)(d:i<xs.length)(c:∀x∈xs,P x):∃x,x∈xs/\P x/\atI (xs.map f) i=some (f x):=by
 obtain⟨n,rfl⟩:∃n:Nat,i=n:=⟨i.toNat,by exact(DM ‹_›).symm⟩
 have a:n<xs.length:=by lia
 exact⟨xs[n],Ez a,c _ (Ez a),by rw[QN,Nz,Nl a];rfl⟩
theorem Qft{f g:Fd}(e:Qu f=Qu g):f=g:=by
 obtain⟨a,b,d⟩:=f;obtain⟨i,h,c⟩:=g;simp[Qu]at e;obtain⟨rfl,rfl⟩:=e;rfl
def Qma(h:MH)(n:Nat):Prop:=∃f,h[n]?=some (Qu f)
open Classical in
noncomputable def Qdf(h:MH)(n:Nat):Fd:=if p:Qma h n then p.choose else⟨0,0,by decide⟩
theorem Qbw{n:Nat}(e:h[n]?=some (Qu f)):Qdf h n=f:=by
 have p:Qma h n:=⟨f,e⟩
 unfold Qdf;rw[dif_pos p];exact(Qft (N5 (e.symm.trans p.choose_spec))).symm
@[simp]theorem Qpc{f:Fd}:Qma (Qu f::h) 0:=⟨f,rfl⟩
@[simp]theorem Qoa{f:Fd}:Qdf (Qu f::h) 0=f:=Qbw rfl
theorem Qnk{b:List W}(d:pln a=true)(py:K2 b=true)(f:dep a<=40)(e:Qbl b<=40):wIn neg a (.lst b) h=some (.bl (if neg=true then !inW a b else inW a b),h):=by
 show((lsW h (.lst b)).bind fun b=>(drf h 40 a).bind fun x=>(Zo (drf h 40) b).map fun c=>(W.bl (if neg then !inW x c else inW x c),h))=_;simp only[lsW,Nv];rw[Kp h a 40 d f,V8 h b 40 py e];rfl
theorem QnR{b:List W}(d:pln a=true)(py:K2 b=true)(f:dep a<=40)(e:Qbl b<=40):wIn neg a (.tup b) h=some (.bl (if neg=true then !inW a b else inW a b),h):=by
 show((drf h 40 a).bind fun x=>(Zo (drf h 40) b).map fun c=>(W.bl (if neg then !inW x c else inW x c),h))=_;rw[Kp h a 40 d f,V8 h b 40 py e];rfl
@[simp]theorem QpV{i:Int}:wIn false (.int i) (.lst [.int 6,.int 7]) h=some (.bl (decide (i=6\/i=7)),h):=by
 rw[Qnk (by simp[pln]) (by simp[pln,K2]) (by simp[dep]) (by simp[dep,Qbl])]
 have:inW (.int i) [.int 6,.int 7]=decide (i=6\/i=7):=by
  simp only[inW,De,List.any_nil,eqW,LS];rw[Yaf];simp;lia
 simp[this]
@[simp]theorem Qm2{xs:List Str}:Vp [Q5 xs] h=some (.int xs.length,h):=by unfold Q5;simp
@[simp]theorem Qpm{xs:List Str}:wIx (Q5 xs) (.int i) h=@om _ _ (fun w=>(w,h)) (atI (xs.map .str) i):=by unfold Q5;simp
@[simp]theorem Qrf{xs:List a}:atI xs 2=xs[2]?:=QN (n:=2)
@[simp]theorem Qrg{xs:List a}:atI xs 3=xs[3]?:=QN (n:=3)
@[simp]theorem Qrk{xs:List a}:atI xs 4=xs[4]?:=QN (n:=4)
theorem VR{n j:Nat}(h:(Qr a n)[j]?=some w):j<n/\w=.int (a+j):=by
 have b:=(Ng.mp h).1;simp[Qr]at b;refine⟨b,?_⟩;unfold Qr at h;rw[Nz,Df b]at h;cases h;rfl
theorem QiI{a b:Char}(h:a.toNat=b.toNat):a=b:=by
 have:a.val=b.val:=by
  apply UInt32.toNat_inj.mp;exact h
 exact Char.ext this
theorem Yw:∀{a b:List Char},a.map Char.toNat=b.map Char.toNat->a=b
 |[],[],_=>rfl
 |[],_::_,h=>by simp at h
 |_::_,[],h=>by simp at h
 |x::a,y::b,h=>by
  simp only[NA,List.cons.injEq]at h;rw[QiI h.1,Yw h.2]
@[simp]theorem QnH{a b:String}:(Str.ofString a=Str.ofString b)↔a=b:=by
 constructor
 ·intro h;rw[Lr,Lr]at h;have c:=Yw (List.toArray_inj (Str.mk.inj h));exact String.toList_inj.mp c
 ·intro h;rw[h]
end My
namespace My3
inductive Cd where
 |ei|ag|oo|en|ot
 deriving DecidableEq
structure En where
 kd:Cd
 fs:Nat
 md:Nat
noncomputable def ch:Cd->Int
 |.ei=>1
 |.ag=>1
 |.en=>-1
 |_=>0
noncomputable def lev(ls:List Cd):Nat->Int
 |0=>0
 |k+1=>lev ls k+(match ls[k]? with|some c=>ch c|none=>0)
noncomputable def stp(k:Nat)(c:Cd)(st:List En):Option (List En):=match c with
 |.ei=>some (⟨.ei,k,0⟩::st)
 |.ag=>some (⟨.ag,k,0⟩::st)
 |.oo=>match st with
  |e::r=>if e.kd=.ei then some (⟨.oo,e.fs,k⟩::r)else none
  |[]=>none
 |.en=>match st with
  |e::r=>if e.kd=.ei then none else some r
  |[]=>none
 |.ot=>some st
theorem ZZ(e:ls[k]?=some c):lev ls (k+1)=lev ls k+ch c:=by
 simp only[lev,e]
structure Fit(ls:List Cd)(k t:Nat)(e:En):Prop where
 lt:e.fs<k
 at_:ls[e.fs]?=some .ei\/ls[e.fs]?=some .ag
 lv:lev ls (e.fs+1)+t=lev ls k
 ge:∀j,e.fs<j->j<=k->lev ls (e.fs+1)<=lev ls j
 kd:e.kd=.ei\/e.kd=.ag\/e.kd=.oo
 ei:e.kd=.ei->∀j,e.fs<j->j<k->lev ls j=lev ls (e.fs+1)->ls[j]?≠some .oo
 oo:e.kd=.oo->e.fs<e.md/\e.md<k/\ls[e.md]?=some .oo/\lev ls e.md=lev ls (e.fs+1)/\∀j,e.fs<j->j<e.md->lev ls j=lev ls (e.fs+1)->ls[j]?≠some .oo
noncomputable def Qis(ls:List Cd)(k:Nat):Nat->List En->Prop
 |_,[]=>True
 |t,e::r=>Fit ls k t e/\Qis ls k (t+1) r
structure Mat(ls:List Cd)(k:Nat)(e:En):Prop where
 fit:Fit ls k 0 e
 en:ls[k]?=some .en
 kd:e.kd=.ag\/e.kd=.oo
theorem Qgc{k t t':Nat}(l:ls[k]?=some c)(h:Fit ls k t e)(u:(t':Int)=t+ch c)(n:c=.oo->0<t):Fit ls (k+1) t' e:=by
 have v:=ZZ l;have o:=h.lv;have g:=h.lt;refine⟨by exact Nd g (Nm _ _),h.at_,by lia,fun j i r=>?_,h.kd,fun q j i r p=>?_,fun q=>?_⟩
 ·by_cases z:j<=k
  ·exact h.ge j i z
  ·have:j=k+1:=by lia
   subst this;lia
 ·by_cases z:j<k
  ·exact h.ei q j i z p
  ·have:j=k:=by lia
   subst this;rw[l];intro w;have m:c=.oo:=by simpa using w
   have:=n m;omega
 ·obtain⟨a,b,s,d,f⟩:=h.oo q;exact⟨a,by exact Nd b (Nm _ _),s,d,f⟩
theorem Vm(a:ls[k]?=some c):∀(r:List En) (t t':Nat),Qis ls k t r->(t':Int)=t+ch c->(c=.oo->0<t)->Qis ls (k+1) t' r
 |[],_,_,_,_,_=>True.intro
 |e::r,t,t',h,b,d=>⟨Qgc a h.1 b d,Vm a r (t+1) (t'+1) h.2 (by push_cast;lia) fun _=>by exact D5 _⟩
theorem Qfk{ls:List Cd}{k:Nat}{c:Cd}{st g:List En}(d:ls[k]?=some c)(h:Qis ls k 0 st)(e:stp k c st=some g):Qis ls (k+1) 0 g:=by
 have s:=ZZ d
 have new:∀f:Cd,(f=.ei\/f=.ag)->c=f->Fit ls (k+1) 0 ⟨f,k,0⟩:=fun f n e=>by
  refine⟨by simp,?_,by simp,fun j m t=>?_,by rcases n with z|z<;>simp[z],fun q j m t=>?_,fun q=>?_⟩
  ·rw[d,e];rcases n with z|z<;>simp[z]
  ·have o:k<j:=m;have:j=k+1:=by lia
   subst this;exact Ic _
  ·have o:k<j:=m;lia
  ·have p:f=.oo:=q
   rcases n with z|z<;>rw[z]at p<;>cases p
 cases c with
 |ei=>cases e;exact⟨new _ (.inl rfl) rfl,Vm d st 0 1 h (by simp[ch]) (by simp)⟩
 |ag=>cases e;exact⟨new _ (.inr rfl) rfl,Vm d st 0 1 h (by simp[ch]) (by simp)⟩
 |ot=>cases e;exact Vm d st 0 0 h (by simp[ch]) (by simp)
 | oo=>
  cases st with
  |nil=>cases e
  | cons a r=>
   simp only[stp]at e;split at e
   ·rename_i u;cases e;have l:=h.1;have b:=l.lv;have i:=l.lt;refine⟨⟨by show a.fs<k+1;exact Nd i (Nm _ _),l.at_,?_,fun j m t=>?_,.inr (.inr rfl),fun q=>(by cases q),fun _=>⟨i,N1 _,d,?_,l.ei u⟩⟩,Vm d r 1 1 h.2 (by simp[ch]) (by simp)⟩
    ·show lev ls (a.fs+1)+((0:Nat):Int)=lev ls (k+1);rw[s];simp[ch];simp at b;exact b
    ·by_cases z:j<=k
     ·exact l.ge j m z
     ·have:j=k+1:=by lia
      subst this;show lev ls (a.fs+1)<=_;rw[s];simp[ch];simp at b;exact D7 b
    ·show lev ls k=lev ls (a.fs+1);simp at b;exact b.symm
   ·cases e
 | en=>
  cases st with
  |nil=>cases e
  |cons a r=>
   simp only[stp]at e;split at e
   ·cases e
   ·cases e;exact Vm d _ 1 0 h.2 (by simp[ch]) (by simp)
theorem Qik(c:ls[k]?=some .en)(h:Qis ls k 0 (a::r))(e:stp k .en (a::r)=some b):Mat ls k a:=by
 simp only[stp]at e;split at e
 ·cases e
 ·rename_i d;refine⟨h.1,c,?_⟩
  rcases h.1.kd with z|z|z
  ·exact absurd z d
  ·exact .inl z
  ·exact .inr z
structure Beh(ls:List Cd)(k:Nat)(c:Cd)(j:Nat):Prop where
 lt:k<j
 at_:ls[j]?=some c
 lv:lev ls j=lev ls (k+1)
 no:∀i,k<i->i<j->lev ls i=lev ls (k+1)->ls[i]?≠some c
 ge:∀i,k<i->i<=j->lev ls (k+1)<=lev ls i
structure Ahd(ls:List Cd)(k j:Nat):Prop where
 lt:j<k
 lv:lev ls k=lev ls j+1
 no:∀i,j<i->i<k->lev ls k≠lev ls i+1
 ge:∀i,j<i->i<=k->lev ls k<=lev ls i
theorem Qjh(m:Mat ls k e):Beh ls e.fs .en k:=by
 have h:=m.fit;refine⟨h.lt,m.en,by have:=h.lv;simp at this;exact Le (D7 this.symm) (D7 this),fun i b a c q=>?_,h.ge⟩;have:=ZZ q;have g:=h.ge (i+1) (Nd b (Nm _ _)) a;simp[ch]at this;lia
theorem Qf5(m:Mat ls k e):Ahd ls k e.fs:=by
 have h:=m.fit;have a:=h.lv
 have f:lev ls (e.fs+1)=lev ls e.fs+1:=by
  rcases h.at_ with q|q<;>exact ZZ q
 refine⟨h.lt,by simp at a;lia,fun i c b d=>?_,fun i c b=>by have g:=h.ge i c b;simp at a;exact ED (D7 a.symm) g⟩;have g:=h.ge i c (Nn b);simp at a;lia
theorem QlP(m:Mat ls k e)(g:e.kd=.oo):Beh ls e.fs .oo e.md:=by
 obtain⟨a,b,c,d,f⟩:=m.fit.oo g;exact⟨a,c,d,f,fun i j h=>m.fit.ge i j (Nn (Nf h b))⟩
theorem QdR(m:Mat ls k e)(p:e.kd=.oo):Beh ls e.md .en k:=by
 obtain⟨a,b,c,d,f⟩:=m.fit.oo p;have h:=m.fit;have j:=h.lv;have o:=ZZ c;simp[ch]at o;simp at j;refine⟨b,m.en,by lia,fun i n l s q=>?_,fun i n l=>by have g:=h.ge i (NW a n) l;exact ED (ED (D7 o) (D7 d)) g⟩;have r:=ZZ q;have g:=h.ge (i+1) (Nd (NW a n) (Nm _ _)) l;simp[ch]at r;lia
end My3
namespace My4
open My3
noncomputable def pil(ls:List Cd):Nat->Option (List En)
 |0=>some []
 |k+1=>(pil ls k).bind fun st=>match ls[k]? with|some c=>stp k c st|none=>none
def Kd(ls:List Cd)(e:En):Prop:=(e.kd=.ag/\ls[e.fs]?=some .ag)\/((e.kd=.ei\/e.kd=.oo)/\ls[e.fs]?=some .ei)
theorem QaZ{l:List a}(h:l[t]?=some x):t<l.length:=(Ng.mp h).1
structure CI(ls:List Cd)(k:Nat)(p:List En):Prop where
 fits:Qis ls k 0 p
 kd:∀e∈p,Kd ls e
 op:∀j,j<k->(ls[j]?=some .ei\/ls[j]?=some .ag)->(∃e∈p,e.fs=j)\/∃m e,Mat ls m e/\Kd ls e/\e.fs=j
 oo:∀j,j<k->ls[j]?=some .oo->(∃e∈p,e.kd=.oo/\e.md=j)\/∃m e,Mat ls m e/\e.kd=.oo/\e.md=j
 en:∀j,j<k->ls[j]?=some .en->∃e,Mat ls j e
theorem Qdl{p g:List En}(h:CI ls k p)(l:ls[k]?=some c)(e:stp k c p=some g)(u:∀x∈g,Kd ls x)(h2:∀x∈p,(∃y∈g,y.fs=x.fs)\/Mat ls k x)(t:∀x∈p,x.kd=.oo->x∈g\/Mat ls k x)
  (s:(c=.ei\/c=.ag)->∃y∈g,y.fs=k) (r:c=.oo->∃y∈g,y.kd=.oo/\y.md=k) (n:c=.en->∃y,Mat ls k y):CI ls (k+1) g:=by
 have f:∀{j d},j<k+1->ls[j]?=some d->j<k\/(j=k/\c=d):=fun {j d} a b=>by
  rcases Oi (OD a)with z|z
  ·exact .inl z
  ·subst z;rw[l]at b;exact .inr ⟨rfl,by injection b⟩
 refine⟨Qfk l h.fits e,u,fun j a b=>?_,fun j a b=>?_,fun j a b=>?_⟩
 ·have:j<k\/(j=k/\(c=.ei\/c=.ag)):=by
   rcases b with b|b
   ·rcases f a b with z|z
    ·exact .inl z
    ·exact .inr ⟨z.1,.inl z.2⟩
   ·rcases f a b with z|z
    ·exact .inl z
    ·exact .inr ⟨z.1,.inr z.2⟩
  rcases this with z|⟨z,i⟩
  ·rcases h.op j z b with⟨x,m,rfl⟩|q
   ·rcases h2 x m with q|q
    ·exact .inl q
    ·exact .inr ⟨k,x,q,h.kd x m,rfl⟩
   ·exact .inr q
  ·rw[z];exact .inl (s i)
 ·rcases f a b with z|⟨z,i⟩
  ·rcases h.oo j z b with⟨x,m,o,rfl⟩|q
   ·rcases t x m o with q|q
    ·exact .inl ⟨x,q,o,rfl⟩
    ·exact .inr ⟨k,x,q,o,rfl⟩
   ·exact .inr q
  ·rw[z];exact .inl (r i)
 ·rcases f a b with z|⟨z,i⟩
  ·exact h.en j z b
  ·rw[z];exact n i
theorem QhZ{p g:List En}(h:CI ls k p)(f:ls[k]?=some c)(e:stp k c p=some g):CI ls (k+1) g:=by
 cases c with
 | ei=>
  refine Qdl h f e ?_ ?_ ?_ ?_ nofun nofun<;>cases e
  ·intro x b;rcases NH.mp b with rfl|b
   ·exact .inr ⟨.inl rfl,f⟩
   ·exact h.kd x b
  ·exact fun x b=>.inl ⟨x,Nu _ b,rfl⟩
  ·exact fun x b _=>.inl (Nu _ b)
  ·exact fun _=>⟨_,Ny,rfl⟩
 | ag=>
  refine Qdl h f e ?_ ?_ ?_ ?_ nofun nofun<;>cases e
  ·intro x b;rcases NH.mp b with rfl|b
   ·exact .inl ⟨rfl,f⟩
   ·exact h.kd x b
  ·exact fun x b=>.inl ⟨x,Nu _ b,rfl⟩
  ·exact fun x b _=>.inl (Nu _ b)
  ·exact fun _=>⟨_,Ny,rfl⟩
 |ot=>
  refine Qdl h f e ?_ ?_ ?_ (by simp) nofun nofun<;>cases e
  ·exact h.kd
  ·exact fun x b=>.inl ⟨x,b,rfl⟩
  ·exact fun x b _=>.inl b
 | oo=>
  cases p with
  |nil=>cases e
  | cons a r=>
   have d:=e;simp only[stp]at d;split at d
   ·rename_i i;refine Qdl h f e ?_ ?_ ?_ (by simp) ?_ nofun<;>cases d
    ·intro x b;rcases NH.mp b with rfl|b
     ·rcases h.kd a Ny with z|z
      ·rw[i]at z;cases z.1
      ·exact .inr ⟨.inr rfl,z.2⟩
     ·exact h.kd x (Nu _ b)
    ·intro x b;rcases NH.mp b with rfl|b
     ·exact .inl ⟨_,Ny,rfl⟩
     ·exact .inl ⟨x,Nu _ b,rfl⟩
    ·intro x b o;rcases NH.mp b with rfl|b
     ·rw[i]at o;cases o
     ·exact .inl (Nu _ b)
    ·exact fun _=>⟨_,Ny,rfl,rfl⟩
   ·cases d
 | en=>
  cases p with
  |nil=>cases e
  | cons a r=>
   have M:=Qik f h.fits e;have d:=e;simp only[stp]at d;split at d
   ·cases d
   ·refine Qdl h f e ?_ ?_ ?_ (by simp) nofun (fun _=>⟨a,M⟩)<;>cases d
    ·exact fun x b=>h.kd x (Nu _ b)
    ·intro x b;rcases NH.mp b with rfl|b
     ·exact .inr M
     ·exact .inl ⟨x,b,rfl⟩
    ·intro x b _;rcases NH.mp b with rfl|b
     ·exact .inr M
     ·exact .inl b
theorem Qgx:∀{k:Nat} {p:List En},pil ls k=some p->CI ls k p
 |0,p,e=>by cases e;exact⟨True.intro,nofun,nofun,nofun,nofun⟩
 |k+1,p,e=>by
  obtain⟨q,b,h2⟩:=Na.mp e;cases a:ls[k]? with
  |none=>rw[a]at h2;cases h2
  |some c=>rw[a]at h2;exact QhZ (Qgx b) a h2
def Bal(ls:List Cd):Prop:=pil ls ls.length=some []
structure Found(ls:List Cd):Prop where
 ei:∀j,ls[j]?=some .ei->∃md,Beh ls j .oo md
 ag:∀j,ls[j]?=some .ag->∃en,Beh ls j .en en
 oo:∀j,ls[j]?=some .oo->∃en,Beh ls j .en en
 en:∀j,ls[j]?=some .en->∃fs,Ahd ls j fs/\(ls[fs]?=some .ei\/ls[fs]?=some .ag)
theorem UL(h:Bal ls):Found ls:=by
 have c:=Qgx h;refine⟨fun j a=>?_,fun j a=>?_,fun j a=>?_,fun j a=>?_⟩
 ·rcases c.op j (QaZ a) (.inl a)with⟨_,m,_⟩|⟨m,e,M,b,rfl⟩
  ·simp at m
  ·rcases M.kd with q|q
   ·rcases b with z|z
    ·rw[a]at z;cases z.2
    ·rcases z.1 with z|z<;>rw[q]at z<;>cases z
   ·exact⟨_,QlP M q⟩
 ·rcases c.op j (QaZ a) (.inr a)with⟨_,m,_⟩|⟨m,e,M,b,rfl⟩
  ·simp at m
  ·exact⟨_,Qjh M⟩
 ·rcases c.oo j (QaZ a) a with⟨_,m,_⟩|⟨m,e,M,o,rfl⟩
  ·simp at m
  ·exact⟨_,QdR M o⟩
 ·obtain⟨e,M⟩:=c.en j (QaZ a) a;exact⟨_,Qf5 M,M.fit.at_⟩
noncomputable def kst:Cd->List Cd->Option (List Cd)
 |.ei,s=>some (.ei::s)
 |.ag,s=>some (.ag::s)
 |.oo,s=>match s with
  |e::r=>if e=.ei then some (.oo::r)else none
  |[]=>none
 |.en,s=>match s with
  |e::r=>if e=.ei then none else some r
  |[]=>none
 |.ot,s=>some s
noncomputable def Kc:List Cd->List Cd->Option (List Cd)
 |[],s=>some s
 |c::ls,s=>(kst c s).bind (Kc ls)
theorem X3:∀(ls a:List Cd) (s:List Cd),Kc (ls++a) s=(Kc ls s).bind (Kc a)
 |[],a,s=>rfl
 |c::ls,a,s=>by
  show(kst c s).bind (Kc (ls++a))=((kst c s).bind (Kc ls)).bind (Kc a);cases kst c s with
  |none=>rfl
  |some t=>exact X3 ls a t
theorem Zz(h:Kc ls s=some t)(k:kst c t=some u):Kc (ls++[c]) s=some u:=by
 rw[X3,h];show(kst c t).bind _=_;rw[k];rfl
theorem QhE{k:Nat}{c:Cd}{st:List En}:(stp k c st).map (List.map En.kd)=kst c (st.map En.kd):=by
 cases c with
 |ei=>rfl
 |ag=>rfl
 |ot=>rfl
 | oo=>
  cases st with
  |nil=>rfl
  |cons e r=>
   simp only[stp,kst,NA]
   by_cases h:e.kd=.ei<;>simp[h]
 | en=>
  cases st with
  |nil=>rfl
  |cons e r=>
   simp only[stp,kst,NA]
   by_cases h:e.kd=.ei<;>simp[h]
theorem Qa2:∀{k:Nat},k<=ls.length->(pil ls k).map (List.map En.kd)=Kc (ls.take k) []
 |0,_=>rfl
 | k+1,b=>by
  have a:k<ls.length:=by exact b
  have c:=Qa2 (ls:=ls) (k:=k) (Nn b);have d:ls.take (k+1)=ls.take k++[ls[k]]:=by rw[DI a]
  rw[d,X3,<-c];simp only[pil];rw[Nl a];cases pil ls k with
  |none=>rfl
  |some p=>
   show(stp k ls[k] p).map _=(kst ls[k] (p.map En.kd)).bind (Kc []);rw[<-QhE];cases stp k ls[k] p<;>rfl
theorem bal_iff:Bal ls↔Kc ls []=some []:=by
 have:=Qa2 (ls:=ls) (k:=ls.length) (Nw _);rw[DJ]at this;rw[<-this];unfold Bal;cases pil ls ls.length with
 |none=>simp
 |some p=>simp
end My4
namespace My
open L2 Mi My3 My4
theorem WM(f:Fd)(m:Int):∃p:Int×Fd,(0<m->0<=p.1/\p.1<m)/\(0<m->m<1000000->∀(h:MH) (n:Nat),h[n]?=some (Qu f)->Qc [.ref n,.int m] h=some (.int p.1,h.set n (Qu p.2))):=by
 obtain⟨a,b,j⟩:=f
 by_cases h:0<a
 ·refine⟨(a%m,⟨a/m,b,j⟩),fun c=>⟨Dt _ (IE c),DU _ c⟩,fun c i g n e=>ZD (o:=Qu ⟨a,b,j⟩) (g:=[]) (by simp) e (by simp[Qu]) ?_ rfl ⟨_,rfl,by simp⟩⟩;have d:m<1073741824:=by lia
  simp[Ju,Qx,h,c,d,Qu]
 ·refine⟨((b*69621+12345)%2147483647/8191%m,⟨a,(b*69621+12345)%2147483647,Dt _ (by decide),Int.lt_trans (DU _ (by decide)) (by decide)⟩),fun c=>⟨Dt _ (IE c),DU _ c⟩,fun c i g n e=>ZD (o:=Qu ⟨a,b,j⟩) (g:=[]) (by simp) e (by simp[Qu]) ?_ rfl ⟨_,rfl,by simp⟩⟩;have d:m<1073741824:=by omega
  simp[Ju,Qx,h,c,d,Qu]
noncomputable def tk(f:Fd)(m:Int):Int:=(Classical.choose (WM f m)).1
noncomputable def tf(f:Fd)(m:Int):Fd:=(Classical.choose (WM f m)).2
theorem Kn(a:0<m):0<=tk f m/\tk f m<m:=(FS (WM f m)).1 a
theorem Qfx(c:0<m)(a:m<1000000)(b:h[n]?=some (Qu f)):Qc [.ref n,.int m] h=some (.int (tk f m),h.set n (Qu (tf f m))):=(FS (WM f m)).2 c a h n b
@[simp]theorem VW(d:0<m)(a:m<1000000)(c:Qma h n):Qc [.ref n,.int m] h=some (.int (tk (Qdf h n) m),h.set n (Qu (tf (Qdf h n) m))):=by
 obtain⟨f,b⟩:=c;rw[Qbw b];exact Qfx d a b
noncomputable abbrev abc:Str:="abcdefghijklmnopqrstuvwxyz"
theorem Qay(x:Str)(n:Int):(rep x n).length=n.toNat*x.length:=by unfold rep Str.length;simp
theorem G6(x y:Str):(x++y).length=x.length+y.length:=by show(x.cps++y.cps).size=_;simp[Str.length]
theorem Qiw:abc.length=26:=by decide +kernel
noncomputable def ltr(i:Int):Str:=⟨#[97+i.toNat]⟩
theorem Qh9:abc.cps.toList=(List.range 26).map (97+·):=by decide +kernel
@[simp]theorem Qjc:(ltr i).length=1:=rfl
@[simp]theorem Qop(b:0<=i)(a:i<26):wIx (.str abc) (.int i) h=some (.str (ltr i),h):=by
 obtain⟨n,rfl⟩:∃n:Nat,i=n:=⟨i.toNat,by exact(DM ‹_›).symm⟩
 refine Qjg (by rw[Qiw];decide) ?_;rw[QN,Qh9,Nz,Df (by lia)];rfl
theorem V5(e:a σ h=some ([.int j],h'))(b:j<1000000):YD a σ h=some (Qr 0 j,none,h'):=by
 unfold YD;rw[e,Nv];exact(if_pos ⟨by lia,by lia⟩).trans (by simp)
theorem QH:(Qr a n).length=n:=by simp[Qr]
theorem GB:(Qr a n).map f=(List.range n).map fun(i:Nat)=>f (.int (a+i)):=by simp[Qr]
theorem Qn3(c:0<=i)(b:i<6):∃v:Int,(v=1\/v=3\/v=5\/v=7\/v=9\/v=11)/\atI [W.int 1,.int 3,.int 5,.int 7,.int 9,.int 11] i=some (.int v):=by
 obtain⟨x,_,a,e⟩:=Qaa (xs:=[(1:Int),3,5,7,9,11]) (f:=W.int) (P:=fun v=>v=1\/v=3\/v=5\/v=7\/v=9\/v=11) c b (by decide);exact⟨x,a,e⟩
theorem QmY(c:0<=i)(b:i<8):∃v:Int,1<=v/\v<=8/\atI [W.int 1,.int 3,.int 4,.int 5,.int 6,.int 7,.int 8,.int 1] i=some (.int v):=by
 obtain⟨x,_,a,e⟩:=Qaa (xs:=[(1:Int),3,4,5,6,7,8,1]) (f:=W.int) (P:=fun v=>1<=v/\v<=8) c b (by decide);exact⟨x,a.1,a.2,e⟩
theorem KI{l:List j}(h:∀a∈l,∀b∈l,f a=f b->a=b)(d:l.Nodup):(l.map f).Nodup:=by
 unfold List.Nodup;rw[Dy];exact IL (fun i g c e=>c (h _ i _ g e)) d
theorem WO{t st:Int}{a b:Nat}(d:st=1\/st=3\/st=5\/st=7\/st=9\/st=11)(f:a<5)(e:b<5)(h:((t+st*(0+(a:Int)))%26).toNat=((t+st*(0+(b:Int)))%26).toNat):a=b:=by
 rw[Ow,Ow]at h;have l:=Dt (t+st*a) (show(26:Int)≠0 by decide);have j:=Dt (t+st*b) (show(26:Int)≠0 by decide);have i:(t+st*a)%26=(t+st*b)%26:=by rw[<-DM l,<-DM j,h]
 have c:=Int.emod_eq_emod_iff_emod_sub_eq_zero.mp i;have g:t+st*a-(t+st*b)=st*((a:Int)-b):=by rw[Int.mul_sub];lia
 rw[g]at c;have key:∀a:Fin 5,∀b:Fin 5,∀st∈[(1:Int),3,5,7,9,11],st*((a.val:Int)-b.val)%26=0->a=b:=by decide
 exact Fin.mk.inj (key ⟨a,f⟩ ⟨b,e⟩ st (by simpa using d) c)
theorem Qig(h:a++ltr i++b=a++ltr j++b):i.toNat=j.toNat:=by
 have e:∀x y:Str,(x++y).cps.toList=x.cps.toList++y.cps.toList:=fun x y=>by show(x.cps++y.cps).toList=_;simp
 have c:=congrArg (fun s:Str=>s.cps.toList) h;simp only[e]at c;simp[ltr]at c;exact c
theorem Xh(f:Fd)(many:Nat)(i:many<=5):∃(ns:List Str) (Q:Fd),ns.length=many/\ns.Nodup/\∀(h:MH) (n:Nat),h[n]?=some (Qu f)->QI [.ref n,.int many] h=some (Q5 ns,h.set n (Qu Q)):=by
 obtain⟨C,B⟩:=Kn (f:=f) (m:=26) (by decide)
 by_cases A:tk (tf f 26) 3=0
 ·refine⟨(List.range many).map fun(k:Nat)=>rep (ltr (tk f 26)) ((0:Int)+k+1),tf (tf f 26) 3,by simp,KI (fun a _ b _ e=>?_) O1,fun h n s=>?_⟩
  ·have:=congrArg Str.length e;rw[Qay,Qay,Qjc]at this;lia
  ·refine ZD (o:=Qu f) (g:=[]) (by simp) s (by simp[Qu]) ?_ (by simp) ⟨_,rfl,by simp⟩
   have e:=JT (fin:=VL) (mi:=YD (Qa (Qb 1) Qd)) (cp:=[none,some 3]) (me:=Qe X6 (Qb 1) (Qe VJ (Qb 0) (mC (.int 1)))) (σ:=[some (.ref 0),some (.int many),some (.str abc),some (.str (ltr (tk f 26))),none,none,none,none,none]) (caps:=[some (.str (ltr (tk f 26)))]) (h:=[Qu (tf (tf f 26) 3)]) (items:=Qr 0 many)
    (fun w=>match w with|.int k=>.str (rep (ltr (tk f 26)) (k+1))|w=>w) (V5 (by simp) (Nf i (by decide))) ⟨_,rfl⟩ (fun w hw=>by
     obtain⟨k,t,rfl⟩:=NT.mp hw;simp at t;simp
     exact Qc7 ⟨by lia,by lia,by simp⟩) (by rw[QH];exact KS (Nn (Nf i (by decide))))
   simp[Jg,Qx,C,B,A,e,VL,Q5,GB]
 ·generalize u:tf (tf f 26) 3=f2;obtain⟨b0,b1⟩:=Kn (f:=f2) (m:=26) (by decide);obtain⟨c0,c1⟩:=Kn (f:=tf f2 26) (m:=6) (by decide);obtain⟨d0,d1⟩:=Kn (f:=tf (tf f2 26) 6) (m:=8) (by decide);obtain⟨st,q,U⟩:=Qn3 c0 c1;have s0:0<=st:=by lia
  have s1:st<=11:=by lia
  obtain⟨sz,z0,z1,S⟩:=QmY d0 d1;obtain⟨z,y⟩:=Kn (f:=tf (tf (tf f2 26) 6) 8) (m:=sz) (by lia);generalize r:tk (tf (tf (tf f2 26) 6) 8) sz=c at z y;generalize j:ltr (tk f 26)=fl;have d:fl.length=1:=by rw[<-j];rfl
  have I:∀n:Int,(rep fl n).length=n.toNat:=fun n=>by rw[Qay,d];exact Nat.add_comm _ _
  refine⟨(List.range many).map fun(k:Nat)=>rep fl c++ltr ((tk f2 26+st*(0+(k:Int)))%26)++rep fl (sz-1-c),tf (tf (tf (tf f2 26) 6) 8) sz,by simp,KI (fun a P b O e=>?_) O1,fun h n s=>?_⟩
  ·have:=Qig e;have x:=DZ.mp P;have v:=DZ.mp O;exact WO q (Nd x i) (Nd v i) this
  ·refine ZD (o:=Qu f) (g:=[]) (by simp) s (by simp[Qu]) ?_ (by simp) ⟨_,rfl,by simp⟩;have Z:X6 (.str fl) (.int (sz-1-c)) [Qu (tf (tf (tf (tf f2 26) 6) 8) sz)]=some (.str (rep fl (sz-1-c)),_):=Qc7 ⟨by lia,by lia,by exact Nf (Nt d) (by decide)⟩;have N:(0:Int)<sz:=by exact Ox z y
   have p:sz<1000000:=by lia
   simp[Jg,Qx,C,B,A,u,j,b0,b1,U,S,N,p,r,Z];rw[JT (items:=Qr 0 many) (caps:=[some (.str (rep fl (sz-1-c))),some (.str fl),some (.int c),some (.str abc),some (.int (tk f2 26)),some (.int st)]) (fun w=>match w with|.int k=>.str (rep fl c++ltr ((tk f2 26+st*k)%26)++rep fl (sz-1-c))|w=>w)]
   ·simp[VL,Q5,GB]
   ·exact V5 (by simp) (Nf i (by decide))
   ·exact⟨_,rfl⟩
   ·intro w hw;obtain⟨k,t,rfl⟩:=NT.mp hw;simp at t;have Y:X6 (.str fl) (.int c) [Qu (tf (tf (tf (tf f2 26) 6) 8) sz)]=some (.str (rep fl c),_):=Qc7 ⟨by lia,by lia,by exact Nf (Nt d) (by decide)⟩;have H:0<=(tk f2 26+st*(k:Int))%26:=Dt _ (by decide);have G:(tk f2 26+st*(k:Int))%26<26:=DU _ (by decide);have E:-18446744073709551616<st:=by lia
    have D:st<18446744073709551616:=by lia
    have M:c.toNat+1<=sizeLine:=KS (by lia);have L:c.toNat+1+(sz-1-c).toNat<=sizeLine:=KS (by lia);simp[Y,H,G,E,D,I,M,L,G6]
   ·rw[QH];exact KS (Nn (Nf i (by decide)))
inductive PlainL(bs ws:List Str):Ln->Prop where
 |pair {x w y z:Str} (hx:x∈bs) (hw:w∈ws) (hy:y∈bs) (hz:z∈bs):PlainL bs ws ["pair",x,w,y,z]
 |first {x y:Str} (hx:x∈bs) (hy:y∈bs):PlainL bs ws ["first",x,y]
 |second {x y:Str} (hx:x∈bs) (hy:y∈bs):PlainL bs ws ["second",x,y]
 |same {x y:Str} (hx:x∈bs) (hy:y∈bs):PlainL bs ws ["same",x,y]
 |none {x:Str} (hx:x∈bs):PlainL bs ws ["none",x]
 |tell {x:Str} (hx:x∈bs):PlainL bs ws ["tell",x]
theorem QcK{xs:List Str}{i:Int}(c:0<=i)(b:i<xs.length):∃x,x∈xs/\atI (xs.map W.str) i=some (.str x):=by
 obtain⟨x,a,_,e⟩:=Qaa (xs:=xs) (f:=W.str) (P:=fun _=>True) c b (fun _ _=>True.intro);exact⟨x,a,e⟩
theorem Yd(f:Fd)(bs ws:List Str)(t:0<bs.length)(p:bs.length<=5)(hw:0<ws.length)(e:ws.length<=5):∃(l:Ln) (D:Fd),PlainL bs ws l/\∀(h:MH) (n:Nat),h[n]?=some (Qu f)->QJ [.ref n,Q5 bs,Q5 ws] h=some (Qn l,h.set n (Qu D)):=by
 obtain⟨a0,a1⟩:=Kn (f:=f) (m:=10) (by decide);have b:(0:Int)<bs.length:=by lia
 have s:(bs.length:Int)<1000000:=by lia
 have r:(0:Int)<ws.length:=by lia
 have B:(ws.length:Int)<1000000:=by lia
 have Z:bs≠[]:=by intro z;rw[z]at t;simp at t
 have Y:ws≠[]:=by intro z;rw[z]at hw;simp at hw
 have U:bs.length<1000:=by exact Nf p (by decide)
 have S:ws.length<1000:=by exact Nf e (by decide)
 obtain⟨O,b1⟩:=Kn (f:=tf f 10) (m:=bs.length) b;obtain⟨x,a,ex⟩:=QcK O b1;obtain⟨c0,N⟩:=Kn (f:=tf (tf f 10) bs.length) (m:=bs.length) b;obtain⟨y,c,v⟩:=QcK c0 N
 by_cases u:tk f 10<4
 ·obtain⟨M,L⟩:=Kn (f:=tf (tf (tf f 10) bs.length) bs.length) (m:=bs.length) b;obtain⟨z,C,E⟩:=QcK M L;obtain⟨I,H⟩:=Kn (f:=tf (tf (tf (tf f 10) bs.length) bs.length) bs.length) (m:=ws.length) r;obtain⟨w,hw,G⟩:=QcK I H;refine⟨_,tf (tf (tf (tf (tf f 10) bs.length) bs.length) bs.length) ws.length,.pair a hw c C,fun h n j=>?_⟩;refine ZD (o:=Qu f) (g:=[]) (by simp) j (by simp[Qu]) ?_ (by simp) ⟨_,rfl,by simp⟩;simp[Z7,Qx,Q5,VW b s,VW r B,ex,v,E,G,u,Qn]
 ·have q:0<=tk f 10-4:=by lia
  obtain⟨l,_,d,A⟩:=Qaa (xs:=([["first",x,y],["second",x,y],["same",x,y],["none",x],["tell",y],["tell",x]]:List Ln)) (i:=tk f 10-4) (f:=Qn) (P:=PlainL bs ws) q (by show tk f 10-4<6;lia) (by
   intro l d;simp at d
   rcases d with rfl|rfl|rfl|rfl|rfl|rfl
   ·exact .first a c
   ·exact .second a c
   ·exact .same a c
   ·exact .none a
   ·exact .tell c
   ·exact .tell a)
  refine⟨l,tf (tf (tf f 10) bs.length) bs.length,d,fun h n j=>?_⟩;refine ZD (o:=Qu f) (g:=[]) (by simp) j (by simp[Qu]) ?_ (by simp) ⟨_,rfl,by simp⟩;simp[Qn]at A;simp[Z7,Qx,Q5,VW b s,ex,v,u,A,Qn]
noncomputable def cd(x:Str):Cd:=if x="either"then .ei else if x="again"then .ag else if x="or"then .oo else if x="end"then .en else .ot
noncomputable def cdL:Ln->Cd
 |[]=>.ot
 |x::_=>cd x
inductive LineOk(bs ws later:List Str):Ln->Prop where
 |plain {l:Ln} (h:PlainL bs ws l):LineOk bs ws later l
 |do {x:Str} (h:x∈later):LineOk bs ws later ["do",x]
 |blk {x:Str} (h:x="either"\/x="again"\/x="or"\/x="end"):LineOk bs ws later [x]
 |back {x:Str} (h:x∈ws):LineOk bs ws later ["back",x]
noncomputable abbrev orL:Ln:=["or"]
noncomputable abbrev Qjx:Ln:=["end"]
noncomputable def Vn:Ln->Bool
 |x::_=>x=="do"
 |[]=>false
noncomputable def dcn(ls:List Ln):Nat:=ls.countP Vn
theorem QaU(L:List Ln)(l:Ln):dcn (L++[l])=dcn L+(if Vn l=true then 1 else 0):=by simp[dcn,List.countP_append,Fc]
theorem Jm{L:List Ln}(h:Vn l=false):dcn (L++[l])=dcn L:=by rw[QaU,h];rfl
theorem Kf{bs ws:List Str}(h:PlainL bs ws l):Vn l=false:=by cases h<;>(show(_==_)=false)<;>decide
theorem Kj:cd "again"=.ag:=by decide
theorem QjG:cd "or"=.oo:=by decide
theorem U0:cd "end"=.en:=by decide
theorem K1{bs ws:List Str}(h:PlainL bs ws l):cdL l=.ot:=by cases h<;>(show cd _=.ot)<;>decide
@[simp]theorem Wk(hi:h[i]?=some (.lst us))(c:h[j]?=some (.lst vs))(b:Zu us=true)(a:Zu vs=true):Zo (UE h) [i,j]=some [.lst us,.lst vs]:=by
 simp[Zo,Qbc hi b,Qbc c a]
theorem Qd2{O:List Str}(d:L.length<=100000)(a:i≠j)(hi:h[i]?=some (.lst (L.map Qn)))(e:h[j]?=some (.lst ((O++[("either":Str)]).map .str))) :
  Qy [.ref i,.ref j] h=some (.non,(h.set i (.lst ((L++[orL]).map Qn))).set j (.lst ((O++[("or":Str)]).map .str))):=by
 refine Us (w:=.non) (as:=[.ref 0,.ref 1]) (ns:=[i,j]) (os:=[.lst (L.map Qn),.lst ((O++[("either":Str)]).map .str)]) (os':=[.lst ((L++[orL]).map Qn),.lst ((O++[("or":Str)]).map .str)]) (g:=[]) rfl (by simp[a]) (Wk hi e (by simp) (by simp)) ?_ rfl ?_ rfl
 ·have f:L.length<sizeLine:=Wa (Nn (Nf d (by decide)));simp[Zw,Qx,f,Qn]
 ·intro o b;simp at b
  rcases b with rfl|rfl
  ·exact⟨_,rfl,by simp⟩
  ·exact⟨_,rfl,by simp⟩
theorem QdB{O:List Str}{x:Str}(d:x≠"either")(e:L.length<=100000)(a:i≠j)(hi:h[i]?=some (.lst (L.map Qn)))(f:h[j]?=some (.lst ((O++[x]).map .str))) :
  Qy [.ref i,.ref j] h=some (.non,(h.set i (.lst ((L++[Qjx]).map Qn))).set j (.lst (O.map .str))):=by
 refine Us (w:=.non) (as:=[.ref 0,.ref 1]) (ns:=[i,j]) (os:=[.lst (L.map Qn),.lst ((O++[x]).map .str)]) (os':=[.lst ((L++[Qjx]).map Qn),.lst (O.map .str)]) (g:=[]) rfl (by simp[a]) (Wk hi f (by simp) (by simp)) ?_ rfl ?_ rfl
 ·have l:L.length<sizeLine:=Wa (Nn (Nf e (by decide)));simp[Zw,Qx,l,Qn,d]
 ·intro o b;simp at b
  rcases b with rfl|rfl
  ·exact⟨_,rfl,by simp⟩
  ·exact⟨_,rfl,by simp⟩
structure PI(bs ws later:List Str)(size d0:Int)(n:Nat)(σ:MSt)(h:MH):Prop where
 ex:∃(f:Fd) (L:List Ln) (O:List Str) (op ds:Int) (kk ww:Option W),σ=[some (.ref 0),some (.int size),some (.tup [Q5 bs,Q5 ws]),some (Q5 later),some (.int op),some (.int ds),some (.ref 1),some (.ref 2),kk,ww]/\h=[Qu f,.lst (L.map Qn),.lst (O.map .str)] /\
  (∀l∈L,LineOk bs ws later l)/\Kc (L.map cdL) []=some (O.reverse.map cd)/\(∀x∈O,x="either"\/x="again"\/x="or")/\L.length=n/\O.length<=n/\(dcn L:Int)+ds=d0/\0<=ds
theorem QfD(O:List Str)(h:O≠[]):∃r x,O=r++[x]:=⟨O.dropLast,O.getLast h,(ER h).symm⟩
theorem Uh{bs ws later:List Str}:LineOk bs ws later Qjx:=.blk (.inr (.inr (.inr rfl)))
theorem Qar{bs ws later:List Str}:LineOk bs ws later orL:=.blk (.inr (.inr (.inl rfl)))
theorem QW{P:a->Prop}{xs:List a}(h:∀y∈xs,P y)(c:P x):∀y∈xs++[x],P y:=fun y b=>by
 rcases N9.mp b with z|z
 ·exact h y z
 ·rw[NR.mp z];exact c
theorem QaD{P:Str->Prop}(h:∀z∈xs++[x],P z)(b:P y):∀z∈xs++[y],P z:=QW (fun z a=>h z (Et _ a)) b
theorem J4(O:List Str)(x:Str):(O++[x]).reverse.map cd=cd x::O.reverse.map cd:=by simp
theorem Zt(L:List Ln)(l:Ln):(L++[l]).map cdL=L.map cdL++[cdL l]:=by simp
theorem opk{x:Str}(h:x="either"\/x="again"\/x="or")(a:x≠"either"):cd x≠.ei:=by
 rcases h with rfl|rfl|rfl
 ·exact absurd rfl a
 ·decide
 ·decide
theorem Qdn{s:List Cd}(h:cd x≠.ei):kst .en (cd x::s)=some s:=by simp[kst,h]
noncomputable abbrev pS(bs ws later:List Str)(size op b:Int)(k:W)(a:Int):MSt:=[some (.ref 0),some (.int size),some (.tup [Q5 bs,Q5 ws]),some (Q5 later),some (.int op),some (.int b),some (.ref 1),some (.ref 2),some k,some (.int a)]
theorem Qdt{bs ws later:List Str}{σ:MSt}(hb:0<bs.length)(Y:bs.length<=5)(hw:0<ws.length)(Q:ws.length<=5)(aa:later.length<=5)(I:n<=1000)(H:PI bs ws later size d0 n σ h) :
  ∃t,JM 8 k σ h=some t/\∃σ2 h2,(Jc t h=some (.nx σ2 h2)\/Jc t h=some (.ct σ2 h2))/\PI bs ws later size d0 (n+1) σ2 h2:=by
 obtain⟨f,L,O,op,o,kk,ww,rfl,rfl,D,v,w,s,d,p,q⟩:=H.ex;refine⟨_,rfl,?_⟩;obtain⟨a0,a1⟩:=Kn (f:=f) (m:=14) (by decide);have u:L.length<sizeLine:=Wa (Nn (Nf (Nh (Nt s) I) (by decide)));have U:O.length<sizeLine:=Wa (Nn (Nf (Nh d I) (by decide)));generalize e:tk f 14=c at a0 a1;have G:∀h,Xl (Qm (Qe wLt (Qb 9) (mC (.int 3)))) (Qm (Qe wGt (Qb 4) (mC (.int 0)))) (pS bs ws later size op o k c) h=some (decide (c<3/\0<op),h):=fun h=>by by_cases a:c<3<;>simp[a]
 have N:∀f,Xl (Qm (Qe wLt (Qb 9) (mC (.int 6)))) (Qm (Qe wGt (mFn Vp (Qa (Qb 7) Qd)) (mC (.int 0)))) (pS bs ws later size op o k c) [Qu f,.lst (L.map Qn),.lst (O.map .str)]=some (decide (c<6/\0<O.length),[Qu f,.lst (L.map Qn),.lst (O.map .str)]):=fun h=>by by_cases a:c<6<;>simp[a]
 have Z:∀h,Xl (Qm (Qe (wIn false) (Qb 9) (mFn KR (Qa (mC (.int 6)) (Qa (mC (.int 7)) Qd))))) (Xl (Qm (Qe wGt (Qb 5) (mC (.int 0)))) (Qm (Qe wGt (mFn Vp (Qa (Qb 3) Qd)) (mC (.int 0))))) (pS bs ws later size op o k c) h=some (decide ((c=6\/c=7)/\0<o/\0<later.length),h):=fun h=>by
  by_cases a:c=6\/c=7
  ·by_cases b:0<o<;>simp[a,b]
  ·simp[a]
 by_cases E:c<3/\0<op
 ·obtain⟨x,_,g,ex⟩:=Qaa (xs:=([("either":Str),"again","either"])) (f:=W.str) (P:=fun x=>x="either"\/x="again") a0 (by show c<3;exact E.1) (by simp);simp at ex;refine⟨pS bs ws later size (op-1) o k c,[Qu (tf f 14),.lst ((L++[[x]]).map Qn),.lst ((O++[x]).map .str)],.inl ?_,⟨_,_,_,_,_,_,_,rfl,rfl,?_,?_,?_,?_,?_,?_,q⟩⟩
  ·simp[-Qbm,e,G,E,ex,U,u,Qn]
  ·exact QW D (.blk (by rcases g with rfl|rfl<;>simp))
  ·rw[Zt,J4];refine Zz v ?_
   rcases g with rfl|rfl
   ·rfl
   ·show kst (cd "again") _=_;rw[Kj];rfl
  ·exact QW w (by rcases g with z|z<;>simp[z])
  ·simp[s]
  ·simp;exact d
  ·rw[Jm (by rcases g with rfl|rfl<;>decide)];exact p
 ·by_cases h2:c<6/\0<O.length
  ·obtain⟨r,x,rfl⟩:=QfD O (by intro z;rw[z]at h2;simp at h2);rw[J4]at v
   have M:∃B A,((x="either"/\B=L++[orL]/\A=r++[("or":Str)])\/(x≠"either"/\B=L++[Qjx]/\A=r))/\Qy [.ref 1,.ref 2] [Qu (tf f 14),.lst (L.map Qn),.lst ((r++[x]).map .str)]=some (.non,[Qu (tf f 14),.lst (B.map Qn),.lst (A.map .str)]):=by
    by_cases g:x="either"
    ·subst g;exact⟨_,_,.inl ⟨rfl,rfl,rfl⟩,Qd2 (L:=L) (O:=r) (i:=1) (j:=2) (Nn (Nf (Nh (Nt s) I) (by decide))) (by decide) rfl rfl⟩
    ·exact⟨_,_,.inr ⟨g,rfl,rfl⟩,QdB (L:=L) (O:=r) (x:=x) (i:=1) (j:=2) g (Nn (Nf (Nh (Nt s) I) (by decide))) (by decide) rfl rfl⟩
   obtain⟨B,A,hc,M⟩:=M;refine⟨pS bs ws later size op o k c,[Qu (tf f 14),.lst (B.map Qn),.lst (A.map .str)],.inl ?_,⟨_,B,A,_,_,_,_,rfl,rfl,?_⟩⟩
   ·have ab:c<6/\0<r.length+1:=⟨h2.1,by exact D5 _⟩
    have C:=N (tf f 14);simp only[Eb,NA,IG]at M C;simp[-Qbm,e,G,E,C,h2.1,M]
   ·rcases hc with⟨rfl,rfl,rfl⟩|⟨g,rfl,rfl⟩
    ·refine⟨QW D Qar,?_,QaD w (by simp),by simp[s],by simp at d ⊢;exact Nn d,by rw[Jm (by decide)];exact p,q⟩;rw[Zt,J4];exact Zz v rfl
    ·refine⟨QW D Uh,?_,fun y hy=>w y (Et _ hy),by simp[s],by simp at d ⊢;exact Nn (Nd d (Nm _ _)),by rw[Jm (by decide)];exact p,q⟩;rw[Zt];refine Zz v ?_;show kst (cd "end") _=_;rw[U0];exact Qdn (opk (w x (by simp)) g)
  ·by_cases h3:(c=6\/c=7)/\0<o/\0<later.length
   ·have q1:(0:Int)<later.length:=by lia
    have q2:(later.length:Int)<1000000:=by lia
    obtain⟨b0,b1⟩:=Kn (f:=tf f 14) (m:=later.length) q1;obtain⟨x,g,ex⟩:=QcK b0 b1;refine⟨pS bs ws later size op (o-1) k c,[Qu (tf (tf f 14) later.length),.lst ((L++[(["do",x]:Ln)]).map Qn),.lst (O.map .str)],.inl ?_,⟨_,_,_,_,_,_,_,rfl,rfl,?_,?_,w,?_,?_,?_,by lia⟩⟩
    ·simp[-Qbm,e,G,E,N,h2,Z,h3,u,Qn,VW q1 q2,ex]
    ·exact QW D (.do g)
    ·rw[Zt];exact Zz v (by show kst (cd "do") _=_;rw[show cd "do"=.ot by decide];rfl)
    ·simp[s]
    ·exact Nh d (Nm _ _)
    ·rw[QaU,if_pos (by show(_==_)=true;decide)];lia
   ·obtain⟨l,f',S,ep⟩:=Yd (tf f 14) bs ws hb Y hw Q;refine⟨pS bs ws later size op o k c,[Qu f',.lst ((L++[l]).map Qn),.lst (O.map .str)],.inl ?_,⟨_,_,_,_,_,_,_,rfl,rfl,?_,?_,w,?_,?_,?_,q⟩⟩
    ·simp[-Qbm,e,G,E,N,h2,Z,h3,u,ep]
    ·exact QW D (.plain S)
    ·rw[Zt];exact Zz v (by rw[K1 S];rfl)
    ·simp[s]
    ·exact Nh d (Nm _ _)
    ·rw[Jm (Kf S)];exact p
noncomputable def wt(O:List Str):Nat:=(O.map fun(x:Str)=>if x="either"then 2 else 1).sum
theorem XC(O:List Str)(x:Str):wt (O++[x])=wt O+(if x="either"then 2 else 1):=by simp[wt]
theorem QiA(O:List Str):wt O<=2*O.length:=by
 induction O with
 |nil=>simp[wt]
 |cons x O a=>simp only[wt,NA,DP,NP]at a ⊢;split<;>lia
theorem QgV(O:List Str)(h:O≠[]):0<wt O:=by
 obtain⟨r,x,rfl⟩:=QfD O h;rw[XC];split<;>lia
theorem QdN(g:List Ln->List Str->MH)(bound:Nat)(f:i≠j)(H:bound<=90000)
  (C:∀L O,(g L O)[i]?=some (.lst (L.map Qn))) (B:∀L O,(g L O)[j]?=some (.lst (O.map .str))) (A:∀L O b p,((g L O).set i (.lst (b.map Qn))).set j (.lst (p.map .str))=g b p)
  (v:∀L O,t σ (g L O)=some (decide (0<O.length),g L O)) (z:∀L O w h,Qy [.ref i,.ref j] (g L O)=some (w,h)->body σ (g L O)=some (.nx σ h))
  (L:List Ln) (O:List Str) (M:∀l∈L,LineOk bs ws later l) (G:Kc (L.map cdL) []=some (O.reverse.map cd)) (I:∀x∈O,x="either"\/x="again"\/x="or") (E:L.length+wt O<=bound) :
  ∃b,(∀l∈b,LineOk bs ws later l)/\Bal (b.map cdL)/\b.length<=bound/\dcn b=dcn L/\QQ t body 1000000 σ (g L O)=some (.nx σ (g b [])):=by
 have key:=Yz (t:=t) (body:=body) (fun n a h=>a=σ/\∃L1 O,dcn L1=dcn L/\h=g L1 O/\n=wt O/\(∀l∈L1,LineOk bs ws later l)/\Kc (L1.map cdL) []=some (O.reverse.map cd)/\(∀x∈O,x="either"\/x="again"\/x="or")/\L1.length+wt O<=bound) (wt O) 1000000 σ (g L O) (by lia) ⟨rfl,L,O,rfl,rfl,rfl,M,G,I,E⟩ ?_
 ·obtain⟨a,N,e,rfl,b,p,c,rfl,hw,u,o,s,m⟩:=key
  have:p=[]:=by
   cases p with
   |nil=>rfl
   |cons x r=>have:=QgV (x::r) (by simp);lia
  subst this;exact⟨b,u,bal_iff.mpr o,by exact Nh (Nm _ _) m,c,e⟩
 ·rintro n a h ⟨rfl,L1,O,c,rfl,rfl,u,o,s,m⟩
  by_cases d:O=[]
  ·subst d;exact .inl ⟨by rw[v];rfl,rfl⟩
  ·refine .inr ⟨by rw[v,decide_eq_true (EX.mpr d)],?_⟩;obtain⟨r,x,rfl⟩:=QfD O d;rw[J4]at o;rw[XC]at m ⊢
   by_cases q:x="either"
   ·subst q;rw[if_pos rfl]at m ⊢;refine⟨wt (r++[("or":Str)]),a,g (L1++[orL]) (r++[("or":Str)]),?_,.inl ?_,rfl,_,_,(Jm (by decide)).trans c,rfl,rfl,QW u Qar,?_,QaD s (by simp),?_⟩
    ·rw[XC,if_neg (by decide)];exact NO (by decide) _
    ·refine z _ _ .non _ ?_;rw[Qd2 (L:=L1) (O:=r) (by lia) f (C _ _) (B _ _),A]
    ·rw[Zt,J4];exact Zz o rfl
    ·rw[XC,if_neg (by decide)];simp;lia
   ·rw[if_neg q]at m ⊢;refine⟨wt r,a,g (L1++[Qjx]) r,by exact N1 _,.inl ?_,rfl,_,_,(Jm (by decide)).trans c,rfl,rfl,QW u Uh,?_,fun y D=>s y (Et _ D),?_⟩
    ·refine z _ _ .non _ ?_;rw[QdB (L:=L1) (O:=r) q (by lia) f (C _ _) (B _ _),A]
    ·rw[Zt];refine Zz o ?_;show kst (cd "end") _=_;rw[U0];exact Qdn (opk (s x (by simp)) q)
    ·simp;lia
theorem G3(f:Fd)(size:Nat)(bs ws later:List Str)(op a:Int)(r:0<=a)(C:size<=100)(P:0<bs.length)(u:bs.length<=5)(hw:0<ws.length)(m:ws.length<=5)(q:later.length<=5) :
  ∃(ls:List Ln) (f':Fd),Bal (ls.map cdL)/\(∀l∈ls,LineOk bs ws later l)/\ls.length<=3*size/\(dcn ls:Int)<=a/\∀(h:MH) (n:Nat),h[n]?=some (Qu f)->Za [.ref n,.int size,.tup [Q5 bs,Q5 ws],Q5 later,.int op,.int a] h=some (.tup (ls.map Qn),h.set n (Qu f')):=by
 have c:=J9 (items:=Qr 0 size) (b:=JM 8) (body:=Jc) (PI bs ws later size a) (Qr 0 size) 0 [some (.ref 0),some (.int size),some (.tup [Q5 bs,Q5 ws]),some (Q5 later),some (.int op),some (.int a),some (.ref 1),some (.ref 2),none,none] [Qu f,.lst [],.lst []]
  ⟨f,[],[],op,a,none,none,rfl,rfl,by simp,rfl,by simp,rfl,Nw _,by simp[dcn],r⟩ (fun j w I z h H=>Qdt P u hw m q (by have:=(Ng.mp I).1;rw[QH]at this;lia) H)
 obtain⟨y,h',e1,H⟩:=c;obtain⟨f1,L,O,d,v,B,A,rfl,rfl,S,G,Q,E,p,M,N⟩:=H.ex;rw[QH,NX]at E p
 have cl:=QdN (bs:=bs) (ws:=ws) (later:=later) (i:=1) (j:=2) (t:=Qm (Qe wGt (mFn Vp (Qa (Qb 7) Qd)) (mC (.int 0)))) (body:=Xt) (σ:=[some (.ref 0),some (.int size),some (.tup [Q5 bs,Q5 ws]),some (Q5 later),some (.int d),some (.int v),some (.ref 1),some (.ref 2),B,A])
  (fun L O=>[Qu f1,.lst (L.map Qn),.lst (O.map .str)]) (3*size) (by decide) (by lia) (fun _ _=>rfl) (fun _ _=>rfl) (fun _ _ _ _=>rfl) (fun L O=>by simp) (fun L O w h e=>by simp[e]) L O S G Q (by have:=QiA O;lia)
 obtain⟨x,Z,Y,U,s,e2⟩:=cl;refine⟨x,f1,Y,Z,U,by rw[s];lia,fun h n D=>?_⟩;refine ZD (o:=Qu f) (g:=[.lst (x.map Qn),.lst []]) (by simp) D (by simp[Qu]) ?_ (by simp) ⟨_,rfl,by simp⟩;have er:YD (Qa (Qb 1) Qd) [some (.ref 0),some (.int size),some (.tup [Q5 bs,Q5 ws]),some (Q5 later),some (.int op),some (.int a),some (.ref 1),some (.ref 2),none,none] [Qu f,.lst [],.lst []]=some (Qr 0 size,none,[Qu f,.lst [],.lst []]):=V5 (by simp) (Nf C (by decide));simp[VG,Qx,K3,er,e1,e2]
noncomputable abbrev Qgz(i:Nat):Nat:=if i=0 then 23 else 1
def Qj2(p:List Pt):Prop:=(∀x,p[0]?=some x->dcn x.2<=2)\/∀i x,p[i+1]?=some x->dcn x.2=0
structure GoodP(N:Nat)(bs ws:List Str)(p:List Pt):Prop where
 ne:p≠[]
 len:p.length<=5
 bal:∀x∈p,Bal (x.2.map cdL)
 sz:∀x∈p,x.2.length<=N
 ok:∀(i:Nat) (x:Pt),p[i]?=some x->∀l∈x.2,LineOk bs ws ((p.map (·.1)).drop (i+1)) l
 nd:(p.map (·.1)).Nodup
 dos:∀(i:Nat) (x:Pt),p[i]?=some x->dcn x.2<=Qgz i
theorem QeQ(xs:List a)(k:Nat):Qai xs (some (k:Int)) none=xs.drop k:=by
 unfold Qai;rw[HT.sIx_nat,HT.sIx_none]
 by_cases h:k<=xs.length
 ·rw[Ds h,Dh (by simp)]
 ·rw[O2 (Nn (DS.mp h)),Ee (Nw _),Ee (Nn (DS.mp h))];simp
theorem QgH{k:Nat}(a:i=k):wSl (Q5 ns) (some i) none h=some (Q5 (ns.drop k),h):=by
 subst a;unfold Q5;simp[QeQ,List.map_drop]
@[simp]theorem QmT:wSl (Q5 ns) (some 1) none h=some (Q5 (ns.drop 1),h):=QgH (k:=1) rfl
theorem Qda{i:Int}(h:0<=i):∃n:Nat,i=n:=⟨i.toNat,by exact(DM ‹_›).symm⟩
theorem QfV(e:a σ h=some ([.int 1,.int j],h'))(b:j<100000000):Qfn a σ h=some (Qr 1 (j-1),none,h'):=by
 unfold Qfn;rw[e,Nv];refine(if_pos ⟨by exact by decide,by exact by decide,by lia,by lia⟩).trans ?_;rw[show((j:Int)-1).toNat=j-1 by lia]
structure PP(N:Nat)(bs ws names:List Str)(k:Nat)(p:List Pt):Prop where
 nm:p.map (·.1)=names.take k
 bal:∀x∈p,Bal (x.2.map cdL)
 sz:∀x∈p,x.2.length<=N
 ok:∀(i:Nat) (x:Pt),p[i]?=some x->∀l∈x.2,LineOk bs ws (names.drop (i+1)) l
 dos:∀(i:Nat) (x:Pt),p[i]?=some x->dcn x.2<=Qgz i
theorem PP.snoc{nm:Str}(H:PP N bs ws a k p)(e:a[k]?=some nm)(j:Bal (ls.map cdL))(g:ls.length<=N)(h:∀l∈ls,LineOk bs ws (a.drop (k+1)) l)(hd:dcn ls<=Qgz k):PP N bs ws a (k+1) (p++[(nm,ls)]):=by
 have d:=(Ng.mp e).1;have c:p.length=k:=by have:=congrArg List.length H.nm;simp at this;lia
 refine⟨?_,QW H.bal j,QW H.sz g,fun i x b=>?_,fun i x b=>?_⟩
 ·rw[Eb,H.nm,DI d];rw[Nl d]at e;cases e;rfl
 ·by_cases f:i<p.length
  ·rw[NQ f]at b;exact H.ok i x b
  ·have:i=p.length:=by have:=(Ng.mp b).1;simp at this;lia
   subst this;simp at b;subst b;rw[c];exact h
 ·by_cases f:i<p.length
  ·rw[NQ f]at b;exact H.dos i x b
  ·have:i=p.length:=by have:=(Ng.mp b).1;simp at this;omega
   subst this;simp at b;subst b;rw[c];exact hd
theorem PP.good(H:PP N bs ws a a.length p)(e:a≠[])(f:a.length<=5)(d:a.Nodup):GoodP N bs ws p:=by
 have b:p.map (·.1)=a:=by rw[H.nm,DJ]
 have c:p.length=a.length:=by rw[<-b];simp
 refine⟨fun z=>e (by rw[<-b,z];rfl),by exact Nh (Nt c) f,H.bal,H.sz,?_,by rw[b];exact d,H.dos⟩;rw[b];exact H.ok
theorem Qca(f:Fd)(d b1 b2 b3:Nat)(h0:1<=d/\d<=5)(h1:1<=b1/\b1<=5)(h2:1<=b2/\b2<=5)(h3:3<=b3/\b3<=8) :
  ∃(bs ws:List Str) (p:List Pt) (y:Fd),(0<bs.length/\bs.length<=5)/\(0<ws.length/\ws.length<=5)/\(GoodP 50 bs ws p/\Qj2 p)/\∀(h:MH) (n:Nat),h[n]?=some (Qu f)->JB [.ref n,.lst [.int d,.int b1,.int b2,.int b3]] h=some (Q3 p,h.set n (Qu y)):=by
 have q0:(0:Int)<d:=by lia
 have E:(d:Int)<1000000:=by lia
 have Z:(0:Int)<b1:=by lia
 have D:(b1:Int)<1000000:=by lia
 have Y:(0:Int)<b2:=by lia
 have C:(b2:Int)<1000000:=by lia
 obtain⟨a0,a1⟩:=Kn (f:=f) q0;obtain⟨n0,e0⟩:=Qda a0;obtain⟨bs,f1,lb,_,eb⟩:=Xh (tf f d) (1+n0) (by lia);obtain⟨c0,c1⟩:=Kn (f:=f1) Z;obtain⟨n1,e1⟩:=Qda c0;obtain⟨ws,f2,lw,_,ew⟩:=Xh (tf f1 b1) (1+n1) (by lia);obtain⟨d0,d1⟩:=Kn (f:=f2) Y;obtain⟨n2,e2⟩:=Qda d0;obtain⟨a,f3,ln,L,en⟩:=Xh (tf f2 b2) (1+n2) (by lia);obtain⟨g0,g1⟩:=Kn (f:=f3) (m:=3) (by decide);have s:0<bs.length/\bs.length<=5:=by lia
 have hw:0<ws.length/\ws.length<=5:=by lia
 -- ab size
 obtain⟨size,N,hs,es⟩:∃(size:Nat) (N:Fd),size<=12/\(if tk (tf f3 3) 4=0 then@om _ _ (fun p=>MF.nx [some (.ref 0),some (.lst [.int d,.int b1,.int b2,.int b3]),some (.tup [Q5 bs,Q5 ws]),some (Q5 a),some p.fst,none,none] p.snd) (Qc [.ref 0,.int (b3-tk f3 3+1)] [Qu (tf (tf f3 3) 4)])
   else some (MF.nx [some (.ref 0),some (.lst [.int d,.int b1,.int b2,.int b3]),some (.tup [Q5 bs,Q5 ws]),some (Q5 a),some (.int (b3-tk f3 3)),none,none] [Qu (tf (tf f3 3) 4)]))=some (.nx [some (.ref 0),some (.lst [.int d,.int b1,.int b2,.int b3]),some (.tup [Q5 bs,Q5 ws]),some (Q5 a),some (.int size),none,none] [Qu N]):=by
  by_cases z:tk (tf f3 3) 4=0
  ·have t:(0:Int)<b3-tk f3 3+1:=by lia
   have B:(b3:Int)-tk f3 3+1<1000000:=by lia
   obtain⟨k0,k1⟩:=Kn (f:=tf (tf f3 3) 4) t;obtain⟨sz,O⟩:=Qda k0;exact⟨sz,tf (tf (tf f3 3) 4) (b3-tk f3 3+1),by lia,by simp[z,VW t B,O]⟩
  ·obtain⟨sz,O⟩:=Qda (i:=b3-tk f3 3) (by lia);exact⟨sz,tf (tf f3 3) 4,by lia,by simp[z,O]⟩
 obtain⟨e,v,p1,p2,p3,p4,ep⟩:=G3 N size bs ws (a.drop 1) 2 2 (by decide) (Nn (Nf hs (by decide))) s.1 s.2 hw.1 hw.2 (by simp;lia);obtain⟨c,r⟩:∃x,a[0]?=some x:=⟨a[0]'(Nd (Nd (by decide) (Nm _ _)) (Nt ln.symm)),Nl (Nd (Nd (by decide) (Nm _ _)) (Nt ln.symm))⟩
 have l:=J9 (items:=Qr 1 (a.length-1)) (b:=JM 6) (body:=Vj) (fun n U h=>∃(f:Fd) (p:List Pt) (G:Option W),U=[some (.ref 0),some (.lst [.int d,.int b1,.int b2,.int b3]),some (.tup [Q5 bs,Q5 ws]),some (Q5 a),some (.int size),some (.ref 1),G]/\h=[Qu f,.lst (p.map Vq)]/\PP 50 bs ws a (n+1) p/\∀x,p[0]?=some x->dcn x.2<=2)
  (Qr 1 (a.length-1)) 0 [some (.ref 0),some (.lst [.int d,.int b1,.int b2,.int b3]),some (.tup [Q5 bs,Q5 ws]),some (Q5 a),some (.int size),some (.ref 1),none] [Qu v,.lst [Vq (c,e)]]
  ⟨v,[(c,e)],none,rfl,rfl,PP.snoc (p:=[]) ⟨rfl,by simp,by simp,by simp,by simp⟩ r p1 (by lia) p2 (by show _<=23;lia),fun x u=>by simp at u;subst u;show dcn e<=2;lia⟩ (by
   rintro j w hj U h ⟨f,p,G,rfl,rfl,H,H0⟩
   have M:=(Ng.mp hj).1;rw[QH]at M;obtain rfl:w=.int ((j:Int)+1):=by rw[(VR hj).2,Int.add_comm]
   refine⟨_,rfl,?_⟩;obtain⟨t0,t1⟩:=Kn (f:=f) (m:=4) (by decide);obtain⟨m,em⟩:=Qda t0;obtain⟨ls,y,t,B,r3,r4,A⟩:=G3 (tf f 4) m bs ws (a.drop (j+2)) 1 1 (by decide) (by lia) s.1 s.2 hw.1 hw.2 (by simp;lia);obtain⟨nm,q⟩:∃x,a[j+1]?=some x:=⟨a[j+1]'(by lia),Nl (by omega)⟩
   refine⟨[some (.ref 0),some (.lst [.int d,.int b1,.int b2,.int b3]),some (.tup [Q5 bs,Q5 ws]),some (Q5 a),some (.int size),some (.ref 1),some (.int ((j:Int)+1))],[Qu y,.lst ((p++[(nm,ls)]).map Vq)],.inl ?_,y,_,_,rfl,rfl,?_⟩
   ·have S:atI (a.map W.str) ((j:Int)+1)=some (.str nm):=by rw[show(j:Int)+1=((j+1:Nat):Int) by exact rfl,QN,Nz,q];rfl
    have P:∀h,wSl (Q5 a) (some ((j:Int)+1+1)) none h=some (Q5 (a.drop (j+2)),h):=fun h=>QgH rfl;have I:p.length<sizeLine:=by have:=congrArg List.length H.nm;simp at this;exact Wa (by lia)
    simp[S,P,em,A,I,Vq]
   ·rw[NX]at H ⊢
    exact⟨H.snoc q t (by lia) B (by rw[Qgz,if_neg (DF (D5 _))];lia),fun x u=>H0 x (by have:=congrArg List.length H.nm;simp at this;rwa[NQ (by lia)]at u)⟩)
 obtain⟨aa,h',el,f6,p,G,rfl,rfl,H,H0⟩:=l;rw[QH,NX,show a.length-1+1=a.length by lia]at H;refine⟨bs,ws,p,f6,s,hw,⟨H.good (by intro z;rw[z]at ln;simp at ln;lia) (by lia) L,.inl H0⟩,fun h n hn=>?_⟩;refine ZD (o:=Qu f) (g:=[.lst (p.map Vq)]) (by simp) hn (by simp[Qu]) ?_ (by simp) ⟨_,rfl,by simp⟩;have A:Qfn (Qa (mC (.int 1)) (Qa (mFn Vp (Qa (Qb 3) Qd)) Qd)) [some (.ref 0),some (.lst [.int d,.int b1,.int b2,.int b3]),some (.tup [Q5 bs,Q5 ws]),some (Q5 a),some (.int size),some (.ref 1),none] [Qu v,.lst [Vq (c,e)]]=some (Qr 1 (a.length-1),none,[Qu v,.lst [Vq (c,e)]]):=QfV (by simp) (by lia);have S:atI (a.map W.str) 0=some (.str c):=by rw[Qqw,Nz,r];rfl
 push_cast at eb ew en;rw[List.drop_one]at ep;have Q:Vq (c,e)=.tup [.str c,.tup (e.map Qn)]:=rfl;rw[Q]at A el;simp[Jp,Qx,K3,VW q0 E,VW Z D,VW Y C,e0,e1,e2,eb,ew,en,es,S,ep,A,el,Q3]
@[simp]theorem QpB:VJ (.lst xs) (.lst a) h=if xs.length+a.length<=sizeLine then some (.lst (xs++a),h)else none:=id rfl
theorem QdG:∀{ls:List Cd} {s:List Cd},(∀c∈ls,c=.ot)->Kc ls s=some s
 |[],_,_=>rfl
 |c::ls,s,h=>by
  rw[h c Ny];show Kc ls s=some s;exact QdG fun c a=>h c (Nu _ a)
theorem Qgj{ls:List Ln}(h:∀l∈ls,cdL l=.ot):Bal (ls.map cdL):=bal_iff.mpr (QdG fun c b=>by obtain⟨l,a,rfl⟩:=NT.mp b;exact h l a)
theorem QqH:∀{ns:List Str},ns.length=5->∃a b c d e:Str,ns=[a,b,c,d,e]
 |[a,b,c,d,e],_=>⟨a,b,c,d,e,rfl⟩
noncomputable abbrev gS(bs ws ns:List Str)(x3 x4 x5 x6 b a:Option W):MSt:=[some (.ref 0),some (.tup [Q5 bs,Q5 ws]),some (Q5 ns),x3,x4,x5,x6,b,a]
theorem QkL(f:Fd)(bs ws:List Str)(p:0<bs.length/\bs.length<=5)(hw:0<ws.length/\ws.length<=5)(σ:MSt)(i:∃o,Qho [none,some 0,some 1] σ=[o,some (.ref 0),some (.tup [Q5 bs,Q5 ws])])(mi:MI)(m:Nat)(u:m<=100)(g:Fd)(j:mi σ [Qu f]=some (Qr 0 m,none,[Qu g])) :
  ∃(ls:List Ln) (a:Fd),(∀l∈ls,PlainL bs ws l)/\ls.length=m/\Zj Qmj mi [none,some 0,some 1] (JM 0) Xm (Qi 3 QJ (Qa (Qb 1) (Qa (Qe wIx (Qb 2) (mC (.int 0))) (Qa (Qe wIx (Qb 2) (mC (.int 1))) Qd)))) σ [Qu f]=some (.ref 1,[Qu a,.lst (ls.map Qn)]):=by
 obtain⟨o,t⟩:=i
 have key:=Ub (items:=Qr 0 m) (b:=JM 0) (me:=Qi 3 QJ (Qa (Qb 1) (Qa (Qe wIx (Qb 2) (mC (.int 0))) (Qa (Qe wIx (Qb 2) (mC (.int 1))) Qd)))) (fin:=Qmj)
  (fun(d:List Ln) n h=>∃f o,n=[o,some (.ref 0),some (.tup [Q5 bs,Q5 ws])]/\h=[Qu f]/\∀l∈d,PlainL bs ws l) Qn (Qr 0 m) [] [o,some (.ref 0),some (.tup [Q5 bs,Q5 ws])] [Qu g] ⟨g,o,rfl,rfl,by simp⟩ (by simp[QH];exact KS (Nn (Nf u (by decide)))) (by
   rintro w r d n h ⟨f,o,rfl,rfl,x⟩
   obtain⟨l,a,s,y⟩:=Yd f bs ws p.1 p.2 hw.1 hw.2
   exact⟨_,l,[Qu a],rfl,by simp[y],a,_,rfl,rfl,QW x s⟩)
 obtain⟨ls,q,B,e,⟨a,z,rfl,rfl,v⟩,c⟩:=key;refine⟨ls,a,v,by simpa[QH]using c,?_⟩;unfold Zj;rw[j,Nv];simp only[t];exact e
structure GI(bs ws ns:List Str)(n:Nat)(σ:MSt)(h:MH):Prop where
 ex:∃(f:Fd) (L:List Ln) (O:List Str) (x3 x5 x6 x8:Option W),σ=gS bs ws ns x3 (some (.ref 1)) x5 x6 (some (.ref 2)) x8/\h=[Qu f,.lst (L.map Qn),.lst (O.map .str)] /\
  (∀l∈L,LineOk bs ws (ns.drop 1) l)/\Kc (L.map cdL) []=some (O.reverse.map cd)/\(∀x∈O,x="either"\/x="again"\/x="or")/\L.length=2*n/\O.length=n/\dcn L=0
theorem Qb6(g:0<bs.length/\bs.length<=5)(hw:0<ws.length/\ws.length<=5)(s:n<=10)(H:GI bs ws ns n σ h) :
  ∃a,JM 8 k σ h=some a/\∃σ2 h2,(ZL a h=some (.nx σ2 h2)\/ZL a h=some (.ct σ2 h2))/\GI bs ws ns (n+1) σ2 h2:=by
 obtain⟨f,L,O,o,j,i,D,rfl,rfl,w,u,v,t,b,e⟩:=H.ex;refine⟨_,rfl,?_⟩;obtain⟨l,f1,d,y⟩:=Yd f bs ws g.1 g.2 hw.1 hw.2;obtain⟨B,A⟩:=Kn (f:=f1) (m:=2) (by decide);obtain⟨x,_,c,ex⟩:=Qaa (xs:=([("either":Str),"again"])) (f:=W.str) (P:=fun x=>x="either"\/x="again") B (by show tk f1 2<2;exact A) (by simp);simp at ex;have r:L.length<sizeLine:=Wa (by lia);have q:L.length+1<sizeLine:=Wa (by lia);have p:O.length<sizeLine:=Wa (Nn (Nf (Nh (Nt b) s) (by decide)));refine⟨gS bs ws ns o (some (.ref 1)) j i (some (.ref 2)) (some k),[Qu (tf f1 2),.lst ((L++[l]++[[x]]).map Qn),.lst ((O++[x]).map .str)],.inl ?_,⟨_,_,_,_,_,_,_,rfl,rfl,?_,?_,?_,?_,?_,?_⟩⟩
 ·simp[y,ex,r,q,p,Qn]
 ·exact QW (QW w (.plain d)) (.blk (by rcases c with rfl|rfl<;>simp))
 ·rw[Zt,Zt,J4];refine Zz (Zz u (by rw[K1 d];rfl)) ?_
  rcases c with rfl|rfl
  ·rfl
  ·show kst (cd "again") _=_;rw[Kj];rfl
 ·exact QW v (by rcases c with z|z<;>simp[z])
 ·simp[t];exact rfl
 ·simp[b]
 ·rw[Jm (by rcases c with rfl|rfl<;>decide),Jm (Kf d)];exact e
theorem Qaz(A:0<bs.length/\bs.length<=5)(hw:0<ws.length/\ws.length<=5)(H:GI bs ws ns 6 σ h):∃(f:Fd) (L:List Ln) (x3 x5 x6 p:Option W),(∀l∈L,LineOk bs ws (ns.drop 1) l)/\Bal (L.map cdL)/\L.length<=50/\dcn L=0 /\
  QQ (Qm (Qe wGt (mFn Vp (Qa (Qb 7) Qd)) (mC (.int 0)))) JP 1000000 σ h=some (.nx (gS bs ws ns x3 (some (.ref 1)) x5 x6 (some (.ref 2)) p) [Qu f,.lst (L.map Qn),.lst []]):=by
 obtain⟨f,L,O,x3,x5,x6,p,rfl,rfl,M,G,I,Q,E,w⟩:=H.ex;have key:=Yz (t:=Qm (Qe wGt (mFn Vp (Qa (Qb 7) Qd)) (mC (.int 0)))) (body:=JP) (fun n c h=>c=gS bs ws ns x3 (some (.ref 1)) x5 x6 (some (.ref 2)) p/\∃f L O,dcn L=0/\h=[Qu f,.lst (L.map Qn),.lst (O.map .str)]/\n=wt O/\(∀l∈L,LineOk bs ws (ns.drop 1) l)/\Kc (L.map cdL) []=some (O.reverse.map cd)/\(∀x∈O,x="either"\/x="again"\/x="or")/\L.length+2*wt O<=40) (wt O) 1000000 _ _ (by have:=QiA O;lia) ⟨rfl,f,L,O,w,rfl,rfl,M,G,I,by have:=QiA O;lia⟩ ?_
 ·obtain⟨c,S,e,rfl,N,P,C,a,rfl,hw,v,u,s,b⟩:=key
  have:C=[]:=by
   cases C with
   |nil=>rfl
   |cons x r=>have:=QgV (x::r) (by simp);lia
  subst this;exact⟨N,P,x3,x5,x6,p,v,bal_iff.mpr u,by exact Nn (Nf (Nh (Nm _ _) b) (by decide)),a,e⟩
 ·rintro n c h ⟨rfl,f,L,O,a,rfl,rfl,v,u,s,b⟩
  by_cases d:O=[]
  ·subst d;exact .inl ⟨by simp,rfl⟩
  ·refine .inr ⟨by simp;exact EX.mpr d,?_⟩;obtain⟨l,f1,g,B⟩:=Yd f bs ws A.1 A.2 hw.1 hw.2;obtain⟨r,x,rfl⟩:=QfD O d;rw[J4]at u;rw[XC]at b ⊢
   have m:Kc ((L++[l]).map cdL) []=some (cd x::r.reverse.map cd):=by
    rw[Zt];exact Zz u (by rw[K1 g];rfl)
   have z:L.length<sizeLine:=Wa (Nn (Nf (Nh (Nm _ _) b) (by decide)))
   by_cases q:x="either"
   ·subst q;rw[if_pos rfl]at b ⊢;have o:=Qd2 (L:=L++[l]) (O:=r) (h:=[Qu f1,.lst ((L++[l]).map Qn),.lst ((r++[("either":Str)]).map .str)]) (i:=1) (j:=2) (by simp;exact Nn (Nf (Nh (Nm _ _) b) (by decide))) (by decide) rfl rfl;refine⟨wt (r++[("or":Str)]),_,[Qu f1,.lst ((L++[l]++[orL]).map Qn),.lst ((r++[("or":Str)]).map .str)],?_,.inl ?_,rfl,_,_,_,((Jm (by decide)).trans (Jm (Kf g))).trans a,rfl,rfl,QW (QW v (.plain g)) Qar,?_,QaD s (by simp),?_⟩
    ·rw[XC,if_neg (by decide)];exact NO (by decide) _
    ·simp at o;simp[B,z,o]
    ·rw[Zt,J4];exact Zz m rfl
    ·rw[XC,if_neg (by decide)];simp;lia
   ·rw[if_neg q]at b ⊢;have o:=QdB (L:=L++[l]) (O:=r) (x:=x) (h:=[Qu f1,.lst ((L++[l]).map Qn),.lst ((r++[x]).map .str)]) (i:=1) (j:=2) q (by simp;exact Nn (Nf (Nh (Nm _ _) b) (by decide))) (by decide) rfl rfl;refine⟨wt r,_,[Qu f1,.lst ((L++[l]++[Qjx]).map Qn),.lst (r.map .str)],by exact N1 _,.inl ?_,rfl,_,_,_,((Jm (by decide)).trans (Jm (Kf g))).trans a,rfl,rfl,QW (QW v (.plain g)) Uh,?_,fun y D=>s y (Et _ D),?_⟩
    ·simp at o;simp[B,z,o]
    ·rw[Zt];refine Zz m ?_;show kst (cd "end") _=_;rw[U0];exact Qdn (opk (s x (by simp)) q)
    ·simp;lia
theorem Qfh(d:Bal (ls.map cdL))(b:ls.length<=50)(c:∀l∈ls,LineOk bs ws [] l)(hd:dcn ls=0):GoodP 50 bs ws [(nm,ls)]:=by
 refine⟨by simp,by simp,by simpa using d,by simpa using b,fun i x a=>?_,by simp,fun i x a=>?_⟩
 ·cases i with
  |zero=>simp at a;subst a;simpa using c
  |succ i=>simp at a
 ·cases i with
  |zero=>simp at a;subst a;show dcn ls<=_;exact Nh (Nt hd) (NJ _)
  |succ i=>simp at a
theorem Qgf(f:Fd):∃(bs ws:List Str) (p:List Pt) (I:Fd),(0<bs.length/\bs.length<=5)/\(0<ws.length/\ws.length<=5)/\(GoodP 50 bs ws p/\Qj2 p)/\∀(h:MH) (n:Nat),h[n]?=some (Qu f)->VC [.ref n] h=some (Q3 p,h.set n (Qu I)):=by
 obtain⟨bs,f1,lb,_,U⟩:=Xh f 5 (by decide);obtain⟨ws,f2,lw,_,S⟩:=Xh f1 5 (by decide);obtain⟨ns,f3,ln,y,en⟩:=Xh f2 5 (by decide);obtain⟨a,b,c,d,e,rfl⟩:=QqH ln;have u:0<bs.length/\bs.length<=5:=by lia
 have hw:0<ws.length/\ws.length<=5:=by lia
 simp at U S en;obtain⟨w0,w1⟩:=Kn (f:=f3) (m:=3) (by decide);have D:Z9 [.ref 0] [Qu f]=Qjw (ZY (gS bs ws [a,b,c,d,e] (some (.int (tk f3 3))) none none none none none) [Qu (tf f3 3)]):=by simp[Z9,Qx,U,S,en]
 by_cases P:tk f3 3=0
 ·obtain⟨E,m1⟩:=Kn (f:=tf f3 3) (m:=9) (by decide);obtain⟨m,em⟩:=Qda E;obtain⟨s,I,G,r,v⟩:=QkL (tf f3 3) bs ws u hw (gS bs ws [a,b,c,d,e] (some (.int 0)) none none none none none) ⟨none,rfl⟩ (YD (Qa (Qe VJ (mC (.int 40)) (Qi 2 Qc (Qa (Qb 0) (Qa (mC (.int 9)) Qd)))) Qd)) (40+m) (by lia) (tf (tf f3 3) 9) (V5 (j:=40+m) (by simp[em]) (by lia));refine⟨bs,ws,[(a,s)],I,u,hw,⟨Qfh (Qgj fun l r=>K1 (G l r)) (by lia) (fun l r=>.plain (G l r)) (by unfold dcn;rw[F7];intro l r;rw[Kf (G l r)];simp),.inr fun i x q=>by simp at q⟩,fun h n B=>?_⟩;refine ZD (o:=Qu f) (g:=[.lst (s.map Qn)]) (by simp) B (by simp[Qu]) ?_ (by simp) ⟨_,rfl,by simp⟩;rw[D];simp[ZY,P,v,Q3,Vq]
 ·by_cases Q:tk f3 3=1
  ·obtain⟨E,m1⟩:=Kn (f:=tf f3 3) (m:=2) (by decide);obtain⟨m,em⟩:=Qda E;obtain⟨s,z,r1,r2,r3,r4,N⟩:=G3 (tf (tf f3 3) 2) m bs ws [] 0 0 (by decide) (by lia) u.1 u.2 hw.1 hw.2 (by simp);obtain⟨k0,k1⟩:=Kn (f:=z) (m:=4) (by decide);obtain⟨k,ek⟩:=Qda k0;refine⟨bs,ws,[(a,List.replicate (20+k) (["do",b]:Ln)),(b,s)],tf z 4,u,hw,⟨⟨by simp,by simp,?_,?_,?_,?_,?_⟩,.inr fun i x q=>?_⟩,fun h n B=>?_⟩
   ·intro x q;simp at q
    rcases q with rfl|rfl
    ·exact Qgj fun l r=>by rw[(Ik.mp r).2];show cd "do"=.ot;decide
    ·exact r1
   ·intro x q;simp at q
    rcases q with rfl|rfl
    ·simp;lia
    ·show s.length<=50;lia
   ·intro i x q
    match i,q with
    |0,q=>
     simp at q;subst q;intro l r;rw[(Ik.mp r).2];exact .do (by simp)
    |1,q=>simp at q;subst q;simpa using r2
   ·simp at y ⊢;exact y.1.1
   ·intro i x q
    match i,q with
    |0,q=>
     simp at q;subst q;have:=List.countP_le_length (p:=Vn) (l:=List.replicate (20+k) (["do",b]:Ln));rw[Lu]at this;show List.countP Vn (List.replicate (20+k) (["do",b]:Ln))<=23;lia
    |1,q=>simp at q;subst q;show dcn s<=1;lia
   ·cases i with
    |zero=>simp at q;subst q;show dcn s=0;lia
    |succ i=>simp at q
   ·refine ZD (o:=Qu f) (g:=[]) (by simp) B (by simp[Qu]) ?_ (by simp) ⟨_,rfl,by simp⟩
    have v:=JT (fin:=VL) (mi:=YD (Qa (Qb 6) Qd)) (cp:=[none,some 2]) (me:=mFn Z1 (Qa (mC (.str "do")) (Qa (Qe wIx (Qb 1) (mC (.int 1))) Qd))) (σ:=gS bs ws [a,b,c,d,e] (some (.int 1)) none (some (.tup (s.map Qn))) (some (.int (20+k))) none none) (caps:=[some (Q5 [a,b,c,d,e])]) (h:=[Qu (tf z 4)]) (items:=Qr 0 (20+k))
     (fun _=>Qn ["do",b]) (V5 (j:=20+k) (by simp) (by lia)) ⟨_,rfl⟩ (fun w hw=>by simp[Qn]) (by rw[QH];exact KS (by lia))
    have M:Za [.ref 0,.int m,.tup [Q5 bs,Q5 ws],.lst [],.int 0,.int 0] [Qu (tf (tf f3 3) 2)]=some (.tup (s.map Qn),[Qu z]):=N _ 0 rfl;have t:(Qr 0 (20+k)).map (fun _=>Qn ["do",b])=List.replicate (20+k) (Qn ["do",b]):=by rw[Yag,QH]
    rw[t]at v;simp only[VL]at v;rw[D];simp[ZY,Q,em,M,ek,v,Q3,Vq]
  ·have A:=J9 (items:=Qr 0 6) (b:=JM 8) (body:=ZL) (GI bs ws [a,b,c,d,e]) (Qr 0 6) 0 (gS bs ws [a,b,c,d,e] (some (.int (tk f3 3))) (some (.ref 1)) none none (some (.ref 2)) none) [Qu (tf f3 3),.lst [],.lst []]
    ⟨_,[],[],_,_,_,_,rfl,rfl,by simp,rfl,by simp,rfl,rfl,rfl⟩ (fun j w hj O h H=>Qb6 u hw (by have:=(VR hj).1;lia) H)
   obtain⟨Y,h',e1,H⟩:=A;rw[QH,NX]at H;obtain⟨z,L,x3,x5,x6,Z,c1,c2,c3,c4,e2⟩:=Qaz u hw H
   have q:GoodP 50 bs ws [(a,L),(b,[]),(c,[]),(d,[]),(e,[])]:=by
    refine⟨by simp,by simp,?_,?_,?_,by simpa using y,?_⟩
    ·intro x q;simp at q
     rcases q with rfl|rfl|rfl|rfl|rfl
     ·exact c2
     all_goals rfl
    ·intro x q;simp at q
     rcases q with rfl|rfl|rfl|rfl|rfl<;>simp
     exact c3
    ·intro i x q
     match i,q with
     |0,q=>simp at q;subst q;simpa using c1
     |1,q=>simp at q;subst q;simp
     |2,q=>simp at q;subst q;simp
     |3,q=>simp at q;subst q;simp
     |4,q=>simp at q;subst q;simp
    ·intro i x q
     match i,q with
     |0,q=>simp at q;subst q;show dcn L<=_;exact Nh (Nt c4) (NJ _)
     |1,q=>simp at q;subst q;simp[dcn]
     |2,q=>simp at q;subst q;simp[dcn]
     |3,q=>simp at q;subst q;simp[dcn]
     |4,q=>simp at q;subst q;simp[dcn]
   refine⟨bs,ws,_,z,u,hw,⟨q,.inr fun i x q=>by
    match i,q with
    |0,q=>simp at q;subst q;rfl
    |1,q=>simp at q;subst q;rfl
    |2,q=>simp at q;subst q;rfl
    |3,q=>simp at q;subst q;rfl⟩,fun h n B=>?_⟩
   refine ZD (o:=Qu f) (g:=[.lst (L.map Qn),.lst []]) (by simp) B (by simp[Qu]) ?_ (by simp) ⟨_,rfl,by simp⟩
   have v:=JT (fin:=VL) (mi:=Zl (mSl (Qb 2) (XO (mC (.int 1))) Xy)) (cp:=[none]) (me:=mFn Z1 (Qa (Qb 0) (Qa (mFn Z1 Qd) Qd))) (σ:=gS bs ws [a,b,c,d,e] x3 (some (.ref 1)) x5 x6 (some (.ref 2)) Z) (caps:=[]) (h:=[Qu z,.lst (L.map Qn),.lst []]) (items:=[.str b,.str c,.str d,.str e])
    (fun w=>.tup [w,.tup []]) (by simp[Zl];rfl) ⟨_,rfl⟩ (fun w hw=>by simp) (by simp)
   have N:YD (Qa (mC (.int 6)) Qd) (gS bs ws [a,b,c,d,e] (some (.int (tk f3 3))) (some (.ref 1)) none none (some (.ref 2)) none) [Qu (tf f3 3),.lst [],.lst []]=some (Qr 0 6,none,[Qu (tf f3 3),.lst [],.lst []]):=V5 (j:=6) rfl (by decide);simp only[VL]at v;rw[D];simp[ZY,K3,Q,P,N,e1,e2,v,Q3,Vq]
def Qoi(sem:List W->MH->Option (W×MH))(f:Fd)(args:W->List W):Prop:=∃(bs a:List Str) (p:List Pt) (b:Fd),(0<bs.length/\bs.length<=5)/\(0<a.length/\a.length<=5)/\(GoodP 50 bs a p/\Qj2 p)/\∀(h:MH) (n:Nat),h[n]?=some (Qu f)->sem (args (.ref n)) h=some (Q3 p,h.set n (Qu b))
theorem Qkv(f:Fd)(a b1 b2 b3:Nat)(s:1<=a/\a<=5)(q:1<=b1/\b1<=5)(h2:1<=b2/\b2<=5)(m:3<=b3/\b3<=8):Qoi XM f fun r=>[r,.lst [.int a,.int b1,.int b2,.int b3]]:=by
 by_cases l:tk f 8=5
 ·obtain⟨bs,b,p,j,i,hw,d,e⟩:=Qgf (tf f 8);refine⟨bs,b,p,j,i,hw,d,fun h n c=>?_⟩;refine ZD (o:=Qu f) (g:=[]) (by simp) c (by simp[Qu]) ?_ (by simp) ⟨_,rfl,by simp⟩;simp[J3,Qx,l,e]
 ·obtain⟨bs,b,p,j,i,hw,d,e⟩:=Qca (tf f 8) a b1 b2 b3 s q h2 m;refine⟨bs,b,p,j,i,hw,d,fun h n c=>?_⟩;refine ZD (o:=Qu f) (g:=[]) (by simp) c (by simp[Qu]) ?_ (by simp) ⟨_,rfl,by simp⟩;simp[J3,Qx,l,e]
theorem VS(h:LineOk bs ws a l):∃x r,l=x::r:=by
 cases h with
 |plain h=>cases h<;>exact⟨_,_,rfl⟩
 |«do» h=>exact⟨_,_,rfl⟩
 |blk h=>exact⟨_,_,rfl⟩
 |back h=>exact⟨_,_,rfl⟩
theorem Qdg(h:GoodP N bs ws p)(b:N<=M):GoodP M bs ws p:=⟨h.ne,h.len,h.bal,fun x a=>Nh (h.sz x a) b,h.ok,h.nd,h.dos⟩
theorem QdV(ns:List Int)(k:Nat)(l:k<100):∃f:Fd,∀h:MH,ZG [.frz (ns.map .int),.int k] h=some (.ref h.length,h++[Qu f]):=by
 have fin:∀(a b:Int) (g:0<=b/\b<1099511627776),ZW [.frz (ns.map .int),.int k] []=some (.ref 0,[.lst [.int a,.int b]])->∀h:MH,ZG [.frz (ns.map .int),.int k] h=some (.ref h.length,h++[Qu ⟨a,b,g⟩]):=by
  intro a b g e h;unfold ZG box;have hr:XJ 0 [.frz (ns.map .int),.int k]=some ([.frz (ns.map .int),.int k],[]):=by simp[XJ]
  rw[hr,Nv];unfold Qgs;rw[if_pos EI];simp only[Zo,Nv,e];rw[if_pos ⟨by simp[frR],by simp[frR]⟩];simp[frR,th,res,Wu,Zo,thO,ths,QF,Qu]
 -- i cell
 obtain⟨c,d⟩:∃c:Int,(if(k:Int)<(ns.length:Nat)then@om _ _ (fun p=>MF.nx [some (.frz (ns.map .int)),some (.int k),some p.fst,none] p.snd) (@om _ _ (fun w=>(w,([]:MH))) (atI (ns.map W.int) (k:Int)))else some (MF.nx [some (.frz (ns.map .int)),some (.int k),some (.int 0),none] []))=some (MF.nx [some (.frz (ns.map .int)),some (.int k),some (.int c),none] []):=by
  by_cases j:k<ns.length
  ·refine⟨ns[k],?_⟩;rw[if_pos (by omega),QN,Nz,Nl j];simp
  ·exact⟨0,by rw[if_neg (by omega)]⟩
 have b1:0<=c%2147483647*48271%2147483647:=Dt _ (by decide);have b2:c%2147483647*48271%2147483647<2147483647:=DU _ (by decide)
 by_cases hd:(1000000000000000000:Int)<=c
 ·refine⟨⟨c-1000000000000000000,c%2147483647*48271%2147483647+k,by omega⟩,fin _ _ _ ?_⟩;simp at d;simp[ZW,Qx,d,hd]
 ·refine⟨⟨0,c%2147483647*48271%2147483647+k,by omega⟩,fin _ _ _ ?_⟩;simp at d;simp[ZW,Qx,d,hd]
end My
namespace My5
open My3 My4
theorem YG:∀{i:Nat},i<=A.length->lev (A++B) i=lev A i
 |0,_=>rfl
 |i+1,h=>by
  have a:=YG (A:=A) (B:=B) (i:=i) (Nn h);simp only[lev,a,NQ (show i<A.length by exact h)]
theorem Ki:∀{i:Nat},lev (A++B) (A.length+i)=lev A A.length+lev B i
 |0=>by rw[Fx,YG (Nw _)];simp[lev]
 |i+1=>by
  have a:=Ki (A:=A) (B:=B) (i:=i);rw[<-Du];simp only[lev,a,N2 (show A.length<=A.length+i by exact Nm _ _),EH];lia
theorem Ud:∀{k j:Nat},j<=k->(∃p,pil ls k=some p)->∃p,pil ls j=some p
 |0,j,h,e=>by rw[show j=0 by exact Eh h (NJ _)];exact e
 | k+1,j,h,⟨p,e⟩=>by
  by_cases z:j=k+1
  ·rw[z];exact⟨p,e⟩
  ·refine Ud (k:=k) (by lia) ?_;simp only[pil]at e;cases q:pil ls k with
   |none=>rw[q]at e;simp at e
   |some r=>exact⟨r,rfl⟩
theorem QhY(h:stp k c p=some q):(q.length:Int)=p.length+ch c:=by
 cases c with
 |ei=>simp only[stp]at h;cases h;simp[ch]
 |ag=>simp only[stp]at h;cases h;simp[ch]
 |ot=>simp only[stp]at h;cases h;simp[ch]
 | oo=>
  cases p with
  |nil=>simp[stp]at h
  |cons e r=>
   simp only[stp]at h;split at h
   ·cases h;simp[ch]
   ·cases h
 | en=>
  cases p with
  |nil=>simp[stp]at h
  |cons e r=>
   simp only[stp]at h;split at h
   ·cases h
   ·cases h;simp[ch];lia
theorem W0:∀{k:Nat} {p:List En},pil ls k=some p->lev ls k=p.length
 |0,p,h=>by simp only[pil]at h;cases h;rfl
 | k+1,p,h=>by
  simp only[pil]at h;obtain⟨q,d,h2⟩:=Na.mp h;have b:=W0 d;cases a:ls[k]? with
  |none=>rw[a]at h2;cases h2
  |some c=>
   rw[a]at h2;rw[ZZ a,b,QhY h2]
theorem QnV(h:Bal ls):lev ls ls.length=0:=by
 have:=W0 h;simpa using this
theorem Qdy(h:Bal ls)(hi:i<=ls.length):0<=lev ls i:=by
 obtain⟨p,a⟩:=Ud hi ⟨_,h⟩;rw[W0 a];lia
theorem Qk8(h:Bal ls)(e:ls[i]?=some c)(f:lev ls i=0):c≠.oo/\c≠.en:=by
 have d:=(Ng.mp e).1;obtain⟨p,b⟩:=Ud (show i<=ls.length by exact Nn d) ⟨_,h⟩;obtain⟨q,a⟩:=Ud (show i+1<=ls.length by exact d) ⟨_,h⟩;rw[W0 b]at f;have:p=[]:=N7.mp (by lia);subst this;simp only[pil,b,e]at a;constructor
 ·rintro rfl
  simp[stp]at a
 ·rintro rfl
  simp[stp]at a
section
variable{α:Type}(E:α->List Cd)(b:α->Cd)
def Ex(x:α):Prop:=E x=[b x]\/(b x=.ot/\Bal (E x))
noncomputable def F(xs:List α):List Cd:=xs.flatMap E
noncomputable def off(xs:List α)(k:Nat):Nat:=(F E (xs.take k)).length
variable{E b}
theorem QiZ:F E (xs++a)=F E xs++F E a:=by simp[F]
theorem UP:F E (x::xs)=E x++F E xs:=by simp[F]
theorem Qnc(h:∀x∈xs,Ex E b x):lev (F E xs) (F E xs).length=lev (xs.map b) xs.length:=by
 induction xs with
 |nil=>rfl
 |cons x xs a=>
  have a:=a fun y c=>h y (Nu _ c);rw[UP,NC,Ki,a,NA,show b x::xs.map b=[b x]++xs.map b from rfl];have:=Ki (A:=[b x]) (B:=xs.map b) (i:=xs.length);rw[NP,Nat.add_comm xs.length 1];rw[show([b x]:List Cd).length=1 from rfl]at this;rw[this]
  rcases h x Ny with e|⟨e,d⟩
  ·rw[e];rfl
  ·rw[QnV d,e];rfl
theorem split_at(a:xs[m]?=some x):xs=xs.take m++x::xs.drop (m+1):=by
 obtain⟨c,rfl⟩:=Ng.mp a;rw[<-Ea c,EB]
theorem QeJ(a:xs[m]?=some x):F E xs=F E (xs.take m)++(E x++F E (xs.drop (m+1))):=by
 conv=>lhs;rw[split_at a]
 rw[QiZ,UP]
theorem Qfe(h:m<=ls.length):lev ls m=lev (ls.take m) (ls.take m).length:=by
 have e:(ls.take m).length=m:=by rw[Ey];lia
 have:=YG (A:=ls.take m) (B:=ls.drop m) (i:=m) (Nt e.symm);rw[EB]at this;rw[e];exact this
theorem Ga(h:∀x∈xs,Ex E b x)(a:xs[m]?=some x)(hr:r<=(E x).length):lev (F E xs) (off E xs m+r)=lev (xs.map b) m+lev (E x) r:=by
 have d:=(Ng.mp a).1;unfold off;rw[QeJ a,Ki,YG hr,Qnc fun y c=>h y (F3 c)];rw[Qfe (ls:=xs.map b) (m:=m) (by simp;exact Nn d),<-LW];simp
theorem Qj5(a:xs[m]?=some x)(hr:r<(E x).length):(F E xs)[off E xs m+r]?=(E x)[r]?:=by
 unfold off;rw[QeJ a,N2 (Nm _ _),EH,NQ hr]
theorem off_succ(a:xs[m]?=some x):off E xs (m+1)=off E xs m+(E x).length:=by
 obtain⟨c,rfl⟩:=Ng.mp a;unfold off;rw[DI c,QiZ,NC];simp[F]
theorem K4(h:j<=k):off E xs j<=off E xs k:=by
 unfold off;have:xs.take j=(xs.take k).take j:=by rw[List.take_take,Ds h]
 rw[this]
 conv=>rhs;rw[<-EB j (xs.take k),QiZ,NC]
 exact Nm _ _
theorem QiF(hi:i<(F E xs).length):∃m r x,xs[m]?=some x/\r<(E x).length/\i=off E xs m+r:=by
 induction xs generalizing i with
 |nil=>simp[F]at hi
 | cons x xs a=>
  rw[UP,NC]at hi
  by_cases h:i<(E x).length
  ·exact⟨0,i,x,rfl,h,by simp[off,F]⟩
  ·obtain⟨m,r,y,d,c,e⟩:=a (i:=i-(E x).length) (E3 (NN.mp h) hi);refine⟨m+1,r,y,by simpa using d,c,?_⟩;have:off E (x::xs) (m+1)=(E x).length+off E xs m:=by unfold off;rw[List.take_succ_cons,UP,NC]
   omega
theorem Qax(f:xs[k]?=some a)(l:(E a).length=1)(n:off E xs k<i)(h2:i<off E xs j)(e:i<(F E xs).length):∃m r x,xs[m]?=some x/\r<(E x).length/\i=off E xs m+r/\k<m/\m<j:=by
 obtain⟨m,r,x,c,h,g⟩:=QiF e;refine⟨m,r,x,c,h,g,?_,?_⟩
 ·apply Em;intro d
  by_cases z:m=k
  ·subst z;rw[f]at c;cases c;lia
  ·have:=K4 (E:=E) (xs:=xs) (show m+1<=k by lia);rw[off_succ c]at this;lia
 ·apply Em;intro d;have:=K4 (E:=E) (xs:=xs) (show j<=m by exact NN.mp d);lia
theorem QjH{xs:List α}(h:∀x∈xs,Ex E b x){k:Nat}(c:xs[k]?=some a)(d:b a≠.ot):E a=[b a]:=by
 rcases h a (NI.mpr ⟨k,c⟩)with e|e
 ·exact e
 ·exact absurd e.1 d
theorem Yu(h:∀x∈xs,Ex E b x)(c:xs[k]?=some a):lev (F E xs) (off E xs k)=lev (xs.map b) k:=by
 have:=Ga h c (NJ _);simpa[lev]using this
theorem WY(h:∀x∈xs,Ex E b x)(d:xs[k]?=some a)(e:E a=[b a]):lev (F E xs) (off E xs k+1)=lev (xs.map b) (k+1):=by
 have:=Ga h d (r:=1) (by rw[e];simp);have g:lev (E a) 1=ch (b a):=by rw[e];simp[lev]
 have f:=ZZ (ls:=xs.map b) (k:=k) (c:=b a) (by rw[Nz,d];rfl);rw[this,g,f]
theorem QaK(d:xs[k]?=some a)(c:E a=[b a]):(F E xs)[off E xs k]?=some (b a):=by
 have:=Qj5 (E:=E) d (r:=0) (by rw[c];simp);rw[Fx]at this;rw[this,c];rfl
theorem QnL{xs:List α}(h:∀x∈xs,Ex E b x){k j:Nat}(n:xs[k]?=some a)(o:E a=[b a])(I:c=.oo\/c=.en)(B:Beh (xs.map b) k c j):Beh (F E xs) (off E xs k) c (off E xs j):=by
 have f:=B.at_;rw[Nz]at f;obtain⟨O,f,s⟩:=Nk.mp f;have G:b O≠.ot:=by rw[s];rcases I with rfl|rfl<;>simp
 have t:=QjH h f G;have C:=off_succ (E:=E) n;rw[o]at C;have M:=K4 (E:=E) (xs:=xs) (show k+1<=j from B.lt);have p:off E xs j<(F E xs).length:=(Ng.mp (QaK f t)).1;have D:=B.lt;refine⟨by simp at C;exact Nd (Nd (N1 _) (Nt C.symm)) M,by rw[QaK f t,s],?_,fun i H w v q=>?_,fun i H w=>?_⟩
 ·rw[Yu h f,WY h n o];exact B.lv
 ·obtain⟨m,r,x,l,d,rfl,A,y⟩:=Qax n (by rw[o];rfl) H w (NW w p);rw[Qj5 l d]at q;have N:=h x (NI.mpr ⟨m,l⟩);rw[Ga h l (Nn d),WY h n o]at v
  rcases N with e|⟨e,u⟩
  ·rw[e]at d q v;simp at d;subst d;rw[show lev [b x] 0=0 from rfl,Int.add_zero]at v;have L:b x=c:=by simpa using q
   exact B.no m A y v (by rw[Nz,l,<-L];rfl)
  ·have g:=B.ge m A (Nn y);have g2:=Qdy u (i:=r) (Nn d);have:=Qk8 u q (by lia)
   rcases I with rfl|rfl
   ·exact this.1 rfl
   ·exact this.2 rfl
 ·rw[WY h n o]
  by_cases z:i=off E xs j
  ·subst z;rw[Yu h f];exact B.ge j D (Nw _)
  ·obtain⟨m,r,x,l,d,rfl,A,y⟩:=Qax n (by rw[o];rfl) H (show i<off E xs j by lia) (Nf w p);rw[Ga h l (Nn d)];have g:=B.ge m A (Nn y)
   rcases h x (NI.mpr ⟨m,l⟩)with e|⟨e,u⟩
   ·rw[e]at d ⊢;simp at d;subst d;rw[show lev [b x] 0=0 from rfl,Int.add_zero];exact g
   ·have g2:=Qdy u (i:=r) (Nn d);lia
end
theorem WJ(B:Beh ls k c j)(a:Beh ls k c b):j=b:=by
 rcases Iz j b with h|h|h
 ·exact absurd B.at_ (a.no j B.lt h B.lv)
 ·exact h
 ·exact absurd a.at_ (B.no b a.lt h a.lv)
theorem QfB(A:Ahd ls k j)(b:Ahd ls k a):j=a:=by
 rcases Iz j a with h|h|h
 ·exact absurd b.lv (A.no a h b.lt)
 ·exact h
 ·exact absurd A.lv (b.no j h A.lt)
theorem Jl(h:i<=Y.length):lev (A++(Y++Z)) (A.length+i)=lev A A.length+lev Y i:=by rw[Ki,YG h]
theorem QgP{A Y Z:List Cd}(h:i<Y.length):(A++(Y++Z))[A.length+i]?=Y[i]?:=by
 rw[N2 (by lia),EH,NQ h]
theorem Qht{A Y Z:List Cd}(B:Beh Y k c j):Beh (A++(Y++Z)) (A.length+k) c (A.length+j):=by
 have b:=(Ng.mp B.at_).1;have a:=B.lt;refine⟨by lia,by rw[QgP b];exact B.at_,?_,fun i f e d=>?_,fun i f e=>?_⟩
 ·rw[Du,Jl (by lia),Jl (by lia),B.lv]
 ·obtain⟨r,rfl⟩:∃r,i=A.length+r:=⟨i-A.length,by lia⟩
  rw[Du,Jl (by lia),Jl (by lia)]at d;rw[QgP (by lia)];exact B.no r (by lia) (by lia) (by lia)
 ·obtain⟨r,rfl⟩:∃r,i=A.length+r:=⟨i-A.length,by lia⟩
  rw[Du,Jl (by lia),Jl (by lia)];have:=B.ge r (by omega) (by lia);lia
theorem QiS(B:Ahd Y k j)(e:k<=Y.length):Ahd (A++(Y++Z)) (A.length+k) (A.length+j):=by
 have a:=B.lt;refine⟨by lia,?_,fun i d c b=>?_,fun i d c=>?_⟩
 ·rw[Jl (by omega),Jl (by lia),B.lv];lia
 ·obtain⟨r,rfl⟩:∃r,i=A.length+r:=⟨i-A.length,by lia⟩
  rw[Jl (by omega),Jl (by lia)]at b;exact B.no r (by lia) (by lia) (by lia)
 ·obtain⟨r,rfl⟩:∃r,i=A.length+r:=⟨i-A.length,by lia⟩
  rw[Jl (by omega),Jl (by lia)];have:=B.ge r (by omega) (by lia);lia
section
variable{α:Type}{E:α->List Cd}{b:α->Cd}
theorem QmX(h:Ex E b x)(hr:r<(E x).length):0<=lev (E x) r:=by
 rcases h with e|⟨_,a⟩
 ·rw[e]at hr ⊢;simp at hr;subst hr;exact Ic _
 ·exact Qdy a (by lia)
theorem Qnv(h:∀x∈xs,Ex E b x)(f:xs[k]?=some a)(l:xs[j]?=some p)(c:E p=[b p])(t:E a=[b a])(A:Ahd (xs.map b) k j):Ahd (F E xs) (off E xs k) (off E xs j):=by
 have n:=off_succ (E:=E) l;rw[c]at n;have w:=K4 (E:=E) (xs:=xs) (show j+1<=k from A.lt);have s:off E xs k<(F E xs).length:=(Ng.mp (QaK f t)).1;have q:=A.lt
 have key:∀i,off E xs j<i->i<off E xs k->lev (F E xs) (off E xs k)<=lev (F E xs) i:=fun i d e=>by
  obtain⟨m,r,x,o,v,rfl,u,B⟩:=Qax l (by rw[c];rfl) d e (by lia);rw[Ga h o (by lia),Yu h f];have g:=A.ge m u (by lia);have g2:=QmX (h x (NI.mpr ⟨m,o⟩)) v;lia
 refine⟨by simp at n;lia,?_,fun i d e y=>?_,fun i d e=>?_⟩
 ·rw[Yu h f,Yu h l];exact A.lv
 ·have:=key i d e;lia
 ·by_cases z:i=off E xs k
  ·rw[z];exact Ic _
  ·exact key i d (by lia)
theorem QdH(h:kst c p=some q):kst c (p++s)=some (q++s):=by
 cases c<;>cases p<;>simp only[kst,DV,IM]at h ⊢<;>first|(cases h;rfl)|(split at h<;>first|(cases h;done)|(rename_i z;cases h;simp[z]))|simp_all
theorem Wm:∀{ls p q s:List Cd},Kc ls p=some q->Kc ls (p++s)=some (q++s)
 |[],p,q,s,h=>by simp only[Kc]at h ⊢;cases h;rfl
 |c::ls,p,q,s,h=>by
  simp only[Kc]at h ⊢;obtain⟨r,a,h2⟩:=Na.mp h;rw[QdH a];exact Wm h2
theorem QnQ(h:∀x∈xs,Ex E b x):∀(s:List Cd),Kc (F E xs) s=Kc (xs.map b) s:=by
 induction xs with
 |nil=>intro s;rfl
 | cons x xs a=>
  intro s;have a:=a fun y c=>h y (Nu _ c);rw[UP,X3,NA,show b x::xs.map b=[b x]++xs.map b from rfl,X3]
  rcases h x Ny with e|⟨e,d⟩
  ·rw[e];cases Kc [b x] s with
   |none=>rfl
   |some r=>exact a r
  ·have g:Kc (E x) s=some s:=by
    have:=Wm (s:=s) (bal_iff.mp d);simpa using this
   have f:Kc [b x] s=some s:=by rw[e];rfl
   rw[g,f];exact a s
theorem QnO(h:∀x∈xs,Ex E b x)(a:Bal (xs.map b)):Bal (F E xs):=bal_iff.mpr (by rw[QnQ h];exact bal_iff.mp a)
end
end My5
namespace My
open L2 Mi My3 My4
theorem JC{x:Str}:(x="either"/\cd x=.ei)\/(x="again"/\cd x=.ag)\/(x="or"/\cd x=.oo)\/(x="end"/\cd x=.en)\/((x≠"either"/\x≠"again"/\x≠"or"/\x≠"end")/\cd x=.ot):=by
 unfold cd
 by_cases d:x="either"
 ·exact .inl ⟨d,if_pos d⟩
 rw[if_neg d]
 by_cases c:x="again"
 ·exact .inr (.inl ⟨c,if_pos c⟩)
 rw[if_neg c]
 by_cases b:x="or"
 ·exact .inr (.inr (.inl ⟨b,if_pos b⟩))
 rw[if_neg b]
 by_cases a:x="end"
 ·exact .inr (.inr (.inr (.inl ⟨a,if_pos a⟩)))
 rw[if_neg a];exact .inr (.inr (.inr (.inr ⟨⟨d,c,b,a⟩,rfl⟩)))
theorem Qad(P:Nat->MSt->MH->Prop)(v:W)(e:MH):∀(r:List W) (n m:Nat) (σ:MSt) (h:MH),P n σ h->m<r.length ->
  (∀(j:Nat) (w:W),j<m->r[j]?=some w->∀σ h,P (n+j) σ h->∃a,b w σ h=some a/\∃σ2 h2,body a h=some (.nx σ2 h2)/\P (n+j+1) σ2 h2) ->
  (∀w,r[m]?=some w->∀σ h,P (n+m) σ h->∃a,b w σ h=some a/\body a h=some (.rt v e))->X1 items none b body r σ h=some (.rt v e)
 |[],n,m,σ,h,_,f,_,_=>by simp at f
 |w::r,n,0,σ,h,c,_,_,g=>by
  obtain⟨a,l,i⟩:=g w rfl σ h c;rw[X1,if_pos (Zp _ _),l,Nv,i];rfl
 | w::r,n,m+1,σ,h,c,f,o,g=>by
  obtain⟨a,l,σ2,h2,i,p⟩:=o 0 w (D5 _) rfl σ h c;rw[X1,if_pos (Zp _ _),l,Nv,i]
  exact Qad (items:=items) (b:=b) (body:=body) P v e r (n+1) m σ2 h2 p (by simpa using f) (fun j x q d σ h c=>by
   have:=o (j+1) x (Fe q _) (by simpa using d) σ h (by rw[show n+(j+1)=n+1+j by lia];exact c);rw[show n+(j+1)+1=n+1+j+1 by exact DT _ _ _]at this
   exact this) (fun x d σ h c=>g x (by simpa using d) σ h (by rw[show n+(m+1)=n+1+m by lia];exact c))
@[simp]theorem Ql8{r:List Str}:Zb [Qn (x::r)] h=some (.int (ch (cd x)),h):=by
 refine Qv (g:=[]) (by simp) ?_ rfl;have b:Qn (x::r)=.tup (.str x::r.map .str):=rfl
 rcases JC (x:=x)with⟨rfl,a⟩|⟨rfl,a⟩|⟨rfl,a⟩|⟨rfl,a⟩|⟨⟨e,d,f,c⟩,a⟩
 ·simp[QE,Qx,b,a,ch]
 ·simp[QE,Qx,b,a,ch]
 ·simp[QE,Qx,b,a,ch]
 ·simp[QE,Qx,b,a,ch]
 ·simp[QE,Qx,b,e,d,c,a,ch]
@[simp]theorem Qo3:wIx (Qn (x::r)) (.int 0) h=some (.str x,h):=by unfold Qn;simp
@[simp]theorem QoC:wIx (Qn (x::y::r)) (.int 1) h=some (.str y,h):=by unfold Qn;simp
theorem Qc2(e:a σ h=some ([.int i,.int j],h'))(hi:-1000000<=i/\i<=1000000)(b:-1000000<=j/\j<=1000000):Qfn a σ h=some (Qr i (j-i).toNat,none,h'):=by
 unfold Qfn;rw[e,Nv];exact if_pos ⟨by lia,by omega,by lia,by omega⟩
noncomputable abbrev fS(ls:List Ln)(k:Nat)(y:Str)(a j:Option W):MSt:=[some (.tup (ls.map Qn)),some (.int k),some (.str y),a,j]
theorem Qaf{ls:List Ln}{j:Nat}(h:ls[j]?=some l):atI (ls.map Qn) (j:Int)=some (Qn l):=by rw[QN,Nz,h];rfl
theorem UU{ls:List Ln}{k j:Nat}(v:∀l∈ls,∃x r,l=x::r)(Q:ls.length<=100000)(M:∀x:Str,cd x=cd y↔x=y)(B:Beh (ls.map cdL) k (cd y) j):QM [.tup (ls.map Qn),.int k,.str y] h=some (.int j,h):=by
 refine Qv (g:=[]) (by simp) ?_ rfl;have D:j<ls.length:=by have:=(Ng.mp B.at_).1;simpa using this
 have C:=B.lt
 have O:∀d,Qfn (Qa (Qe VJ (Qb 1) (mC (.int 1))) (Qa (mFn Vp (Qa (Qb 0) Qd)) Qd)) (fS ls k y (some (.int 0)) d) []=some (Qr ((k:Int)+1) (ls.length-(k+1)),none,[]):=by
  intro d;rw[Qc2 (h':=[]) (i:=(k:Int)+1) (j:=ls.length) (by simp) (by lia) (by lia),show((ls.length:Int)-((k:Int)+1)).toNat=ls.length-(k+1) by lia]
 have lines:∀i,k<i->i<=j->∃x r,ls[i]?=some (x::r)/\(ls.map cdL)[i]?=some (cd x):=fun i _ H=>by
  have m:i<ls.length:=by exact Nf H D
  obtain⟨x,r,e⟩:=v ls[i] (Ez m);have I:ls[i]?=some (x::r):=by rw[Nl m,e]
  exact⟨x,r,I,by rw[Nz,I];rfl⟩
 have f:=Qad (items:=Qr ((k:Int)+1) (ls.length-(k+1))) (b:=JM 4) (body:=Vl) (fun n s h=>∃d,s=fS ls k y (some (.int (lev (ls.map cdL) (k+1+n)-lev (ls.map cdL) (k+1)))) d/\h=[]) (.int j) [] (Qr ((k:Int)+1) (ls.length-(k+1))) 0 (j-(k+1)) (fS ls k y (some (.int 0)) none) [] ⟨none,by simp,rfl⟩ (by rw[QH];omega) (by
  rintro i w H hw s h ⟨d,rfl,rfl⟩
  obtain⟨_,rfl⟩:=VR hw;obtain⟨x,r,t,q⟩:=lines (k+1+i) (Nd (N1 _) (Nm _ _)) (by omega);have E:=Qaf t;have N:=ZZ q;rw[NX];have p:atI (ls.map Qn) ((k:Int)+1+(i:Int))=some (Qn (x::r)):=by rw[show((k:Int)+1+(i:Int))=((k+1+i:Nat):Int) by exact rfl];exact E
  refine⟨fS ls k y (some (.int (lev (ls.map cdL) (k+1+i)-lev (ls.map cdL) (k+1)))) (some (.int ((k:Int)+1+i))),rfl,fS ls k y (some (.int (lev (ls.map cdL) (k+1+(i+1))-lev (ls.map cdL) (k+1)))) (some (.int ((k:Int)+1+i))),[],?_,_,rfl,rfl⟩
  have c:lev (ls.map cdL) (k+1+(i+1))-lev (ls.map cdL) (k+1)=lev (ls.map cdL) (k+1+i)-lev (ls.map cdL) (k+1)+ch (cd x):=by
   rw[show k+1+(i+1)=k+1+i+1 by exact rfl,N];lia
  rw[c];generalize S:lev (ls.map cdL) (k+1+i)-lev (ls.map cdL) (k+1)=L
  by_cases G:L=0
  ·have u:=B.no (k+1+i) (Nd (N1 _) (Nm _ _)) (by omega) (by lia);have a:x≠y:=fun z=>u (by rw[q,z]);subst G;simp[a,p]
  ·simp[G,p]) (by
  rintro w hw s h ⟨d,rfl,rfl⟩
  obtain⟨_,rfl⟩:=VR hw;obtain⟨x,r,t,q⟩:=lines j C (Nw _);have o:=B.at_;rw[q]at o;have a:x=y:=(M x).mp (by simpa using o);subst a;have P:(k:Int)+1+((j-(k+1):Nat):Int)=(j:Int):=by omega
  have E:=Qaf t;rw[P]
  have A:lev (ls.map cdL) (k+1+(0+(j-(k+1))))-lev (ls.map cdL) (k+1)=0:=by
   rw[show k+1+(0+(j-(k+1)))=j by lia,B.lv];lia
  rw[A]
  exact⟨_,rfl,by simp[E]⟩)
 simp[Jo,Qx,K3,O,f]
theorem Xb{lo c:Int}(h:(ZO lo c n)[j]?=some w):j<n/\w=.int (lo+(j:Int)*c):=by
 have a:=(Ng.mp h).1;simp[ZO]at a;refine⟨a,?_⟩;unfold ZO at h;rw[Nz,Df a]at h;cases h;rfl
noncomputable abbrev hS(ls:List Ln)(k:Nat)(a j:Option W):MSt:=[some (.tup (ls.map Qn)),some (.int k),a,j]
theorem QiJ{ls:List Ln}{k j:Nat}(s:∀l∈ls,∃x r,l=x::r)(H:ls.length<=100000)(A:k<=ls.length)(B:Ahd (ls.map cdL) k j):Vi [.tup (ls.map Qn),.int k] h=some (.int j,h):=by
 refine Qv (g:=[]) (by simp) ?_ rfl;have v:=B.lt;have I:∀c,QgQ (Qa (Qe UQ (Qb 1) (mC (.int 1))) (Qa (mUn U9 (mC (.int 1))) (Qa (mUn U9 (mC (.int 1))) Qd))) (hS ls k (some (.int 0)) c) []=some (ZO ((k:Int)-1) (-1) k,none,[]):=fun c=>QnC rfl rfl rfl (Nf (Nh A H) (by decide))
 have lines:∀i,i<k->∃x r,ls[i]?=some (x::r)/\(ls.map cdL)[i]?=some (cd x):=fun i C=>by
  have f:i<ls.length:=by exact Nd C A
  obtain⟨x,r,e⟩:=s ls[i] (Ez f);have D:ls[i]?=some (x::r):=by rw[Nl f,e]
  exact⟨x,r,D,by rw[Nz,D];rfl⟩
 have E:(ZO ((k:Int)-1) (-1) k).length=k:=by simp[ZO]
 have d:=Qad (items:=ZO ((k:Int)-1) (-1) k) (b:=JM 3) (body:=KL) (fun n o h=>∃c,o=hS ls k (some (.int (lev (ls.map cdL) k-lev (ls.map cdL) (k-n)))) c/\h=[]) (.int j) [] (ZO ((k:Int)-1) (-1) k) 0 (k-1-j) (hS ls k (some (.int 0)) none) [] ⟨none,by simp,rfl⟩ (by rw[E];omega) (by
  rintro i w C hw o h ⟨c,rfl,rfl⟩
  obtain⟨_,rfl⟩:=Xb hw;obtain⟨x,r,p,y⟩:=lines (k-1-i) (by omega);have z:(k:Int)-1+(i:Int)*-1=((k-1-i:Nat):Int):=by lia
  have m:=Qaf p;have q:=ZZ y;rw[NX,z];generalize L:((k-1-i:Nat):Int)=t at m;refine⟨hS ls k (some (.int (lev (ls.map cdL) k-lev (ls.map cdL) (k-i)))) (some (.int t)),rfl,hS ls k (some (.int (lev (ls.map cdL) k-lev (ls.map cdL) (k-(i+1))))) (some (.int t)),[],?_,_,rfl,rfl⟩
  have a:lev (ls.map cdL) k-lev (ls.map cdL) (k-(i+1))=lev (ls.map cdL) k-lev (ls.map cdL) (k-i)+ch (cd x):=by
   rw[show k-i=k-1-i+1 by lia,q,show k-(i+1)=k-1-i by lia];lia
  have G:=B.no (k-1-i) (by lia) (by lia);have u:lev (ls.map cdL) k-lev (ls.map cdL) (k-i)+ch (cd x)≠1:=by rw[<-a,show k-(i+1)=k-1-i by omega];lia
  rw[a];simp[m,u]) (by
  rintro w hw o h ⟨c,rfl,rfl⟩
  obtain⟨_,rfl⟩:=Xb hw;obtain⟨x,r,p,y⟩:=lines j v;have z:(k:Int)-1+((k-1-j:Nat):Int)*-1=(j:Int):=by omega
  have m:=Qaf p;have q:=ZZ y;rw[z]
  have a:lev (ls.map cdL) k-lev (ls.map cdL) (k-(0+(k-1-j)))+ch (cd x)=1:=by
   rw[show k-(0+(k-1-j))=j+1 by lia,q];have:=B.lv;lia
  rw[NX]at a ⊢
  exact⟨_,rfl,by simp[m,a]⟩)
 simp[XA,Qx,K3,I,d]
theorem Qcg(x:Str):cd x=cd "end"↔x="end":=by
 rcases JC (x:=x)with⟨rfl,a⟩|⟨rfl,a⟩|⟨rfl,a⟩|⟨rfl,a⟩|⟨⟨e,d,c,b⟩,a⟩<;>simp[a,U0, *]
theorem QcD(x:Str):cd x=cd "or"↔x="or":=by
 rcases JC (x:=x)with⟨rfl,a⟩|⟨rfl,a⟩|⟨rfl,a⟩|⟨rfl,a⟩|⟨⟨e,d,c,b⟩,a⟩<;>simp[a,QjG, *]
theorem Qgl{ls:List Ln}(a:∀l∈ls,∃x r,l=x::r)(b:ls.length<=100000)(B:Beh (ls.map cdL) k .en j):JK [.tup (ls.map Qn),.int k] h=some (.int j,h):=by
 refine Qv (g:=[]) (by simp) ?_ rfl;have e:∀h,QM [.tup (ls.map Qn),.int k,.str "end"] h=some (.int j,h):=fun h=>UU a b Qcg (by rw[U0];exact B);simp[Kt,Qx,e]
theorem Qnw{ls:List Ln}(a:∀l∈ls,∃x r,l=x::r)(b:ls.length<=100000)(B:Beh (ls.map cdL) k .oo j):Yp [.tup (ls.map Qn),.int k] h=some (.int j,h):=by
 refine Qv (g:=[]) (by simp) ?_ rfl;have e:∀h,QM [.tup (ls.map Qn),.int k,.str "or"] h=some (.int j,h):=fun h=>UU a b QcD (by rw[QjG];exact B);simp[YO,Qx,e]
@[simp]theorem Qpv(hw:pur w=true)(c:pur p=true)(a:pur e=true)(f:pur b=true)(d:pur k=true):ZN [.tup [w,p,e,b],k] h=some (.tup [w,p,k,.bl false],h):=by
 refine Qv (g:=[]) (by simp[hw,c,a,f,d]) ?_ (by simp[hw,c,d]);simp[Ko,Qx]
@[simp]theorem Qqv(hw:pur w=true)(c:pur p=true)(a:pur e=true)(f:pur b=true)(d:pur k=true):Xc [.tup [w,p,e,b],k] h=some (.tup [w,p,k,.bl true],h):=by
 refine Qv (g:=[]) (by simp[hw,c,a,f,d]) ?_ (by simp[hw,c,d]);simp[XI,Qx]
@[simp]theorem QpU:wIx (Q3 p) (.int i) h=@om _ _ (fun w=>(w,h)) (atI (p.map Vq) i):=by unfold Q3;simp
@[simp]theorem QoZ:wIx (Vq x) (.int 1) h=some (.tup (x.2.map Qn),h):=by unfold Vq;simp
@[simp]theorem Qom:wIx (Vq x) (.int 0) h=some (.str x.1,h):=by unfold Vq;simp
@[simp]theorem QoK:wIx (K8 q) (.int 0) h=some (.int q.1,h):=by unfold K8;simp
@[simp]theorem QpD:wIx (K8 q) (.int 1) h=some (.int q.2,h):=by unfold K8;simp
structure SV(p:List Pt)(s:Spt):Prop where
 ex:∃x,p[s.part]?=some x/\s.k<=x.2.length/\(s.head=true->∃r,x.2[s.k]?=some (("again":Str)::r))
 way:∀q∈s.way,∃x,p[q.1]?=some x/\q.2<x.2.length
theorem XE{p:List Pt}{i:Nat}(h:p[i]?=some x):atI (p.map Vq) (i:Int)=some (Vq x):=by rw[QN,Nz,h];rfl
theorem QdT{p:List Pt}{s:Spt}(c:p[s.part]?=some x)(d:s.head=true\/s.k=x.2.length):QD [Q3 p,Q2 s] h=some (.non,h):=by
 refine Qv (g:=[]) (by simp) ?_ rfl;obtain⟨e,part,k,head⟩:=s;have b:=XE c;simp only at b d c
 by_cases a:head=true
 ·simp[Q6,Qx,Q2,b,a]
 ·have f:k=x.2.length:=by rcases d with z|z;exact absurd z a;exact z
  simp[Q6,Qx,Q2,b,a,f]
theorem QcA{p:List Pt}{s:Spt}(c:p[s.part]?=some x)(f:s.head=false)(d:x.2[s.k]?=some l):QD [Q3 p,Q2 s] h=some (Qn l,h):=by
 refine Qv (g:=[]) (by simp) ?_ (by simp);obtain⟨m,part,k,head⟩:=s;have i:=XE c;have j:=Qaf d;have e:=(Ng.mp d).1;simp only at i f c j e;have b:¬(k:Int)=x.2.length:=by lia
 have a:¬k=x.2.length:=by exact NM e
 simp[Q6,Qx,Q2,i,f,j,b,a]
@[simp]theorem Qmm:VH [] h=some (Q2 ⟨[],0,0,false⟩,h):=by
 refine Qv (g:=[]) (by simp) ?_ (by simp);simp[Va,Qx,Q2]
theorem Qjk{ns:List Str}:∀{j:Nat},ns.findIdx? (·==x)=some j->(ns.map W.str).findIdx? (fun y=>eqW y (.str x))=some j:=by
 intro j h;rw[List.findIdx?_map];rw[<-h];congr 1
theorem Gg{j:Nat}(f:(p.map (·.1)).findIdx? (·==nm)=some j)(e:p.length<=100):QB [Q3 p,.str nm] h=some (.int j,h):=by
 refine Qv (g:=[]) (by simp) ?_ rfl
 have b:=JT (fin:=VL) (mi:=Zl (Qb 0)) (cp:=[none]) (me:=Qe wIx (Qb 0) (mC (.int 0))) (σ:=[some (Q3 p),some (.str nm)]) (caps:=[]) (h:=[]) (items:=p.map Vq) (fun w=>match w with|.tup (a::_)=>a|w=>w) rfl ⟨_,rfl⟩ (fun w hw=>by
  obtain⟨x,_,rfl⟩:=NT.mp hw
  simp[Vq]) (by simp;exact KS (Nn (Nf e (by decide))))
 have d:(p.map Vq).map (fun w=>match w with|.tup (a::_)=>a|w=>w)=(p.map (·.1)).map W.str:=by simp[Vq,OE]
 rw[d]at b;simp only[VL]at b
 have ei:UO (.lst ((p.map (·.1)).map W.str)) [.str nm] []=some (.int j,[]):=by
  unfold UO;simp only[lsW,Nv];rw[Kp [] (.str nm) 40 rfl (by simp[dep]),V8 [] _ 40 XX (Nh WE (by decide)),Nv,Nv,Qjk f];rfl
 rw[N8]at b ei;simp[JJ,Qx,b,ei]
open My5
noncomputable def Wt:Nat->Nat
 |0=>65330
 |i+1=>(4-i)*702
theorem Qd8{i q:Nat}(h:i+1<=q):Wt q<=Wt (i+1):=by
 obtain⟨r,rfl⟩:∃r,q=r+1:=⟨q-1,by lia⟩
 show(4-r)*702<=(4-i)*702;exact Da _ (by omega)
theorem Qlz{i:Nat}(h:i<=4):700+Qgz i*(Wt (i+1)+2)<=Wt i:=by
 match i,h with
 |0,_=>decide
 |1,_=>decide
 |2,_=>decide
 |3,_=>decide
 |4,_=>decide
theorem Qdv{i:Nat}:Wt i<=65330:=by
 match i with
 |0=>exact Nw _
 |i+1=>
  show(4-i)*702<=_;have:(4-i)*702<=4*702:=Da _ (NZ _ _);lia
noncomputable def cst(i:Nat)(l:Ln):Nat:=if Vn l=true then Wt (i+1)+2 else 1
noncomputable def rem(x:Pt)(i k:Nat):Nat:=((x.2.drop k).map (cst i)).sum
theorem Ue{x:Pt}{i k:Nat}{l:Ln}(h:x.2[k]?=some l):rem x i k=cst i l+rem x i (k+1):=by
 obtain⟨a,rfl⟩:=Ng.mp h;unfold rem;rw[Ea a,NA,DP]
theorem QcJ{x:Pt}{i:Nat}:∀{j k:Nat},k<j->k<x.2.length->rem x i j<rem x i k
 |0,_,h,_=>by lia
 | j+1,k,h,a=>by
  have f:=Ue (i:=i) (Nl a);have g:1<=cst i x.2[k]:=by unfold cst;split<;>lia
  by_cases e:j=k
  ·subst e;lia
  ·by_cases b:j<x.2.length
   ·have d:=QcJ (x:=x) (i:=i) (j:=j) (k:=k) (by lia) a;have c:=Ue (i:=i) (Nl b);exact Nf (Nh (E8 _ _) (Nt c.symm)) d
   ·have:rem x i (j+1)=0:=by unfold rem;rw[Ee (Nh (NN.mp b) (Nm _ _))];rfl
    lia
theorem Qac{i:Nat}:∀(ls:List Ln),(ls.map (cst i)).sum=ls.length+dcn ls*(Wt (i+1)+1)
 |[]=>by simp[dcn]
 |l::ls=>by
  have a:=Qac (i:=i) ls;unfold dcn at a ⊢;rw[NA,DP,a,Fc,NP,cst]
  by_cases h:Vn l=true
  ·rw[if_pos h,if_pos h,Ig,Nat.one_mul];lia
  ·rw[if_neg h,if_neg h,show List.countP Vn ls+0=List.countP Vn ls from rfl];lia
theorem Qkf{x:Pt}{i k:Nat}(d:x.2.length<=700)(hd:dcn x.2<=Qgz i)(hi:i<=4):rem x i k<=Wt i:=by
 have c:rem x i 0<=Wt i:=by
  unfold rem;rw[List.drop_zero,Qac];have:=Qlz hi;have:dcn x.2*(Wt (i+1)+1)<=Qgz i*(Wt (i+1)+2):=Nat.mul_le_mul hd (Nn (NO (by decide) _));lia
 by_cases a:0<k
 ·by_cases b:0<x.2.length
  ·have:=QcJ (x:=x) (i:=i) a b;exact Nn (Nd this c)
  ·unfold rem;rw[Ee (Nn (Nf (NN.mp b) a))];simp
 ·rw[show k=0 by exact Eh (NN.mp a) (NJ _)];exact c
noncomputable def QeI(p:List Pt)(i k:Nat):Nat:=match p[i]? with
 |some x=>rem x i k
 |none=>0
theorem Yr{p:List Pt}{i k:Nat}{x:Pt}(h:p[i]?=some x):QeI p i k=rem x i k:=by unfold QeI;rw[h]
def RL(p:List Pt):Prop:=∀i k,QeI p i k<=Wt i
theorem QlW{p:List Pt}{bs ws:List Str}(b:GoodP 700 bs ws p):RL p:=by
 intro i k;unfold QeI;split
 ·rename_i x a;have d:=(Ng.mp a).1;have c:=b.len;exact Qkf (b.sz x (NI.mpr ⟨i,a⟩)) (b.dos i x a) (by lia)
 ·exact NJ _
noncomputable def QfS(p:List Pt)(w:List (Nat×Nat)):Nat:=(w.map fun q=>1+QeI p q.1 (q.2+1)).sum
theorem Gp{p:List Pt}{w:List (Nat×Nat)}{q:Nat×Nat}:QfS p (w++[q])=QfS p w+(1+QeI p q.1 (q.2+1)):=by simp[QfS]
noncomputable def rk(p:List Pt)(s:Spt):Nat:=if s.head=true then 0 else 1+QeI p s.part s.k+QfS p s.way
theorem Ys{p:List Pt}{a:List (Nat×Nat)}{part k:Nat}:rk p ⟨a,part,k,false⟩=1+QeI p part k+QfS p a:=by unfold rk;rw[if_neg (by simp)]
theorem Qhy{p:List Pt}{a:List (Nat×Nat)}{part k:Nat}:rk p ⟨a,part,k,true⟩=0:=by unfold rk;rw[if_pos rfl]
structure SW(s:Spt):Prop where
 up:∀(j:Nat) (q:Nat×Nat),s.way[j]?=some q->j<=q.1
 le:s.way.length<=s.part
theorem QcR{p:List Pt}(a:RL p):∀(w:List (Nat×Nat)),QfS p w<=w.length*65331
 |[]=>by simp[QfS]
 |q::w=>by
  have b:=QcR a w;have d:=a (q.1) (q.2+1);have c:=Qdv (i:=q.1);unfold QfS at b ⊢;rw[NA,DP,NP,Ig];lia
theorem Qhn{p:List Pt}(a:RL p){s:Spt}(hw:s.way.length<=4):rk p s<=326655:=by
 unfold rk;split
 ·exact by decide
 ·have d:=QcR a s.way;have c:=a (s.part) (s.k);have b:=Qdv (i:=s.part);have:s.way.length*65331<=4*65331:=Da _ hw;lia
structure Mono(p:List Pt)(s:Spt)(L:List Spt):Prop where
 one:∀t,L=[t]->rk p t<rk p s
 two:∀a b,L=[a,b]->a.k≠b.k
theorem Qfb{p:List Pt}{s:Spt}:Mono p s []:=⟨fun _ h=>by simp at h,fun _ _ h=>by simp at h⟩
theorem K7{p:List Pt}{s t:Spt}(h:rk p t<rk p s):Mono p s [t]:=⟨fun u e=>by simp at e;rw[<-e];exact h,fun _ _ e=>by simp at e⟩
theorem Qbq{p:List Pt}{s a b:Spt}(h:a.k≠b.k):Mono p s [a,b]:=⟨fun u e=>by simp at e,fun x y e=>by simp at e;rw[<-e.1,<-e.2];exact h⟩
theorem W4{p:List Pt}{a:List (Nat×Nat)}{part k m:Nat}{x:Pt}(b:p[part]?=some x)(d:k<x.2.length)(c:k<m):Mono p ⟨a,part,k,false⟩ [⟨a,part,m,false⟩]:=K7 (by
 rw[Ys,Ys,Yr b,Yr b];have:=QcJ (x:=x) (i:=part) c d
 lia)
theorem Gq{p:List Pt}{a:List (Nat×Nat)}{part k m:Nat}:Mono p ⟨a,part,k,false⟩ [⟨a,part,m,true⟩]:=K7 (by rw[Ys,Qhy];exact Nd (Nd (by decide) (Nm _ _)) (Nm _ _))
theorem Qjm{p:List Pt}(e:RL p){a:List (Nat×Nat)}{part k j:Nat}{x:Pt}{l:Ln}(b:p[part]?=some x)(c:x.2[k]?=some l)(hd:Vn l=true)(d:part+1<=j):Mono p ⟨a,part,k,false⟩ [⟨a++[(part,k)],j,0,false⟩]:=K7 (by
 rw[Ys,Ys,Gp,Yr (p:=p) (i:=part) (k:=k) b,Ue c];have h:=e (j) (0);have g:=Qd8 d;have f:cst part l=Wt (part+1)+2:=by unfold cst;rw[if_pos hd]
 rw[Yr (k:=k+1) b];show 1+QeI p j 0+(QfS p a+(1+rem x part (k+1)))<_
 lia)
theorem Qd5{p:List Pt}{r:List (Nat×Nat)}{q:Nat×Nat}{part k:Nat}:Mono p ⟨r++[q],part,k,false⟩ [⟨r,q.1,q.2+1,false⟩]:=K7 (by
 rw[Ys,Ys,Gp]
 lia)
noncomputable def Y0(p:List Pt)(l:Ln):Option Nat:=if Vn l=true then(p.map (·.1)).findIdx? (·==l.getD 1 "")else none
inductive Nx(p:List Pt):Spt->List Spt->Prop where
 |head {way:List (Nat×Nat)} {part k en:Nat} {x:Pt} {l:Ln} (hx:p[part]?=some x) (hl:x.2[k]?=some l) (hc:cdL l=.ag) (B:Beh (x.2.map cdL) k .en en):Nx p ⟨way,part,k,true⟩ [⟨way,part,en+1,false⟩,⟨way,part,k+1,false⟩]
 |fin0 {way:List (Nat×Nat)} {part k:Nat} {x:Pt} (hw:way=[]) (hx:p[part]?=some x) (hl:x.2[k]?=none):Nx p ⟨way,part,k,false⟩ []
 |fin {way r:List (Nat×Nat)} {q:Nat×Nat} {part k:Nat} {x:Pt} (hw:way=r++[q]) (hx:p[part]?=some x) (hl:x.2[k]?=none):Nx p ⟨way,part,k,false⟩ [⟨r,q.1,q.2+1,false⟩]
 |ei {way:List (Nat×Nat)} {part k md:Nat} {x:Pt} {l:Ln} (hx:p[part]?=some x) (hl:x.2[k]?=some l) (hc:cdL l=.ei) (B:Beh (x.2.map cdL) k .oo md):Nx p ⟨way,part,k,false⟩ [⟨way,part,k+1,false⟩,⟨way,part,md+1,false⟩]
 |ag {way:List (Nat×Nat)} {part k:Nat} {x:Pt} {l:Ln} (hx:p[part]?=some x) (hl:x.2[k]?=some l) (hc:cdL l=.ag):Nx p ⟨way,part,k,false⟩ [⟨way,part,k,true⟩]
 |oo {way:List (Nat×Nat)} {part k en:Nat} {x:Pt} {l:Ln} (hx:p[part]?=some x) (hl:x.2[k]?=some l) (hc:cdL l=.oo) (B:Beh (x.2.map cdL) k .en en):Nx p ⟨way,part,k,false⟩ [⟨way,part,en+1,false⟩]
 |enA {way:List (Nat×Nat)} {part k fs:Nat} {x:Pt} {l l':Ln} (hx:p[part]?=some x) (hl:x.2[k]?=some l) (hc:cdL l=.en) (A:Ahd (x.2.map cdL) k fs) (hf:x.2[fs]?=some l') (hf':cdL l'=.ag):Nx p ⟨way,part,k,false⟩ [⟨way,part,fs,true⟩]
 |enE {way:List (Nat×Nat)} {part k fs:Nat} {x:Pt} {l l':Ln} (hx:p[part]?=some x) (hl:x.2[k]?=some l) (hc:cdL l=.en) (A:Ahd (x.2.map cdL) k fs) (hf:x.2[fs]?=some l') (hf':cdL l'=.ei):Nx p ⟨way,part,k,false⟩ [⟨way,part,k+1,false⟩]
 |dd {way:List (Nat×Nat)} {part k j:Nat} {x:Pt} {l:Ln} (hx:p[part]?=some x) (hl:x.2[k]?=some l) (hc:cdL l=.ot) (hd:Vn l=true) (hj:Y0 p l=some j):Nx p ⟨way,part,k,false⟩ [⟨way++[(part,k)],j,0,false⟩]
 |ot {way:List (Nat×Nat)} {part k:Nat} {x:Pt} {l:Ln} (hx:p[part]?=some x) (hl:x.2[k]?=some l) (hc:cdL l=.ot) (hd:Vn l=false):Nx p ⟨way,part,k,false⟩ [⟨way,part,k+1,false⟩]
def NF(p:List Pt)(s:Spt)(L:List Spt):Prop:=match s.head with
 |true=>∃x en,p[s.part]?=some x/\Beh (x.2.map cdL) s.k .en en/\L=[⟨s.way,s.part,en+1,false⟩,⟨s.way,s.part,s.k+1,false⟩]
 | false=>∃x,p[s.part]?=some x/\match x.2[s.k]? with
  |none=>(s.way=[]/\L=[])\/∃r q,s.way=r++[q]/\L=[⟨r,q.1,q.2+1,false⟩]
  |some l=>match cdL l with
   |.ei=>∃b,Beh (x.2.map cdL) s.k .oo b/\L=[⟨s.way,s.part,s.k+1,false⟩,⟨s.way,s.part,b+1,false⟩]
   |.ag=>L=[⟨s.way,s.part,s.k,true⟩]
   |.oo=>∃en,Beh (x.2.map cdL) s.k .en en/\L=[⟨s.way,s.part,en+1,false⟩]
   |.en=>∃fs a,Ahd (x.2.map cdL) s.k fs/\x.2[fs]?=some a/\((cdL a=.ag/\L=[⟨s.way,s.part,fs,true⟩])\/(cdL a=.ei/\L=[⟨s.way,s.part,s.k+1,false⟩]))
   |.ot=>(Vn l=true/\∃j,Y0 p l=some j/\L=[⟨s.way++[(s.part,s.k)],j,0,false⟩])\/(Vn l=false/\L=[⟨s.way,s.part,s.k+1,false⟩])
theorem QkJ{p:List Pt}{s:Spt}{L:List Spt}(h:Nx p s L):NF p s L:=by
 cases h with
 |head a b c B=>exact⟨_,_,a,B,rfl⟩
 |fin0 hw a b=>exact⟨_,a,by rw[b];exact .inl ⟨hw,rfl⟩⟩
 |fin hw a b=>exact⟨_,a,by rw[b];exact .inr ⟨_,_,hw,rfl⟩⟩
 |ei a b c B=>exact⟨_,a,by simp only[b,c];exact⟨_,B,rfl⟩⟩
 |ag a b c=>exact⟨_,a,by simp only[b,c]⟩
 |oo a b c B=>exact⟨_,a,by simp only[b,c];exact⟨_,B,rfl⟩⟩
 |enA a b c A e d=>exact⟨_,a,by simp only[b,c];exact⟨_,_,A,e,.inl ⟨d,rfl⟩⟩⟩
 |enE a b c A e d=>exact⟨_,a,by simp only[b,c];exact⟨_,_,A,e,.inr ⟨d,trivial⟩⟩⟩
 |dd a b c hd f=>exact⟨_,a,by simp only[b,c];exact .inl ⟨hd,_,f,rfl⟩⟩
 |ot a b c hd=>exact⟨_,a,by simp only[b,c];exact .inr ⟨hd,trivial⟩⟩
theorem QkV{p:List Pt}{s:Spt}{L y:List Spt}(h:Nx p s L)(h':Nx p s y):L=y:=by
 have a:=QkJ h;have b:=QkJ h';clear h h';obtain⟨C,part,k,hd⟩:=s;cases hd with
 |true=>
  obtain⟨x,en,t,B,rfl⟩:=a;obtain⟨z,G,d,o,rfl⟩:=b;cases t.symm.trans d;rw[WJ B o]
 | false=>
  obtain⟨x,t,a⟩:=a;obtain⟨z,d,b⟩:=b;cases t.symm.trans d;dsimp only at a b;cases v:x.2[k]? with
  |none=>
   rw[v]at a b
   rcases a with⟨w,rfl⟩|⟨r,q,w,rfl⟩<;>rcases b with⟨i,rfl⟩|⟨O,P,i,rfl⟩
   ·rfl
   ·rw[w]at i;exact absurd (congrArg List.length i) (by simp)
   ·rw[w]at i;exact absurd (congrArg List.length i) (by simp)
   ·obtain⟨I,H⟩:=O3 (w.symm.trans i) rfl;cases H;rw[I]
  | some l=>
   rw[v]at a b;dsimp only at a b;cases n:cdL l with
   |ei=>
    rw[n]at a b;obtain⟨m,B,rfl⟩:=a;obtain⟨D,o,rfl⟩:=b;rw[WJ B o]
   |ag=>rw[n]at a b;exact a.trans b.symm
   |oo=>
    rw[n]at a b;obtain⟨m,B,rfl⟩:=a;obtain⟨D,o,rfl⟩:=b;rw[WJ B o]
   |en=>
    rw[n]at a b;obtain⟨f,S,A,E,a⟩:=a;obtain⟨Y,Q,N,u,b⟩:=b;cases QfB A N;cases E.symm.trans u
    rcases a with⟨c,rfl⟩|⟨c,rfl⟩<;>rcases b with⟨g,rfl⟩|⟨g,rfl⟩
    ·rfl
    ·cases c.symm.trans g
    ·cases c.symm.trans g
    ·rfl
   |ot=>
    rw[n]at a b
    rcases a with⟨c,j,e,rfl⟩|⟨c,rfl⟩<;>rcases b with⟨g,U,M,rfl⟩|⟨g,rfl⟩
    ·cases e.symm.trans M;rfl
    ·cases c.symm.trans g
    ·cases c.symm.trans g
    ·rfl
@[simp]theorem Qm5{qs:List (Nat×Nat)}:Zu (qs.map K8)=true:=QG _ Qdj
@[simp]theorem QoD:Qai (a++[x]) none (some (-1))=a:=by
 unfold Qai;have c:HT.sIx (a++[x]).length 0 none=0:=HT.sIx_none _ _
 have b:HT.sIx (a++[x]).length (a++[x]).length (some (-1))=a.length:=by
  unfold HT.sIx;simp;lia
 rw[c,b];simp
theorem Qmy(w:List (Nat×Nat))(h:w≠[]):∃r q,w=r++[q]:=⟨w.dropLast,w.getLast h,(ER h).symm⟩
def WD(p:List Pt)(s:Spt)(L:List Spt):Prop:=(∀t∈L,SV p t/\SW t)/\(Mono p s L/\Nx p s L)/\∀h:MH,Zf [Q3 p,Q2 s] h=some (.lst (L.map Q2),h)
theorem Qij{part k:Nat}(hw:∀q∈a,∃x,p[q.1]?=some x/\q.2<x.2.length)(c:p[part]?=some x)(d:k<=x.2.length)(b:SW ⟨a,part,e,f⟩):SV p ⟨a,part,k,false⟩/\SW ⟨a,part,k,false⟩:=⟨⟨⟨x,c,d,by simp⟩,hw⟩,⟨b.up,b.le⟩⟩
theorem bP{L:List Spt}(e:QK [Q3 p,Q2 s] []=some (.lst (L.map Q2),[])):Zf [Q3 p,Q2 s] h=some (.lst (L.map Q2),h):=Qv (g:=[]) (by simp) e (by simp)
theorem bI{ls:List Ln}{L:List Spt}(e:Q0 [.tup (ls.map Qn),Q2 s] []=some (.lst (L.map Q2),[])):ZI [.tup (ls.map Qn),Q2 s] h=some (.lst (L.map Q2),h):=Qv (g:=[]) (by simp) e (by simp)
theorem QcW{a:List (Nat×Nat)}{part k:Nat}(n:GoodP N bs ws p)(hN:N<=100000)(hr:RL p)(q:SV p ⟨a,part,k,true⟩)(d:SW ⟨a,part,k,true⟩):∃L,L.length<=2/\WD p ⟨a,part,k,true⟩ L:=by
 obtain⟨x,c,v,w⟩:=q.ex;have hw:=q.way;simp only at c v hw;obtain⟨r,b⟩:=w rfl;simp only at b;have s:=NI.mpr ⟨part,c⟩;have g:=n.ok part x c;have i:∀l∈x.2,∃y r,l=y::r:=fun l t=>VS (g l t);have f:=n.sz x s;have F:=UL (n.bal x s);obtain⟨en,e⟩:=F.ag k (by rw[Nz,b];show some (cd "again")=_;rw[Kj]);have o:en<x.2.length:=by have:=(Ng.mp e.at_).1;simpa using this
 have m:=(Ng.mp b).1;have A:∀h,JK [.tup (x.2.map Qn),.int k] h=some (.int en,h):=fun h=>Qgl i (Nh f hN) e;have z:=XE c;have j:k<en:=e.lt;refine⟨[⟨a,part,en+1,false⟩,⟨a,part,k+1,false⟩],by simp,?_,⟨Qbq (show en+1≠k+1 by exact DF (Fe j _)),.head c b Kj e⟩,fun h=>?_⟩
 ·intro u hu;simp at hu
  rcases hu with rfl|rfl
  ·exact Qij hw c o d
  ·exact Qij hw c m d
 ·refine bP ?_;simp[QK,Qx,Q2,z,A]
theorem W7{part k:Nat}(o:GoodP N bs ws p)(hN:N<=100000)(hr:RL p)(n:SV p ⟨a,part,k,false⟩)(d:SW ⟨a,part,k,false⟩)(e:p[part]?=some x)(i:k=x.2.length):∃L,L.length<=2/\WD p ⟨a,part,k,false⟩ L:=by
 have hw:=n.way;simp only at hw;have l:=XE e;have en:∀h,QD [Q3 p,Q2 ⟨a,part,k,false⟩] h=some (.non,h):=fun h=>QdT e (.inr i);simp only[Q2]at en
 by_cases b:a=[]
 ·subst b
  have c:∀h,JR [Q2 ⟨[],part,k,false⟩] h=some (.lst [],h):=fun h=>by
   refine Qv (g:=[]) (by simp) ?_ (by simp);simp[Jz,Qx,Q2]
  simp only[Q2]at c;refine⟨[],by simp,by simp,⟨Qfb,.fin0 rfl e (Eg (Nt i.symm))⟩,fun h=>?_⟩
  ·refine bP ?_;simp at en c;simp[QK,Qx,Q2,l,en,c]
 ·obtain⟨r,q,rfl⟩:=Qmy a b;obtain⟨y,m,f⟩:=hw q (by simp)
  have c:∀h,JR [Q2 ⟨r++[q],part,k,false⟩] h=some (.lst [Q2 ⟨r,q.1,q.2+1,false⟩],h):=fun h=>by
   refine Qv (g:=[]) (by simp) ?_ (by simp);simp[Jz,Qx,Q2]
  simp only[Q2]at c;refine⟨[⟨r,q.1,q.2+1,false⟩],by simp,?_,⟨Qd5,.fin rfl e (Eg (Nt i.symm))⟩,fun h=>?_⟩
  ·intro u hu;simp at hu;subst hu;exact⟨⟨⟨y,m,by show q.2+1<=_;exact f,by simp⟩,fun z b=>hw z (by simp;exact .inl b)⟩,⟨fun j z b=>d.up j z (by show(r++[q])[j]?=_;rw[NQ (Ng.mp b).1];exact b),d.up r.length q (by simp)⟩⟩
  ·refine bP ?_;simp at en c;simp[QK,Qx,Q2,l,en,c]
theorem Yo(h:LineOk bs ws b (x::r))(hd:x="do"):∃nm,r=[nm]/\nm∈b:=by
 subst hd;generalize a:(("do":Str)::r)=l at h;cases h with
 |plain h=>cases h<;>simp at a
 |«do» h=>simp at a;exact⟨_,a,h⟩
 |blk h=>rcases h with rfl|rfl|rfl|rfl<;>simp at a
 |back h=>simp at a
theorem QnY(h:cd x=.ag):x="again":=by
 rcases JC (x:=x)with⟨rfl,a⟩|⟨rfl,a⟩|⟨rfl,a⟩|⟨rfl,a⟩|⟨_,a⟩
 ·rw[a]at h;cases h
 ·rfl
 ·rw[a]at h;cases h
 ·rw[a]at h;cases h
 ·rw[a]at h;cases h
theorem Qav{ns:List Str}(h:nm∈ns):∃j,ns.findIdx? (·==nm)=some j/\j<ns.length:=by
 cases e:ns.findIdx? (·==nm)with
 |none=>
  rw[Fm]at e;have:=e nm h;simp at this
 |some j=>
  refine⟨j,rfl,?_⟩;rw[Ep]at e;exact e.1
theorem Xx{ns:List Str}(n:ns.Nodup)(h:nm∈ns.drop (m+1))(f:ns.findIdx? (·==nm)=some j):m+1<=j:=by
 obtain⟨i,g⟩:=NI.mp h;rw[Ou]at g;obtain⟨d,e⟩:=Ng.mp g;rw[Ep]at f;obtain⟨c,b,_⟩:=f;simp at b;have l:=E4.mp n
 by_cases a:j<m+1+i
 ·exact absurd (b.trans e.symm) (l j (m+1+i) c d a)
 ·exact Nh (Nm _ _) (NN.mp a)
noncomputable abbrev iS(a:List (Nat×Nat))(part k:Nat)(x:Pt)(y:Str):MSt:=[some (.tup (x.2.map Qn)),some (.tup [.tup (a.map K8),.int part,.int k,.bl false]),some (.int k),some (.str y)]
theorem QcG{a:List (Nat×Nat)}{part k:Nat}{l:Ln}(Y:GoodP N bs ws p)(hN:N<=100000)(hr:RL p)(hs:SV p ⟨a,part,k,false⟩)(d:SW ⟨a,part,k,false⟩)(c:p[part]?=some x)(f:x.2[k]?=some l):∃L,L.length<=2/\WD p ⟨a,part,k,false⟩ L:=by
 have hw:=hs.way;simp only at hw;have hm:=NI.mpr ⟨part,c⟩;have O:=Y.ok part x c;have A:∀l∈x.2,∃y r,l=y::r:=fun l f=>VS (O l f);have C:=Y.sz x hm;have F:=UL (Y.bal x hm);have b:=(Ng.mp f).1;obtain⟨y,r,rfl⟩:=A l (NI.mpr ⟨k,f⟩);have G:(x.2.map cdL)[k]?=some (cd y):=by rw[Nz,f];rfl
 have ep:=XE c;have el:=Qaf f;have g:∀h,QD [Q3 p,Q2 ⟨a,part,k,false⟩] h=some (Qn (y::r),h):=fun h=>QcA c rfl f;simp only[Q2]at g;have nk:¬(k:Int)=x.2.length:=by lia
 have ak:¬k=x.2.length:=by exact NM b
 have nl:Xu (Qn (y::r))=false:=rfl;have Z:∀m,m<=x.2.length->SV p ⟨a,part,m,false⟩/\SW ⟨a,part,m,false⟩:=fun m hm=>Qij hw c hm d;have one:∀(u:Spt),(SV p u/\SW u)->∀t∈[u],SV p t/\SW t:=fun u hu t ht=>by rw[NR.mp ht];exact hu
 -- aj B aa
 have up:y≠"do"->∀(L:List Spt),(∀h,ZI [.tup (x.2.map Qn),.tup [.tup (a.map K8),.int part,.int k,.bl false]] h=some (.lst (L.map Q2),h))->∀h,Zf [Q3 p,Q2 ⟨a,part,k,false⟩] h=some (.lst (L.map Q2),h):=fun hd L e h=>by
  refine bP ?_;simp[QK,Qx,Q2,ep,g,nl,hd,e]
 have H:Q0 [.tup (x.2.map Qn),Q2 ⟨a,part,k,false⟩] []=Qjw (QC (iS a part k x y) []):=by
  simp[Q0,Qx,Q2,el]
 rcases JC (x:=y)with⟨rfl,n⟩|⟨rfl,n⟩|⟨rfl,n⟩|⟨rfl,n⟩|⟨⟨n1,n2,n3,n4⟩,n⟩
 ·obtain⟨I,o⟩:=F.ei k (by rw[G,n]);have ab:I<x.2.length:=by have:=(Ng.mp o.at_).1;simpa using this
  have eo:∀h,Yp [.tup (x.2.map Qn),.int k] h=some (.int I,h):=fun h=>Qnw A (Nh C hN) o;have D:k<I:=o.lt;refine⟨[⟨a,part,k+1,false⟩,⟨a,part,I+1,false⟩],by simp,?_,⟨Qbq (show k+1≠I+1 by exact NM (Fe D _)),.ei c f n o⟩,up (by simp) _ fun h=>?_⟩
  ·intro u hu;simp at hu
   rcases hu with rfl|rfl
   ·exact Z _ b
   ·exact Z _ ab
  ·refine bI (s:=⟨a,part,k,false⟩) ?_;rw[H];simp[QC,Q2,eo]
 ·refine⟨[⟨a,part,k,true⟩],by simp,one _ ⟨⟨⟨x,c,by show k<=_;exact Nn b,fun _=>⟨r,f⟩⟩,hw⟩,⟨d.up,d.le⟩⟩,⟨Gq,.ag c f n⟩,up (by simp) _ fun h=>?_⟩
  ·refine bI (s:=⟨a,part,k,false⟩) ?_;rw[H];simp[QC,Q2]
 ·obtain⟨en,o⟩:=F.oo k (by rw[G,n]);have ah:en<x.2.length:=by have:=(Ng.mp o.at_).1;simpa using this
  have ee:∀h,JK [.tup (x.2.map Qn),.int k] h=some (.int en,h):=fun h=>Qgl A (Nh C hN) o;have D:k<en:=o.lt;refine⟨[⟨a,part,en+1,false⟩],by simp,one _ (Z _ ah),⟨W4 c b (Nd D (Nm _ _)),.oo c f n o⟩,up (by simp) _ fun h=>?_⟩
  ·refine bI (s:=⟨a,part,k,false⟩) ?_;rw[H];simp[QC,Q2,ee]
 ·obtain⟨fs,o,h4⟩:=F.en k (by rw[G,n]);have eh:∀h,Vi [.tup (x.2.map Qn),.int k] h=some (.int fs,h):=fun h=>QiJ A (Nh C hN) (Nn b) o;have E:fs<x.2.length:=by have:=o.lt;exact NW this b
  obtain⟨z,r',hz⟩:=A x.2[fs] (Ez E);have v:x.2[fs]?=some (z::r'):=by rw[Nl E,hz]
  have ef:=Qaf v;have ai:(x.2.map cdL)[fs]?=some (cd z):=by rw[Nz,v];rfl
  by_cases ha:z="again"
  ·subst ha;refine⟨[⟨a,part,fs,true⟩],by simp,one _ ⟨⟨⟨x,c,by show fs<=_;exact Nn E,fun _=>⟨r',v⟩⟩,hw⟩,⟨d.up,d.le⟩⟩,⟨Gq,.enA c f n o v Kj⟩,up (by simp) _ fun h=>?_⟩
   ·refine bI (s:=⟨a,part,k,false⟩) ?_;rw[H];simp[QC,Q2,eh,ef]
  ·refine⟨[⟨a,part,k+1,false⟩],by simp,one _ (Z _ b),⟨W4 c b (N1 _),.enE c f n o v (by rcases h4 with q|q<;>rw[ai]at q<;>first|exact N5 q|exact absurd (QnY (N5 q)) ha)⟩,up (by simp) _ fun h=>?_⟩
   ·refine bI (s:=⟨a,part,k,false⟩) ?_;rw[H];simp[QC,Q2,eh,ef,ha]
 ·by_cases hd:y="do"
  ·obtain⟨nm,rfl,P⟩:=Yo (O _ (NI.mpr ⟨k,f⟩)) hd;subst hd;obtain⟨j,hj,ae⟩:=Qav (DC P);have M:=Xx Y.nd P hj;have Q:=Y.len;have en:∀h,QB [Q3 p,.str nm] h=some (.int j,h):=fun h=>Gg hj (Nn (Nf Q (by decide)));have U:j<p.length:=by simpa using ae
   have s1:a.length+1<=sizeLine:=KS (by have:=d.le;have:=(Ng.mp c).1;simp only at *;lia);refine⟨[⟨a++[(part,k)],j,0,false⟩],by simp,one _ ⟨⟨⟨p[j],Nl U,NJ _,by simp⟩,?_⟩,?_⟩,⟨Qjm hr c f (by show(("do":Str)=="do")=true;decide) M,.dd c f n (by show(("do":Str)=="do")=true;decide) (by show(if Vn (["do",nm]:Ln)=true then _ else none)=some j;rw[if_pos (by show(("do":Str)=="do")=true;decide)];exact hj)⟩,fun h=>?_⟩
   ·intro q w;simp at w
    rcases w with w|rfl
    ·exact hw q w
    ·exact⟨x,c,b⟩
   ·refine⟨fun i q w=>?_,by have:=d.le;simp at this ⊢;exact Nh (DB this _) M⟩;have af:=(Ng.mp w).1;simp at af;have S:=d.le;simp only at S w
    by_cases hi:i<a.length
    ·rw[NQ hi]at w;exact d.up i q w
    ·have:i=a.length:=by lia
     subst this;simp at w;subst w;exact S
   ·refine bP ?_;simp[QK,Qx,Q2,ep,g,nl,en,s1,K8]
  ·refine⟨[⟨a,part,k+1,false⟩],by simp,one _ (Z _ b),⟨W4 c b (N1 _),.ot c f n (by show(y==("do":Str))=false;simpa using hd)⟩,up hd _ fun h=>?_⟩
   ·refine bI (s:=⟨a,part,k,false⟩) ?_;rw[H];simp[QC,Q2,n1,n2,n3,n4]
theorem QhL(d:GoodP N bs ws p)(hN:N<=100000)(hr:RL p)(b:SV p s)(a:SW s):∃L,L.length<=2/\WD p s L:=by
 obtain⟨e,part,k,head⟩:=s;cases head with
 |true=>exact QcW d hN hr b a
 |false=>
  obtain⟨x,c,f,_⟩:=b.ex;simp only at c f
  by_cases z:k=x.2.length
  ·exact W7 d hN hr b a c z
  ·exact QcG d hN hr b a c (Nl (by lia))
open Classical in
noncomputable def nx(p:List Pt)(s:Spt):List Spt:=if h:∃L,L.length<=2/\WD p s L then h.choose else[]
theorem YC(c:GoodP N bs ws p)(hN:N<=100000)(hr:RL p)(b:SV p s)(a:SW s):(nx p s).length<=2/\WD p s (nx p s):=by
 have h:=QhL c hN hr b a;unfold nx;rw[dif_pos h];exact h.choose_spec
noncomputable def pk(a b:Spt)(c:Nat):Spt:=if c=0 then a else b
inductive Go(p:List Pt):Spt->List Nat->List Spt->List Nat->Prop where
 |stop {s:Spt} {cs:List Nat} (h:nx p s=[]):Go p s cs [] cs
 |one {s t:Spt} {cs cs':List Nat} {tr:List Spt} (h:nx p s=[t]) (g:Go p t cs tr cs'):Go p s cs (t::tr) cs'
 |wait {s a b:Spt} (h:nx p s=[a,b]):Go p s [] [] []
 |two {s a b:Spt} {c:Nat} {cs cs':List Nat} {tr:List Spt} (h:nx p s=[a,b]) (hc:c<=1) (g:Go p (pk a b c) cs tr cs'):Go p s (c::cs) (pk a b c::tr) cs'
theorem Qlc(h:L.length<=2):L=[]\/(∃t,L=[t])\/∃a b,L=[a,b]:=by
 match L,h with
 |[],_=>exact .inl rfl
 |[t],_=>exact .inr (.inl ⟨t,rfl⟩)
 |[a,b],_=>exact .inr (.inr ⟨a,b,rfl⟩)
 |_::_::_::_,h=>simp at h
theorem sv4(d:GoodP N bs ws p)(hN:N<=100000)(hr:RL p)(c:SV p s)(a:SW s):s.way.length<=4:=by
 obtain⟨x,b,_⟩:=c.ex;have g:=(Ng.mp b).1;have f:=d.len;have e:=a.le;lia
theorem Qfa(c:GoodP N bs ws p)(hN:N<=100000)(hr:RL p)(b:SV p s)(a:SW s)(h:t∈nx p s):SV p t/\SW t:=(YC c hN hr b a).2.1 t h
theorem Gb:pk a b c∈[a,b]:=by unfold pk;split<;>simp
theorem QlG(m:GoodP N bs ws p)(hN:N<=100000)(hr:RL p):∀(n:Nat) (s:Spt) (d:List Nat),SV p s->SW s->(∀c∈d,c<=1)->rk p s+d.length*326656<=n->∃j h,Go p s d j h/\j.length<=n:=by
 intro n
 induction n with
 | zero=>
  intro s d l f q r;obtain⟨i,u⟩:=YC m hN hr l f
  rcases Qlc i with e|⟨t,e⟩|⟨a,b,e⟩
  ·exact⟨[],d,.stop e,Nw _⟩
  ·have:=u.2.1.1.one t e;lia
  ·cases d with
   |nil=>exact⟨[],[],.wait e,Nw _⟩
   |cons c d=>rw[NP,Ig]at r;lia
 | succ n v=>
  intro s d l f q r;obtain⟨i,u⟩:=YC m hN hr l f
  rcases Qlc i with e|⟨t,e⟩|⟨a,b,e⟩
  ·exact⟨[],d,.stop e,NJ _⟩
  ·have y:=u.2.1.1.one t e;obtain⟨v1,o⟩:=Qfa m hN hr l f (t:=t) (by rw[e];simp);obtain⟨j,h,g,i⟩:=v t d v1 o q (by lia);exact⟨t::j,h,.one e g,by simp;exact i⟩
  ·cases d with
   |nil=>exact⟨[],[],.wait e,NJ _⟩
   |cons c d=>
    obtain⟨v1,o⟩:=Qfa m hN hr l f (t:=pk a b c) (by rw[e];exact Gb);rw[NP,Ig]at r;have y:=Qhn hr (s:=pk a b c) (sv4 m hN hr v1 o);obtain⟨j,h,g,i⟩:=v (pk a b c) d v1 o (fun x w=>q x (Nu _ w)) (by lia);exact⟨pk a b c::j,h,.two e (q c Ny) g,by simp;exact i⟩
noncomputable def Yg(a:List Nat):List W:=a.map fun(c:Nat)=>.int (c:Int)
@[simp]theorem Qmk:(Yg a).length=a.length:=by simp[Yg]
@[simp]theorem Qpa:Zu (Yg b)=true:=by
 induction b with
 |nil=>rfl
 |cons c b a=>unfold Yg at a ⊢;simp[a]
@[simp]theorem QkF:Yg (c::a)=.int (c:Int)::Yg a:=id rfl
@[simp]theorem Qmh:Yg (a++b)=Yg a++Yg b:=by simp[Yg]
theorem Qp0:atI (Yg a++.int (c:Int)::Yg b) (a.length:Int)=some (.int (c:Int)):=by
 rw[QN,N2 (by simp)];simp
theorem QnA{c:Nat}(h:c<=1):atI [Q2 a,Q2 b] (c:Int)=some (Q2 (pk a b c)):=by
 rw[QN]
 match c,h with
 |0,_=>rfl
 |1,_=>rfl
@[simp]theorem QmJ:atI (xs++[x,y]) (-1)=some y:=by rw[show xs++[x,y]=(xs++[x])++[y] by simp];exact Mi.W2 _ _
theorem Qbu(e:t σ h=some (true,h))(a:body σ h=some (.nx σ2 h2)):QQ t body (f+1) σ h=QQ t body f σ2 h2:=by
 rw[QQ,e];simp only[Nv,a]
theorem Gx(e:t σ h=some (false,h)):QQ t body (f+1) σ h=some (.nx σ h):=by rw[QQ,e];rfl
theorem szN(h:n+m<=16000000):n<sizeLine:=Nf (show n<=16000000 by exact Nh (Nm _ _) h) (by decide)
noncomputable abbrev tR:MT:=QdQ (Qm (Qe wEq (mFn Vp (Qa (Qb 4) Qd)) (mC (.int 1)))) (Xl (Qm (Qe wEq (mFn Vp (Qa (Qb 4) Qd)) (mC (.int 2)))) (Qm (Qe wLt (Qb 3) (mFn Vp (Qa (Qb 1) Qd)))))
noncomputable abbrev rS(p:List Pt)(all:List Nat)(u:Nat)(L:List Spt):MSt:=[some (Q3 p),some (.lst (Yg all)),some (.ref 0),some (.int u),some (.lst (L.map Q2))]
noncomputable abbrev rH(R:List Spt)(s:Spt):MH:=[.lst (R.map Q2++[Q2 s])]
theorem QeU{bs ws:List Str}(q:GoodP N bs ws p)(hN:N<=100000)(hr:RL p)(g:Go p s d i j):∀(R:List Spt) (pre:List Nat) (f:Nat),SV p s->SW s->i.length<f->R.length+1+i.length<=16000000 ->
  ∃(v:Nat) (L:List Spt),v+j.length=pre.length+d.length/\QQ tR Yt f (rS p (pre++d) pre.length (nx p s)) (rH R s)=some (.nx (rS p (pre++d) v L) [.lst ((R++s::i).map Q2)]):=by
 induction g with
 |@stop s d h=>
  intro R pre f _ _ o _;obtain⟨f,rfl⟩:∃k,f=k+1:=⟨f-1,by lia⟩
  refine⟨pre.length,nx p s,rfl,?_⟩;rw[Gx (by rw[h];simp)];simp
 |@wait s a b h=>
  intro R pre f _ _ o _;obtain⟨f,rfl⟩:∃k,f=k+1:=⟨f-1,by omega⟩
  refine⟨pre.length,nx p s,rfl,?_⟩;rw[Gx (by rw[h];simp)];simp
 |@one s t d j i h g x=>
  intro R pre f v1 u o A;obtain⟨f,rfl⟩:∃k,f=k+1:=⟨f-1,by lia⟩
  obtain⟨n,l⟩:=Qfa q hN hr v1 u (t:=t) (by rw[h];simp);have en:=(YC q hN hr n l).2.2.2;simp only[NP]at o A;obtain⟨v,L,y,e⟩:=x (R++[s]) pre f n l (by lia) (by simp;lia);refine⟨v,L,y,?_⟩;have w:R.length+1<sizeLine:=szN (m:=i.length) (by lia);rw[Qbu (σ2:=rS p (pre++d) pre.length (nx p t)) (h2:=rH (R++[s]) t) (by rw[h];simp) (by rw[h];simp[en,w,rS,rH]),e];simp
 |@two s a b c d j i h B g x=>
  intro R pre f v1 u o A;obtain⟨f,rfl⟩:∃k,f=k+1:=⟨f-1,by lia⟩
  obtain⟨n,l⟩:=Qfa q hN hr v1 u (t:=pk a b c) (by rw[h];exact Gb);have en:=(YC q hN hr n l).2.2.2;simp only[NP]at o A;obtain⟨v,L,y,e⟩:=x (R++[s]) (pre++[c]) f n l (by lia) (by simp;lia);refine⟨v,L,by simp at y ⊢;lia,?_⟩;have w:R.length+1<sizeLine:=szN (m:=i.length) (by lia);have E:=Qp0 (a:=pre) (b:=d) (c:=c);have D:=QnA (a:=a) (b:=b) B;have z:(pre.length:Int)<pre.length+(d.length+1):=by lia
  rw[N6]at e;rw[Qbu (σ2:=rS p (pre++c::d) (pre++[c]).length (nx p (pk a b c))) (h2:=rH (R++[s]) (pk a b c)) (by rw[h];simp;exact z) (by rw[h];simp[en,w,E,D,rS,rH])];simp only[IM,DV]at e;rw[e];simp
noncomputable def fl(p:List Pt):Nat->Nat->List Ln
 |0,_=>[]
 | d+1,i=>match p[i]? with
  |some x=>x.2.flatMap fun l=>match Y0 p l with
   |some j=>fl p d j
   |none=>[l]
  |none=>[]
noncomputable def X(p:List Pt)(i:Nat):List Ln:=fl p 5 i
noncomputable def ex(p:List Pt)(l:Ln):List Ln:=match Y0 p l with
 |some j=>X p j
 |none=>[l]
section
variable{N:Nat}{bs ws:List Str}{p:List Pt}
theorem Qao(c:GoodP N bs ws p)(e:p[i]?=some x)(f:l∈x.2)(hd:Y0 p l=some j):i+1<=j/\j<p.length/\Vn l=true/\cdL l=.ot:=by
 unfold Y0 at hd;split at hd
 ·rename_i a;obtain⟨y,r,rfl⟩:=VS (c.ok i x e l f);have d:y="do":=by simpa[Vn]using a
  obtain⟨h,rfl,b⟩:=Yo (c.ok i x e _ f) d;have g:=Xx c.nd b hd;rw[Ep]at hd;have:=hd.1;simp at this;exact⟨g,this,a,by show cd y=.ot;rw[d];decide⟩
 ·cases hd
theorem QmU(e:GoodP N bs ws p){i:Nat}(c:p[i]?=some x)(d:l∈x.2)(hd:Y0 p l=none):Vn l=false:=by
 unfold Y0 at hd;split at hd
 ·rename_i b;obtain⟨y,r,rfl⟩:=VS (e.ok i x c l d);have g:y="do":=by simpa[Vn]using b
  obtain⟨f,rfl,a⟩:=Yo (e.ok i x c _ d) g;obtain⟨j,m,_⟩:=Qav (DC a);have:(p.map (·.1)).findIdx? (·==f)=none:=hd;rw[m]at this;cases this
 ·rename_i h;simpa using h
theorem WS:∀{xs:List b},(∀x∈xs,f x=g x)->xs.flatMap f=xs.flatMap g
 |[],_=>rfl
 |x::xs,h=>by rw[EU,EU,h x Ny,WS fun y a=>h y (Nu _ a)]
theorem Qng(b:GoodP N bs ws p):∀(n i d d':Nat),5-i<=n->n<=d->n<=d'->fl p d i=fl p d' i:=by
 have a:=b.len;intro n
 induction n with
 |zero=>
  intro i d d' h _ _;have e:p[i]?=none:=Eg (by lia);have z:∀d,fl p d i=[]:=fun d=>by cases d<;>simp[fl,e]
  rw[z,z]
 | succ n c=>
  intro i d d' h o m;obtain⟨d,rfl⟩:∃k,d=k+1:=⟨d-1,by lia⟩
  obtain⟨d',rfl⟩:∃k,d'=k+1:=⟨d'-1,by lia⟩
  unfold fl;cases f:p[i]? with
  |none=>rfl
  | some x=>
   refine WS fun l g=>?_;cases hd:Y0 p l with
   |none=>rfl
   |some j=>
    have:=Qao b f g hd;exact c j d d' (by omega) (by lia) (by lia)
theorem Qhd(b:GoodP N bs ws p)(a:p[i]?=some x):X p i=x.2.flatMap (ex p):=by
 show fl p 5 i=_;rw[fl,a];refine WS fun l c=>?_;unfold ex;cases hd:Y0 p l with
 |none=>rfl
 |some j=>
  have:=Qao b a c hd;exact Qng b 4 j 4 5 (by omega) (by decide) (by decide)
noncomputable abbrev EC(p:List Pt)(l:Ln):List Cd:=(ex p l).map cdL
theorem Qo8(b:GoodP N bs ws p)(a:p[i]?=some x):(X p i).map cdL=F (EC p) x.2:=by
 rw[Qhd b a,O4];rfl
structure XOk(bs ws:List Str)(p:List Pt)(i:Nat):Prop where
 bal:Bal ((X p i).map cdL)
 ok:∀l∈X p i,LineOk bs ws [] l/\Vn l=false
 len:(X p i).length<=Wt i
theorem QiU(h:LineOk bs ws a l)(hd:Vn l=false):LineOk bs ws [] l:=by
 cases h with
 |plain h=>exact .plain h
 |«do» h=>simp[Vn]at hd
 |blk h=>exact .blk h
 |back h=>exact .back h
theorem QkS(d:GoodP N bs ws p)(b:p[i]?=some x)(a:∀j,i+1<=j->j<p.length->XOk bs ws p j):∀l∈x.2,Ex (EC p) cdL l:=fun l c=>by
 unfold Ex EC ex;cases hd:Y0 p l with
 |none=>exact .inl rfl
 |some j=>
  obtain⟨g,f,h,e⟩:=Qao d b c hd;exact .inr ⟨e,(a j g f).bal⟩
theorem UK{f:a->List Ln}{g:a->Nat}:∀{xs:List a},(∀x∈xs,(f x).length<=g x)->(xs.flatMap f).length<=(xs.map g).sum
 |[],_=>by simp
 |x::xs,h=>by
  have d:=h x Ny;have c:=UK (xs:=xs) fun y b=>h y (Nu _ b);simp only[EU,NC,NA,DP];lia
theorem xok(b:GoodP N bs ws p)(hr:RL p):∀(n i:Nat),5-i<=n->i<p.length->XOk bs ws p i:=by
 have o:=b.len;intro n
 induction n with
 |zero=>intro i h q;omega
 | succ n r=>
  intro i h q;have a:p[i]?=some p[i]:=Nl q;generalize p[i]=x at a;have s:=NI.mpr ⟨i,a⟩;have c:∀j,i+1<=j->j<p.length->XOk bs ws p j:=fun j e d=>r j (by omega) d;refine⟨?_,fun l f=>?_,?_⟩
  ·rw[Qo8 b a];exact QnO (QkS b a c) (b.bal x s)
  ·rw[Qhd b a]at f;obtain⟨m,g,e⟩:=EY.mp f;unfold ex at e;cases hd:Y0 p m with
   |none=>
    rw[hd]at e;rw[NR.mp e];have:=QmU b a g hd;exact⟨QiU (b.ok i x a m g) this,this⟩
   |some j=>
    rw[hd]at e;obtain⟨g1,g2,_⟩:=Qao b a g hd;exact(c j g1 g2).ok l e
  ·have d:=hr i 0;rw[Yr a]at d;unfold rem at d;rw[List.drop_zero]at d;rw[Qhd b a];refine Nh (UK fun l f=>?_) d;unfold ex cst;cases hd:Y0 p l with
   |none=>
    show 1<=(if Vn l=true then Wt (i+1)+2 else 1)
    split<;>lia
   |some j=>
    obtain⟨g1,g2,g3,_⟩:=Qao b a f hd;rw[if_pos g3];have:=(c j g1 g2).len;have:=Qd8 g1;show(X p j).length<=_;lia
theorem GN(d:GoodP N bs ws p)(hr:RL p):GoodP 65330 bs ws [(nm,X p 0)]/\RL [(nm,X p 0)]:=by
 have c:=xok d hr 5 0 (by decide) (EX.mpr d.ne)
 have hd:dcn (X p 0)=0:=by
  unfold dcn;rw[F7];intro l b;rw[(c.ok l b).2];simp
 have b:(X p 0).length<=65330:=c.len;refine⟨⟨by simp,by simp,by simpa using c.bal,by simpa using b,fun i x a=>?_,by simp,fun i x a=>?_⟩,fun i k=>?_⟩
 ·cases i with
  |zero=>simp at a;subst a;intro l b;exact(c.ok l b).1
  |succ i=>simp at a
 ·cases i with
  |zero=>simp at a;subst a;show dcn (X p 0)<=_;exact Nh (Nt hd) (NJ _)
  |succ i=>simp at a
 ·unfold QeI;cases i with
  | zero=>
   simp only[IW];show rem (nm,X p 0) 0 k<=65330;unfold rem;rw[Qac]
   have e:dcn ((X p 0).drop k)=0:=by
    unfold dcn at hd ⊢;rw[F7]at hd ⊢;exact fun l b=>hd l (DC b)
   show((X p 0).drop k).length+dcn ((X p 0).drop k)*_<=_;rw[e,Fb];lia
  |succ i=>simp
end
noncomputable def ofl(p:List Pt)(x:Pt)(k:Nat):Nat:=((x.2.take k).flatMap (ex p)).length
theorem V0:off (EC p) x.2 k=ofl p x k:=by
 unfold off F ofl EC;rw[<-O4,NG]
inductive Ch(p:List Pt):List (Nat×Nat)->Nat->List Ln->List Ln->Prop where
 |nil:Ch p [] 0 [] []
 |snoc {r:List (Nat×Nat)} {i k j:Nat} {x:Pt} {l:Ln} {A B:List Ln} {way:List (Nat×Nat)} (hw:way=r++[(i,k)]) (c:Ch p r i A B) (hx:p[i]?=some x) (hl:x.2[k]?=some l) (hj:Y0 p l=some j):Ch p way j (A++(x.2.take k).flatMap (ex p)) ((x.2.drop (k+1)).flatMap (ex p)++B)
section
variable{N:Nat}{bs ws:List Str}{p:List Pt}
theorem Qnp(c:GoodP N bs ws p)(a:p[i]?=some x)(b:x.2[k]?=some l):X p i=(x.2.take k).flatMap (ex p)++(ex p l++(x.2.drop (k+1)).flatMap (ex p)):=by
 rw[Qhd c a]
 conv=>lhs;rw[My5.split_at b]
 rw[Fl,EU]
theorem QmQ(g:GoodP N bs ws p){part:Nat}(c:Ch p a part A B):X p 0=A++(X p part++B):=by
 induction c with
 |nil=>simp
 |snoc hw c d e f b=>
  rw[b,Qnp g d e];simp[ex,f]
structure Sim(p:List Pt)(s t:Spt):Prop where
 ex:∃A B x,Ch p s.way s.part A B/\p[s.part]?=some x/\s.k<=x.2.length/\t=⟨[],0,A.length+ofl p x s.k,s.head⟩
noncomputable def LnS(p:List Pt)(s:Spt):List Ln:=if s.head=true then[]else match p[s.part]? with
 |some x=>match x.2[s.k]? with
  |some l=>if Vn l=true then[]else[l]
  |none=>[]
 |none=>[]
theorem Vv(a:x.2[k]?=some l)(hd:Y0 p l=none):ofl p x (k+1)=ofl p x k+1:=by
 have:=My5.off_succ (E:=EC p) a;rw[V0,V0]at this;rw[this];simp[ex,hd]
theorem Um(h:Vn l=false):Y0 p l=none:=by unfold Y0;rw[if_neg (by simp[h])]
theorem Yv(h:cdL l≠.ot):Vn l=false:=by
 cases l with
 |nil=>rfl
 |cons y r=>
  by_cases a:y="do"
  ·subst a;exact absurd (show cd "do"=.ot by decide) h
  ·simpa[Vn]using a
structure Here(p:List Pt)(A:List Ln)(x:Pt):Prop where
 at_:∀(k:Nat) (l:Ln),x.2[k]?=some l->Vn l=false->(X p 0)[A.length+ofl p x k]?=some l
 beh:∀(k j:Nat) (c:Cd) (l:Ln),x.2[k]?=some l->Vn l=false->(c=.oo\/c=.en)->Beh (x.2.map cdL) k c j->Beh ((X p 0).map cdL) (A.length+ofl p x k) c (A.length+ofl p x j)
 ahd:∀(k j:Nat) (l l':Ln),x.2[k]?=some l->x.2[j]?=some l'->Vn l=false->Vn l'=false->Ahd (x.2.map cdL) k j->Ahd ((X p 0).map cdL) (A.length+ofl p x k) (A.length+ofl p x j)
theorem Qq5(b:GoodP N bs ws p)(hr:RL p){part:Nat}(c:Ch p o part A B)(d:p[part]?=some x):Here p A x:=by
 have n:=QmQ b c;have i:∀l∈x.2,Ex (EC p) cdL l:=QkS b d fun j u s=>xok b hr 5 j (NZ _ _) s;have one:∀l:Ln,Vn l=false->EC p l=[cdL l]:=fun l h=>by simp[EC,ex,Um h]
 have m:(X p 0).map cdL=A.map cdL++(F (EC p) x.2++B.map cdL):=by rw[n,Eb,Eb,Qo8 b d]
 have g:(A.map cdL).length=A.length:=NG _;refine⟨fun k l a hd=>?_,fun k j c l a hd r B=>?_,fun k j l q a e hd f t=>?_⟩
 ·rw[n,Qnp b d a,N2 (Nm _ _),EH,N6,N2 (by unfold ofl;exact Nw _)];unfold ofl;rw[FV];simp[ex,Um hd]
 ·rw[m,<-V0,<-V0,<-g];exact Qht (QnL i a (one l hd) r B)
 ·rw[m,<-V0,<-V0,<-g];have:=Qnv i a e (one q f) (one l hd) t;exact QiS this (by have:=(Ng.mp (QaK a (one l hd))).1;exact Nn this)
end
inductive Two(p:List Pt):List Spt->List Spt->Prop where
 |nil:Two p [] []
 |one {a a':Spt} (h:Sim p a a'):Two p [a] [a']
 |two {a b a' b':Spt} (h:Sim p a a') (h':Sim p b b'):Two p [a,b] [a',b']
theorem W6(a:p[s.part]?=some x)(b:x.2[s.k]?=none):LnS p s=[]:=by
 unfold LnS;rw[a];simp only[b];split<;>rfl
theorem Zk{part k:Nat}(b:p[part]?=some x)(c:x.2[k]?=some l):LnS p ⟨a,part,k,false⟩=if Vn l=true then[]else[l]:=by
 unfold LnS;simp only[b,c];rfl
section
variable{N:Nat}{bs ws:List Str}{p:List Pt}{nm:Str}
theorem K6(Y:GoodP N bs ws p)(hr:RL p)(hS:Sim p s t)(hv:SV p s)(hN:Nx p s L):(∃s',L=[s']/\LnS p s=[]/\Sim p s' t)\/∃L',Nx [(nm,X p 0)] t L'/\LnS [(nm,X p 0)] t=LnS p s/\Two p L L':=by
 obtain⟨A,B,Q,c,d,P,rfl⟩:=hS.ex;have H:=Qq5 Y hr c d;have z:([(nm,X p 0)]:List Pt)[0]?=some (nm,X p 0):=rfl
 -- a ab of ae same part
 have O:∀{m:List (Nat×Nat)} {part k:Nat} {b:Bool} {n:Nat},Ch p m part A B->p[part]?=some Q->k<=Q.2.length->n=A.length+ofl p Q k->Sim p ⟨m,part,k,b⟩ ⟨[],0,n,b⟩:=fun c g hk U=>⟨A,B,Q,c,g,hk,by rw[U]⟩
 cases hN with
 |@head m part k en x l g f v Bh=>
  rw[d]at g;cases g;have hd:=Yv (l:=l) (by rw[v];simp);have G:=Bh.at_;rw[Nz]at G;obtain⟨C,o,M⟩:=Nk.mp G;have u:=Yv (l:=C) (by rw[M];simp);have h:=(Ng.mp f).1;have y:=(Ng.mp o).1;refine .inr ⟨_,.head z (H.at_ k l f hd) v (H.beh k en .en l f hd (.inr rfl) Bh),rfl,.two (O c d y ?_) (O c d h ?_)⟩
  ·rw[Vv o (Um u)];rfl
  ·rw[Vv f (Um hd)];rfl
 | @fin0 m part k x hw g f=>
  rw[d]at g;cases g;subst hw;have h:k=Q.2.length:=by have:=DA.mp f;simp only at P;exact Eh P this
  have hA:A=[]/\part=0:=by
   simp only at c;generalize hw:([]:List (Nat×Nat))=w at c;cases c with
   |nil=>exact⟨rfl,rfl⟩
   |snoc D=>rw[D]at hw;simp at hw
  obtain⟨rfl,rfl⟩:=hA
  have U:(X p 0)[0+ofl p Q k]?=none:=by
   refine Eg ?_;rw[Qhd Y d,h];unfold ofl;rw[DJ];exact E8 _ _
  refine .inr ⟨_,.fin0 rfl z U,?_,.nil⟩;rw[W6 (x:=(nm,X p 0)) z U,W6 d f]
 | @fin m r q part k x hw g f=>
  rw[d]at g;cases g;have h:k=Q.2.length:=by have:=DA.mp f;simp only at P;exact Eh P this
  refine .inl ⟨_,rfl,W6 d f,?_⟩;cases c with
  |nil=>simp at hw
  | @snoc r' i k' _ x l A' B' _ D c' Z o aa=>
   simp only at D;rw[hw]at D;have:=O3 D rfl;simp at this;obtain⟨rfl,rfl⟩:=this;refine⟨A',B',x,c',Z,(Ng.mp o).1,?_⟩;have e1:=My5.off_succ (E:=EC p) o;rw[V0,V0]at e1
   have e2:(EC p l).length=ofl p Q k:=by
    have e:ex p l=X p part:=by unfold ex;rw[aa]
    show((ex p l).map cdL).length=_;rw[e,NG,Qhd Y d,h];unfold ofl;rw[DJ]
   have e3:((x.2.take k').flatMap (ex p)).length=ofl p x k':=rfl;simp only[NC,e1,e2,e3,Du]
 |@ei m part k md x l g f v Bh=>
  rw[d]at g;cases g;have hd:=Yv (l:=l) (by rw[v];simp);have G:=Bh.at_;rw[Nz]at G;obtain⟨C,o,M⟩:=Nk.mp G;have u:=Yv (l:=C) (by rw[M];simp);have h:=(Ng.mp f).1;have y:=(Ng.mp o).1;refine .inr ⟨_,.ei z (H.at_ k l f hd) v (H.beh k md .oo l f hd (.inl rfl) Bh),?_,.two (O c d h ?_) (O c d y ?_)⟩
  ·rw[Zk z (H.at_ k l f hd),Zk d f]
  ·rw[Vv f (Um hd)];rfl
  ·rw[Vv o (Um u)];rfl
 |@ag m part k x l g f v=>
  rw[d]at g;cases g;have hd:=Yv (l:=l) (by rw[v];simp);have h:=(Ng.mp f).1;refine .inr ⟨_,.ag z (H.at_ k l f hd) v,?_,.one (O c d (Nn h) rfl)⟩;rw[Zk z (H.at_ k l f hd),Zk d f]
 |@oo m part k en x l g f v Bh=>
  rw[d]at g;cases g;have hd:=Yv (l:=l) (by rw[v];simp);have G:=Bh.at_;rw[Nz]at G;obtain⟨C,o,M⟩:=Nk.mp G;have u:=Yv (l:=C) (by rw[M];simp);have y:=(Ng.mp o).1;refine .inr ⟨_,.oo z (H.at_ k l f hd) v (H.beh k en .en l f hd (.inr rfl) Bh),?_,.one (O c d y ?_)⟩
  ·rw[Zk z (H.at_ k l f hd),Zk d f]
  ·rw[Vv o (Um u)];rfl
 |@enA m part k fs x l C g f v Ah S I=>
  rw[d]at g;cases g;have hd:=Yv (l:=l) (by rw[v];simp);have u:=Yv (l:=C) (by rw[I];simp);have y:=(Ng.mp S).1;refine .inr ⟨_,.enA z (H.at_ k l f hd) v (H.ahd k fs l C f S hd u Ah) (H.at_ fs C S u) I,?_,.one (O c d (Nn y) rfl)⟩;rw[Zk z (H.at_ k l f hd),Zk d f]
 |@enE m part k fs x l C g f v Ah S I=>
  rw[d]at g;cases g;have hd:=Yv (l:=l) (by rw[v];simp);have u:=Yv (l:=C) (by rw[I];simp);have h:=(Ng.mp f).1;refine .inr ⟨_,.enE z (H.at_ k l f hd) v (H.ahd k fs l C f S hd u Ah) (H.at_ fs C S u) I,?_,.one (O c d h ?_)⟩
  ·rw[Zk z (H.at_ k l f hd),Zk d f]
  ·rw[Vv f (Um hd)];rfl
 |@dd m part k j x l g f v hd G=>
  rw[d]at g;cases g;refine .inl ⟨_,rfl,by rw[Zk d f,if_pos hd],?_⟩;obtain⟨_,y,_⟩:=Qao Y d (NI.mpr ⟨k,f⟩) G;refine⟨_,_,p[j],.snoc rfl c d f G,Nl y,NJ _,?_⟩;simp[ofl]
 |@ot m part k x l g f v hd=>
  rw[d]at g;cases g;have h:=(Ng.mp f).1;refine .inr ⟨_,.ot z (H.at_ k l f hd) v hd,?_,.one (O c d h ?_)⟩
  ·rw[Zk z (H.at_ k l f hd),Zk d f]
  ·rw[Vv f (Um hd)];rfl
end
section
variable{N:Nat}{bs ws:List Str}{p:List Pt}{nm:Str}
theorem QeM(c:GoodP M bs ws q)(hN:M<=100000)(hr:RL q)(b:SV q t)(a:SW t)(h:Nx q t L):nx q t=L:=QkV (YC c hN hr b a).2.2.1.2 h
theorem XZ:(s::t::a).dropLast.flatMap (LnS q)=LnS q s++(t::a).dropLast.flatMap (LnS q):=by simp[List.dropLast]
theorem QjZ(h:Sim p a e)(h':Sim p b d):Sim p (pk a b c) (pk e d c):=by unfold pk;split<;>assumption
theorem QkI(q:GoodP N bs ws p)(hN:N<=100000)(hr:RL p)(g:Go p s H M A):∀{t:Spt} {j:List Spt} {l:List Nat},SV p s->SW s->SV [(nm,X p 0)] t->SW t->Sim p s t->Go [(nm,X p 0)] t H j l ->
  l=A/\(t::j).dropLast.flatMap (LnS [(nm,X p 0)])=(s::M).dropLast.flatMap (LnS p):=by
 obtain⟨o,m⟩:=GN (nm:=nm) q hr;have r:65330<=100000:=by decide
 have Y:∀{t u:Spt},SV [(nm,X p 0)] t->SW t->u∈nx [(nm,X p 0)] t->SV [(nm,X p 0)] u/\SW u:=fun h d hu=>Qfa o r m h d hu
 induction g with
 | @stop s H h=>
  intro t j l v1 x w v S g2;have n:=(YC q hN hr v1 x).2.2.1.2;rw[h]at n
  rcases K6 (nm:=nm) q hr S v1 n with⟨O,e,_⟩|⟨U,z,_,y⟩
  ·simp at e
  ·cases y;have f:=QeM o r m w v z;cases g2 with
   |stop _=>exact⟨rfl,rfl⟩
   |one d _=>rw[f]at d;simp at d
   |wait d=>rw[f]at d;simp at d
   |two d _ _=>rw[f]at d;simp at d
 | @one s t' H A M h g G=>
  intro t j l v1 x w v S g2;have n:=(YC q hN hr v1 x).2.2.1.2;obtain⟨E,D⟩:=Qfa q hN hr v1 x (t:=t') (by rw[h];simp);rw[h]at n
  rcases K6 (nm:=nm) q hr S v1 n with⟨O,e,e2,Q⟩|⟨U,z,d,y⟩
  ·simp at e;subst e;obtain⟨C,B⟩:=G E D w v Q g2;exact⟨C,by rw[XZ,e2];exact B⟩
  ·cases y with
   | @one _ P Q=>
    have f:=QeM o r m w v z;obtain⟨L,I⟩:=Y w v (u:=P) (by rw[f];simp);cases g2 with
    |stop d=>rw[f]at d;simp at d
    |one i g2=>
     rw[f]at i;simp at i;subst i;obtain⟨C,B⟩:=G E D L I Q g2;exact⟨C,by rw[XZ,XZ,d,B]⟩
    |wait d=>rw[f]at d;simp at d
    |two d _ _=>rw[f]at d;simp at d
 | @wait s a b h=>
  intro t j l v1 x w v S g2;have n:=(YC q hN hr v1 x).2.2.1.2;rw[h]at n
  rcases K6 (nm:=nm) q hr S v1 n with⟨O,e,_⟩|⟨U,z,_,y⟩
  ·simp at e
  ·cases y with
   |two S1 Z=>
    have f:=QeM o r m w v z;cases g2 with
    |stop d=>rw[f]at d;simp at d
    |one d _=>rw[f]at d;simp at d
    |wait d=>exact⟨rfl,rfl⟩
 | @two s a b c H A M h hc g G=>
  intro t j l v1 x w v S g2;have n:=(YC q hN hr v1 x).2.2.1.2;obtain⟨E,D⟩:=Qfa q hN hr v1 x (t:=pk a b c) (by rw[h];exact Gb);rw[h]at n
  rcases K6 (nm:=nm) q hr S v1 n with⟨O,e,_⟩|⟨U,z,d,y⟩
  ·simp at e
  ·cases y with
   | @two _ _ P b' S1 Z=>
    have f:=QeM o r m w v z;obtain⟨L,I⟩:=Y w v (u:=pk P b' c) (by rw[f];exact Gb);cases g2 with
    |stop d=>rw[f]at d;simp at d
    |one d _=>rw[f]at d;simp at d
    |two i _ g2=>
     rw[f]at i;simp at i;obtain⟨rfl,rfl⟩:=i;obtain⟨C,B⟩:=G E D L I (QjZ S1 Z) g2;exact⟨C,by rw[XZ,XZ,d,B]⟩
end
noncomputable abbrev sp0:Spt:=⟨[],0,0,false⟩
theorem sv0(a:GoodP N bs ws p):SV p sp0/\SW sp0:=by
 have b:0<p.length:=EX.mpr a.ne;exact⟨⟨⟨p[0],Nl b,NJ _,by simp⟩,by simp⟩,⟨by simp,Nw _⟩⟩
theorem Qfq(hr:XJ 0 ws=some (ws,[]))(e:m ws []=some (.tup [.ref j,v],g))(c:g[j]?=some (.lst us))(hu:Zu us=true)(b:pur v=true):box frN m ws h=some (.tup [.lst us,v],h):=by
 have:=Us (m:=m) (args:=ws) (as:=ws) (ns:=[]) (os:=[]) (os':=[]) (g:=g) (h:=h) (w:=.tup [.ref j,v]) (w':=.tup [.lst us,v]) hr (by simp) rfl e rfl (by simp) (by
  have d:th (res (Wu [] [] h.length) ([]++g) 3) (.ref j)=some (.lst us):=by
   unfold th res;simp only[Wu,OF,OG,Yad,DV,c];rw[ZC _ us hu];rfl
  unfold th ths;rw[d,Nv];unfold ths;rw[UX _ v b,Nv]
  rfl)
 simpa using this
theorem QlF:XJ 0 [Q3 p,.lst (Yg all)]=some ([Q3 p,.lst (Yg all)],[]):=by simp[Q3,XJ]
noncomputable def QqW(a:List Spt)(u:Nat):W:=.tup [.lst ((sp0::a).map Q2),.int u]
@[simp]theorem QmN:atI [y] (-1)=some y:=Mi.W2 [] y
theorem UN(d:GoodP N bs ws p)(hN:N<=100000)(hr:RL p)(g:Go p sp0 all b a)(l:b.length<=14000000)(h:MH):Ve [Q3 p,.lst (Yg all)] h=some (QqW b (all.length-a.length),h):=by
 obtain⟨v1,f⟩:=sv0 d;obtain⟨v,L,i,e⟩:=QeU d hN hr g [] [] 20000000 v1 f (Nf l (by decide)) (by simp;lia);have en:=(YC d hN hr v1 f).2.2.2;simp only[Dm,NX]at i;have c:all.length-a.length=v:=by lia
 rw[c];refine Qfq (j:=0) (g:=[.lst ((sp0::b).map Q2)]) (us:=(sp0::b).map Q2) (v:=.int v) QlF ?_ rfl Qi6 rfl;simp[rS,rH]at e;simp[Ks,Qx,en,e]
theorem QdO(d:GoodP N bs ws p)(hr:RL p):∀(n i:Nat) (h:MH),i<p.length->5-i<=n->Zs n [Q3 p,.int i] h=some (.tup ((X p i).map Qn),h):=by
 have z:=d.len;intro n
 induction n with
 |zero=>intro i h G Q;lia
 | succ n O=>
  intro i h G Q;have e:p[i]?=some p[i]:=Nl G;generalize p[i]=x at e;have hw:(X p i).length<=65330:=Nh (xok d hr 5 i (NZ _ _) G).len Qdv;have Y:=XE e;refine Qv (g:=[.lst ((X p i).map Qn)]) (by simp) ?_ (by simp)
  have s:=J9 (items:=x.2.map Qn) (b:=JM 3) (body:=VY (Zs n)) (fun j H h=>∃o,H=[some (Q3 p),some (.int i),some (.ref 0),o]/\h=[.lst (((x.2.take j).flatMap (ex p)).map Qn)]) (x.2.map Qn) 0 [some (Q3 p),some (.int i),some (.ref 0),none] [.lst []] ⟨none,rfl,by simp⟩ (by
   rintro j w I H h ⟨o,rfl,rfl⟩
   rw[Nz]at I;obtain⟨l,E,rfl⟩:=Nk.mp I;have v:l∈x.2:=NI.mpr ⟨j,E⟩;have S:=Qnp d e E
   have a:((x.2.take j).flatMap (ex p)).length+(ex p l).length<=65330:=by
    have:=congrArg List.length S;simp only[NC]at this;lia
   have B:(x.2.take (j+1)).flatMap (ex p)=(x.2.take j).flatMap (ex p)++ex p l:=by
    rw[DX,E,Fl];simp
   obtain⟨y,r,rfl⟩:=VS (d.ok i x e l v);refine⟨[some (Q3 p),some (.int i),some (.ref 0),some (Qn (y::r))],rfl,[some (Q3 p),some (.int i),some (.ref 0),some (Qn (y::r))],[.lst (((x.2.take (j+1)).flatMap (ex p)).map Qn)],.inl ?_,_,rfl,by rw[NX]⟩;rw[B,Eb,NX]
   by_cases hd:y="do"
   ·obtain⟨A,rfl,u⟩:=Yo (d.ok i x e _ v) hd;subst hd;obtain⟨q,D,C⟩:=Qav (DC u);have P:=Xx d.nd u D;have en:∀h,QB [Q3 p,.str A] h=some (.int q,h):=fun h=>Gg D (Nn (Nf z (by decide)));have t:q<p.length:=by simpa using C
    have U:=fun h=>O q h t (by lia);have c:Y0 p (["do",A]:Ln)=some q:=by show(if Vn (["do",A]:Ln)=true then _ else none)=some q;rw[if_pos (by show(("do":Str)=="do")=true;decide)];exact D
    have hex:ex p (["do",A]:Ln)=X p q:=by unfold ex;rw[c]
    rw[hex]at a ⊢;have m:((x.2.take j).flatMap (ex p)).length+(X p q).length<=sizeLine:=KS (Nn (Nf a (by decide)));simp only[<-NG (f:=Qn)]at m;simp only[NG]at m;simp[-L8,en,U,m]
   ·have c:Y0 p (y::r)=none:=by unfold Y0;rw[if_neg (by show¬(y==("do":Str))=true;simpa using hd)]
    have hex:ex p (y::r)=[y::r]:=by unfold ex;rw[c]
    rw[hex]at a ⊢;simp only[NP,Dm]at a;have m:((x.2.take j).flatMap (ex p)).length<sizeLine:=Wa (Nn (Nf (Nh (Nm _ _) a) (by decide)))
    simp[-L8,hd,m])
  obtain⟨M,Z,L,o,rfl,rfl⟩:=s;rw[NG,NX,DJ,<-Qhd d e]at L
  have ei:Zl (Qe wIx (Qe wIx (Qb 0) (Qb 1)) (mC (.int 1))) [some (Q3 p),some (.int i),some (.ref 0),none] [.lst []]=some (x.2.map Qn,none,[.lst []]):=by
   have:(Qe wIx (Qe wIx (Qb 0) (Qb 1)) (mC (.int 1))) [some (Q3 p),some (.int i),some (.ref 0),none] [.lst []]=some (.tup (x.2.map Qn),[.lst []]):=by simp[Y]
   unfold Zl;rw[this];rfl
  simp[Vb,Qx,K3,ei,L]
theorem Qji(b:GoodP N bs ws p)(hr:RL p):∃nm,∀h:MH,Uw [Q3 p] h=some (Q3 [(nm,X p 0)],h):=by
 have c:0<p.length:=EX.mpr b.ne;have a:p[0]?=some p[0]:=Nl c;generalize p[0]=x at a;refine⟨x.1,fun h=>?_⟩;have d:∀h,ZX [Q3 p,.int 0] h=some (.tup ((X p 0).map Qn),h):=fun h=>QdO b hr 6 0 h c (by decide);have e:atI (p.map Vq) 0=some (Vq x):=XE a;refine Qv (g:=[]) (by simp) ?_ (by simp);show _=some (W.tup [W.tup [.str x.1,.tup ((X p 0).map Qn)]],[]);simp[Uk,Qx,e,d]
theorem QoQ(n:GoodP N bs ws p)(hN:N<=100000)(hr:RL p)(g:Go p s o l f):SV p s->SW s->∀t∈s::l,SV p t/\SW t:=by
 induction g with
 |stop h=>intro v1 d t e;simp at e;subst e;exact⟨v1,d⟩
 |wait h=>intro v1 d t e;simp at e;subst e;exact⟨v1,d⟩
 |@one s t o f l h g m=>
  intro v1 d u hu;obtain⟨j,i⟩:=Qfa n hN hr v1 d (t:=t) (by rw[h];simp)
  rcases NH.mp hu with rfl|hu
  ·exact⟨v1,d⟩
  ·exact m j i u hu
 |@two s a b c o f l h q g m=>
  intro v1 d u hu;obtain⟨j,i⟩:=Qfa n hN hr v1 d (t:=pk a b c) (by rw[h];exact Gb)
  rcases NH.mp hu with rfl|hu
  ·exact⟨v1,d⟩
  ·exact m j i u hu
theorem Qb5(f:Fd):∃(l:List Nat) (s:Fd),l.length<=40/\(∀c∈l,c<=1)/\∀(h:MH) (n:Nat),h[n]?=some (Qu f)->JD [.ref n] h=some (.lst (Yg l),h.set n (Qu s)):=by
 obtain⟨a0,a1⟩:=Kn (f:=f) (m:=9) (by decide);obtain⟨b0,b1⟩:=Kn (f:=tf f 9) (m:=41) (by decide);obtain⟨c0,c1⟩:=Kn (f:=tf (tf f 9) 41) (m:=8) (by decide);generalize p:tf (tf (tf f 9) 41) 8=f3;obtain⟨D,S⟩:=Kn (f:=f3) (m:=8) (by decide)
 obtain⟨many,j,em⟩:∃m:Nat,m<=40/\atI [W.int (tk f 9),.int (tk (tf f 9) 41)] (tk (tf (tf f 9) 41) 8/7)=some (.int m):=by
  obtain⟨x,_,r,e⟩:=Qaa (xs:=[tk f 9,tk (tf f 9) 41]) (i:=tk (tf (tf f 9) 41) 8/7) (f:=W.int) (P:=fun v=>0<=v/\v<=40) (by lia) (by show _<(2:Int);lia) (by
   intro x r;simp at r
   rcases r with rfl|rfl
   ·lia
   ·lia)
  exact⟨x.toNat,by lia,by simp at e;rw[e];congr 2;lia⟩
 by_cases z:tk f3 8<2
 ·obtain⟨w,A⟩:=Qda D;refine⟨List.replicate many w,tf f3 8,by simp;exact j,fun c I=>by rw[(Ik.mp I).2];lia,fun h n u=>?_⟩;refine ZD (o:=Qu f) (g:=[]) (by simp) u (by simp[Qu]) ?_ (by simp) ⟨_,rfl,by simp⟩
  have d:=JT (fin:=VL) (mi:=YD (Qa (Qb 1) Qd)) (cp:=[none,some 2]) (me:=Qb 1) (σ:=[some (.ref 0),some (.int many),some (.int w)]) (caps:=[some (.int w)]) (h:=[Qu (tf f3 8)]) (items:=Qr 0 many)
   (fun _=>.int w) (V5 (by simp) (Nf j (by decide))) ⟨_,rfl⟩ (fun x r=>by simp) (by rw[QH];exact KS (Nn (Nf j (by decide))))
  rw[Yag,QH]at d;simp only[VL]at d;have t:(w:Int)<2:=by exact Ox (D7 A.symm) z
  simp[Zx,Qx,em,p,A,t,d,Yg]
 ·have key:=Ub (items:=Qr 0 many) (b:=JM 0) (me:=Qi 2 Qc (Qa (Qb 1) (Qa (mC (.int 2)) Qd))) (fin:=VL)
   (fun(q:List Nat) y h=>∃f o,y=[o,some (.ref 0)]/\h=[Qu f]/\∀c∈q,c<=1) (fun(c:Nat)=>.int (c:Int)) (Qr 0 many) [] [none,some (.ref 0)] [Qu (tf f3 8)] ⟨_,none,rfl,rfl,by simp⟩ (by simp[QH];exact KS (Nn (Nf j (by decide)))) (by
    rintro w G q y h ⟨f,o,rfl,rfl,L⟩
    obtain⟨N,d1⟩:=Kn (f:=f) (m:=2) (by decide);obtain⟨c,d⟩:=Qda N
    exact⟨_,c,[Qu (tf f 2)],rfl,by simp[d],_,_,rfl,rfl,QW L (by lia)⟩)
  obtain⟨l,C,Z,e,⟨s,U,rfl,rfl,H⟩,a⟩:=key;rw[QH]at a;simp at a;refine⟨l,s,by exact Nh (Nt a) j,H,fun h n u=>?_⟩;refine ZD (o:=Qu f) (g:=[]) (by simp) u (by simp[Qu]) ?_ (by simp) ⟨_,rfl,by simp⟩;have M:YD (Qa (Qb 1) Qd) [some (.ref 0),some (.int many),some (.int (tk f3 8))] [Qu (tf f3 8)]=some (Qr 0 many,none,[Qu (tf f3 8)]):=V5 (by simp) (Nf j (by decide))
  have d:Zj VL (YD (Qa (Qb 1) Qd)) [none,some 0] (JM 0) Xm (Qi 2 Qc (Qa (Qb 1) (Qa (mC (.int 2)) Qd))) [some (.ref 0),some (.int many),some (.int (tk f3 8))] [Qu (tf f3 8)]=some (.lst (Yg l),[Qu s]):=by
   unfold Zj;rw[M,Nv];exact e
  simp[Zx,Qx,em,p,z,d]
inductive Li where
 |pair (x w y z:Str)|first (x y:Str)|second (x y:Str)|same (x y:Str)|non (x:Str)|tell (x:Str)|back (w:Str)|doo (n:Str)|either|or|again|fin
noncomputable def ln:Li->Ln
 |.pair x w y z=>[("pair":Str),x,w,y,z]
 |.first x y=>[("first":Str),x,y]
 |.second x y=>[("second":Str),x,y]
 |.same x y=>[("same":Str),x,y]
 |.non x=>[("none":Str),x]
 |.tell x=>[("tell":Str),x]
 |.back w=>[("back":Str),w]
 |.doo n=>[("do":Str),n]
 |.either=>[("either":Str)]
 |.or=>[("or":Str)]
 |.again=>[("again":Str)]
 |.fin=>[("end":Str)]
noncomputable def bx:Li->List Str
 |.pair x _ y z=>[x,y,z]
 |.first x y|.second x y|.same x y=>[x,y]
 |.non x|.tell x=>[x]
 |_=>[]
noncomputable abbrev Pr:=Str×List Li
noncomputable def pp(p:List Pr):List Pt:=p.map fun x=>(x.1,x.2.map ln)
noncomputable def als(p:List Pr):List Li:=p.flatMap (·.2)
structure Rm where
 word:Str
 a:Option Nat
 b:Option Nat
 at':Nat
noncomputable def oN:Option Nat->W
 |none=>.non
 |some n=>.int n
noncomputable def Z3(r:Rm):W:=.tup [.str r.word,oN r.a,oN r.b,.int r.at']
structure TS where
 rooms:List Rm
 read:List (Nat×Nat)
 told:List Str
 f:Str->Option Nat
noncomputable def up(f:Str->Option Nat)(x:Str)(v:Option Nat):Str->Option Nat:=fun y=>if y=x then v else f y
noncomputable def JF(a:List Rm)(g:Rm->Option Nat):Option Nat->Option Nat
 |none=>none
 |some n=>(a[n]?).bind g
noncomputable def rdL(i:Nat):Option Nat->List (Nat×Nat)
 |none=>[]
 |some n=>[(i,n)]
noncomputable def Qag(a:List Rm):Option Nat->Str
 |none=>"-"
 |some n=>match a[n]? with|some r=>r.word|none=>"-"
noncomputable def VE(i:Nat)(t:TS):Li->TS
 |.pair x w y z=>{ t with rooms:=t.rooms++[⟨w,t.f y,t.f z,i+1⟩],f:=up t.f x (some t.rooms.length) }
 |.first x y=>{ t with read:=t.read++rdL i (t.f y),f:=up t.f x (JF t.rooms Rm.a (t.f y)) }
 |.second x y=>{ t with read:=t.read++rdL i (t.f y),f:=up t.f x (JF t.rooms Rm.b (t.f y)) }
 |.same x y=>{ t with f:=up t.f x (t.f y) }
 |.non x=>{ t with f:=up t.f x none }
 |.tell x=>{ t with read:=t.read++rdL i (t.f x),told:=t.told++[Qag t.rooms (t.f x)] }
 |_=>t
structure OkT(i:Nat)(t:TS):Prop where
 rl:t.rooms.length<=i
 dl:t.read.length<=i
 sl:t.rooms.length+t.read.length<=i
 tl:t.told.length<=i
 f:∀x n,t.f x=some n->n<t.rooms.length
 a:∀(k:Nat) r n,t.rooms[k]?=some r->(r.a=some n\/r.b=some n)->n<k
theorem QgZ(i:Nat)(o:Option Nat):(rdL i o).length<=1:=by cases o<;>simp[rdL]
theorem U7(h:OkT i t)(d:∀r n,g r=some n->r.a=some n\/r.b=some n){n:Nat}(e:JF t.rooms g o=some n):n<t.rooms.length:=by
 cases o with
 |none=>cases e
 |some k=>
  obtain⟨r,c,f⟩:=Na.mp e;have:=h.a k r n c (d r n f);have:=(Ng.mp c).1;lia
theorem QdJ{N:Nat}(b:∀y n,f y=some n->n<N)(a:∀n,v=some n->n<N):∀y n,up f x v y=some n->n<N:=by
 intro y n e;unfold up at e;split at e
 ·exact a n e
 ·exact b y n e
theorem QfI(h:OkT i t)(l:Li):OkT (i+1) (VE i t l):=by
 have k:OkT (i+1) t:=⟨Es h.rl,Es h.dl,Es h.sl,Es h.tl,h.f,h.a⟩
 have c:∀o,t.rooms.length+(t.read++rdL i o).length<=i+1:=fun o=>by have:=QgZ i o;have:=h.sl;rw[NC];lia
 have d:∀o,(t.read++rdL i o).length<=i+1:=fun o=>by have:=QgZ i o;have:=h.dl;rw[NC];lia
 cases l with
 | pair x w y z=>
  have b:(t.rooms++[(⟨w,t.f y,t.f z,i+1⟩:Rm)]).length=t.rooms.length+1:=by simp
  refine⟨by rw[VE,b];have:=h.rl;exact DB this _,k.dl,by show(t.rooms++[_]).length+t.read.length<=i+1;rw[b];have:=h.sl;lia,k.tl,fun q n e=>?_,fun j r n e hr=>?_⟩
  ·rw[VE,b];exact QdJ (fun y n e=>Er (h.f y n e)) (fun n e=>by cases e;exact N1 _) q n e
  ·have p:=(Ng.mp e).1;rw[VE,b]at p
   by_cases g:j<t.rooms.length
   ·have m:t.rooms[j]?=some r:=by rw[<-e];exact(NQ g).symm
    exact h.a j r n m hr
   ·have:j=t.rooms.length:=by lia
    subst this
    have m:(⟨w,t.f y,t.f z,i+1⟩:Rm)=r:=by
     have:(t.rooms++[⟨w,t.f y,t.f z,i+1⟩])[t.rooms.length]?=some r:=e;simpa using this
    subst m
    rcases hr with z|z
    ·exact h.f _ _ z
    ·exact h.f _ _ z
 |first x y=>exact⟨k.rl,d _,c _,k.tl,QdJ h.f fun n e=>U7 h (fun _ _ q=>.inl q) e,h.a⟩
 |second x y=>exact⟨k.rl,d _,c _,k.tl,QdJ h.f fun n e=>U7 h (fun _ _ q=>.inr q) e,h.a⟩
 |same x y=>exact⟨k.rl,k.dl,k.sl,k.tl,QdJ h.f fun n e=>h.f y n e,h.a⟩
 |non x=>exact⟨k.rl,k.dl,k.sl,k.tl,QdJ h.f fun n e=>(nomatch e),h.a⟩
 |tell x=>exact⟨k.rl,d _,c _,by show(t.told++[_]).length<=_;have:=h.tl;simp;exact this,h.f,h.a⟩
 |_=>exact k
noncomputable def dcE(bs:List Str)(f:Str->Option Nat):List (Key×W):=bs.map fun b=>(Sum.inr b,oN (f b))
theorem KO(c:x∈bs):UF (dcE bs f) (.inr x)=some (oN (f x)):=by
 induction bs with
 |nil=>cases c
 |cons b bs a=>
  unfold dcE UF at a ⊢;rw[NA,EV]
  by_cases e:b=x
  ·subst e;simp
  ·have:decide ((Sum.inr b:Key)=Sum.inr x)=false:=decide_eq_false fun z=>e (Ia z);simp only[this];exact a ((NH.mp c).resolve_left fun z=>e z.symm)
theorem QlR(c:x∈bs):Qcm (dcE bs f) (.inr x) (oN v)=dcE bs (up f x v):=by
 have d:((dcE bs f).any fun a=>decide (a.1=Sum.inr x))=true:=by
  rw[O5];exact⟨(Sum.inr x,oN (f x)),NT.mpr ⟨x,c,rfl⟩,by simp⟩
 unfold Qcm;rw[if_pos d];unfold dcE;rw[N8];refine L9 fun b _=>?_;show(if(Sum.inr b:Key)=Sum.inr x then _ else _)=_
 by_cases e:b=x
 ·subst e;simp[up]
 ·have:¬(Sum.inr b:Key)=Sum.inr x:=fun z=>e (Ia z);rw[if_neg this];simp[up,e]
@[simp]theorem Qle:pur (oN o)=true:=by cases o<;>rfl
@[simp]theorem Qoo:pln (oN o)=true:=by cases o<;>rfl
@[simp]theorem Qpb:pur (Z3 r)=true:=by simp[Z3]
@[simp]theorem Qin{a:List Rm}:Zu (a.map Z3)=true:=by
 induction a with
 |nil=>rfl
 |cons r a b=>simp[b]
@[simp]theorem Qn9:Zu ((dcE bs f).map (·.2))=true:=by
 unfold dcE
 induction bs with
 |nil=>rfl
 |cons b bs a=>rw[NA,NA,Qeu,a,Qle];rfl
@[simp]theorem Qpl:QcY (.dic kvs)=Zu (kvs.map (·.2)):=id rfl
noncomputable def QaE:Li->Option Str
 |.first _ y|.second _ y|.tell y=>some y
 |_=>none
noncomputable def QpE:Li->Option Str
 |.pair x _ _ _|.first x _|.second x _|.same x _|.non x=>some x
 |_=>none
noncomputable def oS:Option Str->W
 |none=>.non
 |some x=>.str x
@[simp]theorem Qpy{o:Option Str}:pur (oS o)=true:=by cases o<;>rfl
theorem QiC{x:Str}{r:List W}{h:MH}(b:x≠"first")(h2:x≠"second")(a:x≠"tell"):JH [.tup (.str x::r)] h=some (.non,h):=by simp[JH,Qx,b,h2,a]
theorem Qfc{l:Li}{h:MH}:Kk [Qn (ln l)] h=some (oS (QaE l),h):=by
 refine Qv (g:=[]) (by simp) ?_ (by simp);cases l with
 |first _ _=>simp[JH,Qx,Qn,ln,QaE,oS]
 |second _ _=>simp[JH,Qx,Qn,ln,QaE,oS]
 |tell _=>simp[JH,Qx,Qn,ln,QaE,oS]
 |_=>exact QiC (by decide) (by decide) (by decide)
theorem Qgy{g:Bool}{x:Str}{l:List Str}{h:MH}:wIn g (.str x) (.tup (l.map .str)) h=some (.bl (if g=true then !decide (x∈l)else decide (x∈l)),h):=by
 rw[QnR rfl XX (by simp[dep]) (Nh WE (by decide))]
 have:inW (.str x) (l.map .str)=decide (x∈l):=by
  induction l with
  |nil=>rfl
  |cons y l a=>
   unfold inW at a ⊢;rw[NA,De,a];show((y==x) ||_)=_
   by_cases e:y=x
   ·subst e;simp
   ·have b:¬x=y:=fun z=>e z.symm;rw[show(y==x)=false from beq_eq_false_iff_ne.mpr e,Bool.false_or,Yaf,decide_eq_true_eq,decide_eq_true_eq,NH];exact⟨.inr,fun z=>z.elim (fun q=>absurd q b) id⟩
 rw[this]
theorem QkO{x:Str}{h:MH}:wIn false (.str x) (.tup (Qd7 ["pair","first","second","same","none"])) h=some (.bl (decide (x∈[("pair":Str),"first","second","same","none"])),h):=by
 have:=Qgy (g:=false) (x:=x) (l:=[("pair":Str),"first","second","same","none"]) (h:=h);simpa[Qd7]using this
theorem Qh7{x y:Str}{r:List W}{h:MH}(a:x∈[("pair":Str),"first","second","same","none"]):Vo [.tup (.str x::.str y::r)] h=some (.str y,h):=by simp[Vo,Qx,Vh,QkO,a,-NH]
theorem Qib{x:Str}{r:List W}{h:MH}(a:¬x∈[("pair":Str),"first","second","same","none"]):Vo [.tup (.str x::r)] h=some (.non,h):=by simp[Vo,Qx,Vh,QkO,a,-NH]
theorem Qfp{l:Li}{h:MH}:Jw [Qn (ln l)] h=some (oS (QpE l),h):=by
 refine Qv (g:=[]) (by simp) ?_ (by simp);cases l<;>first|exact Qh7 (by decide)|exact Qib (by decide)
noncomputable def Qg9:Li->W
 |.first _ _=>.int 1
 |.second _ _=>.int 2
 |_=>.non
theorem Qf2{x:Str}{r:List W}{h:MH}(a:x≠"first")(h2:x≠"second"):Zg [.tup (.str x::r)] h=some (.non,h):=by simp[Zg,Qx,a,h2]
theorem QdY{l:Li}{h:MH}:Jj [Qn (ln l)] h=some (Qg9 l,h):=by
 refine Qv (g:=[]) (by simp) ?_ (by cases l<;>rfl);cases l with
 |first _ _=>simp[Zg,Qx,Qn,ln,Qg9]
 |second _ _=>simp[Zg,Qx,Qn,ln,Qg9]
 |_=>exact Qf2 (by decide) (by decide)
theorem Qhv{l:Li}{bs:List Str}{f:Str->Option Nat}{h:MH}{n:Nat}(b:h[n]?=some (.dic (dcE bs f)))(c:∀y∈bx l,y∈bs):QO [Qn (ln l),.ref n] h=some (oN ((QaE l).bind f),h):=by
 refine Yf (as:=[Qn (ln l),.ref 0]) (ns:=[n]) (os:=[.dic (dcE bs f)]) (g:=[]) (by unfold Qn;simp[XJ]) (by simp) (by simp[Zo,UE,b]) ?_ (by simp);have hr:∀h,Kk [Qn (ln l)] h=some (oS (QaE l),h):=fun h=>Qfc;cases e:QaE l with
 |none=>simp[Jv,Qx,hr,e,oS,oN]
 |some y=>
  have a:y∈bs:=c y (by cases l<;>simp[QaE]at e<;>subst e<;>simp[bx]);have:=KO (f:=f) a;simp[Jv,Qx,hr,e,oS,this]
theorem Qit{a:List Rm}{o:Option Nat}{h:MH}{n:Nat}(c:h[n]?=some (.lst (a.map Z3)))(b:∀k,o=some k->k<a.length):ZH [.ref n,oN o] h=some (.str (Qag a o),h):=by
 refine Yf (as:=[.ref 0,oN o]) (ns:=[n]) (os:=[.lst (a.map Z3)]) (g:=[]) (by cases o<;>simp[XJ,oN]) (by simp) (by simp[Zo,UE,c]) ?_ (by simp);cases o with
 |none=>simp[Jy,Qx,oN,Qag,Zc]
 |some k=>
  have d:=b k rfl;have e:a[k]?=some a[k]:=Nl d;simp[Jy,Qx,oN,Qag,QN,e,Z3]
theorem Gs{d:List Rm}{o:Option Nat}{h:MH}{n:Nat}{g:Rm->Option Nat}{c:Int}(l:(c=1/\g=Rm.a)\/(c=2/\g=Rm.b))(i:h[n]?=some (.lst (d.map Z3)))(f:∀k,o=some k->k<d.length):Zq [.ref n,oN o,.int c] h=some (oN (JF d g o),h):=by
 refine Yf (as:=[.ref 0,oN o,.int c]) (ns:=[n]) (os:=[.lst (d.map Z3)]) (g:=[]) (by cases o<;>simp[XJ,oN]) (by simp) (by simp[Zo,UE,i]) ?_ (by simp);cases o with
 |none=>simp[ZV,Qx,oN,JF]
 |some k=>
  have j:=f k rfl;have e:d[k]?=some d[k]:=Nl j
  rcases l with⟨rfl,rfl⟩|⟨rfl,rfl⟩<;>simp[ZV,Qx,oN,JF,QN,e,Z3]
noncomputable def Uo(t:TS):Li->Option Nat
 |.pair _ _ _ _=>some (t.rooms.length-1)
 |.same _ y=>t.f y
 |.first _ y=>JF t.rooms Rm.a (t.f y)
 |.second _ y=>JF t.rooms Rm.b (t.f y)
 |_=>none
theorem QhR{x:Str}{r:List W}{a c:W}{h:MH}(b:∀h,Jj [.tup (.str x::r)] h=some (.non,h))(d:x≠"pair")(h2:x≠"same"):QY [.tup (.str x::r),a,c] h=some (.non,h):=by simp[QY,Qx,b,d,h2]
theorem Qfl{l:Li}{t:TS}{bs:List Str}{h:MH}{n m:Nat}(i:n≠m)(q:h[n]?=some (.lst (t.rooms.map Z3)))(r:h[m]?=some (.dic (dcE bs t.f)))(j:∀y∈bx l,y∈bs)(o:∀x k,t.f x=some k->k<t.rooms.length)(p:∀x w y z,l=.pair x w y z->0<t.rooms.length):Z4 [Qn (ln l),.ref n,.ref m] h=some (oN (Uo t l),h):=by
 refine Yf (as:=[Qn (ln l),.ref 0,.ref 1]) (ns:=[n,m]) (os:=[.lst (t.rooms.map Z3),.dic (dcE bs t.f)]) (g:=[]) (by unfold Qn;simp[XJ]) (by simp[i]) (by simp[Zo,UE,q,r]) ?_ (by simp);have c:∀h,Jj [Qn (ln l)] h=some (Qg9 l,h):=fun h=>QdY;have e:∀y,Zq [.ref 0,oN (t.f y),.int 1] [.lst (t.rooms.map Z3),.dic (dcE bs t.f)]=some (oN (JF t.rooms Rm.a (t.f y)),_):=fun y=>Gs (.inl ⟨rfl,rfl⟩) rfl (o y);have d:∀y,Zq [.ref 0,oN (t.f y),.int 2] [.lst (t.rooms.map Z3),.dic (dcE bs t.f)]=some (oN (JF t.rooms Rm.b (t.f y)),_):=fun y=>Gs (.inr ⟨rfl,rfl⟩) rfl (o y);cases l with
 |pair x w y z=>
  have u:=p x w y z rfl;have:((t.rooms.length:Int)-1)=((t.rooms.length-1:Nat):Int):=by lia
  simp[QY,Qx,Qn,ln,Uo,oN,this]
 |first x y=>
  have:=KO (f:=t.f) (j y (by simp[bx]));simp[Qn,ln,Qg9]at c;simp[QY,Qx,Qn,ln,Uo,c,Qg9,this,e]
 |second x y=>
  have:=KO (f:=t.f) (j y (by simp[bx]));simp[Qn,ln,Qg9]at c;simp[QY,Qx,Qn,ln,Uo,c,Qg9,this,d]
 |same x y=>
  have:=KO (f:=t.f) (j y (by simp[bx]));simp[QY,Qx,Qn,ln,Uo,this]
 |_=>exact QhR c (by decide) (by decide)
theorem szM{n:Nat}(h:n<=16000000):n<sizeLine:=Nf h (by decide)
noncomputable def oL:Option Li->W
 |none=>.non
 |some l=>Qn (ln l)
@[simp]theorem Qot{o:Option Li}:pur (oL o)=true:=by cases o<;>simp[oL]
noncomputable def hT(bs:List Str)(t:TS):MH:=[.lst (t.rooms.map Z3),.lst (t.read.map K8),.lst (t.told.map .str),.dic (dcE bs t.f)]
noncomputable def stT(P R:W)(i l:Option W):MSt:=[some P,some R,some (.ref 0),some (.ref 1),some (.ref 2),some (.ref 3),i,l]
theorem Qnr{P R sp:W}{bs:List Str}{t:TS}{i:Nat}{x:Option W}(hr:wIx R (.int i) (hT bs t)=some (sp,hT bs t))(a:∀h,QD [P,sp] h=some (.non,h)):JN (stT P R (some (.int i)) x) (hT bs t)=some (.ct (stT P R (some (.int i)) (some .non)) (hT bs t)):=by
 simp[stT,hr,a]
theorem YW{a b:SM}{σ c:MSt}{h d:MH}{f:Option MF}(e:a σ h=some (.nx c d))(g:b c d=f):Qt a b σ h=f:=by
 unfold Qt;rw[e];exact g
section
variable{P R:W}{bs:List Str}{t:TS}{i:Nat}{x:Str}{r:List W}{L:W}{n:Option W}
noncomputable abbrev b1:SM:=Jq (Qm (Qe YQ (Qi 2 QO (Qa (Qb 7) (Qa (Qb 5) Qd))) (mC .non))) (ZQ (mMt "list" QL (Qb 3) (Qa (mFn Z1 (Qa (Qb 6) (Qa (Qi 2 QO (Qa (Qb 7) (Qa (Qb 5) Qd))) Qd))) Qd))) QP
noncomputable abbrev b2:SM:=Jq (Qm (Qe wEq (Qe wIx (Qb 7) (mC (.int 0))) (mC (.str "tell")))) (ZQ (mMt "list" QL (Qb 4) (Qa (Qi 2 ZH (Qa (Qb 2) (Qa (Qe Qcl (Qb 5) (Qe wIx (Qb 7) (mC (.int 1)))) Qd))) Qd))) QP
noncomputable abbrev b3:SM:=Jq (Qm (Qe wEq (Qe wIx (Qb 7) (mC (.int 0))) (mC (.str "pair")))) (ZQ (mMt "list" QL (Qb 2) (Qa (mFn Z1 (Qa (Qe wIx (Qb 7) (mC (.int 2))) (Qa (Qe Qcl (Qb 5) (Qe wIx (Qb 7) (mC (.int 3)))) (Qa (Qe Qcl (Qb 5) (Qe wIx (Qb 7) (mC (.int 4)))) (Qa (Qe VJ (Qb 6) (mC (.int 1))) Qd))))) Qd))) QP
noncomputable abbrev b4:SM:=Jq (Qm (Qe YQ (Qi 1 Jw (Qa (Qb 7) Qd)) (mC .non))) (QbV (Qb 5) (Qi 1 Jw (Qa (Qb 7) Qd)) (Qi 3 Z4 (Qa (Qb 7) (Qa (Qb 2) (Qa (Qb 5) Qd))))) QP
theorem G4(hr:QO [L,.ref 3] (hT bs t)=some (.non,hT bs t)):b1 (stT P R n (some L)) (hT bs t)=some (.nx (stT P R n (some L)) (hT bs t)):=by simp[stT,hr]
theorem Qex{k:Nat}(hr:QO [L,.ref 3] (hT bs t)=some (.int k,hT bs t))(a:t.read.length<sizeLine):b1 (stT P R (some (.int i)) (some L)) (hT bs t)=some (.nx (stT P R (some (.int i)) (some L)) (hT bs { t with read:=t.read++[(i,k)] })):=by
 simp only[hT]at hr ⊢;simp[stT,hr,a,K8]
theorem GO{h:MH}(a:x≠"tell"):b2 (stT P R n (some (.tup (.str x::r)))) h=some (.nx (stT P R n (some (.tup (.str x::r)))) h):=by simp[stT,a]
theorem QgU{w:Str}(a:UF (dcE bs t.f) (.inr x)=some (oN (t.f x)))(hw:ZH [.ref 0,oN (t.f x)] (hT bs t)=some (.str w,hT bs t))(b:t.told.length<sizeLine):b2 (stT P R n (some (.tup [.str "tell",.str x]))) (hT bs t)=some (.nx (stT P R n (some (.tup [.str "tell",.str x]))) (hT bs { t with told:=t.told++[w] })):=by
 simp only[hT]at hw ⊢;simp[stT,a,hw,b]
theorem UB{h:MH}(a:x≠"pair"):b3 (stT P R n (some (.tup (.str x::r)))) h=some (.nx (stT P R n (some (.tup (.str x::r)))) h):=by simp[stT,a]
theorem Qlu{w y z:Str}(b:UF (dcE bs t.f) (.inr y)=some (oN (t.f y)))(a:UF (dcE bs t.f) (.inr z)=some (oN (t.f z)))(c:t.rooms.length<sizeLine):b3 (stT P R (some (.int i)) (some (.tup [.str "pair",.str x,.str w,.str y,.str z]))) (hT bs t)=some (.nx (stT P R (some (.int i)) (some (.tup [.str "pair",.str x,.str w,.str y,.str z]))) (hT bs { t with rooms:=t.rooms++[⟨w,t.f y,t.f z,i+1⟩] })):=by
 simp[hT,stT,b,a,c,Z3]
theorem QiB{h:MH}(a:Jw [L] h=some (.non,h)):b4 (stT P R n (some L)) h=some (.nx (stT P R n (some L)) h):=by simp[stT,a]
theorem UZ{v:Option Nat}(d:∀h,Jw [L] h=some (.str x,h))(a:Z4 [L,.ref 0,.ref 3] (hT bs t)=some (oN v,hT bs t))(c:x∈bs)(b:(dcE bs t.f).length<sizeLine):b4 (stT P R n (some L)) (hT bs t)=some (.nx (stT P R n (some L)) (hT bs { t with f:=up t.f x v })):=by
 have pt:=QlR (f:=t.f) (v:=v) c;simp only[hT]at a ⊢;simp[stT,d,a,b,pt]
theorem Wd{sp:W}{y:Option W}{c g h2 f e:MH}{σ:MSt}{ws:List W}(hr:wIx R (.int i) c=some (sp,c))(j:∀h,QD [P,sp] h=some (.tup ws,h))(d:σ=stT P R (some (.int i)) (some (.tup ws)))(p:b1 σ c=some (.nx σ g))(o:b2 σ g=some (.nx σ h2))(m:b3 σ h2=some (.nx σ f))(l:b4 σ f=some (.nx σ e)):JN (stT P R (some (.int i)) y) c=some (.nx σ e):=by
 subst d;have a:(Q4 7 (Qi 2 QD (Qa (Qb 0) (Qa (Qe wIx (Qb 1) (Qb 6)) Qd)))) (stT P R (some (.int i)) y) c=some (.nx (stT P R (some (.int i)) (some (.tup ws))) c):=by simp[stT,hr,j]
 have b:(Jq (Qm (Qe wIs (Qb 7) (mC .non))) Ql7 QP) (stT P R (some (.int i)) (some (.tup ws))) c=some (.nx (stT P R (some (.int i)) (some (.tup ws))) c):=by simp[stT]
 exact YW a (YW b (YW p (YW o (YW m l))))
end
theorem QnJ{P R sp:W}{bs:List Str}{t:TS}{i:Nat}{x:Option W}{l:Li}(hi:i<=15000000)(u:bs.length<=1000)(hr:wIx R (.int i) (hT bs t)=some (sp,hT bs t))(m:∀h,QD [P,sp] h=some (Qn (ln l),h))(ok:OkT i t)(n:∀y∈bx l,y∈bs):JN (stT P R (some (.int i)) x) (hT bs t)=some (.nx (stT P R (some (.int i)) (some (Qn (ln l)))) (hT bs (VE i t l))):=by
 have C:t.rooms.length<sizeLine:=szM (Nh (Nh ok.rl hi) (by decide));have s:t.read.length<sizeLine:=szM (Nh (Nh ok.dl hi) (by decide));have B:t.told.length<sizeLine:=szM (Nh (Nh ok.tl hi) (by decide));have p:(dcE bs t.f).length<sizeLine:=by unfold dcE;rw[NG];exact szM (Nh u (by decide))
 have c:QO [Qn (ln l),.ref 3] (hT bs t)=some (oN ((QaE l).bind t.f),hT bs t):=Qhv rfl n;have g:∀h,Jw [Qn (ln l)] h=some (oS (QpE l),h):=fun h=>Qfp;have j:∀d:TS,d.f=t.f->t.rooms.length<=d.rooms.length->(∀x w y z,l=.pair x w y z->0<d.rooms.length)->Z4 [Qn (ln l),.ref 0,.ref 3] (hT bs d)=some (oN (Uo d l),hT bs d):=fun d e h D=>Qfl (by decide) rfl rfl n (fun x k q=>Nd (ok.f x k (by rw[<-e];exact q)) h) D;cases l with
 |pair x w y z=>exact Wd hr m rfl (G4 c) (GO (by decide)) (Qlu (KO (n y (by simp[bx]))) (KO (n z (by simp[bx]))) C) (UZ (v:=some t.rooms.length) g ((j { t with rooms:=t.rooms++[⟨w,t.f y,t.f z,i+1⟩] } rfl (by simp) (fun _ _ _ _ _=>by simp)).trans (by simp[Uo])) (n x (by simp[bx])) p)
 | first x y=>
  have fin:∀d:TS,d.f=t.f->d.rooms=t.rooms->b4 (stT P R (some (.int i)) (some (Qn (ln (.first x y))))) (hT bs d)=some (.nx (stT P R (some (.int i)) (some (Qn (ln (.first x y))))) (hT bs { d with f:=up d.f x (JF t.rooms Rm.a (t.f y)) })):=fun d e o=>UZ g ((j d e (by rw[o];exact Nw _) nofun).trans (by rw[Uo,e,o])) (n x (by simp[bx])) (by rw[e];exact p);cases e:t.f y with
  |none=>
   rw[QaE,Nv,e]at c;rw[VE,e,rdL,EE,<-e];exact Wd hr m rfl (G4 c) (GO (by decide)) (UB (by decide)) (fin t rfl rfl)
  |some k=>
   rw[QaE,Nv,e]at c;rw[VE,e,rdL,<-e];exact Wd hr m rfl (Qex c s) (GO (by decide)) (UB (by decide)) (fin { t with read:=t.read++[(i,k)] } rfl rfl)
 | second x y=>
  have fin:∀d:TS,d.f=t.f->d.rooms=t.rooms->b4 (stT P R (some (.int i)) (some (Qn (ln (.second x y))))) (hT bs d)=some (.nx (stT P R (some (.int i)) (some (Qn (ln (.second x y))))) (hT bs { d with f:=up d.f x (JF t.rooms Rm.b (t.f y)) })):=fun d e o=>UZ g ((j d e (by rw[o];exact Nw _) nofun).trans (by rw[Uo,e,o])) (n x (by simp[bx])) (by rw[e];exact p);cases e:t.f y with
  |none=>
   rw[QaE,Nv,e]at c;rw[VE,e,rdL,EE,<-e];exact Wd hr m rfl (G4 c) (GO (by decide)) (UB (by decide)) (fin t rfl rfl)
  |some k=>
   rw[QaE,Nv,e]at c;rw[VE,e,rdL,<-e];exact Wd hr m rfl (Qex c s) (GO (by decide)) (UB (by decide)) (fin { t with read:=t.read++[(i,k)] } rfl rfl)
 |same x y=>exact Wd hr m rfl (G4 c) (GO (by decide)) (UB (by decide)) (UZ g (j t rfl (Nw _) nofun) (n x (by simp[bx])) p)
 |non x=>exact Wd hr m rfl (G4 c) (GO (by decide)) (UB (by decide)) (UZ g (j t rfl (Nw _) nofun) (n x (by simp[bx])) p)
 | tell x=>
  have A:=KO (f:=t.f) (n x (by simp[bx]))
  have r:∀d:TS,d.f=t.f->d.rooms=t.rooms->ZH [.ref 0,oN (d.f x)] (hT bs d)=some (.str (Qag t.rooms (t.f x)),hT bs d):=fun d e o=>by
   rw[e,<-o];exact Qit rfl fun k q=>by rw[o];exact ok.f x k q
  cases e:t.f x with
  |none=>
   rw[QaE,Nv,e]at c;rw[VE,e,rdL,EE,<-e];exact Wd hr m rfl (G4 c) (QgU A (r t rfl rfl) B) (UB (by decide)) (QiB (g _))
  |some k=>
   rw[QaE,Nv,e]at c;rw[VE,e,rdL,<-e];exact Wd hr m rfl (Qex c s) (QgU (t:={ t with read:=t.read++[(i,k)] }) A (r { t with read:=t.read++[(i,k)] } rfl rfl) B) (UB (by decide)) (QiB (g _))
 |_=>exact Wd hr m rfl (G4 c) (GO (by decide)) (UB (by decide)) (QiB (g _))
end My
namespace St
theorem Qka(ks:List Str):∃ss:List Str,ss.Perm ks/\sortedS ss=true:=by
 refine⟨ks.mergeSort (fun a b=>decide (a.cps.toList<=b.cps.toList)),List.mergeSort_perm _ _,?_⟩;apply sortedS_of_pairwise
 have:=List.pairwise_mergeSort (le:=fun a b:Str=>decide (a.cps.toList<=b.cps.toList)) (fun a b c e d=>by
  rw[decide_eq_true_eq]at *;exact List.le_trans e d) (fun a b=>by
  rw[Dn,decide_eq_true_eq,decide_eq_true_eq]
  exact List.le_total _ _) ks
 exact this.imp fun h=>le_of_lt.mpr (by simpa using h)
theorem srt_spec(ks:List Str):(srt ks).Perm ks/\sortedS (srt ks)=true:=by
 obtain⟨a,p,h⟩:=Qka ks;rw[srt_eq p h];exact⟨p,h⟩
theorem Gf:∀(l:List Str),sortedS l=true->l.Pairwise fun a b=>a.cps.toList<=b.cps.toList
 |[],_=>.nil
 |x::r,h=>.cons (Xe x r h) (Gf r (XD h))
theorem srt_lt(e:ks.Nodup):(srt ks).Pairwise fun a b=>a.cps.toList<b.cps.toList:=by
 obtain⟨p,h⟩:=srt_spec ks;have g:=Gf _ h;have f:(srt ks).Nodup:=p.nodup_iff.mpr e;refine(g.and f).imp fun {a b} q=>?_;obtain⟨d,c⟩:=q
 rcases List.le_iff_lt_or_eq.mp d with z|z
 ·exact z
 ·exact absurd (str_eq z) c
end St
namespace My
open L2 Mi
theorem szG{n:Nat}(h:n<=100000):n<sizeLine:=Nf h (by decide)
@[simp]theorem Qno{ws:List W}{h:MH}:Qe8 [.tup ws] h=some (.lst ws,h):=id rfl
theorem Qjq(xs:List a)(k:Nat):Qai xs (some (k:Int)) none=xs.drop k:=by
 unfold Qai;rw[HT.sIx_nat,HT.sIx_none]
 by_cases h:k<=xs.length
 ·rw[Ds h,Dh (by simp)]
 ·rw[O2 (Nn (DS.mp h)),Ee (Nw _),Ee (Nn (DS.mp h))];simp
theorem QlT{x:Str}{h:MH}:wIn false (.str x) (.tup [.str "first",.str "second",.str "same",.str "none",.str "tell"]) h=some (.bl (decide (x∈[("first":Str),"second","same","none","tell"])),h):=by
 have:=Qgy (g:=false) (x:=x) (l:=[("first":Str),"second","same","none","tell"]) (h:=h);simpa using this
theorem QnE{x:Str}{r:List W}{h:MH}(b:x≠"pair")(a:x∈[("first":Str),"second","same","none","tell"]):Q9 [.tup (.str x::r)] h=some (.lst r,h):=by
 have c:Qai (W.str x::r) (some 1) none=r:=Qjq (W.str x::r) 1;simp[Q9,Qx,QlT,b,a,c,-NH]
theorem Qm4{x:Str}{r:List W}{h:MH}(b:x≠"pair")(a:¬x∈[("first":Str),"second","same","none","tell"]):Q9 [.tup (.str x::r)] h=some (.lst [],h):=by
 simp[Q9,Qx,QlT,b,a,-NH]
theorem Qh8{l:Li}{h:MH}:VA [Qn (ln l)] h=some (.lst ((bx l).map .str),h):=by
 refine Qv (g:=[]) (by simp) ?_ (by simp);cases l with
 |pair x w y z=>simp[Q9,Qx,Qn,ln,bx]
 |_=>first|exact QnE (by decide) (by decide)|exact Qm4 (by decide) (by decide)
structure GP(B:List Str)(p:List Pr):Prop where
 len:p.length<=5
 sz:∀x∈p,x.2.length<=1300
 tot:(als p).length<=1300
 b:∀l∈als p,∀y∈bx l,y∈B
 bl:B.length<=5
theorem QfF{p:List Pr}{B:List Str}(m:GP B p){h:MH}:ZF [Q3 (pp p)] h=some (.lst ((als p).map fun l=>Qn (ln l)),h):=by
 have t:=m.len
 have key:=J9 (items:=(pp p).map Vq) (b:=JM 2) (body:=Xw) (fun j f h=>∃x,f=[some (Q3 (pp p)),some (.ref 0),x]/\h=[.lst ((als (p.take j)).map fun l=>Qn (ln l))]/\(als (p.take j)).length<=1300*j) ((pp p).map Vq) 0 [some (Q3 (pp p)),some (.ref 0),none] [.lst []] ⟨_,rfl,rfl,by simp[als]⟩ (by
  rintro j w i f h ⟨x,rfl,rfl,d⟩
  rw[Nz]at i;obtain⟨y,c,rfl⟩:=Nk.mp i;unfold pp at c;rw[Nz]at c;obtain⟨z,a,rfl⟩:=Nk.mp c;have s:=(Ng.mp a).1;have q:=m.sz z (NI.mpr ⟨j,a⟩);rw[NX]at d ⊢
  have n:als (p.take (j+1))=als (p.take j)++z.2:=by
   unfold als;rw[DX,a,Fl];simp
  have sz:((als (p.take j)).length+z.2.length)<=sizeLine:=Nn (szG (by lia));refine⟨[some (Q3 (pp p)),some (.ref 0),some (Vq (z.1,z.2.map ln))],rfl,[some (Q3 (pp p)),some (.ref 0),some (Vq (z.1,z.2.map ln))],[.lst ((als (p.take (j+1))).map fun l=>Qn (ln l))],.inl ?_,_,rfl,rfl,by rw[n,NC];lia⟩;rw[n]
  simp[Vq,sz,Xf])
 obtain⟨o,u,e,x,rfl,rfl,_⟩:=key;rw[NG,NX]at e;have r:p.take (pp p).length=p:=Dh (by unfold pp;simp);rw[r]at e;refine QaW (j:=0) (g:=[.lst ((als p).map fun l=>Qn (ln l))]) (by simp) ?_ rfl (QG _ (QZ fun _=>Qhr));have ei:Zl (Qb 0) [some (Q3 (pp p)),some (.ref 0),none] [.lst []]=some ((pp p).map Vq,none,[.lst []]):=rfl;simp[Vz,Qx,K3,ei,e]
theorem Qe7{a:W}{ss:List Str}{h:MH}(b:lsW h a=some (ss.map .str))(c:ss.length<4000)(h2:(St.uniq ss).length<64):VP [a] h=some (.ref h.length,h++[.lst ((St.srt (St.uniq ss)).map .str)]):=by
 unfold VP;simp only[b,Nv,Qjj];rw[if_pos ⟨c,h2⟩]
theorem Qjn{p:List Pr}{B:List Str}(a:GP B p):(als p).length<=1300:=a.tot
theorem Qgr(l:Li):(bx l).length<=3:=by cases l<;>simp[bx]
theorem GW:∀(ls:List Li),(ls.flatMap bx).length<=3*ls.length
 |[]=>by simp
 |l::ls=>by
  have b:=GW ls;have a:=Qgr l;rw[EU,NC,NP];lia
theorem QaX:∀(a b:List Str),a.Nodup->(∀y∈a,y∈b)->a.length<=b.length
 |[],b,_,_=>NJ _
 |k::r,b,c,h=>by
  have e:=h k Ny;rw[EF]at c;have:=QaX r (b.erase k) c.2 fun y d=>(FZ (fun z=>c.1 (by rw[<-z];exact d))).mpr (h y (Nu _ d));rw[Fy e]at this;have:=List.length_pos_of_mem e;rw[NP];lia
theorem Uy:∀(n:Nat) (l:List Str),l.length=n->(St.uniq l).Nodup:=by
 intro n
 induction n with
 |zero=>intro l h;rw[N7.mp h];exact EI
 |succ n c=>
  intro l h;obtain⟨u,x,rfl⟩:∃u x,l=u++[x]:=⟨l.dropLast,l.getLast (fun z=>by rw[z]at h;cases h),(ER _).symm⟩
  have q:=c u (by simp at h;exact h);rw[St.uniq_snoc];split
  ·exact q
  ·rename_i d;rw[Iy];exact⟨q,by simp,fun a g b f e=>d (by rw[NR.mp f]at e;rw[<-e];exact g)⟩
noncomputable def BX(p:List Pr):List Str:=St.srt (St.uniq ((als p).flatMap bx))
theorem BX_mem{p:List Pr}{y:Str}:y∈BX p↔∃l∈als p,y∈bx l:=by
 unfold BX;rw[(St.srt_spec _).1.mem_iff,St.uniq_mem _ _ rfl,EY]
theorem QnP(p:List Pr):(BX p).Pairwise fun a b=>a.cps.toList<b.cps.toList:=St.srt_lt (Uy _ _ rfl)
theorem QfA(p:List Pr):(BX p).Nodup:=(St.srt_spec _).1.nodup_iff.mpr (Uy _ _ rfl)
theorem QlY{p:List Pr}{B:List Str}(c:GP B p):(BX p).length<=5:=
 Nh (QaX _ B (QfA p) fun y a=>by obtain⟨l,d,a⟩:=BX_mem.mp a;exact c.b l d y a) c.bl
theorem Qh2{p:List Pr}{B:List Str}(c:GP B p){h:MH}:ZE [Q3 (pp p)] h=some (.lst ((BX p).map .str),h):=by
 have f:=Qjn c
 have key:=J9 (items:=(als p).map fun l=>Qn (ln l)) (b:=JM 2) (body:=XS) (fun j d h=>∃x,d=[some (Q3 (pp p)),some (.ref 0),x]/\h=[.lst ((((als p).take j).flatMap bx).map .str)]) ((als p).map fun l=>Qn (ln l)) 0 [some (Q3 (pp p)),some (.ref 0),none] [.lst []] ⟨_,rfl,by simp⟩ (by
  rintro j w i d h ⟨x,rfl,rfl⟩
  rw[Nz]at i;obtain⟨z,e,rfl⟩:=Nk.mp i;have q:=(Ng.mp e).1;rw[NX]
  have r:((als p).take (j+1)).flatMap bx=((als p).take j).flatMap bx++bx z:=by
   rw[DX,e,Fl];simp
  have t:=GW ((als p).take j);rw[Ey]at t;have D:=Qgr z;have sz:((((als p).take j).flatMap bx).map W.str).length+((bx z).map W.str).length<=sizeLine:=by rw[NG,NG];exact Nn (szG (by lia))
  refine⟨[some (Q3 (pp p)),some (.ref 0),some (Qn (ln z))],rfl,[some (Q3 (pp p)),some (.ref 0),some (Qn (ln z))],[.lst ((((als p).take (j+1)).flatMap bx).map .str)],.inl ?_,_,rfl,rfl⟩;rw[r,Eb];have v:∀h,VA [Qn (ln z)] h=some (.lst ((bx z).map .str),h):=fun h=>Qh8;generalize(bx z).map W.str=Y at *;generalize(((als p).take j).flatMap bx).map W.str=X at *
  simp[v,sz])
 obtain⟨n,E,m,x,rfl,rfl⟩:=key;rw[NG,NX,DJ]at m
 have o:∀y∈(als p).flatMap bx,y∈B:=fun y a=>by
  obtain⟨l,f,a⟩:=EY.mp a;exact c.b l f y a
 have C:=GW (als p)
 have s:(St.uniq ((als p).flatMap bx)).length<64:=by
  have:=QaX _ B (Uy _ ((als p).flatMap bx) rfl) fun y a=>o y ((St.uniq_mem _ _ rfl y).mp a);have:=c.bl;lia
 refine QaW (j:=1) (g:=[.lst (((als p).flatMap bx).map .str),.lst ((BX p).map .str)]) (by simp) ?_ rfl (by simp);have A:∀h,ZF [Q3 (pp p)] h=some (.lst ((als p).map fun l=>Qn (ln l)),h):=fun h=>QfF c
 have ei:Zl (Qi 1 ZF (Qa (Qb 0) Qd)) [some (Q3 (pp p)),some (.ref 0),none] [.lst []]=some ((als p).map fun l=>Qn (ln l),none,[.lst []]):=by
  have:Qi 1 ZF (Qa (Qb 0) Qd) [some (Q3 (pp p)),some (.ref 0),none] [.lst []]=some (.lst ((als p).map fun l=>Qn (ln l)),[.lst []]):=by simp[A]
  unfold Zl;rw[this];rfl
 have u:VP [.ref 0] [.lst (((als p).flatMap bx).map .str)]=some (.ref 1,[.lst (((als p).flatMap bx).map .str),.lst ((BX p).map .str)]):=Qe7 rfl (by lia) s;generalize(als p).flatMap bx=G at *;simp[V3,Qx,K3,ei,m,u]
noncomputable def QX(p:List Pr)(s:Spt):Option Li:=if s.head=true then none else(p[s.part]?).bind fun x=>x.2[s.k]?
def SpV(p:List Pr)(s:Spt):Prop:=∃x,p[s.part]?=some x/\s.k<=x.2.length
theorem QlL{i:Nat}(h:p[i]?=some x):atI ((pp p).map Vq) (i:Int)=some (Vq (x.1,x.2.map ln)):=by
 rw[QN,Nz];unfold pp;rw[Nz,h];rfl
theorem QlB{s:Spt}(i:SpV p s):QD [Q3 (pp p),Q2 s] h=some (oL (QX p s),h):=by
 obtain⟨x,a,j⟩:=i;refine Qv (g:=[]) (by simp) ?_ (by simp);obtain⟨f,part,k,head⟩:=s;have b:=QlL a;simp only at b a j;cases head with
 |true=>simp[Q6,Qx,Q2,Q3,b,Vq,QX,oL]
 | false=>
  by_cases e:k=x.2.length
  ·subst e;have d:x.2[x.2.length]?=none:=Eg (Nw _);simp[Q6,Qx,Q2,Q3,b,Vq,QX,a,d,oL]
  ·have c:k<x.2.length:=by lia
   have d:x.2[k]?=some x.2[k]:=Nl c;have ne:¬(k:Int)=x.2.length:=by lia
   simp[Q6,Qx,Q2,Q3,b,Vq,QX,a,d,oL,e,ne,QN]
noncomputable def Qnu(i:Nat)(t:TS):Option Li->TS
 |none=>t
 |some l=>VE i t l
noncomputable def tr0:TS:=⟨[],[],[],fun _=>none⟩
noncomputable def trN(ls:List (Option Li)):Nat->TS
 |0=>tr0
 |j+1=>Qnu j (trN ls j) (ls.getD j none)
theorem Qgw(ls:List (Option Li)):∀j,OkT j (trN ls j)
 |0=>⟨Nw _,Nw _,Nw _,Nw _,fun _ _ e=>(nomatch e),fun k r n e=>by simp[trN,tr0]at e⟩
 |j+1=>by
  have h:=Qgw ls j;rw[trN];cases ls.getD j none with
  |none=>exact⟨Es h.rl,Es h.dl,Es h.sl,Es h.tl,h.f,h.a⟩
  |some l=>exact QfI h l
theorem QjE:∀(bs:List Str),prW (bs.map fun b=>.tup [.str b,.non])=some (bs.map fun b=>(Sum.inr b,W.non))
 |[]=>rfl
 |b::bs=>by rw[NA,prW,QjE bs];rfl
theorem QcB:∀(ps a:List (Key×W)),((a++ps).map (·.1)).Nodup->QhK a ps=a++ps
 |[],a,_=>by simp[QhK]
 | p::ps,a,b=>by
  have g:¬(a.any fun c=>decide (c.1=p.1))=true:=by
   rw[O5]
   rintro⟨q,d,e⟩
   rw[decide_eq_true_eq]at e;rw[Eb,Iy]at b;exact b.2.2 q.1 (EW d) p.1 (by simp) e
  have f:Qcm a p.1 p.2=a++[p]:=by unfold Qcm;rw[if_neg g]
  show QhK (Qcm a p.1 p.2) ps=_;rw[f,QcB ps (a++[p]) (by rw[N6];exact b),N6];rfl
theorem QnF(c:bs.Nodup)(d:bs.length<=5):KA [.lst (bs.map fun b=>.tup [.str b,.non])] h=some (.ref h.length,h++[.dic (dcE bs fun _=>none)]):=by
 unfold KA;simp only[lsW,Nv,QjE];rw[if_pos (by rw[NG];exact Nn (Nf d (by decide))),QcB _ [] ?_]
 ·rfl
 ·rw[DV,N8];unfold List.Nodup;rw[Dy];exact List.Pairwise.imp (fun {a b} q e=>q (Ia e)) c
noncomputable def trV(p:List Pr)(t:TS):W:=.tup [.lst (t.rooms.map Z3),.lst (t.read.map K8),.lst (t.told.map .str),.lst ((BX p).map fun b=>.tup [.str b,oN (t.f b)])]
theorem QmL(e:a σ h=some ([.int j],h'))(b:j<16000000):YD a σ h=some (Qr 0 j,none,h'):=by
 unfold YD;rw[e,Nv];exact(if_pos ⟨by lia,by lia⟩).trans (by simp)
theorem Qfi:(Qr a n).length=n:=by simp[Qr]
theorem Qa1(D:GP B p){run:List Spt}(h1:1<=run.length)(h2:run.length<=15000000)(S:∀s∈run,SpV p s):Vk [Q3 (pp p),.lst (run.map Q2)] h=some (trV p (trN (run.map (QX p)) (run.length-1)),h):=by
 have q:=QlY D
 have e:=J9 (items:=Qr 0 (run.length-1)) (b:=JM 6) (body:=JN) (fun j C h=>∃r n,C=stT (Q3 (pp p)) (.lst (run.map Q2)) r n/\h=hT (BX p) (trN (run.map (QX p)) j)) (Qr 0 (run.length-1)) 0 (stT (Q3 (pp p)) (.lst (run.map Q2)) none none) (hT (BX p) tr0) ⟨none,none,rfl,rfl⟩ (by
  rintro j w Y C h ⟨r,n,rfl,rfl⟩
  obtain⟨A,rfl⟩:=VR Y;rw[NX];rw[Ow];have d:j<run.length:=by exact Nd A (NZ _ _)
  have E:run[j]?=some run[j]:=Nl d;have hr:∀h:MH,wIx (.lst (run.map Q2)) (.int j) h=some (Q2 run[j],h):=fun h=>by simp[QN,E]
  have z:=S run[j] (Ez d);have c:∀h,QD [Q3 (pp p),Q2 run[j]] h=some (oL (QX p run[j]),h):=fun h=>QlB z;have G:(run.map (QX p)).getD j none=QX p run[j]:=by simp[E]
  refine⟨stT (Q3 (pp p)) (.lst (run.map Q2)) (some (.int j)) n,rfl,?_⟩;cases a:QX p run[j]with
  |none=>
   rw[a]at c;refine⟨_,_,.inr (Qnr (hr _) c),_,_,rfl,?_⟩;rw[trN,G,a];rfl
  | some l=>
   rw[a]at c;refine⟨_,_,.inl (QnJ (Nn (Nd d h2)) (Nn (Nf q (by decide))) (hr _) c (Qgw _ j) fun y Q=>?_),_,_,rfl,?_⟩
   ·refine BX_mem.mpr ⟨l,?_,Q⟩;unfold QX at a;split at a
    ·cases a
    ·obtain⟨x,v,u⟩:=Na.mp a;exact EY.mpr ⟨x,EO v,EO u⟩
   ·rw[trN,G,a];rfl)
 obtain⟨I,h',a,r,n,rfl,rfl⟩:=e;rw[Qfi,NX]at a;generalize ht:trN (run.map (QX p)) (run.length-1)=t at a;have eb:∀h,ZE [Q3 (pp p)] h=some (.lst ((BX p).map .str),h):=fun h=>Qh2 D
 have ec:Zj VL (Zl (Qi 1 ZE (Qa (Qb 0) Qd))) [none] (JM 0) Xm (mFn Z1 (Qa (Qb 0) (Qa (mC .non) Qd))) [some (Q3 (pp p)),some (.lst (run.map Q2)),some (.ref 0),some (.ref 1),some (.ref 2),none,none,none] [.lst [],.lst [],.lst []]=some (.lst ((BX p).map fun b=>.tup [.str b,.non]),[.lst [],.lst [],.lst []]):=by
  have ei:Zl (Qi 1 ZE (Qa (Qb 0) Qd)) [some (Q3 (pp p)),some (.lst (run.map Q2)),some (.ref 0),some (.ref 1),some (.ref 2),none,none,none] [.lst [],.lst [],.lst []]=some ((BX p).map W.str,none,[.lst [],.lst [],.lst []]):=by
   have:Qi 1 ZE (Qa (Qb 0) Qd) [some (Q3 (pp p)),some (.lst (run.map Q2)),some (.ref 0),some (.ref 1),some (.ref 2),none,none,none] [.lst [],.lst [],.lst []]=some (.lst ((BX p).map W.str),[.lst [],.lst [],.lst []]):=by simp[eb]
   unfold Zl;rw[this];rfl
  rw[JT (items:=(BX p).map W.str) (caps:=[]) (fun w=>.tup [w,.non]) ei ⟨_,rfl⟩ (fun w hw=>by simp) (by rw[NG];exact KS (Nn (Nf q (by decide)))),N8];rfl
 have ed:=QnF (QfA p) q (h:=[.lst [],.lst [],.lst []])
 have Z:YD (Qa (Qe UQ (mFn Vp (Qa (Qb 1) Qd)) (mC (.int 1))) Qd) (stT (Q3 (pp p)) (.lst (run.map Q2)) none none) (hT (BX p) tr0)=some (Qr 0 (run.length-1),none,hT (BX p) tr0):=by
  refine QmL ?_ (Nf (Nh (NZ _ _) h2) (by decide));have:(run.length:Int)-1=((run.length-1:Nat):Int):=by lia
  simp[stT,this]
 have eS:Qjv (.ref 3,hT (BX p) t)=some (.lst ((BX p).map fun b=>.tup [.str b,oN (t.f b)]),hT (BX p) t):=by
  rw[Qhq (kvs:=dcE (BX p) t.f) rfl ⟨BX p,by unfold dcE;rw[N8];rfl,QnP p⟩ (by unfold dcE;rw[NG];exact Nf q (by decide))];unfold dcE;rw[N8];rfl
 have body:Vd [Q3 (pp p),.lst (run.map Q2)] []=some (.tup [.ref 0,.ref 1,.ref 2,.lst ((BX p).map fun b=>.tup [.str b,oN (t.f b)])],hT (BX p) t):=by
  have e1:hT (BX p) tr0=[.lst [],.lst [],.lst [],.dic (dcE (BX p) fun _=>none)]:=rfl;have m:=a;have i:=Z;simp only[e1,stT]at m i;simp[Vd,Qx,ec,ed,K3,i,m,eS,stT]
 have v:Zu (t.rooms.map Z3)=true:=Qin;have u:Zu (t.read.map K8)=true:=QG _ Qdj;have M:Zu (t.told.map W.str)=true:=Qfo
 have L:Zu ((BX p).map fun b=>.tup [.str b,oN (t.f b)])=true:=by
  induction BX p with
  |nil=>rfl
  |cons b bs P=>rw[NA,Qeu,P];simp
 have fin:box frN Vd [Q3 (pp p),.lst (run.map Q2)] h=some (trV p t,QF [] [] h):=by
  refine Us (ns:=[]) (os:=[]) (os':=[]) (g:=hT (BX p) t) (as:=[Q3 (pp p),.lst (run.map Q2)]) (by unfold Q3;simp[XJ]) EI rfl body rfl (fun o U=>nomatch U) ?_;unfold trV hT;simp[th,ths,res,Wu,ZC _ _ v,ZC _ _ u,ZC _ _ M,ZC _ _ L]
 rw[Qaw]at fin;exact fin
theorem QmD(h:LineOk bs ws f l):∃e:Li,ln e=l/\∀y∈bx e,y∈bs:=by
 cases h with
 |plain h=>
  cases h with
  |@pair x w y z c hw d g=>exact⟨.pair x w y z,rfl,fun a b=>by simp[bx]at b;rcases b with rfl|rfl|rfl<;>assumption⟩
  |@first x y c d=>exact⟨.first x y,rfl,fun a b=>by simp[bx]at b;rcases b with rfl|rfl<;>assumption⟩
  |@second x y c d=>exact⟨.second x y,rfl,fun a b=>by simp[bx]at b;rcases b with rfl|rfl<;>assumption⟩
  |@same x y c d=>exact⟨.same x y,rfl,fun a b=>by simp[bx]at b;rcases b with rfl|rfl<;>assumption⟩
  |@none x c=>exact⟨.non x,rfl,fun a b=>by simp[bx]at b;rw[b];exact c⟩
  |@tell x c=>exact⟨.tell x,rfl,fun a b=>by simp[bx]at b;rw[b];exact c⟩
 |@«do» x h=>exact⟨.doo x,rfl,fun a b=>by simp[bx]at b⟩
 |@blk x h=>
  rcases h with rfl|rfl|rfl|rfl
  ·exact⟨.either,rfl,fun a b=>by simp[bx]at b⟩
  ·exact⟨.again,rfl,fun a b=>by simp[bx]at b⟩
  ·exact⟨.or,rfl,fun a b=>by simp[bx]at b⟩
  ·exact⟨.fin,rfl,fun a b=>by simp[bx]at b⟩
 |@back x h=>exact⟨.back x,rfl,fun a b=>by simp[bx]at b⟩
theorem Qhb:∀{ls:List Ln},(∀l∈ls,LineOk bs ws f l)->∃a:List Li,a.map ln=ls/\∀l∈a,∀y∈bx l,y∈bs
 |[],_=>⟨[],rfl,fun _ h=>nomatch h⟩
 |l::ls,h=>by
  obtain⟨c,e,b1⟩:=QmD (h l Ny);obtain⟨a,d,b2⟩:=Qhb fun x b=>h x (Nu _ b);refine⟨c::a,by rw[NA,e,d],fun x b=>?_⟩
  rcases NH.mp b with rfl|b
  ·exact b1
  ·exact b2 x b
theorem QkQ:∀{p:List Pt},(∀x∈p,∃ws c,∀l∈x.2,LineOk bs ws c l)->∃q:List Pr,pp q=p/\∀l∈als q,∀y∈bx l,y∈bs
 |[],_=>⟨[],rfl,fun _ h=>by simp[als]at h⟩
 | x::p,h=>by
  obtain⟨ws,c,f⟩:=h x Ny;obtain⟨b,g,b1⟩:=Qhb f;obtain⟨q,d,b2⟩:=QkQ fun y e=>h y (Nu _ e);refine⟨(x.1,b)::q,?_,fun l a=>?_⟩
  ·unfold pp at d ⊢;rw[NA,d,g]
  ·unfold als at a b2;rw[EU]at a
   rcases N9.mp a with a|a
   ·exact b1 l a
   ·exact b2 l a
theorem Qki:(pp q).length=q.length:=by unfold pp;simp
theorem Qc6:∀(q:List Pr),(∀x∈q,x.2.length<=M)->(als q).length<=M*q.length
 |[],_=>by simp[als]
 |x::q,h=>by
  have b:=Qc6 q fun y a=>h y (Nu _ a);have c:=h x Ny;unfold als at b ⊢;rw[EU,NC,NP,Nat.mul_succ];lia
theorem Qev(f:GoodP N bs ws p)(l:∀x∈p,x.2.length<=M)(m:M<=1300)(hT:M*p.length<=1300)(j:bs.length<=5):∃q:List Pr,pp q=p/\GP bs q:=by
 obtain⟨q,e,b⟩:=QkQ (bs:=bs) (p:=p) fun x a=>by
  obtain⟨i,h⟩:=NI.mp a;exact⟨ws,_,f.ok i x h⟩
 have d:q.length=p.length:=by rw[<-e,Qki]
 have c:∀x∈q,x.2.length<=M:=fun x a=>by
  have:=l (x.1,x.2.map ln) (by rw[<-e];unfold pp;exact EW a);simpa using this
 have g:=Qc6 q c;rw[d]at g;exact⟨q,e,by rw[d];exact f.len,fun x a=>Nh (c x a) m,Nh g hT,b,j⟩
theorem Qg5(h:SV (pp q) s):SpV q s:=by
 obtain⟨x,a,c,_⟩:=h.ex;unfold pp at a;rw[Nz]at a;obtain⟨y,b,rfl⟩:=Nk.mp a;exact⟨y,b,by simpa using c⟩
open My3 My4 My5
theorem QlM{M:Nat}:∀(ls:List Ln),(ls.map fun l=>if Vn l=true then M+1 else 1).sum=ls.length+dcn ls*M
 |[]=>by simp[dcn]
 |l::ls=>by
  have a:=QlM (M:=M) ls;unfold dcn at a ⊢;rw[NA,DP,a,Fc,NP]
  by_cases h:Vn l=true
  ·rw[if_pos h,if_pos h,Ig,Nat.one_mul];lia
  ·rw[if_neg h,if_neg h,show List.countP Vn ls+0=List.countP Vn ls from rfl];lia
section
variable{bs ws:List Str}{p:List Pt}
theorem Qbr{N:Nat}(b:GoodP N bs ws p){i M:Nat}{x:Pt}(a:p[i]?=some x)(h:∀j,i+1<=j->j<p.length->(X p j).length<=M+1):(X p i).length<=x.2.length+dcn x.2*M:=by
 rw[Qhd b a,<-QlM];refine UK fun l c=>?_;unfold ex;cases hd:Y0 p l with
 |none=>show 1<=_;split<;>lia
 |some j=>
  obtain⟨g1,g2,g3,_⟩:=Qao b a c hd;rw[if_pos g3];exact h j g1 g2
theorem QmO(e:GoodP 50 bs ws p)(f:Qj2 p):(X p 0).length<=1200:=by
 have l:=e.len;have sz:∀{i:Nat} {x:Pt},p[i]?=some x->x.2.length<=50:=fun d=>e.sz _ (NI.mpr ⟨_,d⟩)
 have one:∀(n i:Nat),5-i<=n->1<=i->i<p.length->(X p i).length<=50*n:=by
  intro n
  induction n with
  |zero=>intro i h _ o;omega
  |succ n r=>
   intro i h q o;have d:p[i]?=some p[i]:=Nl o;generalize p[i]=x at d;have a:=Qbr e (M:=50*n) d fun j g1 g2=>Es (r j (by omega) (Nn (Nf q g1)) g2);have b:=sz d;have c:=e.dos i x d;rw[Qgz,if_neg (DF q)]at c;have:=Da (50*n) c;lia
 have s:0<p.length:=EX.mpr e.ne;have d:p[0]?=some p[0]:=Nl s;generalize p[0]=x at d;have b:=sz d
 rcases f with f|f
 ·have a:=Qbr e (M:=200) d fun j g1 g2=>Es (one 4 j (by omega) g1 g2);have:=Da 200 (f x d);lia
 ·have a:=Qbr e (M:=50) d fun j g1 g2=>by
   have g:p[j]?=some p[j]:=Nl g2;generalize p[j]=y at g;have a:=Qbr e (M:=200) g fun k g1 g2=>Es (one 4 k (by omega) (Nh (E8 _ _) g1) g2);obtain⟨m,rfl⟩:∃m,j=m+1:=⟨j-1,by lia⟩
   rw[f m y g]at a;have:=sz g;lia
  have c:dcn x.2<=23:=e.dos 0 x d;have:=Da 50 c;lia
theorem QjF:∀(d i:Nat) {l:Ln},l∈fl p d i->∃x∈p,l∈x.2
 |0,i,l,h=>by simp[fl]at h
 | d+1,i,l,h=>by
  unfold fl at h;cases b:p[i]? with
  |none=>rw[b]at h;simp at h
  |some x=>
   rw[b]at h;obtain⟨c,e,a⟩:=EY.mp h;cases hd:Y0 p c with
   |none=>rw[hd]at a;rw[NR.mp a];exact⟨x,NI.mpr ⟨i,b⟩,e⟩
   |some j=>rw[hd]at a;exact QjF d j a
end
noncomputable def unL:Ln->Option Li
 |[a]=>if a="either"then some .either else if a="or"then some .or else if a="again"then some .again else some .fin
 |[a,x]=>if a="none"then some (.non x)else if a="tell"then some (.tell x)else if a="back"then some (.back x)else some (.doo x)
 |[a,x,y]=>if a="first"then some (.first x y)else if a="second"then some (.second x y)else some (.same x y)
 |[_,x,w,y,z]=>some (.pair x w y z)
 |_=>none
theorem Qko(l:Li):unL (ln l)=some l:=by cases l<;>rfl
theorem Qgm{a b:Li}(h:ln a=ln b):a=b:=N5 ((Qko a).symm.trans ((congrArg unL h).trans (Qko b)))
structure CT where
 rooms:List (Str×Option Nat×Option Nat)
 told:List Str
 f:Str->Option Nat
 ev:List (Nat×Nat)
noncomputable def QhD(a:List (Str×Option Nat×Option Nat))(g:Str×Option Nat×Option Nat->Option Nat):Option Nat->Option Nat
 |none=>none
 |some n=>(a[n]?).bind g
noncomputable def QjP(a:List (Str×Option Nat×Option Nat)):Option Nat->Str
 |none=>"-"
 |some n=>match a[n]? with|some r=>r.1|none=>"-"
noncomputable def evR:Option Nat->List (Nat×Nat)
 |none=>[]
 |some n=>[(0,n)]
noncomputable def Kb(c:CT):Li->CT
 |.pair x w y z=>⟨c.rooms++[(w,c.f y,c.f z)],c.told,up c.f x (some c.rooms.length),c.ev++[(1,c.rooms.length)]⟩
 |.first x y=>{ c with f:=up c.f x (QhD c.rooms (·.2.1) (c.f y)),ev:=c.ev++evR (c.f y) }
 |.second x y=>{ c with f:=up c.f x (QhD c.rooms (·.2.2) (c.f y)),ev:=c.ev++evR (c.f y) }
 |.same x y=>{ c with f:=up c.f x (c.f y) }
 |.non x=>{ c with f:=up c.f x none }
 |.tell x=>{ c with told:=c.told++[QjP c.rooms (c.f x)],ev:=c.ev++evR (c.f x) }
 |_=>c
noncomputable def rm3(r:Rm):Str×Option Nat×Option Nat:=(r.word,r.a,r.b)
noncomputable abbrev Ev:=Nat×Nat×Nat
noncomputable def Qbx(a:List Rm):List Ev:=a.zipIdx.map fun p=>(p.1.at'-1,1,p.2)
noncomputable def Qcn(a:List (Nat×Nat)):List Ev:=a.map fun p=>(p.1,0,p.2)
structure Rep(i:Nat)(t:TS)(c:CT)(L:List Ev):Prop where
 rooms:t.rooms.map rm3=c.rooms
 told:t.told=c.told
 f:t.f=c.f
 ev:L.map (·.2)=c.ev
 lt:∀e∈L,e.1<i
 so:L.Pairwise fun a b=>a.1<b.1
 pm:(Qbx t.rooms++Qcn t.read).Perm L
 at1:∀r∈t.rooms,1<=r.at'
theorem Qa9{t:TS}{c:CT}(h:t.rooms.map rm3=c.rooms){g:Rm->Option Nat}{g':Str×Option Nat×Option Nat->Option Nat}(a:∀r,g r=g' (rm3 r))(o:Option Nat):JF t.rooms g o=QhD c.rooms g' o:=by
 cases o with
 |none=>rfl
 |some n=>
  show(t.rooms[n]?).bind g=(c.rooms[n]?).bind g';rw[<-h,Nz];cases t.rooms[n]? with
  |none=>rfl
  |some r=>exact a r
theorem QkW{t:TS}{c:CT}(h:t.rooms.map rm3=c.rooms)(o:Option Nat):Qag t.rooms o=QjP c.rooms o:=by
 cases o with
 |none=>rfl
 |some n=>
  show(match t.rooms[n]? with|some r=>r.word|none=>"-")=(match c.rooms[n]? with|some r=>r.1|none=>"-");rw[<-h,Nz];cases t.rooms[n]?<;>rfl
theorem Rep.len{i:Nat}{t:TS}{c:CT}{L:List Ev}(h:Rep i t c L):t.rooms.length=c.rooms.length:=by rw[<-h.rooms,NG]
theorem Rep.same{i:Nat}{t:TS}{c:CT}{L:List Ev}(h:Rep i t c L){g:Str->Option Nat}:Rep (i+1) { t with f:=g } { c with f:=g } L:=⟨h.rooms,h.told,rfl,h.ev,fun e a=>Er (h.lt e a),h.so,h.pm,h.at1⟩
theorem Qdb{L:List Ev}{i:Nat}{k:Nat×Nat}(c:L.Pairwise fun a b=>a.1<b.1)(lt:∀e∈L,e.1<i):(L++[(i,k)]).Pairwise fun a b=>a.1<b.1:=
 ES.mpr ⟨c,IX _ _,fun a f b d=>by rw[NR.mp d];exact lt a f⟩
theorem Qcw{L:List Ev}{i:Nat}{k:Nat×Nat}(lt:∀e∈L,e.1<i):∀e∈L++[(i,k)],e.1<i+1:=fun e a=>by
 rcases N9.mp a with h|h
 ·exact Er (lt e h)
 ·rw[NR.mp h];exact N1 _
theorem Rep.reads{i:Nat}{t:TS}{c:CT}{L:List Ev}(h:Rep i t c L)(o:Option Nat){g:Str->Option Nat}{td:List Str}:∃L',Rep (i+1) { t with read:=t.read++rdL i o,told:=td,f:=g } { c with told:=td,f:=g,ev:=c.ev++evR o } L':=by
 cases o with
 |none=>exact⟨L,h.rooms,rfl,rfl,by rw[h.ev];simp[evR],fun e a=>Er (h.lt e a),h.so,by simpa[rdL]using h.pm,h.at1⟩
 |some n=>
  refine⟨L++[(i,0,n)],h.rooms,rfl,rfl,by rw[Eb,h.ev];rfl,Qcw h.lt,Qdb h.so h.lt,?_,h.at1⟩;show(Qbx t.rooms++Qcn (t.read++[(i,n)])).Perm _;unfold Qcn;rw[Eb,<-N6];exact h.pm.append_right _
theorem Rep.pair{i:Nat}{t:TS}{c:CT}{L:List Ev}(h:Rep i t c L){w:Str}{a b:Option Nat}{g:Str->Option Nat}:Rep (i+1) { t with rooms:=t.rooms++[⟨w,a,b,i+1⟩],f:=g } ⟨c.rooms++[(w,a,b)],c.told,g,c.ev++[(1,c.rooms.length)]⟩ (L++[(i,1,t.rooms.length)]):=by
 refine⟨by rw[Eb,h.rooms];rfl,h.told,rfl,by rw[Eb,h.ev,h.len];rfl,Qcw h.lt,Qdb h.so h.lt,?_,fun r hr=>?_⟩
 ·show(Qbx (t.rooms++[_])++Qcn t.read).Perm _
  have e:Qbx (t.rooms++[⟨w,a,b,i+1⟩])=Qbx t.rooms++[(i,1,t.rooms.length)]:=by
   unfold Qbx;rw[List.zipIdx_append,Eb];simp
  rw[e,N6];refine List.Perm.trans ?_ (h.pm.append_right [(i,1,t.rooms.length)]);rw[N6];exact Dp _ Dq
 ·rcases N9.mp hr with hr|hr
  ·exact h.at1 r hr
  ·rw[NR.mp hr];exact E8 _ _
theorem Rep.step{i:Nat}{t:TS}{c:CT}{L:List Ev}(h:Rep i t c L)(l:Li):∃n,Rep (i+1) (VE i t l) (Kb c l) n:=by
 have keep:Rep (i+1) t c L:=⟨h.rooms,h.told,h.f,h.ev,fun e j=>Er (h.lt e j),h.so,h.pm,h.at1⟩
 cases l with
 |pair x w y z=>
  refine⟨L++[(i,1,t.rooms.length)],?_⟩;have:=h.pair (w:=w) (a:=t.f y) (b:=t.f z) (g:=up t.f x (some t.rooms.length));unfold VE Kb;rw[h.f,h.len]at *;exact this
 |first x y=>
  have e:=Qa9 h.rooms (g:=Rm.a) (g':=(·.2.1)) (fun _=>rfl) (t.f y);have:=h.reads (t.f y) (g:=up t.f x (JF t.rooms Rm.a (t.f y))) (td:=t.told);simp only[VE,Kb];rw[<-h.f,<-e,<-h.told];exact this
 |second x y=>
  have e:=Qa9 h.rooms (g:=Rm.b) (g':=(·.2.2)) (fun _=>rfl) (t.f y);have:=h.reads (t.f y) (g:=up t.f x (JF t.rooms Rm.b (t.f y))) (td:=t.told);simp only[VE,Kb];rw[<-h.f,<-e,<-h.told];exact this
 |same x y=>unfold VE Kb;rw[h.f];exact⟨L,h.same⟩
 |non x=>unfold VE Kb;rw[h.f];exact⟨L,h.same⟩
 |tell x=>
  have:=h.reads (t.f x) (g:=t.f) (td:=t.told++[Qag t.rooms (t.f x)]);simp only[VE,Kb];rw[<-h.f,<-QkW h.rooms,<-h.told];exact this
 |_=>exact⟨L,keep⟩
noncomputable def c0:CT:=⟨[],[],fun _=>none,[]⟩
noncomputable def cN(ls:List (Option Li)):CT:=(ls.filterMap id).foldl Kb c0
theorem Qan(ls:List (Option Li)):∀j,j<=ls.length->∃L,Rep j (trN ls j) (cN (ls.take j)) L
 |0,_=>⟨[],rfl,rfl,rfl,rfl,by simp,.nil,by simp[trN,tr0,Qbx,Qcn],by simp[trN,tr0]⟩
 | j+1,c=>by
  obtain⟨L,h⟩:=Qan ls j (Nn c);have b:ls[j]?=some ls[j]:=Nl c;have e:ls.getD j none=ls[j]:=by rw[Ff,b];rfl
  rw[trN,e,DX,b];generalize ls[j]=o;cases o with
  |none=>
   have a:cN (ls.take j++(some none).toList)=cN (ls.take j):=by simp[cN]
   rw[a];exact⟨L,h.rooms,h.told,h.f,h.ev,fun e d=>Er (h.lt e d),h.so,h.pm,h.at1⟩
  |some l=>
   obtain⟨i,g⟩:=h.step l;refine⟨i,?_⟩;have a:cN (ls.take j++(some (some l)).toList)=Kb (cN (ls.take j)) l:=by simp[cN]
   rw[a];exact g
noncomputable def nd:Li->Bool
 |.doo _=>false
 |_=>true
theorem Qal:∀(a:List Li) (c:CT),a.foldl Kb c=(a.filter nd).foldl Kb c
 |[],_=>rfl
 |l::a,c=>by
  rw[Fo,Qal a];cases l with
  |doo n=>rw[List.filter_cons_of_neg (by simp[nd])];rfl
  |_=>rw[List.filter_cons_of_pos (by rfl),Fo]
theorem Qhs(l:Li):Vn (ln l)=!nd l:=by cases l<;>first|rfl|(show(_==_)=_;decide)
theorem QlA{q:List Pr}{s:Spt}:LnS (pp q) s=((QX q s).toList.filter nd).map ln:=by
 unfold LnS QX
 by_cases a:s.head=true
 ·rw[if_pos a,if_pos a];rfl
 ·rw[if_neg a,if_neg a];unfold pp;rw[Nz];cases q[s.part]? with
  |none=>rfl
  | some x=>
   simp only[Fp,Nv,Nz];cases x.2[s.k]? with
   |none=>rfl
   |some l=>
    simp only[Fp,Qhs];cases b:nd l<;>simp[b]
theorem Qap{q:List Pr}:∀(run:List Spt),run.flatMap (LnS (pp q))=(((run.map (QX q)).filterMap id).filter nd).map ln
 |[]=>rfl
 |s::run=>by
  rw[EU,Qap run,QlA,NA];cases QX q s with
  |none=>rfl
  |some l=>simp only[Oj,Fj,id];rw[<-Eb,<-List.filter_append];rfl
theorem Wi:∀{a b:List Li},a.map ln=b.map ln->a=b
 |[],[],_=>rfl
 |[],_::_,h=>by simp at h
 |_::_,[],h=>by simp at h
 |x::a,y::b,h=>by
  rw[NA,NA]at h;injection h with c h2
  rw[Qgm c,Wi h2]
theorem Qkd{q b:List Pr}{run a:List Spt}(h:a.dropLast.flatMap (LnS (pp b))=run.dropLast.flatMap (LnS (pp q))):cN ((a.map (QX b)).take (a.length-1))=cN ((run.map (QX q)).take (run.length-1)):=by
 rw[Qap,Qap]at h;have:=Wi h;unfold cN;rw[<-LW,<-LW,<-D4,<-D4,Qal,this,<-Qal]
theorem Qhe{b:Str}:∀(e:List Li) (c:CT),(e.foldl Kb c).f b≠none->c.f b≠none\/∃l∈e,b∈bx l
 |[],c,h=>.inl h
 | l::e,c,h=>by
  rcases Qhe e (Kb c l) h with d|⟨i,d,h2⟩
  ·by_cases g:b∈bx l
   ·exact .inr ⟨l,Ny,g⟩
   ·refine .inl ?_;have a:∀{x:Str} {v:Option Nat},b≠x->up c.f x v b=c.f b:=fun j=>if_neg j;cases l<;>simp[bx]at g<;>simp only[Kb]at d<;>first|exact d|(rw[a g]at d;exact d)|(rw[a g.1]at d;exact d)
  ·exact .inr ⟨i,Nu _ d,h2⟩
theorem QbJ{q:List Pr}{s:Spt}{l:Li}(h:QX q s=some l):l∈als q:=by
 unfold QX at h;split at h
 ·cases h
 ·obtain⟨x,b,a⟩:=Na.mp h;exact EY.mpr ⟨x,NI.mpr ⟨_,b⟩,NI.mpr ⟨_,a⟩⟩
theorem Qhl{q:List Pr}{run:List Spt}{n:Nat}{b:Str}(h:(cN ((run.map (QX q)).take n)).f b≠none):b∈BX q:=by
 unfold cN at h
 rcases Qhe _ _ h with h|⟨l,g,e⟩
 ·exact absurd rfl h
 ·obtain⟨o,d,c⟩:=Ih.mp g;cases c;obtain⟨s,_,a⟩:=NT.mp (F3 d);exact BX_mem.mpr ⟨l,QbJ a,e⟩
noncomputable def WH(e:Ev):W:=.tup [.int e.1,.int e.2.1,.int e.2.2]
noncomputable def trE(e:Ev):Tr:=.t [.i e.1,.i e.2.1,.i e.2.2]
theorem Qlw:∀(rows:List Ev),plL (rows.map WH)=some (rows.map trE)
 |[]=>rfl
 |e::r=>by
  have h:plN 8 (WH e)=some (trE e):=rfl;rw[NA,NA];show((plN 8 (WH e)).bind fun t=>(plL (r.map WH)).map (t::·))=_;rw[h,Qlw r];rfl
theorem QpO{e:Ev}:Sb.Wf 8 (.t (.i::[.i,.i])) (trE e):=⟨_,rfl,.cons ⟨_,rfl⟩ (.cons ⟨_,rfl⟩ (.cons ⟨_,rfl⟩ .nil))⟩
theorem Qq4{a b:Ev}(h:a.1<b.1):Sb.ltN 8 (trE b) (trE a)=false:=by
 show Sb.lex (Sb.ltN 7) [.i b.1,_,_] [.i a.1,_,_]=false;unfold Sb.lex;rw[if_neg (by intro z;injection z with z;lia)];show decide ((b.1:Int)<a.1)=false;exact decide_eq_false (by lia)
theorem Qlh{rows L:List Ev}(pm:rows.Perm L)(c:L.Pairwise fun a b=>a.1<b.1){h:MH}:Kv [.lst (rows.map WH)] h=some (.ref h.length,h++[.lst (L.map WH)]):=by
 have w:∀t∈rows.map trE,Sb.Wf 8 (.t (.i::[.i,.i])) t:=fun t d=>by obtain⟨a,_,rfl⟩:=NT.mp d;exact QpO
 have e:Sb.srtT (rows.map trE)=L.map trE:=Sb.srtT_eq w (pm.symm.map _) (Dy.mpr (c.imp fun h=>Qq4 h));unfold Kv;simp only[lsW,Nv,Qlw];rw[if_pos ⟨_,_,w⟩,e,N8];rfl
section
variable{fin:List W->MH->Option (W×MH)}{items:List W}{src:Option Src}{b:MG}{me:ME}{h:MH}
theorem QdL(e:live src items h)(P:MSt->Prop)(f:W->W):∀(rest a:List W) (d:MSt),P d->(∀w∈rest,∀d,P d->∃c,b w d h=some c/\P c/\me c h=some (f w,h))->a.length+rest.length<=sizeLine->JO fin items src b Xm me rest a d h=fin (a++rest.map f) h
 |[],a,d,_,_,_=>by unfold JO;rw[if_pos e];simp
 |w::rest,a,d,l,g,n=>by
  have m:a.length+(rest.length+1)<=sizeLine:=by simpa using n
  obtain⟨c,p,i,o⟩:=g w Ny d l;unfold JO;rw[if_pos e,p,Nv];show(some (true,h)).bind _=_;rw[Nv];simp only[o,Nv];rw[if_pos (by lia),QdL e P f rest (a++[f w]) c i (fun x j=>g x (Nu _ j)) (by simp;lia)];simp
theorem QcO{mi:MI}{cp:List (Option Nat)}{σ:MSt}{e:MH}(P:MSt->Prop)(f:W->W)(hi:mi σ e=some (items,src,h))(c:live src items h)(j:P (Qho cp σ))(g:∀w∈items,∀d,P d->∃a,b w d h=some a/\P a/\me a h=some (f w,h))(i:items.length<=sizeLine):Zj fin mi cp b Xm me σ e=fin (items.map f) h:=by
 unfold Zj;rw[hi,Nv];rw[QdL c P f items [] _ j g (by simpa using i)];simp
end
noncomputable def fR:W->W
 |.tup [.int k,.tup [_,_,_,.int a]]=>.tup [.int (a-1),.int 1,.int k]
 |w=>w
noncomputable def fD:W->W
 |.tup [a,b]=>.tup [a,.int 0,b]
 |w=>w
noncomputable def fK:W->W
 |.tup [_,a,b]=>.tup [a,b]
 |w=>w
theorem Qiv:(Qbx a).length=a.length:=by simp[Qbx]
theorem Qi8:(Qcn a).length=a.length:=by simp[Qcn]
theorem Qj9{p:List Pr}{t:TS}:Zu [trV p t]=true:=by
 have a:∀{o:Option Nat},pur (oN o)=true:=fun {o}=>by cases o<;>rfl
 have g:Zu (t.rooms.map Z3)=true:=QG _ (QZ fun r=>by cases r with|mk w x y z=>cases x<;>cases y<;>rfl);have e:Zu (t.read.map K8)=true:=QG _ (QZ fun _=>rfl);have d:Zu (t.told.map W.str)=true:=QG _ (QZ fun _=>rfl);have c:Zu ((BX p).map fun b=>W.tup [.str b,oN (t.f b)])=true:=QG _ (QZ fun b=>by cases t.f b<;>rfl);simp[trV,Zu,pur,g,e,d,c]
theorem G1{i:Nat}:∀(L:List Ev) (k:Nat),k<=i->(∀e∈L,k<=e.1/\e.1<i)->(L.Pairwise fun a b=>a.1<b.1)->L.length+k<=i
 |[],k,d,_,_=>by simpa using d
 |e::L,k,d,f,j=>by
  obtain⟨h,g⟩:=Ot.mp j;obtain⟨b1,b2⟩:=f e Ny;have:=G1 L (e.1+1) b2 (fun x c=>⟨h x c,(f x (Nu _ c)).2⟩) g;rw[NP];lia
theorem QgT{p:List Pr}{i:Nat}{t:TS}{c:CT}{L:List Ev}(r:Rep i t c L)(hi:i<=15000000){h:MH}:Z2 [trV p t] h=some (.lst (c.ev.map K8),h):=by
 have A:L.length=t.rooms.length+t.read.length:=by rw[<-r.pm.length_eq,NC,Qiv,Qi8]
 have H:=G1 L 0 (NJ i) (fun e E=>⟨NJ _,r.lt e E⟩) r.so
 have q:∀x,Zj VL (Ut (Qa (Qe wIx (Qb 0) (mC (.int 0))) Qd)) [none,none] (Wc [0,1]) Xm (mFn Z1 (Qa (Qe UQ (Qe wIx (Qb 1) (mC (.int 3))) (mC (.int 1))) (Qa (mC (.int 1)) (Qa (Qb 0) Qd)))) [some (trV p t),x] []=some (.lst ((Qbx t.rooms).map WH),[]):=fun x=>by
  rw[QcO (items:=Y9 (t.rooms.map Z3)) (src:=none) (h:=[]) (fun f=>∃a b,f=[a,b]) fR (by simp[Ut,trV]) (Zp _ _) ⟨_,_,rfl⟩ (fun w hw f d=>by
   obtain⟨a,b,rfl⟩:=d;unfold Y9 at hw;obtain⟨⟨v,k⟩,u,rfl⟩:=NT.mp hw;rw[Yah]at u;obtain⟨⟨z,s⟩,_,e⟩:=NT.mp u;cases e;refine⟨[some (.int s),some (Z3 z)],rfl,⟨_,_,rfl⟩,?_⟩;show _=some (W.tup [.int ((z.at':Int)-1),.int 1,.int s],_)
   simp[Z3]) (by unfold Y9;simp;exact Nn (szM (by lia)))]
  have:(Y9 (t.rooms.map Z3)).map fR=(Qbx t.rooms).map WH:=by
   unfold Y9 Qbx;rw[Yah,N8,N8,N8];refine L9 fun z B=>?_;have D:z.1∈t.rooms:=List.fst_mem_of_mem_zipIdx B;have:=r.at1 z.1 D;show W.tup [.int ((z.1.at':Int)-1),.int 1,.int z.2]=W.tup [.int ((z.1.at'-1:Nat):Int),.int 1,.int z.2];rw[show((z.1.at':Int)-1)=((z.1.at'-1:Nat):Int) by lia]
  rw[this];rfl
 have o:∀x,Zj VL (Zl (Qe wIx (Qb 0) (mC (.int 1)))) [none,none] (Wc [0,1]) Xm (mFn Z1 (Qa (Qb 0) (Qa (mC (.int 0)) (Qa (Qb 1) Qd)))) [some (trV p t),x] []=some (.lst ((Qcn t.read).map WH),[]):=fun x=>by
  rw[QcO (items:=t.read.map K8) (src:=none) (h:=[]) (fun f=>∃a b,f=[a,b]) fD (by simp[Zl,trV,GH]) (Zp _ _) ⟨_,_,rfl⟩ (fun w hw f d=>by
   obtain⟨a,b,rfl⟩:=d;obtain⟨z,_,rfl⟩:=NT.mp hw;refine⟨[some (.int z.1),some (.int z.2)],rfl,⟨_,_,rfl⟩,?_⟩;show _=some (W.tup [.int z.1,.int 0,.int z.2],_)
   simp) (by simp;exact Nn (szM (by lia)))]
  have:(t.read.map K8).map fD=(Qcn t.read).map WH:=by unfold Qcn;rw[N8,N8];rfl
  rw[this];rfl
 obtain⟨rows,y⟩:∃rows,Qbx t.rooms++Qcn t.read=rows:=⟨_,rfl⟩
 have pm:rows.Perm L:=y▸r.pm
 have G:VJ (.lst ((Qbx t.rooms).map WH)) (.lst ((Qcn t.read).map WH)) []=some (.lst (rows.map WH),[]):=by
  unfold VJ;simp only[loW,Nv];rw[if_pos (by rw[NG,NG,Qiv,Qi8];exact Nn (szM (by lia))),<-Eb,y]
 have m:∀x,Zj VL (Zl (mFn Kv (Qa (Qb 1) Qd))) [none,none,none] (Wc [0,1,2]) Xm (mFn Z1 (Qa (Qb 1) (Qa (Qb 2) Qd))) [x,some (.lst (rows.map WH))] []=some (.lst (c.ev.map K8),[.lst (L.map WH)]):=fun x=>by
  rw[QcO (items:=L.map WH) (src:=some (.l 0)) (h:=[.lst (L.map WH)]) (fun f=>∃a b c,f=[a,b,c]) fK (by simp[Zl,Qlh pm r.so,GH]) (fun n C=>by cases C;rfl) ⟨_,_,_,rfl⟩ (fun w hw f d=>by
   obtain⟨a,b,c,rfl⟩:=d;obtain⟨z,_,rfl⟩:=NT.mp hw;refine⟨[some (.int z.1),some (.int z.2.1),some (.int z.2.2)],rfl,⟨_,_,_,rfl⟩,?_⟩;show _=some (W.tup [.int z.2.1,.int z.2.2],_)
   simp) (by rw[NG,A];exact Nn (szM (by omega)))]
  have:(L.map WH).map fK=c.ev.map K8:=by rw[<-r.ev,N8,N8];rfl
  rw[this];rfl
 refine Qv (g:=[.lst (L.map WH)]) Qj9 ?_ (QG _ (QZ fun _=>rfl));simp[VQ,Qx,q,o,G,m]
theorem Qba(b:pln a=true)(c:dep a<=40):wNe a a h=some (.bl false,h):=by rw[QqO b b c c,Qbo a b];rfl
theorem QdP(o:Option Nat):dep (oN o)<=1:=by cases o<;>exact Nw _
theorem Qat(o:Option Nat):pln (oN o)=true:=by cases o<;>rfl
noncomputable def fB(f:Str->Option Nat)(b:Str):W:=.tup [.str b,oN (f b)]
theorem Qkl:∀(bs:List Str),prW (bs.map (fB f))=some (dcE bs f)
 |[]=>rfl
 |b::bs=>by rw[NA,fB,prW,Qkl bs];rfl
theorem Qg0:∀{bs:List Str},x∉bs->UF (dcE bs f) (.inr x)=none
 |[],_=>rfl
 |b::bs,h=>by
  have c:x≠b:=fun z=>h (z▸Ny);have a:=Qg0 (f:=f) (bs:=bs) fun z=>h (Nu _ z);unfold dcE UF at a ⊢;rw[NA,List.find?_cons_of_neg]
  ·exact a
  ·simp;intro z;exact c z.symm
theorem QhA{A B:List Str}(r:B.Nodup)(v:A.length<=5)(o:B.length<=A.length)(hz:∀b∈A,b∉B->f b=none):JY [.lst (A.map (fB f)),.lst (B.map (fB f))] h=some (.bl true,h):=by
 have q:∀(l:List Str),Zu (l.map (fB f))=true:=fun l=>QG _ (QZ fun b=>by simp[fB,pln,K2,Qat]);refine Qv (g:=[.dic (dcE B f)]) (by simp[q]) ?_ rfl
 have C:KA [.lst (B.map (fB f))] []=some (.ref 0,[.dic (dcE B f)]):=by
  unfold KA;simp only[lsW,Nv,Qkl];rw[if_pos (by unfold dcE;rw[NG];exact Nn (Nf (Nh o v) (by decide))),QcB]
  ·rfl
  ·unfold dcE;rw[DV,N8];exact Ip.mpr (Dy.mpr ((Ip.mp r).imp fun h z=>h (Ia z)))
 have a:=J9 (items:=A.map (fB f)) (b:=Wc [3,4]) (body:=Xs) (fun _ m g=>∃d c,m=[some (.lst (A.map (fB f))),some (.lst (B.map (fB f))),some (.ref 0),d,c]/\g=[.dic (dcE B f)]) (A.map (fB f)) 0 [some (.lst (A.map (fB f))),some (.lst (B.map (fB f))),some (.ref 0),none,none] [.dic (dcE B f)] ⟨_,_,rfl,rfl⟩ (by
  rintro j w n m g ⟨d,c,rfl,rfl⟩
  rw[Nz]at n;obtain⟨b,u,rfl⟩:=Nk.mp n;have s:=NI.mpr ⟨j,u⟩;refine⟨[some (.lst (A.map (fB f))),some (.lst (B.map (fB f))),some (.ref 0),some (.str b),some (oN (f b))],rfl,[some (.lst (A.map (fB f))),some (.lst (B.map (fB f))),some (.ref 0),some (.str b),some (oN (f b))],[.dic (dcE B f)],.inl ?_,_,_,rfl,rfl⟩
  have y:(UF (dcE B f) (.inr b)).getD .non=oN (f b):=by
   by_cases e:b∈B
   ·rw[KO e];rfl
   ·rw[Qg0 e,hz b s e];rfl
  have en:wNe (oN (f b)) (oN (f b)) [.dic (dcE B f)]=some (.bl false,[.dic (dcE B f)]):=Qba (Qat _) (Nh (QdP _) (by decide))
  simp[y,en])
 obtain⟨p,D,x,d,c,rfl,rfl⟩:=a;have ei:Zl (Qb 0) [some (.lst (A.map (fB f))),some (.lst (B.map (fB f))),some (.ref 0),none,none] [.dic (dcE B f)]=some (A.map (fB f),none,[.dic (dcE B f)]):=rfl;have t:(dcE B f).length=B.length:=by simp[dcE]
 have i:Qga [.ref 0] [.dic (dcE B f)]=some (.int B.length,[.dic (dcE B f)]):=by rw[<-t];rfl
 simp[Vr,Qx,K3,C,ei,x,i,o]
noncomputable def QkG(r:Str×Option Nat×Option Nat):W:=.tup [.str r.1,oN r.2.1,oN r.2.2]
noncomputable def f3:W->W
 |.tup [a,b,c,_]=>.tup [a,b,c]
 |w=>w
theorem Qk1(r:Rep i t c L)(hi:i<=15000000)(b:m σ h=some (.lst (t.rooms.map Z3),h)):Zj VL (Zl m) [none] (JM 0) Xm (mSl (Qb 0) Xy (XO (mC (.int 3)))) σ h=some (.lst (c.rooms.map QkG),h):=by
 have f:L.length=t.rooms.length+t.read.length:=by rw[<-r.pm.length_eq,NC,Qiv,Qi8]
 have g:=G1 L 0 (NJ i) (fun e d=>⟨NJ _,r.lt e d⟩) r.so
 rw[JT (items:=t.rooms.map Z3) (caps:=[]) f3 (by simp[Zl,b,GH]) ⟨none,rfl⟩ (fun w hw=>by
  obtain⟨z,_,rfl⟩:=NT.mp hw;simp[Z3]
  rfl) (by rw[NG];exact Nn (szM (by lia)))]
 have:(t.rooms.map Z3).map f3=c.rooms.map QkG:=by rw[<-r.rooms,N8,N8];rfl
 rw[this];rfl
structure Made(p:List Pt)(cs:List Nat)(Q R1 u1 R2 u2:W)(A1 A2:List W)(B1 C D1 B2 D2 E:W)(F:List W):Prop where
 fl:∀h,Uw [Q3 p] h=some (Q,h)
 r1:∀h,Ve [Q3 p,.lst (Yg cs)] h=some (.tup [R1,u1],h)
 r2:∀h,Ve [Q,.lst (Yg cs)] h=some (.tup [R2,u2],h)
 t1:∀h,Vk [Q3 p,R1] h=some (.tup [.lst A1,B1,C,D1],h)
 t2:∀h,Vk [Q,R2] h=some (.tup [.lst A2,B2,C,D2],h)
 c1:∀(m:ME) (σ:MSt) (h:MH),m σ h=some (.lst A1,h)->Zj VL (Zl m) [none] (JM 0) Xm (mSl (Qb 0) Xy (XO (mC (.int 3)))) σ h=some (.lst F,h)
 c2:∀(m:ME) (σ:MSt) (h:MH),m σ h=some (.lst A2,h)->Zj VL (Zl m) [none] (JM 0) Xm (mSl (Qb 0) Xy (XO (mC (.int 3)))) σ h=some (.lst F,h)
 w1:∀h,Z2 [.tup [.lst A1,B1,C,D1]] h=some (E,h)
 w2:∀h,Z2 [.tup [.lst A2,B2,C,D2]] h=some (E,h)
 hd:∀h,JY [D1,D2] h=some (.bl true,h)
 nF:∀h,wNe (.lst F) (.lst F) h=some (.bl false,h)
 nE:∀h,wNe E E h=some (.bl false,h)
 nC:∀h,wNe C C h=some (.bl false,h)
theorem QiQ:trV q t=.tup [.lst (t.rooms.map Z3),.lst (t.read.map K8),.lst (t.told.map .str),.lst ((BX q).map (fB t.f))]:=rfl
theorem QhC(d:GoodP 50 bs ws p)(hf:Qj2 p)(hb:bs.length<=5)(hl:cs.length<=40)(hc:∀c∈cs,c<=1):∃Q R1 u1 R2 u2 A1 A2 B1 C D1 B2 D2 E F,Made p cs Q R1 u1 R2 u2 A1 A2 B1 C D1 B2 D2 E F:=by
 have hr:=QlW (Qdg d (by decide:50<=700));obtain⟨Z,ef⟩:=Qji d hr;obtain⟨i,t⟩:=GN d hr (nm:=Z);obtain⟨v1,v2⟩:=sv0 d;obtain⟨w1,w2⟩:=sv0 i;have hk:=Qhn hr (s:=sp0) (by simp);have al:=Qhn t (s:=sp0) (by simp);obtain⟨u,an,g,ht⟩:=QlG d (by decide) hr 14000000 sp0 cs v1 v2 hc (by lia);obtain⟨a,am,g2,B⟩:=QlG i (by decide) t 14000000 sp0 cs w1 w2 hc (by lia);have h0:=EX.mpr d.ne;have hx:p[0]?=some p[0]:=Nl h0;have hS:Sim p sp0 sp0:=⟨⟨[],[],p[0],.nil,hx,NJ _,by simp[ofl]⟩⟩
 obtain⟨e1,e2⟩:=QkI d (by decide) hr g v1 v2 w1 w2 hS g2;have L:=fun s D=>(QoQ d (by decide) hr g v1 v2 s D).1;have v:=fun s D=>(QoQ i (by decide) t g2 w1 w2 s D).1;have U:=fun h=>UN d (by decide) hr g ht h;have S:=fun h=>UN i (by decide) t g2 B h;have P:=QmO d hf;have ak:=d.len;obtain⟨q,eq,hq⟩:=Qev (M:=50) d d.sz (by decide) (by lia) hb;obtain⟨o,Y,aa⟩:=Qev (M:=1200) i (by simpa using P) (by decide) (by simp) hb
 -- H G of H flat one ao G of H I
 have N:∀b∈BX o,b∈BX q:=fun b h=>by
  obtain⟨l,h1,h2⟩:=BX_mem.mp h;obtain⟨x,h3,h4⟩:=EY.mp h1;have h5:(x.1,x.2.map ln)∈[(Z,X p 0)]:=by rw[<-Y];exact NT.mpr ⟨x,h3,rfl⟩
  have h6:x.2.map ln=X p 0:=congrArg (·.2) (NR.mp h5);obtain⟨y,h7,h8⟩:=QjF 5 0 (show ln l∈X p 0 by rw[<-h6];exact EW h4);rw[<-eq]at h7;obtain⟨z,h9,rfl⟩:=NT.mp h7;obtain⟨l',ah,af⟩:=NT.mp h8;exact BX_mem.mpr ⟨l,EY.mpr ⟨z,h9,Qgm af▸ah⟩,h2⟩
 have ab:(BX o).length<=(BX q).length:=QaX _ _ (QfA o) N;have h5:=QlY hq;generalize ae:([(Z,X p 0)]:List Pt)=pf at *;rw[<-Y]at e2 S v ef;rw[<-eq]at e2 U L ef ⊢;have aj:=fun h=>Qa1 hq (run:=sp0::u) (by simp) (by simp;exact Nn (Nf ht (by decide))) (fun s D=>Qg5 (L s D)) (h:=h);have ai:=fun h=>Qa1 aa (run:=sp0::a) (by simp) (by simp;exact Nn (Nf B (by decide))) (fun s D=>Qg5 (v s D)) (h:=h);obtain⟨L1,j⟩:=Qan ((sp0::u).map (QX q)) ((sp0::u).length-1) (by simp);obtain⟨L2,e⟩:=Qan ((sp0::a).map (QX o)) ((sp0::a).length-1) (by simp);have O:=fun b=>Qhl (q:=o) (run:=sp0::a) (n:=(sp0::a).length-1) (b:=b);rw[Qkd e2]at e O;generalize cN (((sp0::u).map (QX q)).take ((sp0::u).length-1))=c at *;have i1:(sp0::u).length-1<=15000000:=by simp;exact Nn (Nf ht (by decide))
 have i2:(sp0::a).length-1<=15000000:=by simp;exact Nn (Nf B (by decide))
 generalize(sp0::u).length-1=n1 at *;generalize(sp0::a).length-1=n2 at *;generalize trN ((sp0::u).map (QX q)) n1=t1 at *;generalize trN ((sp0::a).map (QX o)) n2=t2 at *;have o1:=fun h=>QgT (p:=q) j i1 (h:=h);have o2:=fun h=>QgT (p:=o) e i2 (h:=h);rw[QiQ]at o1 o2;have hz:∀b∈BX q,b∉BX o->c.f b=none:=fun b _ h=>Em fun z=>h (O b z);have A:=fun h=>(aj h).trans (by rw[QiQ]);have w:=fun h=>(ai h).trans (by rw[QiQ]);simp only[j.told,j.f]at o1 A;simp only[e.told,e.f]at o2 w
 exact⟨_,_,_,_,_,_,_,_,_,_,_,_,_,_,ef,U,S,A,w,fun m σ h hm=>Qk1 j i1 hm,fun m σ h hm=>Qk1 e i2 hm,o1,o2,fun h=>QhA (QfA o) h5 ab hz,
  fun h=>Qba (by unfold pln;exact QZ fun r=>by simp[QkG,pln,K2,Qat]) (by
   unfold dep
   have:=Ui (f:=QkG) (xs:=c.rooms) (n:=5) fun r=>by
    simp only[QkG,dep,Qbl];have:=QdP r.2.1;have:=QdP r.2.2;lia
   exact Nf this (by decide)),
  fun h=>Qba (by unfold pln;exact QZ fun _=>rfl) (by unfold dep;have:=QiH (qs:=c.ev);exact Nf this (by decide)),
  fun h=>Qba (by unfold pln;exact QZ fun _=>rfl) (by unfold dep;have:=WE (xs:=c.told);exact Nf this (by decide))⟩
theorem Qa7:(H0++[o])[H0.length]?=some o:=by simp
theorem GE:(H0++[o]).set H0.length a=H0++[a]:=by simp
noncomputable abbrev wS(ns:List Int)(j:Nat)(x2 x3 x4 x5 x6:Option W):MSt:=[some (.frz (ns.map .int)),some (.int j),x2,x3,x4,x5,x6]
theorem Qe0(A:j<50):∃x w v u t h',Uv (wS ns j x2 x3 x4 x5 x6) h=some (.nx (wS ns j x w v u t) h'):=by
 obtain⟨f1,f⟩:=QdV ns j (NW A (by decide));obtain⟨bs,O,p,a,G,hw,⟨B,D⟩,M⟩:=Qkv f1 3 3 5 8 (by decide) (by decide) (by decide) (by decide);obtain⟨f2,e⟩:=QdV ns (j+1) (by lia);obtain⟨i,f3,c,d,L⟩:=Qb5 f2;obtain⟨Q,R1,S,R2,P,r,q,o,C,m,n,l,E,F,T⟩:=QhC B D G.2 c d;have N:=f h;have g:=M (h++[Qu f1]) h.length Qa7;rw[GE]at g;have s:=e (h++[Qu a]);have b:=L (h++[Qu a]++[Qu f2]) (h++[Qu a]).length Qa7;rw[GE]at b;push_cast at s g;generalize I:h++[Qu a]++[Qu f3]=H;rw[I]at b;refine⟨some (Q3 p),some (.lst (Yg i)),some Q,some (.tup [.lst r,o,C,m]),some (.tup [.lst q,n,C,l]),H,?_⟩;have z:Zj VL (Zl (Qe wIx (Qb 5) (mC (.int 0)))) [none] (JM 0) Xm (mSl (Qb 0) Xy (XO (mC (.int 3)))) (wS ns j (some (Q3 p)) (some (.lst (Yg i))) (some Q) (some (.tup [.lst r,o,C,m])) (some (.tup [.lst q,n,C,l]))) H=some (.lst F,H):=T.c1 _ _ _ (by simp);have y:Zj VL (Zl (Qe wIx (Qb 6) (mC (.int 0)))) [none] (JM 0) Xm (mSl (Qb 0) Xy (XO (mC (.int 3)))) (wS ns j (some (Q3 p)) (some (.lst (Yg i))) (some Q) (some (.tup [.lst r,o,C,m])) (some (.tup [.lst q,n,C,l]))) H=some (.lst F,H):=T.c2 _ _ _ (by simp);simp only[NC,NP,Dm,N6,IM,DV,NX]at b ⊢;simp[N,g,s,b,T.fl,T.r1,T.r2,T.t1,T.t2,z,y,T.w1,T.w2,T.hd,T.nF,T.nE,T.nC]
theorem Qn2(b:2<=m)(a:m<=8):Builtin.Range.small 0 m 2=true/\∃n:Nat,(Builtin.Range.rangeSize 0 m 2).toNat=n/\n<=4:=by
 have key:∀n:Fin 9,Builtin.Range.small 0 (n.val:Int) 2=true/\(Builtin.Range.rangeSize 0 (n.val:Int) 2).toNat<=4:=by decide
 obtain⟨n,rfl⟩:=Int.eq_ofNat_of_zero_le (ED (by decide) b);have h:=key ⟨n,Nat.lt_succ_of_le (Int.ofNat_le.mp a)⟩;exact⟨h.1,_,rfl,h.2⟩
theorem QfP(e:a σ h=some ([.int 0,.int m,.int 2],h'))(g:2<=m)(f:m<=8):∃n:Nat,n<=4/\QgQ a σ h=some (ZO 0 2 n,none,h'):=by
 obtain⟨b,n,c,d⟩:=Qn2 g f;refine⟨n,d,?_⟩;unfold QgQ;rw[e,Nv];refine(if_pos ⟨by decide,by decide,b⟩).trans ?_;rw[c]
theorem main(ns:List Int)(_:ns.length<=63):∃h',Kr [.frz (ns.map W.int)] []=some (.bl true,h'):=by
 obtain⟨m,p⟩:∃m:Int,m=(if(if(ns.length:Int)<8 then(ns.length:Int)else 8)>2 then(if(ns.length:Int)<8 then(ns.length:Int)else 8)else 2):=⟨_,rfl⟩
 have v:2<=m:=by rw[p];split<;>lia
 have u:m<=8:=by rw[p];split<;>split<;>lia
 have A:(Qa (mC (.int 0)) (Qa (mFn Qjz (Qa (mC (.int 2)) (Qa (mFn QjI (Qa (mC (.int 8)) (Qa (mFn Vp (Qa (Qb 0) Qd)) Qd))) Qd))) (Qa (mC (.int 2)) Qd))) [some (.frz (ns.map .int)),none,none,none,none,none,none] []=some ([.int 0,.int m,.int 2],[]):=by
  rw[p];simp only[QjM,s_c,QpN,Qkc,QmM,Qi2,Qk2,QmG,QnM,NG]
 obtain⟨n,O,y⟩:=QfP A v u
 have a:=J9 (items:=ZO 0 2 n) (b:=JM 1) (body:=Uv) (fun _ q _=>∃o l g f d c,q=[some (.frz (ns.map .int)),o,l,g,f,d,c]) (ZO 0 2 n) 0 [some (.frz (ns.map .int)),none,none,none,none,none,none] [] ⟨_,_,_,_,_,_,rfl⟩ (by
  rintro i w t q h ⟨o,l,g,f,d,c,rfl⟩
  obtain⟨s,rfl⟩:=Xb t;obtain⟨G,E,D,C,B,h',e⟩:=Qe0 (ns:=ns) (j:=2*i) (x2:=l) (x3:=g) (x4:=f) (x5:=d) (x6:=c) (h:=h) (by lia);have x:(0:Int)+(i:Int)*2=((2*i:Nat):Int):=by lia
  rw[x]
  exact⟨_,rfl,_,h',.inl e,_,_,_,_,_,_,rfl⟩)
 obtain⟨r,h',z,o,l,g,f,d,c,rfl⟩:=a;refine⟨h',?_⟩;simp[Kr,Qx,K3,y,z]
end My
def PySem.W.Fast.tw7240278031808725653:Unit:=()
def PySem.W.Fast.tw10442764741418384092:Unit:=()
def PySem.W.Fast.tw16616236815110056863:Unit:=()
def PySem.W.Fast.tw6192652694542549598:Unit:=()
def PySem.W.Fast.tw17403345903187216575:Unit:=()
def PySem.W.Fast.tw16259219787378755832:Unit:=()
def PySem.W.Fast.tw645138417667388028:Unit:=()
def PySem.W.Fast.tw707546915404198158:Unit:=()
def PySem.W.Fast.tw6932558815410039290:Unit:=()
def PySem.W.Fast.tw14830419780706190104:Unit:=()
def PySem.W.Fast.tw3778594223538231191:Unit:=()
def PySem.W.Fast.tw8409448687791088353:Unit:=()
def PySem.W.Fast.tw14618527921135780820:Unit:=()
def PySem.W.Fast.tw9453378468312364041:Unit:=()
def PySem.W.Fast.tw8182929253744592690:Unit:=()
def PySem.W.Fast.tw1881247779355139708:Unit:=()
def PySem.W.Fast.tw4071321773592565063:Unit:=()
def PySem.W.Fast.tw3268944543514962930:Unit:=()
def PySem.W.Fast.tw4266859434295508938:Unit:=()
def PySem.W.Fast.tw4737186469875245691:Unit:=()
def PySem.W.Fast.tw5704710754785224812:Unit:=()
def PySem.W.Fast.tw2700309559155657362:Unit:=()
def PySem.W.Fast.tw17817780061824123929:Unit:=()
def PySem.W.Fast.tw1543646358529131511:Unit:=()
def PySem.W.Fast.tw12820322814978441141:Unit:=()
def PySem.W.Fast.tw1898775394603318775:Unit:=()
def PySem.W.Fast.tw3915083036969000055:Unit:=()
def PySem.W.Fast.tw294727885479347817:Unit:=()
def PySem.W.Fast.tw1987612635420223080:Unit:=()
def PySem.W.Fast.tw12922841450095678898:Unit:=()
def PySem.W.Fast.tw8247658572491572790:Unit:=()
def PySem.W.Fast.tw4920003909689010944:Unit:=()
def PySem.W.Fast.tw7923652511668828371:Unit:=()
def PySem.W.Fast.tw13686384666846426230:Unit:=()
def PySem.W.Fast.tw12331143673970450528:Unit:=()
def PySem.W.Fast.tw13568053832370487938:Unit:=()
def PySem.W.Fast.tw15349324137246963074:Unit:=()
def PySem.W.Fast.tw4958786271431090162:Unit:=()
def PySem.W.Fast.tw15478829160247835269:Unit:=()
def PySem.W.Fast.tw16623794989743423366:Unit:=()
def PySem.W.Fast.tw14438407325478899779:Unit:=()
def PySem.W.Fast.tw10586555771461276767:Unit:=()
def PySem.W.Fast.tw1298304478538421294:Unit:=()
def PySem.W.Fast.tw14265758229240811175:Unit:=()
def PySem.W.Fast.tw463840475726877953:Unit:=()
def PySem.W.Fast.tw2684471036213384190:Unit:=()
def PySem.W.Fast.tw8205949009005872077:Unit:=()
def PySem.W.Fast.tw9029445993469123897:Unit:=()
def PySem.W.Fast.tw11992935284610995590:Unit:=()
def PySem.W.Fast.tw485198481782251773:Unit:=()
def PySem.W.Fast.tw2586170808890517202:Unit:=()
def PySem.W.Fast.tw5766071298881094595:Unit:=()
def PySem.W.Fast.tw16542350135687463247:Unit:=()
def PySem.W.Fast.tw15918373144573697492:Unit:=()
def PySem.W.Fast.tw681294165174367212:Unit:=()
def PySem.W.Fast.tw2431526919305358069:Unit:=()
def PySem.W.Fast.tw6658351835398164274:Unit:=()
def PySem.W.Fast.tw14246107847891961391:Unit:=()
def PySem.W.Fast.tw3236539764597562087:Unit:=()
def PySem.W.Fast.tw16085127043905812846:Unit:=()
def PySem.W.Fast.tw5549283945834413595:Unit:=()
def PySem.W.Fast.tw7852234208591531241:Unit:=()
def PySem.W.Fast.tw7203774778884349653:Unit:=()
def PySem.W.Fast.tw14611967303060944504:Unit:=()
def PySem.W.Fast.tw16259130977648844803:Unit:=()
def PySem.W.Fast.tw10555137487645305957:Unit:=()
def PySem.W.Fast.tw1970750192450932123:Unit:=()
def PySem.W.Fast.tw4358623197569379468:Unit:=()
def PySem.W.Fast.tw15093054749244711357:Unit:=()
def PySem.W.Fast.tw69908435812464965:Unit:=()
def PySem.W.Fast.tw18401546741906643251:Unit:=()
def PySem.W.Fast.tw5476467699448186157:Unit:=()
def PySem.W.Fast.tw1527660312191676288:Unit:=()
def PySem.W.Fast.tw2782625694742484384:Unit:=()
def PySem.W.Fast.tw9561242172640671545:Unit:=()
def PySem.W.Fast.tw9864609760456838718:Unit:=()
def PySem.W.Fast.tw8583832841588268550:Unit:=()
def PySem.W.Fast.tw18245442667601380184:Unit:=()
def PySem.W.Fast.tw10869843531127989902:Unit:=()
def PySem.W.Fast.tw3293819989651867555:Unit:=()
def PySem.W.Fast.tw17213100535764626736:Unit:=()
def PySem.W.Fast.tw7309772328887181817:Unit:=()
def PySem.W.Fast.tw1922227487933315323:Unit:=()
def PySem.W.Fast.tw8388661897016830605:Unit:=()
def PySem.W.Fast.tw1773684390468949294:Unit:=()
def PySem.W.Fast.tw8514750717963395480:Unit:=()
def PySem.W.Fast.tw443340919172275393:Unit:=()
def PySem.W.Fast.tw11687053738398432517:Unit:=()
def PySem.W.Fast.tw12437517269132669416:Unit:=()
open PySem PySem.W PyProof.Rows
local macro_rules | `(tactic| walk_at $s:str) => do
  match s.getString with
  | "~0" => `(tactic| (dsimp only [L2.KOf]; refine' Mi.X4 $(Lean.mkIdent `KX) $(Lean.mkIdent `G) ?a ?l ?c ?k ?b; (case a => k_is); (case l => k_is); (case c => k_is); (case k => k_is); (case b => exact fun _ _ _ _ _ _ => Mi.ar0 rfl)))
  | "~1" => `(tactic| (dsimp only [L2.KOf]; refine' Mi.X4 $(Lean.mkIdent `KX) $(Lean.mkIdent `G) ?a ?l ?c ?k ?b; (case a => k_is); (case l => k_is); (case c => k_is); (case k => k_is); (case b => exact fun _ _ _ _ _ _ => Mi.ar1 (fun _ => rfl))))
  | "~2" => `(tactic| (dsimp only [L2.KOf]; refine' Mi.X4 $(Lean.mkIdent `KX) $(Lean.mkIdent `G) ?a ?l ?c ?k ?b; (case a => k_is); (case l => k_is); (case c => k_is); (case k => k_is); (case b => exact fun _ _ _ _ _ _ => Mi.ar2 (fun _ _ => rfl))))
  | "~3" => `(tactic| (dsimp only [L2.KOf]; refine' Mi.X4 $(Lean.mkIdent `KX) $(Lean.mkIdent `G) ?a ?l ?c ?k ?b; (case a => k_is); (case l => k_is); (case c => k_is); (case k => k_is); (case b => exact fun _ _ _ _ _ _ => Mi.ar3 (fun _ _ _ => rfl))))
  | "~6" => `(tactic| (dsimp only [L2.KOf]; refine' Mi.X4 $(Lean.mkIdent `KX) $(Lean.mkIdent `G) ?a ?l ?c ?k ?b; (case a => k_is); (case l => k_is); (case c => k_is); (case k => k_is); (case b => exact fun _ _ _ _ _ _ => Mi.ar6 (fun _ _ _ _ _ _ => rfl))))
  | "~b" => `(tactic| (refine' PySem.W.mg_none_of $(Lean.mkIdent `KX) $(Lean.mkIdent `G) ?a; (case a => k_is)))
  | _ => Lean.Macro.throwUnsupported
set_option maxRecDepth 100000 in
set_option maxHeartbeats 0 in
theorem PySem.Challenge.cw_doneroom_k21_whole_flat_makes_the_same_holds : PySem.Challenge.rw_doneroom_k21_whole_flat_makes_the_same.Holds := by
  w_on; o_law; k_head; (case hw => w_witness2)
  k_fill
  refine Mi.Qna (l := PySem.Challenge.rw_doneroom_k21_whole_flat_makes_the_same) (st := My.U1) (sem := My.Kr) (k := 10) rfl rfl ⟨rfl, by decide, by decide⟩ rfl (fun w h Y => PySem.W.kIn_of Y) (fun _ _ _ _ _ _ _ _ => .of_eq rfl) ?F My.main
  case F =>
    intro w mg h KX G
    have d__law_take : Mi.DefAt (L2.KOf KX) mg "_law_take" My.J6 ["feed", "many"] := by walk_at "~2"
    have d__law_names : Mi.DefAt (L2.KOf KX) mg "_law_names" My.Zi ["feed", "many"] := by walk_at "~2"
    have d__law_step_on : Mi.DefAt (L2.KOf KX) mg "_law_step_on" My.ZS ["lines", "opened"] := by walk_at "~2"
    have d__law_plain : Mi.DefAt (L2.KOf KX) mg "_law_plain" My.Jx ["feed", "boxes", "words"] := by walk_at "~3"
    have d__law_part : Mi.DefAt (L2.KOf KX) mg "_law_part" My.JW ["feed", "size", "menus", "later", "opens", "dos"] := by walk_at "~6"
    have d__law_program : Mi.DefAt (L2.KOf KX) mg "_law_program" My.ZM ["feed", "bounds"] := by walk_at "~2"
    have d__law_great : Mi.DefAt (L2.KOf KX) mg "_law_great" My.Zh ["feed"] := by walk_at "~1"
    have d__law_any : Mi.DefAt (L2.KOf KX) mg "_law_any" My.VB ["feed", "bounds"] := by walk_at "~2"
    have d__law_choices : Mi.DefAt (L2.KOf KX) mg "_law_choices" My.QU ["feed"] := by walk_at "~1"
    have d_part_number : Mi.DefAt (L2.KOf KX) mg "part_number" My.Jd ["program", "name"] := by walk_at "~2"
    have d_flat_lines : Mi.DefAt (L2.KOf KX) mg "flat_lines" My.Ze ["program", "part"] := by walk_at "~2"
    have d_flat : Mi.DefAt (L2.KOf KX) mg "flat" My.Uc ["program"] := by walk_at "~1"
    have d_line_of : Mi.DefAt (L2.KOf KX) mg "line_of" My.Xj ["program", "spot"] := by walk_at "~2"
    have d_reads : Mi.DefAt (L2.KOf KX) mg "reads" My.Yb ["line"] := by walk_at "~1"
    have d_room_read : Mi.DefAt (L2.KOf KX) mg "room_read" My.J7 ["line", "held"] := by walk_at "~2"
    have d_gives : Mi.DefAt (L2.KOf KX) mg "gives" My.Yl ["line"] := by walk_at "~1"
    have d_letter_of : Mi.DefAt (L2.KOf KX) mg "letter_of" My.JX ["line"] := by walk_at "~1"
    have d_room_within : Mi.DefAt (L2.KOf KX) mg "room_within" My.Jf ["rooms", "room", "letter"] := by walk_at "~3"
    have d_given_by : Mi.DefAt (L2.KOf KX) mg "given_by" My.VD ["line", "rooms", "held"] := by walk_at "~3"
    have d_all_lines : Mi.DefAt (L2.KOf KX) mg "all_lines" My.JV ["program"] := by walk_at "~1"
    have d_boxes_in : Mi.DefAt (L2.KOf KX) mg "boxes_in" My.Vy ["line"] := by walk_at "~1"
    have d_boxes_of : Mi.DefAt (L2.KOf KX) mg "boxes_of" My.Vw ["program"] := by walk_at "~1"
    have d_word_told : Mi.DefAt (L2.KOf KX) mg "word_told" My.J0 ["rooms", "room"] := by walk_at "~2"
    have d_traced : Mi.DefAt (L2.KOf KX) mg "traced" My.Kg ["program", "run"] := by walk_at "~2"
    have d__law_feed : Mi.DefAt (L2.KOf KX) mg "_law_feed" My.JZ ["script", "k"] := by walk_at "~2"
    have d_at_gap : Mi.DefAt (L2.KOf KX) mg "at_gap" My.Ke ["spot", "k"] := by walk_at "~2"
    have d_at_head : Mi.DefAt (L2.KOf KX) mg "at_head" My.Xi ["spot", "k"] := by walk_at "~2"
    have d_level_change : Mi.DefAt (L2.KOf KX) mg "level_change" My.ZT ["line"] := by walk_at "~1"
    have d_head_of : Mi.DefAt (L2.KOf KX) mg "head_of" My.Xg ["lines", "k"] := by walk_at "~2"
    have d_found_behind : Mi.DefAt (L2.KOf KX) mg "found_behind" My.ZP ["lines", "k", "kind"] := by walk_at "~3"
    have d_or_of : Mi.DefAt (L2.KOf KX) mg "or_of" My.Yc ["lines", "k"] := by walk_at "~2"
    have d_end_of : Mi.DefAt (L2.KOf KX) mg "end_of" My.X5 ["lines", "k"] := by walk_at "~2"
    have d_next_in_part : Mi.DefAt (L2.KOf KX) mg "next_in_part" My.ZJ ["lines", "spot"] := by walk_at "~2"
    have d_behind_do : Mi.DefAt (L2.KOf KX) mg "behind_do" My.J5 ["spot"] := by walk_at "~1"
    have d_next_spots : Mi.DefAt (L2.KOf KX) mg "next_spots" My.Jr ["program", "spot"] := by walk_at "~2"
    have d_first_spot : Mi.DefAt (L2.KOf KX) mg "first_spot" My.Js [] := by walk_at "~0"
    have d_run_by : Mi.DefAt (L2.KOf KX) mg "run_by" My.Ka ["program", "choices"] := by walk_at "~2"
    have d__law_row : Mi.DefAt (L2.KOf KX) mg "_law_row" My.Vx ["found"] := by walk_at "~1"
    have d__law_held : Mi.DefAt (L2.KOf KX) mg "_law_held" My.JU ["held", "other"] := by walk_at "~2"
    have d_law : Mi.DefAt (L2.KOf KX) mg "law" My.U1 ["script"] := by walk_at "~1"
    have g_GIVING : Mi.Glob (L2.KOf KX) mg "GIVING" My.Vh := by
      dsimp only [L2.KOf]
      refine' Mi.Qdp KX G ?a ?l ?z ?s
      (case a => k_is); (case l => k_is)
      (case z => decide)
      (case s => repeat constructor)
    have g_NOTHING_TOLD : Mi.Glob (L2.KOf KX) mg "NOTHING_TOLD" My.Zc := by
      dsimp only [L2.KOf]
      refine' Mi.Qf3 KX G ?a
      (case a => k_is)
    have b_dict : mg "dict" = none := by walk_at "~b"
    have b_enumerate : mg "enumerate" = none := by walk_at "~b"
    have b_len : mg "len" = none := by walk_at "~b"
    have b_list : mg "list" = none := by walk_at "~b"
    have b_max : mg "max" = none := by walk_at "~b"
    have b_min : mg "min" = none := by walk_at "~b"
    have b_range : mg "range" = none := by walk_at "~b"
    have b_set : mg "set" = none := by walk_at "~b"
    have b_sorted : mg "sorted" = none := by walk_at "~b"
    have b_tuple : mg "tuple" = none := by walk_at "~b"
    exact ⟨d_law, fun base kb nb => My.Qhi d__law_take d__law_names d__law_step_on d__law_plain d__law_part d__law_program d__law_great d__law_any d__law_choices d_part_number d_flat_lines d_flat d_line_of d_reads d_room_read d_gives d_letter_of d_room_within d_given_by d_all_lines d_boxes_in d_boxes_of d_word_told d_traced d__law_feed d_at_gap d_at_head d_level_change d_head_of d_found_behind d_or_of d_end_of d_next_in_part d_behind_do d_next_spots d_first_spot d_run_by d__law_row d__law_held d_law g_GIVING g_NOTHING_TOLD b_dict b_enumerate b_len b_list b_max b_min b_range b_set b_sorted b_tuple⟩
