import PyProof.Rows.All
import Wide.All
import OpenK.AllK
import Wide.FinOn
import Lean
import PyProof.EqAt
import PyProof.EqKinds
import PyProof.TupleCall
import KE.KDictList
import KE.KRevIter
import KE.KTurns
import PyProof.Rows.SetFrom
import PyProof.Rows.SortStr
import PyProof.FactsAll.set
import PyProof.Draws
import PyProof.EnumMake
import PyProof.AttrMissSeq
import KE.KDictOf
import PyProof.Walks
import KE.KSortTup
import KE.KItemsList
import KE.KDictSum
import PyProof.Rows.SortRev
import KE.KDictLaws
import PyProof.DictTruth
import PyProof.MinMaxWalk
import PyProof.WalkInts
import PySem.Challenge.RW_doneroom_k54_tables_looked_at
set_option Elab.async false
set_option bootstrap.genMatcherCode false
set_option linter.all false
set_option maxRecDepth 100000
noncomputable section
/-! THE HAND LAYER, for ints, bools, texts, own classes, LISTS and tuples (index, slices, in, append, pop ..), calls, loops. Paste it whole ahead of your own text; what your proof does not reach may be deleted. -/
open PySem renaming wpAny_bind->Na,wpAny_pure->Nj,wpAny_mono->N0,wpAny_holding->N2,wpAny_newObj_type->N9,wpAny_call_entry->Ej,wpAny_callSpecial?_slot->Ep,wpAny_Call_Name_kw->EA,wpAny_setField->EV,codeAny_builtin->E2,wpAny_loadPart'->Db,wpAny_rule->Dd,wpAny_truthy_bool->Di,wpAny_typeNameOfWhole_keyiter->Dk,wpAny_specialOf->Dt,wpAny_passesOwn->Du,wpAny_dictEpoch->Dz,builtinLookup_eq_fast->DA,wpAny_setState_of->DE,codeAny_mono->DJ,wpAny_typeOf->DK,wpAny_typeNameOf_keyiter->DL,wpAny_askSetting->DM,mem_of_lookup->DN,wpAny_getItem_str_slice->DP,plainId_quiet->DR,wpAny_pyIter_tuple->DU,sizeLine_eq->DZ,wpAny_pyIter_list->D0,wpAny_dictEntries->D3,wpAny_seqItems->D5,wpAny_notOrdered_dict->D7,wpAny_fieldsOf->D8,isSubtype_type->D9,wpAny_isInstance->Fc,wpAny_field->Fo,typeLookup_type->Fy,call_meets->FL,wpAny_pyIter_enum->FY,storedH_new->F5,wpAny_standAt->F9,wpAny_forIn_list->Ia,wpAny_isOneOf_keyiter->Ik,wpAny_execs_nil->Ir,call_meetsIn->Iy,post_val_or_str->IA,wpAny_updateSeq->IB,wpAny_pyIter_revIter->ID,wpAny_setEntries_of->IP,wpAny_attempt->Le,eqIsQuiet_byValue->Lh,wpAny_sequenceKey->Ll,wpAny_pyIter_slot->Lm,beq_builtin_none->Lw,noFill_tuple_add->Lz,size_of_entries->LM,codeAny_of_tree->LN,wpAny_ite_split->LO,wpAny_pyNext_range_end->LQ,wpAny_pyIter_rangeiter->LR,wpAny_of_eq->L0,typeIs_none->L3,wpAny_runValue->L9,weight_type_call_type->Oa,wpAny_loadName_local->Og,call->Ol,wpAny_pyIter_keyiter->Oo,wpAny_updateDictKeys->Oq,codeAny_call_builtin->Os,codeAny_extend_loopS->Ot,seq_tuple_add->Ow,wpAny_handled->Oz,wpAny_loadName_cell->OC,wpAny_dictFind_heap->OG,not_mem_keys_of_get->OH,wpAny_pyIter_range->ON,concat_meets->OP,seqIndex_neg->OR,call_reversed_list->OS,wpAny_assign_Name->OW,slot_list_getitem->O1,list_append->O2,atKey_none_of_get->O4,slot_dict_setitem->O5,wpAny_storeSet_of->O7,fits_of_scanBound->O8,putAt->Yae
open Option renaming bind_eq_some_iff->Nc,map_eq_some_iff->Nd,bind_some->Ni,map_some->Ef,map_eq_none_iff->F8,isSome_map->Lo,isSome_iff_exists->Ly,map_none->LP,getD_none->Yaf
open List renaming getElem?_eq_some_iff->Nf,getElem?_eq_getElem->Nl,getElem?_map->Np,size_toArray->Nq,length_map->Nu,map_cons->Nw,mem_cons_of_mem->Ny,mem_cons_self->NA,mem_iff_getElem?->NC,mem_cons->NE,mem_singleton->NF,length_append->NH,find?_cons->NK,mem_map->NL,length_cons->NM,getElem?_append_left->NO,mem_append_right->NR,mem_append->NT,getElem?_eq_none->NY,length_singleton->NZ,not_mem_nil->N5,map_append->N6,nodup_nil->Ea,length_eq_zero_iff->Ec,mem_map_of_mem->Ee,all_eq_true->Eh,length_take->Ei,nodup_append->Ek,mem_append_left->El,getElem?_range->Em,lookup_cons->Eo,take_length->Ew,mem_range->Ez,nodup_cons->EB,findIdx?_eq_some_iff_getElem->EF,map_nil->EG,getD_eq_getElem?_getD->EH,length_range->EJ,drop_eq_getElem_cons->EK,map_map->ES,mem_iff_getElem->EU,dropLast_concat_getLast->EX,length_reverse->E3,getElem?_set_self->E4,drop_eq_nil_of_le->E5,any_cons->E6,getElem?_set_ne->Da,ext_getElem?->Dh,filter_eq_self->Dm,mapM_cons->Dn,getElem_mem->Dp,take_succ->Dq,length_pos_of_mem->Dr,append_nil->Dv,length_set->Dx,getElem?_toArray->DB,getElem?_append_right->DC,length_zipIdx->DW,nil_append->DX,find?_eq_none->DY,getElem?_zipIdx->Ff,all_cons->Fj,length_pos_iff->Fp,mem_filter->Ft,length_nil->Fv,findIdx?_eq_none_iff->Fw,range_succ->Fx,length_erase_of_mem->FF,length_filterMap_le->FJ,getElem?_cons_succ->FR,reverse_cons->FV,getElem?_set->FW,take_of_length_le->F6,filter_eq_nil_iff->F7,getElem_inj->Ic,filter_cons->Ig,take_succ_eq_append_getElem->Ih,map_reverse->Ii,mem_flatMap->Ij,getElem?_reverse->Il,mem_of_getElem?->Iu,all_map->Iz,reverse_reverse->IE,mem_erase_of_ne->IG,getElem?_modify->II,filterMap_cons->IM,toList_toArray->IQ,map_eq_nil_iff->IS,mem_filterMap->IY,mapM_nil->Lf,length_eraseIdx_of_lt->Lg,take_sublist->Lk,flatMap_cons->Lq,getElem?_eq_none_iff->Lu,length_drop->LA,getElem?_replicate->LG,of_mem_zip->LL,range_succ_eq_map->LY,dropLast_eq_take->L7,take_append_drop->Ob,length_filter_le->Of,range_eq_range'->On,mem_of_mem_take->Ov,sum_cons->OA,replicate_succ->OI,map_congr_left->OJ,map_inj_right->OV,any_eq_false->OX,append_assoc->Qq,pairwise_map->Yab,any_toArray->Yah,range'_succ->Yai,nodup_range->Yam,countP_cons->Yan,forIn_cons->Yap,foldl_cons->Yar,map_const'->Yat,idxOf_cons->Yau
open PySem.W renaming Frag->Ng,kia_one->Eu,keepIn->EE,fnOf->EQ,findIn->D6,mg_of->Fk,nsIn->FC,codeIn->FK,methodObj->Li,kitx_list->Lj,plainGet->Lx,instObj->LK,cellsFrom_some->LU,lookIn->L6,WalkO->Oy,pyHash_slot->OB,kitx_tuple->OO,hasDictIn->OY,plainOver->OZ,kitx_dict->O0,KeysLit->Yaq,makesIn->Yas,kitOne->Yav,isFn->Yay
open Nat renaming lt_of_le_of_lt->Nh,lt_of_lt_of_le->Nk,le_trans->Nn,le_of_lt->Nr,le_of_eq->Nt,le_add_right->Nv,le_refl->Nz,ne_of_lt->NG,zero_add->NI,not_lt->NU,zero_le->NV,lt_succ_self->N1,lt_trans->N4,lt_irrefl->Et,add_lt_add_left->EC,ne_of_gt->EO,lt_succ_of_lt->E1,min_le_right->E7,add_right_comm->E9,add_le_add_right->Df,le_antisymm->Dw,not_le->DT,not_lt_zero->DV,add_assoc->Fh,le_add_left->Fz,sub_le->Iv,succ_pos->IF,add_lt_add_right->IJ,mul_le_mul_left->IR,mul_le_mul->IU,le_succ->IX,lt_trichotomy->Lp,sub_lt_left_of_lt_add->Lr,add_sub_cancel_left->LH,mul_le_mul_right->Ou,succ_ne_self->Yak,not_lt_of_le->Yal,min_eq_right->Yao
open PySem.Heap renaming get?_push_of_some->No,get?_push_size->NB,lt_size->ND,get?_update_self->N8,get?_update_other->EI,size_push->DI
open Bool renaming and_eq_true->NJ,false_ne_true->NQ,false_eq_true->Es,eq_iff_iff->EL,or_eq_true->De,and_false->D4,and_true->Fi,not_true->Lc,or_false->Ox,not_eq_true'->Yaa
open Array renaming getElem?_eq_getElem->NN,length_toList->N3,getElem?_toList->Eb,getElem?_eq_none->F4,mem_of_getElem?->Io,mem_toList_iff->Oh,forIn_toList->OM,toList_push->O6
open PySem.Heap.SameBut renaming update->NP
open Option.some renaming inj->NS,injEq->FZ
open PySem.Paired renaming length->NW,snoc->LX
open PyProof.Rows renaming callWith_type1->NX,slot_tuple_getitem->Er,boot_list->ET,boot_isinstance->EY,callWith_builtin1->DS,boot_tuple->FT,boot_int->Ip,boot_max->Iq,subscriptTail_builtinR->LV,boot_bool->L4,boot_all->Od,entry_tuple_getitem->OD,args_tuple_getitem->OQ
open PySem.F renaming plainAttrs_list->N7,called_set->Ev,slot_dict_keyiterator_next->ED,slot_dict_setdefault->EW,plainAttrs_dict->Dl,slot_list_extend->Ds,slot_dict_get->Dy,slot_tuple_iterator_next->DD,slot_list_pop->DH,slot_list_index->DQ,type_list_pop->Fa,type_dict_setdefault->Fb,slot_NoneType_hash->Fg,args_tuple_add_2->FB,args_dict_keyiterator_next_1->FD,slot_list_getattribute->FG,type_list_extend->FH,entry_dict_keyiterator_next->FN,entry_tuple_add->FP,args_dict_get_3->FQ,type_list_index->FU,slot_tuple_add->F0,entry_dict_get->F3,plain_extend_loop->Im,slot_list_append->Iw,args_dict_setdefault_3->IC,entry_dict_setdefault->IK,args_tuple_iterator_next_1->IW,entry_tuple_iterator_next->La,slot_dict_iter->LZ,type_dict_get->Oc,args_list_append_2->Oi,args_list_extend_2->Oj,entry_list_append->OE,entry_list_extend->OF,entry_type_call->O9
open Int renaming toNat_natCast->Ey,emod_nonneg->EM,emod_lt_of_pos->ER,not_le->DF,toNat_of_nonneg->DO,ne_of_gt->FA,le_of_eq->FI,lt_of_le_of_lt->Lb,not_lt->Lv,le_trans->LD,zero_add->OU,le_refl->Yad
open Ne renaming symm->EN
open Function renaming comp_def->EZ
open PySem.Calls renaming spliced_cons->E8,spliced_nil->Dj,Name_function_global->Ld,callWith_builtin->LW
open PySem.Around renaming under_plainId->Dg,under_plain->OT
open LawfulBEq renaming eq_of_beq->DG
open PySem.Obj renaming data_mapDictKeys->Fe,data_mapFields->FE,isFreed_of_dict->IN,isFreed_of_fields->L8,cls_mapFields->O3,data_mapDict->Yaj
open Int.ofNat renaming inj->Fl
open Classical renaming byContradiction->Fq,choose_spec->Oe
open PyProof.Rows.StrsAre renaming length->FO
open PyProof.Rows.F renaming plain_set_update_loop->FS,entry_set_update_loop->LJ
open PySem.WalksT renaming enumerateD->FX
open List.cons renaming injEq->IH
open PySem.Value renaming isStrOf_shape->IL
open PySem.Builtin.Dict_items renaming ownsTuple->IV
open PySem.Code renaming quiet_builtin->IZ
open PySem.Txt renaming slice_le->LB
open PySem.Challenge renaming pw_doneroom_k54_tables_looked_at->LC
open List.Pairwise renaming imp_of_mem->LF
open PyProof renaming noPylong_small->LS
open PySem.Str renaming ofString_eq_toList->L5
open PySem.Walks renaming list->Om
open PySem.SeqAt.EqAt renaming int_str->OK,str_int->OL
open List.Sublist renaming refl->Yac
open PySem.IsL renaming update->Yag
open PyProof.Rows.IsTup renaming new->Yaw
open Prod.mk renaming injEq->Yax
open PySem PySem.Spec PyProof.Rows
namespace L2
noncomputable abbrev Key:=Sum Int Str
def QcP:Key->Value->Bool
 |.inl k,v=>Value.isInt k v
 |.inr x,v=>Value.isStrOf x v
def Qre(w:World):Key->Int
 |.inl k=>hashInt k
 |.inr x=>hashStr w x
theorem Q8:∀{k:Key} {v:Value},QcP k v=true->(∃i t,k=Sum.inl i/\v=Value.int i t)\/(∃x t,k=Sum.inr x/\v=Value.str x t)
 |.inl i,v,h=>by
  obtain⟨t,e⟩:=Value.isInt_shape (k:=i) (v:=v) h;exact .inl ⟨i,t,rfl,e⟩
 |.inr x,v,h=>by
  obtain⟨t,e⟩:=IL (x:=x) (v:=v) h;exact .inr ⟨x,t,rfl,e⟩
theorem QdB(i:Int)(t:Tok):QcP (.inl i) (.int i t)=true:=by simp[QcP,Value.isInt]
theorem QeR(x:Str)(t:Tok):QcP (.inr x) (.str x t)=true:=by simp[QcP,Value.isStrOf]
theorem Qk4(a b:Int):decide ((Sum.inl a:Key)=Sum.inl b)=(a==b):=by
 by_cases e:a=b
 ·subst e;simp
 ·have h:¬(Sum.inl a:Key)=Sum.inl b:=fun q=>e (Sum.inl.inj q);rw[decide_eq_false h];exact(beq_eq_false_iff_ne.mpr e).symm
theorem Qmk(a b:Str):decide ((Sum.inr a:Key)=Sum.inr b)=decide (a=b):=by
 by_cases e:a=b
 ·subst e;simp
 ·have h:¬(Sum.inr a:Key)=Sum.inr b:=fun q=>e (Sum.inr.inj q);rw[decide_eq_false h,decide_eq_false e]
theorem QkD(a:Int)(b:Str):decide ((Sum.inl a:Key)=Sum.inr b)=false:=decide_eq_false (fun q=>nomatch q)
theorem QkW(a:Str)(b:Int):decide ((Sum.inr a:Key)=Sum.inl b)=false:=decide_eq_false (fun q=>nomatch q)
def VQ(prog:Program)(w:World):PySem.KeyKind prog w Key where
 is:=QcP
 hash:=Qre w
 inj:=fun v a b g f=>by
  rcases Q8 g with⟨i,t,rfl,rfl⟩|⟨x,t,rfl,rfl⟩
  ·rcases Q8 f with⟨j,u,rfl,e⟩|⟨y,u,rfl,e⟩
   ·injection e with c _;rw[c]
   ·exact nomatch e
  ·rcases Q8 f with⟨j,u,rfl,e⟩|⟨y,u,rfl,e⟩
   ·exact nomatch e
   ·injection e with c _;rw[c]
 byValue:=fun k v h=>by
  rcases Q8 h with⟨i,t,rfl,rfl⟩|⟨x,t,rfl,rfl⟩<;>rfl
 pyHash:=fun d h=>by
  rcases Q8 d with⟨i,t,rfl,rfl⟩|⟨x,t,rfl,rfl⟩
  ·exact wpAny_pyHash_int h
  ·exact wpAny_pyHash_str h
 eqBool:=fun hu d h=>by
  rcases Q8 hu with⟨i,t,rfl,rfl⟩|⟨x,t,rfl,rfl⟩
  ·rcases Q8 d with⟨j,u,rfl,rfl⟩|⟨y,u,rfl,rfl⟩
   ·rw[Qk4]at h;exact wpAny_eqBool_int h
   ·rw[QkD]at h;exact OK i t y u _ _ _ _ h
  ·rcases Q8 d with⟨j,u,rfl,rfl⟩|⟨y,u,rfl,rfl⟩
   ·rw[QkW]at h;exact OL x t j u _ _ _ _ h
   ·rw[Qmk]at h;exact wpAny_eqBool_str h
 «strs»:=fun k x t v h=>by
  rcases Q8 h with⟨i,u,rfl,e⟩|⟨y,u,rfl,e⟩
  ·exact nomatch e
  ·injection e with c _
   subst c;cases v<;>rfl
theorem Qbd(prog:Program)(w:World)(i:Int)(t:Tok):(VQ prog w).is (.inl i) (.int i t)=true:=QdB i t
theorem QaS(prog:Program)(w:World)(x:Str)(t:Tok):(VQ prog w).is (.inr x) (.str x t)=true:=QeR x t
inductive V where
 |non|bl (b:Bool)|int (i:Int)|str (x:Str)|byt (b:Array UInt8)|flt (b:UInt64)|ref (a:Addr)|ty (n:String)
 deriving DecidableEq
noncomputable def RelV:V->Value->Prop
 |.non,u=>u=Value.none
 |.bl b,u=>u=Value.bool b
 |.int i,u=>∃t,u=Value.int i t
 |.str x,u=>∃t,u=Value.str x t
 |.byt b,u=>∃t,u=Value.bytes b t
 |.flt b,u=>∃t,u=Value.float b t
 |.ref a,u=>u=Value.ref a
 |.ty n,u=>u=Value.type n
abbrev Vals:List V->List Value->Prop:=Paired RelV
theorem Vals.length{xs:List V}{us:List Value}(r:Vals xs us):xs.length=us.length:=NW r
theorem Vals.get:∀{xs:List V} {us:List Value} {i:Nat} {x:V},Vals xs us->xs[i]?=some x->∃u,us[i]?=some u/\RelV x u
 |_,_,_,_,.nil,e=>by simp at e
 |_,_,0,_,.cons r _,e=>by simp at e;subst e;exact⟨_,rfl,r⟩
 |_,_,i+1,x,.cons _ t,e=>by
  obtain⟨u,a,h2⟩:=Vals.get (i:=i) (x:=x) t (by simpa using e);exact⟨u,by simpa using a,h2⟩
theorem Vals.set{x:V}{u:Value}(r:RelV x u):∀{xs:List V} {us:List Value} (i:Nat),Vals xs us->Vals (xs.set i x) (us.set i u)
 |_,_,_,.nil=>.nil
 |_,_,0,.cons _ t=>.cons r t
 |_,_,i+1,.cons q t=>.cons q (Vals.set r i t)
theorem Vals.append:∀{xs a:List V} {us ws:List Value},Vals xs us->Vals a ws->Vals (xs++a) (us++ws)
 |_,_,_,_,.nil,s=>s
 |_,_,_,_,.cons r t,s=>.cons r (Vals.append t s)
theorem Vals.take:∀{xs:List V} {us:List Value} (n:Nat),Vals xs us->Vals (xs.take n) (us.take n)
 |_,_,0,_=>.nil
 |_,_,_+1,.nil=>.nil
 |_,_,n+1,.cons r t=>.cons r (Vals.take n t)
theorem Vals.drop:∀{xs:List V} {us:List Value} (n:Nat),Vals xs us->Vals (xs.drop n) (us.drop n)
 |_,_,0,r=>r
 |_,_,_+1,.nil=>.nil
 |_,_,n+1,.cons _ t=>Vals.drop n t
def RelO:Option V->Option Value->Prop
 |some v,some u=>RelV v u
 |none,none=>True
 |_,_=>False
def KV{κ:Type}:List (κ×V)->List (κ×Value)->Prop:=Paired fun(p:κ×V) (q:κ×Value)=>p.1=q.1/\RelV p.2 q.2
inductive Tr where
 |i (n:Int)
 |s (x:Str)
 |t (ks:List Tr)
noncomputable instance trDec:DecidableEq Tr:=fun _ _=>Classical.propDecidable _
noncomputable def IsT(h:Heap):Nat->Tr->Value->Prop
 |0,_,_=>False
 |_+1,.i k,v=>(∃t,v=.int k t)\/∃b:Bool,v=.bool b/\k=if b then 1 else 0
 |_+1,.s x,v=>∃t,v=.str x t
 |n+1,.t ks,v=>∃a its,v=.ref a/\h.IsTuple a its/\Paired (IsT h n) ks its.toList
theorem Qgc{e d:Type}{F:e->d->Prop}(h:∀x y v,F x v->F y v->x=y){xs c:List e}{f:List d}(p:Paired F xs f)(q:Paired F c f):xs=c:=by
 induction p generalizing c with
 |nil=>cases q;rfl
 |cons a s g=>cases q with|cons b t=>rw[h _ _ _ a b,g t]
theorem QaQ{h:Heap}{n:Nat}{x:Tr}{a:Addr}(c:IsT h n x (.ref a)):∃m ks its,n=m+1/\x=.t ks/\h.IsTuple a its/\Paired (IsT h m) ks its.toList:=by
 cases n with
 |zero=>exact c.elim
 |succ n=>
  cases x with
  |i k=>rcases c with⟨t,e⟩|⟨b,e,_⟩<;>cases e
  |s y=>obtain⟨t,e⟩:=c;cases e
  |t ks=>obtain⟨d,its,e,p,q⟩:=c;cases e;exact⟨n,ks,its,rfl,rfl,p,q⟩
theorem Qa1{h:Heap}{a:Addr}{x y:Array Value}(e:h.IsTuple a x)(d:h.IsTuple a y):x=y:=by
 obtain⟨o,g,_,n,f⟩:=e;obtain⟨i,c,_,j,b⟩:=d;rw[g]at c;cases c;rw[f]at b;injection b
noncomputable def gT:Value->Tr
 |.int i _=>.i i
 |.bool b=>.i (if b then 1 else 0)
 |.str x _=>.s x
 |_=>.t []
theorem Qme{h:Heap}{n:Nat}{x:Tr}{v:Value}(c:IsT h n x v):(∃a,v=.ref a)\/x=gT v:=by
 cases n with
 |zero=>exact c.elim
 |succ n=>
  cases x with
  |i k=>rcases c with⟨t,rfl⟩|⟨b,rfl,rfl⟩<;>exact .inr rfl
  |s y=>obtain⟨t,rfl⟩:=c;exact .inr rfl
  |t e=>obtain⟨a,d,rfl,_⟩:=c;exact .inl ⟨a,rfl⟩
theorem Qbh{h:Heap}:∀{n:Nat} (x y:Tr) (v:Value),IsT h n x v->IsT h n y v->x=y
 |0,_,_,_,b,_=>b.elim
 |n+1,x,y,v,b,d=>by
  by_cases r:∃a,v=.ref a
  ·obtain⟨a,rfl⟩:=r;obtain⟨m,s,i,e,rfl,p,q⟩:=QaQ b;obtain⟨l,o,c,j,rfl,g,f⟩:=QaQ d;cases e;cases j;cases Qa1 p g;rw[Qgc (fun x y v=>Qbh (n:=n) x y v) q f]
  ·rw[(Qme b).resolve_left r,(Qme d).resolve_left r]
theorem UE{g e:Type}{F G:g->e->Prop}(f:∀a b,F a b->G a b):∀{d:List g} {c:List e},Paired F d c->Paired G d c
 |_,_,.nil=>.nil
 |_,_,.cons r t=>.cons (f _ _ r) (UE f t)
theorem Qaj{h h':Heap}{d:Addr}{o:Obj}{es ep}(f:h.get? d=some o)(hd:o.data=.dict es ep)(j:Heap.SameBut d h h'):∀{n:Nat} (k:Tr) (v:Value),IsT h n k v->IsT h' n k v
 |0,_,_,x=>x.elim
 |n+1,.i k,v,x=>x
 |n+1,.s k,v,x=>x
 | n+1,.t ks,v,⟨a,its,e,⟨l,c,p,m,b⟩,q⟩=>by
  have g:a≠d:=by
   rintro rfl
   rw[c]at f;cases f;rw[hd]at b;exact nomatch b
  exact⟨a,its,e,⟨l,(j.2 a g).trans c,p,m,b⟩,UE (fun k v=>Qaj f hd j k v) q⟩
noncomputable def hN(w:World):Nat->Tr->Int
 |0,_=>0
 |_+1,.i k=>hashInt k
 |_+1,.s x=>hashStr w x
 |n+1,.t ks=>reduceHash (Builtin.Tuple.tupleHashOf (ks.map (hN w n)))
noncomputable def dN:Nat->Tr->Nat
 |0,_=>0
 |_+1,.i _=>1
 |_+1,.s _=>1
 |n+1,.t ks=>(ks.map (dN n)).sum+1
section
variable{prog:Program}{w:World}{E:Value->Shared->Prop}
theorem Qal{n:Nat}{A:Around}(d:∀(k:Tr) (v:Value) (s:Shared) (Q:Int->Shared->Prop),IsT s.heap n k v->Q (hN w n k) { s with toks:=s.toks+dN n k }->wpAny (model prog w) A (pyHash v) Q E s) :
  ∀(ks:List Tr) (c:List Value) (s:Shared) (b:Array Int) (Q:Array Int->Shared->Prop),Paired (IsT s.heap n) ks c ->
  (∀a,a.toList=b.toList++ks.map (hN w n)->Q a { s with toks:=s.toks+(ks.map (dN n)).sum }) ->
  wpAny (model prog w) A (forIn c b fun x r=>do let h <-pyHash x;pure PUnit.unit;pure (ForInStep.yield (r.push h))) Q E s
 |[],_,s,b,Q,x,h=>by cases x;exact Nj (h b (by simp))
 | k::ks,_,s,b,Q,x,h=>by
  cases x with
  |cons e x2=>
   rw[Yap];refine Na (Na (d k _ s _ e ?_));refine Na (Nj (Nj ?_));refine Qal d ks _ _ _ Q x2 fun a f=>?_;have:=h a (by simp[f]);simpa[Fh]using this
theorem Qig:∀(n:Nat) (A:Around),A.units+n<cLine->∀(k:Tr) (v:Value) (s:Shared) (Q:Int->Shared->Prop),IsT s.heap n k v->Q (hN w n k) { s with toks:=s.toks+dN n k }->wpAny (model prog w) A (pyHash v) Q E s
 |0,_,_,_,_,_,_,x,_=>x.elim
 | n+1,A,hu,.i k,v,s,Q,x,h=>by
  rcases x with⟨t,rfl⟩|⟨b,rfl,rfl⟩
  ·exact wpAny_pyHash_int h
  ·refine OB (T:="bool") rfl F.slot_bool_hash entry_int_hash (args_int_hash _) (Lw _) (.inr (Nh (Nv _ _) hu)) ?_;cases b
   ·exact(show wpAny _ _ (do ret (<-mkInt 0)) _ _ s from Na (wpAny_mkInt (Nj ⟨_,_,rfl,h⟩)))
   ·exact(show wpAny _ _ (do ret (<-mkInt 1)) _ _ s from Na (wpAny_mkInt (Nj ⟨_,_,rfl,h⟩)))
 |n+1,A,hu,.s y,v,s,Q,x,h=>by
  obtain⟨t,rfl⟩:=x;exact wpAny_pyHash_str h
 |n+1,A,hu,.t d,v,s,Q,x,h=>by
  obtain⟨a,e,rfl,⟨o,c,f,m,hd⟩,q⟩:=x;refine OB (T:="tuple") ⟨_,c,f⟩ F.slot_tuple_hash F.entry_tuple_hash (F.args_tuple_hash_1 _) (Lw _) (.inr (Nh (Nv _ _) hu)) ?_;show wpAny _ _ (Builtin.Tuple.tupleItemsOf (.ref a)>>=_) _ _ s;refine Na (wpAny_tupleItemsOf c hd ?_);refine Na ?_;rw[<-OM];refine Qal (n:=n) (fun k v s Q=>Qig n A.in1 (by show A.units+1+n<cLine;lia) k v s Q) d _ s #[] _ q fun b g=>?_;show wpAny _ _ (retInt (Builtin.Tuple.tupleHashOf b.toList)) _ _ _;rw[g];refine Na (wpAny_mkInt (Nj ⟨_,_,rfl,?_⟩));simpa[hN,dN,Fh]using h
theorem QjC{n:Nat}{h:Heap}{e:Nat->Bool}:∀{ks ls:List Tr} {us d:List Value},Paired (IsT h n) ks us->Paired (IsT h n) ls d->(∀(j:Nat) (x y:Tr),ks[j]?=some x->ls[j]?=some y->e j=decide (x=y)) ->
  ((List.range (min us.length d.length)).all e&&us.length==d.length)=decide (Tr.t ks=Tr.t ls):=by
 intro ks ls us d p q g;have l:=NW p;have i:=NW q;rw[<-l,<-i]
 by_cases c:ks.length=ls.length
 ·by_cases f:ks=ls
  ·subst f;simp only[Nat.min_self,beq_self_eq_true,Fi,decide_true];rw[Eh];intro j b;rw[Ez]at b;rw[g j ks[j] ks[j] (Nl b) (Nl b)];simp
  ·have:decide (Tr.t ks=Tr.t ls)=false:=decide_eq_false fun z=>f (Tr.t.inj z);rw[this,Bool.and_eq_false_iff];left;have:∃j,ks[j]?≠ls[j]?:=Fq fun z=>f (Dh fun j=>Fq fun y=>z ⟨j,y⟩);obtain⟨j,b⟩:=this;have a:j<ks.length:=Fq fun z=>b (by rw[NY (NU.mp z),NY (Nn (Nt c.symm) (NU.mp z))]);rw[List.all_eq_false];refine⟨j,Ez.mpr (by lia),?_⟩;rw[g j ks[j] ls[j] (Nl a) (Nl (Nk a (Nt c)))];intro z;rw[decide_eq_true_eq]at z;exact b (by rw[Nl a,Nl (Nk a (Nt c)),z])
 ·have m:(ks.length==ls.length)=false:=beq_eq_false_iff_ne.mpr c;rw[m,D4];exact(decide_eq_false fun z=>c (by rw[Tr.t.inj z])).symm
theorem V0{c d:Type}{F:c->d->Prop}:∀{b:List c} {a:List d} {j:Nat} {x:c},Paired F b a->b[j]?=some x->∃v,a[j]?=some v/\F x v
 |_,_,0,x,.cons r t,e=>by simp at e;subst e;exact⟨_,rfl,r⟩
 |_,_,j+1,x,.cons r t,e=>by
  obtain⟨v,f,h2⟩:=V0 (j:=j) (x:=x) t (by simpa using e);exact⟨v,by simpa using f,h2⟩
open SeqAt in
theorem Qpj{s:Shared}:∀(n:Nat) (A:Around),A.units+n<cLine->∀(x y:Tr) (u v:Value),IsT s.heap n x u->IsT s.heap n y v->EqAt A s u v (decide (x=y))
 |0,_,_,_,_,_,_,c,_=>c.elim
 | n+1,A,hu,.i a,.i b,u,v,c,d=>by
  have hd:decide (Tr.i a=Tr.i b)=(a==b):=by
   by_cases z:a=b
   ·subst z;simp
   ·rw[decide_eq_false fun q=>z (Tr.i.inj q)];exact(beq_eq_false_iff_ne.mpr z).symm
  rw[hd]
  rcases c with⟨t,rfl⟩|⟨p,rfl,rfl⟩<;>rcases d with⟨g,rfl⟩|⟨q,rfl,rfl⟩
  ·exact EqAt.int_int a t b g
  ·exact EqAt.int_bool a t q
  ·exact EqAt.bool_int p b g
  ·have:=EqAt.bool_bool (A:=A) (s:=s) p q;cases p<;>cases q<;>exact this
 |n+1,A,hu,.i a,.s b,u,v,c,d=>by
  obtain⟨g,rfl⟩:=d;rw[decide_eq_false (fun z=>nomatch z)]
  rcases c with⟨t,rfl⟩|⟨p,rfl,rfl⟩
  ·exact EqAt.int_str a t b g
  ·exact EqAt.bool_str p b g
 |n+1,A,hu,.i a,.t h,u,v,c,d=>by
  obtain⟨ad,f,rfl,p,_⟩:=d;rw[decide_eq_false (fun z=>nomatch z)]
  rcases c with⟨t,rfl⟩|⟨q,rfl,rfl⟩
  ·exact EqAt.int_tuple a t p (Nh (Nv _ _) hu)
  ·exact EqAt.bool_tuple q p (Nh (Nv _ _) hu)
 |n+1,A,hu,.s b,.i a,u,v,c,d=>by
  obtain⟨g,rfl⟩:=c;rw[decide_eq_false (fun z=>nomatch z)]
  rcases d with⟨t,rfl⟩|⟨p,rfl,rfl⟩
  ·exact EqAt.str_int b g a t
  ·exact EqAt.str_bool b g p
 | n+1,A,hu,.s a,.s b,u,v,c,d=>by
  obtain⟨t,rfl⟩:=c;obtain⟨g,rfl⟩:=d
  have hd:decide (Tr.s a=Tr.s b)=(a==b):=by
   by_cases z:a=b
   ·subst z;simp
   ·rw[decide_eq_false fun q=>z (Tr.s.inj q)];exact(beq_eq_false_iff_ne.mpr z).symm
  rw[hd];exact EqAt.str_str a t b g
 |n+1,A,hu,.s b,.t h,u,v,c,d=>by
  obtain⟨ad,f,rfl,p,_⟩:=d;obtain⟨t,rfl⟩:=c;rw[decide_eq_false (fun z=>nomatch z)];exact EqAt.str_tuple b t p (Nh (Nv _ _) hu)
 |n+1,A,hu,.t h,.i a,u,v,c,d=>by
  obtain⟨ad,f,rfl,p,_⟩:=c;rw[decide_eq_false (fun z=>nomatch z)]
  rcases d with⟨t,rfl⟩|⟨q,rfl,rfl⟩
  ·exact EqAt.tuple_int a t p (Nh (Nv _ _) hu)
  ·exact EqAt.tuple_bool q p (Nh (Nv _ _) hu)
 |n+1,A,hu,.t h,.s b,u,v,c,d=>by
  obtain⟨ad,f,rfl,p,_⟩:=c;obtain⟨t,rfl⟩:=d;rw[decide_eq_false (fun z=>nomatch z)];exact EqAt.tuple_str b t p (Nh (Nv _ _) hu)
 | n+1,A,hu,.t h,.t l,u,v,c,d=>by
  obtain⟨ad,f,rfl,p,q⟩:=id c;obtain⟨S,m,rfl,J,F⟩:=id d
  by_cases B:ad=S
  ·subst B;have:=Qbh _ _ _ c d;rw[this,decide_eq_true rfl];exact EqAt.same _
  ·refine EqAt.of_refs B ?_;have P:=Qpj (s:=s) n A.in1 (by show A.units+1+n<cLine;omega)
   have I:=RcAt.tuples (A:=A) (s:=s) (e:=fun j=>match h[j]?,l[j]? with|some x,some y=>decide (x=y)|_,_=>false) p J (Nh (Nv _ _) hu) (fun j D C=>by
    have M:=NW q;have L:=NW F;have O:j<h.length:=by rw[M];exact D
    have N:j<l.length:=by rw[L];exact C
    obtain⟨x,c⟩:∃x,h[j]?=some x:=⟨h[j],Nl O⟩
    obtain⟨y,d⟩:∃y,l[j]?=some y:=⟨l[j],Nl N⟩
    obtain⟨u,o,G⟩:=V0 q c;obtain⟨t,r,H⟩:=V0 F d;rw[c,d]
    have R:f[j]=u:=by
     rw[Eb,NN D]at o;exact NS o
    have Q:m[j]=t:=by
     rw[Eb,NN C]at r;exact NS r
    rw[R,Q]
    exact P x y u t G H)
   have:=QjC (e:=fun j=>match h[j]?,l[j]? with|some x,some y=>decide (x=y)|_,_=>false) q F (fun j x y D C=>by simp only[D,C]);rw[N3,N3]at this;rw[this]at I;exact I
theorem Qfy{A:Around}{s:Shared}:∀(n m:Nat) (k:Tr) (v:Value) (Q:Bool->Shared->Prop),IsT s.heap n k v->n<=m->Q true s->wpAny (model prog w) A (eqIsQuiet m v) Q E s
 |0,_,_,_,_,x,_,_=>x.elim
 |n+1,m,.i k,v,Q,x,_,h=>by
  rcases x with⟨t,rfl⟩|⟨b,rfl,rfl⟩
  ·rw[Lh _ rfl];exact Nj h
  ·rw[Lh _ rfl];exact Nj h
 |n+1,m,.s k,v,Q,x,_,h=>by
  obtain⟨t,rfl⟩:=x;rw[Lh _ rfl];exact Nj h
 |n+1,0,.t f,v,Q,x,z,h=>by lia
 | n+1,m+1,.t f,v,Q,x,z,h=>by
  obtain⟨a,e,rfl,⟨o,g,B,l,hd⟩,q⟩:=x;have j:s.TypeIs (.ref a) "tuple":=⟨o,g,B⟩
  unfold eqIsQuiet;refine Na (Dt j F.slot_tuple_eq.lookup ?_);show wpAny _ _ (isInstance (.ref a) (.type "tuple")>>=_) _ _ s;refine Na (Fc j isSubtype_tuple_tuple ?_);simp only[Lc,Es,if_false];refine Na (D5 g hd ?_);refine Na ?_;show wpAny _ _ (forIn e _ _) _ _ s;rw[<-OM];refine Ia _ (fun rest r d=>r.1=none/\d=s/\∃c,Paired (IsT s.heap n) c rest) _ ?_ ?_ _ _ ⟨rfl,rfl,f,q⟩
  ·rintro v rest r d ⟨hr,rfl,c,y⟩
   cases y with
   |cons u p=>
    refine Na (Qfy n m _ _ _ u (by lia) ?_);simp only[Lc,Es,if_false];exact Nj ⟨rfl,rfl,_,p⟩
  ·rintro⟨D,C⟩ d ⟨hr,rfl,_⟩
   simp only at hr;subst hr;exact Nj h
end
def Qh(prog:Program)(w:World):HeapKind prog w Tr where
 is:=fun h k a=>IsT h 8 k (.ref a)
 hash:=hN w 8
 draws:=dN 8
 room:=fun A=>A.units+8<cLine
 inj:=fun c b=>Qbh _ _ _ c b
 keeps:=fun x f hd e=>Qaj f hd e _ _ x
 pyHash:=fun hu d h=>Qig 8 _ hu _ _ _ _ d h
 eqBool:=fun hu c b h=>Qpj 8 _ hu _ _ _ _ c b _ _ _ _ h
 quiet:=fun d h=>Qfy 8 8 _ _ _ d (Nz _) h
def kV:Key->V
 |.inl i=>.int i
 |.inr x=>.str x
inductive HO where
 /-- a list -/
 |lst (xs:List V)
 /-- a tuple (never changes) -/
 |tup (xs:List V)
 /-- a dict whose keys are ints and texts;one whose keys are tuples of ints and texts (the empty one is both) -/
 |dK (kvs:List (Key×V))|dT (kvs:List (Tr×Addr×V))
 /-- a set of ints: its members,its size -/
 |set (S:Int->Bool) (n:Nat)
 /-- an instance of the class at C,its dict at dx,its attributes -/
 |ins (C dx:Addr) (fs:List (Str×V))
 /-- the dict of the instance at x -/
 |own (x:Addr)
 /-- the dict of an exception -/
 |xd (fs:List (Str×V))
 /-- a bound method,f of x -/
 |met (f x:Addr)
 /-- a range object lo,lo+1,.. below hi -/
 |rng (lo hi:Int)
 /-- a thing that is known to the object (the script;a dict while a loop walks it): read,never written while it is so -/
 |frz (o:Obj) (u:HO)
 /-- a Qi3 object's table -/
 |tbl (ps:Array Value)
 /-- any other thing,by what is true of its one object (a def of one's own: SetO a S n:=HO.ext fun h=>..) -/
 |ext (φ:Heap->Prop)
noncomputable abbrev Hp:=Addr->Option HO
noncomputable def upd(H:Hp)(a:Addr)(o:HO):Hp:=fun b=>if b=a then some o else H b
theorem JZ{H:Hp}{a:Addr}{o:HO}:upd H a o a=some o:=by unfold upd;rw[if_pos rfl]
theorem Qy{H:Hp}{a b:Addr}{o:HO}(h:b≠a):upd H a o b=H b:=by unfold upd;rw[if_neg h]
theorem J7{H:Hp}{a b:Addr}{o:HO}(h:H a=some o)(h':H b=none):a≠b:=by
 intro e;subst e;rw[h]at h';cases h'
section
variable(P:Program)(w:World)
def ObjOk(H:Hp)(h:Heap)(a:Addr):HO->Prop
 |.lst xs=>xs.length<=sizeLine/\∃(its:List Value) (n:Nat),Vals xs its/\h.get? a=some { cls:=.type "list",data:=.seq its.toArray n }
 |.tup xs=>xs.length<=sizeLine/\∃its:List Value,Vals xs its/\IsTup h a its.toArray
 |.dK b=>b.length<=sizeLine/\(a==sysModules)=false/\∃g,KV b g/\h.DictOf (VQ P w) a g
 | .dT b=>b.length<=sizeLine/\(a==sysModules)=false/\∃xs:List (Tr×Addr×Value),
   Paired (fun(p:Tr×Addr×V) (q:Tr×Addr×Value)=>p.1=q.1/\p.2.1=q.2.1/\RelV p.2.2 q.2.2) b xs /\
   ∃o es ep,h.get? a=some o/\o.ExactDict/\o.data=.dict es ep/\es.toList=xs.map (entryOfKey (Qh P w))/\(xs.map (·.1)).Nodup/\ep=es.size
 |.set S n=>h.SetOf (intKind P w) a S n
 | .ins C d fs=>H d=some (.own a)/\fs.length<=1000/\d≠a/\h.get? a=some (LK C d) /\
   ∃c,h.Ns1 d c/\(∀f,RelO (fs.lookup f) (c f))/\PySem.Within c (fs.map (·.1))
 |.own _=>∃o,h.get? a=some o
 |.xd fs=>∃c,h.Ns1 a c/\∀f,RelO (fs.lookup f) (c f)
 |.rng lo j=>∃t u v,h.get? a=some { cls:=.type "range",data:=.fields #[.int lo t,.int j u,.int 1 v] }
 |.frz o u=>h.get? a=some o/\ObjOk H h a u
 |.tbl ps=>h.get? a=some { cls:=.none,data:=.fields ps }
 |.met f x=>h.get? a=some (Li (.ref f) (.ref x))
 |.ext e=>e h/\(∃o,h.get? a=some o)/\∀i h2:Heap,e i->(∀o,i.get? a=some o->h2.get? a=some o)->e h2
def HOk(H:Hp)(h:Heap):Prop:=∀a o,H a=some o->ObjOk P w H h a o
end
section
variable{P:Program}{w:World}{H H':Hp}{h h':Heap}{a:Addr}{o:HO}
theorem ObjOk.lt(x:ObjOk P w H h a o):a<h.objs.size:=by
 cases o with
 |lst c=>obtain⟨_,_,_,_,e⟩:=x;exact ND e
 |tup c=>obtain⟨_,_,_,p⟩:=x;exact p.lt
 |dK b=>obtain⟨_,_,_,_,o,_,_,e,_⟩:=x;exact ND e
 |dT b=>obtain⟨_,_,_,_,o,_,_,e,_⟩:=x;exact ND e
 |set S n=>obtain⟨o,_,_,_,e,_⟩:=x;exact ND e
 |ins C j fs=>obtain⟨_,_,_,e,_⟩:=x;exact ND e
 |own y=>obtain⟨_,e⟩:=x;exact ND e
 |xd fs=>obtain⟨_,⟨_,_,_,e,_⟩,_⟩:=x;exact ND e
 |rng lo i=>obtain⟨_,_,_,e⟩:=x;exact ND e
 |frz ob u=>obtain⟨e,_⟩:=x;exact ND e
 |tbl g=>exact ND (show h.get? a=some _ from x)
 |met f y=>exact ND (show h.get? a=some _ from x)
 |ext d=>obtain⟨_,⟨_,e⟩,_⟩:=x;exact ND e
theorem Paired.mapP{g e:Type}{F G:g->e->Prop}:∀{d:List g} {c:List e},Paired F d c->(∀a b,F a b->G a b)->Paired G d c
 |_,_,.nil,_=>.nil
 |_,_,.cons r t,f=>.cons (f _ _ r) (Paired.mapP t f)
theorem ObjOk.stay(x:ObjOk P w H h a o)(k:∀b u,(b=a\/H b=some (.own a))->h.get? b=some u->h'.get? b=some u)
  (E:∀b,H b=some (.own a)->H' b=some (.own a)) (I:∀b xs,H b=some (.tup xs)->H' b=some (.tup xs)):ObjOk P w H' h' a o:=by
 induction o with
 |lst xs=>obtain⟨z,j,n,r,e⟩:=x;exact⟨z,j,n,r,k _ _ (.inl rfl) e⟩
 |tup xs=>obtain⟨z,j,r,ob,e,c⟩:=x;exact⟨z,j,r,ob,k _ _ (.inl rfl) e,c⟩
 |dK s=>obtain⟨z,y,B,r,ob,g,i,e,c⟩:=x;exact⟨z,y,B,r,ob,g,i,k _ _ (.inl rfl) e,c⟩
 |dT s=>
  obtain⟨z,y,xs,r,ob,g,i,e,c⟩:=x;exact⟨z,y,xs,r,ob,g,i,k _ _ (.inl rfl) e,c⟩
 |set S n=>obtain⟨ob,g,i,t,e,c⟩:=x;exact⟨ob,g,i,t,k _ _ (.inl rfl) e,c⟩
 |ins C L fs=>
  obtain⟨d,z,ne,e,m,⟨l,g,i,F,c⟩,r⟩:=x;exact⟨E _ d,z,ne,k _ _ (.inl rfl) e,m,⟨l,g,i,k _ _ (.inr d) F,c⟩,r⟩
 |own y=>obtain⟨ob,e⟩:=x;exact⟨ob,k _ _ (.inl rfl) e⟩
 |xd fs=>obtain⟨m,⟨l,g,i,e,c⟩,r⟩:=x;exact⟨m,⟨l,g,i,k _ _ (.inl rfl) e,c⟩,r⟩
 |rng lo J=>obtain⟨t,u,v,e⟩:=x;exact⟨t,u,v,k _ _ (.inl rfl) e⟩
 |frz ob u D=>obtain⟨e,q⟩:=x;exact⟨k _ _ (.inl rfl) e,D q⟩
 |tbl A=>
  have e:h.get? a=some { cls:=.none,data:=.fields A }:=x;show h'.get? a=some { cls:=.none,data:=.fields A };exact k a _ (.inl rfl) e
 |met f y=>
  have e:h.get? a=some (Li (.ref f) (.ref y)):=x;show h'.get? a=some (Li (.ref f) (.ref y));exact k a _ (.inl rfl) e
 |ext G=>obtain⟨p,⟨o,e⟩,st⟩:=x;exact⟨st _ _ p fun o q=>k _ _ (.inl rfl) q,⟨o,k _ _ (.inl rfl) e⟩,st⟩
theorem HOk.lt(x:HOk P w H h)(e:H a=some o):a<h.objs.size:=(x a o e).lt
theorem HOk.fresh(x:HOk P w H h)(e:h.objs.size<=a):H a=none:=by
 cases q:H a with
 |none=>rfl
 |some u=>exact absurd (Nk (x.lt q) e) (Et _)
theorem HOk.kept(x:HOk P w H h)(k:∀b u,h.get? b=some u->h'.get? b=some u):HOk P w H h':=fun a o e=>
 (x a o e).stay (fun b u _ q=>k b u q) (fun _ q=>q) fun _ _ q=>q
theorem HOk.laid(x:HOk P w H h)(k:∀b u,h.get? b=some u->h'.get? b=some u)(g:h.objs.size<=a)(new:ObjOk P w (upd H a o) h' a o):HOk P w (upd H a o) h':=fun b u e=>by
 have d:=x.fresh g
 by_cases f:b=a
 ·subst f;rw[JZ]at e;cases e;exact new
 ·rw[Qy f]at e;exact(x b u e).stay (fun c v _ q=>k c v q) (fun c q=>by rw[Qy (J7 q d)];exact q) fun c i q=>by rw[Qy (J7 q d)];exact q
end
def Rd(H:Hp)(a:Addr)(u:HO):Prop:=H a=some u\/∃o,H a=some (.frz o u)
theorem Rd.ok{P:Program}{w:World}{H:Hp}{h:Heap}{a:Addr}{u:HO}(r:Rd H a u)(x:HOk P w H h):ObjOk P w H h a u:=by
 rcases r with r|⟨o,r⟩
 ·exact x a u r
 ·obtain⟨_,q⟩:=x a _ r;exact q
noncomputable def Mut:Option HO->Prop
 |some (.lst _)=>True
 |some (.dK _)=>True
 |some (.dT _)=>True
 |some (.set _ _)=>True
 |some (.ins _ _ _)=>True
 |some (.ext _)=>True
 |_=>False
section
variable{P:Program}{w:World}{H:Hp}{h h':Heap}{x e:Addr}{o':HO}
theorem HOk.write(ok:HOk P w H h)(i:Mut (H x))(o:e=x\/H e=some (.own x))(k:∀b u,b≠e->h.get? b=some u->h'.get? b=some u)(m:∃u,h'.get? e=some u)
  (new:ObjOk P w (upd H x o') h' x o'):HOk P w (upd H x o') h':=fun b u q=>by
 have d:∀c y,H c=some (.own y)->c≠x:=fun c y r z=>by subst z;rw[r]at i;exact i
 have f:∀c g,H c=some (.tup g)->c≠x:=fun c g r z=>by subst z;rw[r]at i;exact i
 by_cases l:b=x
 ·subst l;rw[JZ]at q;cases q;exact new
 ·rw[Qy l]at q
  by_cases a:b=e
  ·have n:H b=some (.own x):=by
    rcases o with z|z
    ·exact absurd (a.trans z) l
    ·rw[a];exact z
   rw[q]at n;cases n;obtain⟨v,p⟩:=m;exact⟨v,by rw[a];exact p⟩
  ·refine(ok b u q).stay (fun c v j r=>k c v ?_ r) (fun c r=>by rw[Qy (d c b r)];exact r) fun c g r=>by rw[Qy (f c g r)];exact r
   rcases j with rfl|j
   ·exact a
   ·rintro rfl
    rcases o with z|z
    ·exact d c b j z
    ·rw[j]at z;cases z;exact l rfl
end
structure Un(fs ex:List Addr)(H H':Hp)(h h':Heap):Prop where
 keep:∀b o,h.get? b=some o->H b=none->b∉fs->b∉ex->h'.get? b=some o
 slot:∀b o,h.get? b=some o->H b=none->b∈fs->b∉ex->∃sl,h'.get? b=some { o with slots:=sl }
 free:∀b o,h.get? b=some o->H b=none->b∉ex->H' b=none
 there:∀b o,h.get? b=some o->b∉ex->∃o',h'.get? b=some o'
 tups:∀b xs,H b=some (.tup xs)->H' b=some (.tup xs)
 frzs:∀b o u,H b=some (.frz o u)->H' b=some (.frz o u)
 tbls:∀b ps,H b=some (.tbl ps)->∃more,H' b=some (.tbl (ps++more))
section
variable{fs fs' ex ex':List Addr}{H H1 H2:Hp}{h h1 h2 h':Heap}{a x e:Addr}{o:HO}
theorem Un.any(u:Un fs ex H H1 h h1){b:Addr}{ob:Obj}(q:h.get? b=some ob)(n:H b=none)(c:b∉ex):∃f,h1.get? b=some { ob with slots:=f }:=by
 by_cases d:b∈fs
 ·exact u.slot b ob q n d c
 ·exact⟨ob.slots,u.keep b ob q n d c⟩
theorem Un.kept(k:∀b u,h.get? b=some u->h'.get? b=some u):Un fs ex H H h h':=
 ⟨fun b ob q _ _ _=>k b ob q,fun b ob q _ _ _=>⟨ob.slots,k b ob q⟩,fun _ _ _ n _=>n,fun b ob q _=>⟨ob,k b ob q⟩,fun _ _ q=>q,fun _ _ _ q=>q,fun _ c q=>⟨#[],by rw[q];simp⟩⟩
theorem Un.refl:Un fs ex H H h h:=Un.kept fun _ _ q=>q
theorem Un.laid(k:∀b u,h.get? b=some u->h'.get? b=some u)(f:h.objs.size<=a)(c:H a=none):Un fs ex H (upd H a o) h h' where
 keep:=fun b u q _ _ _=>k b u q
 slot:=fun b u q _ _ _=>⟨u.slots,k b u q⟩
 free:=fun b u q n _=>by rw[Qy (NG (Nk (ND q) f))];exact n
 there:=fun b u q _=>⟨u,k b u q⟩
 tups:=fun b d q=>by rw[Qy (J7 q c)];exact q
 frzs:=fun b u d q=>by rw[Qy (J7 q c)];exact q
 tbls:=fun b g q=>⟨#[],by rw[Qy (J7 q c),q];simp⟩
theorem Un.write(d:Mut (H x))(m:e=x\/H e=some (.own x))(k:∀b u,b≠e->h.get? b=some u->h'.get? b=some u)(g:∃u,h'.get? e=some u):Un fs ex H (upd H x o) h h':=by
 have i:∀b,H b=none->b≠x:=fun b n z=>by subst z;rw[n]at d;exact d
 have j:∀b,H b=none->b≠e:=fun b n z=>by
  subst z
  rcases m with r|r
  ·exact i b n r
  ·rw[n]at r;cases r
 have f:∀b u,H b=some u->¬Mut (some u)->b≠x:=fun b u q nm z=>by subst z;rw[q]at d;exact nm d
 refine⟨fun b u q n _ _=>k b u (j b n) q,fun b u q n _ _=>⟨u.slots,k b u (j b n) q⟩,fun b u q n _=>by rw[Qy (i b n)];exact n,fun b u q _=>?_,
  fun b l q=>by rw[Qy (f b _ q fun z=>z)];exact q,fun b u l q=>by rw[Qy (f b _ q fun z=>z)];exact q,fun b p q=>⟨#[],by rw[Qy (f b _ q fun z=>z),q];simp⟩⟩
 by_cases c:b=e
 ·subst c;exact g
 ·exact⟨u,k b u c q⟩
end
noncomputable def trk(h:Heap)(H:Hp):List Addr:=(List.range h.objs.size).filter fun a=>(H a).isSome
def Qg2(h:Heap)(H:Hp):Heap:=PySem.W.hideAll h (trk h H)
theorem Qer(h:Heap)(H:Hp):(Qg2 h H).objs.size=h.objs.size:=PySem.W.hideAll_size _ _
theorem Qg1{h:Heap}{H:Hp}{b:Addr}{o:Obj}(e:h.get? b=some o)(n:H b=none):(Qg2 h H).get? b=some o:=
 PySem.W.hideAll_get _ e fun a=>by
  have q:(H b).isSome=true:=(Ft.mp a).2;rw[n]at q;simp at q
theorem Qiu{h:Heap}{H:Hp}{b:Addr}{o:Obj}(e:(Qg2 h H).get? b=some o):h.get? b=some o/\H b=none:=by
 have a:h.get? b=some o:=PySem.W.of_hideAll (trk h H) e;refine⟨a,?_⟩;cases q:H b with
 |none=>rfl
 |some x=>
  have c:b∈trk h H:=Ft.mpr ⟨Ez.mpr (ND a),by simp[q]⟩;have z:(Qg2 h H).get? b=none:=PySem.W.hideAll_none (trk h H) c;rw[z]at e;cases e
structure Mod(K:Ng)(mg:Str->Option Value)(base:Heap):Prop where
 kin:K.In base
 glob:base.Ns mainGlobals mg
 blt:∃mb,base.Ns builtinsNs mb/\∀x:Str,x≠"__name__"->mb x=bootBuiltins x
 nolimit:base.NoLimit
structure Cx where
 prog:Program
 w:World
 K:Ng
 mg:Str->Option Value
 base:Heap
 A:Around
 N:List Str
 s₀:Shared
 H₀:Hp
 env:Env
 outer:List Env
 stack:List Env
 ex:List Addr
 fn:Str->Bool
 calm:Bool
 pn:List (Addr×Obj)
 xe:Value->Shared->Prop
noncomputable def frs(l:List Env):List Addr:=l.filterMap (·.frame)
abbrev Cx.fs(X:Cx):List Addr:=frs X.outer
def Vis(a:Scope)(x:Str):Prop:=a.names.lookup x=some .local\/a.names.lookup x=some .cell\/a.names.lookup x=some .free
def Loc(a:Scope)(x:Str):Prop:=a.names.lookup x=some .local\/a.names.lookup x=some .cell
def Qp3(env:Env)(h:Heap)(m:Str->Option Value)(x:Str)(u:Value):Prop:=
 (env.kindOf x=some .local/\m x=some u)\/((env.kindOf x=some .cell\/env.kindOf x=some .free)/\∃c,env.cells.lookup x=some c/\h.IsCell c (some u))
structure Cx.Ok(X:Cx):Prop where
 mod:Mod X.K X.mg X.base
 kind:X.env.scope.kind=.function
 glob:X.env.globals=mainGlobals
 blt:X.env.builtins=builtinsNs
 above:X.s₀.heap.objs.size<=X.env.locals
 inj:∀x y c,X.env.cells.lookup x=some c->X.env.cells.lookup y=some c->x=y
 has:∀x,(X.env.kindOf x=some .cell\/X.env.kindOf x=some .free)->∃c,X.env.cells.lookup x=some c
 cab:∀x c,X.fn x=true->X.env.cells.lookup x=some c->X.s₀.heap.objs.size<=c
 hd:X.calm=true->X.A.handled=none
 frames:X.A.frames=some X.stack
 stk:X.stack=X.outer\/(X.stack=X.env::X.outer/\X.env.frame=some X.env.locals)
 exf:∀b∈X.ex,b≠X.env.locals/\∀x c,X.env.cells.lookup x=some c->c≠b
 bs:∀b o,X.base.get? b=some o->X.s₀.heap.get? b=some o/\X.H₀ b=none
 bsz:X.base.objs.size<=X.s₀.heap.objs.size
 noex:∀b o,X.base.get? b=some o->b∉X.ex
 exfs:∀b∈X.ex,b∉X.fs
 funs:X.s₀.heap.FunFrames X.base X.outer
 frf:∀b∈X.fs,X.H₀ b=none
structure Inv(X:Cx)(pins:List (Addr×Obj))(σ:List (Option V))(H:Hp)(s:Shared):Prop where
 ok:X.Ok
 os:s.os=X.s₀.os
 bare:AllBare s.gens
 base:Un X.fs X.ex X.H₀ H X.s₀.heap s.heap
 loc:∃m,s.heap.Ns X.env.locals m/\∀(i:Nat) (x:Str) (v:V),X.N[i]?=some x->σ[i]?=some (some v)->Vis X.env.scope x->∃u,RelV v u/\Qp3 X.env s.heap m x u
 cell:∀x c,X.env.cells.lookup x=some c->∃v,s.heap.IsCell c v
 free:H X.env.locals=none
 freeC:∀x c,X.env.cells.lookup x=some c->H c=none
 pin:∀p∈X.pn++pins,s.heap.get? p.1=some p.2/\H p.1=none/\p.1≠X.env.locals/\p.1∉X.fs/\∀v,p.2.data≠.cell v
 hok:HOk X.prog X.w H s.heap
 len:σ.length=X.N.length
section
variable{X:Cx}{pins:List (Addr×Obj)}{σ:List (Option V)}{H H':Hp}{s:Shared}{h':Heap}
theorem Cx.Ok.nofr(ok:X.Ok){b:Addr}{o:Obj}(e:X.base.get? b=some o):b∉X.fs:=fun a=>by
 have:=(ok.funs.mem a).1;rw[e]at this;cases this
theorem Inv.bs(I:Inv X pins σ H s):∀b o,X.base.get? b=some o->s.heap.get? b=some o/\H b=none:=fun b o e=>
 ⟨I.base.keep b o (I.ok.bs b o e).1 (I.ok.bs b o e).2 (I.ok.nofr e) (I.ok.noex b o e),I.base.free b o (I.ok.bs b o e).1 (I.ok.bs b o e).2 (I.ok.noex b o e)⟩
theorem Inv.bk(I:Inv X pins σ H s):∀b o,X.base.get? b=some o->s.heap.get? b=some o:=fun b o e=>(I.bs b o e).1
theorem Inv.mod(I:Inv X pins σ H s):Mod X.K X.mg X.base:=I.ok.mod
theorem Inv.kIn(I:Inv X pins σ H s):X.K.In s.heap:=I.ok.mod.kin.keeps I.bk
theorem Inv.lt(I:Inv X pins σ H s):X.env.locals<s.heap.objs.size:=let⟨_,a,_⟩:=I.loc;a.lt
theorem Inv.sz(I:Inv X pins σ H s):X.s₀.heap.objs.size<=s.heap.objs.size:=Nn I.ok.above (Nr I.lt)
theorem Inv.nofs(I:Inv X pins σ H s){a:Addr}(h:s.heap.objs.size<=a):a∉X.fs:=fun c=>by
 obtain⟨_,o,b,_⟩:=I.ok.funs.mem c;exact absurd (Nk (ND b) (Nn I.sz h)) (Et _)
theorem Inv.cne(I:Inv X pins σ H s):∀x c,X.env.cells.lookup x=some c->c≠X.env.locals:=fun x c e z=>by
 obtain⟨v,o,d,hd⟩:=I.cell x c e;obtain⟨m,⟨f,g,h,a,b,_⟩,_⟩:=I.loc;rw[z,a]at d;cases d;rw[b]at hd;cases hd
theorem Inv.funs(I:Inv X pins σ H s):s.heap.FunFrames X.base X.outer:=by
 have all:∀(l:List Env),(∀b∈frs l,b∈X.fs)->X.s₀.heap.FunFrames X.base l->s.heap.FunFrames X.base l:=by
  intro l
  induction l with
  |nil=>intro _ _;trivial
  |cons n r g=>
   intro f j;obtain⟨m,⟨L,o,a,i,h,hd⟩,hr⟩:=j;have d:L∈X.fs:=f L (by unfold frs;rw[IM,a];exact NA);obtain⟨p,e⟩:=I.base.slot L o h (I.ok.frf L d) d fun z=>I.ok.exfs L z d;exact⟨m,⟨L,_,a,i,e,hd⟩,g (fun b c=>f b (by unfold frs;rw[IM,a];exact Ny _ c)) hr⟩
 exact all X.outer (fun _ c=>c) I.ok.funs
theorem Inv.stack(I:Inv X pins σ H s):s.heap.FunFrames X.base X.stack:=by
 rcases I.ok.stk with e|⟨e,b⟩
 ·rw[e];exact I.funs
 ·rw[e];obtain⟨m,a,_⟩:=I.loc;refine .cons (by rw[I.ok.kind];decide) b a ?_ I.funs;exact Heap.get?_none_of_le (Nn I.ok.bsz I.ok.above)
theorem Inv.stkSub(I:Inv X pins σ H s):∀b∈frs X.stack,b∈X.env.locals::X.fs:=fun b a=>by
 rcases I.ok.stk with e|⟨e,c⟩
 ·rw[e]at a;exact Ny _ a
 ·rw[e]at a;unfold frs at a;rw[IM,c]at a;exact a
theorem Inv.stkFree(I:Inv X pins σ H s):∀b∈frs X.stack,H b=none:=fun b a=>by
 rcases NE.mp (I.stkSub b a)with e|a
 ·rw[e];exact I.free
 ·obtain⟨_,o,c,_⟩:=I.ok.funs.mem a;exact I.base.free b o c (I.ok.frf b a) fun z=>I.ok.exfs b z a
theorem Inv.step{g':Array GenState}{t':Nat}{d':Drawn}{ch:List Addr}(I:Inv X pins σ H s)
  (g:∀b∈ch,(b∈X.ex\/X.s₀.heap.objs.size<=b)/\b≠X.env.locals/\(∀x c,X.env.cells.lookup x=some c->c≠b)/\∀p∈X.pn++pins,p.1≠b)
  (keep:∀b o,b≠X.env.locals->b∉X.fs->b∉ch->s.heap.get? b=some o->H b=none->h'.get? b=some o)
  (slot:∀b o,b≠X.env.locals->b∈X.fs->b∉ch->s.heap.get? b=some o->H b=none->∃L,h'.get? b=some { o with slots:=L }) (free:∀b o,b∉ch->s.heap.get? b=some o->H b=none->H' b=none)
  (there:∀b o,b∉ch->s.heap.get? b=some o->∃D,h'.get? b=some D)
  (B:∀b xs,H b=some (.tup xs)->H' b=some (.tup xs)) (F:∀b o u,H b=some (.frz o u)->H' b=some (.frz o u)) (C:∀b ps,H b=some (.tbl ps)->∃more,H' b=some (.tbl (ps++more)))
  (ns:∀m,s.heap.Ns X.env.locals m->h'.Ns X.env.locals m) (M:HOk X.prog X.w H' h') (U:AllBare g') :
  Inv X pins σ H' { s with heap:=h',gens:=g',drawn:=d',toks:=t' }:=by
 have E:∀b o,X.s₀.heap.get? b=some o->b≠X.env.locals:=fun b o e=>NG (Nk (ND e) I.ok.above)
 have j:∀b o,X.s₀.heap.get? b=some o->b∉X.ex->b∉ch:=fun b o e a y=>by
  rcases(g b y).1 with z|z
  ·exact a z
  ·exact absurd (Nk (ND e) z) (Et _)
 have h:∀x c,X.env.cells.lookup x=some c->∀v,s.heap.IsCell c v->h'.IsCell c v:=fun x c e v ⟨o,A,hd⟩=>by
  have f:c∉ch:=fun z=>(g c z).2.2.1 x c e rfl
  by_cases P:c∈X.fs
  ·obtain⟨L,q⟩:=slot c o (I.cne x c e) P f A (I.freeC x c e);exact⟨_,q,hd⟩
  ·exact⟨o,keep c o (I.cne x c e) P f A (I.freeC x c e),hd⟩
 refine⟨I.ok,I.os,U,⟨fun b o e n y a=>?_,fun b o e n y a=>?_,fun b o e n a=>?_,fun b o e a=>?_,fun b xs e=>B b xs (I.base.tups b xs e),fun b o xs e=>F b o xs (I.base.frzs b o xs e),fun b ps e=>?_⟩,?_,fun x c e=>?_,?_,fun x c e=>?_,fun p O=>?_,M,I.len⟩
 ·exact keep b o (E b o e) y (j b o e a) (I.base.keep b o e n y a) (I.base.free b o e n a)
 ·obtain⟨L,t⟩:=I.base.slot b o e n y a;obtain⟨J,G⟩:=slot b _ (E b o e) y (j b o e a) t (I.base.free b o e n a);exact⟨J,G⟩
 ·obtain⟨D,t⟩:=I.base.there b o e a;exact free b D (j b o e a) t (I.base.free b o e n a)
 ·obtain⟨D,t⟩:=I.base.there b o e a;exact there b D (j b o e a) t
 ·obtain⟨R,t⟩:=I.base.tbls b ps e;obtain⟨Q,G⟩:=C b _ t;exact⟨R++Q,by rw[G,Array.append_assoc]⟩
 ·obtain⟨m,S,T⟩:=I.loc;refine⟨m,ns m S,fun i x v t G Y=>?_⟩;obtain⟨u,r,l⟩:=T i x v t G Y;refine⟨u,r,?_⟩
  rcases l with l|⟨k,c,e,z⟩
  ·exact .inl l
  ·exact .inr ⟨k,c,e,h x c e _ z⟩
 ·obtain⟨v,z⟩:=I.cell x c e;exact⟨v,h x c e v z⟩
 ·obtain⟨m,⟨o,_,_,A,_⟩,_⟩:=I.loc;exact free _ o (fun z=>(g _ z).2.1 rfl) A I.free
 ·obtain⟨v,o,A,hd⟩:=I.cell x c e;exact free c o (fun z=>(g c z).2.2.1 x c e rfl) A (I.freeC x c e)
 ·obtain⟨e,n,ne,N,d⟩:=I.pin p O;have f:p.1∉ch:=fun z=>(g p.1 z).2.2.2 p O rfl;exact⟨keep p.1 p.2 ne N f e n,free p.1 p.2 f e n,ne,N,d⟩
theorem Inv.un{t':Nat}(I:Inv X pins σ H s)(u:Un X.fs [] H H' s.heap h')(c:HOk X.prog X.w H' h'):Inv X pins σ H' { s with heap:=h',toks:=t' }:=by
 obtain⟨m,⟨o,x,y,h,r⟩,_⟩:=id I.loc;obtain⟨p,l⟩:=u.any h I.free (by simp)
 exact I.step (g':=s.gens) (d':=s.drawn) (ch:=[]) (fun _ z=>nomatch z) (fun b o _ d _ e n=>u.keep b o e n d (by simp)) (fun b o _ d _ e n=>u.slot b o e n d (by simp)) (fun b o _ e n=>u.free b o e n (by simp)) (fun b o _ e=>u.there b o e (by simp)) u.tups u.frzs u.tbls (fun t j=>by
  obtain⟨q,f,g,a,i⟩:=j;rw[h]at a;cases a
  exact⟨_,f,g,l,i⟩) c I.bare
theorem Inv.call{g':Array GenState}{t':Nat}{d':Drawn}{ch:List Addr}(I:Inv X pins σ H s)(u:Un (frs X.stack) ch H H' s.heap h')(g:HOk X.prog X.w H' h')(v:AllBare g')
  (f:∀b∈ch,(b∈X.ex\/X.s₀.heap.objs.size<=b)/\b≠X.env.locals/\(∀x c,X.env.cells.lookup x=some c->c≠b)/\∀p∈X.pn++pins,p.1≠b) :
  Inv X pins σ H' { s with heap:=h',gens:=g',drawn:=d',toks:=t' }:=by
 obtain⟨m,⟨o,D,E,l,r⟩,_⟩:=id I.loc;obtain⟨A,h⟩:=u.any l I.free fun z=>(f _ z).2.1 rfl
 exact I.step (ch:=ch) f (fun b o h y a e n=>u.keep b o e n (fun z=>(NE.mp (I.stkSub b z)).elim h y) a) (fun b o _ _ a e n=>u.any e n a) (fun b o a e n=>u.free b o e n a) (fun b o a e=>u.there b o e a) u.tups u.frzs u.tbls (fun C t=>by
  obtain⟨B,i,j,d,q⟩:=t;rw[l]at d;cases d
  exact⟨_,i,j,h,q⟩) g v
theorem Inv.turned{t':Nat}{it:Addr}(I:Inv X pins σ H s)(k:∀b o,b≠it->s.heap.get? b=some o->h'.get? b=some o)(h:H it=none)(f:it≠X.env.locals)
  (t:it∈X.ex\/X.s₀.heap.objs.size<=it) (h2:∀x c,X.env.cells.lookup x=some c->c≠it) (l:∀p∈X.pn++pins,p.1≠it):Inv X pins σ H { s with heap:=h',toks:=t' }:=by
 have d:∀b u,H b=some u->b≠it:=fun b u e z=>by rw[z,h]at e;cases e
 refine I.step (g':=s.gens) (d':=s.drawn) (ch:=[it]) (fun b j=>?_) (fun b o _ _ a e _=>k b o (fun z=>a (by simp[z])) e) (fun b o _ _ a e _=>⟨o.slots,k b o (fun z=>a (by simp[z])) e⟩) (fun _ _ _ _ n=>n)
  (fun b o a e=>⟨o,k b o (fun z=>a (by simp[z])) e⟩) (fun _ _ e=>e) (fun _ _ _ e=>e) (fun b A e=>⟨#[],by rw[e];simp⟩) (fun m i=>?_) (fun b u e=>?_) I.bare
 ·have e:b=it:=by simpa using j
  subst e;exact⟨t,f,h2,l⟩
 ·obtain⟨o,w,y,g,r⟩:=i;exact⟨o,w,y,k _ o (EN f) g,r⟩
 ·refine(I.hok b u e).stay (fun c v a q=>k c v ?_ q) (fun _ q=>q) fun _ _ q=>q
  rcases a with z|z
  ·rw[z];exact d b u e
  ·exact d c _ z
theorem Inv.tok(I:Inv X pins σ H s)(t:Nat):Inv X pins σ H { s with toks:=t }:=I.un (h':=s.heap) (t':=t) Un.refl I.hok
theorem Inv.kept{t':Nat}(I:Inv X pins σ H s)(k:∀b u,s.heap.get? b=some u->h'.get? b=some u):Inv X pins σ H { s with heap:=h',toks:=t' }:=I.un (Un.kept k) (I.hok.kept k)
theorem Inv.laid{a:Addr}{o:HO}{t':Nat}(I:Inv X pins σ H s)(k:∀b u,s.heap.get? b=some u->h'.get? b=some u)(c:s.heap.objs.size<=a)(new:ObjOk X.prog X.w (upd H a o) h' a o) :
  Inv X pins σ (upd H a o) { s with heap:=h',toks:=t' }:=I.un (Un.laid k c (I.hok.fresh c)) (I.hok.laid k c new)
theorem Inv.write{x e:Addr}{o:HO}{t':Nat}(I:Inv X pins σ H s)(c:Mut (H x))(d:e=x\/H e=some (.own x))(k:∀b u,b≠e->s.heap.get? b=some u->h'.get? b=some u)(a:∃u,h'.get? e=some u)
  (new:ObjOk X.prog X.w (upd H x o) h' x o):Inv X pins σ (upd H x o) { s with heap:=h',toks:=t' }:=I.un (Un.write c d k a) (I.hok.write c d k a new)
theorem Inv.pins_of{a:List (Addr×Obj)}(I:Inv X pins σ H s)(h:∀p∈a,s.heap.get? p.1=some p.2/\H p.1=none/\p.1≠X.env.locals/\p.1∉X.fs/\∀v,p.2.data≠.cell v):Inv X a σ H s:=
 ⟨I.ok,I.os,I.bare,I.base,I.loc,I.cell,I.free,I.freeC,fun p b=>(NT.mp b).elim (fun z=>I.pin p (El _ z)) (h p),I.hok,I.len⟩
theorem Qcm{N:List Str}(hN:N.Nodup){i j:Nat}{x:Str}(a:N[i]?=some x)(b:N[j]?=some x):i=j:=by
 obtain⟨f,d⟩:=Nf.mp a;obtain⟨e,c⟩:=Nf.mp b;exact(Ic hN).mp (d.trans c.symm)
theorem GQ{M:Model}{A:Around}{E:Value->Shared->Prop}{i:Nat}{x:Str}{v:V}{u:Value}{Q:Unit->Shared->Prop}(I:Inv X pins σ H s)(hN:X.N.Nodup)(S:X.N[i]?=some x)(B:Loc X.env.scope x)(r:RelV v u)
  (h:∀s',Inv X pins (σ.set i (some v)) H s'->(∃a,Heap.SameBut a s.heap s'.heap/\(a=X.env.locals\/X.env.cells.lookup x=some a))->Q () s') (hf:X.fn x=true\/X.env.scope.names.lookup x=some .local:=by first|exact .inl rfl|exact .inr rfl|assumption):wpAny M A (storeName X.env x u) Q E s:=by
 obtain⟨m,hn,hl⟩:=id I.loc;have T:(X.env.scope.kind==.class ||(X.env.scope.kind==.module&&X.env.locals != X.env.globals))=false:=by rw[I.ok.kind];rfl
 have G:i<σ.length:=by rw[I.len];exact(Nf.mp S).1
 have cne:=I.cne
 have g:∀{a:Addr} {h':Heap},(∃o,s.heap.get? a=some o/\H a=none)->Heap.SameBut a s.heap h'->HOk X.prog X.w H h':=fun {a h'} ha f b ob e=>by
  obtain⟨_,_,C⟩:=ha;refine(I.hok b ob e).stay (fun c Z t q=>(f.2 c ?_).trans q) (fun _ q=>q) fun _ _ q=>q
  rintro rfl
  rcases t with rfl|t
  ·rw[C]at e;cases e
  ·rw[C]at t;cases t
 rcases B with F|F
 ·refine wpAny_storeName_local F hn (fun h' ab f=>?_) T;obtain⟨oL,_,_,aa,_⟩:=id hn;refine h _ ⟨I.ok,I.os,I.bare,⟨fun b o e n O B=>?_,fun b o e n O B=>?_,I.base.free,fun b o e B=>?_,I.base.tups,I.base.frzs,I.base.tbls⟩,⟨_,ab,fun j y v' l D e3=>?_⟩,fun y c e=>?_,I.free,I.freeC,fun p hp=>?_,g ⟨oL,aa,I.free⟩ f,by simpa using I.len⟩ ⟨_,f,.inl rfl⟩
  ·exact(f.2 b (NG (Nk (ND e) I.ok.above))).trans (I.base.keep b o e n O B)
  ·obtain⟨sl,l⟩:=I.base.slot b o e n O B;exact⟨sl,(f.2 b (NG (Nk (ND e) I.ok.above))).trans l⟩
  ·obtain⟨o',l⟩:=I.base.there b o e B;exact⟨o',(f.2 b (NG (Nk (ND e) I.ok.above))).trans l⟩
  ·by_cases J:j=i
   ·subst J;rw[S]at l;cases l;rw[E4 G]at D;cases D;exact⟨u,r,.inl ⟨F,by simp⟩⟩
   ·rw[Da (EN J)]at D;obtain⟨u',r',q⟩:=hl j y v' l D e3;refine⟨u',r',?_⟩
    rcases q with⟨k,e⟩|⟨k,c,e,z⟩
    ·refine .inl ⟨k,?_⟩;have:y≠x:=fun e=>J (Qcm hN l (e▸S));simp[this,e]
    ·exact .inr ⟨k,c,e,z.sameBut f (cne y c e)⟩
  ·obtain⟨Z,z⟩:=I.cell y c e;exact⟨Z,z.sameBut f (cne y c e)⟩
  ·obtain⟨e,n,ne,nf,d⟩:=I.pin p hp;exact⟨(f.2 p.1 ne).trans e,n,ne,nf,d⟩
 ·have L:X.fn x=true:=by
   rcases hf with z|z
   ·exact z
   ·rw[z]at F;cases F
  obtain⟨c,t⟩:=I.ok.has x (.inl F);obtain⟨Z,z⟩:=I.cell x c t;refine wpAny_storeName_cell I.ok.kind F t z (fun h' Y f=>?_);obtain⟨oc,R,P⟩:=id z;refine h { s with heap:=h' } ⟨I.ok,I.os,I.bare,⟨fun b o e n O B=>?_,fun b o e n O B=>?_,I.base.free,fun b o e B=>?_,I.base.tups,I.base.frzs,I.base.tbls⟩,⟨m,hn.sameBut f (EN (cne x c t)),fun j y v' l D e3=>?_⟩,fun y c' e=>?_,I.free,I.freeC,fun p hp=>?_,g ⟨oc,R,I.freeC x c t⟩ f,by simpa using I.len⟩ ⟨c,f,.inr t⟩
  ·exact(f.2 b (NG (Nk (ND e) (I.ok.cab x c L t)))).trans (I.base.keep b o e n O B)
  ·obtain⟨sl,l⟩:=I.base.slot b o e n O B;exact⟨sl,(f.2 b (NG (Nk (ND e) (I.ok.cab x c L t)))).trans l⟩
  ·obtain⟨o',l⟩:=I.base.there b o e B;exact⟨o',(f.2 b (NG (Nk (ND e) (I.ok.cab x c L t)))).trans l⟩
  ·by_cases J:j=i
   ·subst J;rw[S]at l;cases l;rw[E4 G]at D;cases D;exact⟨u,r,.inr ⟨.inl F,c,t,Y⟩⟩
   ·rw[Da (EN J)]at D;obtain⟨u',r',q⟩:=hl j y v' l D e3;refine⟨u',r',?_⟩
    rcases q with q|⟨k,c',e,z'⟩
    ·exact .inl q
    ·refine .inr ⟨k,c',e,z'.sameBut f ?_⟩
     rintro rfl
     exact J (Qcm hN l (I.ok.inj _ _ _ e t▸S))
  ·by_cases U:c'=c
   ·subst U;exact⟨_,Y⟩
   ·obtain⟨w2,z2⟩:=I.cell y c' e;exact⟨w2,z2.sameBut f U⟩
  ·obtain⟨e,n,ne,nf,d⟩:=I.pin p hp;refine⟨(f.2 p.1 ?_).trans e,n,ne,nf,d⟩;intro q;rw[q,R]at e;have q':oc=p.2:=NS e;exact d Z (by rw[<-q'];exact P)
theorem Gx{M:Model}{A:Around}{E:Value->Shared->Prop}{i:Nat}{x:Str}{v:V}{u:Value}{Q:Unit->Shared->Prop}(I:Inv X pins σ H s)(hN:X.N.Nodup)(c:X.N[i]?=some x)(b:Loc X.env.scope x)(r:RelV v u)
  (h:∀a,Inv X pins (σ.set i (some v)) H a->Q () a) (d:X.fn x=true\/X.env.scope.names.lookup x=some .local:=by first|exact .inl rfl|exact .inr rfl|assumption):wpAny M A (storeName X.env x u) Q E s:=
 GQ I hN c b r (fun a e _=>h a e) d
theorem Inv.call'{a:Shared}{ch:List Addr}(I:Inv X pins σ H s)(l:a.os=s.os)(u:Un (frs X.stack) ch H H' s.heap a.heap)(d:HOk X.prog X.w H' a.heap)(m:AllBare a.gens)
  (f:∀b∈ch,(b∈X.ex\/X.s₀.heap.objs.size<=b)/\b≠X.env.locals/\(∀x c,X.env.cells.lookup x=some c->c≠b)/\∀p∈X.pn++pins,p.1≠b):Inv X pins σ H' a:=by
 obtain⟨h',h,i,g,j⟩:=a;have e:j=s.os:=l;subst e;exact I.call (g':=h) (t':=g) (d':=i) u d m f
end
abbrev XK:=Value->Option Addr->Hp->Prop
noncomputable abbrev St:=List (Option V)
abbrev VK:=V->Hp->Prop
abbrev TE:=St->Hp->VK->Prop
abbrev TT:=St->Hp->(Bool->Hp->Prop)->Prop
abbrev TA:=St->Hp->(List V->Hp->Prop)->Prop
structure Ends where
 nx:St->Hp->Prop
 rt:VK
 bk:St->Hp->Prop:=fun _ _=>False
 ct:St->Hp->Prop:=fun _ _=>False
abbrev TS:=Ends->St->Hp->Prop
def EP(X:Cx)(a:List (Addr×Obj))(σ:St)(Q:VK)(u:Value)(c:Shared):Prop:=∃v b,Inv X a σ b c/\RelV v u/\Q v b
def TP(X:Cx)(a:List (Addr×Obj))(σ:St)(Q:Bool->Hp->Prop)(b:Bool)(d:Shared):Prop:=∃c,Inv X a σ c d/\Q b c
def AP(X:Cx)(a:List (Addr×Obj))(σ:St)(Q:List V->Hp->Prop)(us:List Value)(d:Shared):Prop:=∃b c,Inv X a σ c d/\Vals b us/\Q b c
def SP(X:Cx)(b:List (Addr×Obj))(D:Ends)(f:Flow)(d:Shared):Prop:=
 match f with
 |.next=>∃a c,Inv X b a c d/\D.nx a c
 |.brk=>∃a c,Inv X b a c d/\D.bk a c
 |.cont=>∃a c,Inv X b a c d/\D.ct a c
 |.ret u=>∃v a c,Inv X b a c d/\RelV v u/\D.rt v c
def PE(X:Cx)(e:Expr)(t:TE):Prop:=
 ∀(a:List (Addr×Obj)) (s:Shared) (b:St) (H:Hp) (Q:VK),Inv X a b H s->t b H Q->wpAny (model X.prog X.w) X.A (eval e X.env) (EP X a b Q) X.xe s
def PT(X:Cx)(e:Expr)(t:TT):Prop:=
 ∀(a:List (Addr×Obj)) (s:Shared) (b:St) (H:Hp) (Q:Bool->Hp->Prop),Inv X a b H s->t b H Q->wpAny (model X.prog X.w) X.A (isTrue e X.env (eval e X.env)) (TP X a b Q) X.xe s
def PW(X:Cx)(e:Expr)(t:TT):Prop:=
 ∀(whole:Sem Value) (a:List (Addr×Obj)) (s:Shared) (b:St) (H:Hp) (Q:Bool->Hp->Prop),Inv X a b H s->t b H Q->wpAny (model X.prog X.w) X.A (isTrue e X.env whole) (TP X a b Q) X.xe s
theorem PW.pt{X:Cx}{e:Expr}{t:TT}(h:PW X e t):PT X e t:=h _
def PA(X:Cx)(es:List Expr)(t:TA):Prop:=
 ∀(pos:Pos) (a:List (Addr×Obj)) (s:Shared) (b:St) (H:Hp) (Q:List V->Hp->Prop),Inv X a b H s->t b H Q->wpAny (model X.prog X.w) X.A (spliced (backTo pos (starEach es X.env))) (AP X a b Q) X.xe s
def PS(X:Cx)(st:Stmt)(t:TS):Prop:=
 ∀(a:List (Addr×Obj)) (s:Shared) (b:St) (H:Hp) (D:Ends),Inv X a b H s->t D b H->wpAny (model X.prog X.w) X.A (exec st X.env) (SP X a D) X.xe s
def PSs(X:Cx)(st:List Stmt)(t:TS):Prop:=
 ∀(a:List (Addr×Obj)) (s:Shared) (b:St) (H:Hp) (D:Ends),Inv X a b H s->t D b H->wpAny (model X.prog X.w) X.A (execs st X.env) (SP X a D) X.xe s
theorem thn{b:Type}{t:Sem b}{Q Q':b->Shared->Prop}{M:Model}{A:Around}{E:Value->Shared->Prop}{s:Shared}(h:wpAny M A t Q E s)(c:∀a s,Q a s->Q' a s):wpAny M A t Q' E s:=N0 h c fun _ _ x=>x
section
variable{X:Cx}
theorem bin{a b:Expr}{n m:TE}(C:PE X a n)(B:PE X b m){c:List (Addr×Obj)}{s:Shared}{σ:St}{H:Hp}{R:V->V->Hp->Prop}(I:Inv X c σ H s)(h:n σ H fun x j=>m σ j fun y d=>R x y d)
  {l:Type} {Q:l->Shared->Prop} {f:Value->Value->Sem l}
  (z:∀v u i x y d,Inv X c σ d i->RelV x v->RelV y u->R x y d->wpAny (model X.prog X.w) X.A (f v u) Q X.xe i) :
  wpAny (model X.prog X.w) X.A (eval a X.env) (fun v g=>wpAny (model X.prog X.w) X.A (eval b X.env) (fun u e=>wpAny (model X.prog X.w) X.A (f v u) Q X.xe e) X.xe g) X.xe s:=by
 refine thn (C c s σ H _ I h) fun v o ⟨x,j,I1,q,t⟩=>?_;refine thn (B c o σ j _ I1 t) fun u i ⟨y,d,I2,p,r⟩=>?_;exact z v u i x y d I2 q p r
noncomputable def Qrs(i:Nat):TE:=fun a H Q=>∃v,a[i]?=some (some v)/\Q v H
noncomputable def tC(v:V):TE:=fun _ H Q=>Q v H
theorem Qk1{i:Nat}{x:Str}{pos:Pos}(hN:X.N[i]?=some x)(n:Vis X.env.scope x)(hd:(x==("__debug__":Str))=false:=by decide)(f:(x==("__classdict__":Str))=false:=by decide):PE X (.Name x pos) (Qrs i):=by
 intro d s j H Q I h;obtain⟨v,e,h⟩:=h;obtain⟨m,o,q⟩:=I.loc;obtain⟨u,r,l⟩:=q i x v hN e n;have fin:EP X d j Q u s:=⟨v,H,I,r,h⟩
 rcases l with⟨b,p⟩|⟨b,c,g,a⟩
 ·exact wpAny_Name (Og I.ok.kind b o p fin) hd
 ·rcases b with b|b
  ·exact wpAny_Name (OC I.ok.kind b g a fin) hd
  ·exact wpAny_Name (wpAny_loadName_free I.ok.kind b g a fin f) hd
theorem QkL{i j pos}:PE X (.Constant (.int i) j pos) (tC (.int i)):=fun _ _ _ H _ I h=>wpAny_Constant_int ⟨.int i,H,I.tok _,⟨_,rfl⟩,h⟩
theorem Qou{b j pos}:PE X (.Constant (.bool b) j pos) (tC (.bl b)):=fun _ _ _ H _ I h=>Constant_bool ⟨.bl b,H,I,rfl,h⟩
theorem Ql2{j pos}:PE X (.Constant .none j pos) (tC .non):=fun _ _ _ H _ I h=>Constant_none ⟨.non,H,I,rfl,h⟩
theorem QlP{x j pos}:PE X (.Constant (.str x) j pos) (tC (.str x)):=fun _ _ _ H _ I h=>Calls.Constant_str ⟨.str x,H,I.tok _,⟨_,rfl⟩,h⟩
def Gl(X:Cx)(x:Str):Prop:=X.env.kindOf x=some .globalImplicit
theorem Qe1{E:Value->Shared->Prop}{a:List (Addr×Obj)}{s:Shared}{σ:St}{H:Hp}{x:Str}{u:Value}{pos:Pos}{Q:Value->Shared->Prop}(I:Inv X a σ H s)(c:Gl X x)(b:X.mg x=some u)(h:Q u s)
  (hd:(x==("__debug__":Str))=false:=by decide):wpAny (model X.prog X.w) X.A (eval (.Name x pos) X.env) Q E s:=
 Ld I.ok.kind c (Calls.loadGlobal_global (by rw[I.ok.glob];exact I.mod.glob.keeps I.bk) b h) hd
theorem J9{E:Value->Shared->Prop}{a:List (Addr×Obj)}{s:Shared}{σ:St}{H:Hp}{x:Str}{u:Value}{pos:Pos}{Q:Value->Shared->Prop}(I:Inv X a σ H s)(e:Gl X x)(d:X.mg x=none)(b:bootBuiltins x=some u)(h:Q u s)
  (c:x≠"__name__":=by decide) (hd:(x==("__debug__":Str))=false:=by decide):wpAny (model X.prog X.w) X.A (eval (.Name x pos) X.env) Q E s:=by
 obtain⟨i,g,f⟩:=I.mod.blt;exact Ld I.ok.kind e (Calls.loadGlobal_builtin (by rw[I.ok.glob];exact I.mod.glob.keeps I.bk) d (by rw[I.ok.blt];exact g.keeps I.bk) ((f x c).trans b) h) hd
theorem Qje{x:Str}{v:V}{u:Value}{pos:Pos}(d:Gl X x)(c:X.mg x=none)(a:bootBuiltins x=some u)(r:RelV v u)(b:x≠"__name__":=by decide)(hd:(x==("__debug__":Str))=false:=by decide):PE X (.Name x pos) (tC v):=
 fun _ _ _ H _ I h=>J9 I d c a ⟨v,H,I,r,h⟩ b hd
variable{a b:Expr}{ta tb:TE}{pos:Pos}
variable{tA tB':TT}{rest:List Expr}
noncomputable def Qpu(t u:TT):TT:=fun d H Q=>t d H fun c e=>if c=true then u d e Q else Q false e
noncomputable def tOr(t u:TT):TT:=fun d H Q=>t d H fun c e=>if c=true then Q true e else u d e Q
noncomputable def Qrr(t:TT):TT:=fun d H Q=>t d H fun c e=>Q (!c) e
theorem QiA(g:PT X a tA):PW X (.BoolOp .And [a] pos) tA:=by
 intro i d s f H Q I h;refine isTrue_and (thn (g d s f H Q I h) fun c j e=>?_);cases c with
 |true=>exact isTrue_and_nil e
 |false=>exact e
theorem QkA(g:PT X a tA):PW X (.BoolOp .Or [a] pos) tA:=by
 intro i d s f H Q I h;refine isTrue_or (thn (g d s f H Q I h) fun c j e=>?_);cases c with
 |false=>exact isTrue_or_nil e
 |true=>exact e
theorem Qla(m:PT X a tA)(l:PW X (.BoolOp .And (b::rest) pos) tB'):PW X (.BoolOp .And (a::b::rest) pos) (Qpu tA tB'):=by
 intro i d s e H Q I h;refine isTrue_and (thn (m d s e H _ I h) fun c j ⟨g,I1,f⟩=>?_);cases c with
 |true=>exact l i d j e g Q I1 f
 |false=>exact⟨g,I1,f⟩
theorem Qn1(m:PT X a tA)(l:PW X (.BoolOp .Or (b::rest) pos) tB'):PW X (.BoolOp .Or (a::b::rest) pos) (tOr tA tB'):=by
 intro i d s e H Q I h;refine isTrue_or (thn (m d s e H _ I h) fun c j ⟨g,I1,f⟩=>?_);cases c with
 |true=>exact⟨g,I1,f⟩
 |false=>exact l i d j e g Q I1 f
theorem Qmq(f:PT X a tA):PT X (.UnaryOp .Not a pos) (Qrr tA):=by
 intro d s e H Q I h;exact isTrue_not (f d s e H (fun c g=>Q (!c) g) I h)
noncomputable def QnG(ta tb:TE):TE:=fun d H Q=>ta d H fun x e=>∃c,x=.bl c/\if c=true then tb d e Q else Q (.bl false) e
noncomputable def Qnn(ta:TE):TE:=fun d H Q=>ta d H fun x e=>∃c,x=.bl c/\Q (.bl (!c)) e
theorem Qk2{op}{t:TE}(h:PE X a t):PE X (.BoolOp op [a] pos) t:=fun c s d H Q I hw=>BoolOp_one (h c s d H Q I hw)
theorem Qmv(m:PE X a ta)(l:PE X (.BoolOp .And (b::rest) pos) tb):PE X (.BoolOp .And (a::b::rest) pos) (QnG ta tb):=by
 intro d s f H Q I h;refine BoolOp_and (thn (m d s f H _ I h) fun v i ⟨x,g,I1,j,e⟩=>?_);obtain⟨c,rfl,e⟩:=e;cases j;refine Di ?_;cases c with
 |true=>exact l d i f g Q I1 e
 |false=>exact⟨.bl false,g,I1,rfl,e⟩
theorem QkH(i:PE X a ta):PE X (.UnaryOp .Not a pos) (Qnn ta):=by
 intro d s f H Q I h;refine UnaryOp_ (thn (i d s f H _ I h) fun v l ⟨x,j,I1,g,e⟩=>?_);obtain⟨c,rfl,e⟩:=e;cases g;exact not_of (Di ⟨.bl (!c),j,I1,rfl,e⟩)
noncomputable def tIf(t:TT)(ta tb:TE):TE:=fun d H Q=>t d H fun c e=>if c=true then ta d e Q else tb d e Q
theorem Qgo{c:Expr}(l:PT X c tA)(n:PE X a ta)(m:PE X b tb):PE X (.IfExp c a b pos) (tIf tA ta tb):=by
 intro e s f H Q I h;refine wpAny_IfExp (thn (l e s f H _ I h) fun d g ⟨j,I1,i⟩=>?_);cases d with
 |true=>exact n e g f j Q I1 i
 |false=>exact m e g f j Q I1 i
end
def SqL(K:Ng)(H:Hp)(a:Addr)(xs:List V):Prop:=
 Rd H a (.lst xs) \/
  ∃(o:Obj) (b:Array Value) (n:Nat),K.lookup a=some o/\o.cls=.type "list"/\o.dict=none/\o.data=.seq b n/\b.size<=sizeLine/\Vals xs b.toList
def SqT(K:Ng)(H:Hp)(a:Addr)(xs:List V):Prop:=
 Rd H a (.tup xs) \/
  ∃(o:Obj) (b:Array Value) (n:Nat),K.lookup a=some o/\o.cls=.type "tuple"/\o.data=.seq b n/\b.size<=sizeLine/\Vals xs b.toList
noncomputable def QqG:Value->Option V
 |.none=>some .non
 |.bool b=>some (.bl b)
 |.int i _=>some (.int i)
 |.str x _=>some (.str x)
 |.bytes b _=>some (.byt b)
 |.float b _=>some (.flt b)
 |.ref a=>some (.ref a)
 |.type n=>some (.ty n)
 |_=>none
theorem RelV.abs{x:V}{u:Value}(r:RelV x u):QqG u=some x:=by
 cases x with
 |non=>cases r;rfl
 |bl _=>cases r;rfl
 |int _=>obtain⟨t,rfl⟩:=r;rfl
 |str _=>obtain⟨t,rfl⟩:=r;rfl
 |byt _=>obtain⟨t,rfl⟩:=r;rfl
 |flt _=>obtain⟨t,rfl⟩:=r;rfl
 |ref _=>cases r;rfl
 |ty _=>cases r;rfl
theorem RelV.inj{x y:V}{u:Value}(r:RelV x u)(q:RelV y u):x=y:=NS (r.abs.symm.trans q.abs)
theorem Vals.inj:∀{xs a:List V} {us:List Value},Vals xs us->Vals a us->xs=a
 |_,_,_,.nil,.nil=>rfl
 |_,_,_,.cons r t,.cons b t'=>by rw[r.inj b,Vals.inj t t']
section
variable{X:Cx}{pins:List (Addr×Obj)}{σ:St}{H:Hp}{s:Shared}{a:Addr}{xs ys:List V}
theorem SqL.of{K:Ng}(h:H a=some (.lst xs)):SqL K H a xs:=.inl (.inl h)
theorem SqT.of{K:Ng}(h:H a=some (.tup xs)):SqT K H a xs:=.inl (.inl h)
theorem Inv.list(I:Inv X pins σ H s)(h:SqL X.K H a xs):∃its:List Value,Vals xs its/\PlainL s.heap a its.toArray/\xs.length<=sizeLine:=by
 rcases h with h|⟨o,its,n,d,f,hd,c,b,r⟩
 ·obtain⟨z,its,n,r,e⟩:=h.ok I.hok;exact⟨its,r,⟨_,n,e,rfl,rfl,rfl⟩,z⟩
 ·refine⟨its.toList,r,⟨o,n,I.kIn a o d,f,hd,by simpa using c⟩,?_⟩;have e:=r.length;simp only[N3]at e;exact Nn (Nt e) b
theorem Inv.tuple(I:Inv X pins σ H s)(h:SqT X.K H a xs):∃its:List Value,Vals xs its/\IsTup s.heap a its.toArray/\xs.length<=sizeLine:=by
 rcases h with h|⟨o,its,n,d,f,c,b,r⟩
 ·obtain⟨z,its,r,p⟩:=h.ok I.hok;exact⟨its,r,p,z⟩
 ·refine⟨its.toList,r,⟨o,I.kIn a o d,f,n,by simpa using c⟩,?_⟩;have e:=r.length;simp only[N3]at e;exact Nn (Nt e) b
theorem Inv.list_inj(I:Inv X pins σ H s)(h:SqL X.K H a xs)(h':SqL X.K H a ys):xs=ys:=by
 obtain⟨c,r,⟨o,n,e,_,_,d⟩,_⟩:=I.list h;obtain⟨b,i,⟨l,m,f,_,_,g⟩,_⟩:=I.list h';rw[e]at f;cases f;rw[d]at g;injection g with j _
 have:c=b:=by simpa using congrArg Array.toList j
 subst this;exact r.inj i
theorem Inv.tuple_inj(I:Inv X pins σ H s)(h:SqT X.K H a xs)(h':SqT X.K H a ys):xs=ys:=by
 obtain⟨c,r,⟨o,e,_,n,d⟩,_⟩:=I.tuple h;obtain⟨b,i,⟨l,f,_,m,g⟩,_⟩:=I.tuple h';rw[e]at f;cases f;rw[d]at g;injection g with j _
 have:c=b:=by simpa using congrArg Array.toList j
 subst this;exact r.inj i
end
noncomputable abbrev Cx.wish(X:Cx)(E:Value->Shared->Prop):Cx:={ X with xe:=E }
noncomputable abbrev Cx.nox(X:Cx):Cx:=X.wish fun _ _=>False
theorem Cx.Ok.wish{X:Cx}(ok:X.Ok)(E:Value->Shared->Prop):(X.wish E).Ok:=
 ⟨ok.mod,ok.kind,ok.glob,ok.blt,ok.above,ok.inj,ok.has,ok.cab,ok.hd,ok.frames,ok.stk,ok.exf,ok.bs,ok.bsz,ok.noex,ok.exfs,ok.funs,ok.frf⟩
theorem Cx.Ok.unwish{X:Cx}{E:Value->Shared->Prop}(ok:(X.wish E).Ok):X.Ok:=
 ⟨ok.mod,ok.kind,ok.glob,ok.blt,ok.above,ok.inj,ok.has,ok.cab,ok.hd,ok.frames,ok.stk,ok.exf,ok.bs,ok.bsz,ok.noex,ok.exfs,ok.funs,ok.frf⟩
section
variable{X:Cx}{pins:List (Addr×Obj)}{σ:St}{H:Hp}{s:Shared}{E:Value->Shared->Prop}
theorem Inv.wish(I:Inv X pins σ H s)(E:Value->Shared->Prop):Inv (X.wish E) pins σ H s:=⟨I.ok.wish E,I.os,I.bare,I.base,I.loc,I.cell,I.free,I.freeC,I.pin,I.hok,I.len⟩
theorem Inv.unwish(I:Inv (X.wish E) pins σ H s):Inv X pins σ H s:=⟨I.ok.unwish,I.os,I.bare,I.base,I.loc,I.cell,I.free,I.freeC,I.pin,I.hok,I.len⟩
theorem SP.unwish{D:Ends}{f:Flow}{c:Shared}(h:SP (X.wish E) pins D f c):SP X pins D f c:=by
 cases f with
 |next=>obtain⟨a,b,I,q⟩:=h;exact⟨a,b,I.unwish,q⟩
 |brk=>obtain⟨a,b,I,q⟩:=h;exact⟨a,b,I.unwish,q⟩
 |cont=>obtain⟨a,b,I,q⟩:=h;exact⟨a,b,I.unwish,q⟩
 |ret u=>obtain⟨v,a,b,I,r,q⟩:=h;exact⟨v,a,b,I.unwish,r,q⟩
theorem PSs.nox{st:List Stmt}{t:TS}(h:PSs X.nox st t):PSs X st t:=fun pins s σ H D I hw=>
 N0 (h pins s σ H D (I.wish _) hw) (fun _ _ q=>q.unwish) fun _ _ z=>False.elim z
end
section
variable{X:Cx}{st:Stmt}{rest:List Stmt}{t u:TS}{e:Expr}{te:TE}{pos:Pos}
noncomputable def Qod:TS:=fun D a H=>D.nx a H
noncomputable def Qpm(t u:TS):TS:=fun D a H=>t { D with nx:=u D } a H
theorem QiE:PSs X [] Qod:=fun _ _ a H _ I h=>Ir ⟨a,H,I,h⟩
theorem QgV(g:PS X st t)(h2:PSs X rest u):PSs X (st::rest) (Qpm t u):=by
 intro a s c H D I h;refine wpAny_execs_cons (thn (g a s c H { D with nx:=u D } I h) fun f d q=>?_);cases f with
 |next=>
  obtain⟨b,j,i,q⟩:=q;exact h2 a d b j D i q
 |ret v=>exact q
 |brk=>exact q
 |cont=>exact q
theorem QiP(c:PS X st t):PSs X [st] t:=by
 intro a s b H D I h;refine wpAny_execs_cons (thn (c a s b H D I h) fun f d q=>?_);cases f with
 |next=>exact Ir q
 |ret v=>exact q
 |brk=>exact q
 |cont=>exact q
theorem Inv.quiet{a:List (Addr×Obj)}{σ:St}{H:Hp}{s:Shared}(I:Inv X a σ H s):interactive X.env=false:=by simp[interactive,I.ok.kind]
noncomputable def QnK(te:TE):TS:=fun D a H=>te a H fun _ b=>D.nx a b
theorem QjW(f:PE X e te)(d:swapsWith e none pos.line X.env=pure false:=by rfl):PS X (.Expr e pos) (QnK te):=by
 intro a s b H D I h;exact wpAny_Expr_any (thn (f a s b H _ I h) fun v i ⟨x,g,I1,j,c⟩=>⟨b,g,I1,c⟩) I.quiet d
noncomputable def Qqa(te:TE):TS:=fun D a H=>te a H D.rt
theorem Qmx(f:PE X e te):PS X (.Return (some e) pos) (Qqa te):=by
 intro a s b H D I h;exact wpAny_Return_some (thn (f a s b H _ I h) fun v i ⟨x,g,I1,c,d⟩=>⟨x,b,g,I1,c,d⟩)
noncomputable def Qp7(c:TT)(t u:TS):TS:=fun D a H=>c a H fun b d=>if b=true then t D a d else u D a d
theorem Qoq{c:Expr}{a b:List Stmt}{i:TT}(n:PT X c i)(p:PSs X a t)(o:PSs X b u):PS X (.If c a b pos) (Qp7 i t u):=by
 intro f s g H D I h;refine wpAny_If (thn (n f s g H _ I h) fun d j ⟨m,I1,l⟩=>?_);cases d with
 |true=>exact p f j g m D I1 l
 |false=>exact o f j g m D I1 l
end
abbrev TG:=V->St->Hp->(St->Hp->Prop)->Prop
abbrev TGs:=List V->St->Hp->(St->Hp->Prop)->Prop
def PG(X:Cx)(target:Expr)(t:TG):Prop:=
 ∀(a:List (Addr×Obj)) (s:Shared) (c:St) (H:Hp) (v:V) (u:Value) (Q:St->Hp->Prop),Inv X a c H s->RelV v u->t v c H Q ->
  wpAny (model X.prog X.w) X.A (assign target X.env u) (fun _ e=>∃b d,Inv X a b d e/\Q b d) X.xe s
def PGs(X:Cx)(g:List Expr)(t:TGs):Prop:=
 ∀(a:List (Addr×Obj)) (s:Shared) (c:St) (H:Hp) (d:List V) (e:List Value) (Q:St->Hp->Prop),Inv X a c H s->Vals d e->t d c H Q ->
  wpAny (model X.prog X.w) X.A (assignInOrder ((assignEach g X.env).map (·.2)) e) (fun _ h=>∃b f,Inv X a b f h/\Q b f) X.xe s
abbrev QoB:=V->V->V->Hp->(Hp->Prop)->Prop
def QoN(X:Cx)(t:QoB):Prop:=
 ∀(a:List (Addr×Obj)) (s:Shared) (b:St) (H:Hp) (o i v:V) (c d u:Value) (Q:Hp->Prop),Inv X a b H s->RelV o c->RelV i d->RelV v u->t o i v H Q ->
  wpAny (model X.prog X.w) X.A (setItem c d u) (fun _ f=>∃e,Inv X a b e f/\Q e) X.xe s
abbrev TIp:=V->V->Hp->VK->Prop
def PIp(X:Cx)(op:Operator)(t:TIp):Prop:=
 ∀(a:List (Addr×Obj)) (s:Shared) (b:St) (H:Hp) (x y:V) (v u:Value) (Q:VK),Inv X a b H s->RelV x v->RelV y u->t x y H Q ->
  wpAny (model X.prog X.w) X.A (inplaceOp op v u) (EP X a b Q) X.xe s
section
variable{X:Cx}{pos:Pos}
noncomputable def Qeq(i:Nat):TG:=fun v a H Q=>Q (a.set i (some v)) H
theorem Qfp{i:Nat}{x:Str}(hN:X.N.Nodup)(c:X.N[i]?=some x)(b:Loc X.env.scope x)(d:X.fn x=true\/X.env.scope.names.lookup x=some .local:=by first|exact .inl rfl|exact .inr rfl|assumption):PG X (.Name x pos) (Qeq i):=by
 intro a s f H v u Q I r h;exact OW (Gx I hN c b r (fun g e=>⟨_,H,e,h⟩) d)
noncomputable def Qpn:TGs:=fun b a H Q=>b=[]/\Q a H
noncomputable def Qlj(t:TG)(u:TGs):TGs:=fun c b H Q=>∃v r,c=v::r/\t v b H fun a d=>u r a d Q
theorem Qjt:PGs X [] Qpn:=by
 intro a s b H c d Q I r h;obtain⟨e,h⟩:=h;subst e;cases r;exact assignInOrder_nil ⟨b,H,I,h⟩
theorem Qf1{e:Expr}{es:List Expr}{t:TG}{u:TGs}(j:PG X e t)(h2:PGs X es u)
  (i:(assignEach (e::es) X.env).map (·.2)=assign e X.env::(assignEach es X.env).map (·.2):=by rfl):PGs X (e::es) (Qlj t u):=by
 intro a s c H n p Q I r h;obtain⟨v,o,l,h⟩:=h;subst l;cases r with
 |cons r f=>
  rw[i];refine assignInOrder_cons (thn (j a s c H _ _ _ I r h) fun _ d ⟨b,m,I1,g⟩=>?_);exact h2 a d b m _ _ Q I1 f g
noncomputable def QpX(K:Ng)(n:Nat)(t:TGs):TG:=fun v c H Q=>∃a b,v=.ref a/\SqT K H a b/\b.length=n/\t b c H Q
theorem Qmc{es:List Expr}{k:Nat}{t:TGs}{n:Nat}(w:X.calm=true)(h:PGs X es t)
  (p:(assignEach es X.env).length=n:=by rfl) (d:(assignEach es X.env).findIdx? (·.1)=none:=by rfl):PG X (.Tuple es k pos) (QpX X.K n t):=by
 intro c s f H v u Q I r hw;obtain⟨a,g,y,m,q,hw⟩:=hw;subst y;cases r;obtain⟨i,rv,l,A⟩:=I.tuple m;refine assign_Tuple_tuple (I.ok.hd w) l (by simp[p,<-q,rv.length]) d fun x j=>?_;have I1:Inv X c f H { s with heap:=x }:=I.kept (t':=s.toks) fun b o e=>j b o (NG (ND e)) e;exact h c _ f H g _ Q I1 (by simpa using rv) hw
noncomputable def QoR(b c:TE)(t:QoB):TG:=fun v a H Q=>b a H fun o f=>c a f fun i e=>t o i v e fun d=>Q a d
theorem Ql3{o i:Expr}{e f:TE}{t:QoB}(z:PE X o e)(A:PE X i f)(w:QoN X t)
  (B:∀v,assign (.Subscript o i pos) X.env v=(do
   let b <-holding [v] (eval o X.env)
   let c <-holding [v,b] (eval i X.env)
   standAt pos
   holding [v,b,c] (setItem b c v)
   release [v,b,c] []):=by intro _;rfl):PG X (.Subscript o i pos) (QoR e f t):=by
 intro a s d H v u Q I r h;rw[B];refine Na (N2 (thn (z a s d H _ I h) fun b j ⟨x,E,I1,m,q⟩=>?_));refine Na (N2 (thn (A a j d E _ I1 q) fun c g ⟨y,D,I2,l,p⟩=>?_));refine Na (F9 (Na (N2 (thn (w a g d D x y v b c u _ I2 m l r p) fun _ F ⟨C,I3,n⟩=>?_))));exact wpAny_release ⟨d,C,I3,n⟩
noncomputable def QmU(te:TE)(g:TG):TS:=fun D a H=>te a H fun x b=>g x a b D.nx
theorem QhK{b e:Expr}{te:TE}{g:TG}(m:PE X e te)(l:PG X b g)(j:swapsWithSole [b] e pos.line X.env=pure false:=by rfl)(hw:swappedStores [b] e X.env=pure none:=by rfl)
  (n:(assignEach [b] X.env).map (·.2)=[assign b X.env]:=by rfl):PS X (.Assign [b] e pos) (QmU te g):=by
 intro a s c H D I h;refine wpAny_Assign_stores (thn (m a s c H _ I h) fun v d ⟨x,o,I1,f,i⟩=>?_) j hw;rw[n];exact thn (l a d c o x v _ I1 f i) fun _ p q=>q
theorem Qk5{i:Nat}{x:Str}{e:Expr}{te:TE}{a:Pos}(hN:X.N.Nodup)(l:X.N[i]?=some x)(g:Loc X.env.scope x)(n:PE X e te)(j:swapsWith e (some (.Name x a)) pos.line X.env=pure false:=by rfl)(m:X.fn x=true\/X.env.scope.names.lookup x=some .local:=by first|exact .inl rfl|exact .inr rfl|assumption) :
  PS X (.Assign [.Name x a] e pos) (QmU te (Qeq i)):=by
 intro b s c H D I h;refine wpAny_Assign_Name (thn (n b s c H _ I h) fun v q ⟨y,o,I1,d,f⟩=>?_) j;exact Gx I1 hN l g d (fun p I2=>⟨_,o,I2,f⟩) m
noncomputable def QqY(i:Nat)(te:TE)(b:TIp):TS:=fun D a H=>∃x,a[i]?=some (some x)/\te a H fun y d=>b x y d fun z c=>D.nx (a.set i (some z)) c
theorem Qms{i:Nat}{x:Str}{e:Expr}{te:TE}{op:Operator}{q:TIp}{j:Pos}(hN:X.N.Nodup)(t:X.N[i]?=some x)(o:Loc X.env.scope x)(Q:PE X e te)(J:PIp X op q)(P:X.fn x=true\/X.env.scope.names.lookup x=some .local:=by first|exact .inl rfl|exact .inr rfl|assumption) :
  PS X (.AugAssign (.Name x j) op e pos) (QqY i te q):=by
 intro a s p H D I h;obtain⟨v,S,h⟩:=h;obtain⟨m,L,O⟩:=I.loc;have n:Vis X.env.scope x:=by rcases o with k|k;exact .inl k;exact .inr (.inl k)
 obtain⟨u,r,l⟩:=O i x v t S n;refine wpAny_AugAssign_Name ?_
 have go:wpAny (model X.prog X.w) X.A (eval e X.env) (fun w g=>wpAny (model X.prog X.w) X.A (inplaceOp op u w) (fun r f=>wpAny (model X.prog X.w) X.A (storeName X.env x r) (fun _=>SP X a D .next) X.xe f) X.xe g) X.xe s:=by
  refine thn (Q a s p H _ I h) fun w B ⟨y,U,I1,E,G⟩=>?_;refine thn (J a B p U v y u w _ I1 r E G) fun z s2 ⟨Y,T,I2,C,F⟩=>?_;exact Gx I2 hN t o C (fun Z I3=>⟨_,T,I3,F⟩) P
 rcases l with⟨b,M⟩|⟨b,c,R,d⟩
 ·exact Og I.ok.kind b L M go
 ·rcases b with b|b
  ·exact OC I.ok.kind b R d go
  ·rcases o with k|k
   ·have:X.env.scope.names.lookup x=some .free:=b;rw[k]at this;cases this
   ·have:X.env.scope.names.lookup x=some .free:=b;rw[k]at this;cases this
end
section
variable{X:Cx}{pos:Pos}
def QhG(c:TT)(h:TS):TS:=fun D a H=>∃W:Nat->St->Hp->Prop,(∃m,W m a H)/\∀m a H,W m a H ->
 c a H fun b f=>if b=true then∃N:St->Hp->Prop,(∀d g,N d g->∃e,e<m/\W e d g)/\h { D with nx:=N,ct:=N,bk:=D.nx } a f else D.nx a f
theorem QfT{c:Expr}{body:List Stmt}{t:TT}{u:TS}(x:PassesOwn (model X.prog X.w) X.A X.env X.xe)(O:PT X c t)(P:PSs X body u):PS X (.While c body [] pos) (QhG t u):=by
 intro d s C H D I h;obtain⟨W,⟨M,F⟩,i⟩:=h;refine wpAny_While (codeAny_whileLoop (fun n L=>∃g B,Inv X d g B L/\W n g B) ?_ M ⟨C,H,I,F⟩)
 rintro n J ⟨e,z,I1,E⟩
 refine Du x (thn (O d J e z _ I1 (i n e z E)) fun b G ⟨y,I2,m⟩=>?_);cases b with
 | true=>
  obtain⟨N,hN,m⟩:=m;rw[if_pos rfl];refine Du x (thn (P d G e y _ I2 m) fun f Q l=>?_);cases f with
  |next=>
   obtain⟨a,j,I3,p⟩:=l;obtain⟨q,r,o⟩:=hN a j p;exact⟨q,r,a,j,I3,o⟩
  |cont=>
   obtain⟨a,j,I3,p⟩:=l;obtain⟨q,r,o⟩:=hN a j p;exact⟨q,r,a,j,I3,o⟩
  |brk=>exact l
  |ret v=>exact l
 |false=>
  rw[if_neg NQ];exact Ir ⟨e,y,I2,m⟩
end
structure It where
 go:Nat->Hp->Prop
 yld:Nat->Hp->V->Hp->Prop
 stop:Nat->Hp->Prop
def Qdf(X:Cx)(a:List (Addr×Obj))(H:Hp)(b:Addr):Prop:=
 H b=none/\b≠X.env.locals/\b∉X.fs/\(b∈X.ex\/X.s₀.heap.objs.size<=b)/\(∀x c,X.env.cells.lookup x=some c->c≠b)/\∀p∈X.pn++a,p.1≠b
theorem Inv.fpOk{X:Cx}{a:List (Addr×Obj)}{σ:St}{H f:Hp}{s:Shared}{b:Addr}(I:Inv X a σ H s)(d:s.heap.objs.size<=b)(h:f b=none):Qdf X a f b:=by
 refine⟨h,EO (Nk I.lt d),I.nofs d,.inr (Nn I.sz d),fun x c e z=>?_,fun p g z=>?_⟩
 ·obtain⟨v,q⟩:=I.cell x c e;exact absurd (Nk q.lt (by rw[z];exact d)) (Et _)
 ·exact absurd (Nk (ND (I.pin p g).1) (by rw[z];exact d)) (Et _)
structure Turn(P:Program)(w:World)(K:Ng)(tg:Expr)(J:It)(fp:List Addr)(it:Addr)(tn:Nat->Heap->Prop):Prop where
 mem:it∈fp
 obj:∀i h,tn i h->∀b∈fp,∃o,h.get? b=some o/\∀v,o.data≠.cell v
 keep:∀i h h',tn i h->(∀b∈fp,∀o,h.get? b=some o->h'.get? b=some o)->tn i h'
 item:∀(X:Cx),X.prog=P->X.w=w->X.K=K->X.calm=true->∀(i:Nat) (pins:List (Addr×Obj)) (s:Shared) (σ:St) (H:Hp) (E:Value->Shared->Prop),Inv X pins σ H s->(∀b∈fp,Qdf X pins H b)->tn i s.heap->J.go i H ->
  wpAny (model P w) X.A (pyNext (.ref it)) (fun r s1=>∃u,r=some u /\
   wpAny (model P w) X.A (letOwnedTupleGo tg (.ref it) u) (fun _ s2=>∃x H',Inv X pins σ H' s2/\RelV x u/\J.yld i H x H'/\tn (i+1) s2.heap/\∀b∈fp,H' b=none) E s1) E s
 done:∀(X:Cx),X.prog=P->X.w=w->X.K=K->X.calm=true->∀(i:Nat) (pins:List (Addr×Obj)) (s:Shared) (σ:St) (H:Hp) (E:Value->Shared->Prop),Inv X pins σ H s->(∀b∈fp,Qdf X pins H b)->tn i s.heap->J.stop i H ->
  wpAny (model P w) X.A (pyNext (.ref it)) (fun r s1=>r=none/\Inv X pins σ H s1) E s
 self:∀(A:Around) (i:Nat) (s:Shared) (Q:Value->Shared->Prop) (E:Value->Shared->Prop),tn i s.heap->Q (.ref it) s->wpAny (model P w) A (pyIter (.ref it)) Q E s
abbrev TI:=St->Hp->(It->Hp->Prop)->Prop
def PIE(X:Cx)(a:List (Addr×Obj))(σ:St)(i:Expr)(R:It->Hp->Prop)(c:Value)(f:Shared):Prop:=
 ∃(g:Addr) (h:List Addr) (e:Nat->Heap->Prop) (J:It) (d:Hp),c=.ref g/\Inv X a σ d f/\Turn X.prog X.w X.K i J h g e/\e 0 f.heap/\(∀b∈h,Qdf X a d b)/\R J d
def PI(X:Cx)(d iter:Expr)(c:TI):Prop:=
 ∀(a:List (Addr×Obj)) (s:Shared) (b:St) (H:Hp) (R:It->Hp->Prop),Inv X a b H s->c b H R ->
  wpAny (model X.prog X.w) X.A (eval iter X.env) (fun v e=>wpAny (model X.prog X.w) X.A (pyIter v) (PIE X a b d R) X.xe e) X.xe s
theorem QaZ {M:Model} {A:Around} {E:Value->Shared->Prop} {s:Shared} {c:Expr} {it:Addr} {u:Value} {o:Obj} {n:String} {b:Array Value} {Q:Unit->Shared->Prop} (d:s.heap.get? it=some o) (f:o.cls=.type n) (hd:o.data=.fields b)
    (e:["enumerate","zip","dict_itemiterator","dict_reverseitemiterator","odict_iterator","itertools.zip_longest","itertools.pairwise"].contains n=false) (a:Q () s):wpAny M A (letOwnedTupleGo c (.ref it) u) Q E s:=by
  unfold letOwnedTupleGo
  cases c<;>first
    |exact Nj a
    |(cases u<;>first
        |exact Nj a
        | (refine Na (wpAny_load d ?_)
           rw[f,hd];show wpAny M A (if(["enumerate","zip","dict_itemiterator","dict_reverseitemiterator","odict_iterator","itertools.zip_longest","itertools.pairwise"].contains n&&b[0]?==some (rawInt _))=true then _ else _) Q E s;rw[if_neg (by intro h;rw[e,Bool.false_and]at h;cases h)]
           exact Nj a))
noncomputable def Itl(K:Ng)(a:Addr):It:=
 ⟨fun i H=>∃b x,SqL K H a b/\b[i]?=some x,fun i H x c=>c=H/\∀b,SqL K H a b->b[i]?=some x,fun i H=>∃b,SqL K H a b/\b.length<=i⟩
noncomputable def Itt(K:Ng)(a:Addr):It:=
 ⟨fun i H=>∃b x,SqT K H a b/\b[i]?=some x,fun i H x c=>c=H/\∀b,SqT K H a b->b[i]?=some x,fun i H=>∃b,SqT K H a b/\b.length<=i⟩
noncomputable def Itr(lo:Int)(n:Nat):It:=⟨fun i _=>i<n,fun i H x a=>a=H/\x=.int (lo+i),fun i _=>n<=i⟩
theorem QfB{P:Program}{w:World}{K:Ng}{M:Expr}(a it:Addr):Turn P w K M (Itl K a) [it] it (fun i h=>h.IsListIter it a i) where
 mem:=by simp
 obj:=fun i h st b g=>by
  have e:b=it:=by simpa using g
  subst e;obtain⟨o,e,c,d⟩:=st;exact⟨o,e,fun v z=>by rw[d]at z;cases z⟩
 keep:=fun i h q st k=>st.at fun o e=>k it (by simp) o e
 item:=by
  intro X y hw A J i f s G H E I n st t;subst y hw A;obtain⟨L,x,m,l⟩:=t;obtain⟨r,rv,p,R⟩:=I.list m;obtain⟨u,hu,Q⟩:=rv.get l;obtain⟨F,f1,f2,D,C,B⟩:=n it (by simp);refine wpAny_pyNext_list_item st p.isList (x:=u) (by simpa using hu) fun q j O=>?_;have I1:Inv X f G H { s with heap:=q }:=I.turned (t':=s.toks) (fun b o g e=>(O.2 b g).trans e) F f1 D C B;obtain⟨o,e,c,d⟩:=id j;exact⟨u,rfl,QaZ (s:={ s with heap:=q }) e c d (by decide) ⟨x,H,I1,Q,⟨rfl,fun Y S=>by rw[I.list_inj S m];exact l⟩,j,fun b g=>(n b g).1⟩⟩
 done:=by
  intro X y hw A J i f s G H E I n st t;subst y hw A;obtain⟨L,m,l⟩:=t;obtain⟨r,rv,p,R⟩:=I.list m;obtain⟨F,f1,f2,D,C,B⟩:=n it (by simp);have T:=rv.length;exact wpAny_pyNext_list_end (I.ok.hd J) st p.isList (by simp;exact Nn (Nt T.symm) l) fun q U=>⟨rfl,I.turned (t':=s.toks) (fun b o g e=>U b o g e) F f1 D C B⟩
 self:=fun _ _ _ _ _ st h=>wpAny_pyIter_listiter st h
theorem QcB{P:Program}{w:World}{K:Ng}{M:Expr}(a it:Addr):Turn P w K M (Itt K a) [it] it (fun i h=>h.IsTupleIter it a i) where
 mem:=by simp
 obj:=fun i h st b j=>by
  have e:b=it:=by simpa using j
  subst e;obtain⟨o,e,c,d⟩:=st;exact⟨o,e,fun v z=>by rw[d]at z;cases z⟩
 keep:=fun i h r st k=>st.at fun o e=>k it (by simp) o e
 item:=by
  intro X y hw A J i f s G H E I q st t;subst y hw A;obtain⟨L,x,n,m⟩:=t;obtain⟨g,rv,p,R⟩:=I.tuple n;obtain⟨u,hu,Q⟩:=rv.get m;obtain⟨F,f1,f2,D,C,B⟩:=q it (by simp);refine wpAny_pyNext_tuple_item st (show s.heap.IsTuple a g.toArray from p) (x:=u) (by simpa using hu) fun r l O=>?_;have I1:Inv X f G H { s with heap:=r }:=I.turned (t':=s.toks) (fun b o j e=>(O.2 b j).trans e) F f1 D C B;obtain⟨o,e,c,d⟩:=id l;exact⟨u,rfl,QaZ (s:={ s with heap:=r }) e c d (by decide) ⟨x,H,I1,Q,⟨rfl,fun Y S=>by rw[I.tuple_inj S n];exact m⟩,l,fun b j=>(q b j).1⟩⟩
 done:=by
  intro X y hw A J i f s G H E I q st t;subst y hw A;obtain⟨L,n,m⟩:=t;obtain⟨g,rv,p,R⟩:=I.tuple n;obtain⟨F,f1,f2,D,C,B⟩:=q it (by simp);have T:=rv.length;exact wpAny_pyNext_tuple_end (I.ok.hd J) st (show s.heap.IsTuple a g.toArray from p) (by simp;exact Nn (Nt T.symm) m) fun r U=>⟨rfl,I.turned (t':=s.toks) (fun b o j e=>U b o j e) F f1 D C B⟩
 self:=fun _ _ _ _ _ st h=>wpAny_pyIter_tupleiter st h
theorem Qcz{P:Program}{w:World}{K:Ng}{C:Expr}(it:Addr)(lo:Int)(n:Nat):Turn P w K C (Itr lo n) [it] it (fun i h=>IsRangeIter h it (lo+(i:Nat)*1) ((n:Int)-(i:Nat)) 1) where
 mem:=by simp
 obj:=fun i h st b c=>by
  have e:b=it:=by simpa using c
  subst e
  exact⟨_,st,fun v z=>by
   have B:Data.fields _=Data.cell v:=z
   cases B⟩
 keep:=fun i h g st k=>k it (by simp) _ st
 item:=by
  intro X m hw p l i a s y H E I f st j;subst m hw p;obtain⟨x,f1,f2,u,r,q⟩:=f it (by simp);have W:=Walks.range (prog:=X.prog) (w:=X.w) (I.ok.hd l) it lo 1 n;refine W.item i s _ _ j st fun v g tk F d D=>?_;obtain⟨t,rfl⟩:=F;have I1:Inv X a y H { s with heap:=g,toks:=tk }:=I.turned (fun b o c e=>D b o (by simpa using c) e) x f1 u r q;refine⟨_,rfl,QaZ (s:={ s with heap:=g,toks:=tk }) (n:="range_iterator") d rfl rfl (by decide) ⟨.int (lo+i),H,I1,⟨t,?_⟩,⟨rfl,rfl⟩,d,fun b c=>(f b c).1⟩⟩;rw[Int.mul_one]
 done:=by
  intro X m hw p l i a s y H E I f st j;subst m hw p;obtain⟨x,f1,f2,u,r,q⟩:=f it (by simp);exact LQ (I.ok.hd l) st (by have:n<=i:=j;lia) fun g G=>⟨rfl,I.turned (t':=s.toks) (fun b o c e=>G b o c e) x f1 u r q⟩
 self:=fun _ _ _ _ _ st h=>LR st h
section
variable{X:Cx}{tg:Expr}
theorem Qcp{c:List (Addr×Obj)}{σ:St}{H:Hp}{s:Shared}{R:It->Hp->Prop}{E:Value->Shared->Prop}{lo a:Int}{t u v:Tok}{tk:Nat}(I:Inv X c σ H s)(h:-(2^62)<=lo)(h2:lo<2^62)(g:-(2^62)<=a)(f:a<2^62)
  (q:R (Itr lo (a-lo).toNat) H):wpAny (model X.prog X.w) X.A (pyIter (.ref s.heap.objs.size)) (PIE X c σ tg R) E { s with heap:=s.heap.push { cls:=.type "range",data:=.fields #[.int lo t,.int a u,.int 1 v] },toks:=tk }:=by
 refine ON (IsRange.new ..) (small_one h h2 g f) ?_;have I1:Inv X c σ H { s with heap:=s.heap.push { cls:=.type "range",data:=.fields #[.int lo t,.int a u,.int 1 v] },toks:=tk }:=I.kept fun b o e=>No _ e
 refine⟨(s.heap.push { cls:=.type "range",data:=.fields #[.int lo t,.int a u,.int 1 v] }).objs.size,[(s.heap.push { cls:=.type "range",data:=.fields #[.int lo t,.int a u,.int 1 v] }).objs.size],_,_,H,rfl,
  I1.kept (t':=tk) fun b o e=>No _ e,Qcz _ lo (a-lo).toNat,?_,fun b d=>?_,q⟩
 ·have j:lo+((0:Nat):Int)*1=lo:=by simp
  have i:(((a-lo).toNat:Nat):Int)-((0:Nat):Int)=Builtin.Range.rangeSize lo a 1:=by rw[rangeSize_one];split<;>lia
  show IsRangeIter _ _ (lo+((0:Nat):Int)*1) ((((a-lo).toNat:Nat):Int)-((0:Nat):Int)) 1;rw[j,i];exact NB _ rfl
 ·have e:b=(s.heap.push { cls:=.type "range",data:=.fields #[.int lo t,.int a u,.int 1 v] }).objs.size:=by simpa using d
  subst e;exact I1.fpOk (Nz _) (I1.hok.fresh (Nz _))
def QnO(c:TA):TI:=fun a H R=>c a H fun b d=>∃j:Int,b=[.int j]/\-(2^62)<=j/\j<2^62/\R (Itr 0 j.toNat) d
def QnY(c:TA):TI:=fun a H R=>c a H fun b d=>∃i j:Int,b=[.int i,.int j]/\(-(2^62)<=i/\i<2^62/\-(2^62)<=j/\j<2^62)/\R (Itr i (j-i).toNat) d
theorem QeQ{a:Expr}{d:TA}{p pos:Pos}(o:Gl X "range")(n:X.mg "range"=none)(u:PA X [a] d)(m:starEach [a] X.env=[(false,eval a X.env)]:=by rfl):PI X tg (.Call (.Name "range" p) [a] [] pos) (QnO d):=by
 intro b s f H R I h;refine Call_ (J9 I o n boot_range (NX (thn (u pos b s f H _ I h) fun w x ⟨v,y,I1,i,c⟩=>?_) m rfl));obtain⟨j,e,c,l,q⟩:=c;subst e;cases i with
 |cons r g=>
  cases g;obtain⟨t,rfl⟩:=r;exact call_range_1 (Qcp I1 (by decide) (by decide) c l (by simpa using q))
theorem Qdw{a b:Expr}{l:TA}{p pos:Pos}(z:Gl X "range")(y:X.mg "range"=none)(A:PA X [a,b] l)(x:starEach [a,b] X.env=[(false,eval a X.env),(false,eval b X.env)]:=by rfl)(d:starEach [b] X.env=[(false,eval b X.env)]:=by rfl) :
  PI X tg (.Call (.Name "range" p) [a,b] [] pos) (QnY l):=by
 intro c s m H R I h;refine Call_ (J9 I z y boot_range (NX (thn (A pos c s m H _ I h) fun C E ⟨B,F,I1,n,g⟩=>?_) (by rw[x,d]) (by rw[d];rfl)));obtain⟨i,j,e,⟨g,w,v,u⟩,q⟩:=g;subst e;cases n with
 | cons r f=>
  cases f with
  |cons o f=>
   cases f;obtain⟨t,rfl⟩:=r;obtain⟨D,rfl⟩:=o;exact call_range_2 (Qcp I1 g w v u q)
def QoF(f:TI)(g:TG)(h:TS):TS:=fun D a H=>f a H fun J l=>∃W:Nat->Nat->St->Hp->Prop,(∃m,W 0 m a l)/\∀i m a H,W i m a H ->
 (J.stop i H/\D.nx a H)\/(J.go i H/\∃N:St->Hp->Prop,(∀b c,N b c->∃e,e<m/\W (i+1) e b c)/\∀x c,J.yld i H x c->g x a c fun d j=>h { D with nx:=N,ct:=N,bk:=D.nx } d j)
noncomputable def Qac(a:List Addr)(h:Heap):List (Addr×Obj):=a.filterMap fun b=>(h.get? b).map fun o=>(b,o)
theorem Ka{a:List Addr}{h:Heap}{b:Addr}{o:Obj}(c:b∈a)(e:h.get? b=some o):(b,o)∈Qac a h:=IY.mpr ⟨b,c,by rw[e];rfl⟩
theorem Qd3{a:List Addr}{h:Heap}{p:Addr×Obj}(c:p∈Qac a h):p.1∈a/\h.get? p.1=some p.2:=by
 obtain⟨b,d,e⟩:=IY.mp c;cases q:h.get? b with
 |none=>rw[q]at e;cases e
 |some o=>
  rw[q]at e;have f:(b,o)=p:=NS e;subst f;exact⟨d,q⟩
theorem Inv.pinned{a:List (Addr×Obj)}{σ:St}{H:Hp}{s:Shared}{c:List Addr}(I:Inv X a σ H s)(j:∀b∈c,Qdf X a H b)(i:∀b∈c,∃o,s.heap.get? b=some o/\∀v,o.data≠.cell v):Inv X (a++Qac c s.heap) σ H s:=
 I.pins_of fun p h=>(NT.mp h).elim (fun z=>I.pin p (NR _ z)) fun z=>by
  obtain⟨f,e⟩:=Qd3 z;obtain⟨l,f1,f2,_⟩:=j p.1 f;obtain⟨o,g,d⟩:=i p.1 f;rw[e]at g;cases g;exact⟨e,l,f1,f2,d⟩
theorem Inv.unpinned{a pl:List (Addr×Obj)}{σ:St}{H:Hp}{s:Shared}(I:Inv X (a++pl) σ H s):Inv X a σ H s:=I.pins_of fun p b=>I.pin p (NR _ (El _ b))
theorem QlC{iter:Expr}{body:List Stmt}{Z:TI}{g:TG}{tb:TS}{pos:Pos}(G:PassesOwn (model X.prog X.w) X.A X.env X.xe)(hc:X.calm=true)(hi:PI X tg iter Z)(hg:PG X tg g)(q:PSs X body tb)
  (hs:∀x,foldedSetIterable iter X.env x=pure x:=by intro _;rfl):PS X (.For tg iter body [] pos) (QoF Z g tb):=by
 intro c s Y H D I h;refine wpAny_For (thn (hi c s Y H _ I h) fun v s1 h1=>thn h1 fun aa s2 h2=>?_) hs;obtain⟨it,M,tn,J,H2,e,I2,T,Q,f2,W,⟨m0,w0⟩,C⟩:=h2;subst e;have p:∀{y:Hp},(∀b∈M,y b=none)->∀b∈M,Qdf X c y b:=fun hn b q=>⟨hn b q,(f2 b q).2⟩
 refine codeAny_forLoop_any (fun n s'=>∃i l y,Inv X c l y s'/\tn i s'.heap/\(∀b∈M,y b=none)/\W i n l y) ?_ m0 ⟨0,Y,H2,I2,Q,fun b q=>(f2 b q).1,w0⟩
 rintro n s3 ⟨i,j,O,I3,E,L,w3⟩
 rcases C i n j O w3 with⟨stop,qn⟩|⟨go,N,hN,step⟩
 ·refine Du G (thn (T.done X rfl rfl rfl hc i c s3 j O X.xe I3 (p L) E stop) fun r s4 ⟨hr,I4⟩=>?_);subst hr;exact Ir ⟨j,O,I4,qn⟩
 ·refine Du G (thn (T.item X rfl rfl rfl hc i c s3 j O X.xe I3 (p L) E go) fun r s4 ⟨u,hr,h4⟩=>?_);subst hr;refine Du G (thn h4 fun _ s5 ⟨x,H5,I5,r5,y5,B,S⟩=>?_);have U:=I5.pinned (p S) (T.obj _ _ B);refine Du G (thn (hg _ s5 j H5 x u _ U r5 (step x H5 y5)) fun _ s6 ⟨P,H6,I6,q6⟩=>?_);refine Du G (thn (q _ s6 P H6 _ I6 q6) fun f R z=>?_)
  have again:∀{a:St} {t:Hp},Inv X (c++Qac M s5.heap) a t R->N a t->∃m,m<n/\∃i l y,Inv X c l y R/\tn i R.heap/\(∀b∈M,y b=none)/\W i m l y:=fun {a t} I7 F=>by
   obtain⟨m',hm,w7⟩:=hN a t F;refine⟨m',hm,i+1,a,t,I7.unpinned,T.keep _ _ _ B fun b q o e=>(I7.pin (b,o) (NR _ (NR _ (Ka q e)))).1,fun b q=>?_,w7⟩;obtain⟨o,e,d⟩:=T.obj _ _ B b q;exact(I7.pin (b,o) (NR _ (NR _ (Ka q e)))).2.1
  cases f with
  |next=>obtain⟨a,t,I7,F⟩:=z;exact again I7 F
  |cont=>obtain⟨a,t,I7,F⟩:=z;exact again I7 F
  |brk=>obtain⟨a,t,I7,z⟩:=z;exact⟨a,t,I7.unpinned,z⟩
  |ret v=>obtain⟨x7,a,t,I7,r7,z⟩:=z;exact⟨x7,a,t,I7.unpinned,r7,z⟩
end
abbrev R2:=V->V->Hp->VK->Prop
def OpR(X:Cx)(f:Value->Value->Sem Value)(r:R2):Prop:=
 ∀(a:List (Addr×Obj)) (s:Shared) (b:St) (H:Hp) (x y:V) (v u:Value) (Q:VK),Inv X a b H s->RelV x v->RelV y u->r x y H Q ->
  wpAny (model X.prog X.w) X.A (f v u) (EP X a b Q) X.xe s
def UnR(X:Cx)(f:Value->Sem Value)(r:V->Hp->VK->Prop):Prop:=
 ∀(a:List (Addr×Obj)) (s:Shared) (b:St) (H:Hp) (x:V) (v:Value) (Q:VK),Inv X a b H s->RelV x v->r x H Q ->
  wpAny (model X.prog X.w) X.A (f v) (EP X a b Q) X.xe s
def CallR(X:Cx)(f:Value)(r:List V->Hp->VK->Prop):Prop:=
 ∀(a:List (Addr×Obj)) (s:Shared) (b:St) (H:Hp) (c:List V) (d:List Value) (Q:VK),Inv X a b H s->Vals c d->r c H Q ->
  wpAny (model X.prog X.w) X.A (call f d) (EP X a b Q) X.xe s
def Qrf(X:Cx)(r:V->Hp->(Bool->Hp->Prop)->Prop):Prop:=
 ∀(a:List (Addr×Obj)) (s:Shared) (b:St) (H:Hp) (x:V) (v:Value) (Q:Bool->Hp->Prop),Inv X a b H s->RelV x v->r x H Q ->
  wpAny (model X.prog X.w) X.A (truthy v) (TP X a b Q) X.xe s
noncomputable def tOp(r:R2)(c b:TE):TE:=fun a H Q=>c a H fun x e=>b a e fun y d=>r x y d Q
noncomputable def tUn(r:V->Hp->VK->Prop)(b:TE):TE:=fun a H Q=>b a H fun x c=>r x c Q
noncomputable def rI(C:Int->Int->Prop)(g:Int->Int->V):R2:=fun x y H Q=>∃i j,x=.int i/\y=.int j/\C i j/\Q (g i j) H
noncomputable def rI0(g:Int->Int->V):R2:=fun x y H Q=>∃i j,x=.int i/\y=.int j/\Q (g i j) H
noncomputable def rU(g:Int->V):V->Hp->VK->Prop:=fun x H Q=>∃i,x=.int i/\Q (g i) H
section
variable{X:Cx}{a b c:Expr}{ta tb tc:TE}{pos:Pos}
theorem Qnf(z:PE X a ta)(t:PE X b tb){d:List (Addr×Obj)}{s:Shared}{σ:St}{H:Hp}{R:V->V->Hp->Prop}(I:Inv X d σ H s)
  (h:ta σ H fun x l=>tb σ l fun y e=>R x y e) {Q:Value->Shared->Prop} {f:Value->Value->Sem Value}
  (r:∀v u j x y e,Inv X d σ e j->RelV x v->RelV y u->R x y e->wpAny (model X.prog X.w) X.A (f v u) Q X.xe j) :
  wpAny (model X.prog X.w) X.A (eval a X.env) (fun v i=>wpAny (model X.prog X.w) X.A (eval b X.env) (fun u g=>wpAny (model X.prog X.w) X.A (f v u) Q X.xe g) X.xe i) X.xe s:=by
 refine thn (z d s σ H _ I h) fun v m ⟨x,l,I1,o,q⟩=>?_;refine thn (t d m σ l _ I1 q) fun u j ⟨y,e,I2,n,p⟩=>?_;exact r v u j x y e I2 o n p
theorem QnR{op:Operator}{r:R2}(j:OpR X (binaryOp op) r)(m:PE X a ta)(l:PE X b tb):PE X (.BinOp a op b pos) (tOp r ta tb):=by
 intro d s e H Q I h;exact wpAny_BinOp (Qnf m l I h fun v u f x y n I2 i g q=>j d f e n x y v u Q I2 i g q)
theorem Qoz{op:UnaryOp}{r:V->Hp->VK->Prop}(j:UnR X (unaryOp op) r)(l:PE X a ta):PE X (.UnaryOp op a pos) (tUn r ta):=by
 intro d s e H Q I h;exact UnaryOp_ (thn (l d s e H _ I h) fun v f ⟨x,m,I1,g,i⟩=>j d f e m x v Q I1 g i)
theorem opI{f:Value->Value->Sem Value}{C:Int->Int->Prop}{g:Int->Int->Int}
  (rule:∀(i j:Int) (t u:Tok) (s:Shared) (Q:Value->Shared->Prop) (E:Value->Shared->Prop),C i j->Q (.int (g i j) s.toks) { s with toks:=s.toks+1 }->wpAny (model X.prog X.w) X.A (f (.int i t) (.int j u)) Q E s) :
  OpR X f (rI C fun i j=>.int (g i j)):=by
 intro d s o H x y v u Q I m l h;obtain⟨i,j,rfl,rfl,n,q⟩:=h;obtain⟨t,rfl⟩:=m;obtain⟨e,rfl⟩:=l;exact rule i j t e s _ _ n ⟨.int (g i j),H,I.tok _,⟨_,rfl⟩,q⟩
theorem Qog{f:Value->Value->Sem Value}{g:Int->Int->Int}
  (rule:∀(i j:Int) (t u:Tok) (s:Shared) (Q:Value->Shared->Prop) (E:Value->Shared->Prop),Q (.int (g i j) s.toks) { s with toks:=s.toks+1 }->wpAny (model X.prog X.w) X.A (f (.int i t) (.int j u)) Q E s) :
  OpR X f (rI0 fun i j=>.int (g i j)):=by
 intro d s n H x y v u Q I m l h;obtain⟨i,j,rfl,rfl,q⟩:=h;obtain⟨t,rfl⟩:=m;obtain⟨e,rfl⟩:=l;exact rule i j t e s _ _ ⟨.int (g i j),H,I.tok _,⟨_,rfl⟩,q⟩
theorem QmS{f:Value->Value->Sem Value}{g:Int->Int->Bool}
  (rule:∀(i j:Int) (t u:Tok) (s:Shared) (Q:Value->Shared->Prop) (E:Value->Shared->Prop),Q (.bool (g i j)) s->wpAny (model X.prog X.w) X.A (f (.int i t) (.int j u)) Q E s) :
  OpR X f (rI0 fun i j=>.bl (g i j)):=by
 intro d s n H x y v u Q I m l h;obtain⟨i,j,rfl,rfl,q⟩:=h;obtain⟨t,rfl⟩:=m;obtain⟨e,rfl⟩:=l;exact rule i j t e s _ _ ⟨.bl (g i j),H,I,rfl,q⟩
def Qri(i j:Int):Prop:=0<j/\j<1073741824
def QqC(i j:Int):Prop:=0<=j/\j<=1000000/\i.natAbs<2^64
def CMul(i j:Int):Prop:=(-(2^64)<i/\i<2^64)\/(-(2^64)<j/\j<2^64)
theorem CMul.ok{i j:Int}(h:CMul i j):IntMulOk i j:=by
 rcases h with⟨e,d⟩|⟨e,d⟩
 ·exact .of_left (intBits_le_64 e d)
 ·exact .of_right (intBits_le_64 e d)
theorem op_add:OpR X (binaryOp .Add) (rI0 fun i j=>.int (i+j)):=Qog fun _ _ _ _ _ _ _ q=>add_int q
theorem Qmz:OpR X (binaryOp .Sub) (rI0 fun i j=>.int (i-j)):=Qog fun _ _ _ _ _ _ _ q=>sub_int q
theorem QmC:OpR X (binaryOp .Mult) (rI CMul fun i j=>.int (i*j)):=opI fun _ _ _ _ _ _ _ d q=>mul_int q d.ok
theorem Qkb:OpR X (binaryOp .FloorDiv) (rI Qri fun i j=>.int (i/j)):=opI fun i j _ _ _ _ _ d q=>by
 have e:(0:Int)<j:=d.1;have f:j<1073741824:=d.2;exact floordiv_int (FA e) (by rw[Int.fdiv_eq_ediv_of_nonneg i (Int.le_of_lt e)];exact q) (.inl (LS (by omega)))
theorem Qmj:OpR X (binaryOp .Mod) (rI (fun _ j=>0<j) fun i j=>.int (i%j)):=opI fun i j _ _ _ _ _ d q=>by
 have e:(0:Int)<j:=d;exact mod_int' (FA d) (by rw[Int.fmod_eq_emod_of_nonneg i (Int.le_of_lt d)];exact q)
theorem QkK:OpR X (binaryOp .Pow) (rI QqC fun i j=>.int (i^j.toNat)):=opI fun _ _ _ _ _ _ _ d q=>pow_int_small d.1 d.2.1 d.2.2 q
theorem QjX:OpR X (inplaceOp .Add) (rI0 fun i j=>.int (i+j)):=Qog fun _ _ _ _ _ _ _ q=>iadd_int q
theorem unI{f:Value->Sem Value}{g:Int->Int}
  (rule:∀(i:Int) (t:Tok) (s:Shared) (Q:Value->Shared->Prop) (E:Value->Shared->Prop),Q (.int (g i) s.toks) { s with toks:=s.toks+1 }->wpAny (model X.prog X.w) X.A (f (.int i t)) Q E s) :
  UnR X f (rU fun i=>.int (g i)):=by
 intro d s j H x v Q I e h;obtain⟨i,rfl,q⟩:=h;obtain⟨t,rfl⟩:=e;exact rule i t s _ _ ⟨.int (g i),H,I.tok _,⟨_,rfl⟩,q⟩
theorem QlW:UnR X (unaryOp .USub) (rU fun i=>.int (-i)):=unI fun _ _ _ _ _ q=>neg_int q
end
section
variable{X:Cx}{a b c:Expr}{ta tb tc:TE}{pos:Pos}
theorem QeB{d:List (Addr×Obj)}{σ:St}{H:Hp}{s:Shared}{Q:VK}{k f:Bool}(I:Inv X d σ H s)(q:Q (.bl k) H)(e:k=f):EP X d σ Q (.bool f) s:=by
 subst e;exact⟨.bl k,H,I,rfl,q⟩
theorem op_lt:OpR X (compareOp .Lt) (rI0 fun i j=>.bl (decide (i<j))):=QmS fun _ _ _ _ _ _ _ q=>lt_int q
theorem op_le:OpR X (compareOp .LtE) (rI0 fun i j=>.bl (decide (i<=j))):=QmS fun _ _ _ _ _ _ _ q=>le_int q
theorem QnI:OpR X (compareOp .Gt) (rI0 fun i j=>.bl (decide (j<i))):=QmS fun _ _ _ _ _ _ _ q=>gt_int q
theorem Qoa:OpR X (compareOp .GtE) (rI0 fun i j=>.bl (decide (j<=i))):=QmS fun _ _ _ _ _ _ _ q=>ge_int q
theorem Qev:OpR X (compareOp .Lt) (fun x y H Q=>∃i j,x=.str i/\y=.str j/\Q (.bl (decide (i.cps.toList<j.cps.toList))) H):=by
 intro d s g H x y v u Q I f e h;obtain⟨i,j,rfl,rfl,q⟩:=h;obtain⟨t,rfl⟩:=f;obtain⟨l,rfl⟩:=e;exact lt_str (QeB I q rfl)
theorem op_isN:OpR X (compareOp .Is) (fun x y H Q=>y=.non/\Q (.bl (decide (x=.non))) H):=by
 intro e s g H x y v u Q I d f h;obtain⟨rfl,q⟩:=h;cases f;refine is_none_gen (QeB I q ?_)
 cases x<;>first
  |(cases d;rfl)
  |(obtain⟨t,rfl⟩:=d;rfl)
theorem Qkd:OpR X (compareOp .IsNot) (fun x y H Q=>y=.non/\Q (.bl (!decide (x=.non))) H):=by
 intro e s g H x y v u Q I d f h;obtain⟨rfl,q⟩:=h;cases f;refine isnot_none_gen (QeB I q ?_)
 cases x<;>first
  |(cases d;rfl)
  |(obtain⟨t,rfl⟩:=d;rfl)
theorem OpR.or{f:Value->Value->Sem Value}{r j:R2}(h:OpR X f r)(h':OpR X f j):OpR X f (fun x y H Q=>r x y H Q\/j x y H Q):=by
 intro d s e H x y v u Q I i g q
 rcases q with q|q
 ·exact h d s e H x y v u Q I i g q
 ·exact h' d s e H x y v u Q I i g q
theorem QjV{op:CmpOp}{r:R2}(j:OpR X (compareOp op) r)(n:PE X a ta)(m:PE X b tb)(l:behindInMarks op b=false):PE X (.Compare a [op] [b] pos) (tOp r ta tb):=by
 intro d s e H Q I h;exact wpAny_Compare1 (Qnf n m I h fun v u f x y o I2 i g q=>j d f e o x y v u Q I2 i g q) l
noncomputable def QkQ(t:TE):TT:=fun d H Q=>t d H fun x e=>∃k,x=.bl k/\Q k e
theorem Qj5{op:CmpOp}{r:R2}(q:OpR X (compareOp op) r)(A:PE X a ta)(w:PE X b tb)(t:behindInMarks op b=false):PT X (.Compare a [op] [b] pos) (QkQ (tOp r ta tb)):=by
 intro d s f H Q I h
 refine wpAny_isTrue_Compare1 (thn (A d s f H _ I h) fun v i ⟨x,D,I1,m,p⟩=>thn (w d i f D _ I1 p) fun u g ⟨y,C,I2,l,o⟩=>
  thn (q d g f C x y v u _ I2 m l o) fun c E ⟨z,B,I3,j,k,e,n⟩=>?_) t
 subst e;cases j;exact Di ⟨B,I3,n⟩
noncomputable def Qhr(r g:R2)(ta tb tc:TE):TE:=fun d H Q=>ta d H fun x j=>tb d j fun y i=>r x y i fun z e=>∃k,z=.bl k /\
 (if k=true then tc d e fun f h=>g y f h Q else Q (.bl false) e)
theorem Qgk{op g:CmpOp}{r m:R2}(O:OpR X (compareOp op) r)(j:OpR X (compareOp g) m)(T:PE X a ta)(S:PE X b tb)(R:PE X c tc)
  (P:lastMarks [op,g] [b,c]=false:=by with_unfolding_all rfl):PT X (.Compare a [op,g] [b,c] pos) (QkQ (Qhr r m ta tb tc)):=by
 intro f s i H Q I h
 refine isTrue_chain (thn (T f s i H _ I h) fun v B ⟨x,H1,I1,F,M⟩=>test_link (thn (S f B i H1 _ I1 M) fun u A ⟨y,H2,I2,l,L⟩=>
  thn (O f A i H2 x y v u _ I2 F l L) fun d w ⟨z,o,I3,E,k,e,n⟩=>?_)) P
 subst e;cases E;refine Di ?_;cases k with
 |false=>
  obtain⟨k',Y,N⟩:=n;cases Y;exact ite_ff ⟨o,I3,N⟩
 |true=>
  refine ite_tt (test_last (thn (R f w i o _ I3 n) fun q t ⟨p,H4,I4,D,J⟩=>thn (j f t i H4 y p u q _ I4 l D J) fun d' s5 ⟨z2,Z,I5,C,k2,U,G⟩=>?_));subst U;cases C;exact Di ⟨Z,I5,G⟩
def QnS(K:Ng)(x:V)(H:Hp)(k:Bool):Prop:=
 match x with
 |.non=>k=false
 |.bl b=>k=b
 |.int i=>k=(i != 0)
 |.str y=>y.length<=sizeLine/\k=((y.length:Int) != 0)
 |.byt y=>y.size<=sizeLine/\k=((y.size:Int) != 0)
 |.ref p=>(∃d,SqL K H p d/\k=!d.isEmpty)\/(∃d,SqT K H p d/\k=!d.isEmpty)\/∃e,H p=some (.dK e)/\k=!e.isEmpty
 |_=>False
theorem QcY{κ:Type}{d:List (κ×V)}{e:List (κ×Value)}(r:KV d e):(!e.isEmpty)=!d.isEmpty:=by
 cases r<;>rfl
theorem UB{xs:List V}{its:List Value}(r:Vals xs its):(!its.toArray.isEmpty)=!xs.isEmpty:=by
 cases r<;>simp
theorem Wo:(sizeLine:Nat)<2^63:=by rw[DZ];decide
theorem QlQ:Qrf X (fun x H Q=>∃k,QnS X.K x H k/\Q k H):=by
 intro A s E H x v Q I l h;obtain⟨k,e,q⟩:=h;have F:=Wo;have D:sizeLine=16777216:=DZ;cases x with
 |non=>
  cases l;have d:k=false:=e;subst d;exact truthy_none ⟨H,I,q⟩
 |bl b=>
  cases l;have d:k=b:=e;subst d;exact Di ⟨H,I,q⟩
 |int i=>
  obtain⟨t,rfl⟩:=l;have d:k=(i != 0):=e;subst d;exact PySem.P.truthy_int ⟨H,I,q⟩
 |str y=>
  obtain⟨t,rfl⟩:=l;obtain⟨C,d⟩:y.length<=sizeLine/\k=((y.length:Int) != 0):=e;subst d;exact PySem.P.truthy_str (by lia) ⟨H,I.tok _,q⟩
 |byt y=>
  obtain⟨t,rfl⟩:=l;obtain⟨C,d⟩:y.size<=sizeLine/\k=((y.size:Int) != 0):=e;subst d;exact PySem.W.truthy_bytes (Nr (Nh (Nn C (Nt D)) (by decide))) ⟨H,I.tok _,q⟩
 |ref p=>
  cases l;have d:(∃j,SqL X.K H p j/\k=!j.isEmpty)\/(∃j,SqT X.K H p j/\k=!j.isEmpty)\/∃f,H p=some (.dK f)/\k=!f.isEmpty:=e
  rcases d with⟨j,n,d⟩|⟨j,n,d⟩|⟨f,n,d⟩
  ·subst d;obtain⟨z,r,u,B⟩:=I.list n;have g:=r.length;exact wpAny_truthy_list u.isList (by simp only[Nq];lia) ⟨H,I.tok _,by rw[UB r];exact q⟩
  ·subst d;obtain⟨z,r,u,B⟩:=I.tuple n;have g:=r.length;exact truthy_tuple u (by simp only[Nq];omega) ⟨H,I.tok _,by rw[UB r];exact q⟩
  ·subst d;obtain⟨B,hS,o,r,m⟩:f.length<=sizeLine/\(p==sysModules)=false/\∃o,KV f o/\s.heap.DictOf (VQ X.prog X.w) p o:=I.hok p _ n;have g:f.length=o.length:=NW r;exact wpAny_truthy_dict hS m (by lia) ⟨H,I.tok _,by rw[QcY r];exact q⟩
 |_=>exact(show False from e).elim
theorem Qgn(l:PE X a ta)(j:∀whole,isTrue a X.env whole=(do let v <-whole;standAt a.pos;holding [v] (truthy v))) :
  PT X a (fun σ H Q=>ta σ H fun x e=>∃k,QnS X.K x e k/\Q k e):=by
 intro d s σ H Q I h;exact isTrue_plain (thn (l d s σ H _ I h) fun v f ⟨x,m,I1,g,i⟩=>QlQ d f σ m x v Q I1 g i) (j _)
theorem op_add_str:OpR X (binaryOp .Add) (fun x y H Q=>∃i j,x=.str i/\y=.str j/\i.length+j.length<=sizeLine/\Q (.str (i++j)) H):=by
 intro d s m H x y v u Q I g f h;obtain⟨i,j,rfl,rfl,l,q⟩:=h;obtain⟨t,rfl⟩:=g;obtain⟨e,rfl⟩:=f;exact add_str (fun e tk=>⟨.str (i++j),H,I.tok _,⟨_,rfl⟩,q⟩) l
theorem KQ{x:V}{us:List Value}(r:Vals [x] us):∃u,us=[u]/\RelV x u:=by
 cases r with
 |cons e d=>cases d;exact⟨_,rfl,e⟩
theorem GE{x y:V}{us:List Value}(r:Vals [x,y] us):∃u w',us=[u,w']/\RelV x u/\RelV y w':=by
 cases r with
 |cons g f=>
  cases f with
  |cons e d=>cases d;exact⟨_,_,rfl,g,e⟩
theorem QdQ(f:X.calm=true):CallR X (.builtin "max") (fun xs H Q=>∃i j,xs=[.int i,.int j]/\Q (.int (if j>i then j else i)) H):=by
 intro e s g H xs m Q I r h;obtain⟨i,j,rfl,q⟩:=h;obtain⟨u,l,rfl,⟨t,rfl⟩,⟨n,rfl⟩⟩:=GE r;refine max_two_ints (I.ok.hd f) fun o tk k=>⟨_,H,I.kept k,?_,q⟩
 by_cases d:j>i
 ·rw[if_pos d,if_pos d];exact⟨_,rfl⟩
 ·rw[if_neg d,if_neg d];exact⟨_,rfl⟩
theorem QdL(f:X.calm=true):CallR X (.builtin "min") (fun xs H Q=>∃i j,xs=[.int i,.int j]/\Q (.int (if j<i then j else i)) H):=by
 intro e s g H xs m Q I r h;obtain⟨i,j,rfl,q⟩:=h;obtain⟨u,l,rfl,⟨t,rfl⟩,⟨n,rfl⟩⟩:=GE r;refine min_two_ints (I.ok.hd f) fun o tk k=>⟨_,H,I.kept k,?_,q⟩
 by_cases d:j<i
 ·rw[if_pos d,if_pos d];exact⟨_,rfl⟩
 ·rw[if_neg d,if_neg d];exact⟨_,rfl⟩
theorem QeN:CallR X (.type "int") (fun xs H Q=>(∃i,xs=[.int i]/\Q (.int i) H)\/∃k,xs=[.bl k]/\Q (.int (if k then 1 else 0)) H):=by
 intro d s f H xs g Q I r h
 rcases h with⟨i,rfl,q⟩|⟨k,rfl,q⟩
 ·obtain⟨u,rfl,t,rfl⟩:=KQ r;exact call_int_int ⟨.int i,H,I,⟨_,rfl⟩,q⟩
 ·obtain⟨u,rfl,e⟩:=KQ r;cases e;exact call_int_bool ⟨.int (if k then 1 else 0),H,I.tok _,⟨_,rfl⟩,q⟩
end
structure ObjM(h:Heap)(x dx C:Addr)(mA:Str->Option Value):Prop where
 obj:h.get? x=some (LK C dx)
 ns:h.Ns1 dx mA
 ne:dx≠x
theorem Qeo{h:Heap}{g:Addr}{d:Str->Option Value}(n:h.Ns1 g d):∃c,h.get? g=some c/\∀name,L6 name c=some (d name):=by
 obtain⟨o,f,r,j,hd,m,_,l⟩:=n;refine⟨o,j,fun name=>?_⟩;have e:=l name;unfold nsFind findBy at e;rw[<-Array.find?_toList]at e;unfold L6;rw[hd];dsimp only;split
 ·rename_i y q;rw[q]at e;exact congrArg some e
 ·rename_i q;rw[q]at e
  have a:f.toList.any (·.refKey)=false:=by
   rw[OX];intro y i;obtain⟨z,t,b⟩:=m y (Oh.mp i);simp[DictEntry.refKey,b]
  have p:¬f.toList.any (·.refKey)=true:=by rw[a];exact NQ
  rw[if_neg p];exact congrArg some e
theorem ObjM.look{h:Heap}{x c C:Addr}{b:Str->Option Value}(I:ObjM h x c C b):∃a,PySem.W.InstAt h x (LK C c) C (some a)/\∀name,L6 name a=some (b name):=
 let⟨a,d,e⟩:=Qeo I.ns
 ⟨a,⟨I.obj,rfl,rfl,d⟩,e⟩
theorem RelO.some_of{v:V}{o:Option Value}(r:RelO (some v) o):∃u,o=some u/\RelV v u:=by
 cases o with
 |none=>exact(show False from r).elim
 |some u=>exact⟨u,rfl,r⟩
theorem RelO.none_of{o:Option Value}(r:RelO none o):o=none:=by
 cases o with
 |none=>rfl
 |some u=>exact(show False from r).elim
section
variable{P:Program}{w:World}{H H':Hp}{h h':Heap}{a C dx:Addr}{fs fs':List (Str×V)}
theorem QiR(c:HOk P w H h)(e:H a=some (.ins C dx fs)):∃b,ObjM h a dx C b/\(∀f,RelO (fs.lookup f) (b f))/\PySem.Within b (fs.map (·.1))/\fs.length<=1000/\H dx=some (.own a):=by
 obtain⟨d,z,ne,ob,b,n,r,q⟩:=(show ObjOk P w H h a (.ins C dx fs)from c a _ e)
 exact⟨b,⟨ob,n,ne⟩,r,q,z,d⟩
end
structure Cls(K:Ng)(C:Addr):Prop where
 pg:Lx K C Str.empty=true
 hd:OY K C=true
 po:OZ K C=true
 sa:D6 K (.ref C) "__setattr__"=some (some (.builtin "object.__setattr__"))
theorem Cls.get{K:Ng}{C:Addr}(c:Cls K C)(f:Str):Lx K C f=true:=c.pg
def Qpv(K:Ng)(C:Addr)(f:Str):Prop:=D6 K (.ref C) f=some none
structure Meth(K:Ng)(C:Addr)(m:Str)(f:Addr):Prop where
 at_:D6 K (.ref C) m=some (some (.ref f))
 fn:Yay K (.ref f)=true
 kp:EE K (.ref f)=true
section
variable{X:Cx}{pins:List (Addr×Obj)}{σ:St}{H:Hp}{s:Shared}{A:Around}{E:Value->Shared->Prop}{Q:Value->Shared->Prop}{c:Value}{b:Bool}
inductive TyOf(K:Ng)(H:Hp):V->Value->Prop where
 |non:TyOf K H .non (.type "NoneType")
 |bl (x:Bool):TyOf K H (.bl x) (.type "bool")
 |int (i:Int):TyOf K H (.int i) (.type "int")
 |str (x:Str):TyOf K H (.str x) (.type "str")
 |flt (x:UInt64):TyOf K H (.flt x) (.type "float")
 |lst {a:Addr} {xs:List V} (e:H a=some (.lst xs)):TyOf K H (.ref a) (.type "list")
 |frz {a:Addr} {o:Obj} {xs:List V} (e:H a=some (.frz o (.lst xs))):TyOf K H (.ref a) (.type "list")
 |tup {a:Addr} {xs:List V} (e:H a=some (.tup xs)):TyOf K H (.ref a) (.type "tuple")
 |dK {a:Addr} {kvs:List (Key×V)} (e:H a=some (.dK kvs)):TyOf K H (.ref a) (.type "dict")
 |dT {a:Addr} {kvs:List (Tr×Addr×V)} (e:H a=some (.dT kvs)):TyOf K H (.ref a) (.type "dict")
 | ins {a C dx:Addr} {fs:List (Str×V)} (e:H a=some (.ins C dx fs)) (cl:Cls K C) (ha:D6 K (.ref C) "__class__"=some (some (.builtin "object.__class__")))
   (hn:PySem.W.specialIn K (.builtin "object.__class__") "__get__"=some (some (.builtin "getset_descriptor.__get__"))) (htk:PySem.W.takesIn K (.builtin "object.__class__")=some true)
   (hm:PySem.W.mroIn K C (.type "object")=some true):TyOf K H (.ref a) (.ref C)
theorem QdO{x:V}{u t:Value}(I:Inv X pins σ H s)(d:RelV x u)(ty:TyOf X.K H x t)(e:Yav X.K t c=some b)(h:∀tk,Q (.bool b) { s with toks:=tk }) :
  wpAny (model X.prog X.w) A (call (.builtin "isinstance") [u,c]) Q E s:=by
 cases ty with
 |non=>cases(show u=Value.none from d);exact Eu PySem.W.kitx_none I.kIn True.intro e (fun z=>nomatch z) h
 |bl y=>cases(show u=Value.bool y from d);exact Eu PySem.W.kitx_bool I.kIn True.intro e (fun z=>nomatch z) h
 |int i=>obtain⟨t,q⟩:=(show∃t,u=Value.int i t from d);cases q;exact Eu PySem.W.kitx_int I.kIn True.intro e (fun z=>nomatch z) h
 |str y=>obtain⟨t,q⟩:=(show∃t,u=Value.str y t from d);cases q;exact Eu PySem.W.kitx_str I.kIn True.intro e (fun z=>nomatch z) h
 |flt y=>obtain⟨t,q⟩:=(show∃t,u=Value.float y t from d);cases q;exact Eu PySem.W.kitx_float I.kIn True.intro e (fun z=>nomatch z) h
 |@lst a l f=>
  cases(show u=Value.ref a from d);obtain⟨_,_,n,_,g⟩:=(show ObjOk X.prog X.w H s.heap a (.lst l)from I.hok a _ f)
  exact Eu Lj I.kIn ⟨_,g,rfl⟩ e (fun z=>nomatch z) h
 |@frz a ob l f=>
  cases(show u=Value.ref a from d);obtain⟨_,_,_,n,_,g⟩:=(show ObjOk X.prog X.w H s.heap a (.frz ob (.lst l))from I.hok a _ f)
  exact Eu Lj I.kIn ⟨_,g,rfl⟩ e (fun z=>nomatch z) h
 |@tup a l f=>
  cases(show u=Value.ref a from d);obtain⟨_,_,_,p⟩:=(show ObjOk X.prog X.w H s.heap a (.tup l)from I.hok a _ f)
  obtain⟨o,g,m,_⟩:=p;exact Eu OO I.kIn ⟨o,g,m⟩ e (fun z=>nomatch z) h
 |@dK a j f=>
  cases(show u=Value.ref a from d);obtain⟨_,_,M,_,p⟩:=(show ObjOk X.prog X.w H s.heap a (.dK j)from I.hok a _ f)
  obtain⟨o,G,L,g,m,_⟩:=p;exact Eu O0 I.kIn ⟨o,g,m.1⟩ e (fun z=>nomatch z) h
 |@dT a j f=>
  cases(show u=Value.ref a from d);obtain⟨_,_,l,_,o,G,L,g,m,_⟩:=(show ObjOk X.prog X.w H s.heap a (.dT j)from I.hok a _ f)
  exact Eu O0 I.kIn ⟨o,g,m.1⟩ e (fun z=>nomatch z) h
 |@ins a C R fs f v F B r D=>
  cases(show u=Value.ref a from d);obtain⟨P,O,_⟩:=QiR I.hok f;obtain⟨N,J,_⟩:=O.look;exact Eu (PySem.W.kitx_own (v.get _) v.hd F B r D) I.kIn J e (fun z=>nomatch z) h
end
structure Room(k:Nat)(A:Around):Prop where
 hd:A.handled=none
 dp:A.depth+3*k+5<recursionLimit
 un:A.units+16*k+200<cLine
theorem Room.mono{j k:Nat}{A:Around}(r:Room k A)(h:j<=k):Room j A:=⟨r.hd,by have:=r.dp;lia,by have:=r.un;lia⟩
theorem Room.deeper{k:Nat}{A:Around}(r:Room (k+1) A)(env:Env):Room k (A.deeper env):=
 ⟨r.hd,by have:=r.dp;show A.depth+1+3*k+5<_;lia,by have:=r.un;show A.units+3+16*k+200<_;lia⟩
theorem Room.depth{k:Nat}{A:Around}(r:Room k A):A.depth<recursionLimit:=by have:=r.dp;exact Nh (Nn (Nv _ _) (Nv _ _)) this
theorem Room.units{k:Nat}{A:Around}(r:Room k A):A.units+64<cLine:=by have:=r.un;lia
noncomputable def QpG:TA:=fun _ H Q=>Q [] H
noncomputable def QnJ(d:TE)(c:TA):TA:=fun a H Q=>d a H fun x f=>c a f fun b e=>Q (x::b) e
section
variable{X:Cx}{e:Expr}{es:List Expr}{te:TE}{t:TA}{pos:Pos}
theorem Qlw:PA X [] QpG:=fun _ _ _ _ H Q I h=>Dj ⟨[],H,I,.nil,h⟩
theorem Qkk(m:PE X e te)(hr:PA X es t)(l:starEach (e::es) X.env=(false,eval e X.env)::starEach es X.env:=by rfl):PA X (e::es) (QnJ te t):=by
 intro pos a s b H Q I h;rw[l];show wpAny _ _ (spliced ((false,eval e X.env)::backTo pos (starEach es X.env))) _ _ s;refine E8 (thn (m a s b H _ I h) fun u d ⟨x,o,I1,g,j⟩=>?_);exact thn (hr pos a d b o _ I1 j) fun p q ⟨c,n,I2,f,i⟩=>⟨x::c,n,I2,.cons g f,i⟩
def QpW(t:TA):TE:=fun c H Q=>t c H fun a b=>a.length<=sizeLine/\∀p,b p=none->Q (.ref p) (upd b p (.tup a))
def Qro(t:TA):TE:=fun c H Q=>t c H fun a b=>a.length<=sizeLine/\∀p,b p=none->Q (.ref p) (upd b p (.lst a))
theorem Qk0{i}(h:PA X es t):PE X (.Tuple es i pos) (QpW t):=by
 intro a s f H Q I l;refine wpAny_Tuple_spliced (thn (h pos a s f H _ I l) fun j c ⟨g,d,I1,r,z,q⟩=>⟨by rw[<-r.length];exact z,?_⟩);have m:d c.heap.objs.size=none:=I1.hok.fresh (Nz _);refine⟨.ref c.heap.objs.size,upd d c.heap.objs.size (.tup g),I1.laid (t':=c.toks) (fun b u e=>No _ e) (Nz _) ?_,rfl,q _ m⟩;exact⟨z,j,r,⟨_,NB _ rfl,rfl,_,rfl⟩⟩
theorem QhT(h:PA X es t):PE X (.List es pos) (Qro t):=by
 intro a s f H Q I j;refine wpAny_List_spliced (thn (h pos a s f H _ I j) fun i c ⟨g,d,I1,r,z,q⟩=>⟨by rw[<-r.length];exact z,?_⟩);have l:d c.heap.objs.size=none:=I1.hok.fresh (Nz _);refine⟨.ref c.heap.objs.size,upd d c.heap.objs.size (.lst g),I1.laid (t':=c.toks) (fun b u e=>No _ e) (Nz _) ?_,rfl,q _ l⟩;exact⟨z,i,0,r,NB _ rfl⟩
end
abbrev Sp:=List V->Hp->VK->XK->Prop
abbrev CXT:=List Env->Hp->Shared->XK->Value->Shared->Prop
structure Env0(P:Program)(w:World)(K:Ng)(mg:Str->Option Value)(base:Heap)(A:Around)(outer:List Env)(s:Shared)(H:Hp):Prop where
 frames:A.frames=some outer
 mod:Mod K mg base
 bs:∀b o,base.get? b=some o->s.heap.get? b=some o/\H b=none
 bsz:base.objs.size<=s.heap.objs.size
 funs:s.heap.FunFrames base outer
 frf:∀b∈frs outer,H b=none
 hok:HOk P w H s.heap
 bare:AllBare s.gens
def CE(a:List Env)(P:Program)(w:World)(H:Hp)(s:Shared)(Q:VK)(u:Value)(b:Shared):Prop:=
 ∃v c,b.os=s.os/\AllBare b.gens/\Un (frs a) [] H c s.heap b.heap/\HOk P w c b.heap/\RelV v u/\Q v c
def CR(CX:CXT)(a:List Env)(P:Program)(w:World)(H:Hp)(s:Shared)(Q:VK)(E:XK)(r:Result)(b:Shared):Prop:=
 match r with
 |.ok (.ret u)=>CE a P w H s Q u b
 |.ok _=>False
 |.error e=>CX a H s E e b
structure FnOk(P:Program)(w:World)(K:Ng)(mg:Str->Option Value)(base:Heap)(CX:CXT)(k:Nat)(f:Addr)(fd:FuncData)(ps:List Str)(sp:Sp):Prop where
 len:∀vs H Q E,sp vs H Q E->vs.length=ps.length
 run:∀(A:Around) (outer:List Env) (s:Shared) (H:Hp) (args:Args) (us:List Value) (vs:List V) (Q:VK) (E:XK),Room k A->Env0 P w K mg base A outer s H->BindsTo s fd args (ps.zip us)->Vals vs us->sp vs H Q E ->
  codeAny (model P w) A (.call (.ref f) args) (CR CX outer P w H s Q E) s
theorem FnOk.imp{P:Program}{w:World}{K:Ng}{d:Str->Option Value}{base:Heap}{CX:CXT}{k:Nat}{f:Addr}{fd:FuncData}{ps:List Str}{sp c:Sp}(F:FnOk P w K d base CX k f fd ps sp)
  (h:∀b H Q E,c b H Q E->sp b H Q E):FnOk P w K d base CX k f fd ps c:=
 ⟨fun b H Q E q=>F.len b H Q E (h _ _ _ _ q),fun A a s H args e b Q E hr j l g i=>F.run A a s H args e b Q E hr j l g (h _ _ _ _ i)⟩
section
variable{X:Cx}{pins:List (Addr×Obj)}{σ:St}{H:Hp}{s s':Shared}
theorem Inv.env0(I:Inv X pins σ H s):Env0 X.prog X.w X.K X.mg X.base X.A X.stack s H:=
 ⟨I.ok.frames,I.ok.mod,I.bs,Nn I.ok.bsz I.sz,I.stack,I.stkFree,I.hok,I.bare⟩
theorem Inv.after{Q:VK}{u:Value}(I:Inv X pins σ H s)(h:CE X.stack X.prog X.w H s Q u s'):EP X pins σ Q u s':=by
 obtain⟨v,f,os,bare,un,c,r,q⟩:=h;obtain⟨e,g,d,t,a⟩:=s';obtain rfl:a=s.os:=os;exact⟨v,f,I.call (h':=e) (g':=g) (d':=d) (t':=t) (ch:=[]) un c bare (fun b z=>absurd z (by simp)),r,q⟩
end
noncomputable def Qiw(sp:Sp)(a:List V)(E:XK)(t:TA):TE:=fun b H Q=>t b H fun c d=>sp (c++a) d Q E
def Binds(K:Ng)(fd:FuncData)(ps:List Str)(b:List Value):Prop:=
 ∀(s:Shared) (a:List Value),K.In s.heap->(a++b).length=ps.length->BindsTo s fd ⟨a,[]⟩ (ps.zip (a++b))
theorem Binds.all{K:Ng}{fd:FuncData}{ps:List Str}(h:∀us:List Value,us.length=ps.length->bindArgs fd ⟨us,[]⟩=pure (ps.zip us)):Binds K fd ps []:=fun s us _ a=>by
 rw[Dv]at a ⊢;exact .of_eq (h us a)
def UD(CX:CXT)(X:Cx)(E:XK):Prop:=∀(a:List (Addr×Obj)) (c:St) (H:Hp) (s:Shared) (e:Value) (b:Shared),Inv X a c H s->CX X.stack H s E e b->X.xe e b
section
variable{X:Cx}{CX:CXT}{k:Nat}{f C:Addr}{fd:FuncData}{ps:List Str}{sp:Sp}{dvs:List V}{ds:List Value}{E:XK}{x m:Str}{p pos apos:Pos}{e o:Expr}{es:List Expr}{ta:TE}{t:TA}
theorem Qhp{a:List (Addr×Obj)}{σ:St}{H:Hp}{s:Shared}{Q:VK}{us:List Value}{c:List V}(F:FnOk X.prog X.w X.K X.mg X.base CX k f fd ps sp)(hr:Room k X.A)(l:Binds X.K fd ps ds)(hd:Vals dvs ds)(i:UD CX X E)
  (I:Inv X a σ H s) (r:Vals c us) (h:sp (c++dvs) H Q E):wpAny (model X.prog X.w) X.A (call (.ref f) us) (EP X a σ Q) X.xe s:=by
 have d:Vals (c++dvs) (us++ds):=r.append hd;have j:(us++ds).length=ps.length:=by rw[<-d.length];exact F.len _ _ _ _ h
 refine wpAny_call (DJ (F.run X.A X.stack s H ⟨us,[]⟩ (us++ds) (c++dvs) Q E hr I.env0 (l s us I.kIn j) d h) fun r g b=>?_);cases r with
 |error e=>exact i a σ H s e g I b
 |ok n=>
  cases n with
  |ret u=>exact I.after b
  |next=>exact False.elim b
  |brk=>exact False.elim b
  |cont=>exact False.elim b
theorem Qiz(F:FnOk X.prog X.w X.K X.mg X.base CX k f fd ps sp)(hr:Room k X.A)(n:Gl X x)(j:X.mg x=some (.ref f))(l:EE X.K (.ref f)=true)(v:Binds X.K fd ps ds)(hd:Vals dvs ds)(i:UD CX X E)
  (y:PA X (e::es) t) (c:(x==("__debug__":Str))=false:=by decide) (u:starEach (e::es) X.env=(false,eval e X.env)::starEach es X.env:=by rfl) (b:(backTo pos (starEach es X.env)).any (·.1)=false:=by rfl) :
  PE X (.Call (.Name x p) (e::es) [] pos) (Qiw sp dvs E t):=by
 intro a s g H Q I h;refine EA (Qe1 I n j ?_ c);refine PySem.W.callWith_K (h₀:=X.base) I.ok.mod.kin l (thn (y pos a s g H _ I h) fun B D ⟨z,G,I1,r,q⟩=>⟨I1.kIn,?_⟩) u b;exact Qhp F hr v hd i I1 r q
theorem QgL(F:FnOk X.prog X.w X.K X.mg X.base CX k f fd ps sp)(hr:Room k X.A)(i:Gl X x)(d:X.mg x=some (.ref f))(g:EE X.K (.ref f)=true)(j:Binds X.K fd ps ds)(hd:Vals dvs ds)(c:UD CX X E)
  (a:(x==("__debug__":Str))=false:=by decide):PE X (.Call (.Name x p) [] [] pos) (Qiw sp dvs E QpG):=by
 intro b s l H Q I h;refine EA (Qe1 I i d ?_ a);exact PySem.W.callWith_K0 I.kIn g (Qhp (us:=[]) F hr j hd c I .nil h)
end
structure FnScope(N P:List Str)(sc:Scope):Prop where
 kind:sc.kind=.function
 co:sc.isCoroutine=false
 gen:sc.isGenerator=false
 nd:N.Nodup
 pre:N.take P.length=P
 par:∀x∈P,sc.names.lookup x=some .local\/sc.names.lookup x=some .cell
 nofree:∀y∈sc.names,y.2≠.free
theorem QaA{kindOf:Str->Option NameKind}{x:Str}:∀{binds:List (Str×Value)} {m:Str->Option Value},(∀v,(x,v)∉binds)->bindL kindOf binds m x=m x
 |[],_,_=>rfl
 | (n,v)::r,m,h=>by
  unfold bindL;rw[QaA fun w hw=>h w (Ny _ hw)];split
  ·have:x≠n:=by rintro rfl;exact h v NA
   simp[this]
  ·rfl
theorem G7{kindOf:Str->Option NameKind}{x:Str}:∀{binds:List (Str×Value)} {m:Str->Option Value},(∀v,(x,v)∉binds)->bindC kindOf binds m x=m x
 |[],_,_=>rfl
 | (n,v)::r,m,h=>by
  unfold bindC;rw[G7 fun w hw=>h w (Ny _ hw)];split
  ·rfl
  ·have:x≠n:=by rintro rfl;exact h v NA
   simp[this]
theorem GS{kindOf:Str->Option NameKind}{x:Str}{v:Value}:∀{P:List Str} {a:List Value} {i:Nat} {m:Str->Option Value},P.Nodup->P[i]?=some x->a[i]?=some v->kindOf x=some .local ->
  bindL kindOf (P.zip a) m x=some v
 |[],_,_,_,_,h,_,_=>by simp at h
 |_::_,[],_,_,_,_,h,_=>by simp at h
 |p::P,w::a,0,m,c,b,h2,d=>by
  simp at b h2;subst b;subst h2;show bindL kindOf ((p,w)::P.zip a) m p=_;unfold bindL;rw[QaA fun v e=>(EB.mp c).1 (LL e).1,if_pos d];simp
 |p::P,w::a,i+1,m,c,b,h2,d=>by
  show bindL kindOf ((p,w)::P.zip a) m x=_;unfold bindL;exact GS (i:=i) (EB.mp c).2 (by simpa using b) (by simpa using h2) d
theorem GX{kindOf:Str->Option NameKind}{x:Str}{v:Value}:∀{P:List Str} {a:List Value} {i:Nat} {m:Str->Option Value},P.Nodup->P[i]?=some x->a[i]?=some v->kindOf x≠some .local ->
  bindC kindOf (P.zip a) m x=some v
 |[],_,_,_,_,h,_,_=>by simp at h
 |_::_,[],_,_,_,_,h,_=>by simp at h
 |p::P,w::a,0,m,c,b,h2,d=>by
  simp at b h2;subst b;subst h2;show bindC kindOf ((p,w)::P.zip a) m p=_;unfold bindC;rw[G7 fun v e=>(EB.mp c).1 (LL e).1,if_neg d];simp
 |p::P,w::a,i+1,m,c,b,h2,d=>by
  show bindC kindOf ((p,w)::P.zip a) m x=_;unfold bindC;exact GX (i:=i) (EB.mp c).2 (by simpa using b) (by simpa using h2) d
noncomputable def start(N:List Str)(a:List V):St:=a.map some++List.replicate (N.length-a.length) none
noncomputable def Qht(CX:CXT)(P:Program)(w:World)(K:Ng)(mg:Str->Option Value)(base:Heap)(N:List Str)(b:Str)(a:Scope)(f:Addr)(cd:Value)(A:Around)(outer:List Env)(s:Shared)(H:Hp)(E:XK):Cx where
 prog:=P
 w:=w
 K:=K
 mg:=mg
 base:=base
 A:=A.deeper (envOfC b a s.heap.objs.size f cd)
 N:=N
 s₀:=s
 H₀:=H
 env:=envOfC b a s.heap.objs.size f cd
 outer:=outer
 stack:=envOfC b a s.heap.objs.size f cd::outer
 ex:=[]
 calm:=true
 fn:=fun _=>true
 pn:=[]
 xe:=fun e d=>wpAny (model P w) (A.deeper (envOfC b a s.heap.objs.size f cd)) (leaving (envOfC b a s.heap.objs.size f cd) e) (fun _ c=>CX outer H s E e c) (fun g c=>CX outer H s E g c) d
theorem Qbp{a:Scope}{n:Nat}{x:Str}(h:a.names.lookup x=some .cell):∃c,(cellsFrom n a.names []).lookup x=some c:=by
 have q:=LU a.names n [] (.inl h);exact Ly.mp q
theorem QeI{CX:CXT}{P:Program}{w:World}{K:Ng}{I:Str->Option Value}{base:Heap}{N ps:List Str}{j:Str}{d:Scope}{f:Addr}{cd:Value}{A:Around}{g:List Env}{s J:Shared}{H:Hp}{E:XK}{us:List Value}{o:List V}
  (S:FnScope N ps d) (hd:A.handled=none) (m:Env0 P w K I base A g s H) (O:o.length=ps.length) (r:Vals o us)
  (x:InCallC s s.heap.objs.size (bindL (envOfC j d s.heap.objs.size f cd).kindOf (ps.zip us) fun _=>none) (cellsFrom (s.heap.objs.size+1) d.names []) (bindC (envOfC j d s.heap.objs.size f cd).kindOf (ps.zip us) fun _=>none) J) :
  Inv (Qht CX P w K I base N j d f cd A g s H E) [] (start N o) H J:=by
 have M:ps.length<=N.length:=by have:=congrArg List.length S.pre;rw[Ei]at this;exact Nn (Nt this.symm) (E7 _ _)
 obtain⟨G,tk,rfl,L⟩:=x.done;have t:∀b:Addr,b∉(Qht CX P w K I base N j d f cd A g s H E).ex:=fun b z=>absurd (show b∈([]:List Addr)from z) (by simp)
 refine⟨⟨m.mod,S.kind,rfl,rfl,Nz _,fun y z c G l=>?_,fun y B=>?_,fun y c _ h=>?_,fun _=>hd,Around.frames_deeper m.frames,.inr ⟨rfl,rfl⟩,fun b z=>absurd z (t b),m.bs,m.bsz,fun b _ _=>t b,fun b z=>absurd z (t b),m.funs,m.frf⟩,
  rfl,m.bare,Un.kept L,⟨_,x.toInCall.ns,fun i y v G l R=>?_⟩,fun y c h=>⟨_,x.cell y c h⟩,m.hok.fresh (Nz _),fun y c h=>?_,fun p D=>absurd (show p∈([]:List (Addr×Obj))from D) (by simp),m.hok.kept L,?_⟩
 ·exact name_of_addr x.apart (DN G) (DN l)
 ·have B:d.names.lookup y=some .cell\/d.names.lookup y=some .free:=B
  rcases B with B|B
  ·exact Qbp B
  ·exact absurd rfl (S.nofree _ (DN B))
 ·exact Nr (x.above y c (DN h))
 ·have F:i<o.length:=by
   unfold start at l
   by_cases F:i<o.length
   ·exact F
   ·rw[DC (by simpa using F)]at l;rw[LG]at l;split at l<;>cases l
  have Q:o[i]?=some v:=by
   unfold start at l;rw[NO (by simpa using F),Np]at l;cases e:o[i]? with
   |none=>rw[e]at l;cases l
   |some a=>rw[e]at l;cases l;rfl
  obtain⟨u,hu,rv⟩:=r.get Q
  have D:ps[i]?=some y:=by
   rw[<-S.pre,List.getElem?_take_of_lt (Nk F (Nt O))];exact G
  have C:ps.Nodup:=by rw[<-S.pre];exact S.nd.sublist (Lk _ _)
  refine⟨u,rv,?_⟩
  rcases S.par y (Iu D)with k|k
  ·exact .inl ⟨k,GS C D hu k⟩
  ·obtain⟨c,e⟩:=Qbp (n:=s.heap.objs.size+1) k;refine .inr ⟨.inl k,c,e,?_⟩;have q:=x.cell y c e;rw[GX C D hu (by show d.names.lookup y≠_;rw[k];decide)]at q;exact q
 ·exact m.hok.fresh (Nr (x.above y c (DN h)))
 ·unfold start;show _=N.length;rw[NH,Nu,List.length_replicate];lia
theorem Qm8{CX:CXT}{P:Program}{w:World}{K:Ng}{F:Str->Option Value}{base:Heap}{k:Nat}{f:Addr}{name d:Str}{h:Arguments}{body:List Stmt}{a:Scope}{T kV D pm g ct oc:Value}{U Z:Option Addr}
  {L:Array (Option Value)} {N ps:List Str} {sp:Sp} (lk:K.lookup f=some ⟨oc,Z,.func (EQ name d h body a T kV D pm U g ct),L⟩) (O:FK K g d=true) (S:FnScope N ps a)
  (len:∀j H Q E,sp j H Q E->j.length=ps.length)
  (p:∀(A:Around) (c:List Env) (s:Shared) (H:Hp) (j:List V) (Q:VK) (E:XK),Room k (A.deeper (envOfC d a s.heap.objs.size f g))->sp j H Q E ->
   ∃t,PSs (Qht CX P w K F base N d a f g A c s H E) body t/\t { nx:=fun _ l=>Q .non l,rt:=Q } (start N j) H) :
  FnOk P w K F base CX (k+1) f (EQ name d h body a T kV D pm U g ct) ps sp:=by
 refine⟨len,fun A c s H args Y j Q E hr C hb r B=>?_⟩;have hl:=len _ _ _ _ B;have X:K.In s.heap:=C.mod.kin.keeps fun b o e=>(C.bs b o e).1;have M:s.heap.NoLimit:=C.mod.nolimit.keeps fun b o e=>(C.bs b o e).1
 have m:∀y∈ps.zip Y,a.names.lookup y.1=some .local\/(a.names.lookup y.1=some .cell/\((cellsFrom (s.heap.objs.size+1) a.names []).lookup y.1).isSome=true):=fun⟨n,v⟩ hy=>by
  rcases S.par n (LL hy).1 with q|q
  ·exact .inl q
  ·exact .inr ⟨q,LU _ _ _ (.inl q)⟩
 refine codeAny_call_function hr.depth (X _ _ lk) rfl S.co S.gen rfl (PySem.W.codeRec_of X O) (hb _ _ _ _ ?_);refine wpAny_newFunctionEnv_cells S.kind m fun aa he R x=>?_;subst he;refine⟨M.keeps x.toInCall.keep,codeAny_func ?_⟩;obtain⟨t,ht,hq⟩:=p A c s H j Q E (hr.deeper _) B;have I:Inv (Qht CX P w K F base N d a f g A c s H E) [] (start N j) H R:=QeI S hr.hd C hl r x;refine N0 (ht [] R (start N j) H _ I hq) (fun fl G z=>?_) fun e G z=>z
 have fin:∀{i:St} {l:Hp} {v:V} {u:Value},Inv (Qht CX P w K F base N d a f g A c s H E) [] i l G->RelV v u->Q v l->CE c P w H s Q u G:=
  fun {i l v u} J rv q=>⟨v,l,J.os,J.bare,J.base,J.hok,rv,q⟩
 cases fl with
 |ret u=>
  obtain⟨v,i,l,J,rv,q⟩:=z;exact fin J rv q
 |next=>
  obtain⟨i,l,J,q⟩:=z;exact fin (v:=V.non) (u:=Value.none) J rfl q
 |brk=>
  obtain⟨_,_,_,q⟩:=z;exact False.elim q
 |cont=>
  obtain⟨_,_,_,q⟩:=z;exact False.elim q
section
variable{X:Cx}{x:Str}{p pos:Pos}{e:Expr}{es:List Expr}{t:TA}{id T:String}{r:List V->Hp->VK->Prop}
noncomputable def tCB(r:List V->Hp->VK->Prop)(t:TA):TE:=fun a H Q=>t a H fun b c=>r b c Q
theorem Qf9(v:CallR X (.builtin id) r)(q:Gl X x)(o:X.mg x=none)(m:bootBuiltins x=some (.builtin id))(w:PA X (e::es) t)(n:x≠"__name__":=by decide)(c:(x==("__debug__":Str))=false:=by decide)
  (u:starEach (e::es) X.env=(false,eval e X.env)::starEach es X.env:=by rfl) (b:(backTo pos (starEach es X.env)).any (·.1)=false:=by rfl):PE X (.Call (.Name x p) (e::es) [] pos) (tCB r t):=by
 intro a s d H Q I h;refine EA (J9 I q o m ?_ n c);exact DS (thn (w pos a s d H _ I h) fun g i ⟨f,y,I1,j,l⟩=>v a i d y f g Q I1 j l) u b
theorem Qdi(v:CallR X (.type T) r)(q:Gl X x)(o:X.mg x=none)(m:bootBuiltins x=some (.type T))(w:PA X (e::es) t)(n:x≠"__name__":=by decide)(c:(x==("__debug__":Str))=false:=by decide)
  (u:starEach (e::es) X.env=(false,eval e X.env)::starEach es X.env:=by rfl) (b:(backTo pos (starEach es X.env)).any (·.1)=false:=by rfl):PE X (.Call (.Name x p) (e::es) [] pos) (tCB r t):=by
 intro a s d H Q I h;refine EA (J9 I q o m ?_ n c);exact NX (thn (w pos a s d H _ I h) fun g i ⟨f,y,I1,j,l⟩=>v a i d y f g Q I1 j l) u b
end
end L2
namespace HT
open PySem PyProof.Rows
section
variable{prog:Program}{w:World}{A:Around}{E:Value->Shared->Prop}{s:Shared}
theorem cat_tup{t b:Addr}{c ws:List Value}{Q:Value->Shared->Prop}(r:IsTup s.heap t c.toArray)(u:IsTup s.heap b ws.toArray)(o:c≠[])
  (v:ws=[]->Q (.ref t) s) (h2:ws≠[]->Q (.ref s.heap.objs.size) { s with heap:=s.heap.push { cls:=.type "tuple",data:=.seq (c++ws).toArray } })
  (j:c.length+ws.length<=sizeLine):wpAny (model prog w) A (binaryOp .Add (.ref t) (.ref b)) Q E s:=by
 obtain⟨⟨cls,dd,data,l⟩,i,p,n,hd⟩:=id r;obtain⟨⟨q,h,data2,d⟩,a,g,m,f⟩:=id u;simp only at p hd g f;subst p hd g f;have e:c.toArray++ws.toArray=(c++ws).toArray:=by simp
 by_cases hw:ws=[]
 ·exact OP ⟨_,i,rfl⟩ ⟨_,a,rfl⟩ Lz Ow F0 FP (FB _ _)
   (tuple_addW1 t b c.toArray ws.toArray n m dd h l d (by simpa using o) (by simp[hw])) ⟨i,a,v hw⟩
 ·refine OP ⟨_,i,rfl⟩ ⟨_,a,rfl⟩ Lz Ow F0 FP (FB _ _)
   (tuple_addW2 t b c.toArray ws.toArray n m dd h l d (by simpa using o) (by simpa using hw) (by rw[Nq,Nq];exact j)) ⟨i,a,?_⟩
  rw[e];exact h2 hw
noncomputable def sIx(n d:Nat):Option Int->Nat
 |none=>d
 |some v=>if v<0 then(v+(n:Int)).toNat else min v.toNat n
theorem sIx_none(n d:Nat):sIx n d none=d:=rfl
theorem sIx_nat(n d k:Nat):sIx n d (some (k:Int))=min k n:=by
 show(if(k:Int)<0 then((k:Int)+(n:Int)).toNat else min (k:Int).toNat n)=min k n;rw[if_neg (by lia),Ey]
theorem QlD(n d:Nat)(hd:d<=n)(o:Option Int):sIx n d o<=n:=by
 cases o with
 |none=>exact hd
 |some v=>
  show(if v<0 then(v+(n:Int)).toNat else min v.toNat n)<=n
  by_cases a:v<0
  ·rw[if_pos a];lia
  ·rw[if_neg a];exact E7 _ _
theorem Qfz(v:Int)(n d:Nat):(if v<0 then max (v+(n:Int)) 0 else min v (n:Int))=((sIx n d (some v):Nat):Int):=by
 show(if v<0 then max (v+(n:Int)) 0 else min v (n:Int))=(((if v<0 then(v+(n:Int)).toNat else min v.toNat n):Nat):Int)
 by_cases a:v<0
 ·simp only[if_pos a];lia
 ·simp only[if_neg a];lia
theorem QcM(lo a:Option Int)(n:Nat):Builtin.Slice.sliceAdjust lo a 1 (n:Int)=(((sIx n 0 lo:Nat):Int),((sIx n n a:Nat):Int)):=by
 have b:¬((1:Int)<0):=by exact by decide
 unfold Builtin.Slice.sliceAdjust;simp only[b,if_false];refine Prod.ext ?_ ?_
 ·cases lo with
  |none=>rfl
  |some v=>exact Qfz v n 0
 ·cases a with
  |none=>rfl
  |some v=>exact Qfz v n n
theorem Qcw(i j:Nat):Builtin.Slice.slicePlaces (i:Int) (j:Int) 1=j-i:=by
 unfold Builtin.Slice.slicePlaces;have a:(1:Int)>0:=by exact by decide
 simp only[a,if_true,Int.ediv_one];split<;>lia
theorem Uo{v:Value}{o:Option Int}{Q:Option Int->Shared->Prop}(p:IsPart v o)(h:Q o s):wpAny (model prog w) A (Builtin.Slice.slicePartIndex v) Q E s:=by
 cases p with
 |none=>exact slicePart_none h
 |int i t=>exact slicePart_int h
theorem sliceApplied_gen{e:Addr}{vl d:Value}{lo b:Option Int}{n:Nat}{Q:Int×Int×Nat->Shared->Prop}(g:s.heap.IsSliceOf e vl d .none)(pl:IsPart vl lo)(f:IsPart d b)
  (h:Q (((sIx n 0 lo:Nat):Int),1,sIx n n b-sIx n 0 lo) s):wpAny (model prog w) A (Builtin.Slice.sliceApplied (.ref e) (pure (n:Int))) Q E s:=by
 obtain⟨os,a,i,c⟩:=id g;unfold Builtin.Slice.sliceApplied Builtin.Slice.sliceFields;refine Na (Na (Fo a c (x:=vl) rfl (Na (Fo a c (x:=d) rfl (Na (Fo a c (x:=.none) rfl (Nj ?_)))))));refine Na (slicePart_none ?_);show wpAny _ _ (if((1:Int)==0)=true then _ else _) _ _ s;rw[if_neg (by decide)];refine Na (Uo pl (Na (Uo f (Na (Nj ?_)))));show wpAny _ _ (match Builtin.Slice.sliceAdjust lo b 1 (n:Int)with|(lo,b)=>pure (lo,(1:Int),Builtin.Slice.slicePlaces lo b 1)) _ _ s;rw[QcM lo b n];show wpAny _ _ (pure (((sIx n 0 lo:Nat):Int),(1:Int),Builtin.Slice.slicePlaces ((sIx n 0 lo:Nat):Int) ((sIx n n b:Nat):Int) 1)) _ _ s;rw[Qcw];exact Nj h
theorem QgH(xs:Array Value)(i k:Nat):((List.range k).filterMap fun(m:Nat)=>xs[((i:Int)+(m:Int)*1).toNat]?).toArray=((xs.toList.drop i).take k).toArray:=by
 have e:(fun(m:Nat)=>xs[((i:Int)+(m:Int)*1).toNat]?)=fun m=>xs[i+m]?:=by
  funext m;have:((i:Int)+(m:Int)*1).toNat=i+m:=by lia
  rw[this]
 rw[e];have:=pick_run xs i k;rw[List.filterMap_map]at this;have a:((fun x=>xs[x]?)∘fun x=>i+x)=fun m=>xs[i+m]?:=rfl;rw[a]at this;rw[this]
theorem getItem_tuple_cut{t d:Addr}{items:Array Value}{vl l:Value}{lo b:Option Int}{Q:Value->Shared->Prop}(c:IsTup s.heap t items)(n:s.heap.IsSliceOf d vl l .none)(pl:IsPart vl lo)(p:IsPart l b)
  (hw:¬(sIx items.size 0 lo=0/\sIx items.size items.size b=items.size))
  (h:Q (.ref s.heap.objs.size) { s with heap:=s.heap.push { cls:=.type "tuple",data:=.seq ((items.toList.drop (sIx items.size 0 lo)).take (sIx items.size items.size b-sIx items.size 0 lo)).toArray } })
  (e:items.size<=sizeLine):wpAny (model prog w) A (getItem (.ref t) (.ref d)) Q E s:=by
 have a:sizeOk (.seq ((items.toList.drop (sIx items.size 0 lo)).take (sIx items.size items.size b-sIx items.size 0 lo)).toArray):=by
  show((items.toList.drop (sIx items.size 0 lo)).take (sIx items.size items.size b-sIx items.size 0 lo)).toArray.size<=sizeLine;rw[Nq,Ei,LA,N3];exact Nn (Nn (E7 _ _) (Iv _ _)) e
 have r:sIx items.size items.size b<=items.size:=QlD _ _ (Nz _) b;obtain⟨os,f,i,u⟩:=id n;have j:s.TypeIs (.ref d) "slice":=⟨os,f,i⟩
 unfold getItem
 try with_reducible refine N2 ?_
 first|refine Na (Nj ?_)|skip
 refine Na (Ll c.typeIs (by decide) ?_)
 refine Na (Ep (name:=Str.ofString "__getitem__") c.typeIs Er
  (Ej Er c.typeIs OD ?_ (OQ _ _)))
 show wpAny _ _ (Builtin.Tuple.tupleItemsOf (.ref t)>>=_) _ _ s;refine Na (tupleItemsOf_ c ?_);refine Na (DK j ?_);rw[if_pos (by decide)];refine Na (sliceApplied_gen n pl p ?_)
 have g:¬((((sIx items.size 0 lo:Nat):Int)==0&&(1:Int)==1&&(sIx items.size items.size b-sIx items.size 0 lo)==items.size)=true):=by
  intro q;rw[NJ,NJ]at q;have v:((sIx items.size 0 lo:Nat):Int)=0:=DG q.1.1;have o:sIx items.size items.size b-sIx items.size 0 lo=items.size:=DG q.2;exact hw ⟨by lia,by exact Dw r (Nn (Nt o.symm) (Iv _ _))⟩
 show wpAny _ _ (if(((sIx items.size 0 lo:Nat):Int)==0&&(1:Int)==1&&(sIx items.size items.size b-sIx items.size 0 lo)==items.size)=true then _ else _) _ _ s;rw[if_neg g,QgH]
 first
  |exact Na (m:=Builtin.Tuple.tupleExact _) (N9 (Nj ⟨_,rfl,Nj h⟩) a)
  |exact Na (m:=Builtin.Tuple.tupleExact _) (N9 (Na (Nj (Nj ⟨_,rfl,Nj h⟩))) a)
  |exact Na (Na (m:=Builtin.Tuple.tupleExact _) (N9 (Nj (Nj ⟨_,rfl,Nj h⟩)) a))
  |exact Na (Na (m:=Builtin.Tuple.tupleExact _) (N9 (Nj ⟨_,rfl,Nj h⟩) a))
end
end HT
namespace L2
abbrev TO:=St->Hp->(Option Int->Hp->Prop)->Prop
def PO(X:Cx)(e:Option Expr)(t:TO):Prop:=
 ∀(a:List (Addr×Obj)) (s:Shared) (b:St) (H:Hp) (Q:Option Int->Hp->Prop),Inv X a b H s->t b H Q ->
  wpAny (model X.prog X.w) X.A (evalPart e X.env) (fun u d=>∃o c,Inv X a b c d/\IsPart u o/\Q o c) X.xe s
noncomputable def Qjx:TO:=fun _ H Q=>Q none H
noncomputable def Qnd(t:TE):TO:=fun a H Q=>t a H fun x b=>∃i,x=.int i/\Q (some i) b
section
variable{X:Cx}{e:Expr}{te:TE}{lo hi:Option Expr}{tl th:TO}{pos p2:Pos}
theorem Qjy:PO X none Qjx:=by
 intro a s b H Q I h;rw[evalPart_none];exact Nj ⟨none,H,I,.none,h⟩
theorem Qju(h:PE X e te):PO X (some e) (Qnd te):=by
 intro a s b H Q I hw;rw[evalPart_some];refine thn (h a s b H _ I hw) fun u g ⟨x,f,I1,c,d⟩=>?_;obtain⟨i,rfl,q⟩:=d;obtain⟨t,rfl⟩:=c;exact⟨some i,f,I1,.int i t,q⟩
def SlR(X:Cx)(r:V->Option Int->Option Int->Hp->VK->Prop):Prop:=
 ∀(a:List (Addr×Obj)) (s:Shared) (b:St) (H:Hp) (x:V) (v vl c:Value) (lo hi:Option Int) (d:Addr) (Q:VK),Inv X a b H s->RelV x v->s.heap.IsSliceOf d vl c .none->IsPart vl lo->IsPart c hi->r x lo hi H Q ->
  ∃T id,typeLookup (.type T) "__getitem__"=pure (some (.builtin id))/\s.TypeIs v T/\wpAny (model X.prog X.w) X.A (getItem v (.ref d)) (EP X a b Q) X.xe s
theorem SlR.or{r g:V->Option Int->Option Int->Hp->VK->Prop}(h:SlR X r)(h':SlR X g):SlR X (fun x lo hi H Q=>r x lo hi H Q\/g x lo hi H Q):=by
 intro a s b H x v vl c lo hi d Q I f l j i q
 rcases q with q|q
 ·exact h a s b H x v vl c lo hi d Q I f l j i q
 ·exact h' a s b H x v vl c lo hi d Q I f l j i q
noncomputable def tSl(r:V->Option Int->Option Int->Hp->VK->Prop)(te:TE)(tl th:TO):TE:=fun a H Q=>te a H fun x d=>tl a d fun l c=>th a c fun u b=>r x l u b Q
theorem QgB{r:V->Option Int->Option Int->Hp->VK->Prop}(hr:SlR X r)(D:PE X e te)(B:PO X lo tl)(hu:PO X hi th):PE X (.Subscript e (.Slice lo hi none p2) pos) (tSl r te tl th):=by
 intro a s d H Q I h;refine Subscript_ (thn (D a s d H _ I h) fun v i ⟨x,G,I1,j,o⟩=>?_);refine wpAny_Slice (thn (B a i d G _ I1 o) fun vl g ⟨l,F,I2,t,n⟩=>thn (hu a g d F _ I2 n) fun vu c ⟨u,f,I3,p,m⟩=>?_);rw[evalPart_none];refine Nj ?_;have I4:Inv X a d f { c with heap:=c.heap.push { cls:=.type "slice",data:=.fields #[vl,vu,.none] } }:=I3.kept (t':=c.toks) fun b ob q=>No _ q;obtain⟨T,id,E,z,C⟩:=hr a { c with heap:=c.heap.push { cls:=.type "slice",data:=.fields #[vl,vu,.none] } } d f x v vl vu l u c.heap.objs.size Q I4 j (Heap.IsSliceOf.new ..) t p m;show wpAny (model X.prog X.w) X.A (subscriptTail e (.Slice lo hi none p2) v (.ref c.heap.objs.size)) (EP X a d Q) X.xe { c with heap:=c.heap.push { cls:=.type "slice",data:=.fields #[vl,vu,.none] } };exact tail_any (ops:=[.ref c.heap.objs.size,v]) z E C (by with_unfolding_all rfl)
noncomputable def Qg9(xs:List V)(lo hi:Option Int):List V:=(xs.drop (HT.sIx xs.length 0 lo)).take (HT.sIx xs.length xs.length hi-HT.sIx xs.length 0 lo)
theorem W0(xs:List V)(lo hi:Option Int):(Qg9 xs lo hi).length<=xs.length:=by
 unfold Qg9;rw[Ei,LA];exact Nn (E7 _ _) (Iv _ _)
def QqM(K:Ng):V->Option Int->Option Int->Hp->VK->Prop:=fun x lo hi H Q=>∃a b,x=.ref a/\SqT K H a b /\
 ¬(HT.sIx b.length 0 lo=0/\HT.sIx b.length b.length hi=b.length)/\∀p,H p=none->Q (.ref p) (upd H p (.tup (Qg9 b lo hi)))
theorem Qlz:SlR X (QqM X.K):=by
 intro g s u H x v vl w lo hi z Q I l t n m h;obtain⟨a,d,rfl,p,hw,q⟩:=h;cases l;obtain⟨f,r,j,i⟩:=I.tuple p;have c:f.toArray.size=d.length:=by rw[Nq];exact r.length.symm
 refine⟨"tuple",_,Er.lookup,j.typeIs,?_⟩;refine HT.getItem_tuple_cut j t n m (by rw[c];exact hw) ?_ (by rw[c];exact i);rw[c];refine⟨.ref s.heap.objs.size,_,I.laid (t':=s.toks) (o:=.tup (Qg9 d lo hi)) (fun b ob q=>No _ q) (Nz _) ?_,rfl,q _ (I.hok.fresh (Nz _))⟩;exact⟨Nn (W0 d lo hi) i,_,(r.drop (HT.sIx d.length 0 lo)).take (HT.sIx d.length d.length hi-HT.sIx d.length 0 lo),Yaw _ _⟩
def Qof(K:Ng):R2:=fun x y H Q=>∃a b d c,x=.ref a/\y=.ref b/\SqT K H a d/\SqT K H b c/\d≠[]/\d.length+c.length<=sizeLine /\
 (c=[]->Q (.ref a) H)/\(c≠[]->∀p,H p=none->Q (.ref p) (upd H p (.tup (d++c))))
theorem Vals.nil_iff{xs:List V}{us:List Value}(r:Vals xs us):us=[]↔xs=[]:=by
 cases r with
 |nil=>simp
 |cons _ _=>simp
theorem QjJ:OpR X (binaryOp .Add) (Qof X.K):=by
 intro f s E H x y v u Q I n m h;obtain⟨a,b,l,j,rfl,rfl,D,C,B,i,r,p⟩:=h;cases n;cases m;obtain⟨A,d,t,_⟩:=I.tuple D;obtain⟨g,c,p2,_⟩:=I.tuple C;refine HT.cat_tup t p2 (fun z=>B (d.nil_iff.mp z)) (fun z=>⟨.ref a,H,I,rfl,r (c.nil_iff.mp z)⟩) (fun z=>?_) (by rw[<-d.length,<-c.length];exact i);refine⟨.ref s.heap.objs.size,_,I.laid (t':=s.toks) (o:=.tup (l++j)) (fun b ob q=>No _ q) (Nz _) ?_,rfl,p (fun w=>z (c.nil_iff.mpr w)) _ (I.hok.fresh (Nz _))⟩;exact⟨by rw[NH];exact i,_,d.append c,Yaw _ _⟩
end
noncomputable def ixN(n:Nat)(i:Int):Option Nat:=if 0<=i then(if i<n then some i.toNat else none)else if -(n:Int)<=i then some (i+n).toNat else none
def atI{a:Type}(xs:List a)(i:Int):Option a:=(ixN xs.length i).bind fun j=>xs[j]?
theorem Qep{n:Nat}{i:Int}{j:Nat}(h:ixN n i=some j):seqIndex? i n=some j/\j<n/\-(n:Int)<=i/\i<n:=by
 unfold ixN at h
 by_cases b:0<=i
 ·rw[if_pos b]at h
  by_cases a:i<n
  ·rw[if_pos a]at h;have e:i.toNat=j:=NS h;exact⟨by rw[seqIndex_of b a,e],by lia,by lia,a⟩
  ·rw[if_neg a]at h;cases h
 ·rw[if_neg b]at h
  by_cases a:-(n:Int)<=i
  ·rw[if_pos a]at h;have e:(i+n).toNat=j:=NS h;exact⟨by rw[OR (DF.mp b) a,e],by lia,a,by lia⟩
  ·rw[if_neg a]at h;cases h
theorem Qa0{a:Type}{xs:List a}{i:Int}{v:a}(h:atI xs i=some v):∃j,seqIndex? i xs.length=some j/\xs[j]?=some v/\j<xs.length/\-(xs.length:Int)<=i/\i<xs.length:=by
 unfold atI at h;cases e:ixN xs.length i with
 |none=>rw[e]at h;cases h
 |some j=>
  rw[e]at h;obtain⟨f,d,c,b⟩:=Qep e;exact⟨j,f,h,d,c,b⟩
theorem Qjl{a:Type}{xs:List a}{j:Nat}{v:a}(h:xs[j]?=some v):atI xs (j:Int)=some v:=by
 have b:j<xs.length:=(Nf.mp h).1
 have e:ixN xs.length (j:Int)=some j:=by
  unfold ixN;rw[if_pos (by lia),if_pos (by lia)];simp
 unfold atI;rw[e];exact h
def Qdl(b:Expr):Prop:=∀o i,subscripted b false o i=operate [o,i] (getItem o i)
def IxR(X:Cx)(r:R2):Prop:=
 ∀(value slice:Expr) (a:List (Addr×Obj)) (s:Shared) (b:St) (H:Hp) (x y:V) (v u:Value) (Q:VK),Inv X a b H s->RelV x v->RelV y u->r x y H Q ->
  subscripted slice false v u=operate [v,u] (getItem v u)->wpAny (model X.prog X.w) X.A (subscriptTail value slice v u) (EP X a b Q) X.xe s
def MtR(X:Cx)(id:String)(r:V->List V->Hp->VK->Prop):Prop:=
 ∀(a:List (Addr×Obj)) (s:Shared) (b:St) (H:Hp) (x:V) (c:List V) (v:Value) (d:List Value) (Q:VK),Inv X a b H s->RelV x v->Vals c d->r x c H Q ->
  wpAny (model X.prog X.w) X.A (call (.builtin id) (v::d)) (EP X a b Q) X.xe s
section
variable{X:Cx}{a b:Expr}{ta tb:TE}{pos:Pos}
theorem IxR.or{r g:R2}(h:IxR X r)(h':IxR X g):IxR X (fun x y H Q=>r x y H Q\/g x y H Q):=by
 intro value slice c s d H x y v u Q I f e q i
 rcases q with q|q
 ·exact h value slice c s d H x y v u Q I f e q i
 ·exact h' value slice c s d H x y v u Q I f e q i
theorem Qna{r:R2}(hr:IxR X r)(l:PE X a ta)(j:PE X b tb)(i:Qdl b):PE X (.Subscript a b pos) (tOp r ta tb):=by
 intro c s d H Q I h;exact Subscript_ (Qnf l j I h fun v u e x y m I2 g f q=>hr a b c e d m x y v u Q I2 g f q (i _ _))
def Qo3(K:Ng):R2:=fun x y H Q=>∃p c i v,x=.ref p/\y=.int i/\SqL K H p c/\atI c i=some v/\Q v H
def Qo2(K:Ng):R2:=fun x y H Q=>∃p c i v,x=.ref p/\y=.int i/\SqT K H p c/\atI c i=some v/\Q v H
def Qpw:R2:=fun x y H Q=>∃z i c,x=.str z/\y=.int i/\z.length<=sizeLine/\atI z.cps.toList i=some c/\Q (.str ⟨#[c]⟩) H
theorem ix_list:IxR X (Qo3 X.K):=by
 intro value slice c s n H x y v u Q I D C h o;obtain⟨p,N,i,z,rfl,rfl,E,G,q⟩:=h;cases D;obtain⟨t,rfl⟩:=C;obtain⟨l,r,g,O⟩:=I.list E;obtain⟨j,d,M,R,L,J⟩:=Qa0 G;obtain⟨w,A,f⟩:=r.get M;have F:=r.length;have P:=Wo;have fin:EP X c n Q w s:=⟨z,H,I,f,q⟩
 by_cases e:0<=i
 ·have m:i.toNat=j:=by
   rw[seqIndex_of e J]at d;exact NS d
  exact item_listR g.isList e (by lia) (by rw[m];simpa using A) fin o
 ·have m:(i+(l.toArray.size:Int)).toNat=j:=by
   rw[OR (DF.mp e) L]at d;rw[Nq,<-F];exact NS d
  exact LV (x:=w) g.isList.typeIs O1.lookup
   (wpAny_getItem_list_neg (Q:=fun r B=>r=w/\EP X c n Q r B) g.isList (DF.mp e) (by rw[Nq]<;>lia) (by lia) (by rw[m];simpa using A) ⟨rfl,fin⟩) o
theorem ix_tup:IxR X (Qo2 X.K):=by
 intro value slice c s e H x y v u Q I m l h o;obtain⟨p,G,i,z,rfl,rfl,A,C,q⟩:=h;cases m;obtain⟨t,rfl⟩:=l;obtain⟨n,r,f,J⟩:=I.tuple A;obtain⟨j,E,D,O,N,M⟩:=Qa0 C;obtain⟨w,F,d⟩:=r.get D;have B:=r.length;have L:=Wo;have fin:EP X c e Q w s:=⟨z,H,I,d,q⟩
 exact LV (x:=w) f.typeIs Er.lookup
  (getItem_tuple (j:=j) (Q:=fun r g=>r=w/\EP X c e Q r g) f (by lia) (by lia) (by rw[Nq,<-B];exact E) (by simpa using F) ⟨rfl,fin⟩) o
theorem Qk8:IxR X Qpw:=by
 intro value slice d s B H x y v u Q I g f h l;obtain⟨z,i,c,rfl,rfl,D,n,q⟩:=h;obtain⟨t,rfl⟩:=g;obtain⟨C,rfl⟩:=f;obtain⟨j,e,r,F,p,o⟩:=Qa0 n;have m:z.cps.toList.length=z.length:=by simp[Str.length]
 rw[m]at e p o;have E:=Wo
 exact tail_any (typeIs_str s z t) slot_str_getitem.lookup (getItem_str (c:=c) (by
  have A:decide (i < -(2^63:Int))=false:=decide_eq_false (by lia);have w:decide (i >= 2^63)=false:=decide_eq_false (by lia)
  rw[A,w,Ox]) (by rw[e];simpa using r) ⟨.str ⟨#[c]⟩,H,I.tok _,⟨_,rfl⟩,q⟩) l
def rIx(K:Ng):R2:=fun x y H Q=>Qo3 K x y H Q\/Qo2 K x y H Q\/Qpw x y H Q
theorem Qmn:IxR X (rIx X.K):=ix_list.or (ix_tup.or Qk8)
theorem QcA(its:List Value)(n j:Nat)(u:Value):Obj.mapSeq (·.setIfInBounds j u) { cls:=.type "list",data:=.seq its.toArray n }={ cls:=.type "list",data:=.seq (its.set j u).toArray n }:=by
 simp[Obj.mapSeq]
theorem Inv.lst{c:List (Addr×Obj)}{σ:St}{H:Hp}{s:Shared}{p:Addr}{xs:List V}(I:Inv X c σ H s)(h:H p=some (.lst xs)) :
  ∃(its:List Value) (n:Nat),Vals xs its/\s.heap.get? p=some { cls:=.type "list",data:=.seq its.toArray n }/\xs.length<=sizeLine:=by
 obtain⟨z,its,n,r,e⟩:=I.hok p _ h;exact⟨its,n,r,e,z⟩
theorem Inv.lstUpd{c:List (Addr×Obj)}{σ:St}{H:Hp}{s:Shared}{p:Addr}{xs d:List V}{its its':List Value}{n g:Nat}{f:Obj->Obj}(I:Inv X c σ H s)(h:H p=some (.lst xs))
  (j:s.heap.get? p=some { cls:=.type "list",data:=.seq its.toArray n }) (i:f { cls:=.type "list",data:=.seq its.toArray n }={ cls:=.type "list",data:=.seq its'.toArray g }) (r:Vals d its') (hz:d.length<=sizeLine) (t:Nat) :
  Inv X c σ (upd H p (.lst d)) { s with heap:=s.heap.update p f,toks:=t }:=by
 have e:(s.heap.update p f).get? p=some { cls:=.type "list",data:=.seq its'.toArray g }:=by
  rw[N8 f j (by rw[i]<;>rfl),i]
 refine I.write (x:=p) (e:=p) (by rw[h];trivial) (.inl rfl) (fun b u l q=>(EI _ _ (EN l)).trans q) ⟨_,e⟩ ?_;exact⟨hz,its',g,r,e⟩
def QlM:V->V->V->Hp->(Hp->Prop)->Prop:=fun o i v H Q=>∃p c k j,o=.ref p/\i=.int k/\H p=some (.lst c)/\ixN c.length k=some j/\Q (upd H p (.lst (c.set j v)))
theorem set_list:QoN X QlM:=by
 intro c s A H o i v G J u Q I C D rv h;obtain⟨p,B,k,j,rfl,rfl,w,F,q⟩:=h;cases C;obtain⟨t,rfl⟩:=D;obtain⟨d,n,r,g,E⟩:=I.lst w;obtain⟨e,M,y,x⟩:=Qep F;have l:=r.length;have L:=Wo
 have z:Inv X c A (upd H p (.lst (B.set j v))) { s with heap:=s.heap.update p (Obj.mapSeq (·.setIfInBounds j u)) }:=
  I.lstUpd w g (QcA d n j u) (r.set rv j) (by rw[Dx];exact E) s.toks
 by_cases f:0<=k
 ·have m:k.toNat=j:=by
   rw[seqIndex_of f x]at e;exact NS e
  exact PySem.W.ki_setAt g f (by lia) (by rw[Nq,<-l];exact x) (by rw[m];exact⟨_,z,q⟩)
 ·have m:(k+(d.toArray.size:Int)).toNat=j:=by
   rw[OR (DF.mp f) y]at e;rw[Nq,<-l];exact NS e
  exact PySem.W.ki_setBack g (DF.mp f) (by rw[Nq,<-l];exact y) (by lia) (by rw[m];exact⟨_,z,q⟩)
theorem GY(lo c:Option Int)(n:Nat):(sliceBounds lo c none n).1=((HT.sIx n 0 lo:Nat):Int)/\(sliceBounds lo c none n).2.1=((HT.sIx n n c:Nat):Int)/\(sliceBounds lo c none n).2.2=1:=by
 refine⟨?_,?_,rfl⟩
 ·cases lo with
  |none=>simp[sliceBounds,HT.sIx]
  |some i=>
   simp only[sliceBounds,HT.sIx,Yaf,show(1:Int)>0 by decide,if_true]
   by_cases h:i<0
   ·simp only[h,if_true]<;>lia
   ·simp only[h,if_false]<;>lia
 ·cases c with
  |none=>simp[sliceBounds,HT.sIx]
  |some i=>
   simp only[sliceBounds,HT.sIx,Yaf,show(1:Int)>0 by decide,if_true]
   by_cases h:i<0
   ·simp only[h,if_true]<;>omega
   ·simp only[h,if_false]<;>omega
theorem UZ(its:List Value)(lo c:Option Int):slicePick its.toArray lo c none=((its.drop (HT.sIx its.length 0 lo)).take (HT.sIx its.length its.length c-HT.sIx its.length 0 lo)).toArray:=by
 obtain⟨f,e,d⟩:=GY lo c its.toArray.size;unfold slicePick;rw[f,e,d];simp only[sliceRange_one,pick_run,Nq]<;>rfl
def Qqn(K:Ng):V->Option Int->Option Int->Hp->VK->Prop:=fun x lo d H Q=>∃a c,x=.ref a/\SqL K H a c/\∀p,H p=none->Q (.ref p) (upd H p (.lst (Qg9 c lo d)))
theorem sl_list:SlR X (Qqn X.K):=by
 intro f s u H x v vl w lo e z Q I j t m l h;obtain⟨a,d,rfl,p,q⟩:=h;cases j;obtain⟨n,r,i,g⟩:=I.list p;have c:=r.length;refine⟨"list",_,O1.lookup,i.isList.typeIs,?_⟩;refine wpAny_getItem_list_slice i.isList t m l .none (by simp) ?_ (by rw[Nq]<;>exact Nn (Nt c.symm) g);rw[UZ,<-c];refine⟨.ref s.heap.objs.size,_,I.laid (t':=s.toks) (o:=.lst (Qg9 d lo e)) (fun b ob q=>No _ q) (Nz _) ?_,rfl,q _ (I.hok.fresh (Nz _))⟩;exact⟨Nn (W0 d lo e) g,_,0,(r.drop (HT.sIx d.length 0 lo)).take (HT.sIx d.length d.length e-HT.sIx d.length 0 lo),NB _ rfl⟩
noncomputable def Qi6:V->Bool
 |.non=>true
 |.bl _=>true
 |.int _=>true
 |.str _=>true
 |_=>false
noncomputable def eqV:V->V->Bool
 |.non,.non=>true
 |.bl a,.bl b=>a==b
 |.bl a,.int b=>(if a then 1 else 0)==b
 |.int a,.bl b=>a==(if b then 1 else 0)
 |.int a,.int b=>a==b
 |.str a,.str b=>a==b
 |_,_=>false
theorem QlZ{A:Around}{s:Shared}{y x:V}{u v:Value}(e:RelV y u)(c:RelV x v)(g:Qi6 y=true)(f:Qi6 x=true):SeqAt.EqAt A s u v (eqV y x):=by
 cases y with
 |non=>
  cases e;cases x with
  |non=>cases c;exact SeqAt.EqAt.same _
  |bl b=>cases c;exact SeqAt.EqAt.none_bool b
  |int b=>obtain⟨t,rfl⟩:=c;exact SeqAt.EqAt.none_int b t
  |str b=>obtain⟨t,rfl⟩:=c;exact SeqAt.EqAt.none_str b t
  |_=>exact absurd (show false=true from f) NQ
 |bl a=>
  cases e;cases x with
  |non=>cases c;exact SeqAt.EqAt.bool_none a
  |bl b=>cases c;exact SeqAt.EqAt.bool_bool a b
  |int b=>obtain⟨t,rfl⟩:=c;exact SeqAt.EqAt.bool_int a b t
  |str b=>obtain⟨t,rfl⟩:=c;exact SeqAt.EqAt.bool_str a b t
  |_=>exact absurd (show false=true from f) NQ
 |int a=>
  obtain⟨d,rfl⟩:=e;cases x with
  |non=>cases c;exact SeqAt.EqAt.int_none a d
  |bl b=>cases c;exact SeqAt.EqAt.int_bool a d b
  |int b=>obtain⟨t,rfl⟩:=c;exact SeqAt.EqAt.int_int a d b t
  |str b=>obtain⟨t,rfl⟩:=c;exact OK a d b t
  |_=>exact absurd (show false=true from f) NQ
 |str a=>
  obtain⟨d,rfl⟩:=e;cases x with
  |non=>cases c;exact SeqAt.EqAt.str_none a d
  |bl b=>cases c;exact SeqAt.EqAt.str_bool a d b
  |int b=>obtain⟨t,rfl⟩:=c;exact OL a d b t
  |str b=>obtain⟨t,rfl⟩:=c;exact SeqAt.EqAt.str_str a d b t
  |_=>exact absurd (show false=true from f) NQ
 |_=>exact absurd (show false=true from g) NQ
theorem call_len_seq:CallR X (.builtin "len") (fun xs H Q=>∃p d,xs=[.ref p]/\(SqL X.K H p d\/SqT X.K H p d)/\Q (.int d.length) H):=by
 intro j s n H xs o Q I r h;obtain⟨p,d,rfl,e,q⟩:=h;obtain⟨u,rfl,l⟩:=KQ r;cases l;have t:=Wo
 rcases e with e|e
 ·obtain⟨i,f,g,m⟩:=I.list e;have c:=f.length;exact Calls.call_len_list g.isList (by simp only[Nq]<;>lia) ⟨.int d.length,H,I.tok _,⟨s.toks+1,by rw[Nq,c]⟩,q⟩
 ·obtain⟨i,f,g,m⟩:=I.tuple e;have c:=f.length;exact len_tuple g (by simp only[Nq]<;>omega) ⟨.int d.length,H,I.tok _,⟨s.toks+1,by rw[Nq,c]⟩,q⟩
theorem Qap:CallR X (.builtin "len") (fun xs H Q=>∃z,xs=[.str z]/\z.length<=sizeLine/\Q (.int z.length) H):=by
 intro c s d H xs e Q I r h;obtain⟨z,rfl,f,q⟩:=h;obtain⟨u,rfl,t,rfl⟩:=KQ r;have g:=Wo;exact len_str (by lia) ⟨.int z.length,H,I.tok _,⟨_,rfl⟩,q⟩
theorem CallR.or{f:Value}{r i:List V->Hp->VK->Prop}(h:CallR X f r)(h':CallR X f i):CallR X f (fun xs H Q=>r xs H Q\/i xs H Q):=by
 intro c s d H xs e Q I g q
 rcases q with q|q
 ·exact h c s d H xs e Q I g q
 ·exact h' c s d H xs e Q I g q
theorem GR:CallR X (.type "list") (fun xs H Q=>∃p g,xs=[.ref p]/\(SqL X.K H p g\/SqT X.K H p g)/\∀l,H l=none->Q (.ref l) (upd H l (.lst g))):=by
 intro t s C H xs E Q I r h;obtain⟨p,g,rfl,x,q⟩:=h;obtain⟨u,rfl,D⟩:=KQ r;cases D
 have fin:∀(c:List Value),Vals g c->g.length<=sizeLine->∀(f:Heap) (m:Nat),(∀b B,s.heap.get? b=some B->f.get? b=some B) ->
   f.get? s.heap.objs.size=some { cls:=.type "list",dict:=none,data:=.seq c.toArray m,slots:=#[] }->EP X t C Q (.ref s.heap.objs.size) { s with heap:=f }:=fun c i j f m v e=>
  ⟨.ref s.heap.objs.size,_,I.laid (t':=s.toks) v (Nz _) (show ObjOk X.prog X.w _ f _ (.lst g)from⟨j,c,m,i,e⟩),rfl,q _ (I.hok.fresh (Nz _))⟩
 rcases x with x|x
 ·obtain⟨c,i,y,j⟩:=I.list x;have d:=i.length;obtain⟨o,z,A,n,hd⟩:=y.isList;exact call_list_seq p (.inl rfl) z A hd (fun f m v e=>fin c i j f m v e) (by simp only[Nq]<;>exact Nn (Nt d.symm) j)
 ·obtain⟨c,i,y,j⟩:=I.tuple x;have d:=i.length;obtain⟨o,z,A,n,hd⟩:=y;exact call_list_seq p (.inr rfl) z A hd (fun f m v e=>fin c i j f m v e) (by simp only[Nq]<;>exact Nn (Nt d.symm) j)
theorem Go:CallR X (.type "tuple") (fun xs H Q=>∃p f,xs=[.ref p]/\((SqL X.K H p f/\∀l,H l=none->Q (.ref l) (upd H l (.tup f)))\/(SqT X.K H p f/\Q (.ref p) H))):=by
 intro c s v H xs A Q I r h;obtain⟨p,f,rfl,h⟩:=h;obtain⟨u,rfl,y⟩:=KQ r;cases y
 rcases h with⟨t,q⟩|⟨t,q⟩
 ·obtain⟨d,j,m,n⟩:=I.list t;have g:=j.length;refine call_tuple_list m.isList (fun i z=>?_) (by simp only[Nq]<;>exact Nn (Nt g.symm) n);have I1:Inv X c v H { s with heap:=i }:=I.kept (t':=s.toks) z
  have I2:Inv X c v (upd H i.objs.size (.tup f)) { s with heap:=i.push { cls:=.type "tuple",data:=.seq d.toArray } }:=
   I1.laid (t':=s.toks) (fun b o e=>No _ e) (Nz _) (show ObjOk X.prog X.w _ _ _ (.tup f)from⟨n,d,j,Yaw _ _⟩)
  exact⟨.ref i.objs.size,_,I2,rfl,q _ (I1.hok.fresh (Nz _))⟩
 ·obtain⟨d,j,m,n⟩:=I.tuple t;exact call_tuple_same m ⟨.ref p,H,I,rfl,q⟩
def tyV(K:Ng)(T:String)(x:V)(H:Hp):Prop:=match x with
 |.str _=>T="str"
 |.int _=>T="int"
 | .ref p=>(T="list"/\∃d,SqL K H p d)\/(T="tuple"/\∃o,K.lookup p=some o/\o.cls=.type "tuple"/\o.dict=none) \/
   (T="dict"/\((∃c,H p=some (.dK c))\/∃c,H p=some (.dT c)))\/(T="set"/\∃S n,H p=some (.set S n))
 |_=>False
theorem Qhq{g:List (Addr×Obj)}{σ:St}{H:Hp}{s:Shared}{T:String}{x:V}{v:Value}(I:Inv X g σ H s)(r:RelV x v)(ty:tyV X.K T x H) :
  s.TypeIs v T/\∀a,v=.ref a->∃ob,s.heap.get? a=some ob/\ob.dict=none:=by
 cases x with
 |str z=>
  obtain⟨t,rfl⟩:=r;cases(show T="str"from ty);exact⟨typeIs_str s z t,fun _ e=>nomatch e⟩
 |int i=>
  obtain⟨t,rfl⟩:=r;cases(show T="int"from ty);exact⟨typeIs_int s i t,fun _ e=>nomatch e⟩
 | ref p=>
  cases r
  rcases ty with⟨rfl,w,q⟩|⟨rfl,o,d,u,hd⟩|⟨rfl,d⟩|⟨rfl,S,n,d⟩
  ·obtain⟨m,_,l,_⟩:=I.list q;refine⟨l.isList.typeIs,fun a e=>?_⟩;cases e;obtain⟨o,n,e,c,hd,_⟩:=l;exact⟨o,e,hd⟩
  ·refine⟨⟨o,I.kIn p o d,u⟩,fun a e=>?_⟩;cases e;exact⟨o,I.kIn _ o d,hd⟩
  ·have z:∃o,s.heap.get? p=some o/\o.ExactDict:=by
    rcases d with⟨h,d⟩|⟨h,d⟩
    ·obtain⟨_,_,_,_,o,_,_,e,f,_⟩:=I.hok p _ d;exact⟨o,e,f⟩
    ·obtain⟨_,_,_,_,o,_,_,e,f,_⟩:=I.hok p _ d;exact⟨o,e,f⟩
   obtain⟨o,e,f⟩:=z;refine⟨⟨o,e,f.1⟩,fun a j=>?_⟩;cases j;exact⟨o,e,f.2.1⟩
  ·obtain⟨o,_,_,_,e,f,_⟩:=I.hok p _ d;refine⟨⟨o,e,f.1⟩,fun a j=>?_⟩;cases j;exact⟨o,e,f.2.1⟩
 |_=>exact False.elim ty
noncomputable def QqO(K:Ng)(T:String)(r:V->List V->Hp->VK->Prop)(e:TE):TE:=fun d H Q=>e d H fun x c=>tyV K T x c/\r x [] c Q
noncomputable def tBM(K:Ng)(T:String)(r:V->List V->Hp->VK->Prop)(f:TE)(t:TA):TE:=fun c H Q=>f c H fun x d=>tyV K T x d/\t c d fun e g=>r x e g Q
variable{o e:Expr}{es:List Expr}{to:TE}{t:TA}{name:Str}{apos cpos:Pos}{T id:String}{r:V->List V->Hp->VK->Prop}
theorem Qmm(n:PlainAttrs T)(slot:Slot T name id)(g:typeOf (.builtin id)=pure (.type "method_descriptor"))(q:MtR X id r)(p:PE X o to)
  (f:attributeBase o name X.env (eval o X.env)=eval o X.env:=by rfl) (d:(apos.endLine==cpos.line)=true:=by rfl):PE X (.Call (.Attribute o name apos) [] [] cpos) (QqO X.K T r to):=by
 intro c s i H Q I h;refine wpAny_Call_method0_late f d (thn (p c s i H _ I h) fun v l ⟨x,y,I1,j,ty,m⟩=>?_);obtain⟨w,u⟩:=Qhq I1 j ty;exact⟨T,id,n,slot,g,w,u,LW rfl (PySem.evalArgs_none (q c l i y x [] v [] Q I1 j .nil m))⟩
theorem Qni(A:PlainAttrs T)(slot:Slot T name id)(l:typeOf (.builtin id)=pure (.type "method_descriptor"))(D:MtR X id r)(C:PE X o to)(E:PA X (e::es) t)
  (g:attributeBase o name X.env (eval o X.env)=eval o X.env:=by rfl)
  (i:((backTo cpos (starEach (e::es) X.env)).all (fun x=>!x.1)&&(backToKw cpos (keywordEach [] X.env)).all (fun x=>x.1.isSome)
   && decide ((e::es).length+([]:List Keyword).length+(if([]:List Keyword).isEmpty then 0 else 1)<30))=true:=by rfl)
  (f:(apos.endLine==cpos.line)=true:=by rfl) (B:starEach (e::es) X.env=(false,eval e X.env)::starEach es X.env:=by rfl) (d:(backTo cpos (starEach es X.env)).any (·.1)=false:=by rfl) :
  PE X (.Call (.Attribute o name apos) (e::es) [] cpos) (tBM X.K T r to t):=by
 intro c s j H Q I h;refine wpAny_Call_method_late g i f rfl (thn (C c s j H _ I h) fun v u ⟨x,L,I1,m,ty,z⟩=>?_);obtain⟨G,F⟩:=Qhq I1 m ty;refine⟨T,id,A,slot,l,G,F,?_⟩;have hA:=E cpos c u j L _ I1 z;rw[B]at hA ⊢;refine LW (by show(false ||(backTo cpos (starEach es X.env)).any (·.1))=false;rw[d]<;>rfl) (Calls.evalArgs_plain ?_);exact thn hA fun p q ⟨n,J,I2,w,y⟩=>D c q j J x n v p Q I2 m w y
end
def MtM(X:Cx)(id:String)(r:V->List V->Hp->VK->Prop):Prop:=
 ∀(a:List (Addr×Obj)) (s:Shared) (b:St) (H:Hp) (x:V) (c:List V) (v:Value) (d:List Value) (Q:VK),Inv X a b H s->RelV x v->Vals c d->r x c H Q ->
  wpAny (model X.prog X.w) X.A (call (.builtin id) (v::d)) (EP X a b Q) X.xe s
theorem Vals.one:∀{x:V} {us:List Value},Vals [x] us->∃u,us=[u]/\RelV x u
 |_,_,.cons r .nil=>⟨_,rfl,r⟩
theorem Vals.zero:∀{us:List Value},Vals [] us->us=[]
 |_,.nil=>rfl
theorem Vals.dropLast{xs:List V}{us:List Value}(h:Vals xs us):Vals xs.dropLast us.dropLast:=by
 induction h with
 |nil=>exact .nil
 |cons r t a=>
  cases t with
  |nil=>exact .nil
  |cons q b=>exact .cons r a
theorem Vals.eraseIdx:∀{xs:List V} {us:List Value} (i:Nat),Vals xs us->Vals (xs.eraseIdx i) (us.eraseIdx i)
 |_,_,_,.nil=>.nil
 |_,_,0,.cons _ t=>t
 |_,_,i+1,.cons r t=>.cons r (Vals.eraseIdx i t)
theorem Vals.reverse{xs:List V}{us:List Value}(h:Vals xs us):Vals xs.reverse us.reverse:=by
 induction h with
 |nil=>exact .nil
 |cons r t a=>rw[FV,FV];exact Vals.append a (.cons r .nil)
theorem QcV{c:Type}(l:List c):l.eraseIdx (l.length-1)=l.dropLast:=by
 induction l with
 |nil=>rfl
 | cons a r d=>
  cases r with
  |nil=>rfl
  | cons b r=>
   have e:(a::b::r).length-1=((b::r).length-1)+1:=by
    have g:(a::b::r).length=r.length+2:=rfl;have f:(b::r).length=r.length+1:=rfl;exact rfl
   rw[e,List.eraseIdx_cons_succ,d]
   all_goals rfl
section
variable{X:Cx}{pins:List (Addr×Obj)}{σ:St}{H:Hp}{s:Shared}{l b:Addr}{xs ys zs:List V}
theorem Inv.lset{its its':List Value}{n:Nat}{f:Array Value->Array Value}{t':Nat}(I:Inv X pins σ H s)(g:H l=some (.lst xs))
  (e:s.heap.get? l=some { cls:=.type "list",data:=.seq its.toArray n }) (c:f its.toArray=its'.toArray) (a:Vals ys its') (hz:ys.length<=sizeLine) :
  Inv X pins σ (upd H l (.lst ys)) { s with heap:=s.heap.update l (Obj.mapSeq f),toks:=t' }:=by
 have q:=Yag e f;rw[c]at q;refine I.write (x:=l) (e:=l) (by rw[g];exact trivial) (.inl rfl) (fun h u d hu=>(EI s.heap (Obj.mapSeq f) (EN d)).trans hu) ⟨_,q⟩ ?_;exact⟨hz,its',_,a,q⟩
theorem Inv.lnew{its:List Value}{t':Nat}(I:Inv X pins σ H s)(a:Vals ys its)(hz:ys.length<=sizeLine) :
  Inv X pins σ (upd H s.heap.objs.size (.lst ys)) { s with heap:=s.heap.push { cls:=.type "list",data:=.seq its.toArray },toks:=t' }:=
 I.laid (fun _ _ q=>No _ q) (Nz _) ⟨hz,its,0,a,NB _ rfl⟩
theorem Inv.fresh(I:Inv X pins σ H s):H s.heap.objs.size=none:=I.hok.fresh (Nz _)
theorem Inv.lstM(I:Inv X pins σ H s)(a:H l=some (.lst xs)):xs.length<=sizeLine/\∃(its:List Value) (n:Nat),Vals xs its/\xs.length=its.length/\s.heap.get? l=some { cls:=.type "list",data:=.seq its.toArray n }:=by
 obtain⟨z,its,n,r,e⟩:=I.hok l _ a;exact⟨z,its,n,r,r.length,e⟩
theorem QbW{n:Nat}(h:n<=sizeLine):Builtin.List.listTooLong n=false:=by
 unfold Builtin.List.listTooLong;exact decide_eq_false (NU.mpr h)
end
section
variable{X:Cx}
def QiK:V->List V->Hp->VK->Prop:=fun x b H Q=>∃l a y,x=.ref l/\b=[y]/\H l=some (.lst a)/\a.length<sizeLine/\Q .non (upd H l (.lst (a++[y])))
theorem Qe8:MtM X "list.append" QiK:=by
 intro b s m H x p v t Q I g rv h;obtain⟨l,o,y,rfl,rfl,f,d,q⟩:=h;cases g;obtain⟨u,rfl,i⟩:=rv.one;obtain⟨z,a,n,r,j,e⟩:=I.lstM f;refine FL Iw ⟨_,e,rfl⟩ OE (Oi _ _) (O2 l a.toArray n u (by rw[Nq];exact Nr (Nh (Nt j.symm) d))) ⟨e,?_⟩;refine⟨.non,_,I.lset (its':=a++[u]) f e (by simp) (r.append (.cons i .nil)) ?_,rfl,q⟩;rw[NH,NZ];exact d
def Qis:V->List V->Hp->VK->Prop:=fun x d H Q=>∃l b c a,x=.ref l/\d=[.ref b]/\H l=some (.lst c)/\H b=some (.lst a)/\c.length+a.length<=sizeLine/\Q .non (upd H l (.lst (c++a)))
theorem Qd1:MtM X "list.extend" Qis:=by
 intro g s C H x G v J Q I m rv h;obtain⟨l,b,F,D,rfl,rfl,j,hB,w,q⟩:=h;cases m;obtain⟨u,rfl,o⟩:=rv.one;cases o;obtain⟨z,c,n,r,A,e⟩:=I.lstM j;obtain⟨E,a,t,p,y,B⟩:=I.lstM hB;have f:c.toArray.size+a.toArray.size<=sizeLine:=by rw[Nq,Nq];lia
 have d:¬(!c.toArray.isEmpty&&Builtin.List.listTooLong (c.toArray.size+a.toArray.size))=true:=by
  rw[QbW f,D4];exact NQ
 refine FL Ds ⟨_,e,rfl⟩ OF (Oj _ _)
  (AutoSeq1.list_extend_list_list_0 l c.toArray n b a.toArray t d (by rw[Nq];exact Nn (Nt A.symm) z) (Nn f (Nv _ _))) ⟨e,B,?_⟩
 refine⟨.non,_,I.lset (its':=c++a) j e (by simp) (r.append p) ?_,rfl,q⟩;rw[NH];exact w
def Qq2:V->List V->Hp->VK->Prop:=fun x b H Q=>∃l a y,x=.ref l/\b=[]/\H l=some (.lst a)/\a[a.length-1]?=some y/\Q y (upd H l (.lst a.dropLast))
theorem QlY:MtM X "list.pop" Qq2:=by
 intro d s p H x w v A Q I j rv h;obtain⟨l,t,y,rfl,rfl,i,o,q⟩:=h;cases j;have c:=rv.zero;subst c;obtain⟨z,a,n,r,g,e⟩:=I.lstM i;obtain⟨u,hu,m⟩:=r.get o
 have b:a.toArray[a.toArray.size-1]?=some u:=by
  show a.toArray[a.length-1]?=some u;rw[<-Eb,<-g];exact hu
 refine FL DH ⟨_,e,rfl⟩ F.entry_list_pop (F.args_list_pop_1 _) (MeetsSeq.list_pop_last l a.toArray n u b (by rw[Nq];exact Nn (Nt g.symm) z)) ⟨e,?_⟩;refine⟨y,_,I.lset (its':=a.dropLast) i e ?_ r.dropLast ?_,m,q⟩
 ·show a.toArray.eraseIdxIfInBounds (a.toArray.size-1)=a.dropLast.toArray;rw[Nq,List.eraseIdxIfInBounds_toArray,QcV]
 ·rw[List.length_dropLast];exact Nn (Iv _ _) z
def Qp0:R2:=fun x y H Q=>∃l b c a,x=.ref l/\y=.ref b/\H l=some (.lst c)/\H b=some (.lst a)/\c.length+a.length<=sizeLine/\∀p,H p=none->Q (.ref p) (upd H p (.lst (c++a)))
theorem QlU:OpR X (binaryOp .Add) Qp0:=by
 intro d s w H x y v u Q I g f h;obtain⟨l,b,C,A,rfl,rfl,o,hB,j,q⟩:=h;cases g;cases f;obtain⟨z,c,n,r,F,e⟩:=I.lstM o;obtain⟨B,a,E,i,m,t⟩:=I.lstM hB;refine PySem.P.add_list e t ?_ (by rw[Nq,Nq];omega);have p:c.toArray++a.toArray=(c++a).toArray:=by simp
 rw[p];exact⟨.ref _,_,I.lnew (t':=s.toks) (r.append i) (by rw[NH];exact j),rfl,q _ I.fresh⟩
end
end L2
namespace Att
open PySem PySem.W PySem.Calls PyProof.Rows
theorem Wp{P:Params}{h:Heap}:∀(ns:List Int) (c:List Value),WellAll P h c (ns.map WData.int)->IntsAre c ns:=by
 intro ns
 induction ns with
 |nil=>
  intro c w;rw[EG]at w;cases w;exact .nil
 | cons n ns d=>
  intro c w;rw[Nw]at w;cases w with
  |cons a b=>
   cases a;exact .cons _ _ (d _ b)
theorem QeU{l:OpenLaw}{n:Nat}(v:l.most=some n){P:Params}{h:Heap}{args:List WData}{vals:List Value}
  (b:l.row.toRowW.claim.pre args=true) (i:WellAll P h vals args) :
  ∃a m ns,vals=[Value.ref a]/\args=[WData.list (ns.map WData.int)]/\h.get? a=some { cls:=.type "list",data:=.seq m.toArray }/\IntsAre m ns/\ns.length<=n:=by
 have j:WShape.hasAll [] args [.list .int]=true:=(pre_splitW b).1;have o:l.pre.holds [] { args:=args }=true:=(pre_splitW b).2;obtain⟨d,r,rfl,y,x⟩:=hasAllW_cons j;obtain rfl:=hasAllW_nil x;obtain⟨z,rfl,w⟩:=hasW_list y;obtain⟨ns,rfl⟩:=items_int w
 have c:ns.length<=n:=by
  unfold OpenLaw.pre at o
  have g:(WTm.not (.lt (.lit (.int (n:Int))) (.len (.arg 0)))).holds [] { args:=[.list (ns.map .int)] }=true:=by
   have g:=(holds_andW o).1;rw[v]at g;exact g
  have f:=condW_of g (w_not (w_lt w_lit (w_len_list (w_arg rfl))));rw[Nu]at f;refine Nat.le_of_not_lt fun q=>?_;have t:(n:Int)<((ns.length:Nat):Int):=by omega
  first
   |(rw[decide_eq_true t]at f;exact absurd f (by decide))
   |(simp at f;omega)
 cases i with
 |cons s p=>
  cases p;cases s with
  |list u e=>exact⟨_,_,ns,rfl,rfl,u,Wp ns _ e,c⟩
theorem Qe6(l:OpenLaw)(args:List WData):l.row.toRowW.claim.post args (.bool true) args=true:=
 postW_of (r:=l.row.toRowW) (X:=(true==true))
  (show WShape.has [] (.bool true) .bool=true by first|rfl|decide|simp[WShape.has,WShape.arms,WShape.armsAll])
  (show(WTm.eq .res (.lit (.bool true))).value [] { args:=args,res:=some (.bool true),after:=args }=some (.bool (true==true))from w_eq_bool (w_res rfl) w_lit) rfl
theorem attach_call{l:OpenLaw}{n:Nat}{q:Program}{e:List Str}{E:(Str->Option Value)->Heap->Prop}{D:World->Heap->Prop}{d:DefRec}
  (J:l.most=some n) (z:d.params.defaults=[])
  (call:∀(w:World) (c b:Shared) (u v:Str->Option Value) (s:Addr) (o:Obj) (pm cd h:Value) (a:Addr) (i:List Value) (ns:List Int),
   Ground q e [] E w c u v b.heap->D w b.heap ->
   b.heap.get? s=some o->o.data=.func (docDef d.name d.params d.body d.scope pm cd h)->b.heap.CodeRec cd d.name->u d.name=some (.ref s) ->
   b.heap.get? a=some { cls:=.type "list",data:=.seq i.toArray }->IntsAre i ns->ns.length<=n->b.gens=#[] ->
   codeAny (model l.prog w) callerA (.call (.ref s) ⟨[.ref a],[]⟩) (fun r t=>r=.ok (.ret (.bool true))/\OldK b.heap t.heap/\t.os=b.os/\AllBare t.gens) b) :
  WalkO q e E D l.row.toRowW d [] (fun f i=>Ol f i):=by
 intro w c b u v G Y s o pm cd h R kV I hd A C y N args vals as j B F x M;obtain rfl:R=.none:=Dflts.none C z;obtain rfl:kV=.none:=Dflts.noKw C;obtain⟨a,i,ns,rfl,rfl,m,g,p⟩:=QeU J j x;refine enter_call (DJ (call w c b u v s o pm cd h a i ns G Y I (fd_plain hd) A y m g p N) fun r t H=>?_);obtain⟨rfl,Q,P,O⟩:=H;exact⟨.inl ⟨.bool true,.bool true,[],rfl,fun _=>rfl,.bool true,Qe6 l _,fun _=>⟨List.Pairwise.nil,fun _ L=>(nomatch L)⟩⟩,Q,P,O⟩
end Att
namespace L2
theorem Qai:∀{a:List Value} {ns:List Int},IntsAre a ns->Vals (ns.map V.int) a
 |_,_,.nil=>.nil
 |_,_,.cons n t h=>.cons ⟨t,rfl⟩ (Qai h)
def Qnl(H:Hp):Prop:=∀b,H b=none\/∃o a,H b=some (.frz o (.lst a))
theorem Qgm{P:Program}{w:World}{K:Ng}{y N:Str->Option Value}{CX:CXT}{k:Nat}{T a:Addr}{fd:FuncData}{x:Str}{sp:Sp}{c:Shared}{l:List Value}{ns:List Int}
  (KX:K.In c.heap) (D:c.heap.Ns mainGlobals y) (g:c.heap.Ns builtinsNs N) (R:∀x:Str,x≠"__name__"->N x=bootBuiltins x) (E:c.heap.NoLimit) (hg:c.gens=#[])
  (L:c.heap.get? a=some { cls:=.type "list",data:=.seq l.toArray }) (Y:IntsAre l ns) (X:ns.length<=sizeLine) (hr:Room k callerA)
  (F:∀base:Heap,K.In base->base.Ns mainGlobals y->FnOk P w K y base CX k T fd [x] sp) (p:∀(s:Shared) (u:Value),BindsTo s fd ⟨[u],[]⟩ [(x,u)])
  (O:∀H:Hp,Qnl H->SqL K H a (ns.map V.int)->sp [.ref a] H (fun v _=>v=.bl true) fun _ _ _=>False)
  (S:∀H e i,CX [] H c (fun _ _ _=>False) e i->False) :
  codeAny (model P w) callerA (.call (.ref T) ⟨[.ref a],[]⟩) (fun r i=>r=.ok (.ret (.bool true))/\OldK c.heap i.heap/\i.os=c.os/\AllBare i.gens) c:=by
 have rv:=Qai Y;have A:=Y.length
 have core:∀H:Hp,Qnl H->SqL K H a (ns.map V.int)->HOk P w H c.heap->(∀b,H b≠none->b=a)->(H a≠none->K.lookup a=none) ->
   codeAny (model P w) callerA (.call (.ref T) ⟨[.ref a],[]⟩) (fun r i=>r=.ok (.ret (.bool true))/\OldK c.heap i.heap/\i.os=c.os/\AllBare i.gens) c:=by
  intro H Z hS C hA hK;have f:∀{b:Addr} {o:Obj},c.heap.get? b=some o->H b=none->(Qg2 c.heap H).get? b=some o:=fun e n=>Qg1 e n
  have M:∀{b:Addr} {o:Obj} {I:Array DictEntry} {J:Nat},c.heap.get? b=some o->o.data=.dict I J->H b=none:=fun {b o I J} e d=>by
   cases q:H b with
   |none=>rfl
   |some u=>
    have U:b=a:=hA b (by rw[q];simp);subst U;rw[L]at e;cases e;have d':Data.seq l.toArray _=Data.dict I J:=d;cases d'
  have j:∀{b:Addr} {m:Str->Option Value},c.heap.Ns b m->(Qg2 c.heap H).Ns b m:=fun {b m} ⟨o,I,J,e,d,r⟩=>⟨o,I,J,f e (M e d),d,r⟩
  have G:K.In (Qg2 c.heap H):=fun b o e=>f (KX b o e) (by
   cases q:H b with
   |none=>rfl
   |some u=>
    have U:b=a:=hA b (by rw[q];simp);subst U
    rw[hK (by rw[q];simp)]at e;cases e)
  have hM:Mod K y (Qg2 c.heap H):=⟨G,j D,⟨N,j g,R⟩,let⟨mc,h1,h2⟩:=E;⟨mc,j h1,h2⟩⟩
  have e0:Env0 P w K y (Qg2 c.heap H) callerA [] c H:=⟨rfl,hM,fun b o e=>Qiu e,Nt (Qer _ _),trivial,fun b g=>absurd (show b∈([]:List Addr)from g) (by simp),C,.of_eq hg⟩
  refine DJ ((F _ G (j D)).run callerA [] c H ⟨[.ref a],[]⟩ [.ref a] [.ref a] _ _ hr e0 (p c (.ref a)) (.cons rfl .nil) (O H Z hS)) fun r i h=>?_;cases r with
  |error e=>exact(S H e i h).elim
  | ok fl=>
   cases fl with
   |next=>exact False.elim h
   |brk=>exact False.elim h
   |cont=>exact False.elim h
   | ret u=>
    obtain⟨v,H',os,bare,un,B,r',q⟩:=h;have q':v=.bl true:=q;subst q';obtain rfl:u=Value.bool true:=r';refine⟨rfl,OldK.of_keep fun b o e=>?_,os,bare⟩;cases q:H b with
    |none=>exact un.keep b o e q (by intro z;exact absurd (show b∈([]:List Addr)from z) (by simp)) (by simp)
    |some u=>
     rcases Z b with z|⟨ob,xs,z⟩
     ·rw[q]at z;cases z
     ·have z2:=un.frzs b ob _ z;obtain⟨e1,_⟩:=C b _ z;obtain⟨e2,_⟩:=B b _ z2;rw[e]at e1;cases e1;exact e2
 cases Q:K.lookup a with
 |some o=>
  have e:=KX a o Q;rw[L]at e;cases e;refine core (fun _=>none) (fun _=>.inl rfl) (.inr ⟨_,l.toArray,_,Q,rfl,rfl,rfl,by rw[Nq,A];exact X,by simpa using rv⟩) (fun b u z=>by have t:(none:Option HO)=some u:=z;cases t) (fun b z=>absurd rfl z) fun z=>absurd rfl z
 | none=>
  refine core (fun b=>if b=a then some (.frz { cls:=.type "list",data:=.seq l.toArray } (.lst (ns.map V.int)))else none) (fun b=>?_) (.inl (.inr ⟨{ cls:=.type "list",data:=.seq l.toArray },if_pos rfl⟩)) (fun b u z=>?_) (fun b z=>?_) fun _=>Q
  ·by_cases g:b=a
   ·exact .inr ⟨_,_,if_pos g⟩
   ·exact .inl (if_neg g)
  ·by_cases g:b=a
   ·have t:=(if_pos g).symm.trans z;cases t;subst g;exact⟨L,by rw[Nu];exact X,l,_,rv,L⟩
   ·have t:=(if_neg g).symm.trans z;cases t
  ·by_cases g:b=a
   ·exact g
   ·exact absurd (if_neg g) z
noncomputable abbrev KOf{K:Ng}{h:Heap}(_:K.In h):Ng:=K
theorem QeO{l:PySem.W.OpenLaw}{n k:Nat}{q:Program}{i:List Str}{X:(Str->Option Value)->Heap->Prop}{J:World->Heap->Prop}{d:DefRec}{K:Params->Ng}{CX:World->CXT}{sp:World->Sp}{x:Str}
  (M:l.most=some n) (A:n<=sizeLine) (C:d.params.defaults=[]) (hr:Room k callerA)
  (Q:∀(w:World) (h:Heap),J w h->(K w.params).In h)
  (F:∀(w:World) (m:Str->Option Value) (t:Addr) (h:Heap),(K w.params).In h->h.Ns mainGlobals m->m d.name=some (.ref t) ->
   ∃fd:FuncData,(∀(s:Shared) (u:Value),BindsTo s fd ⟨[u],[]⟩ [(x,u)]) /\
    ∀base:Heap,(K w.params).In base->base.Ns mainGlobals m->FnOk l.prog w (K w.params) m base (CX w) k t fd [x] (sp w))
  (z:∀(w:World) (H:Hp) (a:Addr) (ns:List Int),ns.length<=n->Qnl H->SqL (K w.params) H a (ns.map V.int)->sp w [.ref a] H (fun v _=>v=.bl true) fun _ _ _=>False)
  (D:∀(w:World) (H:Hp) (s:Shared) (e:Value) (y:Shared),CX w [] H s (fun _ _ _=>False) e y->False) :
  Oy q i X J l.row.toRowW d [] (fun f E=>Ol f E):=by
 refine Att.attach_call M C fun w I p m Z t o pm cd U a E ns G Y ho hd O B r j c N=>?_;have L:=Q w _ Y;obtain⟨fd,P,S⟩:=F w m t _ L G.T.g B;exact Qgm L G.T.g G.T.b G.T.builtins G.T.nolimit N r j (Nn c A) hr S P (fun H R hS=>z w H a ns c R hS) fun H e y=>D w H p e y
noncomputable def VR(s:Stmt):Arguments:=match s with
 |.FunctionDef _ a _ _ _ _ _ _ _ _=>a
 |_=>{ posonlyargs:=[],args:=[],vararg:=none,kwonlyargs:=[],kw_defaults:=[],kwarg:=none,defaults:=[] }
noncomputable def Js(s:Stmt):List Stmt:=match s with
 |.FunctionDef _ _ b _ _ _ _ _ _ _=>b
 |_=>[]
noncomputable def Qg(s:Stmt):Scope:=match s with
 |.FunctionDef _ _ _ _ _ _ a _ _ _=>a
 |_=>{ kind:=.function,names:=[],isGenerator:=false,isCoroutine:=false }
noncomputable abbrev CX0:CXT:=fun _ _ _ _ _ _=>False
noncomputable abbrev E0:XK:=fun _ _ _=>False
theorem Qmg{X:Cx}:UD CX0 X E0:=fun _ _ _ _ _ _ _ h=>h.elim
structure Fun(K:Ng)(x qual:Str)(st:Stmt)(f:Addr)(fd:FuncData):Prop where
 ex:∃(oc:Value) (od:Option Addr) (kV doc pm:Value) (an:Option Addr) (cdv ct:Value) (osl:Array (Option Value)),
  fd=EQ x qual (VR st) (Js st) (Qg st) .none kV doc pm an cdv ct/\K.lookup f=some ⟨oc,od,.func fd,osl⟩/\FK K cdv qual=true
 kp:EE K (.ref f)=true
section
variable{P:Program}{w:World}{K:Ng}{mg:Str->Option Value}{base:Heap}
theorem Fun.ok{x b:Str}{st:Stmt}{f:Addr}{fd:FuncData}{N ps:List Str}{k:Nat}{sp:Sp}(F:Fun K x b st f fd)(S:FnScope N ps (Qg st))(len:∀d H Q E,sp d H Q E->d.length=ps.length)
  (e:∀(c:Value) (A:Around) (a:List Env) (s:Shared) (H:Hp) (d:List V) (Q:VK) (E:XK),Room k (A.deeper (envOfC b (Qg st) s.heap.objs.size f c))->sp d H Q E ->
   ∃t,PSs (Qht CX0 P w K mg base N b (Qg st) f c A a s H E).nox (Js st) t/\t { nx:=fun _ m=>Q .non m,rt:=Q } (start N d) H):FnOk P w K mg base CX0 (k+1) f fd ps sp:=by
 obtain⟨o,n,kV,l,pm,p,c,ct,j,rfl,lk,i⟩:=F.ex;refine Qm8 lk i S len fun A a s H d Q E hr g=>?_;obtain⟨t,h,q⟩:=e c A a s H d Q E hr g;exact⟨t,h.nox,q⟩
theorem Fun.binds{x a:Str}{st:Stmt}{f:Addr}{fd:FuncData}{ps:List Str}(F:Fun K x a st f fd)
  (h:∀(kV b pm:Value) (d:Option Addr) (c ct:Value) (us:List Value),us.length=ps.length->bindArgs (EQ x a (VR st) (Js st) (Qg st) .none kV b pm d c ct) ⟨us,[]⟩=pure (ps.zip us)):Binds K fd ps []:=by
 obtain⟨j,i,kV,b,pm,d,c,ct,e,rfl,lk,g⟩:=F.ex;exact .all (h kV b pm d c ct)
theorem QbP{x a:Str}{st:Stmt}{f:Addr}{i:Value}{h g:Option Addr}{e:Array (Option Value)}{kV d pm b ct:Value}(l:K.lookup f=some ⟨i,h,.func (EQ x a (VR st) (Js st) (Qg st) .none kV d pm g b ct),e⟩)
  (c:FK K b a=true) (k:EE K (.ref f)=true):Fun K x a st f (EQ x a (VR st) (Js st) (Qg st) .none kV d pm g b ct):=⟨⟨i,h,kV,d,pm,g,b,ct,e,rfl,l,c⟩,k⟩
end
theorem QhV{A B:Prop}(h:B):if false=true then A else B:=by
 rw[if_neg NQ];exact h
theorem QhW{A B:Prop}(h:A):if true=true then A else B:=by
 rw[if_pos rfl];exact h
section
variable{κ:Type}[DecidableEq κ]
noncomputable def QbC(a:List (κ×V))(k:κ):Option V:=(a.find? fun b=>decide (b.1=k)).map (·.2)
noncomputable def QiB(a:List (κ×V))(k:κ)(v:V):List (κ×V):=
 if(a.any fun b=>decide (b.1=k))=true then a.map (fun b=>if b.1=k then(b.1,v)else b)else a++[(k,v)]
theorem Qg5{p:κ×V}{r:List (κ×V)}{k:κ}(e:p.1=k):QbC (p::r) k=some p.2:=by simp[QbC,NK,e]
theorem QfO{p:κ×V}{r:List (κ×V)}{k:κ}(e:¬p.1=k):QbC (p::r) k=QbC r k:=by simp[QbC,NK,e]
theorem Qbj(a:List (κ×V))(k:κ)(v:V):(QiB a k v).length<=a.length+1:=by
 unfold QiB;split
 ·rw[Nu];exact Nv _ _
 ·rw[NH,NM,Fv];lia
theorem RelO.isSome_eq{o:Option V}{u:Option Value}(r:RelO o u):o.isSome=u.isSome:=by
 cases o with
 |none=>cases u with
  |none=>rfl
  |some _=>exact(show False from r).elim
 |some _=>cases u with
  |none=>exact(show False from r).elim
  |some _=>rfl
theorem RelO.getD{o:Option V}{u:Option Value}{d:V}{d':Value}(r:RelO o u)(a:RelV d d'):RelV (o.getD d) (u.getD d'):=by
 cases o with
 |none=>cases u with
  |none=>exact a
  |some _=>exact(show False from r).elim
 |some _=>cases u with
  |none=>exact(show False from r).elim
  |some _=>exact r
theorem KV.val{a:List (κ×V)}{f:List (κ×Value)}(r:KV a f)(k:κ):RelO (QbC a k) (valueAt f k):=by
 unfold KV at r
 induction r with
 |nil=>exact True.intro
 | @cons p q l c h t i=>
  obtain⟨g,j⟩:=h
  by_cases e:p.1=k
  ·have d:q.1=k:=g.symm.trans e;have b:valueAt (q::c) k=some q.2:=by simp[valueAt,NK,d]
   rw[Qg5 e,b];exact j
  ·have d:¬q.1=k:=fun z=>e (g.trans z);have b:valueAt (q::c) k=valueAt c k:=by simp[valueAt,NK,d]
   rw[QfO e,b];exact i
theorem KV.any{a:List (κ×V)}{c:List (κ×Value)}(r:KV a c)(k:κ):(a.any fun b=>decide (b.1=k))=c.any fun b=>decide (b.1=k):=by
 unfold KV at r
 induction r with
 |nil=>rfl
 |cons h t d=>rw[E6,E6,d,h.1]
theorem KV.repl{b:List (κ×V)}{d:List (κ×Value)}(r:KV b d)(k:κ){y:V}{u:Value}(f:RelV y u) :
  KV (b.map fun a=>if a.1=k then(a.1,y)else a) (d.map fun a=>if a.1=k then(a.1,u)else a):=by
 unfold KV at r ⊢
 induction r with
 |nil=>exact .nil
 |@cons p q l j h t g=>
  rw[Nw,Nw];refine .cons ?_ g;obtain⟨c,i⟩:=h
  by_cases e:p.1=k
  ·rw[if_pos e,if_pos (c.symm.trans e)];exact⟨c,f⟩
  ·rw[if_neg e,if_neg (fun z=>e (c.trans z))];exact⟨c,i⟩
theorem KV.put{a:List (κ×V)}{b:List (κ×Value)}(r:KV a b)(k:κ){y:V}{u:Value}(c:RelV y u):KV (QiB a k y) (stored b k u):=by
 unfold QiB stored;rw[r.any k]
 by_cases e:(b.any fun d=>decide (d.1=k))=true
 ·rw[if_pos e,if_pos e];exact r.repl k c
 ·rw[if_neg e,if_neg e];exact LX r ⟨rfl,c⟩
end
theorem QkB{P:Program}{w:World}{k:Key}{u:Value}(r:RelV (kV k) u):(VQ P w).is k u=true:=by
 cases k with
 |inl i=>obtain⟨t,e⟩:=(show∃t,u=Value.int i t from r);subst e;exact Qbd P w i t
 |inr x=>obtain⟨t,e⟩:=(show∃t,u=Value.str x t from r);subst e;exact QaS P w x t
section
variable{P:Program}{w:World}{H:Hp}{h:Heap}{a:Addr}
theorem Qm9{u:HO}(ok:HOk P w H h)(e:Rd H a u):ObjOk P w H h a u:=e.ok ok
theorem QmE{b:List (Key×V)}(ok:HOk P w H h)(e:Rd H a (.dK b)):b.length<=sizeLine/\(a==sysModules)=false/\∃c,KV b c/\h.DictOf (VQ P w) a c:=
 show ObjOk P w H h a (.dK b)from Qm9 ok e
theorem Qnm{b:List (Key×V)}(ok:HOk P w H h)(e:H a=some (.dK b)):b.length<=sizeLine/\(a==sysModules)=false/\∃c,KV b c/\h.DictOf (VQ P w) a c:=QmE ok (.inl e)
end
def DGet(H:Hp)(a:Addr)(y:V)(r:Option V):Prop:=∃b k,Rd H a (.dK b)/\y=kV k/\r=QbC b k
theorem DGet.k{H:Hp}{a:Addr}{b:List (Key×V)}{k:Key}(e:H a=some (.dK b)):DGet H a (kV k) (QbC b k):=⟨b,k,.inl e,rfl,rfl⟩
section
variable{X:Cx}{pins:List (Addr×Obj)}{σ:St}{H:Hp}{s:Shared}{a:Addr}{y v:V}{u r:Value}{o:Option V}{A:Around}{E:Value->Shared->Prop}
theorem Inv.big(I:Inv X pins σ H s):sysModules<s.heap.objs.size:=by
 have h:mainGlobals<s.heap.objs.size:=(I.mod.glob.keeps I.bk).lt;exact N4 (by decide) h
theorem Qfo{h':Heap}{t':Nat}{ob:HO}(I:Inv X pins σ H s)(c:Mut (H a))(d:Heap.SameBut a s.heap h')(f:∃q,h'.get? a=some q)(new:ObjOk X.prog X.w (upd H a ob) h' a ob) :
  Inv X pins σ (upd H a ob) { s with heap:=h',toks:=t' }:=
 I.write (x:=a) (e:=a) c (.inl rfl) (fun b q g z=>(d.2 b g).trans z) f new
theorem Ql0{P:Program}{w:World}{d:Hp}{h':Heap}{b:List (Key×V)}{c:List (Key×Value)}(z:b.length<=sizeLine)(hd:(a==sysModules)=false)(rel:KV b c)(dd:h'.DictOf (VQ P w) a c) :
  ObjOk P w d h' a (.dK b):=⟨z,hd,c,rel,dd⟩
end
def QoH(i:Expr):Prop:=∀a b,subscripted i false a b=operate [a,b] (getItem a b)
theorem Qin{prog:Program}{w:World}{A:Around}{E:Value->Shared->Prop}{s:Shared}{env:Env}{value slice:Expr}{pos:Pos}{T id:String}{Q:Value->Shared->Prop}
  (l:typeLookup (.type T) "__getitem__"=pure (some (.builtin id))) (j:QoH slice)
  (h:wpAny (model prog w) A (eval value env) (fun o d=>wpAny (model prog w) A (eval slice env) (fun i a=>a.TypeIs o T/\wpAny (model prog w) A (getItem o i) Q E a) E d) E s) :
  wpAny (model prog w) A (eval (.Subscript value slice pos) env) Q E s:=by
 refine Subscript_ (N0 h (fun o d f=>N0 f (fun i a b=>?_) fun _ _ x=>x) fun _ _ x=>x);obtain⟨g,b⟩:=b;unfold subscriptTail;refine Na ?_;rw[getitemInPython_of_ne g.not_modules];refine Na (Dt g l ?_)
 have fin:wpAny (model prog w) A (subscripted slice false o i) (fun r c=>wpAny (model prog w) A (letTemporaryGo value o r>>=fun _=>pure r) Q E c) E a:=by
  rw[j o i];exact wpAny_operating (N0 b (fun r c e=>Na (wpAny_letTemporaryGo (Nj e))) fun _ _ x=>x)
 first
  |exact Nj (Na fin)
  |exact Na (Nj (Na fin))
  |exact Na fin
theorem Qgu{P:Program}{w:World}{H:Hp}(h:Heap)(a:sysModules<h.objs.size):ObjOk P w H (h.push { cls:=.type "dict",data:=.dict #[] }) h.objs.size (.dK []):=
 ⟨NV _,beq_eq_false_iff_ne.mpr (EN (NG a)),[],.nil,Heap.DictOf.new h⟩
theorem Qbw{P:Program}{w:World}{H:Hp}(h:Heap)(a:sysModules<h.objs.size):ObjOk P w H (h.push { cls:=.type "dict",data:=.dict #[] }) h.objs.size (.dT []):=
 ⟨NV _,beq_eq_false_iff_ne.mpr (EN (NG a)),[],.nil,_,#[],0,NB _ rfl,⟨rfl,rfl,rfl⟩,rfl,rfl,Ea,rfl⟩
def Qlk:TE:=fun _ H Q=>∀p,H p=none->Q (.ref p) (upd H p (.dK []))
def Qlv:TE:=fun _ H Q=>∀p,H p=none->Q (.ref p) (upd H p (.dT []))
section
variable{X:Cx}{pos:Pos}
theorem QfU:PE X (.Dict [] [] pos) Qlk:=fun b s c H Q I h=>
 wpAny_Dict_empty ⟨.ref s.heap.objs.size,_,I.laid (a:=s.heap.objs.size) (o:=.dK []) (t':=s.toks) (fun _ _ q=>No _ q) (Nz _) (Qgu s.heap I.big),rfl,h _ (I.hok.fresh (Nz _))⟩
theorem Qgx:PE X (.Dict [] [] pos) Qlv:=fun b s c H Q I h=>
 wpAny_Dict_empty ⟨.ref s.heap.objs.size,_,I.laid (a:=s.heap.objs.size) (o:=.dT []) (t':=s.toks) (fun _ _ q=>No _ q) (Nz _) (Qbw s.heap I.big),rfl,h _ (I.hok.fresh (Nz _))⟩
end
section
variable{X:Cx}{pins:List (Addr×Obj)}{σ:St}{H:Hp}{s:Shared}{a:Addr}{y d:V}{u r:Value}{o:Option V}{A:Around}{E:Value->Shared->Prop}
theorem QlV{Q:Value->Shared->Prop}(hu:A.units+1<cLine)(I:Inv X pins σ H s)(g:DGet H a y o)(c:RelV y u)(f:RelV d r)(h:∀w' b,Inv X pins σ H b->RelV (o.getD d) w'->Q w' b) :
  wpAny (model X.prog X.w) A (call (.builtin "dict.get") [.ref a,u,r]) Q E s:=by
 obtain⟨i,k,e,j,l⟩:=g;subst j;obtain⟨z,hd,m,rel,dd⟩:=QmE I.hok e;refine Iy Dy dd.typeIs F3 (FQ _ _ _) (meets_dict_get_default (VQ X.prog X.w) a (QkB c) hd r) ⟨_,dd.mapOf,h _ _ (I.tok _) ?_⟩;rw[l];exact(rel.val k).getD f
end
end L2
namespace Mi
open L2
inductive W where
 |non|bl (b:Bool)|int (i:Int)|str (x:Str)|tup (ws:List W)|lst (ws:List W)|frz (ws:List W)|ref (n:Nat)|ty (n:String)
inductive MO where
 |lst (ws:List W)
 |dic (kvs:List (Key×W))
 |dct (kvs:List (W×W))
 |ins (C:Addr) (fs:List (Str×W))
noncomputable abbrev MH:=List MO
noncomputable abbrev MSt:=List (Option W)
structure Rn where
 ρ:Nat->Addr
 N:Nat
 F:Hp
 G:Hp
structure Ext(R R':Rn):Prop where
 n:R.N<=R'.N
 ρ:∀n,n<R.N->R'.ρ n=R.ρ n
 f:∀a o,R.F a=some o->R'.F a=some o
 g:R'.G=R.G
theorem Ext.refl(R:Rn):Ext R R:=⟨Nz _,fun _ _=>rfl,fun _ _ h=>h,rfl⟩
theorem Ext.trans{R R1 R2:Rn}(a:Ext R R1)(b:Ext R1 R2):Ext R R2:=
 ⟨Nn a.n b.n,fun n h=>(b.ρ n (Nk h a.n)).trans (a.ρ n h),fun x o h=>b.f x o (a.f x o h),b.g.trans a.g⟩
theorem ZR{K:Ng}(e:∀a o,F a=some o->b a=some o)(h:SqT K F a xs):SqT K b a xs:=by
 rcases h with(h|⟨o,h⟩)|h
 ·exact .inl (.inl (e _ _ h))
 ·exact .inl (.inr ⟨o,e _ _ h⟩)
 ·exact .inr h
theorem Zh{K:Ng}(e:∀a o,F a=some o->b a=some o)(h:SqL K F a xs):SqL K b a xs:=by
 rcases h with(h|⟨o,h⟩)|h
 ·exact .inl (.inl (e _ _ h))
 ·exact .inl (.inr ⟨o,e _ _ h⟩)
 ·exact .inr h
section
variable(K:Ng)
mutual
noncomputable def Rw(R:Rn):W->V->Prop
 |.non,v=>v=.non
 |.bl b,v=>v=.bl b
 |.int i,v=>v=.int i
 |.str x,v=>v=.str x
 |.tup ws,v=>∃a xs,v=.ref a/\SqT K R.F a xs/\Rws R ws xs
 |.lst ws,v=>∃a xs,v=.ref a/\R.F a=some (.lst xs)/\Rws R ws xs
 |.frz ws,v=>∃a xs,v=.ref a/\SqL K R.F a xs/\Rws R ws xs
 |.ref n,v=>n<R.N/\v=.ref (R.ρ n)
 |.ty n,v=>v=.ty n
noncomputable def Rws(R:Rn):List W->List V->Prop
 |[],b=>b=[]
 |w::ws,b=>∃v a,b=v::a/\Rw R w v/\Rws R ws a
end
end
section
variable{K:Ng}{R R':Rn}
mutual
theorem Rw.mono(e:Ext R R'):∀(w:W) (v:V),Rw K R w v->Rw K R' w v
 |.non,_,h=>by unfold Rw at h ⊢;exact h
 |.bl _,_,h=>by unfold Rw at h ⊢;exact h
 |.int _,_,h=>by unfold Rw at h ⊢;exact h
 |.str _,_,h=>by unfold Rw at h ⊢;exact h
 |.ty _,_,h=>by unfold Rw at h ⊢;exact h
 |.tup ws,_,h=>by
  unfold Rw at h ⊢;obtain⟨a,xs,b,c,d⟩:=h;exact⟨a,xs,b,ZR e.f c,Rws.mono e ws xs d⟩
 |.lst ws,_,h=>by
  unfold Rw at h ⊢;obtain⟨a,xs,b,c,d⟩:=h;exact⟨a,xs,b,e.f a _ c,Rws.mono e ws xs d⟩
 |.frz ws,_,h=>by
  unfold Rw at h ⊢;obtain⟨a,xs,b,c,d⟩:=h;exact⟨a,xs,b,Zh e.f c,Rws.mono e ws xs d⟩
 |.ref n,_,h=>by
  unfold Rw at h ⊢;obtain⟨b,c⟩:=h;exact⟨Nk b e.n,by rw[e.ρ n b];exact c⟩
theorem Rws.mono(e:Ext R R'):∀(ws:List W) (b:List V),Rws K R ws b->Rws K R' ws b
 |[],_,h=>by unfold Rws at h ⊢;exact h
 |w::ws,_,h=>by
  unfold Rws at h ⊢;obtain⟨v,a,f,d,c⟩:=h;exact⟨v,a,f,Rw.mono e w v d,Rws.mono e ws a c⟩
end
theorem Rws.nil_iff:Rws K R [] a↔a=[]:=by unfold Rws;exact Iff.rfl
theorem Rws.cons_iff:Rws K R (w::ws) b↔∃v a,b=v::a/\Rw K R w v/\Rws K R ws a:=by
 constructor
 ·intro h;unfold Rws at h;exact h
 ·intro h;unfold Rws;exact h
theorem Rws.nil:Rws K R [] []:=Rws.nil_iff.mpr rfl
theorem Rws.cons(a:Rw K R w v)(b:Rws K R ws c):Rws K R (w::ws) (v::c):=Rws.cons_iff.mpr ⟨v,c,rfl,a,b⟩
theorem Rws.paired:∀{ws:List W} {c:List V},Rws K R ws c->Paired (Rw K R) ws c
 |[],c,h=>by rw[Rws.nil_iff]at h;subst h;exact .nil
 |w::ws,c,h=>by
  rw[Rws.cons_iff]at h;obtain⟨v,d,rfl,a,b⟩:=h;exact .cons a (Rws.paired b)
theorem Rws.length(h:Rws K R ws a):ws.length=a.length:=NW h.paired
theorem Rws.get:∀{ws:List W} {c:List V} {i:Nat} {w:W},Rws K R ws c->ws[i]?=some w->∃v,c[i]?=some v/\Rw K R w v
 |[],_,_,_,_,e=>by simp at e
 |w::ws,c,0,x,h,e=>by
  rw[Rws.cons_iff]at h;obtain⟨v,d,rfl,a,b⟩:=h;simp at e;subst e;exact⟨v,by simp,a⟩
 |w::ws,c,i+1,x,h,e=>by
  rw[Rws.cons_iff]at h;obtain⟨v,d,rfl,a,b⟩:=h;obtain⟨y,g,f⟩:=Rws.get (i:=i) b (by simpa using e);exact⟨y,by simpa using g,f⟩
theorem Rws.append:∀{ws us:List W} {c xs:List V},Rws K R ws c->Rws K R us xs->Rws K R (ws++us) (c++xs)
 |[],us,c,xs,h,q=>by rw[Rws.nil_iff]at h;subst h;exact q
 |w::ws,us,c,xs,h,q=>by
  rw[Rws.cons_iff]at h;obtain⟨v,d,rfl,a,b⟩:=h;exact Rws.cons a (Rws.append b q)
theorem Rws.take:∀{ws:List W} {c:List V} (n:Nat),Rws K R ws c->Rws K R (ws.take n) (c.take n)
 |_,_,0,_=>by simp;exact Rws.nil
 |[],c,n+1,h=>by rw[Rws.nil_iff]at h;subst h;simp;exact Rws.nil
 |w::ws,c,n+1,h=>by
  rw[Rws.cons_iff]at h;obtain⟨v,d,rfl,a,b⟩:=h;exact Rws.cons a (Rws.take n b)
theorem Rws.drop:∀{ws:List W} {c:List V} (n:Nat),Rws K R ws c->Rws K R (ws.drop n) (c.drop n)
 |_,_,0,h=>by simpa using h
 |[],c,n+1,h=>by rw[Rws.nil_iff]at h;subst h;simp;exact Rws.nil
 |w::ws,c,n+1,h=>by
  rw[Rws.cons_iff]at h;obtain⟨v,d,rfl,a,b⟩:=h;exact Rws.drop n b
theorem Rws.set:∀{ws:List W} {c:List V} {w:W} {v:V} (n:Nat),Rws K R ws c->Rw K R w v->Rws K R (ws.set n w) (c.set n v)
 |[],c,_,_,n,h,_=>by rw[Rws.nil_iff]at h;subst h;simp;exact Rws.nil
 |x::ws,c,w,v,0,h,q=>by
  rw[Rws.cons_iff]at h;obtain⟨y,d,rfl,a,b⟩:=h;exact Rws.cons q b
 |x::ws,c,w,v,n+1,h,q=>by
  rw[Rws.cons_iff]at h;obtain⟨y,d,rfl,a,b⟩:=h;exact Rws.cons a (Rws.set n b q)
end
noncomputable def Wm:Nat->W->Option Tr
 |0,_=>none
 |_+1,.int i=>some (.i i)
 |_+1,.bl b=>some (.i (if b then 1 else 0))
 |_+1,.str x=>some (.s x)
 |n+1,.tup ws=>(ws.mapM (Wm n)).map .t
 |_+1,_=>none
def nrm:W->Option Tr
 |.tup ws=>Wm 8 (.tup ws)
 |_=>none
section
variable(K:Ng)
def Ro(R:Rn):MO->Option HO->Prop
 |.lst ws,o=>∃xs,o=some (.lst xs)/\Rws K R ws xs
 |.dic a,o=>∃kx:List (Key×V),o=some (.dK kx)/\Paired (fun p q=>p.1=q.1/\Rw K R p.2 q.2) a kx
 |.dct a,o=>∃kx:List (Tr×Addr×V),o=some (.dT kx)/\Paired (fun p q=>Rw K R p.1 (.ref q.2.1)/\nrm p.1=some q.1/\Rw K R p.2 q.2.2) a kx
 |.ins C fs,o=>∃(c:Addr) (b:List (Str×V)),o=some (.ins C c b)/\Paired (fun p q=>p.1=q.1/\Rw K R p.2 q.2) fs b
structure Rh(R:Rn)(h:MH)(H:Hp):Prop where
 len:R.N=h.length
 sub:∀a o,R.F a=some o->H a=some o
 sep:∀n,n<R.N->R.F (R.ρ n)=none
 inj:∀m n,m<R.N->n<R.N->R.ρ m=R.ρ n->m=n
 obj:∀n o,h[n]?=some o->Ro K R o (H (R.ρ n))
 gsub:∀a o,R.G a=some o->H a=some o
 gsep:∀n,n<R.N->R.G (R.ρ n)=none
 gf:∀a o,R.G a=some o->R.F a=none
def Rst(R:Rn)(a:MSt)(σ:L2.St):Prop:=a.length=σ.length/\∀(i:Nat) (w:W),a[i]?=some (some w)->∃v,σ[i]?=some (some v)/\Rw K R w v
end
section
variable{K:Ng}{R R':Rn}{h:MH}{H:Hp}{σi:MSt}{σ:L2.St}
theorem Ro.mono(e:Ext R R')(q:Ro K R o u):Ro K R' o u:=by
 cases o with
 |lst j=>obtain⟨i,d,c⟩:=q;exact⟨i,d,Rws.mono e j i c⟩
 |dic g=>obtain⟨f,d,c⟩:=q;exact⟨f,d,Paired.mapP c fun a b z=>⟨z.1,Rw.mono e _ _ z.2⟩⟩
 |dct g=>obtain⟨f,d,c⟩:=q;exact⟨f,d,Paired.mapP c fun a b z=>⟨Rw.mono e _ _ z.1,z.2.1,Rw.mono e _ _ z.2.2⟩⟩
 |ins C fs=>obtain⟨m,l,d,c⟩:=q;exact⟨m,l,d,Paired.mapP c fun a b z=>⟨z.1,Rw.mono e _ _ z.2⟩⟩
theorem Ro.some(q:Ro K R o u):∃x,u=some x:=by
 cases o with
 |lst f=>obtain⟨e,a,c⟩:=q;exact⟨_,a⟩
 |dic b=>obtain⟨d,a,c⟩:=q;exact⟨_,a⟩
 |dct b=>obtain⟨d,a,c⟩:=q;exact⟨_,a⟩
 |ins C fs=>obtain⟨i,g,a,c⟩:=q;exact⟨_,a⟩
theorem Rst.mono(e:Ext R R')(q:Rst K R σi σ):Rst K R' σi σ:=⟨q.1,fun i w h=>by
 obtain⟨v,b,a⟩:=q.2 i w h
 exact⟨v,b,Rw.mono e _ _ a⟩⟩
theorem Rst.set(q:Rst K R σi σ)(r:Rw K R w v):Rst K R (σi.set i (some w)) (σ.set i (some v)):=by
 refine⟨by rw[Dx,Dx];exact q.1,fun j u e=>?_⟩;rw[FW]at e ⊢
 by_cases a:i=j
 ·subst a;rw[if_pos rfl]at e ⊢
  by_cases b:i<σi.length
  ·rw[if_pos b]at e;rw[if_pos (q.1▸b)];cases e;exact⟨v,rfl,r⟩
  ·rw[if_neg b]at e;cases e
 ·rw[if_neg a]at e ⊢;exact q.2 j u e
theorem Rh.there(q:Rh K R h H)(b:n<R.N):∃o u,h[n]?=some o/\H (R.ρ n)=some u:=by
 have a:n<h.length:=q.len▸b;obtain⟨u,hu⟩:=(q.obj n h[n] (Nl a)).some;exact⟨h[n],u,Nl a,hu⟩
theorem Rh.ne(q:Rh K R h H)(a:H p=none)(b:n<R.N):R.ρ n≠p:=fun e=>by
 obtain⟨o,u,_,hu⟩:=q.there b;rw[e,a]at hu;cases hu
theorem Rh.fix(q:Rh K R h H)(c:H p=none) :
  Ext R { R with F:=upd R.F p o }/\Rh K { R with F:=upd R.F p o } h (upd H p o):=by
 have f:R.F p=none:=by
  cases e:R.F p with
  |none=>rfl
  |some u=>have:=q.sub p u e;rw[c]at this;cases this
 have x:Ext R { R with F:=upd R.F p o }:=⟨Nz _,fun _ _=>rfl,fun a u e=>by
  show upd R.F p o a=some u
  rw[Qy (fun z=>by rw[z,f]at e;cases e)];exact e,rfl⟩
 have hG:∀a u,R.G a=some u->a≠p:=fun a u e z=>by have:=q.gsub a u e;rw[z,c]at this;cases this
 refine⟨x,q.len,fun a u e=>?_,fun n d=>?_,q.inj,fun n u e=>?_,fun a u e=>?_,q.gsep,fun a u e=>?_⟩
 rotate_right 2
 ·rw[Qy (hG a u e)];exact q.gsub a u e
 ·show upd R.F p o a=none;rw[Qy (hG a u e)];exact q.gf a u e
 ·by_cases z:a=p
  ·subst z;have b:upd R.F a o a=some u:=e;rw[JZ]at b ⊢;exact b
  ·have b:upd R.F p o a=some u:=e;rw[Qy z]at b ⊢;exact q.sub a u b
 ·show upd R.F p o (R.ρ n)=none;rw[Qy (q.ne c d)];exact q.sep n d
 ·have d:n<R.N:=by rw[q.len];exact(Nf.mp e).1
  show Ro K _ u (upd H p o (R.ρ n));rw[Qy (q.ne c d)];exact(q.obj n u e).mono x
theorem Rh.tup(q:Rh K R h H)(a:H p=none)(r:Rws K R ws xs) :
  ∃R',Ext R R'/\Rh K R' h (upd H p (.tup xs))/\Rw K R' (.tup ws) (.ref p):=by
 obtain⟨x,y⟩:=q.fix (o:=.tup xs) a;refine⟨_,x,y,?_⟩;unfold Rw;exact⟨p,xs,rfl,SqT.of JZ,Rws.mono x _ _ r⟩
theorem Rh.lstI(q:Rh K R h H)(a:H p=none)(r:Rws K R ws xs) :
  ∃R',Ext R R'/\Rh K R' h (upd H p (.lst xs))/\Rw K R' (.lst ws) (.ref p):=by
 obtain⟨x,y⟩:=q.fix (o:=.lst xs) a;refine⟨_,x,y,?_⟩;unfold Rw;exact⟨p,xs,rfl,JZ,Rws.mono x _ _ r⟩
theorem Rh.new(q:Rh K R h H)(f:H p=none)(r:∀R',Ext R R'->Ro K R' mo (some o)) :
  ∃R',Ext R R'/\Rh K R' (h++[mo]) (upd H p o)/\Rw K R' (.ref h.length) (.ref p):=by
 let R':Rn:={ ρ:=fun n=>if n=R.N then p else R.ρ n,N:=R.N+1,F:=R.F,G:=R.G }
 have hr:∀n,n<R.N->R'.ρ n=R.ρ n:=fun n b=>if_neg (NG b);have d:R'.ρ R.N=p:=if_pos rfl;have x:Ext R R':=⟨IX _,hr,fun _ _ e=>e,rfl⟩
 have hG:∀a u,R.G a=some u->a≠p:=fun a u e z=>by have:=q.gsub a u e;rw[z,f]at this;cases this
 have i:R.F p=none:=by
  cases e:R.F p with
  |none=>rfl
  |some u=>have:=q.sub p u e;rw[f]at this;cases this
 have below:∀n,n<R.N+1->n<R.N\/n=R.N:=fun n b=>Nat.lt_or_eq_of_le (Nat.le_of_lt_succ b)
 have g:∀n,n<R.N+1->R.G (R'.ρ n)=none:=fun n b=>by
  rcases below n b with b|b
  ·rw[hr n b];exact q.gsep n b
  ·subst b;rw[d];cases e:R.G p with
   |none=>rfl
   |some u=>exact absurd rfl (hG p u e)
 refine⟨R',x,⟨?_,fun a u e=>?_,fun n b=>?_,fun m n c b e=>?_,fun n u e=>?_,fun a u e=>by rw[Qy (hG a u e)];exact q.gsub a u e,g,q.gf⟩,?_⟩
 ·show R.N+1=_;rw[NH,q.len];rfl
 ·have z:a≠p:=fun z=>by have j:R.F a=some u:=e;rw[z,i]at j;cases j
  rw[Qy z];exact q.sub a u e
 ·rcases below n b with b|b
  ·rw[hr n b];exact q.sep n b
  ·subst b;rw[d];exact i
 ·rcases below m c with c|c<;>rcases below n b with b|b
  ·rw[hr m c,hr n b]at e;exact q.inj m n c b e
  ·subst b;rw[hr m c,d]at e;exact absurd e (q.ne f c)
  ·subst c;rw[hr n b,d]at e;exact absurd e.symm (q.ne f b)
  ·rw[c,b]
 ·have b:n<R.N+1:=by
   have:=(Nf.mp e).1;rw[NH,<-q.len]at this;exact this
  rcases below n b with b|b
  ·rw[hr n b,Qy (q.ne f b)];rw[NO (by rw[<-q.len];exact b)]at e;exact(q.obj n u e).mono x
  ·subst b;rw[d,JZ];rw[DC (by rw[q.len];exact Nz _),q.len,Nat.sub_self]at e;cases e;exact r R' x
 ·unfold Rw;refine⟨by rw[<-q.len];exact N1 _,?_⟩;rw[<-q.len,d]
theorem Rh.put(q:Rh K R h H)(b:n<R.N)(r:Ro K R mo (some o)):Rh K R (h.set n mo) (upd H (R.ρ n) o):=by
 refine⟨by rw[Dx];exact q.len,fun a u e=>?_,q.sep,q.inj,fun m u e=>?_,fun a u e=>?_,q.gsep,q.gf⟩
 rotate_right
 ·have z:a≠R.ρ n:=fun z=>by rw[z,q.gsep n b]at e;cases e
  rw[Qy z];exact q.gsub a u e
 ·have z:a≠R.ρ n:=fun z=>by rw[z,q.sep n b]at e;cases e
  rw[Qy z];exact q.sub a u e
 ·by_cases z:n=m
  ·subst z;rw[JZ];rw[E4 (by rw[<-q.len];exact b)]at e;cases e;exact r
  ·have c:m<R.N:=by
    have:=(Nf.mp e).1;rw[Dx,<-q.len]at this;exact this
   rw[Da z]at e;rw[Qy (fun w=>z (q.inj m n c b w).symm)];exact q.obj m u e
theorem Rh.tupAt(q:Rh K R h H)(r:Rw K R (.tup ws) v):∃a xs,v=.ref a/\SqT K H a xs/\Rws K R ws xs:=by
 unfold Rw at r;obtain⟨a,xs,d,c,b⟩:=r;exact⟨a,xs,d,ZR q.sub c,b⟩
theorem Rh.lstAt(q:Rh K R h H)(r:Rw K R (.lst ws) v):∃a xs,v=.ref a/\H a=some (.lst xs)/\Rws K R ws xs:=by
 unfold Rw at r;obtain⟨a,xs,d,c,b⟩:=r;exact⟨a,xs,d,q.sub a _ c,b⟩
theorem Rh.frzAt(q:Rh K R h H)(r:Rw K R (.frz ws) v):∃a xs,v=.ref a/\SqL K H a xs/\Rws K R ws xs:=by
 unfold Rw at r;obtain⟨a,xs,d,c,b⟩:=r;exact⟨a,xs,d,Zh q.sub c,b⟩
def lsW(h:MH):W->Option (List W)
 |.lst ws=>some ws
 |.frz ws=>some ws
 |.ref n=>match h[n]? with|some (.lst ws)=>some ws|_=>none
 |_=>none
def loW(h:MH):W->Option (List W)
 |.lst ws=>some ws
 |.ref n=>match h[n]? with|some (.lst ws)=>some ws|_=>none
 |_=>none
theorem Rh.loAt(q:Rh K R h H)(r:Rw K R w v)(e:loW h w=some ws):∃a xs,v=.ref a/\H a=some (.lst xs)/\Rws K R ws xs:=by
 cases w with
 |lst b=>cases e;exact q.lstAt r
 |ref n=>
  simp only[loW]at e;split at e
  ·rename_i b c;cases e;unfold Rw at r;obtain⟨xs,f,d⟩:=q.obj n _ c;exact⟨_,xs,r.2,f,d⟩
  ·cases e
 |_=>cases e
theorem Rh.lsAt(q:Rh K R h H)(r:Rw K R w v)(e:lsW h w=some ws):∃a xs,v=.ref a/\SqL K H a xs/\Rws K R ws xs:=by
 cases w with
 |lst b=>cases e;obtain⟨a,xs,j,i,g⟩:=q.lstAt r;exact⟨a,xs,j,SqL.of i,g⟩
 |frz b=>cases e;exact q.frzAt r
 |ref n=>
  simp only[lsW]at e;split at e
  ·rename_i b c;cases e;unfold Rw at r;obtain⟨xs,f,d⟩:=q.obj n _ c;exact⟨_,xs,r.2,SqL.of f,d⟩
  ·cases e
 |_=>cases e
theorem Rh.refAt(q:Rh K R h H)(r:Rw K R (.ref n) v)(e:h[n]?=some (.lst ws)) :
  n<R.N/\v=.ref (R.ρ n)/\∃xs,H (R.ρ n)=some (.lst xs)/\Rws K R ws xs:=by
 unfold Rw at r;exact⟨r.1,r.2,q.obj n _ e⟩
end
theorem Rw.non_eq{K:Ng}(r:Rw K R .non v):v=.non:=by unfold Rw at r;exact r
theorem Rw.bl_eq{K:Ng}(r:Rw K R (.bl b) v):v=.bl b:=by unfold Rw at r;exact r
theorem Rw.int_eq{K:Ng}(r:Rw K R (.int i) v):v=.int i:=by unfold Rw at r;exact r
theorem Rw.str_eq{K:Ng}(r:Rw K R (.str x) v):v=.str x:=by unfold Rw at r;exact r
theorem Rw.ty_eq{K:Ng}(r:Rw K R (.ty n) v):v=.ty n:=by unfold Rw at r;exact r
theorem Rw.ty{K:Ng}(n:String):Rw K R (.ty n) (.ty n):=by unfold Rw;rfl
theorem Rw.non{K:Ng}:Rw K R .non .non:=by unfold Rw;rfl
theorem Rw.bl{K:Ng}(b:Bool):Rw K R (.bl b) (.bl b):=by unfold Rw;rfl
theorem Rw.int{K:Ng}(i:Int):Rw K R (.int i) (.int i):=by unfold Rw;rfl
theorem Rw.str{K:Ng}(x:Str):Rw K R (.str x) (.str x):=by unfold Rw;rfl
end Mi
namespace Mi
open L2
abbrev ME:=MSt->MH->Option (W×MH)
abbrev MT:=MSt->MH->Option (Bool×MH)
abbrev MA:=MSt->MH->Option (List W×MH)
inductive MF where
 |nx (σ:MSt) (h:MH)|rt (w:W) (h:MH)|bk (σ:MSt) (h:MH)|ct (σ:MSt) (h:MH)
abbrev SM:=MSt->MH->Option MF
abbrev FM:=List W->MH->Option (W×MH)
section
variable(K:Ng)
def After(R:Rn)(w:W)(h':MH)(Q:VK):Prop:=∀a b v,Ext R a->Rh K a h' b->Rw K a w v->Q v b
noncomputable def tI(m:ME):TE:=fun c H Q=>∃R a h w b,Rh K R h H/\Rst K R a c/\m a h=some (w,b)/\After K R w b Q
noncomputable def tIT(m:MT):TT:=fun f H Q=>∃R a h b c,Rh K R h H/\Rst K R a f/\m a h=some (b,c)/\∀d e,Ext R d->Rh K d c e->Q b e
def tIA(m:MA):TA:=fun g H Q=>∃R a h c e,Rh K R h H/\Rst K R a g/\m a h=some (c,e)/\∀b f d,Ext R b->Rh K b e f->Rws K b c d->Q d f
noncomputable def Ends(R:Rn)(D:L2.Ends):MF->Prop
 |.nx a h=>∀R' b σ,Ext R R'->Rh K R' h b->Rst K R' a σ->D.nx σ b
 |.bk a h=>∀R' b σ,Ext R R'->Rh K R' h b->Rst K R' a σ->D.bk σ b
 |.ct a h=>∀R' b σ,Ext R R'->Rh K R' h b->Rst K R' a σ->D.ct σ b
 |.rt w h=>After K R w h D.rt
def tS(m:SM):TS:=fun D b H=>∃R a h r,Rh K R h H/\Rst K R a b/\m a h=some r/\Ends K R D r
def spM(n:Nat)(m:FM):Sp:=fun c H Q _=>∃R a h w b,a.length=n/\Rh K R h H/\Rws K R a c/\m a h=some (w,b)/\After K R w b Q
end
def PM(X:Cx)(e:Expr)(m:ME):Prop:=PE X e (tI X.K m)
def PMT(X:Cx)(e:Expr)(m:MT):Prop:=PT X e (tIT X.K m)
def PMA(X:Cx)(es:List Expr)(m:MA):Prop:=PA X es (tIA X.K m)
def PMS(X:Cx)(st:Stmt)(m:SM):Prop:=PS X st (tS X.K m)
def QfN(X:Cx)(st:List Stmt)(m:SM):Prop:=PSs X st (tS X.K m)
section
variable{K:Ng}{R R1 R2:Rn}
theorem After.ext(a:After K R w h' Q)(x:Ext R R1):After K R1 w h' Q:=fun b c v e=>a b c v (x.trans e)
theorem Ends.ext(a:Ends K R D r)(x:Ext R R1):Ends K R1 D r:=by
 cases r with
 |nx d h=>exact fun b c v e=>a b c v (x.trans e)
 |bk d h=>exact fun b c v e=>a b c v (x.trans e)
 |ct d h=>exact fun b c v e=>a b c v (x.trans e)
 |rt w h=>exact After.ext a x
end
theorem Q5(h:PE X e t)(i:∀σ H Q,t' σ H Q->t σ H Q):PE X e t':=fun a s σ H Q I q=>h a s σ H Q I (i _ _ _ q)
theorem QbQ(h:PT X e t)(i:∀σ H Q,t' σ H Q->t σ H Q):PT X e t':=fun a s σ H Q I q=>h a s σ H Q I (i _ _ _ q)
theorem Qie(h:PW X e t)(i:∀σ H Q,t' σ H Q->t σ H Q):PW X e t':=fun b a s σ H Q I q=>h b a s σ H Q I (i _ _ _ q)
theorem Qhy(h:PA X es t)(i:∀σ H Q,t' σ H Q->t σ H Q):PA X es t':=fun pos a s σ H Q I q=>h pos a s σ H Q I (i _ _ _ q)
theorem X8{st:Stmt}(h:PS X st t)(i:∀D σ H,t' D σ H->t D σ H):PS X st t':=fun a s σ H D I q=>h a s σ H D I (i _ _ _ q)
theorem Qfi{st:List Stmt}(h:PSs X st t)(i:∀D σ H,t' D σ H->t D σ H):PSs X st t':=fun a s σ H D I q=>h a s σ H D I (i _ _ _ q)
noncomputable def Qb(i:Nat):ME:=fun a h=>match a[i]? with|some (some w)=>some (w,h)|_=>none
noncomputable def mC(w:W):ME:=fun _ h=>some (w,h)
section
variable{X:Cx}
theorem Qly(i:Nat)(hN:X.N[i]?=some x:=by rfl)(d:Vis X.env.scope x:=by first|exact Or.inl rfl|exact Or.inr (Or.inl rfl)|exact Or.inr (Or.inr rfl))(hd:(x==("__debug__":Str))=false:=by decide)
  (a:(x==("__classdict__":Str))=false:=by decide):PM X (.Name x pos) (Qb i):=Q5 (Qk1 hN d hd a) <|by
 rintro l H Q ⟨R,b,h,w,n,c,st,e,k⟩
 unfold Qb at e;split at e
 ·rename_i m j;cases e;obtain⟨v,g,f⟩:=st.2 i _ j;exact⟨v,g,k R H v (Ext.refl _) c f⟩
 ·cases e
theorem QdH(r:∀R,Rw X.K R w v)(q:tI X.K (mC w) σ H Q):tC v σ H Q:=by
 obtain⟨R,a,h,c,d,b,st,e,k⟩:=q;cases e;exact k R H v (Ext.refl _) b (r R)
theorem Qk6{i j pos}:PM X (.Constant (.int i) j pos) (mC (.int i)):=Q5 QkL fun _ _ _=>QdH fun _=>Rw.int _
theorem ZF{b j pos}:PM X (.Constant (.bool b) j pos) (mC (.bl b)):=Q5 Qou fun _ _ _=>QdH fun _=>Rw.bl _
theorem V4{j pos}:PM X (.Constant .none j pos) (mC .non):=Q5 Ql2 fun _ _ _=>QdH fun _=>Rw.non
theorem Qjv(d:Gl X x)(c:X.mg x=none)(a:bootBuiltins x=some u)(r:RelV v u)(rw:∀R,Rw X.K R w v)(b:x≠"__name__":=by decide)(hd:(x==("__debug__":Str))=false:=by decide):PM X (.Name x pos) (mC w):=
 Q5 (Qje d c a r b hd) fun _ _ _=>QdH rw
theorem Qmp{x j pos}:PM X (.Constant (.str x) j pos) (mC (.str x)):=Q5 QlP fun _ _ _=>QdH fun _=>Rw.str _
end
noncomputable def Qe(f:W->W->MH->Option (W×MH))(c b:ME):ME:=fun a h=>(c a h).bind fun p=>(b a p.2).bind fun q=>f p.1 q.1 q.2
def F1(K:Ng)(f:W->MH->Option (W×MH))(x:V)(H:Hp)(Q:VK):Prop:=∃R h a w b,Rh K R h H/\Rw K R a x/\f a h=some (w,b)/\After K R w b Q
def F2(K:Ng)(f:W->W->MH->Option (W×MH))(x y:V)(H:Hp)(Q:VK):Prop:=∃R h a b w c,Rh K R h H/\Rw K R a x/\Rw K R b y/\f a b h=some (w,c)/\After K R w c Q
def Fs(K:Ng)(f:List W->MH->Option (W×MH))(xs:List V)(H:Hp)(Q:VK):Prop:=∃R h a w b,Rh K R h H/\Rws K R a xs/\f a h=some (w,b)/\After K R w b Q
noncomputable def mUn(f:W->MH->Option (W×MH))(b:ME):ME:=fun a h=>(b a h).bind fun p=>f p.1 p.2
noncomputable def mFn(f:List W->MH->Option (W×MH))(b:MA):ME:=fun a h=>(b a h).bind fun p=>f p.1 p.2
section
variable{K:Ng}{σ:L2.St}{H:Hp}{Q:VK}
theorem un1(q:tI K (mUn f m) σ H Q):tI K m σ H fun x g=>F1 K f x g Q:=by
 obtain⟨R,b,h,w,n,l,st,e,k⟩:=q;obtain⟨⟨a,d⟩,o,p⟩:=Nc.mp e;exact⟨R,b,h,a,d,l,st,o,fun R1 g x i c j=>⟨R1,d,a,w,n,c,j,p,k.ext i⟩⟩
theorem QkM(q:tI K (Qe f u t) σ H Q):tI K u σ H fun x o=>tI K t σ o fun y n=>F2 K f x y n Q:=by
 obtain⟨R,c,h,w,v,s,st,e,k⟩:=q;obtain⟨⟨a,m⟩,A,C⟩:=Nc.mp e;obtain⟨⟨b,l⟩,z,B⟩:=Nc.mp C
 exact⟨R,c,h,a,m,s,st,A,fun R1 o x j g r=>⟨R1,c,m,b,l,g,st.mono j,z,fun R2 n y i d p=>
  ⟨R2,l,a,b,w,v,d,Rw.mono i _ _ r,p,B,k.ext (j.trans i)⟩⟩⟩
theorem Qc8(q:tI K (mFn f m) σ H Q):tIA K m σ H fun xs g=>Fs K f xs g Q:=by
 obtain⟨R,b,h,w,n,l,st,e,k⟩:=q;obtain⟨⟨a,d⟩,o,p⟩:=Nc.mp e;exact⟨R,b,h,a,d,l,st,o,fun R1 g x i c j=>⟨R1,d,a,w,n,c,j,p,k.ext i⟩⟩
end
noncomputable def VX:Expr->Bool
 |.Starred ..=>true
 |_=>false
def Kw(es:List Expr):Bool:=es.all fun e=>!VX e
theorem QF(h:VX e=false):starEach (e::es) env=(false,eval e env)::starEach es env:=by
 cases e<;>first|rfl|cases h
theorem Jd(h:Kw es=true):(backTo pos (starEach es env)).any (·.1)=false:=by
 induction es with
 |nil=>rfl
 |cons e es a=>
  unfold Kw at h a;rw[Fj,NJ]at h;have b:VX e=false:=by simpa using h.1
  rw[QF b];have:=a h.2;unfold backTo at this ⊢;rw[Nw,E6,this];rfl
theorem Qhl(h:Kw es=true):(backTo pos (starEach es env)).all (fun x=>!x.1)=true:=by
 have:=Jd (env:=env) (pos:=pos) h;rw[List.all_eq_not_any_not];simp only[Bool.not_not];rw[this];rfl
noncomputable def Qc:MA:=fun _ h=>some ([],h)
noncomputable def Qa(c:ME)(b:MA):MA:=fun a h=>(c a h).bind fun p=>(b a p.2).bind fun q=>some (p.1::q.1,q.2)
section
variable{X:Cx}{e:Expr}{es:List Expr}{m:ME}{ms:MA}{pos:Pos}
theorem QiL:PMA X [] Qc:=Qhy Qlw <|by
 rintro c H Q ⟨R,a,h,d,f,b,st,e,k⟩
 cases e;exact k R H [] (Ext.refl _) b Rws.nil
theorem Qgf(s:PM X e m)(hr:PMA X es ms)(r:VX e=false:=by rfl):PMA X (e::es) (Qa m ms):=
 Qhy (Qkk s hr (QF r)) fun A H Q l=>by
  obtain⟨R,c,h,B,C,q,st,e,k⟩:=l;obtain⟨⟨a,j⟩,v,y⟩:=Nc.mp e;obtain⟨⟨b,t⟩,u,w⟩:=Nc.mp y;cases w
  exact⟨R,c,h,a,j,q,st,v,fun R1 D x i f p=>⟨R1,c,j,b,t,f,st.mono i,u,fun R2 z n g d o=>
   k R2 z (x::n) (i.trans g) d (Rws.cons (Rw.mono g _ _ p) o)⟩⟩
noncomputable def QU(ws:List W)(h:MH):Option (W×MH):=if ws.length<=sizeLine then some (.tup ws,h)else none
noncomputable def Vq(ws:List W)(h:MH):Option (W×MH):=if ws.length<=sizeLine then some (.lst ws,h)else none
noncomputable def Yq(ws:List W)(h:MH):Option (W×MH):=if ws.length<=sizeLine then some (.ref h.length,h++[.lst ws])else none
theorem Qlp{d}(h:PMA X es ms):PM X (.Tuple es d pos) (mFn QU ms):=Q5 (Qk0 h) fun C H Q q=>by
 obtain⟨R,c,z,o,y,t,st,e,k⟩:=Qc8 q;refine⟨R,c,z,o,y,t,st,e,fun R1 B r d j s=>?_⟩;obtain⟨R2,E,n,w,D,i,a,b,u⟩:=k R1 B r d j s;unfold QU at b;split at b
 ·rename_i x;cases b;refine⟨by rw[<-a.length];exact x,fun p v=>?_⟩;obtain⟨A,l,g,f⟩:=i.tup v a;exact u A _ _ l g f
 ·cases b
theorem QkF(h:PMA X es ms):PM X (.List es pos) (mFn Vq ms):=Q5 (QhT h) fun C H Q q=>by
 obtain⟨R,c,z,o,y,t,st,e,k⟩:=Qc8 q;refine⟨R,c,z,o,y,t,st,e,fun R1 B r l i s=>?_⟩;obtain⟨R2,E,n,w,D,g,a,b,u⟩:=k R1 B r l i s;unfold Vq at b;split at b
 ·rename_i x;cases b;refine⟨by rw[<-a.length];exact x,fun p v=>?_⟩;obtain⟨A,j,f,d⟩:=g.lstI v a;exact u A _ _ j f d
 ·cases b
theorem Z8(h:PMA X es ms):PM X (.List es pos) (mFn Yq ms):=Q5 (QhT h) fun E H Q q=>by
 obtain⟨R,c,B,t,A,v,st,e,k⟩:=Qc8 q;refine⟨R,c,B,t,A,v,st,e,fun R1 D f r l u=>?_⟩;obtain⟨R2,I,d,w,G,j,a,b,x⟩:=k R1 D f r l u;unfold Yq at b;split at b
 ·rename_i z;cases b;refine⟨by rw[<-a.length];exact z,fun p y=>?_⟩;obtain⟨C,n,i,g⟩:=j.new (mo:=.lst d) (o:=.lst f) y fun J s=>⟨f,rfl,Rws.mono s _ _ a⟩
  exact x C _ _ n i g
 ·cases b
end
def OpM(K:Ng)(r:R2)(f:W->W->MH->Option (W×MH)):Prop:=∀x y H Q,F2 K f x y H Q->r x y H Q
def Qj9(K:Ng)(r:List V->Hp->VK->Prop)(f:List W->MH->Option (W×MH)):Prop:=∀a H Q,Fs K f a H Q->r a H Q
section
variable{X:Cx}{a b c:Expr}{ma mb mc:ME}{pos:Pos}
theorem Xl{K:Ng}(h:tI K m σ H Q)(i:∀v H,Q v H->Q' v H):tI K m σ H Q':=by
 obtain⟨R,d,h,w,g,f,st,e,k⟩:=h;exact⟨R,d,h,w,g,f,st,e,fun j l v a b c=>i _ _ (k j l v a b c)⟩
theorem Gf{K:Ng}(h:tIA K m σ H Q)(i:∀v H,Q v H->Q' v H):tIA K m σ H Q':=by
 obtain⟨R,d,h,w,g,f,st,e,k⟩:=h;exact⟨R,d,h,w,g,f,st,e,fun j l v a b c=>i _ _ (k j l v a b c)⟩
theorem JH(g:OpR X (binaryOp op) r)(h:OpM X.K r f)(j:PM X a ma)(i:PM X b mb):PM X (.BinOp a op b pos) (Qe f ma mb):=
 Q5 (QnR g j i) fun _ _ _ q=>Xl (QkM q) fun _ _ e=>Xl e fun _ _ d=>h _ _ _ _ d
theorem Qax(g:OpR X (compareOp op) r)(i:OpM X.K r f)(l:PM X a ma)(j:PM X b mb)(h:behindInMarks op b=false:=by rfl):PM X (.Compare a [op] [b] pos) (Qe f ma mb):=
 Q5 (QjV g l j h) fun _ _ _ q=>Xl (QkM q) fun _ _ e=>Xl e fun _ _ d=>i _ _ _ _ d
noncomputable def Qj(m:ME):MT:=fun d h=>(m d h).bind fun p=>match p.1 with|.bl b=>some (b,p.2)|_=>none
theorem Qb1{K:Ng}(q:tIT K (Qj m) σ H Q):tI K m σ H fun x i=>∃k,x=.bl k/\Q k i:=by
 obtain⟨R,d,h,b,p,j,st,e,k⟩:=q;obtain⟨⟨w,o⟩,l,g⟩:=Nc.mp e;cases w<;>simp only at g<;>first|(cases g;exact⟨R,d,h,_,_,j,st,l,fun n i v x f rv=>⟨_,rv.bl_eq,k n i x f⟩⟩)|(cases g)
theorem Qn(g:OpR X (compareOp op) r)(i:OpM X.K r f)(l:PM X a ma)(j:PM X b mb)(h:behindInMarks op b=false:=by rfl):PMT X (.Compare a [op] [b] pos) (Qj (Qe f ma mb)):=
 QbQ (Qj5 g l j h) fun _ _ _ q=>Xl (QkM (Qb1 q)) fun _ _ e=>Xl e fun _ _ d=>i _ _ _ _ d
noncomputable def QaB(f e:W->W->MH->Option (W×MH))(ma mb mc:ME):ME:=fun d h=>(ma d h).bind fun p=>(mb d p.2).bind fun q=>(f p.1 q.1 q.2).bind fun z=>match z.1 with
 |.bl true=>(mc d z.2).bind fun y=>e q.1 y.1 y.2
 |.bl false=>some (.bl false,z.2)
 |_=>none
theorem QfP{K:Ng}(M:OpM K r f)(u:OpM K L O)(q:tI K (QaB f O ma mb mc) σ H Q):Qhr r L (tI K ma) (tI K mb) (tI K mc) σ H Q:=by
 obtain⟨R,g,h,w,N,J,st,e,k⟩:=q;obtain⟨⟨a,F⟩,U,e2⟩:=Nc.mp e;obtain⟨⟨b,E⟩,T,Z⟩:=Nc.mp e2;obtain⟨⟨z,D⟩,P,d⟩:=Nc.mp Z;refine⟨R,g,h,a,F,J,st,U,fun R1 H1 x m s I=>⟨R1,g,F,b,E,s,st.mono m,T,fun R2 H2 y l p B=>?_⟩⟩;refine M _ _ _ _ ⟨R2,E,a,b,z,D,p,Rw.mono l _ _ I,B,P,fun G H3 v j i rv=>?_⟩;cases z with
 | bl t=>
  refine⟨t,rv.bl_eq,?_⟩;cases t with
  |true=>
   obtain⟨⟨c,C⟩,S,Y⟩:=Nc.mp d;refine QhW ⟨G,g,D,c,C,i,st.mono (m.trans (l.trans j)),S,fun R4 H4 y' A o n=>?_⟩;exact u _ _ _ _ ⟨R4,C,b,c,w,N,o,Rw.mono (j.trans A) _ _ B,n,Y,k.ext (m.trans (l.trans (j.trans A)))⟩
  |false=>
   cases d;exact QhV (k G H3 _ (m.trans (l.trans j)) i (Rw.bl _))
 |non=>cases d
 |int _=>cases d
 |str _=>cases d
 |tup _=>cases d
 |lst _=>cases d
 |frz _=>cases d
 |ref _=>cases d
 |ty _=>cases d
theorem QdU(i:OpR X (compareOp op) r)(l:OpM X.K r f)(e:OpR X (compareOp d) h)(g:OpM X.K h p)(o:PM X a ma)(n:PM X b mb)(m:PM X c mc)
  (j:lastMarks [op,d] [b,c]=false:=by with_unfolding_all rfl):PMT X (.Compare a [op,d] [b,c] pos) (Qj (QaB f p ma mb mc)):=QbQ (Qgk i e o n m j) fun _ _ _ q=>QfP l g (Qb1 q)
noncomputable def QnL(ma mb:ME):ME:=fun d h=>(ma d h).bind fun p=>match p.1 with|.bl true=>mb d p.2|.bl false=>some (.bl false,p.2)|_=>none
noncomputable def Qn2(ma:ME):ME:=fun d h=>(ma d h).bind fun p=>match p.1 with|.bl b=>some (.bl (!b),p.2)|_=>none
noncomputable def J4(ma mb:MT):MT:=fun d h=>(ma d h).bind fun p=>match p.1 with|true=>mb d p.2|false=>some (false,p.2)
noncomputable def GK(ma mb:MT):MT:=fun d h=>(ma d h).bind fun p=>match p.1 with|true=>some (true,p.2)|false=>mb d p.2
noncomputable def KY(ma:MT):MT:=fun d h=>(ma d h).bind fun p=>some (!p.1,p.2)
noncomputable def mIf(t:MT)(ma mb:ME):ME:=fun d h=>(t d h).bind fun p=>match p.1 with|true=>ma d p.2|false=>mb d p.2
variable{rest:List Expr}{ta tb:MT}
theorem Qle{op}(h:PM X a ma):PM X (.BoolOp op [a] pos) ma:=Qk2 h
theorem QlG(o:PM X a ma)(n:PM X (.BoolOp .And (b::rest) pos) mb):PM X (.BoolOp .And (a::b::rest) pos) (QnL ma mb):=Q5 (Qmv o n) <|by
 rintro s H Q ⟨R,f,h,w,p,m,st,e,k⟩
 obtain⟨⟨a,j⟩,q,d⟩:=Nc.mp e;refine⟨R,f,h,a,j,m,st,q,fun R1 r x i g l=>?_⟩;cases a with
 |bl t=>
  refine⟨t,l.bl_eq,?_⟩;cases t with
  |true=>exact QhW ⟨R1,f,j,w,p,g,st.mono i,d,k.ext i⟩
  |false=>cases d;exact QhV (k R1 r _ i g (Rw.bl _))
 |non=>cases d
 |int _=>cases d
 |str _=>cases d
 |tup _=>cases d
 |lst _=>cases d
 |frz _=>cases d
 |ref _=>cases d
 |ty _=>cases d
theorem QkS(m:PM X a ma):PM X (.UnaryOp .Not a pos) (Qn2 ma):=Q5 (QkH m) <|by
 rintro q H Q ⟨R,f,h,w,r,l,st,e,k⟩
 obtain⟨⟨a,n⟩,o,d⟩:=Nc.mp e;refine⟨R,f,h,a,n,l,st,o,fun R1 p x i g j=>?_⟩;cases a with
 |bl t=>cases d;exact⟨t,j.bl_eq,k R1 p _ i g (Rw.bl _)⟩
 |non=>cases d
 |int _=>cases d
 |str _=>cases d
 |tup _=>cases d
 |lst _=>cases d
 |frz _=>cases d
 |ref _=>cases d
 |ty _=>cases d
def PMW(X:Cx)(e:Expr)(m:MT):Prop:=PW X e (tIT X.K m)
theorem PMW.pt(h:PMW X e m):PMT X e m:=PW.pt h
theorem Qix{K:Ng}(q:tIT K (J4 ta tb) σ H Q):Qpu (tIT K ta) (tIT K tb) σ H Q:=by
 obtain⟨R,d,h,w,n,m,st,e,k⟩:=q;obtain⟨⟨a,i⟩,o,j⟩:=Nc.mp e;refine⟨R,d,h,a,i,m,st,o,fun R1 r g f=>?_⟩;cases a with
 |true=>exact QhW ⟨R1,d,i,w,n,f,st.mono g,j,fun R2 p l=>k R2 p (g.trans l)⟩
 |false=>cases j;exact QhV (k R1 r g f)
theorem QlS{K:Ng}(q:tIT K (GK ta tb) σ H Q):tOr (tIT K ta) (tIT K tb) σ H Q:=by
 obtain⟨R,d,h,w,n,m,st,e,k⟩:=q;obtain⟨⟨a,i⟩,o,j⟩:=Nc.mp e;refine⟨R,d,h,a,i,m,st,o,fun R1 r g f=>?_⟩;cases a with
 |true=>cases j;exact QhW (k R1 r g f)
 |false=>exact QhV ⟨R1,d,i,w,n,f,st.mono g,j,fun R2 p l=>k R2 p (g.trans l)⟩
theorem ZU(d:PMT X a ta):PMW X (.BoolOp .And [a] pos) ta:=QiA d
theorem JO(d:PMT X a ta):PMW X (.BoolOp .Or [a] pos) ta:=QkA d
theorem Jg(e:PMT X a ta)(d:PMW X (.BoolOp .And (b::rest) pos) tb):PMW X (.BoolOp .And (a::b::rest) pos) (J4 ta tb):=Qie (Qla e d) fun _ _ _=>Qix
theorem VH(e:PMT X a ta)(d:PMW X (.BoolOp .Or (b::rest) pos) tb):PMW X (.BoolOp .Or (a::b::rest) pos) (GK ta tb):=Qie (Qn1 e d) fun _ _ _=>QlS
theorem Vp(j:PMT X a ta):PMT X (.UnaryOp .Not a pos) (KY ta):=QbQ (Qmq j) <|by
 rintro p H Q ⟨R,d,h,w,q,i,st,e,k⟩
 obtain⟨⟨a,l⟩,m,n⟩:=Nc.mp e;cases n;exact⟨R,d,h,a,l,i,st,m,fun R1 o g f=>k R1 o g f⟩
theorem Qhk(n:PMT X c ta)(p:PM X a ma)(o:PM X b mb):PM X (.IfExp c a b pos) (mIf ta ma mb):=Q5 (Qgo n p o) <|by
 rintro r H Q ⟨R,d,h,w,j,m,st,e,k⟩
 obtain⟨⟨t,i⟩,q,l⟩:=Nc.mp e;refine⟨R,d,h,t,i,m,st,q,fun R1 s g f=>?_⟩;cases t with
 |true=>exact QhW ⟨R1,d,i,w,j,f,st.mono g,l,k.ext g⟩
 |false=>exact QhV ⟨R1,d,i,w,j,f,st.mono g,l,k.ext g⟩
def QhP(h:MH):W->Option Bool
 |.non=>some false
 |.bl b=>some b
 |.int i=>some (i != 0)
 |.str x=>if x.length<=sizeLine then some ((x.length:Int) != 0)else none
 |.tup ws=>some (!ws.isEmpty)
 |.lst ws=>some (!ws.isEmpty)
 |.frz ws=>some (!ws.isEmpty)
 |.ref n=>match h[n]? with|some (.lst ws)=>some (!ws.isEmpty)|some (.dic d)=>some (!d.isEmpty)|_=>none
 |.ty _=>none
def Ue(m:ME):MT:=fun d h=>(m d h).bind fun p=>(QhP p.2 p.1).map fun b=>(b,p.2)
theorem Rws.isEmpty{K:Ng}(r:Rws K R ws d):ws.isEmpty=d.isEmpty:=by
 have:=r.length;cases ws<;>cases d<;>simp at this ⊢
theorem QlA{K:Ng}{v:V}{b:Bool}(j:Rh K R h H)(r:Rw K R w v)(e:QhP h w=some b):QnS K v H b:=by
 cases w with
 |non=>rw[r.non_eq];cases e;rfl
 |bl b=>rw[r.bl_eq];cases e;rfl
 |int i=>rw[r.int_eq];cases e;rfl
 |str x=>
  rw[r.str_eq];simp only[QhP]at e;split at e
  ·rename_i q;cases e;exact⟨q,rfl⟩
  ·cases e
 |tup l=>
  obtain⟨a,g,rfl,f,d⟩:=j.tupAt r;cases e;exact .inr (.inl ⟨g,f,by rw[d.isEmpty]⟩)
 |lst l=>
  obtain⟨a,g,rfl,f,d⟩:=j.lstAt r;cases e;exact .inl ⟨g,SqL.of f,by rw[d.isEmpty]⟩
 |frz l=>
  obtain⟨a,g,rfl,f,d⟩:=j.frzAt r;cases e;exact .inl ⟨g,f,by rw[d.isEmpty]⟩
 |ref n=>
  simp only[QhP]at e;split at e
  ·rename_i l o;cases e;obtain⟨_,rfl,g,f,d⟩:=j.refAt r o;exact .inl ⟨g,SqL.of f,by rw[d.isEmpty]⟩
  ·rename_i m o;cases e;unfold Rw at r;obtain⟨p,f,d⟩:=j.obj n _ o;rw[r.2];refine .inr (.inr ⟨p,f,?_⟩);have:=NW d;cases m<;>cases p<;>simp at this ⊢
  ·cases e
 |ty _=>cases e
theorem ZG(n:PM X a ma)(m:∀whole,isTrue a X.env whole=(do let v <-whole;standAt a.pos;holding [v] (truthy v)):=by intro _;rfl):PMT X a (Ue ma):=
 QbQ (Qgn n m) fun t H Q g=>by
  obtain⟨R,f,h,w,y,l,st,e,k⟩:=g;obtain⟨⟨a,u⟩,p,r⟩:=Nc.mp e;obtain⟨b,o,q⟩:=Nd.mp r;cases q;exact⟨R,f,h,a,_,l,st,p,fun R1 s x i d j=>⟨_,QlA d j o,k R1 s i d⟩⟩
end
noncomputable def G1:Expr->Bool
 |.ListComp ..=>true
 |.SetComp ..=>true
 |.DictComp ..=>true
 |_=>false
theorem Wh(h:G1 e=false):swapsWith e t l env=pure false:=by
 cases e<;>first|rfl|cases h
noncomputable def Qw:SM:=fun a h=>some (.nx a h)
noncomputable def Qm(a b:SM):SM:=fun d h=>(a d h).bind fun r=>match r with|.nx c e=>b c e|r=>some r
noncomputable def QR(m:ME):SM:=fun a h=>(m a h).map fun p=>.rt p.1 p.2
noncomputable def Zt(t:MT)(a b:SM):SM:=fun c h=>(t c h).bind fun p=>match p.1 with|true=>a c p.2|false=>b c p.2
noncomputable def Jb(m:ME):SM:=fun a h=>(m a h).map fun p=>.nx a p.2
noncomputable def QK(i:Nat)(m:ME):SM:=fun a h=>(m a h).map fun p=>.nx (a.set i (some p.1)) p.2
noncomputable def Qkt(i:Nat)(f:W->W->MH->Option (W×MH))(m:ME):SM:=fun a h=>match a[i]? with
 |some (some x)=>(m a h).bind fun p=>(f x p.1 p.2).map fun q=>.nx (a.set i (some q.1)) q.2
 |_=>none
section
variable{X:Cx}{st:Stmt}{rest:List Stmt}{a b:SM}{e:Expr}{m:ME}{pos:Pos}
theorem Qjm:QfN X [] Qw:=Qfi QiE <|by
 rintro D d H ⟨R,c,h,r,f,s,e,k⟩
 cases e;exact k R H d (Ext.refl _) f s
theorem Qmw{K:Ng}(q:tS K (Qm a b) D σ H):Qpm (tS K a) (tS K b) D σ H:=by
 obtain⟨R,g,h,r,p,s,e,k⟩:=q;obtain⟨j,t,f⟩:=Nc.mp e;refine⟨R,g,h,j,p,s,t,?_⟩;cases j with
 |nx c d=>exact fun R1 u l n i o=>⟨R1,c,d,r,i,o,f,Ends.ext k n⟩
 |rt w d=>cases f;exact k
 |bk c d=>cases f;exact k
 |ct c d=>cases f;exact k
theorem QfV(c:PMS X st a)(h2:QfN X rest b):QfN X (st::rest) (Qm a b):=Qfi (QgV c h2) fun _ _ _=>Qmw
theorem Qi0(c:PMS X st a):QfN X [st] a:=QiP c
theorem Qx(l:PM X e m)(j:G1 e=false:=by rfl):PMS X (.Expr e pos) (Jb m):=X8 (QjW l (Wh j)) <|by
 rintro D g H ⟨R,c,h,r,i,s,e,k⟩
 obtain⟨⟨w,n⟩,p,o⟩:=Nd.mp e;cases o;exact⟨R,c,h,w,n,i,s,p,fun R1 q v f d _=>k R1 q g f d (s.mono f)⟩
theorem Qkg(f:PM X e m):PMS X (.Return (some e) pos) (QR m):=X8 (Qmx f) <|by
 rintro D l H ⟨R,c,h,r,d,s,e,k⟩
 obtain⟨⟨w,g⟩,j,i⟩:=Nd.mp e;cases i;exact⟨R,c,h,w,g,d,s,j,k⟩
theorem QkN(p:PMT X c t)(u:QfN X n a)(q:QfN X l b):PMS X (.If c n l pos) (Zt t a b):=X8 (Qoq p u q) <|by
 rintro D w H ⟨R,d,h,r,o,s,e,k⟩
 obtain⟨⟨z,i⟩,v,j⟩:=Nc.mp e;refine⟨R,d,h,z,i,o,s,v,fun R1 x g f=>?_⟩;cases z with
 |true=>exact QhW ⟨R1,d,i,r,f,s.mono g,j,Ends.ext k g⟩
 |false=>exact QhV ⟨R1,d,i,r,f,s.mono g,j,Ends.ext k g⟩
theorem Qkq(hN:X.N.Nodup)(o:X.N[i]?=some x)(l:Loc X.env.scope x)(q:PM X e m)(n:G1 e=false:=by rfl)(p:X.fn x=true\/X.env.scope.names.lookup x=some .local:=by first|exact .inl rfl|exact .inr rfl|assumption) :
  PMS X (.Assign [.Name x g] e pos) (QK i m):=X8 (Qk5 hN o l q (Wh n) p) <|by
 rintro D A H ⟨R,c,h,r,j,s,e,k⟩
 obtain⟨⟨w,t⟩,y,u⟩:=Nd.mp e;cases u;exact⟨R,c,h,w,t,j,s,y,fun R1 z v f d rv=>k R1 z _ f d ((s.mono f).set rv)⟩
theorem Qmu(c:OpR X (inplaceOp op) r):PIp X op r:=c
theorem Qfw(hN:X.N.Nodup)(I:X.N[i]?=some x)(F:Loc X.env.scope x)(G:OpR X (inplaceOp op) r)(J:OpM X.K r f)(L:PM X e m)
  (p:X.fn x=true\/X.env.scope.names.lookup x=some .local:=by first|exact .inl rfl|exact .inr rfl|assumption):PMS X (.AugAssign (.Name x t) op e pos) (Qkt i f m):=
 X8 (Qms hN I F L (Qmu G) p) fun D U H A=>by
  obtain⟨R,c,h,r,E,s,e,k⟩:=A;unfold Qkt at e;split at e
  ·rename_i B n;obtain⟨⟨w,u⟩,S,Q⟩:=Nc.mp e;obtain⟨⟨z,M⟩,P,O⟩:=Nd.mp Q;cases O;obtain⟨v0,o,g⟩:=s.2 i _ n;refine⟨v0,o,R,c,h,w,u,E,s,S,fun R1 Y v d l rv=>?_⟩;exact J _ _ _ _ ⟨R1,u,B,w,z,M,l,Rw.mono d _ _ g,rv,P,fun R2 T y q j C=>k R2 T _ (d.trans q) j ((s.mono (d.trans q)).set C)⟩
  ·cases e
end
noncomputable def Qij(r:Option MF):Option (W×MH):=match r with|some (.rt w h)=>some (w,h)|some (.nx _ h)=>some (.non,h)|_=>none
def Qz(more:Nat)(m:SM):FM:=fun a h=>Qij (m (a.map some++List.replicate more none) h)
theorem Rst.start{K:Ng}(r:Rws K R ws d)(k:Nat)(f:N.length=ws.length+k):Rst K R (ws.map some++List.replicate k none) (start N d):=by
 have c:=r.length;unfold L2.start;refine⟨by simp[f,c],fun i w e=>?_⟩
 by_cases b:i<ws.length
 ·rw[NO (by simpa using b)]at e;rw[NO (by simpa[<-c]using b)];rw[Np]at e ⊢;obtain⟨l,a,j⟩:=Nd.mp e;cases j;obtain⟨v,h,g⟩:=r.get a;exact⟨v,by rw[h];rfl,g⟩
 ·rw[DC (by simpa using b)]at e;rw[LG]at e;split at e<;>cases e
section
variable{P:Program}{w:World}{K:Ng}{mg:Str->Option Value}{base:Heap}
theorem Qob{st:Stmt}{N ps:List Str}{m:SM}(F:Fun K x c st f fd)(S:FnScope N ps (Qg st))(hN:N.length=ps.length+more)
  (g:∀(b:Value) (A:Around) (a:List Env) (s:Shared) (H:Hp) (E:XK),Room k (A.deeper (envOfC c (Qg st) s.heap.objs.size f b))->QfN (Qht CX0 P w K mg base N c (Qg st) f b A a s H E).nox (Js st) m) :
  FnOk P w K mg base CX0 (k+1) f fd ps (spM K ps.length (Qz more m)):=by
 refine F.ok S (fun v H Q E q=>?_) (fun b A a s H v Q E hr q=>?_)
 ·obtain⟨R,u,h,w,z,l,j,d,_⟩:=q;rw[<-d.length];exact l
 ·refine⟨_,g b A a s H E hr,?_⟩;obtain⟨R,u,h,w,z,l,j,d,e,o⟩:=q;have st:=Rst.start (N:=N) d more (by rw[hN,l]);unfold Qz Qij at e;split at e
  ·rename_i C y n;cases e;exact⟨R,_,h,_,j,st,n,o⟩
  ·rename_i p y n;cases e;exact⟨R,_,h,_,j,st,n,fun R1 B r t i _=>o R1 B .non t i Rw.non⟩
  ·cases e
end
section
variable{X:Cx}{CX:CXT}{k:Nat}{f:Addr}{fd:FuncData}{ps:List Str}{g:FM}{E:XK}{x:Str}{p pos:Pos}{e:Expr}{es:List Expr}{ms:MA}
def Qi(n:Nat)(g:FM)(ms:MA):ME:=mFn (fun a h=>if a.length=n then g a h else none) ms
theorem QeC{K:Ng}(q:tI K (Qi n g ms) σ H Q):Qiw (spM K n g) [] E (tIA K ms) σ H Q:=by
 refine Gf (Qc8 q) fun l m b=>?_;obtain⟨R,h,c,w,j,d,a,e,k⟩:=b;dsimp only at e;split at e
 ·rename_i i;exact⟨R,c,h,w,j,i,d,by rw[Dv];exact a,e,k⟩
 ·cases e
theorem Qj3(F:FnOk X.prog X.w X.K X.mg X.base CX k f fd ps (spM X.K ps.length g))(hr:Room k X.A)(i:Gl X x)(d:X.mg x=some (.ref f))(h:EE X.K (.ref f)=true)(l:Binds X.K fd ps [])(c:UD CX X E)
  (m:PMA X (e::es) ms) (b:(x==("__debug__":Str))=false:=by decide) (j:VX e=false:=by rfl) (a:Kw es=true:=by rfl) :
  PM X (.Call (.Name x p) (e::es) [] pos) (Qi ps.length g ms):=Q5 (Qiz F hr i d h l .nil c m b (QF j) (Jd a)) fun _ _ _=>QeC
theorem QgK(F:FnOk X.prog X.w X.K X.mg X.base CX k f fd ps (spM X.K ps.length g))(hr:Room k X.A)(l:Gl X x)(i:X.mg x=some (.ref f))(j:EE X.K (.ref f)=true)(m:Binds X.K fd ps [])(d:UD CX X E)
  (a:(x==("__debug__":Str))=false:=by decide):PM X (.Call (.Name x p) [] [] pos) (Qi ps.length g Qc):=Q5 (QgL F hr l i j m .nil d a) fun n H Q q=>by
 obtain⟨R,b,h,o,r,c,st,e,k⟩:=QeC (E:=E) q;cases e;exact k R H [] (Ext.refl _) c Rws.nil
end
section
variable{X:Cx}{x:Str}{p pos:Pos}{e:Expr}{es:List Expr}{ms:MA}{id T:String}{r:List V->Hp->VK->Prop}{f:List W->MH->Option (W×MH)}
theorem ZS(m:CallR X (.builtin id) r)(j:Qj9 X.K r f)(i:Gl X x)(h:X.mg x=none)(d:bootBuiltins x=some (.builtin id))(n:PMA X (e::es) ms)(g:x≠"__name__":=by decide)(b:(x==("__debug__":Str))=false:=by decide)
  (l:VX e=false:=by rfl) (a:Kw es=true:=by rfl):PM X (.Call (.Name x p) (e::es) [] pos) (mFn f ms):=
 Q5 (Qf9 m i h d n g b (QF l) (Jd a)) fun _ _ _ q=>Gf (Qc8 q) fun _ _ c=>j _ _ _ c
theorem ZN(m:CallR X (.type T) r)(j:Qj9 X.K r f)(i:Gl X x)(h:X.mg x=none)(d:bootBuiltins x=some (.type T))(n:PMA X (e::es) ms)(g:x≠"__name__":=by decide)(b:(x==("__debug__":Str))=false:=by decide)
  (l:VX e=false:=by rfl) (a:Kw es=true:=by rfl):PM X (.Call (.Name x p) (e::es) [] pos) (mFn f ms):=
 Q5 (Qdi m i h d n g b (QF l) (Jd a)) fun _ _ _ q=>Gf (Qc8 q) fun _ _ c=>j _ _ _ c
end
inductive Src where
 |l (n:Nat)
 |d (n:Nat)
 |r (n:Nat)
 |v (n:Nat)
 |i (n:Nat)
 |z (n m a b:Nat)
def Src.ok(items:List W)(h:MH):Src->Prop
 |.l n=>h[n]?=some (.lst items)
 |.d n=>∃c,h[n]?=some (.dct c)/\c.map (·.1)=items
 |.r n=>h[n]?=some (.lst items.reverse)
 |.v n=>∃c,h[n]?=some (.dct c)/\c.map (·.2)=items
 |.i n=>∃c,h[n]?=some (.dct c)/\c.map (fun p=>.tup [p.1,p.2])=items
 |.z n m a b=>∃as bs,h[n]?=some (.lst as)/\h[m]?=some (.lst bs)/\(as.zip bs).map (fun q=>.tup [q.1,q.2])=items/\as.length=a/\bs.length=b
def live(src:Option Src)(items:List W)(h:MH):Prop:=∀n,src=some n->n.ok items h
abbrev MI:=MSt->MH->Option (List W×Option Src×MH)
structure ItOk(K:Ng)(R:Rn)(J:It)(items:List W)(src:Option Src):Prop where
 go:∀i w R' h H,Ext R R'->Rh K R' h H->live src items h->items[i]?=some w->J.go i H
 yld:∀i w R' h H x H',Ext R R'->Rh K R' h H->live src items h->items[i]?=some w->J.yld i H x H'->∃R'',Ext R' R''/\Rh K R'' h H'/\Rw K R'' w x
 stop:∀i R' h H,Ext R R'->Rh K R' h H->live src items h->items.length<=i->J.stop i H
noncomputable def tII(K:Ng)(m:MI):TI:=fun f H C=>∃R a h items b d,Rh K R h H/\Rst K R a f/\m a h=some (items,b,d)/\∀c e J,Ext R c->Rh K c d e->ItOk K c J items b->C J e
def PMI(X:Cx)(a iter:Expr)(m:MI):Prop:=PI X a iter (tII X.K m)
theorem UC(h:PI X b iter t)(i:∀σ H C,t' σ H C->t σ H C):PI X b iter t':=fun a s σ H C I q=>h a s σ H C I (i _ _ _ q)
abbrev MG:=W->MSt->MH->Option MSt
def tIG(K:Ng)(b:MG):TG:=fun v g H C=>∃R a h w c,Rh K R h H/\Rst K R a g/\Rw K R w v/\b w a h=some c/\∀e f d,Ext R e->Rh K e h f->Rst K e c d->C d f
def PMG(X:Cx)(a:Expr)(b:MG):Prop:=PG X a (tIG X.K b)
theorem Qid(h:PG X b t)(i:∀v σ H C,t' v σ H C->t v σ H C):PG X b t':=fun a s σ H v u C I r q=>h a s σ H v u C I r (i _ _ _ _ q)
noncomputable def Q2(i:Nat):MG:=fun w a _=>some (a.set i (some w))
theorem Qbr(hN:X.N.Nodup)(f:X.N[i]?=some x)(d:Loc X.env.scope x)(g:X.fn x=true\/X.env.scope.names.lookup x=some .local:=by first|exact .inl rfl|exact .inr rfl|assumption) :
  PMG X (.Name x pos) (Q2 i):=Qid (Qfp hN f d g) <|by
 rintro v j H C ⟨R,a,h,w,b,c,st,rw,e,k⟩
 cases e;exact k R H _ (Ext.refl _) c (st.set rw)
open Classical in
def JK(items:List W)(src:Option Src)(b:MG)(body:SM):List W->SM
 |[],σ,h=>if live src items h then some (.nx σ h)else none
 | w::r,σ,h=>if live src items h then(b w σ h).bind fun σ1=>(body σ1 h).bind fun z=>match z with
   |.nx σ2 h2=>JK items src b body r σ2 h2
   |.ct σ2 h2=>JK items src b body r σ2 h2
   |.bk σ2 h2=>some (.nx σ2 h2)
   |.rt v h2=>some (.rt v h2)
  else none
def Zm(mi:MI)(b:MG)(body:SM):SM:=fun a h=>(mi a h).bind fun p=>JK p.1 p.2.1 b body p.1 a p.2.2
section
variable{X:Cx}{tg iter:Expr}{body:List Stmt}{mi:MI}{b:MG}{m:SM}{pos:Pos}
theorem QkU{K:Ng}(q:tS K (Zm mi b m) D σ H):QoF (tII K mi) (tIG K b) (tS K m) D σ H:=by
 obtain⟨R,A,h,r,rh,s,e,k⟩:=q;obtain⟨⟨items,t,h1⟩,e1,e2⟩:=Nc.mp e;refine⟨R,A,h,items,t,h1,rh,s,e1,fun R1 H1 J x1 aa it=>?_⟩;refine⟨fun i n σ H=>i+n=items.length/\∃R2 g l,Ext R1 R2/\Rh K R2 l H/\Rst K R2 g σ/\∃r,JK items t b m (items.drop i) g l=some r/\Ends K R2 D r,⟨items.length,by simp,R1,A,h1,Ext.refl _,aa,s.mono x1,r,by simpa using e2,Ends.ext k x1⟩,?_⟩
 rintro i n E S ⟨ae,R2,g,l,G,j,s2,r2,d,L⟩
 by_cases M:i<items.length
 ·obtain⟨w,hw⟩:∃w,items[i]?=some w:=⟨items[i],Nl M⟩
  have hd:items.drop i=w::items.drop (i+1):=by
   rw[EK M];rw[Nl M]at hw;cases hw;rfl
  rw[hd]at d;unfold JK at d;split at d
  ·rename_i P;obtain⟨C,e4,e5⟩:=Nc.mp d;obtain⟨z,e6,Q⟩:=Nc.mp e5;refine .inr ⟨it.go i w R2 l S G j P hw,fun F T=>∃y B h4,Ext R1 y/\Rh K y h4 T/\Rst K y B F/\∃r,JK items t b m (items.drop (i+1)) B h4=some r/\Ends K y D r,fun F T hn=>⟨n-1,by omega,by omega,hn⟩,fun x T hy=>?_⟩;obtain⟨y,p,Z,U⟩:=it.yld i w R2 l S x T G j P hw hy;refine⟨y,g,l,w,C,Z,s2.mono p,U,e4,fun R4 H4 ab u Y s4=>?_⟩;refine⟨R4,C,l,z,Y,s4,e6,?_⟩;cases z with
   |nx f N=>exact fun O H5 a o c I=>⟨O,f,N,G.trans (p.trans (u.trans o)),c,I,r2,Q,Ends.ext L (p.trans (u.trans o))⟩
   |ct f N=>exact fun O H5 a o c I=>⟨O,f,N,G.trans (p.trans (u.trans o)),c,I,r2,Q,Ends.ext L (p.trans (u.trans o))⟩
   |bk f N=>cases Q;exact fun O H5 a o c I=>L O H5 a (p.trans (u.trans o)) c I
   |rt v N=>cases Q;exact After.ext L (p.trans u)
  ·cases d
 ·have hd:items.drop i=[]:=E5 (NU.mp M);rw[hd]at d;unfold JK at d;split at d
  ·rename_i P;cases d;exact .inl ⟨it.stop i R2 l S G j P (NU.mp M),L R2 S E (Ext.refl _) j s2⟩
  ·cases d
theorem Qkj(c:PassesOwn (model X.prog X.w) X.A X.env X.xe)(f:X.calm=true)(d:PMI X tg iter mi)(e:PMG X tg b)(g:QfN X body m)
  (a:∀x,foldedSetIterable iter X.env x=pure x:=by intro _;rfl):PMS X (.For tg iter body [] pos) (Zm mi b m):=X8 (QlC c f d e g a) fun _ _ _=>QkU
end
def QP(t:MT)(body:SM):Nat->SM
 |0,_,_=>none
 | n+1,σ,h=>(t σ h).bind fun p=>match p.1 with
  |false=>some (.nx σ p.2)
  |true=>(body σ p.2).bind fun z=>match z with
   |.nx σ2 h2=>QP t body n σ2 h2
   |.ct σ2 h2=>QP t body n σ2 h2
   |.bk σ2 h2=>some (.nx σ2 h2)
   |.rt v h2=>some (.rt v h2)
section
variable{X:Cx}{c:Expr}{body:List Stmt}{t:MT}{m:SM}{pos:Pos}
theorem Qhf{K:Ng}(q:tS K (QP t m n) D σ H):QhG (tIT K t) (tS K m) D σ H:=by
 obtain⟨R,E,h,r,T,s,e,k⟩:=q;refine⟨fun n σ H=>∃R2 b B,Rh K R2 B H/\Rst K R2 b σ/\∃r,QP t m n b B=some r/\Ends K R2 D r,⟨n,R,E,h,T,s,r,e,k⟩,?_⟩
 rintro n j H2 ⟨R2,b,B,G,F,M,I,w⟩
 cases n with
 |zero=>cases I
 | succ n=>
  unfold QP at I;obtain⟨⟨z,O⟩,Z,P⟩:=Nc.mp I;refine⟨R2,b,B,z,O,G,F,Z,fun Q H3 g u=>?_⟩;cases z with
  |false=>
   cases P;exact QhV (w Q H3 j g u (F.mono g))
  |true=>
   obtain⟨y,Y,C⟩:=Nc.mp P;refine QhW ⟨fun l S=>∃J i N,Rh K J N S/\Rst K J i l/\∃r,QP t m n i N=some r/\Ends K J D r,fun l S U=>⟨n,N1 _,U⟩,?_⟩;refine⟨Q,b,O,y,u,F.mono g,Y,?_⟩;cases y with
   |nx f x=>exact fun A L a o d p=>⟨A,f,x,d,p,M,C,Ends.ext w (g.trans o)⟩
   |ct f x=>exact fun A L a o d p=>⟨A,f,x,d,p,M,C,Ends.ext w (g.trans o)⟩
   |bk f x=>cases C;exact fun A L a o d p=>w A L a (g.trans o) d p
   |rt v x=>cases C;exact After.ext w g
theorem W4(n:Nat)(a:PassesOwn (model X.prog X.w) X.A X.env X.xe)(b:PMT X c t)(d:QfN X body m):PMS X (.While c body [] pos) (QP t m n):=X8 (QfT a b d) fun _ _ _=>Qhf
end
section
variable{prog:Program}{w:World}{A:Around}{E:Value->Shared->Prop}{R:Result->Shared->Prop}{s:Shared}
theorem QaJ(I:Nat->Shared->Prop)
  (q:∀n s,I n s->wpAny (model prog w) A (pyNext it) (fun r d=>match r with
   |none=>R (.ok .next) d
   | some v=>wpAny (model prog w) A (letOwnedTupleGo target it v) (fun _ b=>wpAny (model prog w) A (assign target env v) (fun _ i=>
     wpAny (model prog w) A (forIn t true fun c r=>if r=true then do let ok <-isTrue c env (eval c env);pure (ForInStep.yield ok)else pure (ForInStep.yield r)) (fun ok a=>
      if ok=true then wpAny (model prog w) A (eval B env) (fun x g=>
       wpAny (model prog w) A (call (.builtin "list.append") [C,x]) (fun _ f=>∃m,m<n/\I m f) (fun _ _=>False) g) (fun _ _=>False) a
      else∃m,m<n/\I m a) (fun _ _=>False) i) (fun _ _=>False) b) (fun _ _=>False) d) (fun _ _=>False) s)
  (n:Nat) (h:I n s) :
  codeAny (model prog w) A (.compLoop (.ListComp B [⟨target,iter,t,0⟩] o pos) 0 it C env) R s:=by
 refine codeAny_loop rfl I (fun n s hI=>?_) n h;show wpAny _ A ((compTurn (.ListComp B [⟨target,iter,t,0⟩] o pos) 0 it C env).onRaise (fun x=>do noteFrame x env;theTreesLotGoes x)) _ _ s;refine wpAny_noted ?_;rw[compTurn_list];refine Na (F9 (Na (N0 (q n s hI) (fun r d l=>?_) fun _ _ e=>e.elim)));cases r with
 |none=>exact Nj l
 | some v=>
  refine Na (N0 l (fun _ b p=>?_) fun _ _ e=>e.elim);refine Na (N0 p (fun _ i z=>Na (N0 z (fun ok a j=>?_) fun _ _ e=>e.elim)) fun _ _ e=>e.elim);cases ok with
  |false=>exact Nj ⟨rfl,j⟩
  |true=>
   exact Na (Na (N0 j (fun x g y=>Na (N0 y (fun _ f u=>Nj (Nj ⟨rfl,u⟩)) fun _ _ e=>e.elim)) fun _ _ e=>e.elim))
end
theorem sz{h:Heap}(e:h.get? b=some o)(a:h.objs.size<=n):¬b=n:=fun z=>by
 have c:@LT.lt Nat instLTNat b h.objs.size:=ND e;subst z;exact Et _ (Nk c a)
noncomputable abbrev blk(X:Cx)(a:Scope)(b:List (Str×Addr))(Nb:List Str)(s₀:Shared)(H₀:Hp)(C:Addr)(ex:List Addr)(pn:List (Addr×Obj)):Cx:=
 { X with N:=Nb,s₀:=s₀,H₀:=H₀,env:=compEnvC a b C X.env,outer:=X.stack,stack:=X.stack,ex:=ex,fn:=fun _=>false,pn:=pn,xe:=fun _ _=>False }
structure BlkOk(X:Cx)(scope:Scope)(cl:List (Str×Addr))(Nb:List Str)(cp:List (Option Nat)):Prop where
 clos:closureFor scope X.env=pure cl
 cell:∀y∈scope.names,y.2≠.cell
 kind:scope.kind=.function
 names:∀y∈scope.names,y.2=.local->scope.names.lookup y.1=some .local
 sub:∀x c,cl.lookup x=some c->X.env.cells.lookup x=some c
 has:∀x,((relabel scope X.env).names.lookup x=some .cell\/(relabel scope X.env).names.lookup x=some .free)->∃c,cl.lookup x=some c
 len:cp.length=Nb.length
 cap:∀(i j:Nat) (x:Str),cp[i]?=some (some j)->Nb[i]?=some x->X.N[j]?=some x/\Vis X.env.scope x/\(X.env.kindOf x=some .cell\/X.env.kindOf x=some .free)/\((relabel scope X.env).names.lookup x=some .cell\/(relabel scope X.env).names.lookup x=some .free)
noncomputable def GM(cp:List (Option Nat))(σ:L2.St):L2.St:=cp.map fun o=>match o with|none=>none|some j=>match σ[j]? with|some v=>v|none=>none
def QgM(l:TI)(cp:List (Option Nat))(g:TG)(tt:TT)(te:TE):TE:=fun f H Q=>l f H fun J p=>∃W:Nat->Nat->List V->L2.St->Hp->Prop,(∃m,W 0 m [] (GM cp f) p)/\∀i m a e H,W i m a e H ->
 (J.stop i H/\∀D,H D=none->Q (.ref D) (upd H D (.lst a))) \/
 (J.go i H/\∀x j,J.yld i H x j->g x e j fun c o=>tt c o fun b h=>if b=true then te c h fun v n=>a.length<sizeLine/\∃d,d<m/\W (i+1) d (a++[v]) c n else∃d,d<m/\W (i+1) d a c h)
theorem Inv.track(I:Inv X d σ H s)(g:H D=none)(r:X.s₀.heap.objs.size<=D)(m:X.env.locals≠D)(l:∀x c,X.env.cells.lookup x=some c->c≠D)
  (j:∀p∈X.pn++d,p.1≠D) (ob:ObjOk X.prog X.w (upd H D o) s.heap D o):Inv X d σ (upd H D o) s where
 ok:=I.ok
 os:=I.os
 bare:=I.bare
 base:={
  keep:=I.base.keep
  slot:=I.base.slot
  free:=fun b q e n nx=>by
   have:b≠D:=sz e r;rw[Qy this];exact I.base.free b q e n nx
  there:=I.base.there
  tups:=fun b h e=>by
   have q:=I.base.tups b h e;rw[Qy (fun z=>by rw[z,g]at q;cases q)];exact q
  frzs:=fun b q u e=>by
   have z:=I.base.frzs b q u e;rw[Qy (fun y=>by rw[y,g]at z;cases z)];exact z
  tbls:=fun b i e=>by
   obtain⟨more,q⟩:=I.base.tbls b i e
   exact⟨more,by rw[Qy (fun z=>by rw[z,g]at q;cases q)];exact q⟩ }
 loc:=I.loc
 cell:=I.cell
 free:=by rw[Qy m];exact I.free
 freeC:=fun x c e=>by rw[Qy (l x c e)];exact I.freeC x c e
 pin:=fun p f=>by
  obtain⟨a,b,c⟩:=I.pin p f;exact⟨a,by rw[Qy (j p f)];exact b,c⟩
 hok:=fun a u e=>by
  by_cases z:a=D
  ·subst z;rw[JZ]at e;cases e;exact ob
  ·rw[Qy z]at e;refine(I.hok a u e).stay (fun _ _ _ q=>q) (fun b q=>?_) (fun b h q=>?_)
   ·rw[Qy (fun y=>by rw[y,g]at q;cases q)];exact q
   ·rw[Qy (fun y=>by rw[y,g]at q;cases q)];exact q
 len:=I.len
section
variable{X:Cx}{elt tg iter:Expr}{ifs:List Expr}{scope:Scope}{pos:Pos}{cl:List (Str×Addr)}{Nb:List Str}{cp:List (Option Nat)}{wi:TI}{g:TG}{tt:TT}{te:TE}
theorem Cx.Ok.blk(B:BlkOk X scope cl Nb cp)(I:Inv X d σ H s)(f:∀b∈l,Qdf X d H b)(i:∀b∈l,b<s.heap.objs.size)(j:s.heap.objs.size<=C) :
  (blk X scope cl Nb s H C l p).Ok where
 mod:=I.ok.mod
 kind:=B.kind
 glob:=I.ok.glob
 blt:=I.ok.blt
 above:=j
 inj:=fun x y c n m=>I.ok.inj x y c (B.sub x c n) (B.sub y c m)
 has:=fun x h=>B.has x h
 cab:=fun x c h=>absurd h (by simp)
 hd:=I.ok.hd
 frames:=I.ok.frames
 stk:=.inl rfl
 exf:=fun b a=>⟨fun z=>by have:=i b a;rw[z]at this;exact absurd j (DT.mpr this),fun x c e=>(f b a).2.2.2.2.1 x c (B.sub x c e)⟩
 bs:=I.bs
 bsz:=Nn I.ok.bsz I.sz
 noex:=fun b o e a=>by
  rcases(f b a).2.2.2.1 with z|z
  ·exact I.ok.noex b o e z
  ·exact sz e (Nn I.ok.bsz z) rfl
 exfs:=fun b a z=>by
  have:=I.stkSub b z
  rcases NE.mp this with q|q
  ·exact(f b a).2.1 q
  ·exact(f b a).2.2.1 q
 funs:=I.stack
 frf:=fun b a=>I.stkFree b a
theorem Qfl{cp:List (Option Nat)}{σ:L2.St}{i:Nat}{v:V}(e:(GM cp σ)[i]?=some (some v)):∃j,cp[i]?=some (some j)/\σ[j]?=some (some v):=by
 unfold GM at e;rw[Np]at e;obtain⟨o,b,a⟩:=Nd.mp e;cases o with
 |none=>cases a
 |some j=>
  refine⟨j,b,?_⟩;simp only at a;split at a
  ·rename_i u hu;rw[hu,a]
  ·cases a
theorem Inv.blk{H:Hp}{C:Addr}{M:List Addr}{tk:Nat}(B:BlkOk X scope cl Nb cp)(I:Inv X f σ H s)(O:∀b∈M,Qdf X f H b)(F:∀b∈M,b<s.heap.objs.size)
  (G:s.heap.objs.size<=C) (D:h'.Ns C m) (y:∀b o,s.heap.get? b=some o->h'.get? b=some o):Inv (Mi.blk X scope cl Nb s H C M (X.pn++f)) [] (GM cp σ) H { s with heap:=h',toks:=tk } where
 ok:=Cx.Ok.blk B I O F G
 os:=rfl
 bare:=I.bare
 base:=Un.kept y
 loc:=by
  refine⟨m,D,fun i x v hN e Z=>?_⟩;obtain⟨j,S,R⟩:=Qfl e;obtain⟨Q,t,E,w⟩:=B.cap i j x S hN;obtain⟨Y,U,lk⟩:=I.loc;obtain⟨u,r,l⟩:=lk j x v Q R t;refine⟨u,r,?_⟩
  rcases l with⟨h,_⟩|⟨_,c,P,n⟩
  ·rcases E with z|z<;>rw[z]at h<;>cases h
  ·refine .inr ⟨w,?_⟩;obtain⟨T,A⟩:=B.has x w;have:=B.sub x T A;rw[P]at this;cases this
   exact⟨c,A,by
    obtain⟨o,L,J⟩:=n
    exact⟨o,y _ _ L,J⟩⟩
 cell:=fun x c e=>by
  obtain⟨v,o,L,J⟩:=I.cell x c (B.sub x c e);exact⟨v,o,y _ _ L,J⟩
 free:=I.hok.fresh G
 freeC:=fun x c e=>I.freeC x c (B.sub x c e)
 pin:=fun p N=>by
  rw[Dv]at N;obtain⟨a,b,c,d,e⟩:=I.pin p N;refine⟨y _ _ a,b,fun z=>?_,fun z=>?_,e⟩
  ·have:=ND a;rw[z]at this;exact absurd G (DT.mpr this)
  ·rcases NE.mp (I.stkSub _ z)with q|q
   ·exact c q
   ·exact d q
 hok:=I.hok.kept y
 len:=by unfold GM;rw[Nu];exact B.len
def QnZ(X:Cx)(a:List (Addr×Obj))(σ:L2.St)(use:Option (Value->Sem Unit))(Q:VK)(Q':Value->Shared->Prop):Prop:=
 ∀(D C:Addr) (d:Hp) (b:Shared) (m:Str->Option Value),Inv X a σ d b->b.heap.Ns C m->d C=none->¬C=X.env.locals->X.s₀.heap.objs.size<=C->(∀x c,X.env.cells.lookup x=some c->c≠C)->(∀p∈X.pn++a,p.1≠C)->Q (.ref D) d ->
  compPost (model X.prog X.w) X.A X.xe use Q' (.ref D) C (.ok .next) b
theorem QbU(hc:X.calm=true)(B:BlkOk X scope cl Nb cp)(hi:PI X tg iter wi)(hg:∀O R C ex pn,PG (Mi.blk X scope cl Nb O R C ex pn) tg g)
  (ht:∀O R C ex pn,∀(j:List (Addr×Obj)) (s:Shared) (Z:L2.St) (H:Hp) (Q:Bool->Hp->Prop),Inv (Mi.blk X scope cl Nb O R C ex pn) j Z H s->tt Z H Q ->
   wpAny (model X.prog X.w) X.A (forIn ifs true fun c r=>if r=true then do let ok <-isTrue c (compEnvC scope cl C X.env) (eval c (compEnvC scope cl C X.env));pure (ForInStep.yield ok)else pure (ForInStep.yield r)) (TP (Mi.blk X scope cl Nb O R C ex pn) j Z Q) (fun _ _=>False) s)
  (he:∀O R C ex pn,PE (Mi.blk X scope cl Nb O R C ex pn) elt te) (hs:∀x,foldedSetIterable iter X.env x=pure x)
  (I:Inv X j σ H s) (h:QgM wi cp g tt te σ H Q) (a4:QnZ X j σ use Q Q') :
  wpAny (model X.prog X.w) X.A (comprehension (.ListComp elt [⟨tg,iter,ifs,0⟩] scope pos) scope X.env bn (newList []) false (eval iter X.env) use) Q' X.xe s:=by
 refine wpAny_comprehension_free (use:=use) rfl hs B.clos B.kind B.names (N0 (hi j s σ H _ I h) (fun xv bm U=>N0 U (fun bo f a1=>?_) fun _ _ e=>e) fun _ _ e=>e);obtain⟨it,fp,tn,J,Y,rfl,I2,T,ar,f2,W,⟨m0,w0⟩,ay⟩:=a1
 have au:∀b∈fp,b<f.heap.objs.size:=fun b E=>by
  obtain⟨o,e,_⟩:=T.obj _ _ ar b E;exact ND e
 refine N9 (wpAny_newFunctionEnv B.cell (by intro y hy;simp at hy) (fun U M F=>?_) B.kind);dsimp only at M F ⊢;generalize av:f.heap.push { cls:=.type "list",dict:=none,data:=.seq ([]:List Value).toArray }=G2 at M F ⊢;have al:G2.objs.size=f.heap.objs.size+1:=by rw[<-av,DI]
 generalize be:G2.objs.size=C at M F ⊢;rw[be]at al;have ab:f.heap.objs.size<=C:=by exact Nn (Nv _ _) (Nt al.symm)
 have ai:f.heap.objs.size≠C:=by exact NG (Nk (N1 _) (Nt al.symm))
 have old:∀b o,f.heap.get? b=some o->U.get? b=some o:=fun b o e=>F.extBut b o (sz e ab) (No _ (av▸No _ e));have an:U.get? f.heap.objs.size=some { cls:=.type "list",data:=.seq ([]:List Value).toArray }:=F.extBut _ _ ai (No _ (av▸NB _ rfl));generalize hD:f.heap.objs.size=D at an ai ab al ⊢;have m:f.heap.objs.size<=D:=Nt hD;have N:f.heap.objs.size<=C:=Nn m ab;have I3:=Inv.blk (tk:=f.toks+([]:List (Str×Value)).length) B I2 f2 au (C:=C) (Nn (Nt hD) ab) M old;have ao:D∉fp:=fun z=>Et _ (Nk (au D z) m);have a5:C∉fp:=fun z=>Et _ (Nk (au C z) N)
 have ax:∀x c,cl.lookup x=some c->c≠D:=fun x c e z=>by
  obtain⟨v,o,h3,_⟩:=I2.cell x c (B.sub x c e);exact sz h3 m z
 have ap:∀p∈X.pn++j,p.1≠D:=fun p P z=>sz (I2.pin p P).1 m z;have a7:∀p∈X.pn++j,p.1≠C:=fun p P z=>sz (I2.pin p P).1 N z
 have bg:D∉frs X.stack:=fun z=>by
  rcases NE.mp (I2.stkSub _ z)with q|q
  ·exact Et _ (Nk (q▸I2.lt:D<f.heap.objs.size) m)
  ·exact I2.nofs m q
 have aj:∀{t:Hp} {pl:List (Addr×Obj)},(∀b∈fp,t b=none)->(∀p∈pl,p.1=D)->∀b∈fp,Qdf (Mi.blk X scope cl Nb f Y C fp (X.pn++j)) pl t b:=fun {t pl} hn bb b E=>
  ⟨hn b E,fun(z:b=C)=>a5 (z▸E),fun z=>by
   rcases NE.mp (I2.stkSub _ z)with q|q
   ·exact(f2 b E).2.1 q
   ·exact(f2 b E).2.2.1 q,.inl E,fun x c e=>(f2 b E).2.2.2.2.1 x c (B.sub x c e),fun p P z=>by
   rcases NT.mp P with q|q
   ·exact(f2 b E).2.2.2.2.2 p q z
   ·rw[bb p q]at z;exact ao (z▸E)⟩
 have bp:∀{t:Hp},(∀b∈fp,t b=none)->∀b∈fp,Qdf X j t b:=fun hn b E=>⟨hn b E,(f2 b E).2⟩
 have fin:∀{Z:L2.St} {t:Hp} {L:Shared} {G:List V} {l:List Value} {n:Nat} {mC:Str->Option Value},Inv (Mi.blk X scope cl Nb f Y C fp (X.pn++j)) [] Z t L->t D=none->L.heap.get? D=some { cls:=.type "list",data:=.seq l.toArray n }->Vals G l->G.length<=sizeLine->L.heap.Ns C mC ->
   (∀D,t D=none->Q (.ref D) (upd t D (.lst G)))->compPost (model X.prog X.w) X.A X.xe use Q' (.ref D) C (.ok .next) L:=by
  intro Z t L G l n mC Ib ak aw r hz bc q;have Ie:Inv X j σ t L:=I2.call' (ch:=fp) (Ib.os) Ib.base Ib.hok Ib.bare fun b E=>⟨(f2 b E).2.2.2.1,(f2 b E).2.1,(f2 b E).2.2.2.2.1,(f2 b E).2.2.2.2.2⟩
  have a2:X.s₀.heap.objs.size<=f.heap.objs.size:=I2.sz
  have It:Inv X j σ (upd t D (.lst G)) L:=Inv.track Ie ak (Nn a2 m) (fun z=>Et _ (Nk (z▸I2.lt:D<f.heap.objs.size) m)) (fun x c e z=>by
   obtain⟨v,o,h3,_⟩:=I2.cell x c e
   exact sz h3 m z) ap ⟨hz,l,n,r,aw⟩
  exact a4 D C _ L mC It bc (by rw[Qy (EN ai)];exact Ib.free) (fun z=>Et _ (Nk (z▸I2.lt:C<f.heap.objs.size) N)) (Nn a2 N) (fun x c e z=>by
   obtain⟨v,o,h3,_⟩:=I2.cell x c e
   exact sz h3 N z) a7 (q D ak)
 have am:∀af:Shared,af={ f with heap:=U,toks:=f.toks+([]:List (Str×Value)).length } ->
   codeAny (model X.prog X.w) X.A (.compLoop (.ListComp elt [⟨tg,iter,ifs,0⟩] scope pos) 0 (.ref it) (.ref D) (compEnvC scope cl C X.env))
    (compPost (model X.prog X.w) X.A X.xe use Q' (.ref D) C) af:=by
  rintro af rfl
  refine QaJ (fun n L=>∃i Z t G l k,Inv (Mi.blk X scope cl Nb f Y C fp (X.pn++j)) [] Z t L/\tn i L.heap/\(∀b∈fp,t b=none)/\t D=none/\L.heap.get? D=some { cls:=.type "list",data:=.seq (l:List Value).toArray k }/\Vals G l/\G.length<=sizeLine/\W i n G Z t) ?_ m0
   ⟨0,GM cp σ,Y,[],[],_,I3,T.keep _ _ _ ar (fun b E o e=>old b o e),fun b E=>(f2 b E).1,I2.hok.fresh m,an,.nil,NV _,w0⟩
  rintro n s3 ⟨i,Z,H3,G,l,k,Ib,az,a6,ak,aw,r3,as,w3⟩
  have a0:∀{S:L2.St} {t:Hp} {L:Shared},Inv (Mi.blk X scope cl Nb f Y C fp (X.pn++j)) [] S t L->t D=none->L.heap.get? D=some { cls:=.type "list",data:=.seq l.toArray k } ->
    Inv (Mi.blk X scope cl Nb f Y C fp (X.pn++j)) [(D,{ cls:=.type "list",data:=.seq l.toArray k })] S t L:=fun {S t L} I' hn ho=>I'.pins_of fun p P=>by
   rw[NF]at P;subst P;exact⟨ho,hn,ai,bg,by intro v;simp⟩
  have a8:=a0 Ib ak aw;have aa:∀p∈[(D,({ cls:=.type "list",data:=.seq l.toArray k }:Obj))],p.1=D:=fun p P=>by rw[NF]at P;subst P;rfl
  have a9:∀{S:L2.St} {t:Hp} {L:Shared},Inv (Mi.blk X scope cl Nb f Y C fp (X.pn++j)) [(D,{ cls:=.type "list",data:=.seq l.toArray k })] S t L->L.heap.get? D=some { cls:=.type "list",data:=.seq l.toArray k }/\t D=none:=fun I'=>by
   obtain⟨a,b,_⟩:=I'.pin (D,_) (NR _ (NF.mpr rfl));exact⟨a,b⟩
  rcases ay i n G Z H3 w3 with⟨stop,qn⟩|⟨go,step⟩
  ·refine N0 (T.done (Mi.blk X scope cl Nb f Y C fp (X.pn++j)) rfl rfl rfl hc i _ s3 Z H3 (fun _ _=>False) a8 (aj a6 aa) az stop) (fun r s4 ⟨hr,I4⟩=>?_) fun _ _ z=>z.elim;subst hr;obtain⟨o4,n4⟩:=a9 I4;obtain⟨m4,ba,_⟩:=I4.loc;have bj:Inv (Mi.blk X scope cl Nb f Y C fp (X.pn++j)) [] Z H3 s4:=I4.pins_of fun p P=>by cases P
   exact fin bj n4 o4 r3 as ba qn
  ·refine N0 (T.item (Mi.blk X scope cl Nb f Y C fp (X.pn++j)) rfl rfl rfl hc i _ s3 Z H3 (fun _ _=>False) a8 (aj a6 aa) az go) (fun r s4 ⟨u,hr,h4⟩=>?_) fun _ _ z=>z.elim;subst hr;refine N0 h4 (fun _ s5 z1=>?_) fun _ _ z=>z.elim;obtain⟨x,H5,I5,r5,y5,aq,bf⟩:=z1;have bi:=I5.pinned (aj bf aa) (T.obj _ _ aq);refine N0 (hg f Y C fp (X.pn++j) _ s5 Z H5 x u _ bi r5 (step x H5 y5)) (fun _ s6 ⟨ae,H6,I6,q6⟩=>?_) fun _ _ z=>z.elim;refine N0 (ht f Y C fp (X.pn++j) _ s6 ae H6 _ I6 q6) (fun ok s7 ⟨H7,I7,q7⟩=>?_) fun _ _ z=>z.elim
   have ah:∀{S:L2.St} {t:Hp} {L:Shared},Inv (Mi.blk X scope cl Nb f Y C fp (X.pn++j)) ([(D,{ cls:=.type "list",data:=.seq l.toArray k })]++Qac fp s5.heap) S t L->tn (i+1) L.heap/\(∀b∈fp,t b=none)/\L.heap.get? D=some { cls:=.type "list",data:=.seq l.toArray k }/\t D=none:=fun {S t L} I'=>by
    refine⟨T.keep _ _ _ aq fun b E o e=>(I'.pin (b,o) (NR _ (NR _ (Ka E e)))).1,fun b E=>?_,?_⟩
    ·obtain⟨o,e,d⟩:=T.obj _ _ aq b E;exact(I'.pin (b,o) (NR _ (NR _ (Ka E e)))).2.1
    ·obtain⟨a,b,_⟩:=I'.pin (D,{ cls:=.type "list",data:=.seq l.toArray k }) (NR _ (El _ (NF.mpr rfl)));exact⟨a,b⟩
   cases ok with
   |false=>
    rw[if_neg NQ]at q7 ⊢;obtain⟨m',hm,w7⟩:=q7;obtain⟨t7,f7,o7,n7⟩:=ah I7;exact⟨m',hm,i+1,ae,H7,G,l,k,I7.pins_of (fun p P=>by cases P),t7,f7,n7,o7,r3,as,w7⟩
   | true=>
    rw[if_pos rfl]at q7 ⊢;refine N0 (he f Y C fp (X.pn++j) _ s7 ae H7 _ I7 q7) (fun y s8 z1=>?_) fun _ _ z=>z.elim;obtain⟨v8,H8,I8,r8,bd,m',hm,w8⟩:=z1;obtain⟨t8,f8,o8,n8⟩:=ah I8;have a3:=r3.length;refine FL Iw ⟨_,o8,rfl⟩ OE (Oi _ _) (O2 D l.toArray k y (by rw[Nq];exact Nn (Nt a3.symm) as)) ⟨o8,?_⟩;have q:=Yag o8 (·.push y);have hf:l.toArray.push y=(l++[y]).toArray:=by simp
    rw[hf]at q;have bh:Inv (Mi.blk X scope cl Nb f Y C fp (X.pn++j)) [] ae H8 s8:=I8.pins_of fun p P=>by cases P
    have I9:Inv (Mi.blk X scope cl Nb f Y C fp (X.pn++j)) [] ae H8 { s8 with heap:=s8.heap.update D (Obj.mapSeq (·.push y)),toks:=s8.toks }:=
     bh.turned (it:=D) (fun b o E e=>(EI s8.heap (Obj.mapSeq (·.push y)) (EN E)).trans e) n8 ai (.inr m) (fun x c e=>ax x c e) fun p P=>by
      rw[Dv]at P;exact ap p P
    refine⟨m',hm,i+1,ae,H8,G++[v8],l++[y],_,I9,T.keep _ _ _ t8 (fun b E o e=>(EI s8.heap (Obj.mapSeq (·.push y)) (fun(z:D=b)=>ao (z▸E))).trans e),f8,n8,q,r3.append (.cons r8 .nil),by rw[NH,NZ];exact bd,w8⟩
 exact codeAny_compStart_list (am _ rfl) (T.self _ 0 _ _ _ (T.keep _ _ _ ar (fun b E o e=>old b o e)) (am _ rfl))
theorem Qfc(L:X.calm=true)(B:BlkOk X scope cl Nb cp)(F:PI X tg iter wi)(G:∀a d C l j,PG (Mi.blk X scope cl Nb a d C l j) tg g)
  (v:∀a d C l j,∀(f:List (Addr×Obj)) (s:Shared) (n:L2.St) (H:Hp) (Q:Bool->Hp->Prop),Inv (Mi.blk X scope cl Nb a d C l j) f n H s->tt n H Q ->
   wpAny (model X.prog X.w) X.A (forIn ifs true fun c r=>if r=true then do let ok <-isTrue c (compEnvC scope cl C X.env) (eval c (compEnvC scope cl C X.env));pure (ForInStep.yield ok)else pure (ForInStep.yield r)) (TP (Mi.blk X scope cl Nb a d C l j) f n Q) (fun _ _=>False) s)
  (J:∀a d C l j,PE (Mi.blk X scope cl Nb a d C l j) elt te) (y:∀x,foldedSetIterable iter X.env x=pure x:=by intro _;rfl) :
  PE X (.ListComp elt [⟨tg,iter,ifs,0⟩] scope pos) (QgM wi cp g tt te):=by
 intro f s T H Q I h;rw[eval_ListComp];refine QbU L B F G v J y I h fun D C S u m R p E N O i z q=>⟨m,p,fun P t=>?_⟩
 exact⟨.ref D,S,R.turned (t':=u.toks) (it:=C) (fun b o M e=>t.extBut b o M e) E N (.inr O) i z,rfl,q⟩
theorem Qjo(hN:X.N.Nodup)(O:X.N[i]?=some x)(U:Loc X.env.scope x)(hf:X.fn x=true\/X.env.scope.names.lookup x=some .local)(J:swapsWith (.ListComp elt [⟨tg,iter,ifs,0⟩] scope pos) (some (.Name x j)) u.line X.env=pure true)
  (hc:X.calm=true) (B:BlkOk X scope cl Nb cp) (hi:PI X tg iter wi) (hg:∀d f C t p,PG (Mi.blk X scope cl Nb d f C t p) tg g)
  (Y:∀d f C t p,∀(l:List (Addr×Obj)) (s:Shared) (F:L2.St) (H:Hp) (Q:Bool->Hp->Prop),Inv (Mi.blk X scope cl Nb d f C t p) l F H s->tt F H Q ->
   wpAny (model X.prog X.w) X.A (forIn ifs true fun c r=>if r=true then do let ok <-isTrue c (compEnvC scope cl C X.env) (eval c (compEnvC scope cl C X.env));pure (ForInStep.yield ok)else pure (ForInStep.yield r)) (TP (Mi.blk X scope cl Nb d f C t p) l F Q) (fun _ _=>False) s)
  (he:∀d f C t p,PE (Mi.blk X scope cl Nb d f C t p) elt te) (Z:∀x,foldedSetIterable iter X.env x=pure x:=by intro _;rfl) :
  PS X (.Assign [.Name x j] (.ListComp elt [⟨tg,iter,ifs,0⟩] scope pos) u) (QmU (QgM wi cp g tt te) (Qeq i)):=by
 intro l s σ H D I h;rw[exec_Assign_Name_used _ _ _ _ J];refine Na (F9 (Na ?_));show wpAny _ X.A (do let _ <-comprehension (.ListComp elt [⟨tg,iter,ifs,0⟩] scope pos) scope X.env _ (newList []) false (eval iter X.env) (some (assign (.Name x j) X.env))) _ _ s;refine Na (N0 (QbU (use:=some (assign (.Name x j) X.env)) (Q':=fun _ E=>SP X l D .next E) hc B hi hg Y he Z I h fun R C H' E m I' L hn P h0 n hp q=>?_) (fun _ E hq=>Nj (Nj hq)) fun _ _ e=>e);show wpAny _ X.A (assign (.Name x j) X.env (.ref R)) _ _ E;refine OW (GQ (v:=.ref R) I' hN O U rfl (fun T I5 ⟨a,S,y⟩=>?_) hf)
 have M:C≠a:=fun z=>by
  rcases y with y|y
  ·exact P (z.trans y)
  ·exact n x a y z.symm
 exact⟨m,L.sameBut S M,fun aa G=>⟨_,H',I5.turned (t':=T.toks) (it:=C) (fun b o hb e=>G.extBut b o hb e) hn P (.inr h0) n hp,q⟩⟩
end
def IterR(X:Cx)(c:Expr)(r:V->Hp->(It->Hp->Prop)->Prop):Prop:=
 ∀(a:List (Addr×Obj)) (s:Shared) (b:L2.St) (H:Hp) (x:V) (v:Value) (C:It->Hp->Prop),Inv X a b H s->RelV x v->r x H C->wpAny (model X.prog X.w) X.A (pyIter v) (PIE X a b c C) X.xe s
section
variable{X:Cx}{tg:Expr}
theorem IterR.or(h:IterR X tg r)(h':IterR X tg d):IterR X tg (fun x H C=>r x H C\/d x H C):=fun a s b H x v C I c q=>by
 rcases q with q|q
 ·exact h a s b H x v C I c q
 ·exact h' a s b H x v C I c q
theorem it_list:IterR X tg (fun x H C=>∃a,x=.ref a/\(∃xs,SqL X.K H a xs)/\C (Itl X.K a) H):=by
 intro d c m l x v C I1 f g;obtain⟨a,e,⟨xs,i⟩,q⟩:=g;subst e;cases f;obtain⟨h,rv,p,r⟩:=I1.list i;refine D0 p.isList ?_;refine⟨c.heap.objs.size,[c.heap.objs.size],_,_,l,rfl,I1.kept (t':=c.toks) fun b o e=>No _ e,QfB a _,⟨_,NB _ rfl,rfl,rfl⟩,fun b j=>?_,q⟩;have e:b=c.heap.objs.size:=by simpa using j
 subst e;exact I1.fpOk (Nz _) (I1.hok.fresh (Nz _))
theorem Qkw:IterR X tg (fun x H C=>∃a,x=.ref a/\(∃xs,SqT X.K H a xs)/\C (Itt X.K a) H):=by
 intro f c m l x v C I1 g h;obtain⟨a,e,⟨xs,i⟩,q⟩:=h;subst e;cases g;obtain⟨d,rv,p,r⟩:=I1.tuple i;refine DU (show c.heap.IsTuple a d.toArray from p) ?_;refine⟨c.heap.objs.size,[c.heap.objs.size],_,_,l,rfl,I1.kept (t':=c.toks) fun b o e=>No _ e,QcB a _,⟨_,NB _ rfl,rfl,rfl⟩,fun b j=>?_,q⟩;have e:b=c.heap.objs.size:=by simpa using j
 subst e;exact I1.fpOk (Nz _) (I1.hok.fresh (Nz _))
noncomputable def Its(x:Str):It:=⟨fun i _=>i<x.cps.size,fun i H v a=>a=H/\∃c,x.cps[i]?=some c/\v=.str ⟨#[c]⟩,fun i _=>x.cps.size<=i⟩
noncomputable def Qav(x:Str):List W:=x.cps.toList.map fun c=>.str ⟨#[c]⟩
theorem Qhh{P:Program}{w:World}{K:Ng}{tg:Expr}(it:Addr)(x:Str)(ty:String)(t:Tok)(f:ty="str_ascii_iterator"\/ty="str_iterator") :
  Turn P w K tg (Its x) [it] it (fun i h=>i<=x.cps.size/\h.IsStrIter it ty x t i) where
 mem:=by simp
 obj:=fun i h st b j=>by
  have e:b=it:=by simpa using j
  subst e;obtain⟨_,o,e,c,d⟩:=st;exact⟨o,e,fun v z=>by rw[d]at z;cases z⟩
 keep:=fun i h l st k=>⟨st.1,let⟨o,T,r⟩:=st.2;⟨o,k it (by simp) o T,r⟩⟩
 item:=by
  intro X L hw M J i a s G H E I q st p;subst L hw M;obtain⟨U,st⟩:=st;obtain⟨F,f1,f2,D,C,B⟩:=q it (by simp);have g:i<x.cps.size:=p;have m:x.cps[i]?=some (x.cps[i]'g):=NN g
  have fin:∀l:Heap,l.IsStrIter it ty x t (i+1)->Heap.SameBut it s.heap l->∃u,some (Value.str ⟨#[x.cps[i]'g]⟩ s.toks)=some u/\wpAny (model X.prog X.w) X.A (letOwnedTupleGo tg (.ref it) u) (fun _ Q=>∃y O,Inv X a G O Q/\RelV y u/\(Its x).yld i H y O/\(i+1<=x.cps.size/\Q.heap.IsStrIter it ty x t (i+1))/\∀b∈[it],O b=none) E { s with heap:=l,toks:=s.toks+1 }:=fun l n S=>by
   have I1:Inv X a G H { s with heap:=l,toks:=s.toks+1 }:=I.turned (fun b o j e=>(S.2 b j).trans e) F f1 D C B;obtain⟨o,e,c,d⟩:=id n;refine⟨_,rfl,QaZ (s:={ s with heap:=l,toks:=s.toks+1 }) e c d (by rcases f with z|z<;>rw[z]<;>decide) ⟨.str ⟨#[x.cps[i]'g]⟩,H,I1,⟨_,rfl⟩,⟨rfl,_,m,rfl⟩,⟨p,n⟩,fun b j=>(q b j).1⟩⟩
  rcases f with z|z
  ·subst z;exact wpAny_pyNext_ascii_item st m fin
  ·subst z;exact wpAny_pyNext_wide_item st m fin
 done:=by
  intro X L hw M J i a s G H E I q st p;subst L hw M;obtain⟨U,st⟩:=st;obtain⟨F,f1,f2,D,C,B⟩:=q it (by simp);have m:x.cps[i]?=none:=by have:x.cps.size<=i:=p;simp;exact this
  rcases f with z|z
  ·subst z;exact wpAny_pyNext_ascii_end (I.ok.hd J) st m fun l N=>⟨rfl,I.turned (t':=s.toks) (fun b o j e=>N b o j e) F f1 D C B⟩
  ·subst z;exact wpAny_pyNext_wide_end (I.ok.hd J) st m fun l N=>⟨rfl,I.turned (t':=s.toks) (fun b o j e=>N b o j e) F f1 D C B⟩
 self:=fun _ _ _ _ _ st h=>by
  rcases f with z|z
  ·subst z;exact wpAny_pyIter_striter_ascii st.2 h
  ·subst z;exact wpAny_pyIter_striter_wide st.2 h
theorem Qlh:IterR X tg (fun x H C=>∃y,x=.str y/\C (Its y) H):=by
 intro c a g l x v C I1 h i;obtain⟨y,rfl,q⟩:=i;obtain⟨t,rfl⟩:=h
 have fin:∀ty,(ty="str_ascii_iterator"\/ty="str_iterator")->PIE X c g tg C (.ref a.heap.objs.size) { a with heap:=a.heap.push { cls:=.type ty,data:=.fields #[.str y t,.int 0 0] } }:=fun ty d=>by
  refine⟨a.heap.objs.size,[a.heap.objs.size],_,_,l,rfl,I1.kept (t':=a.toks) fun b o e=>No _ e,Qhh _ y ty t d,⟨NV _,_,NB _ rfl,rfl,rfl⟩,fun b j=>?_,q⟩;have e:b=a.heap.objs.size:=by simpa using j
  subst e;exact I1.fpOk (Nz _) (I1.hok.fresh (Nz _))
 cases f:y.cps.all (·<128)
 ·exact wpAny_pyIter_wide f (fin _ (.inr rfl))
 ·exact wpAny_pyIter_ascii f (fin _ (.inl rfl))
end
def QbE(h:MH):W->Option (List W×Option Src)
 |.tup ws=>some (ws,none)
 |.lst ws=>some (ws,none)
 |.frz ws=>some (ws,none)
 |.str x=>some (Qav x,none)
 |.ref n=>match h[n]? with|some (.lst ws)=>some (ws,some (.l n))|_=>none
 |_=>none
def Qo(m:ME):MI:=fun a h=>(m a h).bind fun p=>(QbE p.2 p.1).map fun q=>(q.1,q.2,p.2)
section
variable{K:Ng}{R:Rn}
theorem G4(d:SqL K R.F a xs)(r:Rws K R ws xs):ItOk K R (Itl K a) ws none where
 go:=fun i w j h H x c _ e=>by
  obtain⟨v,g,_⟩:=r.get e;exact⟨xs,v,Zh (fun b o z=>c.sub b o (x.f b o z)) d,g⟩
 yld:=fun i w j h H x s e c _ q l=>by
  obtain⟨rfl,m⟩:=l;obtain⟨v,g,p⟩:=r.get q;have:=m xs (Zh (fun b o z=>c.sub b o (e.f b o z)) d);rw[g]at this;cases this;exact⟨j,Ext.refl _,c,Rw.mono e _ _ p⟩
 stop:=fun i j h H x c _ n=>⟨xs,Zh (fun b o z=>c.sub b o (x.f b o z)) d,by rw[<-r.length];exact n⟩
theorem Qg3(d:SqT K R.F a xs)(r:Rws K R ws xs):ItOk K R (Itt K a) ws none where
 go:=fun i w j h H x c _ e=>by
  obtain⟨v,g,_⟩:=r.get e;exact⟨xs,v,ZR (fun b o z=>c.sub b o (x.f b o z)) d,g⟩
 yld:=fun i w j h H x s e c _ q l=>by
  obtain⟨rfl,m⟩:=l;obtain⟨v,g,p⟩:=r.get q;have:=m xs (ZR (fun b o z=>c.sub b o (e.f b o z)) d);rw[g]at this;cases this;exact⟨j,Ext.refl _,c,Rw.mono e _ _ p⟩
 stop:=fun i j h H x c _ n=>⟨xs,ZR (fun b o z=>c.sub b o (x.f b o z)) d,by rw[<-r.length];exact n⟩
theorem Qgr(g:n<R.N):ItOk K R (Itl K (R.ρ n)) ws (some (.l n)) where
 go:=fun i w o h H x b d e=>by
  obtain⟨c,a,f⟩:=b.obj n _ (d (.l n) rfl);obtain⟨v,m,_⟩:=f.get e;rw[x.ρ n g]at a;exact⟨c,v,SqL.of a,m⟩
 yld:=fun i w o h H x t e b d s p=>by
  obtain⟨rfl,q⟩:=p;obtain⟨c,a,f⟩:=b.obj n _ (d (.l n) rfl);obtain⟨v,m,r⟩:=f.get s;rw[e.ρ n g]at a;have:=q c (SqL.of a);rw[m]at this;cases this;exact⟨o,Ext.refl _,b,r⟩
 stop:=fun i o h H x b d j=>by
  obtain⟨c,a,f⟩:=b.obj n _ (d (.l n) rfl);rw[x.ρ n g]at a;exact⟨c,SqL.of a,by rw[<-f.length];exact j⟩
theorem QgI:ItOk K R (Its x) (Qav x) none where
 go:=fun i w b h H _ _ _ e=>by
  have:=(Nf.mp e).1;show i<x.cps.size;simpa[Qav]using this
 yld:=fun i w b h H v l e d _ a f=>by
  obtain⟨rfl,c,j,rfl⟩:=f;unfold Qav at a;rw[Np,Eb,j]at a;cases a;exact⟨b,Ext.refl _,d,Rw.str _⟩
 stop:=fun i b h H _ _ _ g=>by
  show x.cps.size<=i;simpa[Qav]using g
theorem UF{lo:Int}:ItOk K R (Itr lo n) ((List.range n).map fun(i:Nat)=>W.int (lo+(i:Int))) none where
 go:=fun i w b h H _ _ _ e=>by
  have:=(Nf.mp e).1;show i<n;simpa using this
 yld:=fun i w b h H v m e d _ c f=>by
  obtain⟨rfl,rfl⟩:=f;rw[Np]at c;obtain⟨j,a,l⟩:=Nd.mp c;rw[Em (by have:=(Nf.mp a).1;simpa using this)]at a;cases a;cases l;exact⟨b,Ext.refl _,d,Rw.int _⟩
 stop:=fun i b h H _ _ _ g=>by
  show n<=i;simpa using g
end
section
variable{X:Cx}{tg a b c:Expr}{ma:ME}{ms:MA}{pos p:Pos}
theorem QB(O:PM X a ma):PMI X tg a (Qo ma):=by
 intro i s D H C I q;obtain⟨R,t,h,items,E,h',G,st,e,k⟩:=q;obtain⟨⟨w,Q⟩,Y,U⟩:=Nc.mp e;obtain⟨⟨M,Z⟩,g,T⟩:=Nd.mp U;cases T;refine thn (O i s D H _ I ⟨R,t,h,w,Q,G,st,Y,fun R1 l v m d rv=>?_⟩) fun v F ⟨x,l,I1,J,L⟩=>((it_list.or Qkw).or Qlh) i F D l x v C I1 J L;cases w with
 |tup z=>
  cases g;obtain⟨ad,u,rfl,B,P⟩:=d.tupAt rv;unfold Rw at rv;obtain⟨r,f,S,j,o⟩:=rv;cases S;exact .inl (.inr ⟨_,rfl,⟨u,B⟩,k R1 l _ m d (Qg3 j o)⟩)
 |lst z=>
  cases g;unfold Rw at rv;obtain⟨r,f,rfl,j,o⟩:=rv;exact .inl (.inl ⟨_,rfl,⟨f,SqL.of (d.sub _ _ j)⟩,k R1 l _ m d (G4 (SqL.of j) o)⟩)
 |frz z=>
  cases g;unfold Rw at rv;obtain⟨r,f,rfl,j,o⟩:=rv;exact .inl (.inl ⟨_,rfl,⟨f,Zh d.sub j⟩,k R1 l _ m d (G4 j o)⟩)
 |str y=>
  cases g;rw[rv.str_eq];exact .inr ⟨y,rfl,k R1 l _ m d QgI⟩
 |ref n=>
  simp only[QbE]at g;split at g
  ·rename_i z N;cases g;obtain⟨A,rfl,u,B,P⟩:=d.refAt rv N;exact .inl (.inl ⟨_,rfl,⟨u,SqL.of B⟩,k R1 l _ m d (Qgr A)⟩)
  ·cases g
 |_=>cases g
noncomputable def Qt(lo:Int)(n:Nat):List W:=(List.range n).map fun(i:Nat)=>W.int (lo+(i:Int))
def Wi(ms:MA):MI:=fun d h=>(ms d h).bind fun p=>match p.1 with
 |[.int j]=>if -(2^62)<=j/\j<2^62 then some (Qt 0 j.toNat,none,p.2)else none
 |_=>none
def QgA(ms:MA):MI:=fun d h=>(ms d h).bind fun p=>match p.1 with
 |[.int i,.int j]=>if -(2^62)<=i/\i<2^62/\-(2^62)<=j/\j<2^62 then some (Qt i (j-i).toNat,none,p.2)else none
 |_=>none
theorem Kx(y:Gl X "range")(x:X.mg "range"=none)(z:PMA X [a] ms)(w:starEach [a] X.env=[(false,eval a X.env)]:=by rfl):PMI X tg (.Call (.Name "range" p) [a] [] pos) (Wi ms):=
 UC (QeQ y x z w) fun E H C n=>by
  obtain⟨R,f,h,items,s,G,t,st,e,k⟩:=n;obtain⟨⟨q,A⟩,B,d⟩:=Nc.mp e;refine⟨R,f,h,q,A,t,st,B,fun R1 D F o g rv=>?_⟩;split at d
  ·rename_i j l;simp only at l;subst l;split at d
   ·rename_i m;cases d;rw[Rws.cons_iff]at rv;obtain⟨v,r,rfl,u,i⟩:=rv;rw[Rws.nil_iff]at i;subst i;rw[u.int_eq];exact⟨j,rfl,m.1,m.2,k R1 D _ o g UF⟩
   ·cases d
  ·cases d
theorem Qih(D:Gl X "range")(B:X.mg "range"=none)(F:PMA X [a,b] ms)(A:starEach [a,b] X.env=[(false,eval a X.env),(false,eval b X.env)]:=by rfl)(l:starEach [b] X.env=[(false,eval b X.env)]:=by rfl):PMI X tg (.Call (.Name "range" p) [a,b] [] pos) (QgA ms):=
 UC (Qdw D B F A l) fun L H C q=>by
  obtain⟨R,f,h,items,w,O,x,st,e,k⟩:=q;obtain⟨⟨s,G⟩,I,d⟩:=Nc.mp e;refine⟨R,f,h,s,G,x,st,I,fun R1 J M r g rv=>?_⟩;split at d
  ·rename_i i j o;simp only at o;subst o;split at d
   ·rename_i E;cases d;rw[Rws.cons_iff]at rv;obtain⟨v,u,rfl,z,n⟩:=rv;rw[Rws.cons_iff]at n;obtain⟨N,t,rfl,y,m⟩:=n;rw[Rws.nil_iff]at m;subst m;rw[z.int_eq,y.int_eq];exact⟨i,j,rfl,E,k R1 J _ r g UF⟩
   ·cases d
  ·cases d
end
noncomputable def QfM(cp:List (Option Nat))(σ:MSt):MSt:=cp.map fun o=>match o with|none=>none|some j=>match σ[j]? with|some v=>v|none=>none
theorem Rst.cap{K:Ng}(s:Rst K R b σ)(cp:List (Option Nat)):Rst K R (QfM cp b) (GM cp σ):=by
 unfold QfM GM;refine⟨by simp,fun i w e=>?_⟩;rw[Np]at e ⊢;obtain⟨o,f,a⟩:=Nd.mp e;rw[f];cases o with
 |none=>cases a
 |some j=>
  simp only at a;split at a
  ·rename_i u hu;subst a;obtain⟨v,d,c⟩:=s.2 j w hu;exact⟨v,by simp[d],c⟩
  ·cases a
open Classical in
def ZM(fin:List W->MH->Option (W×MH))(items:List W)(src:Option Src)(b:MG)(mt:MT)(me:ME):List W->List W->MSt->MH->Option (W×MH)
 |[],a,_,h=>if live src items h then fin a h else none
 | w::r,a,d,h=>if live src items h then(b w d h).bind fun c=>(mt c h).bind fun q=>match q.1 with
   |true=>(me c q.2).bind fun v=>if a.length<sizeLine then ZM fin items src b mt me r (a++[v.1]) c v.2 else none
   |false=>ZM fin items src b mt me r a c q.2
  else none
def QN(fin:List W->MH->Option (W×MH))(mi:MI)(cp:List (Option Nat))(b:MG)(mt:MT)(me:ME):ME:=fun a h=>(mi a h).bind fun p=>ZM fin p.1 p.2.1 b mt me p.1 [] (QfM cp a) p.2.2
noncomputable def Kl:MT:=fun _ h=>some (true,h)
noncomputable def Jn(a:List W)(h:MH):Option (W×MH):=some (.lst a,h)
noncomputable def QmK(a:List W)(h:MH):Option (W×MH):=some (.ref h.length,h++[.lst a])
def QcO(K:Ng)(fin:List W->MH->Option (W×MH)):Prop:=∀R h H b a w d D,Rh K R h H->Rws K R b a->fin b h=some (w,d)->H D=none->∃c,Ext R c/\Rh K c d (upd H D (.lst a))/\Rw K c w (.ref D)
theorem Q4{K:Ng}:QcO K Jn:=fun R h H d a w f D b r e c=>by
 cases e;exact b.lstI c r
theorem Qjk{K:Ng}:QcO K QmK:=fun R h H f a w g D c r e d=>by
 cases e;exact c.new d fun i b=>⟨a,rfl,Rws.mono b _ _ r⟩
section
variable{X:Cx}{elt tg iter c:Expr}{scope:Scope}{pos:Pos}{cl:List (Str×Addr)}{Nb:List Str}{cp:List (Option Nat)}{mi:MI}{b:MG}{mt:MT}{me:ME}{fin:List W->MH->Option (W×MH)}
theorem QaN{K:Ng}(hf:QcO K fin)(q:tI K (QN fin mi cp b mt me) σ H Q):QgM (tII K mi) cp (tIG K b) (tIT K mt) (tI K me) σ H Q:=by
 obtain⟨R,B,h,w,h',rh,s,e,k⟩:=q;obtain⟨⟨items,E,h1⟩,e1,e2⟩:=Nc.mp e;refine⟨R,B,h,items,E,h1,rh,s,e1,fun R1 H1 J x1 Y it=>?_⟩;refine⟨fun i n z τ H=>i+n=items.length/\∃R2 g o a,Ext R1 R2/\Rh K R2 o H/\Rst K R2 g τ/\Rws K R2 a z/\ZM fin items E b mt me (items.drop i) a g o=some (w,h')/\After K R2 w h' Q,⟨items.length,by simp,R1,QfM cp B,h1,[],Ext.refl _,Y,(s.mono x1).cap cp,Rws.nil,by simpa using e2,k.ext x1⟩,?_⟩
 rintro i n z τ S ⟨ae,R2,g,o,a,C,m,s2,M,f,Z⟩
 by_cases G:i<items.length
 ·obtain⟨y,N⟩:∃y,items[i]?=some y:=⟨items[i],Nl G⟩
  have hd:items.drop i=y::items.drop (i+1):=by
   rw[EK G];rw[Nl G]at N;cases N;rfl
  rw[hd]at f;unfold ZM at f;split at f
  ·rename_i O;obtain⟨d,e4,e5⟩:=Nc.mp f;obtain⟨⟨t,h3⟩,e6,e7⟩:=Nc.mp e5;refine .inr ⟨it.go i y R2 o S C m O N,fun x H' aa=>?_⟩;obtain⟨R3,l,r,p⟩:=it.yld i y R2 o S x H' C m O N aa;refine⟨R3,g,o,y,d,r,s2.mono l,p,e4,fun R4 H4 ab A U L=>?_⟩;refine⟨R4,d,o,t,h3,U,L,e6,fun R5 H5 j F=>?_⟩;cases t with
   |true=>
    obtain⟨⟨v,h4⟩,e8,P⟩:=Nc.mp e7;dsimp only at P;split at P
    ·rename_i hz;refine QhW ⟨R5,d,h3,v,h4,F,L.mono j,e8,fun R6 H6 u I T rv=>⟨by rw[<-M.length];exact hz,n-1,by lia,by lia,R6,d,h4,a++[v],C.trans (l.trans (A.trans (j.trans I))),T,L.mono (j.trans I),?_,P,Z.ext (l.trans (A.trans (j.trans I)))⟩⟩;exact Rws.append (Rws.mono (l.trans (A.trans (j.trans I))) _ _ M) (Rws.cons rv Rws.nil)
    ·cases P
   |false=>
    exact QhV ⟨n-1,by lia,by lia,R5,d,h3,a,C.trans (l.trans (A.trans j)),F,L.mono j,Rws.mono (l.trans (A.trans j)) _ _ M,e7,Z.ext (l.trans (A.trans j))⟩
  ·cases f
 ·have hd:items.drop i=[]:=E5 (NU.mp G);rw[hd]at f;unfold ZM at f;split at f
  ·rename_i O;refine .inl ⟨it.stop i R2 o S C m O (NU.mp G),fun D hD=>?_⟩;obtain⟨R3,l,r,p⟩:=hf R2 o S a z w h' D m M f hD;exact Z R3 _ _ l r p
  ·cases f
theorem JA(r:QcO X.K fin)(v:X.calm=true)(B:BlkOk X scope cl Nb cp)(o:PMI X tg iter mi)(p:∀a d C i f,PMG (Mi.blk X scope cl Nb a d C i f) tg b)
  (u:∀a d C i f,PM (Mi.blk X scope cl Nb a d C i f) elt me) (n:∀x,foldedSetIterable iter X.env x=pure x:=by intro _;rfl) :
  PM X (.ListComp elt [⟨tg,iter,[],0⟩] scope pos) (QN fin mi cp b Kl me):=
 Q5 (Qfc (g:=tIG X.K b) (te:=tI X.K me) (tt:=tIT X.K Kl) v B o p (fun a d C i f j s w H Q I q=>wpAny_tests_nil (by
  obtain⟨R,l,h,t,A,m,st,e,k⟩:=q;cases e
  exact⟨H,I,k R H (Ext.refl _) m⟩)) u n) fun _ _ _ q=>QaN r q
theorem Vt(o:QcO X.K fin)(r:X.calm=true)(B:BlkOk X scope cl Nb cp)(m:PMI X tg iter mi)(n:∀a d C f e,PMG (Mi.blk X scope cl Nb a d C f e) tg b)
  (j:∀a d C f e,PMT (Mi.blk X scope cl Nb a d C f e) c mt)
  (p:∀a d C f e,PM (Mi.blk X scope cl Nb a d C f e) elt me) (l:∀x,foldedSetIterable iter X.env x=pure x:=by intro _;rfl) :
  PM X (.ListComp elt [⟨tg,iter,[c],0⟩] scope pos) (QN fin mi cp b mt me):=
 Q5 (Qfc (g:=tIG X.K b) (te:=tI X.K me) (tt:=tIT X.K mt) r B m n (fun a d C f e h s i H Q I q=>wpAny_tests_one (j a d C f e h s i H Q I q)) p l) fun _ _ _ q=>QaN o q
end
open PySem.SeqAt
mutual
noncomputable def eqW:W->W->Bool
 |.non,.non=>true
 |.bl a,.bl b=>a==b
 |.bl a,.int b=>(if a then 1 else 0)==b
 |.int a,.bl b=>a==(if b then 1 else 0)
 |.int a,.int b=>a==b
 |.str a,.str b=>a==b
 |.tup a,.tup b=>XG a b
 |.lst a,.lst b=>XG a b
 |_,_=>false
noncomputable def XG:List W->List W->Bool
 |[],[]=>true
 |x::xs,y::a=>eqW x y&&XG xs a
 |_,_=>false
end
noncomputable def Zl(f:b->Option a):List b->Option (List a)
 |[]=>some []
 |x::xs=>(f x).bind fun y=>(Zl f xs).map (y::·)
def drf(h:MH):Nat->W->Option W
 |0,_=>none
 |n+1,w=>match w with
  |.tup ws=>(Zl (drf h n) ws).map .tup
  |.lst ws=>(Zl (drf h n) ws).map .lst
  |.frz ws=>(Zl (drf h n) ws).map .lst
  |.ref k=>match h[k]? with|some (.lst ws)=>(Zl (drf h n) ws).map .lst|_=>none
  |.ty _=>none
  |.non=>some .non
  |.bl b=>some (.bl b)
  |.int i=>some (.int i)
  |.str x=>some (.str x)
theorem QE:∀{xs:List o} {a:List n},Zl f xs=some a->xs.length=a.length/\∀(i:Nat) x,xs[i]?=some x->∃y,a[i]?=some y/\f x=some y
 |[],a,e=>by cases e;exact⟨rfl,fun i x h=>by simp at h⟩
 |x::xs,a,e=>by
  obtain⟨y,m,h2⟩:=Nc.mp e;obtain⟨p,j,g⟩:=Nd.mp h2;subst g;obtain⟨l,q⟩:=QE j;refine⟨by simp[l],fun i z b=>?_⟩;cases i with
  |zero=>simp at b;subst b;exact⟨y,by simp,m⟩
  |succ i=>simp at b;obtain⟨u,d,c⟩:=q i z b;exact⟨u,by simp[d],c⟩
theorem Yk:∀{a b:List W},a.length≠b.length->XG a b=false
 |[],[],h=>absurd rfl h
 |[],_::_,_=>by unfold XG;rfl
 |_::_,[],_=>by unfold XG;rfl
 |x::xs,y::c,h=>by
  unfold XG;rw[Yk (a:=xs) (b:=c) (fun z=>h (by simp[z])),D4]
theorem Yn:∀{a b:List W},a.length=b.length->XG a b=(List.range a.length).all fun j=>match a[j]?,b[j]? with|some x,some y=>eqW x y|_,_=>false
 |[],[],_=>by unfold XG;rfl
 |x::xs,y::c,h=>by
  have d:=Yn (a:=xs) (b:=c) (by simpa using h);unfold XG;rw[d,NM,LY,Fj,Iz];simp[EZ]
inductive Kd(K:Ng)(R:Rn)(h:MH)(H:Hp)(n:Nat)(v:V):W->Prop where
 |flat {a:W} (f:Qi6 v=true) (e:(v=.non/\a=.non)\/(∃b,v=.bl b/\a=.bl b)\/(∃i,v=.int i/\a=.int i)\/∃x,v=.str x/\a=.str x):Kd K R h H n v a
 |lst {ad:Addr} {xs:List V} {ws as:List W} (e:v=.ref ad) (q:SqL K H ad xs) (r:Rws K R ws xs) (m:Zl (drf h n) ws=some as):Kd K R h H n v (.lst as)
 |tup {ad:Addr} {xs:List V} {ws as:List W} (e:v=.ref ad) (q:SqT K H ad xs) (r:Rws K R ws xs) (m:Zl (drf h n) ws=some as):Kd K R h H n v (.tup as)
theorem Kp{K:Ng}{v:V}(g:Rh K R h H)(r:Rw K R w v)(e:drf h (n+1) w=some a):Kd K R h H n v a:=by
 cases w with
 |non=>rw[r.non_eq];cases e;exact .flat rfl (.inl ⟨rfl,rfl⟩)
 |bl b=>rw[r.bl_eq];cases e;exact .flat rfl (.inr (.inl ⟨b,rfl,rfl⟩))
 |int i=>rw[r.int_eq];cases e;exact .flat rfl (.inr (.inr (.inl ⟨i,rfl,rfl⟩)))
 |str x=>rw[r.str_eq];cases e;exact .flat rfl (.inr (.inr (.inr ⟨x,rfl,rfl⟩)))
 |tup l=>
  obtain⟨ad,j,f,q,c⟩:=g.tupAt r;obtain⟨as,m,d⟩:=Nd.mp e;subst d;exact .tup f q c m
 |lst l=>
  obtain⟨ad,j,f,q,c⟩:=g.lstAt r;obtain⟨as,m,d⟩:=Nd.mp e;subst d;exact .lst f (SqL.of q) c m
 |frz l=>
  obtain⟨ad,j,f,q,c⟩:=g.frzAt r;obtain⟨as,m,d⟩:=Nd.mp e;subst d;exact .lst f q c m
 |ref k=>
  simp only[drf]at e;split at e
  ·rename_i l o;obtain⟨as,m,d⟩:=Nd.mp e;subst d;obtain⟨_,f,j,q,c⟩:=g.refAt r o;exact .lst f (SqL.of q) c m
  ·cases e
 |ty _=>cases e
section
variable{X:Cx}{pins:List (Addr×Obj)}{σ:L2.St}{H:Hp}{s:Shared}{R:Rn}{h:MH}
theorem Wx{K:Ng}(r:∀q p v a b,Rw K R q v->Rw K R p v->drf h n q=some a->drf h n p=some b->a=b) :
  ∀{d c:List W} {xs:List V} {a b:List W},Rws K R d xs->Rws K R c xs->Zl (drf h n) d=some a->Zl (drf h n) c=some b->a=b
 |[],c,xs,a,b,f,e,i,g=>by
  rw[Rws.nil_iff]at f;subst f;cases c with
  |nil=>cases i;cases g;rfl
  |cons w ws=>rw[Rws.cons_iff]at e;obtain⟨_,_,z,_⟩:=e;cases z
 | w::d,c,xs,a,b,f,e,i,g=>by
  rw[Rws.cons_iff]at f;obtain⟨v,x,rfl,E,D⟩:=f;cases c with
  |nil=>rw[Rws.nil_iff]at e;cases e
  |cons A c=>
   rw[Rws.cons_iff]at e;obtain⟨_,_,z,C,B⟩:=e;cases z;obtain⟨y,J,I⟩:=Nc.mp i;obtain⟨L,G,F⟩:=Nd.mp I;obtain⟨u,o,m⟩:=Nc.mp g;obtain⟨t,l,j⟩:=Nd.mp m;subst F j;rw[r w A v y u E C J o,Wx r D B G l]
theorem YF(I:Inv X pins σ H s)(q:SqL X.K H a xs)(e:SqT X.K H a l):False:=by
 obtain⟨g,_,p,_⟩:=I.list q;obtain⟨d,_,f,_⟩:=I.tuple e;obtain⟨o,n,j,i,_⟩:=p;obtain⟨m,c,b,_⟩:=f;rw[j]at c;cases c;rw[i]at b;exact absurd b (by simp)
theorem Y7(I:Inv X pins σ H s)(g:Rh X.K R h H):∀(n:Nat) (l j:W) (v:V) (a b:W),Rw X.K R l v->Rw X.K R j v->drf h n l=some a->drf h n j=some b->a=b
 |0,_,_,_,_,_,_,_,e,_=>by cases e
 | n+1,l,j,v,a,b,y,o,A,u=>by
  have w:=Y7 I g n;cases Kp g y A with
  | flat f z=>
   cases Kp g o u with
   |flat B x=>
    rcases z with⟨rfl,rfl⟩|⟨_,rfl,rfl⟩|⟨_,rfl,rfl⟩|⟨_,rfl,rfl⟩<;>rcases x with⟨i,rfl⟩|⟨_,i,rfl⟩|⟨_,i,rfl⟩|⟨_,i,rfl⟩<;>cases i<;>rfl
   |lst e=>subst e;cases f
   |tup e=>subst e;cases f
  |lst e q r m=>
   subst e;cases Kp g o u with
   |flat f=>cases f
   |lst d c p t=>cases d;have:=I.list_inj q c;subst this;rw[Wx w r p m t]
   |tup d c=>cases d;exact(YF I q c).elim
  |tup e q r m=>
   subst e;cases Kp g o u with
   |flat f=>cases f
   |lst d c=>cases d;exact(YF I c q).elim
   |tup d c p t=>cases d;have:=I.tuple_inj q c;subst this;rw[Wx w r p m t]
mutual
theorem GF:∀(n:Nat) (w a:W),drf h n w=some a->eqW a a=true
 |0,_,_,e=>by cases e
 | n+1,w,a,e=>by
  cases w with
  |non=>cases e;unfold eqW;rfl
  |bl b=>cases e;unfold eqW;simp
  |int i=>cases e;unfold eqW;simp
  |str x=>cases e;unfold eqW;simp
  |tup ws=>obtain⟨as,m,c⟩:=Nd.mp e;subst c;unfold eqW;exact XE n ws as m
  |lst ws=>obtain⟨as,m,c⟩:=Nd.mp e;subst c;unfold eqW;exact XE n ws as m
  |frz ws=>obtain⟨as,m,c⟩:=Nd.mp e;subst c;unfold eqW;exact XE n ws as m
  |ref k=>
   simp only[drf]at e;split at e
   ·rename_i ws d;obtain⟨as,m,c⟩:=Nd.mp e;subst c;unfold eqW;exact XE n ws as m
   ·cases e
  |ty _=>cases e
theorem XE:∀(n:Nat) (ws as:List W),Zl (drf h n) ws=some as->XG as as=true
 |n,[],_,m=>by cases m;unfold XG;rfl
 |n,w::ws,_,m=>by
  obtain⟨y,d,h2⟩:=Nc.mp m;obtain⟨a,c,b⟩:=Nd.mp h2;subst b;unfold XG;rw[GF n w y d,XE n ws a c];rfl
end
theorem Ki(L:∀g f v1 i q p a b,Rw X.K R g v1->Rw X.K R f i->RelV v1 q->RelV i p->drf h n g=some a->drf h n f=some b->EqAt A s q p (eqW a b))
  (v:Rws X.K R e xs) (r:Rws X.K R d z) (v1:Vals xs its) (i:Vals z c) (F:Zl (drf h n) e=some as) (E:Zl (drf h n) d=some bs)
  (j:Nat) (o:j<its.toArray.size) (h2:j<c.toArray.size):EqAt A s its.toArray[j] c.toArray[j] (match as[j]?,bs[j]? with|some x,some y=>eqW x y|_,_=>false):=by
 have J:=v.length;have I:=v1.length;have H:=r.length;have G:=i.length;rw[Nq]at o h2;obtain⟨g,m⟩:∃w,e[j]?=some w:=⟨e[j]'(Nk (Nk o (Nt I.symm)) (Nt J.symm)),Nl _⟩
 obtain⟨f,l⟩:∃w,d[j]?=some w:=⟨d[j]'(Nk (Nk h2 (Nt G.symm)) (Nt H.symm)),Nl _⟩
 obtain⟨x,N,C⟩:=v.get m;obtain⟨y,M,B⟩:=r.get l;obtain⟨u,hu,D⟩:=v1.get N;obtain⟨t,O,rt⟩:=i.get M;obtain⟨a,Q,T⟩:=(QE F).2 j g m;obtain⟨b,P,S⟩:=(QE E).2 j f l;rw[Q,P]
 have Y:its.toArray[j]=u:=by
  have:=hu;rw[Nl o]at this;simpa using this
 have U:c.toArray[j]=t:=by
  have:=O;rw[Nl h2]at this;simpa using this
 rw[Y,U];exact L g f x y u t a b C B D rt T S
theorem Qb7(I:Inv X q σ H s)(hu:A.units<cLine)(D:∀i g v1 c m l a b,Rw X.K R i v1->Rw X.K R g c->RelV v1 m->RelV c l->drf h n i=some a->drf h n g=some b->EqAt A.in1 s m l (eqW a b))
  {ad y:Addr} (C:SqL X.K H ad xs) (B:SqL X.K H y z) (p:Rws X.K R e xs) (o:Rws X.K R d z) (v:Zl (drf h n) e=some as) (u:Zl (drf h n) d=some bs):RcAt A s (.ref ad) (.ref y) (XG as bs):=by
 obtain⟨f,v1,t,_⟩:=I.list C;obtain⟨w,c,r,_⟩:=I.list B;have O:=p.length;have N:=v1.length;have M:=o.length;have L:=c.length;have J:=(QE v).1;have G:=(QE u).1
 by_cases x:as.length=bs.length
 ·rw[Yn x];have:=RcAt.lists (A:=A) t.isList r.isList (by rw[Nq,Nq];lia) hu (fun j F E=>Ki D p o v1 c v u j F E);rw[Nq]at this;rw[show as.length=f.length by lia];exact this
 ·rw[Yk x];exact RcAt.lists_lengths t.isList r.isList (by rw[Nq,Nq];simp;lia) hu
theorem Qe0(I:Inv X t σ H s)(hu:A.units<cLine)(D:∀m l v1 e p o a b,Rw X.K R m v1->Rw X.K R l e->RelV v1 p->RelV e o->drf h n m=some a->drf h n l=some b->EqAt A.in1 s p o (eqW a b))
  {ad i:Addr} (z:SqT X.K H ad xs) (y:SqT X.K H i x) (r:Rws X.K R g xs) (q:Rws X.K R f x) (v:Zl (drf h n) g=some as) (u:Zl (drf h n) f=some bs):RcAt A s (.ref ad) (.ref i) (XG as bs):=by
 obtain⟨d,v1,C,_⟩:=I.tuple z;obtain⟨c,e,B,_⟩:=I.tuple y;have O:=r.length;have N:=v1.length;have M:=q.length;have L:=e.length;have J:=(QE v).1;have G:=(QE u).1;have:=RcAt.tuples (A:=A) (show s.heap.IsTuple ad d.toArray from C) (show s.heap.IsTuple i c.toArray from B) hu (fun j F E=>Ki D r q v1 e v u j F E);rw[Nq,Nq]at this
 by_cases w:as.length=bs.length
 ·rw[Yn w];rw[show min d.length c.length=as.length by lia,show(d.length==c.length)=true by simp;omega,Fi]at this;exact this
 ·rw[Yk w];rw[show(d.length==c.length)=false by simp;omega,D4]at this;exact this
theorem QbV(I:Inv X Z σ H s)(o:Rh X.K R h H):∀(n:Nat) (A:Around),A.units+n<cLine->∀(E l:W) (v1 L:V) (N M:Value) (a b:W),Rw X.K R E v1->Rw X.K R l L->RelV v1 N->RelV L M->drf h n E=some a->drf h n l=some b->EqAt A s N M (eqW a b)
 |0,_,_,_,_,_,_,_,_,_,_,_,_,_,_,e,_=>by cases e
 | n+1,A,hu,E,l,v1,L,N,M,a,b,O,F,i,g,Y,x=>by
  have c:A.units<cLine:=by exact Nh (Nv _ _) hu
  have ih:=QbV I o n A.in1 (by show A.units+1+n<cLine;lia)
  have w:∀{ad:Addr} {J:List V},SqL X.K H ad J->∃d:Array Value,s.heap.IsList ad d:=fun q=>by
   obtain⟨d,_,p,_⟩:=I.list q;exact⟨_,p.isList⟩
  have v:∀{ad:Addr} {J:List V},SqT X.K H ad J->∃d:Array Value,s.heap.IsTuple ad d:=fun q=>by
   obtain⟨d,_,p,_⟩:=I.tuple q;exact⟨_,p⟩
  cases Kp o O Y with
  | flat f z=>
   cases Kp o F x with
   |flat U D=>
    have:=QlZ (A:=A) (s:=s) i g f U
    rcases z with⟨rfl,rfl⟩|⟨_,rfl,rfl⟩|⟨_,rfl,rfl⟩|⟨_,rfl,rfl⟩<;>rcases D with⟨rfl,rfl⟩|⟨_,rfl,rfl⟩|⟨_,rfl,rfl⟩|⟨_,rfl,rfl⟩<;>(unfold eqW;exact this)
   |lst e q=>
    subst e;cases g;obtain⟨d,p⟩:=w q
    rcases z with⟨rfl,rfl⟩|⟨_,rfl,rfl⟩|⟨_,rfl,rfl⟩|⟨_,rfl,rfl⟩
    ·cases i;unfold eqW;exact EqAt.none_list p c
    ·cases i;unfold eqW;exact EqAt.bool_list _ p c
    ·obtain⟨t,rfl⟩:=i;unfold eqW;exact EqAt.int_list _ t p c
    ·obtain⟨t,rfl⟩:=i;unfold eqW;exact EqAt.str_list _ t p c
   |tup e q=>
    subst e;cases g;obtain⟨d,p⟩:=v q
    rcases z with⟨rfl,rfl⟩|⟨_,rfl,rfl⟩|⟨_,rfl,rfl⟩|⟨_,rfl,rfl⟩
    ·cases i;unfold eqW;exact EqAt.none_tuple p c
    ·cases i;unfold eqW;exact EqAt.bool_tuple _ p c
    ·obtain⟨t,rfl⟩:=i;unfold eqW;exact EqAt.int_tuple _ t p c
    ·obtain⟨t,rfl⟩:=i;unfold eqW;exact EqAt.str_tuple _ t p c
  | @lst C _ _ _ e q r m=>
   subst e;cases i;obtain⟨d,p⟩:=w q;have T:=Kp o F x;cases T with
   |flat U D=>
    rcases D with⟨rfl,rfl⟩|⟨_,rfl,rfl⟩|⟨_,rfl,rfl⟩|⟨_,rfl,rfl⟩
    ·cases g;unfold eqW;exact EqAt.list_none p c
    ·cases g;unfold eqW;exact EqAt.list_bool _ p c
    ·obtain⟨t,rfl⟩:=g;unfold eqW;exact EqAt.list_int _ t p c
    ·obtain⟨t,rfl⟩:=g;unfold eqW;exact EqAt.list_str _ t p c
   |@lst B _ _ _ y u P S=>
    subst y;cases g
    by_cases j:C=B
    ·subst j;have:=Y7 I o (n+1) E l _ _ _ O F Y x;rw[this,GF (n+1) l _ x];exact EqAt.same _
    ·unfold eqW;exact EqAt.of_refs j (Qb7 I c ih q u r P m S)
   |tup y u=>
    subst y;cases g;obtain⟨G,Q⟩:=v u;unfold eqW;exact EqAt.list_tuple p Q c
  | @tup C _ _ _ e q r m=>
   subst e;cases i;obtain⟨d,p⟩:=v q;have T:=Kp o F x;cases T with
   |flat U D=>
    rcases D with⟨rfl,rfl⟩|⟨_,rfl,rfl⟩|⟨_,rfl,rfl⟩|⟨_,rfl,rfl⟩
    ·cases g;unfold eqW;exact EqAt.tuple_none p c
    ·cases g;unfold eqW;exact EqAt.tuple_bool _ p c
    ·obtain⟨t,rfl⟩:=g;unfold eqW;exact EqAt.tuple_int _ t p c
    ·obtain⟨t,rfl⟩:=g;unfold eqW;exact EqAt.tuple_str _ t p c
   |lst y u=>
    subst y;cases g;obtain⟨G,Q⟩:=w u;unfold eqW;exact EqAt.tuple_list p Q c
   |@tup B _ _ _ y u P S=>
    subst y;cases g
    by_cases j:C=B
    ·subst j;have:=Y7 I o (n+1) E l _ _ _ O F Y x;rw[this,GF (n+1) l _ x];exact EqAt.same _
    ·unfold eqW;exact EqAt.of_refs j (Qe0 I c ih q u r P m S)
end
end Mi
namespace Mi
open L2 PySem.SeqAt
section
variable{X:Cx}{pins:List (Addr×Obj)}{σ:L2.St}{H:Hp}{s:Shared}{R:Rn}{h:MH}
theorem QcN(I:Inv X pins σ H s)(hu:A.units<cLine)(C:∀i g v1 c m l a b,Rw X.K R i v1->Rw X.K R g c->RelV v1 m->RelV c l->drf h n i=some a->drf h n g=some b->EqAt A.in1 s m l (eqW a b))
  {ad x:Addr} (B:SqL X.K H ad xs) (z:SqL X.K H x y) (p:Rws X.K R e xs) (o:Rws X.K R d y) (u:Zl (drf h n) e=some as) (t:Zl (drf h n) d=some bs):RcNeAt A s (.ref ad) (.ref x) (!XG as bs):=by
 obtain⟨f,v1,r,_⟩:=I.list B;obtain⟨v,c,q,_⟩:=I.list z;have N:=p.length;have M:=v1.length;have L:=o.length;have J:=c.length;have G:=(QE u).1;have F:=(QE t).1
 by_cases w:as.length=bs.length
 ·rw[Yn w];have:=RcNeAt.lists (A:=A) r.isList q.isList (by rw[Nq,Nq];lia) hu (fun j E D=>Ki C p o v1 c u t j E D);rw[Nq]at this;rw[show as.length=f.length by lia];exact this
 ·rw[Yk w];exact RcNeAt.lists_lengths r.isList q.isList (by rw[Nq,Nq];simp;lia) hu
theorem QeM(I:Inv X pins σ H s)(hu:A.units<cLine)(C:∀m l v1 e p o a b,Rw X.K R m v1->Rw X.K R l e->RelV v1 p->RelV e o->drf h n m=some a->drf h n l=some b->EqAt A.in1 s p o (eqW a b))
  {ad i:Addr} (y:SqT X.K H ad xs) (x:SqT X.K H i w) (r:Rws X.K R g xs) (q:Rws X.K R f w) (u:Zl (drf h n) g=some as) (t:Zl (drf h n) f=some bs):RcNeAt A s (.ref ad) (.ref i) (!XG as bs):=by
 obtain⟨d,v1,B,_⟩:=I.tuple y;obtain⟨c,e,z,_⟩:=I.tuple x;have N:=r.length;have M:=v1.length;have L:=q.length;have J:=e.length;have G:=(QE u).1;have F:=(QE t).1;have:=RcNeAt.tuples (A:=A) (show s.heap.IsTuple ad d.toArray from B) (show s.heap.IsTuple i c.toArray from z) hu (fun j E D=>Ki C r q v1 e u t j E D);rw[Nq,Nq]at this
 by_cases v:as.length=bs.length
 ·rw[Yn v];rw[show min d.length c.length=as.length by lia,show(d.length==c.length)=true by simp;omega,Fi]at this;exact this
 ·rw[Yk v];rw[show(d.length==c.length)=false by simp;omega,D4]at this;exact this
theorem Qmi(I:Inv X pins σ H s)(x:Rh X.K R h H)(n:Nat)(A:Around)(hu:A.units+n<cLine)(N M:W)(v1 O:V)(Q P:Value)(a b:W)(Z:Rw X.K R N v1)(C:Rw X.K R M O)(j:RelV v1 Q)(c:RelV O P)(U:drf h n N=some a)(J:drf h n M=some b):RcAt A s Q P (eqW a b):=by
 cases n with
 |zero=>cases U
 | succ n=>
  have d:A.units<cLine:=by exact Nh (Nv _ _) hu
  have S:=QbV I x n A.in1 (by show A.units+1+n<cLine;lia)
  have u:∀{ad:Addr} {B:List V},SqL X.K H ad B->∃i:Array Value,s.heap.IsList ad i:=fun q=>by
   obtain⟨i,_,p,_⟩:=I.list q;exact⟨_,p.isList⟩
  have o:∀{ad:Addr} {B:List V},SqT X.K H ad B->∃i:Array Value,s.heap.IsTuple ad i:=fun q=>by
   obtain⟨i,_,p,_⟩:=I.tuple q;exact⟨_,p⟩
  cases Kp x Z U with
  | flat f z=>
   cases Kp x C J with
   | flat T w=>
    rcases z with⟨rfl,rfl⟩|⟨_,rfl,rfl⟩|⟨_,rfl,rfl⟩|⟨_,rfl,rfl⟩<;>rcases w with⟨rfl,rfl⟩|⟨_,rfl,rfl⟩|⟨_,rfl,rfl⟩|⟨_,rfl,rfl⟩<;>first|(obtain⟨Y,rfl⟩:=j)|cases j
    ·first|(obtain⟨g,rfl⟩:=c)|cases c
     unfold eqW;exact RcAt.none_none
    ·first|(obtain⟨g,rfl⟩:=c)|cases c
     unfold eqW;exact RcAt.none_bool _
    ·first|(obtain⟨g,rfl⟩:=c)|cases c
     unfold eqW;exact RcAt.none_int _ _
    ·first|(obtain⟨g,rfl⟩:=c)|cases c
     unfold eqW;exact RcAt.none_str _ _
    ·first|(obtain⟨g,rfl⟩:=c)|cases c
     unfold eqW;exact RcAt.bool_none _
    ·first|(obtain⟨g,rfl⟩:=c)|cases c
     unfold eqW;exact RcAt.bool_bool _ _
    ·first|(obtain⟨g,rfl⟩:=c)|cases c
     unfold eqW;exact RcAt.bool_int _ _ _
    ·first|(obtain⟨g,rfl⟩:=c)|cases c
     unfold eqW;exact RcAt.bool_str _ _ _
    ·first|(obtain⟨g,rfl⟩:=c)|cases c
     unfold eqW;exact RcAt.int_none _ _
    ·first|(obtain⟨g,rfl⟩:=c)|cases c
     unfold eqW;exact RcAt.int_bool _ _ _
    ·first|(obtain⟨g,rfl⟩:=c)|cases c
     unfold eqW;exact RcAt.int_int _ _ _ _
    ·first|(obtain⟨g,rfl⟩:=c)|cases c
     unfold eqW;exact RcAt.int_str _ _ _ _
    ·first|(obtain⟨g,rfl⟩:=c)|cases c
     unfold eqW;exact RcAt.str_none _ _
    ·first|(obtain⟨g,rfl⟩:=c)|cases c
     unfold eqW;exact RcAt.str_bool _ _ _
    ·first|(obtain⟨g,rfl⟩:=c)|cases c
     unfold eqW;exact RcAt.str_int _ _ _ _
    ·first|(obtain⟨g,rfl⟩:=c)|cases c
     unfold eqW;exact RcAt.str_str _ _ _ _
   |lst e q=>
    subst e;cases c;obtain⟨i,p⟩:=u q
    rcases z with⟨rfl,rfl⟩|⟨_,rfl,rfl⟩|⟨_,rfl,rfl⟩|⟨_,rfl,rfl⟩
    ·cases j;unfold eqW;exact RcAt.none_list p d
    ·cases j;unfold eqW;exact RcAt.bool_list _ p d
    ·obtain⟨t,rfl⟩:=j;unfold eqW;exact RcAt.int_list _ t p d
    ·obtain⟨t,rfl⟩:=j;unfold eqW;exact RcAt.str_list _ t p d
   |tup e q=>
    subst e;cases c;obtain⟨i,p⟩:=o q
    rcases z with⟨rfl,rfl⟩|⟨_,rfl,rfl⟩|⟨_,rfl,rfl⟩|⟨_,rfl,rfl⟩
    ·cases j;unfold eqW;exact RcAt.none_tuple p d
    ·cases j;unfold eqW;exact RcAt.bool_tuple _ p d
    ·obtain⟨t,rfl⟩:=j;unfold eqW;exact RcAt.int_tuple _ t p d
    ·obtain⟨t,rfl⟩:=j;unfold eqW;exact RcAt.str_tuple _ t p d
  | @lst L _ _ _ e q r m=>
   subst e;cases j;obtain⟨i,p⟩:=u q;have G:=Kp x C J;cases G with
   |flat T w=>
    rcases w with⟨rfl,rfl⟩|⟨_,rfl,rfl⟩|⟨_,rfl,rfl⟩|⟨_,rfl,rfl⟩
    ·cases c;unfold eqW;exact RcAt.list_none p d
    ·cases c;unfold eqW;exact RcAt.list_bool _ p d
    ·obtain⟨t,rfl⟩:=c;unfold eqW;exact RcAt.list_int _ t p d
    ·obtain⟨t,rfl⟩:=c;unfold eqW;exact RcAt.list_str _ t p d
   |tup v l=>
    subst v;cases c;obtain⟨y,E⟩:=o l;unfold eqW;exact RcAt.list_tuple p E d
   |lst v l D F=>
    subst v;cases c;unfold eqW;exact Qb7 I d S q l r D m F
  | @tup L _ _ _ e q r m=>
   subst e;cases j;obtain⟨i,p⟩:=o q;have G:=Kp x C J;cases G with
   |flat T w=>
    rcases w with⟨rfl,rfl⟩|⟨_,rfl,rfl⟩|⟨_,rfl,rfl⟩|⟨_,rfl,rfl⟩
    ·cases c;unfold eqW;exact RcAt.tuple_none p d
    ·cases c;unfold eqW;exact RcAt.tuple_bool _ p d
    ·obtain⟨t,rfl⟩:=c;unfold eqW;exact RcAt.tuple_int _ t p d
    ·obtain⟨t,rfl⟩:=c;unfold eqW;exact RcAt.tuple_str _ t p d
   |lst v l=>
    subst v;cases c;obtain⟨y,E⟩:=u l;unfold eqW;exact RcAt.tuple_list p E d
   |tup v l D F=>
    subst v;cases c;unfold eqW;exact Qe0 I d S q l r D m F
theorem Qgt(I:Inv X pins σ H s)(x:Rh X.K R h H)(n:Nat)(A:Around)(hu:A.units+n<cLine)(N M:W)(v1 O:V)(Q P:Value)(a b:W)(Z:Rw X.K R N v1)(C:Rw X.K R M O)(j:RelV v1 Q)(c:RelV O P)(U:drf h n N=some a)(J:drf h n M=some b):RcNeAt A s Q P (!eqW a b):=by
 cases n with
 |zero=>cases U
 | succ n=>
  have d:A.units<cLine:=by exact Nh (Nv _ _) hu
  have S:=QbV I x n A.in1 (by show A.units+1+n<cLine;omega)
  have u:∀{ad:Addr} {B:List V},SqL X.K H ad B->∃i:Array Value,s.heap.IsList ad i:=fun q=>by
   obtain⟨i,_,p,_⟩:=I.list q;exact⟨_,p.isList⟩
  have o:∀{ad:Addr} {B:List V},SqT X.K H ad B->∃i:Array Value,s.heap.IsTuple ad i:=fun q=>by
   obtain⟨i,_,p,_⟩:=I.tuple q;exact⟨_,p⟩
  cases Kp x Z U with
  | flat f z=>
   cases Kp x C J with
   | flat T w=>
    rcases z with⟨rfl,rfl⟩|⟨_,rfl,rfl⟩|⟨_,rfl,rfl⟩|⟨_,rfl,rfl⟩<;>rcases w with⟨rfl,rfl⟩|⟨_,rfl,rfl⟩|⟨_,rfl,rfl⟩|⟨_,rfl,rfl⟩<;>first|(obtain⟨Y,rfl⟩:=j)|cases j
    ·first|(obtain⟨g,rfl⟩:=c)|cases c
     unfold eqW;exact RcNeAt.none_none
    ·first|(obtain⟨g,rfl⟩:=c)|cases c
     unfold eqW;exact RcNeAt.none_bool _
    ·first|(obtain⟨g,rfl⟩:=c)|cases c
     unfold eqW;exact RcNeAt.none_int _ _
    ·first|(obtain⟨g,rfl⟩:=c)|cases c
     unfold eqW;exact RcNeAt.none_str _ _
    ·first|(obtain⟨g,rfl⟩:=c)|cases c
     unfold eqW;exact RcNeAt.bool_none _
    ·first|(obtain⟨g,rfl⟩:=c)|cases c
     unfold eqW;exact RcNeAt.bool_bool _ _
    ·first|(obtain⟨g,rfl⟩:=c)|cases c
     unfold eqW;exact RcNeAt.bool_int _ _ _
    ·first|(obtain⟨g,rfl⟩:=c)|cases c
     unfold eqW;exact RcNeAt.bool_str _ _ _
    ·first|(obtain⟨g,rfl⟩:=c)|cases c
     unfold eqW;exact RcNeAt.int_none _ _
    ·first|(obtain⟨g,rfl⟩:=c)|cases c
     unfold eqW;exact RcNeAt.int_bool _ _ _
    ·first|(obtain⟨g,rfl⟩:=c)|cases c
     unfold eqW;exact RcNeAt.int_int _ _ _ _
    ·first|(obtain⟨g,rfl⟩:=c)|cases c
     unfold eqW;exact RcNeAt.int_str _ _ _ _
    ·first|(obtain⟨g,rfl⟩:=c)|cases c
     unfold eqW;exact RcNeAt.str_none _ _
    ·first|(obtain⟨g,rfl⟩:=c)|cases c
     unfold eqW;exact RcNeAt.str_bool _ _ _
    ·first|(obtain⟨g,rfl⟩:=c)|cases c
     unfold eqW;exact RcNeAt.str_int _ _ _ _
    ·first|(obtain⟨g,rfl⟩:=c)|cases c
     unfold eqW;exact RcNeAt.str_str _ _ _ _
   |lst e q=>
    subst e;cases c;obtain⟨i,p⟩:=u q
    rcases z with⟨rfl,rfl⟩|⟨_,rfl,rfl⟩|⟨_,rfl,rfl⟩|⟨_,rfl,rfl⟩
    ·cases j;unfold eqW;exact RcNeAt.none_list p d
    ·cases j;unfold eqW;exact RcNeAt.bool_list _ p d
    ·obtain⟨t,rfl⟩:=j;unfold eqW;exact RcNeAt.int_list _ t p d
    ·obtain⟨t,rfl⟩:=j;unfold eqW;exact RcNeAt.str_list _ t p d
   |tup e q=>
    subst e;cases c;obtain⟨i,p⟩:=o q
    rcases z with⟨rfl,rfl⟩|⟨_,rfl,rfl⟩|⟨_,rfl,rfl⟩|⟨_,rfl,rfl⟩
    ·cases j;unfold eqW;exact RcNeAt.none_tuple p d
    ·cases j;unfold eqW;exact RcNeAt.bool_tuple _ p d
    ·obtain⟨t,rfl⟩:=j;unfold eqW;exact RcNeAt.int_tuple _ t p d
    ·obtain⟨t,rfl⟩:=j;unfold eqW;exact RcNeAt.str_tuple _ t p d
  | @lst L _ _ _ e q r m=>
   subst e;cases j;obtain⟨i,p⟩:=u q;have G:=Kp x C J;cases G with
   |flat T w=>
    rcases w with⟨rfl,rfl⟩|⟨_,rfl,rfl⟩|⟨_,rfl,rfl⟩|⟨_,rfl,rfl⟩
    ·cases c;unfold eqW;exact RcNeAt.list_none p d
    ·cases c;unfold eqW;exact RcNeAt.list_bool _ p d
    ·obtain⟨t,rfl⟩:=c;unfold eqW;exact RcNeAt.list_int _ t p d
    ·obtain⟨t,rfl⟩:=c;unfold eqW;exact RcNeAt.list_str _ t p d
   |tup v l=>
    subst v;cases c;obtain⟨y,E⟩:=o l;unfold eqW;exact RcNeAt.list_tuple p E d
   |lst v l D F=>
    subst v;cases c;unfold eqW;exact QcN I d S q l r D m F
  | @tup L _ _ _ e q r m=>
   subst e;cases j;obtain⟨i,p⟩:=o q;have G:=Kp x C J;cases G with
   |flat T w=>
    rcases w with⟨rfl,rfl⟩|⟨_,rfl,rfl⟩|⟨_,rfl,rfl⟩|⟨_,rfl,rfl⟩
    ·cases c;unfold eqW;exact RcNeAt.tuple_none p d
    ·cases c;unfold eqW;exact RcNeAt.tuple_bool _ p d
    ·obtain⟨t,rfl⟩:=c;unfold eqW;exact RcNeAt.tuple_int _ t p d
    ·obtain⟨t,rfl⟩:=c;unfold eqW;exact RcNeAt.tuple_str _ t p d
   |lst v l=>
    subst v;cases c;obtain⟨y,E⟩:=u l;unfold eqW;exact RcNeAt.tuple_list p E d
   |tup v l D F=>
    subst v;cases c;unfold eqW;exact QeM I d S q l r D m F
end
def wEq(a b:W)(h:MH):Option (W×MH):=(drf h 40 a).bind fun x=>(drf h 40 b).map fun y=>(.bl (eqW x y),h)
def wNe(a b:W)(h:MH):Option (W×MH):=(drf h 40 a).bind fun x=>(drf h 40 b).map fun y=>(.bl (!eqW x y),h)
theorem Qk{K:Ng}:OpM K (F2 K f) f:=fun _ _ _ _ q=>q
section
variable{X:Cx}
theorem QhZ(hu:X.A.units+64<cLine):OpR X (compareOp .Eq) (F2 X.K wEq):=by
 intro d s t H x y v u Q I g f q;obtain⟨R,h,a,b,w,z,c,j,i,e,k⟩:=q;obtain⟨r,o,n⟩:=Nc.mp e;obtain⟨p,m,l⟩:=Nd.mp n;cases l;exact Qmi I c 40 X.A (N4 (EC (by decide) _) hu) a b x y v u r p j i g f o m _ _ _ _ ⟨.bl _,H,I,rfl,k R H _ (Ext.refl _) c (Rw.bl _)⟩
theorem QeG(hu:X.A.units+64<cLine):OpR X (compareOp .NotEq) (F2 X.K wNe):=by
 intro d s t H x y v u Q I g f q;obtain⟨R,h,a,b,w,z,c,j,i,e,k⟩:=q;obtain⟨r,o,n⟩:=Nc.mp e;obtain⟨p,m,l⟩:=Nd.mp n;cases l;exact Qgt I c 40 X.A (N4 (EC (by decide) _) hu) a b x y v u r p j i g f o m _ _ _ _ ⟨.bl _,H,I,rfl,k R H _ (Ext.refl _) c (Rw.bl _)⟩
def inW(x:W)(xs:List W):Bool:=xs.any fun y=>eqW y x
def wIn(neg:Bool)(a b:W)(h:MH):Option (W×MH):=match b with
 |.tup d=>(drf h 40 a).bind fun x=>(Zl (drf h 40) d).map fun c=>(.bl (if neg then !inW x c else inW x c),h)
 |b=>(lsW h b).bind fun d=>(drf h 40 a).bind fun x=>(Zl (drf h 40) d).map fun c=>(.bl (if neg then !inW x c else inW x c),h)
open Classical in
def Qde(K:Ng)(R:Rn)(h:MH)(x:W)(u:Value):Bool:=decide (∃w v a,Rw K R w v/\RelV v u/\drf h 40 w=some a/\eqW a x=true)
open Classical in
theorem Qbg(I:Inv X c σ H s)(i:Rh X.K R h H)(r:Rw X.K R w v)(t:RelV v u)(e:drf h 40 w=some a):Qde X.K R h x u=eqW a x:=by
 unfold Qde
 by_cases q:eqW a x=true
 ·rw[q];exact decide_eq_true ⟨w,v,a,r,t,e,q⟩
 ·have b:eqW a x=false:=by simpa using q
  rw[b];refine decide_eq_false fun d=>?_;obtain⟨f,n,m,j,g,l,z⟩:=d;have:=t.inj g;subst this;rw[Y7 I i 40 w f v a m r j e l,z]at b;cases b
theorem QaU(I:Inv X b σ H s)(a:Rh X.K R h H):∀{ws as:List W} {xs:List V} {us:List Value},Rws X.K R ws xs->Vals xs us->Zl (drf h 40) ws=some as->us.any (Qde X.K R h x)=inW x as
 |[],_,_,_,r,t,m=>by
  rw[Rws.nil_iff]at r;subst r;cases t;cases m;rfl
 | w::ws,_,_,_,r,t,m=>by
  rw[Rws.cons_iff]at r;obtain⟨v,d,rfl,i,g⟩:=r;cases t with
  |cons f e=>
   obtain⟨y,o,n⟩:=Nc.mp m;obtain⟨p,l,j⟩:=Nd.mp n;subst j;have c:=QaU I a (x:=x) g e l;unfold inW at c ⊢;rw[E6,E6,Qbg I a i f o,c]
theorem KT(I:Inv X g σ H s)(f:Rh X.K R h H)(hu:A.units+40<cLine)(p:Rw X.K R a v)(o:RelV v u)(D:drf h 40 a=some x) 
  (r:Rws X.K R ws xs) (t:Vals xs us) (m:Zl (drf h 40) ws=some as):∀y∈us,EqAt A s y u (Qde X.K R h x y):=by
 intro y B;obtain⟨i,j,e⟩:=EU.mp B;have z:=r.length;have q:=t.length;obtain⟨w,hw⟩:∃w,ws[i]?=some w:=⟨ws[i]'(Nk (Nk j (Nt q.symm)) (Nt z.symm)),Nl _⟩
 obtain⟨n,C,rv⟩:=r.get hw;obtain⟨E,c,d⟩:=t.get C;rw[Nl j,e]at c;cases c;obtain⟨b,F,l⟩:=(QE m).2 i w hw;rw[Qbg I f rv d l];exact QbV I f 40 A hu w a n v y u b x rv p d o l D
theorem Qbs(hu:X.A.units+64<cLine):OpR X (compareOp .In) (F2 X.K (wIn false)):=by
 intro p s S H x y v u Q I N M q;obtain⟨R,h,a,b,w,L,l,P,O,e,k⟩:=q;have B:X.A.in1.units+40<cLine:=by show X.A.units+1+40<cLine;lia
 have main:∀g,((drf h 40 a).bind fun x=>(Zl (drf h 40) g).map fun c=>((W.bl (if false then !inW x c else inW x c),h):W×MH))=some (w,L)->∃d c,drf h 40 a=some d/\Zl (drf h 40) g=some c/\w=.bl (inW d c)/\L=h:=fun g e=>by
  obtain⟨d,j,U⟩:=Nc.mp e;obtain⟨c,i,T⟩:=Nd.mp U;cases T;exact⟨d,c,j,i,rfl,rfl⟩
 have fin:∀{d:W} {c E:List W} {m:List V} {f:List Value},Rws X.K R E m->Vals m f->drf h 40 a=some d->Zl (drf h 40) E=some c->w=.bl (inW d c)->L=h->EP X p S Q (.bool (f.toArray.any (Qde X.K R h d))) s:=fun {d c E m f} r t Z em C D=>by
  subst C D;rw[Yah,QaU I l r t em];exact⟨.bl _,H,I,rfl,k R H _ (Ext.refl _) l (Rw.bl _)⟩
 unfold wIn at e;split at e
 ·rename_i g;obtain⟨d,c,j,i,C,D⟩:=main g e;obtain⟨ad,m,rfl,F,o⟩:=l.tupAt O;cases M;obtain⟨f,n,G,_⟩:=I.tuple F;exact in_tupleAt (Qde X.K R h d) (show s.heap.IsTuple ad f.toArray from G) (fun z J=>KT I l B P N j o n i z (by simpa using J)) (fin o n j i C D)
 ·obtain⟨g,Y,e⟩:=Nc.mp e;obtain⟨d,c,j,i,C,D⟩:=main g e;obtain⟨ad,m,rfl,F,o⟩:=l.lsAt O Y;cases M;obtain⟨f,n,G,_⟩:=I.list F;exact in_listAt (Qde X.K R h d) G.isList (fun z J=>KT I l B P N j o n i z (by simpa using J)) (fin o n j i C D)
theorem KW(hu:X.A.units+64<cLine):OpR X (compareOp .NotIn) (F2 X.K (wIn true)):=by
 intro p s S H x y v u Q I N M q;obtain⟨R,h,a,b,w,L,l,P,O,e,k⟩:=q;have B:X.A.in1.units+40<cLine:=by show X.A.units+1+40<cLine;omega
 have main:∀g,((drf h 40 a).bind fun x=>(Zl (drf h 40) g).map fun c=>((W.bl (if true then !inW x c else inW x c),h):W×MH))=some (w,L)->∃d c,drf h 40 a=some d/\Zl (drf h 40) g=some c/\w=.bl (!inW d c)/\L=h:=fun g e=>by
  obtain⟨d,j,U⟩:=Nc.mp e;obtain⟨c,i,T⟩:=Nd.mp U;cases T;exact⟨d,c,j,i,rfl,rfl⟩
 have fin:∀{d:W} {c E:List W} {m:List V} {f:List Value},Rws X.K R E m->Vals m f->drf h 40 a=some d->Zl (drf h 40) E=some c->w=.bl (!inW d c)->L=h->EP X p S Q (.bool (!f.toArray.any (Qde X.K R h d))) s:=fun {d c E m f} r t Z em C D=>by
  subst C D;rw[Yah,QaU I l r t em];exact⟨.bl _,H,I,rfl,k R H _ (Ext.refl _) l (Rw.bl _)⟩
 unfold wIn at e;split at e
 ·rename_i g;obtain⟨d,c,j,i,C,D⟩:=main g e;obtain⟨ad,m,rfl,F,o⟩:=l.tupAt O;cases M;obtain⟨f,n,G,_⟩:=I.tuple F;exact notIn_tupleAt (Qde X.K R h d) (show s.heap.IsTuple ad f.toArray from G) (fun z J=>KT I l B P N j o n i z (by simpa using J)) (fin o n j i C D)
 ·obtain⟨g,Y,e⟩:=Nc.mp e;obtain⟨d,c,j,i,C,D⟩:=main g e;obtain⟨ad,m,rfl,F,o⟩:=l.lsAt O Y;cases M;obtain⟨f,n,G,_⟩:=I.list F;exact notIn_listAt (Qde X.K R h d) G.isList (fun z J=>KT I l B P N j o n i z (by simpa using J)) (fin o n j i C D)
end
def Zj(a b:W)(h:MH):Option (W×MH):=match a,b with
 |.int i,.int j=>some (.int (i+j),h)
 |.str x,.str y=>if x.length+y.length<=sizeLine then some (.str (x++y),h)else none
 |.tup d,.tup c=>if d.length+c.length<=sizeLine then some (.tup (d++c),h)else none
 |a,b=>(loW h a).bind fun d=>(loW h b).bind fun c=>if d.length+c.length<=sizeLine then some (.lst (d++c),h)else none
noncomputable def QbS(a b:W)(h:MH):Option (W×MH):=match a,b with|.int i,.int j=>some (.int (i-j),h)|_,_=>none
noncomputable def QkE(a b:W)(h:MH):Option (W×MH):=match a,b with|.int i,.int j=>if(-(2^64)<i/\i<2^64)\/(-(2^64)<j/\j<2^64)then some (.int (i*j),h)else none|_,_=>none
noncomputable def Qjq(a b:W)(h:MH):Option (W×MH):=match a,b with|.int i,.int j=>if 0<j/\j<1073741824 then some (.int (i/j),h)else none|_,_=>none
noncomputable def Qdz(a b:W)(h:MH):Option (W×MH):=match a,b with|.int i,.int j=>if 0<j then some (.int (i%j),h)else none|_,_=>none
noncomputable def Qkl(a b:W)(h:MH):Option (W×MH):=match a,b with|.int i,.int j=>if 0<=j/\j<=1000000/\i.natAbs<2^64 then some (.int (i^j.toNat),h)else none|_,_=>none
noncomputable def wLt(a b:W)(h:MH):Option (W×MH):=match a,b with|.int i,.int j=>some (.bl (decide (i<j)),h)|.str x,.str y=>some (.bl (decide (x.cps.toList<y.cps.toList)),h)|_,_=>none
noncomputable def wLe(a b:W)(h:MH):Option (W×MH):=match a,b with|.int i,.int j=>some (.bl (decide (i<=j)),h)|.str x,.str y=>some (.bl (!decide (y.cps.toList<x.cps.toList)),h)|_,_=>none
noncomputable def wGt(a b:W)(h:MH):Option (W×MH):=match a,b with|.int i,.int j=>some (.bl (decide (j<i)),h)|_,_=>none
noncomputable def wGe(a b:W)(h:MH):Option (W×MH):=match a,b with|.int i,.int j=>some (.bl (decide (j<=i)),h)|_,_=>none
noncomputable def KS:W->Bool
 |.non=>true
 |_=>false
def wIs(a b:W)(h:MH):Option (W×MH):=match b with
 |.non=>some (.bl (KS a),h)
 |.bl y=>match a with|.bl x=>some (.bl (x==y),h)|_=>none
 |_=>none
def Qbm(a b:W)(h:MH):Option (W×MH):=match b with
 |.non=>some (.bl (!KS a),h)
 |_=>none
theorem QhD{K:Ng}(r:Rw K R a v):decide (v=.non)=KS a:=by
 cases a with
 |non=>rw[r.non_eq];rfl
 |bl _=>rw[r.bl_eq];rfl
 |int _=>rw[r.int_eq];rfl
 |str _=>rw[r.str_eq];rfl
 |ty _=>rw[r.ty_eq];rfl
 |tup _=>unfold Rw at r;obtain⟨_,_,rfl,_⟩:=r;rfl
 |lst _=>unfold Rw at r;obtain⟨_,_,rfl,_⟩:=r;rfl
 |frz _=>unfold Rw at r;obtain⟨_,_,rfl,_⟩:=r;rfl
 |ref _=>unfold Rw at r;obtain⟨_,rfl⟩:=r;rfl
section
variable{X:Cx}
def Qoj(K:Ng):R2:=fun x y H Q=>∃a b c d,x=.ref a/\y=.ref b/\SqT K H a c/\SqT K H b d/\c.length+d.length<=sizeLine /\
 (c=[]->Q (.ref b) H)/\(c≠[]->d=[]->Q (.ref a) H)/\(c≠[]->d≠[]->∀p,H p=none->Q (.ref p) (upd H p (.tup (c++d))))
theorem op_catA:OpR X (binaryOp .Add) (Qoj X.K):=by
 intro c s A H x y v u Q I p o h;obtain⟨a,b,m,B,rfl,rfl,w,t,O,G,F,E⟩:=h
 by_cases i:m=[]
 ·subst i;cases p;cases o;obtain⟨N,D,L,_⟩:=I.tuple w;obtain⟨d,P,J,_⟩:=I.tuple t;cases D;obtain⟨⟨cls,dd,data,C⟩,q,r,n,hd⟩:=id L;obtain⟨⟨z,l,data2,j⟩,e,g,M,f⟩:=id J;simp only at r hd g f;subst r hd g f
  exact OP ⟨_,q,rfl⟩ ⟨_,e,rfl⟩ Lz Ow F0 FP (FB _ _)
   (tuple_addW0 a b #[] d.toArray n M dd l C j (by simp)) ⟨q,e,⟨.ref b,H,I,rfl,G rfl⟩⟩
 ·exact QjJ c s A H _ _ v u Q I p o ⟨a,b,m,B,rfl,rfl,w,t,i,O,F i,E i⟩
theorem Qdr:OpR X (compareOp .LtE) (fun x y H Q=>∃i j,x=.str i/\y=.str j/\Q (.bl (!decide (j.cps.toList<i.cps.toList))) H):=by
 intro a s d H x y v u Q I c b h;obtain⟨i,j,rfl,rfl,q⟩:=h;obtain⟨t,rfl⟩:=c;obtain⟨e,rfl⟩:=b;exact PySem.P.le_str ⟨.bl _,H,I,rfl,q⟩
theorem QkZ:OpR X (compareOp .Is) (fun x y H Q=>∃i j,x=.bl i/\y=.bl j/\Q (.bl (i==j)) H):=by
 intro a s d H x y v u Q I c b h;obtain⟨i,j,rfl,rfl,q⟩:=h;cases c;cases b;exact is_bool ⟨.bl _,H,I,rfl,q⟩
theorem QjR:OpR X (binaryOp .Add) (F2 X.K Zj):=by
 intro m s O H x y v u Q I S P q;refine(op_add.or (op_add_str.or (op_catA.or QlU))) m s O H x y v u Q I S P ?_;obtain⟨R,h,a,b,w,T,c,i,g,e,k⟩:=q;unfold Zj at e;split at e
 ·cases e;exact .inl ⟨_,_,i.int_eq,g.int_eq,k R H _ (Ext.refl _) c (Rw.int _)⟩
 ·split at e
  ·rename_i E;cases e;exact .inr (.inl ⟨_,_,i.str_eq,g.str_eq,E,k R H _ (Ext.refl _) c (Rw.str _)⟩)
  ·cases e
 ·split at e
  ·rename_i L J E;cases e;obtain⟨ad,t,o,C,l⟩:=c.tupAt i;obtain⟨F,r,n,B,j⟩:=c.tupAt g;have N:=l.length;have M:=j.length;refine .inr (.inr (.inl ⟨ad,F,t,r,o,n,C,B,by lia,fun z=>?_,fun _ z=>?_,fun _ _ p D=>?_⟩))
   ·subst z;have:L=[]:=Ec.mp N;subst this;exact k R H _ (Ext.refl _) c (n▸g)
   ·subst z;have:J=[]:=Ec.mp M;subst this;rw[Dv]at k;exact k R H _ (Ext.refl _) c (o▸i)
   ·obtain⟨G,A,f,d⟩:=c.tup D (Rws.append l j);exact k G _ _ A f d
  ·cases e
 ·obtain⟨L,o,e⟩:=Nc.mp e;obtain⟨J,n,e⟩:=Nc.mp e;split at e
  ·rename_i E;cases e;obtain⟨ad,t,f1,C,l⟩:=c.loAt i o;obtain⟨F,r,f2,B,j⟩:=c.loAt g n;have N:=l.length;have M:=j.length;refine .inr (.inr (.inr ⟨ad,F,t,r,f1,f2,C,B,by omega,fun p D=>?_⟩));obtain⟨G,A,f,d⟩:=c.lstI D (Rws.append l j);exact k G _ _ A f d
  ·cases e
theorem Xa:OpR X (binaryOp .Sub) (F2 X.K QbS):=by
 intro c s d H x y v u Q I g f q;refine Qmz c s d H x y v u Q I g f ?_;obtain⟨R,h,a,b,w,m,i,l,j,e,k⟩:=q;unfold QbS at e;split at e
 ·cases e;exact⟨_,_,l.int_eq,j.int_eq,k R H _ (Ext.refl _) i (Rw.int _)⟩
 ·cases e
theorem QjT:OpR X (binaryOp .Mult) (F2 X.K QkE):=by
 intro c s d H x y v u Q I g f q;refine QmC c s d H x y v u Q I g f ?_;obtain⟨R,h,a,b,w,n,i,l,j,e,k⟩:=q;unfold QkE at e;split at e
 ·split at e
  ·rename_i m;cases e;exact⟨_,_,l.int_eq,j.int_eq,m,k R H _ (Ext.refl _) i (Rw.int _)⟩
  ·cases e
 ·cases e
theorem Qfd:OpR X (binaryOp .FloorDiv) (F2 X.K Qjq):=by
 intro c s d H x y v u Q I g f q;refine Qkb c s d H x y v u Q I g f ?_;obtain⟨R,h,a,b,w,n,i,l,j,e,k⟩:=q;unfold Qjq at e;split at e
 ·split at e
  ·rename_i m;cases e;exact⟨_,_,l.int_eq,j.int_eq,m,k R H _ (Ext.refl _) i (Rw.int _)⟩
  ·cases e
 ·cases e
theorem Yt:OpR X (binaryOp .Mod) (F2 X.K Qdz):=by
 intro c s d H x y v u Q I g f q;refine Qmj c s d H x y v u Q I g f ?_;obtain⟨R,h,a,b,w,n,i,l,j,e,k⟩:=q;unfold Qdz at e;split at e
 ·split at e
  ·rename_i m;cases e;exact⟨_,_,l.int_eq,j.int_eq,m,k R H _ (Ext.refl _) i (Rw.int _)⟩
  ·cases e
 ·cases e
theorem Qdq:OpR X (binaryOp .Pow) (F2 X.K Qkl):=by
 intro c s d H x y v u Q I g f q;refine QkK c s d H x y v u Q I g f ?_;obtain⟨R,h,a,b,w,n,i,l,j,e,k⟩:=q;unfold Qkl at e;split at e
 ·split at e
  ·rename_i m;cases e;exact⟨_,_,l.int_eq,j.int_eq,m,k R H _ (Ext.refl _) i (Rw.int _)⟩
  ·cases e
 ·cases e
theorem XO:OpR X (compareOp .Lt) (F2 X.K wLt):=by
 intro c s i H x y v u Q I l j q;refine(op_lt.or Qev) c s i H x y v u Q I l j ?_;obtain⟨R,h,a,b,w,m,d,g,f,e,k⟩:=q;unfold wLt at e;split at e
 ·cases e;exact .inl ⟨_,_,g.int_eq,f.int_eq,k R H _ (Ext.refl _) d (Rw.bl _)⟩
 ·cases e;exact .inr ⟨_,_,g.str_eq,f.str_eq,k R H _ (Ext.refl _) d (Rw.bl _)⟩
 ·cases e
theorem Qic:OpR X (compareOp .LtE) (F2 X.K wLe):=by
 intro c s i H x y v u Q I l j q;refine(op_le.or Qdr) c s i H x y v u Q I l j ?_;obtain⟨R,h,a,b,w,m,d,g,f,e,k⟩:=q;unfold wLe at e;split at e
 ·cases e;exact .inl ⟨_,_,g.int_eq,f.int_eq,k R H _ (Ext.refl _) d (Rw.bl _)⟩
 ·cases e;exact .inr ⟨_,_,g.str_eq,f.str_eq,k R H _ (Ext.refl _) d (Rw.bl _)⟩
 ·cases e
theorem XR:OpR X (compareOp .Gt) (F2 X.K wGt):=by
 intro c s d H x y v u Q I g f q;refine QnI c s d H x y v u Q I g f ?_;obtain⟨R,h,a,b,w,m,i,l,j,e,k⟩:=q;unfold wGt at e;split at e
 ·cases e;exact⟨_,_,l.int_eq,j.int_eq,k R H _ (Ext.refl _) i (Rw.bl _)⟩
 ·cases e
theorem Qmd:OpR X (compareOp .GtE) (F2 X.K wGe):=by
 intro c s d H x y v u Q I g f q;refine Qoa c s d H x y v u Q I g f ?_;obtain⟨R,h,a,b,w,m,i,l,j,e,k⟩:=q;unfold wGe at e;split at e
 ·cases e;exact⟨_,_,l.int_eq,j.int_eq,k R H _ (Ext.refl _) i (Rw.bl _)⟩
 ·cases e
theorem Qh4:OpR X (compareOp .Is) (F2 X.K wIs):=by
 intro c s i H x y v u Q I l j q;refine(op_isN.or QkZ) c s i H x y v u Q I l j ?_;obtain⟨R,h,a,b,w,m,d,g,f,e,k⟩:=q;unfold wIs at e;split at e
 ·cases e;exact .inl ⟨f.non_eq,by rw[QhD g];exact k R H _ (Ext.refl _) d (Rw.bl _)⟩
 ·split at e
  ·cases e;exact .inr ⟨_,_,g.bl_eq,f.bl_eq,k R H _ (Ext.refl _) d (Rw.bl _)⟩
  ·cases e
 ·cases e
theorem QeY:OpR X (compareOp .IsNot) (F2 X.K Qbm):=by
 intro c s d H x y v u Q I g f q;refine Qkd c s d H x y v u Q I g f ?_;obtain⟨R,h,a,b,w,m,i,l,j,e,k⟩:=q;unfold Qbm at e;split at e
 ·cases e;exact⟨j.non_eq,by rw[QhD l];exact k R H _ (Ext.refl _) i (Rw.bl _)⟩
 ·cases e
noncomputable def KN(a:W)(h:MH):Option (W×MH):=match a with|.int i=>some (.int (-i),h)|_=>none
theorem Zo(f:PM X a d):PM X (.UnaryOp .USub a pos) (mUn KN d):=Q5 (Qoz QlW f) fun i H Q q=>Xl (un1 q) <|by
 rintro x g ⟨R,h,a,w,j,b,c,e,k⟩
 unfold KN at e;split at e
 ·cases e;exact⟨_,c.int_eq,k R g _ (Ext.refl _) b (Rw.int _)⟩
 ·cases e
def wIx(a b:W)(h:MH):Option (W×MH):=match b with
 |.int i=>match a with
  |.tup d=>(atI d i).map fun w=>(w,h)
  |.str x=>if x.length<=sizeLine then(atI x.cps.toList i).map fun c=>(.str ⟨#[c]⟩,h)else none
  |a=>(lsW h a).bind fun d=>(atI d i).map fun w=>(w,h)
 |_=>none
theorem Qea{K:Ng}(r:Rws K R ws xs)(e:atI ws i=some w):∃v,atI xs i=some v/\Rw K R w v:=by
 unfold atI at e ⊢;rw[<-r.length];obtain⟨j,d,c⟩:=Nc.mp e;obtain⟨v,b,a⟩:=r.get c;exact⟨v,by rw[d];exact b,a⟩
theorem Qi9:IxR X (F2 X.K wIx):=by
 intro value slice f s z H x y v u Q I D C q E;refine Qmn value slice f s z H x y v u Q I D C ?_ E;obtain⟨R,h,a,b,w,J,d,n,m,e,k⟩:=q;unfold wIx at e;split at e
 ·rename_i i;split at e
  ·rename_i A;obtain⟨B,j,g⟩:=Nd.mp e;cases g;obtain⟨ad,l,rfl,r,p⟩:=d.tupAt n;obtain⟨v1,t,o⟩:=Qea p j;exact .inr (.inl ⟨ad,l,i,v1,rfl,m.int_eq,r,t,k R H _ (Ext.refl _) d o⟩)
  ·split at e
   ·rename_i F;obtain⟨c,j,g⟩:=Nd.mp e;cases g;exact .inr (.inr ⟨_,i,c,n.str_eq,m.int_eq,F,j,k R H _ (Ext.refl _) d (Rw.str _)⟩)
   ·cases e
  ·obtain⟨A,G,e⟩:=Nc.mp e;obtain⟨B,j,g⟩:=Nd.mp e;cases g;obtain⟨ad,l,rfl,r,p⟩:=d.lsAt n G;obtain⟨v1,t,o⟩:=Qea p j;exact .inl ⟨ad,l,i,v1,rfl,m.int_eq,r,t,k R H _ (Ext.refl _) d o⟩
 ·cases e
theorem Qn8(i:PM X a f)(h:PM X b e)(g:Qdl b:=by intro _ _;rfl):PM X (.Subscript a b pos) (Qe wIx f e):=
 Q5 (Qna Qi9 i h g) fun _ _ _ q=>Xl (QkM q) fun _ _ d=>Xl d fun _ _ c=>c
def JB(ws:List W)(h:MH):Option (W×MH):=match ws with
 |[.str x]=>if x.length<=sizeLine then some (.int x.length,h)else none
 |[.tup ws]=>some (.int ws.length,h)
 |[a]=>(lsW h a).map fun ws=>(.int ws.length,h)
 |_=>none
theorem QD{K:Ng}:Qj9 K (Fs K f) f:=fun _ _ _ q=>q
theorem W8{K:Ng}(r:Rws K R [a] xs):∃v,xs=[v]/\Rw K R a v:=by
 rw[Rws.cons_iff]at r;obtain⟨v,d,rfl,c,b⟩:=r;rw[Rws.nil_iff]at b;subst b;exact⟨v,rfl,c⟩
theorem Qhm{K:Ng}(r:Rws K R [a,b] xs):∃v u,xs=[v,u]/\Rw K R a v/\Rw K R b u:=by
 rw[Rws.cons_iff]at r;obtain⟨v,f,rfl,e,d⟩:=r;obtain⟨u,rfl,c⟩:=W8 d;exact⟨v,u,rfl,e,c⟩
theorem Qfu:CallR X (.builtin "len") (Fs X.K JB):=by
 intro d s i H a j Q I r q;refine(call_len_seq.or Qap) d s i H a j Q I r ?_;obtain⟨R,h,p,w,t,b,rw,e,k⟩:=q;unfold JB at e;split at e
 ·split at e
  ·rename_i l;cases e;obtain⟨v,rfl,c⟩:=W8 rw;exact .inr ⟨_,by rw[c.str_eq],l,k R H _ (Ext.refl _) b (Rw.int _)⟩
  ·cases e
 ·cases e;obtain⟨v,rfl,c⟩:=W8 rw;obtain⟨ad,a,rfl,g,f⟩:=b.tupAt c;exact .inl ⟨ad,a,rfl,.inr g,by rw[<-f.length];exact k R H _ (Ext.refl _) b (Rw.int _)⟩
 ·obtain⟨o,n,m⟩:=Nd.mp e;cases m;obtain⟨v,rfl,c⟩:=W8 rw;obtain⟨ad,a,rfl,g,f⟩:=b.lsAt c n;exact .inl ⟨ad,a,rfl,.inl g,by rw[<-f.length];exact k R H _ (Ext.refl _) b (Rw.int _)⟩
 ·cases e
def JS(ws:List W)(h:MH):Option (W×MH):=match ws with
 |[.tup ws]=>some (.tup ws,h)
 |[a]=>(lsW h a).map fun ws=>(.tup ws,h)
 |_=>none
def Qa7(ws:List W)(h:MH):Option (W×MH):=match ws with
 |[.tup ws]=>some (.lst ws,h)
 |[a]=>(lsW h a).map fun ws=>(.lst ws,h)
 |_=>none
theorem Qbk:CallR X (.type "tuple") (Fs X.K JS):=by
 intro b s l H a n Q I r q;refine Go b s l H a n Q I r ?_;obtain⟨R,h,z,w,A,c,rw,e,k⟩:=q;unfold JS at e;split at e
 ·cases e;obtain⟨v,rfl,d⟩:=W8 rw;obtain⟨ad,a,rfl,i,j⟩:=c.tupAt d;exact⟨ad,a,rfl,.inr ⟨i,k R H _ (Ext.refl _) c d⟩⟩
 ·obtain⟨y,u,t⟩:=Nd.mp e;cases t;obtain⟨v,rfl,d⟩:=W8 rw;obtain⟨ad,a,rfl,i,j⟩:=c.lsAt d u;refine⟨ad,a,rfl,.inl ⟨i,fun p o=>?_⟩⟩;obtain⟨x,m,g,f⟩:=c.tup o j;exact k x _ _ m g f
 ·cases e
theorem Yv:CallR X (.type "list") (Fs X.K Qa7):=by
 intro d s o H c t Q I r q;refine GR d s o H c t Q I r ?_;obtain⟨R,h,z,w,A,f,rw,e,k⟩:=q;unfold Qa7 at e;split at e
 ·cases e;obtain⟨v,rfl,j⟩:=W8 rw;obtain⟨ad,c,rfl,l,i⟩:=f.tupAt j;refine⟨ad,c,rfl,.inr l,fun p m=>?_⟩;obtain⟨n,g,b,a⟩:=f.lstI m i;exact k n _ _ g b a
 ·obtain⟨y,x,u⟩:=Nd.mp e;cases u;obtain⟨v,rfl,j⟩:=W8 rw;obtain⟨ad,c,rfl,l,i⟩:=f.lsAt j x;refine⟨ad,c,rfl,.inl l,fun p m=>?_⟩;obtain⟨n,g,b,a⟩:=f.lstI m i;exact k n _ _ g b a
 ·cases e
noncomputable def Qks:List W->Option (List Bool)
 |[]=>some []
 |.bl b::r=>(Qks r).map (b::·)
 |_=>none
def Qku(ws:List W)(h:MH):Option (W×MH):=match ws with
 |[a]=>(lsW h a).bind fun ws=>(Qks ws).map fun bs=>(.bl (bs.all id),h)
 |_=>none
theorem Qfv{K:Ng}:∀{ws:List W} {xs:List V} {bs:List Bool},Rws K R ws xs->Qks ws=some bs->xs=bs.map V.bl
 |[],xs,bs,r,e=>by rw[Rws.nil_iff]at r;subst r;cases e;rfl
 |w::ws,xs,bs,r,e=>by
  rw[Rws.cons_iff]at r;obtain⟨v,f,rfl,b,a⟩:=r;cases w<;>simp only[Qks]at e<;>first|cases e|skip
  obtain⟨g,d,c⟩:=Nd.mp e;subst c;rw[b.bl_eq,Qfv a d];rfl
theorem Qca:∀{bs:List Bool} {us:List Value},Vals (bs.map V.bl) us->us=bs.map Value.bool
 |[],us,r=>by cases r;rfl
 |b::bs,us,r=>by
  cases r with
  |cons c a=>cases c;rw[Qca a];rfl
theorem Qbo:∀bs:List Bool,(List.range bs.length).all (fun i=>bs.getD i false)=bs.all id
 |[]=>rfl
 |b::bs=>by rw[NM,LY,Fj,Iz,Fj,<-Qbo bs];rfl
theorem G0(T:X.calm=true):CallR X (.builtin "all") (Fs X.K Qku):=by
 intro y s σ H B us Q I r q;obtain⟨R,h,ws,w,g,t,rw,e,k⟩:=q;unfold Qku at e;split at e
 ·rename_i a;obtain⟨ys,e1,e⟩:=Nc.mp e;obtain⟨bs,Z,m⟩:=Nd.mp e;cases m;obtain⟨v,rfl,G⟩:=W8 rw;obtain⟨ad,B,rfl,J,F⟩:=t.lsAt G e1;obtain⟨u,rfl,E⟩:=KQ r;cases E;obtain⟨L,C,j,hz⟩:=I.list J;have f:=Qfv F Z;subst f;have S:=Qca C;subst S;refine call_all_walk (D0 j.isList ?_)
  have l:ad≠s.heap.objs.size:=fun z=>by
   obtain⟨o,n,Y,_⟩:=j;exact sz Y (Nz _) z
  refine⟨s.heap.objs.size,_,_,_,_,_,fun i=>bs.getD i false,rfl,Om (A:=X.A.in1) (show X.A.in1.handled=none from I.ok.hd T) _ ad l (bs.map Value.bool).toArray,?_,?_,fun g tk P=>?_⟩
  ·exact⟨⟨_,NB _ rfl,rfl,rfl⟩,j.isList.at fun o e=>No _ e⟩
  ·intro i v s' Q' E' M N;have d:(bs.map Value.bool)[i]?=some v:=by simpa using M
   rw[Np]at d;obtain⟨b,f,rfl⟩:=Nd.mp d;refine Di ?_;have:bs.getD i false=b:=by rw[EH,f];rfl
   exact this▸N
  ·have m:(List.range (bs.map Value.bool).toArray.size).all (fun i=>bs.getD i false)=bs.all id:=by
    rw[Nq,Nu];exact Qbo bs
   rw[m];have I0:=I.kept (t':=s.toks) (h':=s.heap.push { cls:=.type "list_iterator",data:=.fields #[.ref ad,.int 0 0] }) fun b o e=>No _ e
   have I':=I0.turned (t':=tk) (h':=g) (it:=s.heap.objs.size) (fun b o f e=>P b o (by simpa using f) e) (I.hok.fresh (Nz _)) (fun z=>Et _ (z▸I.lt:s.heap.objs.size<s.heap.objs.size)) (.inr I.sz) (fun x c e z=>by
    obtain⟨v,o,U,_⟩:=I.cell x c e
    exact sz U (Nz _) z) fun p O z=>sz (I.pin p O).1 (Nz _) z
   exact⟨.bl _,H,I',rfl,k R H _ (Ext.refl _) t (Rw.bl _)⟩
 ·cases e
end
section
variable{prog:Program}{w:World}{A:Around}{E:Value->Shared->Prop}{s:Shared}
theorem KD{lo b:Option Int}(a:IsTup s.heap t items)(i:s.heap.IsSliceOf g vl j .none)(pl:IsPart vl lo)(l:IsPart j b)
  (hw:HT.sIx items.size 0 lo=0/\HT.sIx items.size items.size b=items.size) (h:Q (.ref t) s):wpAny (model prog w) A (getItem (.ref t) (.ref g)) Q E s:=by
 obtain⟨os,c,e,n⟩:=id i;have f:s.TypeIs (.ref g) "slice":=⟨os,c,e⟩
 unfold getItem
 try with_reducible refine N2 ?_
 first|refine Na (Nj ?_)|skip
 refine Na (Ll a.typeIs (by decide) ?_)
 refine Na (Ep (name:=Str.ofString "__getitem__") a.typeIs Er
  (Ej Er a.typeIs OD ?_ (OQ _ _)))
 show wpAny _ _ (Builtin.Tuple.tupleItemsOf (.ref t)>>=_) _ _ s;refine Na (tupleItemsOf_ a ?_);refine Na (DK f ?_);rw[if_pos (by decide)];refine Na (HT.sliceApplied_gen i pl l ?_)
 have d:((((HT.sIx items.size 0 lo:Nat):Int)==0&&(1:Int)==1&&(HT.sIx items.size items.size b-HT.sIx items.size 0 lo)==items.size)=true):=by
  rw[hw.1,hw.2];simp
 show wpAny _ _ (if(((HT.sIx items.size 0 lo:Nat):Int)==0&&(1:Int)==1&&(HT.sIx items.size items.size b-HT.sIx items.size 0 lo)==items.size)=true then _ else _) _ _ s;rw[if_pos d];refine Na (m:=Builtin.Tuple.tupleIsExact _) ?_;unfold Builtin.Tuple.tupleIsExact;refine Na (DK a.typeIs (Nj ?_));rw[if_pos (by decide)];exact Na (Dd (Nj ⟨_,rfl,Nj h⟩))
end
noncomputable def Ux(xs:List a)(lo b:Option Int):List a:=(xs.drop (HT.sIx xs.length 0 lo)).take (HT.sIx xs.length xs.length b-HT.sIx xs.length 0 lo)
def wSl(a:W)(lo c:Option Int)(h:MH):Option (W×MH):=match a with
 |.tup b=>some (.tup (Ux b lo c),h)
 |.str x=>if x.length<=sizeLine then some (.str (Txt.slice x lo c),h)else none
 |a=>(lsW h a).map fun b=>(.lst (Ux b lo c),h)
theorem QdE{K:Ng}{ws:List W}(r:Rws K R ws xs)(lo a:Option Int):Rws K R (Ux ws lo a) (Qg9 xs lo a):=by
 unfold Ux Qg9;rw[r.length];exact(r.drop _).take _
theorem QcG{xs:List b}{lo a:Option Int}(h:HT.sIx xs.length 0 lo=0/\HT.sIx xs.length xs.length a=xs.length):Ux xs lo a=xs:=by
 unfold Ux;rw[h.1,h.2];simp
abbrev MOp:=MSt->MH->Option (Option Int×MH)
noncomputable def tIO(K:Ng)(m:MOp):TO:=fun e H Q=>∃R a h o b,Rh K R h H/\Rst K R a e/\m a h=some (o,b)/\∀c d,Ext R c->Rh K c b d->Q o d
def PMO(X:Cx)(e:Option Expr)(m:MOp):Prop:=PO X e (tIO X.K m)
noncomputable def Vk:MOp:=fun _ h=>some (none,h)
noncomputable def Ju(m:ME):MOp:=fun a h=>(m a h).bind fun p=>match p.1 with|.int i=>some (some i,p.2)|_=>none
def mSl(d:ME)(b c:MOp):ME:=fun a h=>(d a h).bind fun p=>(b a p.2).bind fun q=>(c a q.2).bind fun r=>wSl p.1 q.1 r.1 r.2
section
variable{X:Cx}
theorem sl_tupA:SlR X (fun x lo b H Q=>∃a xs,x=.ref a/\SqT X.K H a xs/\((HT.sIx xs.length 0 lo=0/\HT.sIx xs.length xs.length b=xs.length)->Q (.ref a) H) /\
  (¬(HT.sIx xs.length 0 lo=0/\HT.sIx xs.length xs.length b=xs.length)->∀p,H p=none->Q (.ref p) (upd H p (.tup (Qg9 xs lo b))))):=by
 intro c s n H x v vl o lo b q Q I f m i g h;obtain⟨a,xs,rfl,j,u,t⟩:=h
 by_cases hw:HT.sIx xs.length 0 lo=0/\HT.sIx xs.length xs.length b=xs.length
 ·cases f;obtain⟨e,r,l,w⟩:=I.tuple j;have d:e.toArray.size=xs.length:=by rw[Nq];exact r.length.symm
  refine⟨"tuple",_,Er.lookup,l.typeIs,?_⟩;exact KD l m i g (by rw[d];exact hw) ⟨.ref a,H,I,rfl,u hw⟩
 ·exact Qlz c s n H (.ref a) v vl o lo b q Q I f m i g ⟨a,xs,rfl,j,hw,t hw⟩
theorem QlI:SlR X (fun x lo f H Q=>∃z,x=.str z/\z.length<=sizeLine/\Q (.str (Txt.slice z lo f)) H):=by
 intro a s n H x v vl r lo f w Q I o c p m h;obtain⟨z,rfl,b,q⟩:=h;obtain⟨t,rfl⟩:=o;refine⟨"str",_,PySem.F.slot_str_getitem.lookup,typeIs_str _ _ _,?_⟩;have fin:∀(e:Tok) (k:Nat),EP X a n Q (.str (Txt.slice z lo f) e) { s with toks:=k }:=fun e k=>⟨.str _,H,I.tok _,⟨e,rfl⟩,q⟩
 cases p with
 |none=>
  cases m with
  |none=>exact DP (l:=none) (u:=none) (st:=none) c rfl (IA ⟨Nn (LB z _ _) b,fin⟩)
  |int j d=>exact DP (l:=none) (u:=some (j,d)) (st:=none) c rfl (IA ⟨Nn (LB z _ _) b,fin⟩)
 |int i g=>
  cases m with
  |none=>exact DP (l:=some (i,g)) (u:=none) (st:=none) c rfl (IA ⟨Nn (LB z _ _) b,fin⟩)
  |int j d=>exact DP (l:=some (i,g)) (u:=some (j,d)) (st:=none) c rfl (IA ⟨Nn (LB z _ _) b,fin⟩)
theorem ZC:PMO X none Vk:=fun a s c H Q I d=>by
 obtain⟨R,b,h,o,g,f,st,e,k⟩:=d;cases e;exact Qjy a s c H Q I (k R H (Ext.refl _) f)
theorem Q9(l:PM X e m):PMO X (some e) (Ju m):=fun a s f H Q I g=>by
 obtain⟨R,b,h,o,t,j,st,q,k⟩:=g;refine Qju l a s f H Q I ?_;obtain⟨⟨w,n⟩,p,d⟩:=Nc.mp q;refine⟨R,b,h,w,n,j,st,p,fun R1 r v i c rv=>?_⟩;cases w<;>simp only at d<;>first|(cases d;exact⟨_,rv.int_eq,k R1 r i c⟩)|cases d
theorem Zk{lo B:Option Expr}{pos L:Pos}(U:PM X a O)(S:PMO X lo M)(T:PMO X B N):PM X (.Subscript a (.Slice lo B none L) pos) (mSl O M N):=
 Q5 (QgB (sl_list.or (sl_tupA.or QlI)) U S T) fun σ H Q G=>by
  obtain⟨R,f,h,w,h',J,st,e,k⟩:=G;obtain⟨⟨a,D⟩,ea,e2⟩:=Nc.mp e;obtain⟨⟨l,C⟩,el,e3⟩:=Nc.mp e2;obtain⟨⟨u,Y⟩,Z,d⟩:=Nc.mp e3;refine⟨R,f,h,a,D,J,st,ea,fun R1 H1 x r t I=>⟨R1,f,D,l,C,t,st.mono r,el,fun R2 H2 q s=>⟨R2,f,C,u,Y,s,st.mono (r.trans q),Z,fun E F A b=>?_⟩⟩⟩;have c:=Rw.mono (q.trans A) _ _ I;have j:=k.ext (r.trans (q.trans A));dsimp only at d;unfold wSl at d;split at d
  ·cases d;obtain⟨ad,n,rfl,v,m⟩:=b.tupAt c;refine .inr (.inl ⟨ad,n,rfl,v,fun hw=>?_,fun _ p y=>?_⟩)
   ·rw[QcG (by rw[m.length];exact hw)]at j;exact j E F _ (Ext.refl _) b c
   ·obtain⟨z,o,i,g⟩:=b.tup y (QdE m l u);exact j z _ _ o i g
  ·split at d
   ·rename_i P;cases d;exact .inr (.inr ⟨_,c.str_eq,P,j E F _ (Ext.refl _) b (Rw.str _)⟩)
   ·cases d
  ·obtain⟨ys,e5,e6⟩:=Nd.mp d;cases e6;obtain⟨ad,n,rfl,v,m⟩:=b.lsAt c e5;refine .inl ⟨ad,n,rfl,v,fun p y=>?_⟩;obtain⟨z,o,i,g⟩:=b.lstI y (QdE m l u);exact j z _ _ o i g
end
def Qdd(X:Cx)(id:String)(f:W->List W->MH->Option (W×MH)):Prop:=
 MtR X id (fun x d H Q=>∃R h a b w c,Rh X.K R h H/\Rw X.K R a x/\Rws X.K R b d/\f a b h=some (w,c)/\After X.K R w c Q)
def tyW(h:MH)(T:String):W->Bool
 |.str _=>T=="str"
 |.int _=>T=="int"
 |.lst _=>T=="list"
 |.frz _=>T=="list"
 |.ref n=>match h[n]? with|some (.lst _)=>T=="list"|some (.dic _)=>T=="dict"|some (.dct _)=>T=="dict"|_=>false
 |_=>false
def mMt(T:String)(f:W->List W->MH->Option (W×MH))(mo:ME)(ms:MA):ME:=fun a h=>(mo a h).bind fun p=>if tyW p.2 T p.1=true then(ms a p.2).bind fun q=>f p.1 q.1 q.2 else none
theorem Qh0{K:Ng}{x:V}(c:Rh K R h H)(r:Rw K R a x)(e:tyW h T a=true):tyV K T x H:=by
 cases a with
 |str _=>rw[r.str_eq];exact DG e
 |int _=>rw[r.int_eq];exact DG e
 |lst _=>
  obtain⟨ad,b,rfl,q,_⟩:=c.lstAt r;exact .inl ⟨DG e,b,SqL.of q⟩
 |frz _=>
  obtain⟨ad,b,rfl,q,_⟩:=c.frzAt r;exact .inl ⟨DG e,b,q⟩
 |ref n=>
  simp only[tyW]at e;split at e
  ·rename_i j d;obtain⟨_,rfl,b,f,_⟩:=c.refAt r d;exact .inl ⟨DG e,b,SqL.of f⟩
  ·rename_i i d;unfold Rw at r;obtain⟨g,f,_⟩:=c.obj n _ d;rw[r.2];exact .inr (.inr (.inl ⟨DG e,.inl ⟨g,f⟩⟩))
  ·rename_i i d;unfold Rw at r;obtain⟨g,f,_⟩:=c.obj n _ d;rw[r.2];exact .inr (.inr (.inl ⟨DG e,.inr ⟨g,f⟩⟩))
  ·cases e
 |_=>cases e
section
variable{X:Cx}{o e:Expr}{es:List Expr}{mo:ME}{ms:MA}{name:Str}{apos cpos:Pos}{T id:String}{f:W->List W->MH->Option (W×MH)}
theorem Qln{X:Cx}{e:Expr}{es:List Expr}{cpos:Pos}(a:decide ((e::es).length<30)=true)(c:VX e=false)(b:Kw es=true) :
  ((backTo cpos (starEach (e::es) X.env)).all (fun x=>!x.1)&&(backToKw cpos (keywordEach [] X.env)).all (fun x=>x.1.isSome)
   && decide ((e::es).length+([]:List Keyword).length+(if([]:List Keyword).isEmpty then 0 else 1)<30))=true:=by
 rw[Qhl (by unfold Kw at b ⊢;rw[Fj,c,b];rfl)];exact a
theorem Y5(B:PlainAttrs T)(slot:Slot T name id)(p:typeOf (.builtin id)=pure (.type "method_descriptor"))(E:Qdd X id f)(D:PM X o mo)(F:PMA X (e::es) ms)
  (d:attributeBase o name X.env (eval o X.env)=eval o X.env:=by rfl) (j:decide ((e::es).length<30)=true:=by rfl)
  (c:(apos.endLine==cpos.line)=true:=by rfl) (u:VX e=false:=by rfl) (b:Kw es=true:=by rfl) :
  PM X (.Call (.Attribute o name apos) (e::es) [] cpos) (mMt T f mo ms):=
 Q5 (Qni B slot p E D F d (Qln j u b) c (QF u) (Jd b)) fun L H Q z=>by
  obtain⟨R,g,h,w,G,A,st,e,k⟩:=z;obtain⟨⟨a,y⟩,I,l⟩:=Nc.mp e;dsimp only at l;split at l
  ·rename_i C;obtain⟨⟨s,v⟩,es,J⟩:=Nc.mp l;exact⟨R,g,h,a,y,A,st,I,fun R1 O x r i t=>⟨Qh0 i t C,R1,g,y,s,v,i,st.mono r,es,fun R2 N M q n m=>⟨R2,v,a,s,w,G,n,Rw.mono q _ _ t,m,J,k.ext (r.trans q)⟩⟩⟩
  ·cases l
theorem Qcc(r:PlainAttrs T)(slot:Slot T name id)(j:typeOf (.builtin id)=pure (.type "method_descriptor"))(u:Qdd X id f)(t:PM X o mo)
  (c:attributeBase o name X.env (eval o X.env)=eval o X.env:=by rfl) (b:(apos.endLine==cpos.line)=true:=by rfl):PM X (.Call (.Attribute o name apos) [] [] cpos) (mMt T f mo Qc):=
 Q5 (Qmm r slot j u t c b) fun A H Q n=>by
  obtain⟨R,i,h,w,v,q,st,e,k⟩:=n;obtain⟨⟨a,m⟩,y,g⟩:=Nc.mp e;dsimp only at g;split at g
  ·rename_i s;obtain⟨⟨B,C⟩,es,z⟩:=Nc.mp g;cases es;exact⟨R,i,h,a,m,q,st,y,fun R1 D x p d l=>⟨Qh0 d l s,R1,m,a,[],w,v,d,l,Rws.nil,z,k.ext p⟩⟩
  ·cases g
end
noncomputable def QY(a:W)(ws:List W)(h:MH):Option (W×MH):=match a,ws with
 |.ref n,[w]=>match h[n]? with|some (.lst b)=>if b.length<sizeLine then some (.non,h.set n (.lst (b++[w])))else none|_=>none
 |_,_=>none
def WY(a:W)(ws:List W)(h:MH):Option (W×MH):=match a,ws with
 |.ref n,[w]=>match h[n]? with|some (.lst c)=>(loW h w).bind fun b=>if c.length+b.length<=sizeLine then some (.non,h.set n (.lst (c++b)))else none|_=>none
 |_,_=>none
noncomputable def Qj2(a:W)(ws:List W)(h:MH):Option (W×MH):=match a,ws with
 |.ref n,[]=>match h[n]? with|some (.lst b)=>(b[b.length-1]?).map fun w=>(w,h.set n (.lst b.dropLast))|_=>none
 |_,_=>none
section
variable{X:Cx}
theorem Rws.dropLast{K:Ng}(r:Rws K R ws a):Rws K R ws.dropLast a.dropLast:=by
 rw[L7,L7,r.length];exact r.take _
theorem Qcu:Qdd X "list.append" QY:=by
 intro b s i H x l v m Q I p rv q;refine Qe8 b s i H x l v m Q I p rv ?_;obtain⟨R,h,a,B,w,D,f,r,c,e,k⟩:=q;unfold QY at e;split at e
 ·rename_i n C;split at e
  ·rename_i A t;split at e
   ·rename_i u;cases e;obtain⟨d,rfl,j,z,g⟩:=f.refAt r t;obtain⟨y,rfl,o⟩:=W8 c;refine⟨_,j,y,rfl,rfl,z,by rw[<-g.length];exact u,?_⟩;exact k R _ _ (Ext.refl _) (f.put d ⟨_,rfl,Rws.append g (Rws.cons o Rws.nil)⟩) Rw.non
   ·cases e
  ·cases e
 ·cases e
theorem UH:Qdd X "list.extend" WY:=by
 intro b s j H x o v p Q I t rv q;refine Qd1 b s j H x o v p Q I t rv ?_;obtain⟨R,h,a,J,w,M,d,u,c,e,k⟩:=q;unfold WY at e;split at e
 ·rename_i n L;split at e
  ·rename_i G z;obtain⟨F,D,e⟩:=Nc.mp e;split at e
   ·rename_i A;cases e;obtain⟨f,rfl,m,C,i⟩:=d.refAt u z;obtain⟨y,rfl,r⟩:=W8 c;obtain⟨E,l,rfl,B,g⟩:=d.loAt r D;refine⟨_,E,m,l,rfl,rfl,C,B,by rw[<-i.length,<-g.length];exact A,?_⟩;exact k R _ _ (Ext.refl _) (d.put f ⟨_,rfl,Rws.append i g⟩) Rw.non
   ·cases e
  ·cases e
 ·cases e
theorem Ga:Qdd X "list.pop" Qj2:=by
 intro c s i H x l v m Q I p rv q;refine QlY c s i H x l v m Q I p rv ?_;obtain⟨R,h,a,D,w,F,g,r,b,e,k⟩:=q;unfold Qj2 at e;split at e
 ·rename_i n;split at e
  ·rename_i C t;obtain⟨E,B,A⟩:=Nd.mp e;cases A;obtain⟨f,rfl,j,u,d⟩:=g.refAt r t;rw[Rws.nil_iff]at b;subst b;obtain⟨y,z,o⟩:=d.get B;refine⟨_,j,y,rfl,rfl,u,by rw[<-d.length];exact z,?_⟩;exact k R _ _ (Ext.refl _) (g.put f ⟨_,rfl,d.dropLast⟩) o
  ·cases e
 ·cases e
end
def QcQ(h:MH):W->Option String
 |.non=>some "NoneType"
 |.bl _=>some "bool"
 |.int _=>some "int"
 |.str _=>some "str"
 |.tup _=>some "tuple"
 |.lst _=>some "list"
 |.frz _=>some "list"
 |.ref n=>match h[n]? with|some (.lst _)=>some "list"|some (.dic _)=>some "dict"|some (.dct _)=>some "dict"|_=>none
 |.ty _=>none
noncomputable def X2(k T:String):Bool:=k==T ||(k=="bool"&&T=="int")
noncomputable def WT(T:String):Bool:=T=="str" ||T=="int" ||T=="bool" ||T=="list" ||T=="tuple" ||T=="dict"
def Qhw(ws:List W)(h:MH):Option (W×MH):=match ws with
 |[a,.ty T]=>if WT T=true then(QcQ h a).map fun k=>(.bl (X2 k T),h)else none
 |_=>none
theorem WP{K:Ng}(c:k="NoneType"\/k="bool"\/k="int"\/k="str"\/k="tuple"\/k="list"\/k="dict")(b:WT T=true):Yav K (.type k) (.type T)=some (X2 k T):=by
 have a:T="str"\/T="int"\/T="bool"\/T="list"\/T="tuple"\/T="dict":=by
  unfold WT at b;simp only[De,beq_iff_eq]at b
  rcases b with((((h|h)|h)|h)|h)|h<;>simp[h]
 rcases c with rfl|rfl|rfl|rfl|rfl|rfl|rfl<;>rcases a with rfl|rfl|rfl|rfl|rfl|rfl<;>first|rfl|decide +kernel
section
variable{X:Cx}
theorem X7:CallR X (.builtin "isinstance") (Fs X.K Qhw):=by
 intro g s M H Z us Q I r q;obtain⟨R,h,ws,w,h',j,D,e,k⟩:=q;unfold Qhw at e;split at e
 ·rename_i a T;split at e
  ·rename_i J;obtain⟨N,c,Y⟩:=Nd.mp e;cases Y;obtain⟨x,y,rfl,d,O⟩:=Qhm D;obtain⟨u,u2,rfl,E,l⟩:=GE r;rw[O.ty_eq]at l;cases l;have fin:∀tk,EP X g M Q (.bool (X2 N T)) { s with toks:=tk }:=fun tk=>⟨.bl _,H,I.tok _,rfl,k R H _ (Ext.refl _) j (Rw.bl _)⟩
   have one:∀{t:String},TyOf X.K H x (.type t)->N=t->(t="NoneType"\/t="bool"\/t="int"\/t="str"\/t="tuple"\/t="list"\/t="dict")->wpAny (model X.prog X.w) X.A (call (.builtin "isinstance") [u,.type T]) (EP X g M Q) X.xe s:=fun {t} ty U S=>by
    subst U;exact QdO I E ty (WP S J) fin
   cases a with
   |non=>cases c;rw[d.non_eq]at one;exact one .non rfl (by simp)
   |bl b=>cases c;rw[d.bl_eq]at one;exact one (.bl b) rfl (by simp)
   |int i=>cases c;rw[d.int_eq]at one;exact one (.int i) rfl (by simp)
   |str z=>cases c;rw[d.str_eq]at one;exact one (.str z) rfl (by simp)
   |tup C=>
    cases c;obtain⟨ad,B,rfl,m,_⟩:=j.tupAt d;cases E;obtain⟨G,_,p,_⟩:=I.tuple m;obtain⟨o,f,L,_⟩:=p;exact Eu OO I.kIn ⟨o,f,L⟩ (WP (by simp) J) (fun z=>nomatch z) fin
   |lst C=>
    cases c;obtain⟨ad,B,rfl,m,_⟩:=j.lstAt d;exact one (.lst m) rfl (by simp)
   |frz C=>
    cases c;obtain⟨ad,B,rfl,m,_⟩:=j.frzAt d;cases E;obtain⟨G,_,p,_⟩:=I.list m;obtain⟨o,n,f,L,_⟩:=p;exact Eu Lj I.kIn ⟨o,f,L⟩ (WP (by simp) J) (fun z=>nomatch z) fin
   |ref n=>
    simp only[QcQ]at c;split at c
    ·rename_i C v;cases c;obtain⟨_,rfl,B,f,_⟩:=j.refAt d v;exact one (.lst f) rfl (by simp)
    ·rename_i F v;cases c;unfold Rw at d;obtain⟨P,f,_⟩:=j.obj n _ v;rw[d.2]at one;exact one (.dK f) rfl (by simp)
    ·rename_i F v;cases c;unfold Rw at d;obtain⟨P,f,_⟩:=j.obj n _ v;rw[d.2]at one;exact one (.dT f) rfl (by simp)
    ·cases c
   |ty _=>cases c
  ·cases e
 ·cases e
end
structure Cal(P:Program)(w:World)(K:Ng)(mg:Str->Option Value)(base:Heap)(k:Nat)(x:Str)(ps:List Str)(g:FM):Prop where
 ex:∃(f:Addr) (fd:FuncData),FnOk P w K mg base CX0 k f fd ps (spM K ps.length g)/\mg x=some (.ref f)/\EE K (.ref f)=true/\Binds K fd ps []/\∃(oc:Value) (od:Option Addr) (osl:Array (Option Value)),K.lookup f=some ⟨oc,od,.func fd,osl⟩
structure DefAt(K:Ng)(mg:Str->Option Value)(x:Str)(st:Stmt)(ps:List Str):Prop where
 ex:∃(f:Addr) (fd:FuncData),Fun K x x st f fd/\mg x=some (.ref f)/\Binds K fd ps []
theorem V6{K:Ng}{h:Heap}{x:Str}{st:Stmt}{f:Addr}{i:Value}{kV d pm cd ct:Value}(X:K.In h)(G:h.Ns mainGlobals j)
  (a:FC K mainGlobals x=some (some (.ref f))) (l:K.lookup f=some ⟨i,n,.func (EQ x x (VR st) (Js st) (Qg st) .none kV d pm g cd ct),m⟩) (c:FK K cd x=true) (k:EE K (.ref f)=true)
  (b:∀(kV d pm:Value) (g:Option Addr) (e ct:Value) (us:List Value),us.length=ps.length->bindArgs (EQ x x (VR st) (Js st) (Qg st) .none kV d pm g e ct) ⟨us,[]⟩=pure (ps.zip us)):DefAt K j x st ps:=
 ⟨f,_,QbP l c k,Fk X G a,(QbP l c k).binds b⟩
structure Glob(K:Ng)(mg:Str->Option Value)(x:Str)(w:W):Prop where
 ex:∃(v:V) (u:Value),mg x=some u/\RelV v u/\∀R,Rw K R w v
theorem Qm2{K:Ng}(X:K.In h)(G:h.Ns mainGlobals b)(a:FC K mainGlobals x=some (some (.int i t))):Glob K b x (.int i):=
 ⟨.int i,_,Fk X G a,⟨t,rfl⟩,fun _=>Rw.int i⟩
noncomputable def QmA:List Str->List W:=List.map W.str
theorem Qbv{K:Ng}:∀(a:List Str),Rws K R (QmA a) (a.map V.str)
 |[]=>Rws.nil
 |y::a=>Rws.cons (Rw.str y) (Qbv a)
theorem Qaq:∀{its:List Value} {a:List Str},StrsAre its a->Vals (a.map V.str) its
 |_,_,.nil=>.nil
 |_,_,.cons y t r=>.cons ⟨t,rfl⟩ (Qaq r)
theorem Qlr{K:Ng}{h:Heap}{x:Str}{c:Addr}{n:Nat}(X:K.In h)(G:h.Ns mainGlobals d)(a:FC K mainGlobals x=some (some (.ref c)))
  (l:K.lookup c=some ⟨.type "tuple",dd,.seq its n,f⟩) (hz:its.size<=sizeLine) (e:StrsAre its.toList b):Glob K d x (.tup (QmA b)):=
 ⟨.ref c,_,Fk X G a,rfl,fun R=>by
  unfold Rw
  exact⟨c,_,rfl,.inr ⟨_,its,n,l,rfl,rfl,hz,Qaq e⟩,Qbv b⟩⟩
section
variable{X:Cx}{k n:Nat}{g:FM}{x:Str}{ps:List Str}{p pos:Pos}{e:Expr}{es:List Expr}{ms:MA}
theorem Qg0(C:Cal X.prog X.w X.K X.mg X.base k x ps g)(hr:Room k X.A)(i:Gl X x)(m:PMA X (e::es) ms)(c:ps.length=n:=by rfl)
  (b:(x==("__debug__":Str))=false:=by decide) (j:VX e=false:=by rfl) (a:Kw es=true:=by rfl) :
  PM X (.Call (.Name x p) (e::es) [] pos) (Qi n g ms):=by
 obtain⟨f,fd,F,d,h,l,_⟩:=C.ex;subst c;exact Qj3 F hr i d h l Qmg m b j a
theorem Qeb(C:Cal X.prog X.w X.K X.mg X.base k x ps g)(hr:Room k X.A)(h:Gl X x)(b:ps.length=n:=by rfl)(a:(x==("__debug__":Str))=false:=by decide):PM X (.Call (.Name x p) [] [] pos) (Qi n g Qc):=by
 obtain⟨f,fd,F,c,d,i,_⟩:=C.ex;subst b;exact QgK F hr h c d i Qmg a
theorem QeZ(d:Gl X x)(c:X.mg x=none)(a:bootBuiltins x=some (.type T))(b:x≠"__name__":=by decide)(hd:(x==("__debug__":Str))=false:=by decide):PM X (.Name x pos) (mC (.ty T)):=
 Qjv d c a (v:=.ty T) rfl (fun _=>Rw.ty _) b hd
end
section
variable{P:Program}{w:World}{K:Ng}{mg:Str->Option Value}{base:Heap}
theorem Qs{st:Stmt}(d:DefAt K mg x st ps)(S:FnScope N ps (Qg st))(hN:N.length=ps.length+more)
  (c:∀(f:Addr) (b:Value) (A:Around) (a:List Env) (s:Shared) (H:Hp) (E:XK),Room k (A.deeper (envOfC x (Qg st) s.heap.objs.size f b))->QfN (Qht CX0 P w K mg base N x (Qg st) f b A a s H E).nox (Js st) m) :
  Cal P w K mg base (k+1) x ps (Qz more m):=by
 obtain⟨f,fd,F,j,n⟩:=d.ex;obtain⟨i,h,kV,o,pm,p,b,ct,g,e,lk,l⟩:=F.ex;exact⟨f,fd,Qob F S hN (fun b A a s H E hr=>c f b A a s H E hr),j,F.kp,n,i,h,g,lk⟩
theorem Cal.imp(C:Cal P w K mg base k x ps g)(h:∀a H Q E,spM K ps.length g' a H Q E->spM K ps.length g a H Q E):Cal P w K mg base k x ps g':=by
 obtain⟨f,fd,F,r⟩:=C.ex;exact⟨f,fd,F.imp h,r⟩
end
theorem GA{K:Ng}:∀(ns:List Int),Rws K R (ns.map W.int) (ns.map V.int)
 |[]=>Rws.nil
 |n::ns=>Rws.cons (Rw.int n) (GA ns)
theorem Qnv{l:PySem.W.OpenLaw}{d:DefRec}{K:Params->Ng}{st:Stmt}{sem:FM}{k:Nat}(y:l.most=some 63)(B:d.params.defaults=[])(hr:Room k callerA)(A:d.name="law")
  (S:∀(w:World) (h:Heap),U w h->(K w.params).In h)
  (R:∀(kV c pm:Value) (C:Option Addr) (g ct:Value) (s:Shared) (u:Value),BindsTo s (EQ "law" "law" (VR st) (Js st) (Qg st) .none kV c pm C g ct) ⟨[u],[]⟩ [("script",u)])
  (F:∀(w:World) (i:Str->Option Value) (h:Heap),(K w.params).In h->h.Ns mainGlobals i ->
   DefAt (K w.params) i "law" st ["script"]/\∀base:Heap,(K w.params).In base->base.Ns mainGlobals i->Cal l.prog w (K w.params) i base k "law" ["script"] sem)
  (main:∀ns:List Int,ns.length<=63->∃h',sem [.frz (ns.map W.int)] []=some (.bl true,h')) :
  Oy q t XP U l.row.toRowW d [] (fun f I=>Ol f I):=by
 refine L2.QeO (n:=63) (k:=k) (x:="script") (CX:=fun _=>CX0) (sp:=fun w=>spM (K w.params) 1 sem) y (by decide) B hr S ?_ ?_ fun _ _ _ _ _ z=>z
 ·intro w i fa h X G b;obtain⟨D,Y⟩:=F w i h X G;obtain⟨f,fd,Fu,r,_⟩:=D.ex;rw[A]at b;rw[r]at b;cases b;obtain⟨oc,od,kV,c,pm,C,g,ct,J,e,lk,Q⟩:=Fu.ex;refine⟨fd,fun s u=>?_,fun base O N=>?_⟩
  rotate_left
  ·obtain⟨f',T,Z,p,_,_,M,L,E,j⟩:=(Y base O N).ex;rw[r]at p;cases p;rw[lk]at j;cases j;exact Z
  rw[e];exact R kV c pm C g ct s u
 ·intro w H a ns P hO hS;obtain⟨h',e⟩:=main ns P;refine⟨⟨fun _=>0,0,H,fun _=>none⟩,[.frz (ns.map W.int)],[],.bl true,h',rfl,⟨rfl,fun _ _ z=>z,fun n y=>absurd y (DV _),fun m n r=>absurd r (DV _),(fun n o z=>by simp at z),(fun _ _ z=>by cases z),(fun _ _=>rfl),(fun _ _ z=>by cases z)⟩,?_,e,fun R' H' v _ _ rv=>rv.bl_eq⟩;refine Rws.cons ?_ Rws.nil;unfold Rw;exact⟨a,_,rfl,hS,GA ns⟩
noncomputable def Qft(a:Scope):Bool:=a.names.all fun y=>y.2 != .cell&&(y.2 != .local ||a.names.lookup y.1==some .local)
noncomputable def Qnj(N:List Str)(xs a:Scope)(cp:List (Option Nat))(Nb:List Str):Bool:=(cp.zip Nb).all fun p=>match p.1 with
 |none=>true
 |some j=>N[j]?==some p.2&&(xs.names.lookup p.2==some .cell ||xs.names.lookup p.2==some .free)&&a.names.lookup p.2==some .free
noncomputable def QhH(a:Scope)(ks:List Str):Bool:=a.names.all fun y=>y.2 != .free ||ks.contains y.1
theorem Vh{env:Env}:∀{a:List (Str×NameKind)} {x:Str},a.lookup x=some .free ->
  (a.map fun(n,k)=>if(k==NameKind.free&&env.scope.kind==.function&&env.kindOf n==some .cell)then(n,NameKind.cell)else(n,k)).lookup x=some .cell \/
  (a.map fun(n,k)=>if(k==NameKind.free&&env.scope.kind==.function&&env.kindOf n==some .cell)then(n,NameKind.cell)else(n,k)).lookup x=some .free
 |[],_,h=>by simp at h
 | (n,k)::r,x,h=>by
  have d:=@Vh env r x;rw[Nw];dsimp only;cases b:x==n with
  |true=>
   simp only[Eo,b]at h;cases h
   by_cases c:(NameKind.free==NameKind.free&&env.scope.kind==.function&&env.kindOf n==some .cell)=true
   ·rw[if_pos c];exact .inl (by simp[Eo,b])
   ·rw[if_neg c];exact .inr (by simp[Eo,b])
  |false=>
   simp only[Eo,b]at h
   by_cases c:(k==NameKind.free&&env.scope.kind==.function&&env.kindOf n==some .cell)=true
   ·rw[if_pos c];simp only[Eo,b];exact d h
   ·rw[if_neg c];simp only[Eo,b];exact d h
theorem ZO{env:Env}:∀{a:List (Str×NameKind)} {x:Str} {c:NameKind},(∀y∈a,y.2≠.cell)->(c=.cell\/c=.free) ->
  (a.map fun(n,k)=>if(k==NameKind.free&&env.scope.kind==.function&&env.kindOf n==some .cell)then(n,NameKind.cell)else(n,k)).lookup x=some c->(x,NameKind.free)∈a
 |[],_,_,_,_,h=>by simp at h
 | (n,k)::r,x,c,e,f,h=>by
  rw[Nw]at h;dsimp only at h;have g:=@ZO env r x c (fun y i=>e y (Ny _ i)) f;cases d:x==n with
  | true=>
   have:x=n:=DG d;subst this
   by_cases b:(k==NameKind.free&&env.scope.kind==.function&&env.kindOf x==some .cell)=true
   ·have:k=.free:=by
     simp only[NJ,beq_iff_eq]at b;exact b.1.1
    subst this;exact NA
   ·rw[if_neg b]at h;simp[Eo]at h;subst h
    rcases f with z|z
    ·exact absurd z (e (x,k) NA)
    ·subst z;exact NA
  |false=>
   refine Ny _ (g ?_)
   by_cases b:(k==NameKind.free&&env.scope.kind==.function&&env.kindOf n==some .cell)=true
   ·rw[if_pos b]at h;simpa only[Eo,d]using h
   ·rw[if_neg b]at h;simpa only[Eo,d]using h
theorem Qc7{d:List (Str×Addr)}(h:d.lookup x=some c):(x,c)∈d:=by
 induction d with
 |nil=>simp at h
 | cons p r e=>
  obtain⟨n,a⟩:=p;cases b:x==n with
  |true=>
   simp only[Eo,b]at h;cases h;rw[DG b];exact NA
  |false=>
   simp only[Eo,b]at h;exact Ny _ (e h)
theorem GD{d:List (Str×Addr)}(h:x∈d.map (·.1)):∃c,d.lookup x=some c:=by
 induction d with
 |nil=>simp at h
 | cons p r e=>
  obtain⟨n,a⟩:=p;cases b:x==n with
  |true=>exact⟨a,by simp only[Eo,b]⟩
  |false=>
   rcases NE.mp h with z|z
   ·dsimp only at z;rw[z,beq_self_eq_true]at b;cases b
   ·obtain⟨c,f⟩:=e z;exact⟨c,by simp only[Eo,b];exact f⟩
theorem XS(g:closureFor d X.env=pure o)(kind:d.kind=.function)(r:Qft d=true)(u:o.map (·.1)=ks)(n:QhH d ks=true)
  (f:∀p∈o,X.env.cells.lookup p.1=some p.2) (hN:X.N=N) (q:X.env.scope=xs) (m:cp.length=Nb.length) (v:Qnj N xs d cp Nb=true):BlkOk X d o Nb cp:=by
 have e:∀y∈d.names,y.2≠.cell:=fun y l=>by
  have:=Eh.mp r y l;simp only[NJ,bne_iff_ne]at this;exact this.1
 refine⟨g,e,kind,fun y l m=>?_,fun x c h=>f _ (Qc7 h),fun x h=>?_,m,fun i j x A w=>?_⟩
 ·have:=Eh.mp r y l;simp only[NJ,De,bne_iff_ne,beq_iff_eq]at this
  rcases this.2 with z|z
  ·exact absurd m z
  ·exact z
 ·have t:(x,NameKind.free)∈d.names:=by
   rcases h with h|h
   ·exact ZO e (.inl rfl) h
   ·exact ZO e (.inr rfl) h
  have:=Eh.mp n _ t;simp only[De,bne_iff_ne,ne_eq,not_true_eq_false,false_or,List.contains_iff_mem]at this;exact GD (by rw[u];exact this)
 ·have s:(cp.zip Nb)[i]?=some (some j,x):=by rw[List.getElem?_zip_eq_some];exact⟨A,w⟩
  have:=Eh.mp v _ (Iu s);simp only[NJ,De,beq_iff_eq]at this;obtain⟨⟨a,b⟩,c⟩:=this;refine⟨by rw[hN];exact a,?_,?_,Vh c⟩
  ·rw[q]
   rcases b with b|b
   ·exact .inr (.inl b)
   ·exact .inr (.inr b)
  ·unfold Env.kindOf;rw[q];exact b
theorem ZI(kind:a.kind=.function)(l:Qft a=true)(g:QhH a []=true)(f:cp.length=Nb.length)(n:cp.all (·.isNone)=true):BlkOk X a [] Nb cp:=by
 have d:∀y∈a.names,y.2≠.free:=fun y e z=>by
  have:=Eh.mp g y e;simp[z]at this
 have b:∀y∈a.names,y.2≠.cell:=fun y e=>by
  have:=Eh.mp l y e;simp only[NJ,bne_iff_ne]at this;exact this.1
 refine⟨closureFor_none d,b,kind,fun y e f=>?_,fun x c h=>by simp at h,fun x h=>?_,f,fun i j x o p=>?_⟩
 ·have:=Eh.mp l y e;simp only[NJ,De,bne_iff_ne,beq_iff_eq]at this
  rcases this.2 with z|z
  ·exact absurd f z
  ·exact z
 ·have m:(x,NameKind.free)∈a.names:=by
   rcases h with h|h
   ·exact ZO b (.inl rfl) h
   ·exact ZO b (.inr rfl) h
  exact absurd rfl (d _ m)
 ·have:=Eh.mp n _ (Iu o);simp at this
theorem QA(items:List W)(h:MH):live none items h:=fun _ z=>by cases z
theorem Kj{mt:MT}{me:ME}{h:MH}:∀(rest a:List W) (o:Option W),
  (∀w∈rest,mt (some w::caps) h=some (p w,h))->(∀w∈rest,p w=true->me (some w::caps) h=some (f w,h))->a.length+rest.length<=sizeLine ->
  ZM fin items none (Q2 0) mt me rest a (o::caps) h=fin (a++(rest.filter p).map f) h
 |[],a,o,_,_,_=>by
  unfold ZM;rw[if_pos (QA _ _)];simp
 | w::rest,a,o,d,e,i=>by
  unfold ZM;rw[if_pos (QA _ _)];have j:Q2 0 w (o::caps) h=some (some w::caps):=rfl;rw[j,Ni,d w NA,Ni];have g:a.length+(rest.length+1)<=sizeLine:=by simpa using i
  cases c:p w with
  |true=>
   simp only[c];rw[e w NA c,Ni,if_pos (by lia)];rw[Kj rest (a++[f w]) (some w) (fun x b=>d x (Ny _ b)) (fun x b=>e x (Ny _ b)) (by simp;lia)];simp[Ig,c]
  |false=>
   simp only[c];rw[Kj rest a (some w) (fun x b=>d x (Ny _ b)) (fun x b=>e x (Ny _ b)) (by lia)];simp[Ig,c]
theorem G3(c:b w σ h=some σ1)(a:body σ1 h=some (.nx σ2 h2)):JK items none b body (w::r) σ h=JK items none b body r σ2 h2:=by
 rw[JK,if_pos (QA _ _),c,Ni,a,Ni]
theorem U1:JK items none b body [] σ h=some (.nx σ h):=by
 rw[JK,if_pos (QA _ _)]
section
variable{σ σ1:MSt}{h h1 h2 h3:MH}{a b c w:W}{ws:List W}{ma mb mc:ME}{ms:MA}{mt mu:MT}{s1 s2:SM}{f f':W->W->MH->Option (W×MH)}{g:List W->MH->Option (W×MH)}{z:MF}
theorem Qn4:Qc σ h=some ([],h):=rfl
theorem Qdx(e:ma σ h=some (a,h1))(d:ms σ h1=some (ws,h2)):Qa ma ms σ h=some (a::ws,h2):=by unfold Qa;rw[e,Ni,d];rfl
end
theorem QdV(c:(-(2^64)<i/\i<2^64)\/(-(2^64)<j/\j<2^64)):QkE (.int i) (.int j) h=some (.int (i*j),h):=by unfold QkE;exact if_pos c
theorem QjD(c:0<j/\j<1073741824):Qjq (.int i) (.int j) h=some (.int (i/j),h):=by unfold Qjq;exact if_pos c
theorem Qiq(c:0<j):Qdz (.int i) (.int j) h=some (.int (i%j),h):=by unfold Qdz;exact if_pos c
theorem Qjg(c:0<=j/\j<=1000000/\i.natAbs<2^64):Qkl (.int i) (.int j) h=some (.int (i^j.toNat),h):=by unfold Qkl;exact if_pos c
theorem Qkh(a:x.length<=sizeLine)(e:atI x.cps.toList i=some d):wIx (.str x) (.int i) h=some (.str ⟨#[d]⟩,h):=by
 unfold wIx;simp only;rw[if_pos a,e];rfl
def QfK(mo mi c:ME):SM:=fun a h=>(c a h).bind fun v=>(mo a v.2).bind fun o=>(mi a o.2).bind fun i=>match o.1,i.1 with
 |.ref n,.int k=>match i.2[n]? with
  |some (.lst b)=>(ixN b.length k).map fun j=>.nx a (i.2.set n (.lst (b.set j v.1)))
  |_=>none
 |_,_=>none
section
variable{X:Cx}{o i e:Expr}{mo mi mv:ME}{pos pos':Pos}
theorem Ql4{K:Ng}(q:tS K (QfK mo mi mv) D σ H):QmU (tI K mv) (QoR (tI K mo) (tI K mi) QlM) D σ H:=by
 obtain⟨R,a,h,r,F,s,e,k⟩:=q;obtain⟨⟨v,w⟩,Y,U⟩:=Nc.mp e;obtain⟨⟨ob,u⟩,T,S⟩:=Nc.mp U;obtain⟨⟨I,M⟩,Q,b⟩:=Nc.mp S;refine⟨R,a,h,v,w,F,s,Y,fun R1 H1 x g m E=>⟨R1,a,w,ob,u,m,s.mono g,T,fun R2 H2 y f l C=>⟨R2,a,u,I,M,l,s.mono (g.trans f),Q,fun Z H3 z d c B=>?_⟩⟩⟩;dsimp only at b;split at b
 ·rename_i n G;split at b
  ·rename_i xs J;obtain⟨j,P,O⟩:=Nd.mp b;cases O;obtain⟨p,N,A,L,t⟩:=c.refAt (Rw.mono d _ _ C) J;refine⟨_,A,G,j,N,B.int_eq,L,by rw[<-t.length];exact P,?_⟩;exact k Z _ σ (g.trans (f.trans d)) (c.put p ⟨_,rfl,t.set j (Rw.mono (f.trans d) _ _ E)⟩) (s.mono (g.trans (f.trans d)))
  ·cases b
 ·cases b
theorem KG(d:PM X o mo)(f:PM X i mi)(g:PM X e mv)
  (h:∀v,assign (.Subscript o i pos') X.env v=(do
   let a <-holding [v] (eval o X.env)
   let b <-holding [v,a] (eval i X.env)
   standAt pos'
   holding [v,a,b] (setItem a b v)
   release [v,a,b] []):=by intro _;rfl)
  (c:G1 e=false:=by rfl) (hw:swappedStores [.Subscript o i pos'] e X.env=pure none:=by rfl):PMS X (.Assign [.Subscript o i pos'] e pos) (QfK mo mi mv):=
 X8 (QhK g (Ql3 d f set_list h) (show swapsWith e (some (.Subscript o i pos')) pos.line X.env=pure false from Wh c) hw rfl) fun _ _ _=>Ql4
end
noncomputable def QeS(a b:W)(h:MH):Option (W×MH):=match a,b with|.int i,.int j=>some (.int (i+j),h)|_,_=>none
section
variable{X:Cx}{o i e:Expr}{mo mi mv:ME}{pos pos':Pos}
theorem Qb0:OpR X (inplaceOp .Add) (F2 X.K QeS):=by
 intro c s d H x y v u Q I g f q;refine QjX c s d H x y v u Q I g f ?_;obtain⟨R,h,a,b,w,n,j,m,l,e,k⟩:=q;unfold QeS at e;split at e
 ·cases e;exact⟨_,_,m.int_eq,l.int_eq,k R H _ (Ext.refl _) j (Rw.int _)⟩
 ·cases e
end
def XC(a:W)(ws:List W)(h:MH):Option (W×MH):=match ws with
 |[w]=>(lsW h a).bind fun c=>(drf h 40 w).bind fun x=>(Zl (drf h 40) c).bind fun b=>(b.findIdx? fun y=>eqW y x).map fun j=>(.int (j:Nat),h)
 |_=>none
theorem WL(hu:X.A.units+64<cLine):Qdd X "list.index" XC:=by
 intro U s σ H x xs v us Q I rx rv q;obtain⟨R,h,a,ws,w,h',p,ra,C,e,k⟩:=q;unfold XC at e;split at e
 ·rename_i w1;obtain⟨T,e1,e⟩:=Nc.mp e;obtain⟨r,e2,e⟩:=Nc.mp e;obtain⟨S,P,e⟩:=Nc.mp e;obtain⟨j,e4,e5⟩:=Nd.mp e;cases e5;obtain⟨y,rfl,ry⟩:=W8 C;obtain⟨u,rfl,ru⟩:=KQ rv;obtain⟨ad,xv,rfl,q1,G⟩:=p.lsAt ra e1;cases rx;obtain⟨c,B,p1,hz⟩:=I.list q1;have N:X.A.in1.units+40<cLine:=by show X.A.units+1+40<cLine;lia
  have l1:=G.length;have l2:=B.length;have l3:=(QE P).1;obtain⟨hj,l,d⟩:=EF.mp e4
  have o:∀m (f:m<c.toArray.size),Qde X.K R h r c.toArray[m]=eqW (S[m]'(by rw[Nq]at f;lia)) r:=by
   intro m f;rw[Nq]at f;obtain⟨t,g⟩:∃t,T[m]?=some t:=⟨T[m]'(Nk (Nk f (Nt l2.symm)) (Nt l1.symm)),Nl _⟩
   obtain⟨v2,L,D⟩:=G.get g;obtain⟨u2,M,E⟩:=B.get L;obtain⟨b,hb,eb⟩:=(QE P).2 m t g;have eu:c.toArray[m]=u2:=by have:=M;rw[Nl f]at this;simpa using this
   have ez:S[m]'(by omega)=b:=by have:=hb;rw[Nl (by omega)]at this;simpa using this
   rw[eu,ez];exact Qbg I p D E eb
  obtain⟨ob,n,Y,Z,ab,hd⟩:=p1;obtain⟨cls,dd,data,sl⟩:=ob;simp only at Z hd;subst Z hd;have i:j<c.toArray.size:=by rw[Nq];lia
  refine FL DQ ⟨_,Y,rfl⟩ PySem.F.entry_list_index (PySem.F.args_list_index_2 _ _)
   (list_indexAt ad c.toArray n dd sl u (Qde X.K R h r) j i ?_ ?_ ?_) ⟨Y,fun z J=>KT I p N ry ru e2 G B P z (by simpa using J),?_⟩
  ·have:(sizeLine:Nat)<2^62:=by decide
   have aa:j<2^62:=by lia
   lia
  ·rw[o j i];exact l
  ·intro m f O;rw[o m f];simpa using d m O
  ·exact⟨.int j,H,I.tok _,⟨_,rfl⟩,k R H _ (Ext.refl _) p (Rw.int _)⟩
 ·cases e
inductive TabIs:List DictEntry->List (Str×Int)->Prop where
 |nil:TabIs [] []
 |cons {e:DictEntry} {x:Str} {i:Int} {t t':Tok} {es:List DictEntry} {tab:List (Str×Int)} (hk:e.key=.str x t) (hv:e.val=.int i t') (r:TabIs es tab):TabIs (e::es) ((x,i)::tab)
structure GTab(w:World)(K:Ng)(mg:Str->Option Value)(x:Str)(tab:List (Str×Int)):Prop where
 ex:∃(a:Addr) (es:List DictEntry) (n:Nat),mg x=some (.ref a)/\K.lookup a=some ⟨.type "dict",none,.dict es.toArray n,#[]⟩/\Yaq w.params es/\(a==sysModules)=false/\TabIs es tab
theorem QnU{K:Ng}{x:Str}{c:Addr}{n:Nat}(X:K.In h)(G:h.Ns mainGlobals b)(a:FC K mainGlobals x=some (some (.ref c)))
  (l:K.lookup c=some ⟨.type "dict",none,.dict es.toArray n,#[]⟩) (k:Yaq w.params es) (s:(c==sysModules)=false) (t:TabIs es tab):GTab w K b x tab:=
 ⟨c,es,n,Fk X G a,l,k,s,t⟩
theorem Qjs(a b:Int)(h:MH):wEq (.int a) (.int b) h=some (.bl (a==b),h):=by unfold wEq;simp[drf,eqW]
theorem QiQ(a b:Int)(h:MH):wNe (.int a) (.int b) h=some (.bl (!(a==b)),h):=by unfold wNe;simp[drf,eqW]
theorem Qkn(a b:Str)(h:MH):wEq (.str a) (.str b) h=some (.bl (a==b),h):=by unfold wEq;simp[drf,eqW]
theorem Kf(P:MSt->MH->Prop):∀(r:List W) (σ:MSt) (h:MH),P σ h->(∀w∈r,∀σ h,P σ h->∃σ1 σ2 h2,b w σ h=some σ1/\body σ1 h=some (.nx σ2 h2)/\P σ2 h2)->∃a h',JK items none b body r σ h=some (.nx a h')/\P a h'
 |[],σ,h,c,_=>⟨σ,h,U1,c⟩
 |w::r,σ,h,c,d=>by
  obtain⟨σ1,σ2,h2,l,j,f⟩:=d w NA σ h c;obtain⟨a,h',i,e⟩:=Kf P r σ2 h2 f fun x g=>d x (Ny _ g);exact⟨a,h',by rw[G3 l j];exact i,e⟩
theorem QcX(lo:Int)(n:Nat):(Qt lo n).length=n:=by unfold Qt;simp
noncomputable def QmJ(lo c:Int)(n:Nat):It:=⟨fun i _=>i<n,fun i H x a=>a=H/\x=.int (lo+i*c),fun i _=>n<=i⟩
theorem QfD{K:Ng}(it:Addr)(lo c:Int)(n:Nat):Turn P w K J (QmJ lo c n) [it] it (fun i h=>IsRangeIter h it (lo+(i:Nat)*c) ((n:Int)-(i:Nat)) c) where
 mem:=by simp
 obj:=fun i h st b d=>by
  have e:b=it:=by simpa using d
  subst e
  exact⟨_,st,fun v z=>by
   have C:Data.fields _=Data.cell v:=z
   cases C⟩
 keep:=fun i h j st k=>k it (by simp) _ st
 item:=by
  intro X p hw q m i a s A H E I g st l;subst p hw q;obtain⟨y,f1,f2,x,u,r⟩:=g it (by simp);have W:=Walks.range (prog:=X.prog) (w:=X.w) (I.ok.hd m) it lo c n;refine W.item i s _ _ l st fun v j tk F f D=>?_;obtain⟨t,rfl⟩:=F;have I1:Inv X a A H { s with heap:=j,toks:=tk }:=I.turned (fun b o d e=>D b o (by simpa using d) e) y f1 x u r;exact⟨_,rfl,QaZ (s:={ s with heap:=j,toks:=tk }) (n:="range_iterator") f rfl rfl (by decide) ⟨.int (lo+i*c),H,I1,⟨t,rfl⟩,⟨rfl,rfl⟩,f,fun b d=>(g b d).1⟩⟩
 done:=by
  intro X p hw q m i a s A H E I g st l;subst p hw q;obtain⟨y,f1,f2,x,u,r⟩:=g it (by simp);exact LQ (I.ok.hd m) st (by have:n<=i:=l;lia) fun j G=>⟨rfl,I.turned (t':=s.toks) (fun b o d e=>G b o d e) y f1 x u r⟩
 self:=fun _ _ _ _ _ st h=>LR st h
theorem GP(d:c≠0):0<=Builtin.Range.rangeSize a b c:=by
 unfold Builtin.Range.rangeSize;split
 ·split
  ·have:0<=(b-a-1)/c:=Int.ediv_nonneg (by lia) (by lia);omega
  ·exact Yad _
 ·split
  ·have:0<=(a-b-1)/(-c):=Int.ediv_nonneg (by lia) (by lia);omega
  ·exact Yad _
section
variable{X:Cx}{tg:Expr}
theorem QiY{σ:L2.St}{H:Hp}{lo d c:Int}{tk:Nat}(I:Inv X f σ H s)(g:c≠0)(i:Builtin.Range.small lo d c=true)
  (q:R (QmJ lo c (Builtin.Range.rangeSize lo d c).toNat) H):wpAny (model X.prog X.w) X.A (pyIter (.ref s.heap.objs.size)) (PIE X f σ tg R) E { s with heap:=s.heap.push { cls:=.type "range",data:=.fields #[.int lo t,.int d u,.int c v] },toks:=tk }:=by
 refine ON (IsRange.new ..) i ?_;have I1:Inv X f σ H { s with heap:=s.heap.push { cls:=.type "range",data:=.fields #[.int lo t,.int d u,.int c v] },toks:=tk }:=I.kept fun b o e=>No _ e
 refine⟨(s.heap.push { cls:=.type "range",data:=.fields #[.int lo t,.int d u,.int c v] }).objs.size,[(s.heap.push { cls:=.type "range",data:=.fields #[.int lo t,.int d u,.int c v] }).objs.size],_,_,H,rfl,
  I1.kept (t':=tk) fun b o e=>No _ e,QfD _ lo c (Builtin.Range.rangeSize lo d c).toNat,?_,fun b h=>?_,q⟩
 ·have l:lo+((0:Nat):Int)*c=lo:=by simp
  have j:(((Builtin.Range.rangeSize lo d c).toNat:Nat):Int)-((0:Nat):Int)=Builtin.Range.rangeSize lo d c:=by
   have:=GP (a:=lo) (b:=d) g;lia
  show IsRangeIter _ _ (lo+((0:Nat):Int)*c) ((((Builtin.Range.rangeSize lo d c).toNat:Nat):Int)-((0:Nat):Int)) c;rw[l,j];exact NB _ rfl
 ·have e:b=(s.heap.push { cls:=.type "range",data:=.fields #[.int lo t,.int d u,.int c v] }).objs.size:=by simpa using h
  subst e;exact I1.fpOk (Nz _) (I1.hok.fresh (Nz _))
def Qoc(d:TA):TI:=fun a H R=>d a H fun b e=>∃i j c:Int,b=[.int i,.int j,.int c]/\(c≠0/\c.natAbs<1073741824/\Builtin.Range.small i j c=true)/\R (QmJ i c (Builtin.Range.rangeSize i j c).toNat) e
theorem QeL(D:Gl X "range")(C:X.mg "range"=none)(E:PA X [a,b,d] v)(B:starEach [a,b,d] X.env=[(false,eval a X.env),(false,eval b X.env),(false,eval d X.env)]:=by rfl)(l:starEach [b,d] X.env=[(false,eval b X.env),(false,eval d X.env)]:=by rfl) :
  PI X tg (.Call (.Name "range" p) [a,b,d] [] pos) (Qoc v):=by
 intro g s o H R I h;refine Call_ (J9 I D C boot_range (NX (thn (E pos g s o H _ I h) fun G L u=>?_) (by rw[B,l]) (by rw[l];rfl)));obtain⟨F,M,I1,x,m⟩:=u;obtain⟨i,j,c,e,⟨m,A,z⟩,q⟩:=m;subst e;cases x with
 | cons r f=>
  cases f with
  | cons y f=>
   cases f with
   |cons n f=>
    cases f;obtain⟨t,rfl⟩:=r;obtain⟨J,rfl⟩:=y;obtain⟨w,rfl⟩:=n;exact call_range_3 m (QiY I1 m z q) (.inl (LS A))
end
noncomputable def JI(lo c:Int)(n:Nat):List W:=(List.range n).map fun(i:Nat)=>W.int (lo+(i:Int)*c)
section
variable{K:Ng}{R:Rn}
theorem QdW{lo c:Int}:ItOk K R (QmJ lo c n) (JI lo c n) none where
 go:=fun i w d h H _ _ _ e=>by
  have:=(Nf.mp e).1;show i<n;simpa[JI]using this
 yld:=fun i w d h H v o e f _ b g=>by
  obtain⟨rfl,rfl⟩:=g;unfold JI at b;rw[Np]at b;obtain⟨j,a,m⟩:=Nd.mp b;rw[Em (by have:=(Nf.mp a).1;simpa using this)]at a;cases a;cases m;exact⟨d,Ext.refl _,f,Rw.int _⟩
 stop:=fun i d h H _ _ _ l=>by
  show n<=i;simpa[JI]using l
end
def QhS(ms:MA):MI:=fun a h=>(ms a h).bind fun p=>match p.1 with
 |[.int i,.int j,.int c]=>if c≠0/\c.natAbs<1073741824/\Builtin.Range.small i j c=true then some (JI i c (Builtin.Range.rangeSize i j c).toNat,none,p.2)else none
 |_=>none
section
variable{X:Cx}{tg a b d:Expr}{ms:MA}{p pos:Pos}
theorem QhN(I:Gl X "range")(G:X.mg "range"=none)(L:PMA X [a,b,d] ms)(F:starEach [a,b,d] X.env=[(false,eval a X.env),(false,eval b X.env),(false,eval d X.env)]:=by rfl)(m:starEach [b,d] X.env=[(false,eval b X.env),(false,eval d X.env)]:=by rfl):PMI X tg (.Call (.Name "range" p) [a,b,d] [] pos) (QhS ms):=
 UC (QeL I G L F m) fun P H C s=>by
  obtain⟨R,g,h,items,z,U,A,st,e,k⟩:=s;obtain⟨⟨u,M⟩,N,f⟩:=Nc.mp e;refine⟨R,g,h,u,M,A,st,N,fun R1 O Q t l rv=>?_⟩;split at f
  ·rename_i i j c r;simp only at r;subst r;split at f
   ·rename_i J;cases f;rw[Rws.cons_iff]at rv;obtain⟨v,y,rfl,E,q⟩:=rv;rw[Rws.cons_iff]at q;obtain⟨T,x,rfl,D,o⟩:=q;rw[Rws.cons_iff]at o;obtain⟨S,w,rfl,B,n⟩:=o;rw[Rws.nil_iff]at n;subst n;rw[E.int_eq,D.int_eq,B.int_eq];exact⟨i,j,c,rfl,J,k R1 O _ t l QdW⟩
   ·cases f
  ·cases f
end
noncomputable def QaG(a:List (Key×W))(k:Key):Option W:=(a.find? fun b=>decide (b.1=k)).map (·.2)
noncomputable def QlR(a:List (Key×W))(k:Key)(v:W):List (Key×W):=
 if(a.any fun b=>decide (b.1=k))=true then a.map (fun b=>if b.1=k then(b.1,v)else b)else a++[(k,v)]
def QjB:W->Option Key
 |.int i=>some (.inl i)
 |.str x=>some (.inr x)
 |_=>none
section
variable{K:Ng}{R:Rn}
abbrev DicR(K:Ng)(R:Rn):List (Key×W)->List (Key×V)->Prop:=Paired fun p q=>p.1=q.1/\Rw K R p.2 q.2
theorem QbN(r:Rw K R w v)(e:QjB w=some k):v=kV k:=by
 cases w with
 |int i=>cases e;exact r.int_eq
 |str x=>cases e;exact r.str_eq
 |_=>cases e
theorem Gy:∀{a:List (Key×W)} {kx:List (Key×V)},DicR K R a kx->(QaG a k=none/\QbC kx k=none)\/∃w v,QaG a k=some w/\QbC kx k=some v/\Rw K R w v
 |_,_,.nil=>.inl ⟨rfl,rfl⟩
 | p::ps,q::qs,.cons h t=>by
  by_cases e:p.1=k
  ·have b:q.1=k:=h.1▸e;exact .inr ⟨p.2,q.2,by simp[QaG,NK,e],by simp[QbC,NK,b],h.2⟩
  ·have b:¬q.1=k:=h.1▸e;have d:QaG (p::ps) k=QaG ps k:=by simp only[QaG,NK,e,decide_false]
   have c:QbC (q::qs) k=QbC qs k:=by simp only[QbC,NK,b,decide_false]
   rcases Gy (k:=k) t with z|⟨w,v,i,g,f⟩
   ·exact .inl ⟨d.trans z.1,c.trans z.2⟩
   ·exact .inr ⟨w,v,d.trans i,c.trans g,f⟩
theorem QeH:∀{c:List (Key×W)} {kx:List (Key×V)},DicR K R c kx->(c.any fun d=>decide (d.1=k))=kx.any fun d=>decide (d.1=k)
 |_,_,.nil=>rfl
 |_,_,.cons (a:=p) (b:=q) h t=>by
  rw[E6,E6,QeH t,h.1]
theorem QbA(r:Rw K R w v):∀{d:List (Key×W)} {kx:List (Key×V)},DicR K R d kx->DicR K R (d.map (fun c=>if c.1=k then(c.1,w)else c)) (kx.map (fun c=>if c.1=k then(c.1,v)else c))
 |_,_,.nil=>.nil
 |_,_,.cons (a:=p) (b:=q) h t=>by
  rw[Nw,Nw];refine .cons ?_ (QbA r t)
  by_cases e:p.1=k
  ·rw[if_pos e,if_pos (h.1▸e)];exact⟨h.1,r⟩
  ·rw[if_neg e,if_neg (h.1▸e)];exact h
theorem QjK(d:DicR K R a kx)(r:Rw K R w v):DicR K R (QlR a k w) (QiB kx k v):=by
 unfold QlR QiB;rw[QeH d];split
 ·exact QbA r d
 ·exact LX d ⟨rfl,r⟩
theorem Rh.dicAt(q:Rh K R h H)(r:Rw K R (.ref n) v)(e:h[n]?=some (.dic a)) :
  n<R.N/\v=.ref (R.ρ n)/\∃kx,H (R.ρ n)=some (.dK kx)/\DicR K R a kx:=by
 unfold Rw at r;exact⟨r.1,r.2,q.obj n _ e⟩
end
noncomputable def Qkm:ME:=fun _ h=>some (.ref h.length,h++[.dic []])
def Qh8(h:MH):W->Option (List (Key×W))
 |.ref n=>match h[n]? with|some (.dic a)=>some a|_=>none
 |_=>none
theorem Qbx(e:Qh8 h a=some b):∃n,a=.ref n/\h[n]?=some (.dic b):=by
 cases a with
 |ref n=>
  simp only[Qh8]at e;split at e
  ·rename_i d c;cases e;exact⟨n,rfl,c⟩
  ·cases e
 |_=>cases e
section
variable{X:Cx}{o i e a b:Expr}{mo mi mv ma mb:ME}{pos pos':Pos}
theorem Qki:PM X (.Dict [] [] pos) Qkm:=Q5 QfU fun n H Q q=>by
 obtain⟨R,f,h,w,s,j,st,e,k⟩:=q;cases e;intro p l;obtain⟨m,g,d,c⟩:=j.new (mo:=.dic []) (o:=.dK []) l fun t r=>⟨[],rfl,.nil⟩
 exact k m _ _ g d c
end
theorem Qhb(xs:List a)(x:a):atI (xs++[x]) (-1)=some x:=by
 unfold atI ixN;rw[if_neg (by decide),if_pos (by simp;lia),Ni];have:((-1:Int)+((xs++[x]).length:Nat)).toNat=xs.length:=by simp;lia
 rw[this];simp
theorem Qgy{k:Nat}(a:k<1000000):Builtin.Range.small ((k:Int)-1) (-1) (-1)=true/\(Builtin.Range.rangeSize ((k:Int)-1) (-1) (-1)).toNat=k:=by
 have e:Builtin.Range.rangeSize ((k:Int)-1) (-1) (-1)=k:=by
  unfold Builtin.Range.rangeSize;rw[if_neg (by decide)]
  by_cases z:k=0
  ·subst z;rfl
  ·rw[if_pos (by lia)];simp
 refine⟨?_,by rw[e];simp⟩;unfold Builtin.Range.small;rw[e];simp only[Builtin.Range.rangeFitsLong,NJ,De,decide_eq_true_eq,beq_iff_eq];exact⟨by lia,.inr (by decide)⟩
theorem Qos{c b a:ME}{k:Nat}(e:c σ h=some (.int ((k:Int)-1),h))(j:b σ h=some (.int (-1),h))(i:a σ h=some (.int (-1),h))(d:k<1000000):QhS (Qa c (Qa b (Qa a Qc))) σ h=some (JI ((k:Int)-1) (-1) k,none,h):=by
 unfold QhS;rw[Qdx e (Qdx j (Qdx i Qn4)),Ni];obtain⟨g,f⟩:=Qgy d;show(if _ then _ else _)=_;rw[if_pos ⟨by decide,by decide,g⟩,f]
mutual
noncomputable def pur:W->Bool
 |.tup ws=>ZZ ws
 |.lst ws=>ZZ ws
 |.frz ws=>ZZ ws
 |.ref _=>false
 |_=>true
noncomputable def ZZ:List W->Bool
 |[]=>true
 |w::ws=>pur w&&ZZ ws
end
def Qba:MO->Bool
 |.lst ws=>ZZ ws
 |.dic a=>ZZ (a.map (·.2))
 |.dct a=>ZZ (a.map (·.2))
 |.ins _ _=>false
mutual
noncomputable def th(f:Nat->Option W):W->Option W
 |.tup ws=>(ths f ws).map .tup
 |.lst ws=>(ths f ws).map .lst
 |.frz ws=>(ths f ws).map .frz
 |.ref j=>f j
 |w=>some w
noncomputable def ths(f:Nat->Option W):List W->Option (List W)
 |[]=>some []
 |w::ws=>(th f w).bind fun x=>(ths f ws).map (x::·)
end
def thO(f:Nat->Option W):MO->Option MO
 |.lst ws=>(ths f ws).map .lst
 |.dic a=>(ths f (a.map (·.2))).map fun b=>.dic ((a.map (·.1)).zip b)
 |.dct a=>(ths f (a.map (·.2))).map fun b=>.dct ((a.map (·.1)).zip b)
 |.ins _ _=>none
def res(kp:Nat->Option Nat)(g:MH):Nat->Nat->Option W
 |0,j=>(kp j).map .ref
 | d+1,j=>match kp j with
  |some n=>some (.ref n)
  |none=>match g[j]? with
   |some (.lst ws)=>(ths (res kp g d) ws).map .lst
   |_=>none
noncomputable def Xn(ns a:List Nat)(N j:Nat):Option Nat:=match ns[j]? with
 |some n=>some n
 |none=>(a.findIdx? (·==j)).map (N+·)
def Kn:Nat->List W->Option (List W×List Nat)
 |_,[]=>some ([],[])
 |k,.ref n::ws=>(Kn (k+1) ws).map fun p=>(.ref k::p.1,n::p.2)
 |k,w::ws=>if pur w then(Kn k ws).map fun p=>(w::p.1,p.2)else none
def Qu:List Nat->List MO->MH->MH
 |n::ns,o::os,h=>Qu ns os (h.set n o)
 |_,_,h=>h
def Qc9(h:MH)(n:Nat):Option MO:=match h[n]? with|some o=>if Qba o then some o else none|none=>none
def Qdb(a:W->List Nat)(m:FM)(as:List W)(ns:List Nat)(h:MH):Option (W×MH):=
 if ns.Nodup then(Zl (Qc9 h) ns).bind fun c=>(m as c).bind fun p=>
  if(a p.1).Nodup/\(∀j∈a p.1,ns.length<=j)then
   (th (res (Xn ns (a p.1) h.length) p.2 3) p.1).bind fun w=>
   (Zl (fun j=>(p.2[j]?).bind (thO (res (Xn ns (a p.1) h.length) p.2 3))) (List.range ns.length)).bind fun os=>
   (Zl (fun j=>(p.2[j]?).bind (thO (res (Xn ns (a p.1) h.length) p.2 3))) (a p.1)).map fun b=>
   (w,Qu ns os h++b)
  else none
 else none
def box(c:W->List Nat)(m:FM):FM:=fun b h=>(Kn 0 b).bind fun a=>Qdb c m a.1 a.2 h
section
variable{K:Ng}{R R':Rn}
mutual
theorem Rw.pur_mono(b:∀a o,R.F a=some o->R'.F a=some o):∀(w:W) (v:V),pur w=true->Rw K R w v->Rw K R' w v
 |.non,_,_,h=>by unfold Rw at h ⊢;exact h
 |.bl _,_,_,h=>by unfold Rw at h ⊢;exact h
 |.int _,_,_,h=>by unfold Rw at h ⊢;exact h
 |.str _,_,_,h=>by unfold Rw at h ⊢;exact h
 |.ty _,_,_,h=>by unfold Rw at h ⊢;exact h
 |.tup ws,_,p,h=>by
  unfold Rw at h ⊢;obtain⟨a,xs,e,d,c⟩:=h;exact⟨a,xs,e,ZR b d,Rws.pur_mono b ws xs (by unfold pur at p;exact p) c⟩
 |.lst ws,_,p,h=>by
  unfold Rw at h ⊢;obtain⟨a,xs,e,d,c⟩:=h;exact⟨a,xs,e,b a _ d,Rws.pur_mono b ws xs (by unfold pur at p;exact p) c⟩
 |.frz ws,_,p,h=>by
  unfold Rw at h ⊢;obtain⟨a,xs,e,d,c⟩:=h;exact⟨a,xs,e,Zh b d,Rws.pur_mono b ws xs (by unfold pur at p;exact p) c⟩
 |.ref n,_,p,h=>by unfold pur at p;cases p
theorem Rws.pur_mono(d:∀a o,R.F a=some o->R'.F a=some o):∀(ws:List W) (c:List V),ZZ ws=true->Rws K R ws c->Rws K R' ws c
 |[],_,_,h=>by unfold Rws at h ⊢;exact h
 |w::ws,_,p,h=>by
  unfold Rws at h ⊢;obtain⟨v,b,g,f,e⟩:=h;unfold ZZ at p;rw[NJ]at p;exact⟨v,b,g,Rw.pur_mono d w v p.1 f,Rws.pur_mono d ws b p.2 e⟩
end
mutual
theorem Rw.th_ok(c:∀a o,R.F a=some o->R'.F a=some o)(hr:∀j v w,Rw K R (.ref j) v->f j=some w->Rw K R' w v):∀(w:W) (v:V) (w':W),th f w=some w'->Rw K R w v->Rw K R' w' v
 |.non,_,_,e,h=>by unfold th at e;cases e;unfold Rw at h ⊢;exact h
 |.bl _,_,_,e,h=>by unfold th at e;cases e;unfold Rw at h ⊢;exact h
 |.int _,_,_,e,h=>by unfold th at e;cases e;unfold Rw at h ⊢;exact h
 |.str _,_,_,e,h=>by unfold th at e;cases e;unfold Rw at h ⊢;exact h
 |.ty _,_,_,e,h=>by unfold th at e;cases e;unfold Rw at h ⊢;exact h
 |.tup ws,_,_,e,h=>by
  unfold th at e;obtain⟨us,d,h2⟩:=Nd.mp e;subst h2;unfold Rw at h ⊢;obtain⟨a,b,l,i,g⟩:=h;exact⟨a,b,l,ZR c i,Rws.th_ok c hr ws b us d g⟩
 |.lst ws,_,_,e,h=>by
  unfold th at e;obtain⟨us,d,h2⟩:=Nd.mp e;subst h2;unfold Rw at h ⊢;obtain⟨a,b,l,i,g⟩:=h;exact⟨a,b,l,c a _ i,Rws.th_ok c hr ws b us d g⟩
 |.frz ws,_,_,e,h=>by
  unfold th at e;obtain⟨us,d,h2⟩:=Nd.mp e;subst h2;unfold Rw at h ⊢;obtain⟨a,b,l,i,g⟩:=h;exact⟨a,b,l,Zh c i,Rws.th_ok c hr ws b us d g⟩
 |.ref n,v,w',e,h=>by unfold th at e;exact hr n v w' h e
theorem Rws.th_ok(g:∀a o,R.F a=some o->R'.F a=some o)(hr:∀j v w,Rw K R (.ref j) v->f j=some w->Rw K R' w v):∀(ws:List W) (d:List V) (b:List W),ths f ws=some b->Rws K R ws d->Rws K R' b d
 |[],_,_,e,h=>by unfold ths at e;cases e;unfold Rws at h ⊢;exact h
 |w::ws,_,_,e,h=>by
  unfold ths at e;obtain⟨x,n,h2⟩:=Nc.mp e;obtain⟨i,m,l⟩:=Nd.mp h2;subst l;unfold Rws at h;obtain⟨v,c,r,q,p⟩:=h;subst r;exact Rws.cons (Rw.th_ok g hr w v x n q) (Rws.th_ok g hr ws c i m p)
end
theorem DicR.vals:∀{a:List (Key×W)} {kx:List (Key×V)},Paired (fun p q=>p.1=q.1/\Rw K R p.2 q.2) a kx->Rws K R (a.map (·.2)) (kx.map (·.2))/\a.map (·.1)=kx.map (·.1):=by
 intro a kx p
 induction p with
 |nil=>exact⟨Rws.nil,rfl⟩
 |cons h t b=>exact⟨Rws.cons h.2 b.1,by rw[Nw,Nw,b.2,h.1]⟩
theorem DicR.zip:∀{ks:List Key} {kx:List (Key×V)} {us:List W},ks=kx.map (·.1)->Rws K R us (kx.map (·.2))->Paired (fun p q=>p.1=q.1/\Rw K R p.2 q.2) (ks.zip us) kx
 |_,[],us,e,h=>by
  subst e;exact .nil
 | _,q::kx,us,e,h=>by
  subst e;rw[Nw]at h;cases us with
  |nil=>rw[Rws.nil_iff]at h;cases h
  |cons u us=>
   rw[Rws.cons_iff]at h;obtain⟨v,d,c,b,a⟩:=h;cases c;exact .cons ⟨rfl,b⟩ (DicR.zip rfl a)
theorem Qch:∀(n:Nat) (w:W) (k:Tr),Wm n w=some k->pur w=true
 |0,_,_,e=>by simp[Wm]at e
 | n+1,w,k,e=>by
  cases w with
  | tup ws=>
   simp only[Wm]at e;obtain⟨ks,b,f⟩:=Nd.mp e;unfold pur;clear e f
   induction ws generalizing ks with
   |nil=>rfl
   |cons x ws d=>
    rw[Dn]at b;obtain⟨c,h,i⟩:=Nc.mp b;obtain⟨a,g,_⟩:=Nc.mp i;unfold ZZ;rw[Qch n x c h,d a g];rfl
  |lst ws=>simp[Wm]at e
  |frz ws=>simp[Wm]at e
  |ref j=>simp[Wm]at e
  |_=>rfl
theorem QeV(e:nrm w=some k):pur w=true:=by
 cases w with
 |tup a=>exact Qch 8 _ k e
 |_=>cases e
theorem DctR.vals:∀{a:List (W×W)} {kx:List (Tr×Addr×V)},Paired (fun p q=>Rw K R p.1 (.ref q.2.1)/\nrm p.1=some q.1/\Rw K R p.2 q.2.2) a kx->Rws K R (a.map (·.2)) (kx.map (·.2.2))/\Paired (fun p q=>Rw K R p (.ref q.2.1)/\nrm p=some q.1) (a.map (·.1)) kx:=by
 intro a kx p
 induction p with
 |nil=>exact⟨Rws.nil,.nil⟩
 |cons h t b=>exact⟨Rws.cons h.2.2 b.1,.cons ⟨h.1,h.2.1⟩ b.2⟩
theorem DctR.zip:∀{ks:List W} {kx:List (Tr×Addr×V)} {us:List W},Paired (fun p q=>Rw K R p (.ref q.2.1)/\nrm p=some q.1) ks kx->Rws K R us (kx.map (·.2.2))->Paired (fun p q=>Rw K R p.1 (.ref q.2.1)/\nrm p.1=some q.1/\Rw K R p.2 q.2.2) (ks.zip us) kx
 |_,[],us,.nil,h=>.nil
 | _,q::kx,us,.cons e t,h=>by
  rw[Nw]at h;cases us with
  |nil=>rw[Rws.nil_iff]at h;cases h
  |cons u us=>
   rw[Rws.cons_iff]at h;obtain⟨v,d,c,b,a⟩:=h;cases c;exact .cons ⟨e.1,e.2,b⟩ (DctR.zip t a)
theorem QbT(m:∀a o,R.F a=some o->R'.F a=some o)(hr:∀j v w,Rw K R (.ref j) v->f j=some w->Rw K R' w v)(e:thO f o=some x)(h:Ro K R o u):Ro K R' x u:=by
 cases o with
 |lst t=>
  unfold thO at e;obtain⟨c,g,d⟩:=Nd.mp e;subst d;obtain⟨s,l,i⟩:=h;exact⟨s,l,Rws.th_ok m hr t s c g i⟩
 |dic r=>
  unfold thO at e;obtain⟨c,g,d⟩:=Nd.mp e;subst d;obtain⟨n,l,i⟩:=h;obtain⟨a,b⟩:=DicR.vals i;exact⟨n,l,DicR.zip b (Rws.th_ok m hr _ _ c g a)⟩
 |dct r=>
  unfold thO at e;obtain⟨c,g,d⟩:=Nd.mp e;subst d;obtain⟨n,l,i⟩:=h;obtain⟨a,b⟩:=DctR.vals i;exact⟨n,l,DctR.zip (Paired.mapP b fun p q z=>⟨Rw.pur_mono m _ _ (QeV z.2) z.1,z.2⟩) (Rws.th_ok m hr _ _ c g a)⟩
 |ins C fs=>cases e
theorem Qbi(f:∀a o,R.F a=some o->R'.F a=some o)(p:Qba o=true)(h:Ro K R o u):Ro K R' o u:=by
 cases o with
 |lst l=>
  obtain⟨j,d,e⟩:=h;exact⟨j,d,Rws.pur_mono f l j p e⟩
 | dic c=>
  obtain⟨g,d,e⟩:=h;refine⟨g,d,?_⟩;have b:ZZ (c.map (·.2))=true:=p;clear p d;revert b
  induction e with
  |nil=>exact fun _=>.nil
  |cons h t i=>
   intro b;rw[Nw]at b;unfold ZZ at b;rw[NJ]at b;exact .cons ⟨h.1,Rw.pur_mono f _ _ b.1 h.2⟩ (i b.2)
 | dct c=>
  obtain⟨g,d,e⟩:=h;refine⟨g,d,?_⟩;have b:ZZ (c.map (·.2))=true:=p;clear p d;revert b
  induction e with
  |nil=>exact fun _=>.nil
  |cons h t i=>
   intro b;rw[Nw]at b;unfold ZZ at b;rw[NJ]at b;exact .cons ⟨Rw.pur_mono f _ _ (QeV h.2.1) h.1,h.2.1,Rw.pur_mono f _ _ b.1 h.2.2⟩ (i b.2)
 |ins C fs=>cases p
theorem QaM(g:∀a o,R.F a=some o->R0.F a=some o)(b:∀(i n:Nat),all[i]?=some n->i<R0.N/\R0.ρ i=R.ρ n):∀{ws:List W} {d:List V} {pre:List Nat} {as:List W} {ns:List Nat},Kn pre.length ws=some (as,ns)->all=pre++ns->Rws K R ws d->Rws K R0 as d
 |[],d,pre,as,ns,e,f,h=>by
  unfold Kn at e;cases e;rw[Rws.nil_iff]at h;subst h;exact Rws.nil
 | w::ws,d,pre,as,ns,e,f,h=>by
  rw[Rws.cons_iff]at h;obtain⟨v,u,rfl,j,h2⟩:=h
  by_cases hw:∃n,w=.ref n
  ·obtain⟨n,rfl⟩:=hw;unfold Kn at e;obtain⟨⟨r,c⟩,m,l⟩:=Nd.mp e;cases l;refine Rws.cons ?_ (QaM g b (pre:=pre++[n]) (ns:=c) (by rw[NH];exact m) (by rw[f];simp) h2);obtain⟨t,s⟩:=b pre.length n (by rw[f];simp);unfold Rw at j ⊢;exact⟨t,by rw[s];exact j.2⟩
  ·have q:(if pur w then(Kn pre.length ws).map fun p=>(w::p.1,p.2)else none)=some (as,ns):=by
    rw[<-e];cases w<;>first|(exact absurd ⟨_,rfl⟩ hw)|(conv=>rhs;unfold Kn)
   split at q
   ·rename_i x;obtain⟨⟨r,c⟩,m,l⟩:=Nd.mp q;cases l;exact Rws.cons (Rw.pur_mono g w v x j) (QaM g b m f h2)
   ·cases q
theorem Jp:∀(ns:List Nat) (os:List MO) (h:MH),(Qu ns os h).length=h.length
 |[],_,h=>by unfold Qu;rfl
 |_::_,[],h=>by unfold Qu;rfl
 |n::ns,o::os,h=>by unfold Qu;rw[Jp ns os,Dx]
theorem KE:∀(ns:List Nat) (os:List MO) (h:MH) (n:Nat),n∉ns->(Qu ns os h)[n]?=h[n]?
 |[],_,h,n,_=>by unfold Qu;rfl
 |_::_,[],h,n,_=>by unfold Qu;rfl
 |m::ns,o::os,h,n,a=>by
  unfold Qu;rw[KE ns os _ n (fun z=>a (Ny _ z)),Da (fun z=>a (by rw[z];exact NA))]
theorem Uq:∀(ns:List Nat) (os:List MO) (h:MH) (i n:Nat),ns.Nodup->ns.length=os.length->ns[i]?=some n->n<h.length->(Qu ns os h)[n]?=os[i]?
 |[],_,h,i,n,_,_,e,_=>by simp at e
 |m::ns,[],h,i,n,_,a,_,_=>by simp at a
 |m::ns,o::os,h,0,n,hd,a,e,b=>by
  simp at e;subst e;unfold Qu;rw[KE ns os _ m (EB.mp hd).1,E4 b];rfl
 |m::ns,o::os,h,i+1,n,hd,a,e,b=>by
  unfold Qu;rw[Uq ns os (h.set m o) i n (EB.mp hd).2 (by simpa using a) (by simpa using e) (by rw[Dx];exact b)];simp
end
end Mi
namespace Mi
open L2
theorem Gz:∀{ws:List W} {k:Nat} {as:List W} {ns:List Nat},Kn k ws=some (as,ns)->as.length=ws.length
  |[],k,as,ns,e=>by unfold Kn at e;cases e;rfl
  | w::ws,k,as,ns,e=>by
    cases w<;>unfold Kn at e<;>first
      | (obtain⟨⟨d,a⟩,c,b⟩:=Nd.mp e
         cases b
         simp[Gz c])
      | (split at e
         · obtain⟨⟨d,a⟩,c,b⟩:=Nd.mp e;cases b;simp[Gz c]
         · cases e)
theorem Qau{a:List Nat}(e:a.findIdx? (·==j)=some i):a[i]?=some j:=by
 rw[EF]at e;obtain⟨h,b,_⟩:=e;rw[Nl h];simp at b;rw[b]
theorem GW{js:List Nat}(e:js.findIdx? (·==j)=none):j∉js:=by
 rw[Fw]at e;intro z;have:=e j z;simp at this
theorem QeD(e:Qc9 h n=some o):h[n]?=some o/\Qba o=true:=by
 unfold Qc9 at e;split at e
 ·rename_i c b;split at e
  ·rename_i a;cases e;exact⟨b,a⟩
  ·cases e
 ·cases e
theorem Qab{a:List Nat}(h:a.Nodup){i b j:Nat}(e:a[i]?=some j)(c:a[b]?=some j):i=b:=
 (List.getElem?_inj (Nf.mp e).1 h).mp (e.trans c.symm)
section
variable{K:Ng}
open Classical in
theorem Qlx(q:spM K n (box fr m) vs H Q E):spM K n m vs H Q E:=by
 obtain⟨R,ws,h,wx,h2,hl,L,ax,e,k⟩:=q;unfold box at e;obtain⟨⟨as,A⟩,e1,e2⟩:=Nc.mp e;unfold Qdb at e2;split at e2
 case isFalse=>cases e2
 rename_i hd;obtain⟨h0,e3,e4⟩:=Nc.mp e2;obtain⟨⟨w,g⟩,e5,e6⟩:=Nc.mp e4;dsimp only at e6;split at e6
 case isFalse=>cases e6
 rename_i hj;obtain⟨a4,a3⟩:=hj;obtain⟨wy,e7,e8⟩:=Nc.mp e6;obtain⟨os,e9,a8⟩:=Nc.mp e8;obtain⟨us,am,a7⟩:=Nd.mp a8;cases a7;generalize a9:fr w=js at *
 have X:∀(i x:Nat),A[i]?=some x->x<R.N/\∃o,h[x]?=some o/\h0[i]?=some o/\Qba o=true:=fun i x l=>by
  obtain⟨o,D,t⟩:=(QE e3).2 i x l;obtain⟨z3,z4⟩:=QeD t;exact⟨by rw[L.len];exact(Nf.mp z3).1,o,z3,D,z4⟩
 have af:∀x,x∈A->∃i:Nat,A[i]?=some x:=fun x l=>NC.mp l
 let R0:Rn:={ ρ:=fun i=>R.ρ (A.getD i 0),N:=A.length,F:=R.F,G:=fun a=>if∃x,x<R.N/\x∉A/\R.ρ x=a then H a else R.G a }
 have T:∀(i x:Nat),A[i]?=some x->i<R0.N/\R0.ρ i=R.ρ x:=fun i x l=>by
  refine⟨(Nf.mp l).1,?_⟩;show R.ρ (A.getD i 0)=_;rw[EH,l];rfl
 have ah:∀i:Nat,i<A.length->∃x,A[i]?=some x:=fun i O=>⟨A[i],Nl O⟩
 have al:∀x,x<R.N->x∉A->R0.G (R.ρ x)=H (R.ρ x):=fun x l hn=>if_pos ⟨x,l,hn,rfl⟩
 have ak:∀a o,R.G a=some o->R0.G a=some o:=fun a o z=>by
  show(if∃x,x<R.N/\x∉A/\R.ρ x=a then H a else R.G a)=some o;split
  ·exact L.gsub a o z
  ·exact z
 have ay:Rh K R0 h0 H:=by
  refine⟨(QE e3).1,L.sub,fun i O=>?_,fun i j O hj ee=>?_,fun i o O=>?_,fun a o ha=>?_,fun i O=>?_,fun a o ha=>?_⟩
  ·obtain⟨x,l⟩:=ah i O;rw[(T i x l).2];exact L.sep x (X i x l).1
  ·obtain⟨x,l⟩:=ah i O;obtain⟨y,U⟩:=ah j hj;rw[(T i x l).2,(T j y U).2]at ee;have:=L.inj x y (X i x l).1 (X j y U).1 ee;subst this;exact Qab hd l U
  ·have a6:i<A.length:=by rw[(QE e3).1];exact(Nf.mp O).1
   obtain⟨x,l⟩:=ah i a6;obtain⟨_,o',D,t,z3⟩:=X i x l;rw[O]at t;cases t;rw[(T i x l).2];exact Qbi (R:=R) (R':=R0) (fun _ _ z=>z) z3 (L.obj x o D)
  ·have J:(if∃x,x<R.N/\x∉A/\R.ρ x=a then H a else R.G a)=some o:=ha;split at J
   ·exact J
   ·exact L.gsub a o J
  ·obtain⟨x,l⟩:=ah i O;rw[(T i x l).2];show(if∃y,y<R.N/\y∉A/\R.ρ y=R.ρ x then H (R.ρ x)else R.G (R.ρ x))=none;rw[if_neg]
   ·exact L.gsep x (X i x l).1
   ·rintro⟨y,U,az,ey⟩
    have:=L.inj y x U (X i x l).1 ey;subst this;exact az (NC.mpr ⟨i,l⟩)
  ·have J:(if∃x,x<R.N/\x∉A/\R.ρ x=a then H a else R.G a)=some o:=ha;split at J
   ·rename_i l;obtain⟨x,l,_,rfl⟩:=l;exact L.sep x l
   ·exact L.gf a o J
 refine⟨R0,as,h0,w,g,(Gz e1).trans hl,ay,QaM (R:=R) (R0:=R0) (pre:=[]) (fun _ _ z=>z) T e1 rfl ax,e5,fun R1 H1 v x1 s rv=>?_⟩;have ab:R1.G=R0.G:=x1.g
 have aa:∀(i x:Nat),A[i]?=some x->i<R1.N/\R1.ρ i=R.ρ x:=fun i x l=>by
  obtain⟨D,t⟩:=T i x l;exact⟨Nk D x1.n,(x1.ρ i D).trans t⟩
 have Y:∀(i j:Nat),js[i]?=some j->A.length<=j/\j<R1.N/\∃o u,us[i]?=some u/\g[j]?=some o/\thO (res (Xn A js h.length) g 3) o=some u:=fun i j p=>by
  obtain⟨u,D,t⟩:=(QE am).2 i j p;obtain⟨o,z3,z4⟩:=Nc.mp t;exact⟨a3 j (NC.mpr ⟨i,p⟩),by rw[s.len];exact(Nf.mp z3).1,o,u,D,z3,z4⟩
 have P:∀x,x<R.N->∀j,A.length<=j->j<R1.N->R1.ρ j≠R.ρ x:=fun x l j hj aq ee=>by
  by_cases hm:x∈A
  ·obtain⟨i,O⟩:=af x hm;obtain⟨D,t⟩:=aa i x O;have:=s.inj j i aq D (ee.trans t.symm);have:=(Nf.mp O).1;lia
  ·have z:=s.gsep j aq;rw[ab,ee,al x l hm]at z;obtain⟨_,u,_,hu⟩:=L.there l;rw[hu]at z;cases z
 let R2:Rn:={ ρ:=fun n=>if n<R.N then R.ρ n else R1.ρ (js.getD (n-R.N) 0),N:=R.N+js.length,F:=fun a=>match R1.F a with|some o=>some o|none=>if∃j,A.length<=j/\j<R1.N/\j∉js/\R1.ρ j=a then H1 a else none,G:=R.G }
 have C:∀x,x<R.N->R2.ρ x=R.ρ x:=fun x l=>if_pos l
 have I:∀(i j:Nat),js[i]?=some j->R2.ρ (R.N+i)=R1.ρ j:=fun i j p=>by
  show(if R.N+i<R.N then R.ρ (R.N+i)else R1.ρ (js.getD (R.N+i-R.N) 0))=_;rw[if_neg (NU.mpr (Nv _ _)),LH,EH,p];rfl
 have f1:∀a o,R1.F a=some o->R2.F a=some o:=fun a o z=>by
  show(match R1.F a with|some o=>some o|none=>if∃j,A.length<=j/\j<R1.N/\j∉js/\R1.ρ j=a then H1 a else none)=some o;rw[z]
 have Z:∀a,R1.F a=none->(¬∃j,A.length<=j/\j<R1.N/\j∉js/\R1.ρ j=a)->R2.F a=none:=fun a D t=>by
  show(match R1.F a with|some o=>some o|none=>if∃j,A.length<=j/\j<R1.N/\j∉js/\R1.ρ j=a then H1 a else none)=none;rw[D];exact if_neg t
 have ar:∀j,A.length<=j->j<R1.N->j∉js->R2.F (R1.ρ j)=H1 (R1.ρ j):=fun j a b c=>by
  show(match R1.F (R1.ρ j)with|some o=>some o|none=>if∃j',A.length<=j'/\j'<R1.N/\j'∉js/\R1.ρ j'=R1.ρ j then H1 (R1.ρ j)else none)=_;rw[s.sep j b];exact if_pos ⟨j,a,b,c,rfl⟩
 have aj:Ext R R2:=⟨Nv _ _,fun x l=>C x l,fun a o z=>f1 a o (x1.f a o z),rfl⟩
 have B:∀x,x<R2.N->x<R.N\/∃i j:Nat,x=R.N+i/\js[i]?=some j:=fun x l=>by
  have ai:x<R.N+js.length:=l
  by_cases z:x<R.N
  ·exact .inl z
  ·exact .inr ⟨x-R.N,js[x-R.N]'(Lr (NU.mp z) ai),by lia,Nl (Lr (NU.mp z) ai)⟩
 have hr:∀d j v w,Rw K R1 (.ref j) v->res (Xn A js h.length) g d j=some w->Rw K R2 w v:=by
  have ae:∀j v x,Rw K R1 (.ref j) v->Xn A js h.length j=some x->Rw K R2 (.ref x) v:=fun j v x r z=>by
   unfold Rw at r ⊢;unfold Xn at z;split at z
   ·rename_i y U;cases z;obtain⟨D,t⟩:=aa j x U;have an:=(X j x U).1;exact⟨Nk an aj.n,by rw[C x an,<-t];exact r.2⟩
   ·obtain⟨i,D,t⟩:=Nd.mp z;have p:=Qau D;subst t;rw[<-L.len,I i j p];exact⟨EC (Nf.mp p).1 _,r.2⟩
  intro d
  induction d with
  |zero=>
   intro j v w r z;unfold res at z;obtain⟨x,D,t⟩:=Nd.mp z;subst t;exact ae j v x r D
  | succ d ih=>
   intro j v w r z;unfold res at z;split at z
   ·rename_i x l;cases z;exact ae j v x r l
   ·rename_i M;split at z
    ·rename_i av hg;obtain⟨aw,D,t⟩:=Nd.mp z;subst t;obtain⟨xs,o1,o2⟩:=s.obj j _ hg;have ao:j<R1.N/\v=.ref (R1.ρ j):=by unfold Rw at r;exact r
     unfold Xn at M;split at M
     ·cases M
     ·rename_i a2;have ap:j∉js:=GW (by simpa using M);unfold Rw;refine⟨R1.ρ j,xs,ao.2,?_,Rws.th_ok f1 ih av xs aw D o2⟩;rw[ar j (Lu.mp a2) ao.1 ap];exact o1
    ·cases z
 refine k R2 H1 v aj ⟨?_,fun a o ha=>?_,fun x l=>?_,fun x y l U ee=>?_,fun x o l=>?_,fun a o ha=>?_,fun x l=>?_,fun a o ha=>?_⟩ (Rw.th_ok f1 (hr 3) w v _ e7 rv)
 ·show R.N+js.length=_;rw[NH,Jp,<-(QE am).1,L.len]
 ·have J:(match R1.F a with|some o=>some o|none=>if∃j,A.length<=j/\j<R1.N/\j∉js/\R1.ρ j=a then H1 a else none)=some o:=ha;split at J
  ·rename_i o' a1;cases J;exact s.sub a _ a1
  ·split at J
   ·exact J
   ·cases J
 ·rcases B x l with l|⟨i,j,rfl,p⟩
  ·rw[C x l];refine Z _ ?_ (fun⟨j,a,b,_,c⟩=>P x l j a b c)
   by_cases hm:x∈A
   ·obtain⟨i,O⟩:=af x hm;obtain⟨D,t⟩:=aa i x O;rw[<-t];exact s.sep i D
   ·obtain⟨_,u,_,hu⟩:=L.there l;exact s.gf _ u (by rw[ab,al x l hm];exact hu)
  ·obtain⟨D,t,_⟩:=Y i j p;rw[I i j p];refine Z _ (s.sep j t) (fun⟨j',a,b,c,d⟩=>?_);have:=s.inj j' j b t d;subst this;exact c (NC.mpr ⟨i,p⟩)
 ·rcases B x l with l|⟨i,j,rfl,p⟩<;>rcases B y U with U|⟨i',j',rfl,S⟩
  ·rw[C x l,C y U]at ee;exact L.inj x y l U ee
  ·rw[C x l,I i' j' S]at ee;obtain⟨D,t,_⟩:=Y i' j' S;exact absurd ee.symm (P x l j' D t)
  ·rw[C y U,I i j p]at ee;obtain⟨D,t,_⟩:=Y i j p;exact absurd ee (P y U j D t)
  ·rw[I i j p,I i' j' S]at ee;obtain⟨_,t,_⟩:=Y i j p;obtain⟨_,au,_⟩:=Y i' j' S;have:=s.inj j j' t au ee;subst this;rw[Qab a4 p S]
 ·have ai:x<R2.N:=by
   have:=(Nf.mp l).1;rw[NH,Jp,<-(QE am).1,<-L.len]at this;exact this
  rcases B x ai with hn|⟨i,j,rfl,p⟩
  ·rw[NO (by rw[Jp,<-L.len];exact hn)]at l;rw[C x hn]
   by_cases hm:x∈A
   ·obtain⟨i,O⟩:=af x hm;obtain⟨D,t⟩:=aa i x O;have a5:=(Nf.mp O).1;rw[Uq A os h i x hd (by rw[<-(QE e9).1,EJ]) O (by rw[<-L.len];exact hn)]at l;obtain⟨u,y1,y2⟩:=(QE e9).2 i i (by rw[Em a5]);rw[l]at y1;cases y1;obtain⟨o',y3,y4⟩:=Nc.mp y2;rw[<-t];exact QbT f1 (hr 3) y4 (s.obj i o' y3)
   ·rw[KE A os h x hm]at l;obtain⟨_,u,_,hu⟩:=L.there hn;have a0:H1 (R.ρ x)=some u:=s.gsub _ u (by rw[ab,al x hn hm];exact hu);have:=L.obj x o l;rw[hu]at this;rw[a0];exact this.mono aj
  ·obtain⟨D,t,o',u,y1,y2,y3⟩:=Y i j p;rw[DC (by rw[Jp,<-L.len];exact Nv _ _),Jp,<-L.len,LH,y1]at l;cases l;rw[I i j p];exact QbT f1 (hr 3) y3 (s.obj j o' y2)
 ·exact s.gsub a o (by rw[ab];exact ak a o ha)
 ·rcases B x l with l|⟨i,j,rfl,p⟩
  ·rw[C x l];exact L.gsep x l
  ·rw[I i j p];obtain⟨_,t,_⟩:=Y i j p;cases z:R2.G (R1.ρ j)with
   |none=>rfl
   |some u=>
    have z3:=s.gsep j t;rw[ab,ak _ u z]at z3;cases z3
 ·have hg:R1.G a=some o:=by rw[ab];exact ak a o ha
  refine Z a (s.gf a o hg) (fun⟨j,_,b,_,d⟩=>?_);have z3:=s.gsep j b;rw[d,hg]at z3;cases z3
theorem Cal.box(b:W->List Nat)(C:Cal P w K a base k x ps g):Cal P w K a base k x ps (Mi.box b g):=
 C.imp fun _ _ _ _ q=>Qlx q
end
noncomputable def frN:W->List Nat:=fun _=>[]
noncomputable def frR:W->List Nat
 |.ref j=>[j]
 |_=>[]
def Qag:List Nat->List W->MSt->Option MSt
 |[],[],σ=>some σ
 |i::is,w::ws,σ=>Qag is ws (σ.set i (some w))
 |_,_,_=>none
def Zb(is:List Nat):MG:=fun w a _=>match w with|.tup b=>Qag is b a|_=>none
def QcK:List Nat->TGs
 |[]=>Qpn
 |i::is=>Qlj (Qeq i) (QcK is)
theorem Q0:PGs X [] (QcK []):=Qjt
theorem Zq(hN:X.N.Nodup)(b:X.N[i]?=some x)(a:Loc X.env.scope x)(h:PGs X es (QcK is))(c:X.fn x=true\/X.env.scope.names.lookup x=some .local)
  : PGs X (.Name x pos::es) (QcK (i::is)):=Qf1 (Qfp hN b a c) h
theorem QbY{K:Ng}:∀{is:List Nat} {ws:List W} {xs:List V} {a σ1:MSt} {σ:L2.St},Qag is ws a=some σ1->Rws K R ws xs->Rst K R a σ->(∀b,Rst K R σ1 b->C b H)->QcK is xs σ H C
 |[],[],xs,a,σ1,σ,e,r,s,k=>by
  cases e;rw[Rws.nil_iff]at r;exact⟨r,k σ s⟩
 |i::is,w::ws,xs,a,σ1,σ,e,r,s,k=>by
  rw[Rws.cons_iff]at r;obtain⟨v,c,rfl,f,d⟩:=r;exact⟨v,c,rfl,QbY (is:=is) e d (s.set f) k⟩
 |[],_::_,_,_,_,_,e,_,_,_=>by cases e
 |_::_,[],_,_,_,_,e,_,_,_=>by cases e
theorem GU:∀{is:List Nat} {ws:List W} {σ σ1:MSt},Qag is ws σ=some σ1->ws.length=is.length
 |[],[],_,_,_=>rfl
 |i::is,w::ws,σ,σ1,e=>by
  have:=GU (is:=is) (ws:=ws) e;simp[this]
 |[],_::_,_,_,e=>by cases e
 |_::_,[],_,_,e=>by cases e
theorem Q1{is:List Nat}(o:X.calm=true)(h:PGs X es (QcK is))(n:(assignEach es X.env).length=is.length)(m:(assignEach es X.env).findIdx? (·.1)=none):PMG X (.Tuple es k pos) (Zb is):=
 Qid (Qmc o h n m) fun v p H C g=>by
  obtain⟨R,d,h,w,f,b,st,rw,e,q⟩:=g;unfold Zb at e;split at e
  ·rename_i r;obtain⟨ad,i,rfl,l,c⟩:=b.tupAt rw;exact⟨ad,i,rfl,l,by rw[<-c.length];exact GU e,QbY e c st fun a j=>q R H a (Ext.refl _) b j⟩
  ·cases e
noncomputable def QkR(g:MG)(m:ME):SM:=fun b h=>(m b h).bind fun p=>(g p.1 b p.2).map fun a=>.nx a p.2
theorem QfF(u:PM X e m)(t:PMG X b g)(q:swapsWithSole [b] e pos.line X.env=pure false)(hw:swappedStores [b] e X.env=pure none)(c:(assignEach [b] X.env).map (·.2)=[assign b X.env]) :
  PMS X (.Assign [b] e pos) (QkR g m):=X8 (QhK u t q hw c) <|by
 rintro D E H ⟨R,a,h,r,p,s,e,k⟩
 obtain⟨⟨w,c⟩,A,z⟩:=Nc.mp e;obtain⟨d,y,x⟩:=Nd.mp z;cases x;exact⟨R,a,h,w,c,p,s,A,fun R1 F v l i rv=>⟨R1,a,c,w,d,i,s.mono l,rv,y,fun B C f n j o=>k B C f (l.trans n) j o⟩⟩
noncomputable def QiT(ws:List W)(h:MH):Option (W×MH):=match ws with
 |[.int i,.int j]=>some (.int (if j>i then j else i),h)
 |_=>none
noncomputable def QlK(ws:List W)(h:MH):Option (W×MH):=match ws with
 |[.int i,.int j]=>some (.int (if j<i then j else i),h)
 |_=>none
noncomputable def Qkr(ws:List W)(h:MH):Option (W×MH):=match ws with
 |[.int i]=>some (.int i,h)
 |[.bl b]=>some (.int (if b then 1 else 0),h)
 |_=>none
section
variable{X:Cx}
theorem GN(j:X.calm=true):CallR X (.builtin "max") (Fs X.K QiT):=by
 intro a s b H c d Q I r q;refine QdQ j a s b H c d Q I r ?_;obtain⟨R,h,l,w,m,f,rw,e,k⟩:=q;unfold QiT at e;split at e
 ·cases e;obtain⟨v,u,rfl,i,g⟩:=Qhm rw;exact⟨_,_,by rw[i.int_eq,g.int_eq],k R H _ (Ext.refl _) f (Rw.int _)⟩
 ·cases e
theorem Qet(j:X.calm=true):CallR X (.builtin "min") (Fs X.K QlK):=by
 intro a s b H c d Q I r q;refine QdL j a s b H c d Q I r ?_;obtain⟨R,h,l,w,m,f,rw,e,k⟩:=q;unfold QlK at e;split at e
 ·cases e;obtain⟨v,u,rfl,i,g⟩:=Qhm rw;exact⟨_,_,by rw[i.int_eq,g.int_eq],k R H _ (Ext.refl _) f (Rw.int _)⟩
 ·cases e
theorem Qak:CallR X (.type "int") (Fs X.K Qkr):=by
 intro a s d H f g Q I r q;refine QeN a s d H f g Q I r ?_;obtain⟨R,h,i,w,j,c,rw,e,k⟩:=q;unfold Qkr at e;split at e
 ·cases e;obtain⟨v,rfl,b⟩:=W8 rw;exact .inl ⟨_,by rw[b.int_eq],k R H _ (Ext.refl _) c (Rw.int _)⟩
 ·cases e;obtain⟨v,rfl,b⟩:=W8 rw;exact .inr ⟨_,by rw[b.bl_eq],k R H _ (Ext.refl _) c (Rw.int _)⟩
 ·cases e
noncomputable def rep(x:Str)(n:Int):Str:=⟨((List.replicate n.toNat x.cps.toList).flatten).toArray⟩
theorem QaE:∀(l:List (Array Nat)) (a:Array Nat),l.foldl (·++·) a=(a.toList++(l.map Array.toList).flatten).toArray
 |[],a=>by simp
 |b::l,a=>by rw[Yar,QaE l];simp
theorem Qh3(x:Str)(n:Int):(⟨(List.replicate n.toNat x.cps).foldl (·++·) #[]⟩:Str)=rep x n:=by
 unfold rep;rw[QaE];simp
theorem Qhc(x:Str)(h:n<1):Str.empty=rep x n:=by
 unfold rep;rw[show n.toNat=0 by lia];rfl
theorem QjS(x:Str):x=rep x 1:=by
 unfold rep;simp
theorem QjY(n:Int)(h:(x.length==0)=true):x=rep x n:=by
 unfold rep
 have:x.cps=#[]:=by
  have:x.cps.size=0:=by simpa[Str.length]using h
  exact Array.eq_empty_of_size_eq_zero this
 obtain⟨c⟩:=x;simp at this;subst this;simp
def Yi(a b:W)(h:MH):Option (W×MH):=match a,b with
 |.str x,.int n=>if n<1000/\-1000<n/\x.length<1000 then some (.str (rep x n),h)else none
 |a,b=>QkE a b h
theorem QiM:OpR X (binaryOp .Mult) (fun x y H Q=>∃z n,x=.str z/\y=.int n/\(n<1000/\-1000<n/\z.length<1000)/\Q (.str (rep z n)) H):=by
  intro b s e H x y v u Q I h g ⟨z,n,o,m,⟨B,A,w⟩,q⟩;subst o m;obtain⟨t,rfl⟩:=h;obtain⟨r,rfl⟩:=g
  have i:z.length*n.toNat<1000000:=by
    calc z.length*n.toNat<=999*999:=IU (by lia) (by lia)
      _<1000000:=by decide
  refine PySem.P.mul_str (by rw[decide_eq_false (by lia),decide_eq_false (by lia)];rfl) (fun a _=>?_) (fun a _=>?_) ?_
  · have:(2^63-1)/n >= 1000:=by
      rw[ge_iff_le,Int.le_ediv_iff_mul_le (by lia)];lia
    lia
  · unfold Builtin.Str.tooLong
    exact decide_eq_false (by show¬_;have:sizeLine=16777216:=by decide
                              lia)
  · have done:∀(y:Str) (tk:Tok) (d:Shared),y=rep z n->Inv X b e H d->EP X b e Q (.str y tk) d:=fun y tk d l p=>⟨.str y,H,p,⟨_,rfl⟩,by rw[l];exact q⟩
    split
    · rename_i f;exact⟨by decide,done _ _ _ (Qhc z f) (I.tok _)⟩
    · split
      · rename_i f c;rw[De]at c;refine done _ _ _ ?_ I
        rcases c with c|c
        · have:n=1:=by simpa using c
          subst this;exact QjS z
        · exact QjY n c
      · refine⟨?_,done _ _ _ (Qh3 z n) (I.tok _)⟩;rw[Qh3]
        have j:(rep z n).length=n.toNat*z.length:=by
          unfold rep Str.length;simp
        rw[j,Nat.mul_comm];have:sizeLine=16777216:=by decide
        exact Nr (Nk (N4 i (by decide)) (Nt this.symm))
theorem Kg:OpR X (binaryOp .Mult) (F2 X.K Yi):=by
 intro c s d H x y v u Q I g f q;obtain⟨R,h,a,b,w,n,i,l,j,e,k⟩:=q;unfold Yi at e;split at e
 ·split at e
  ·rename_i m;cases e;exact QiM c s d H x y v u Q I g f ⟨_,_,l.str_eq,j.int_eq,m,k R H _ (Ext.refl _) i (Rw.str _)⟩
  ·cases e
 ·exact QjT c s d H x y v u Q I g f ⟨R,h,a,b,w,n,i,l,j,e,k⟩
end
section
variable{X:Cx}{elt tg iter c:Expr}{scope:Scope}{pos pos' spos:Pos}{cl:List (Str×Addr)}{Nb:List Str}{cp:List (Option Nat)}{mi:MI}{b:MG}{mt:MT}{me m:ME}{fin:List W->MH->Option (W×MH)}{i:Nat}{x:Str}{e:Expr}
theorem Qkf{K:Ng}(q:tS K (QK i m) D σ H):tI K m σ H fun v f=>Qeq i v σ f D.nx:=by
 obtain⟨R,a,h,r,j,s,e,k⟩:=q;obtain⟨⟨w,l⟩,o,n⟩:=Nd.mp e;cases n;exact⟨R,a,h,w,l,j,s,o,fun R1 f v g d rv=>k R1 f _ g d ((s.mono g).set rv)⟩
theorem W7(hN:X.N.Nodup)(n:X.N[i]?=some x)(v:Loc X.env.scope x)(o:X.fn x=true\/X.env.scope.names.lookup x=some .local)(A:QcO X.K fin)(E:X.calm=true)(B:BlkOk X scope cl Nb cp)(y:PMI X tg iter mi)(z:∀a d C j f,PMG (Mi.blk X scope cl Nb a d C j f) tg b)
  (D:∀a d C j f,PM (Mi.blk X scope cl Nb a d C j f) elt me) (w:∀x,foldedSetIterable iter X.env x=pure x) (l:swapsWith (.ListComp elt [⟨tg,iter,[],0⟩] scope pos) (some (.Name x pos')) spos.line X.env=pure true) :
  PMS X (.Assign [.Name x pos'] (.ListComp elt [⟨tg,iter,[],0⟩] scope pos) spos) (QK i (QN fin mi cp b Kl me)):=
 X8 (Qjo (g:=tIG X.K b) (te:=tI X.K me) (tt:=tIT X.K Kl) hN n v o l E B y z (fun a d C j f p s F H Q I q=>wpAny_tests_nil (by
  obtain⟨R,r,h,t,L,u,st,e,k⟩:=q;cases e
  exact⟨H,I,k R H (Ext.refl _) u⟩)) D w) fun _ _ _ q=>QaN A (Qkf q)
end
set_option checkBinderAnnotations false in
noncomputable def ob[f:b->Option a](x:Option b):Option a:=x.bind f
set_option checkBinderAnnotations false in
noncomputable def om[f:b->a](x:Option b):Option a:=x.map f
@[simp]theorem Qjr:@ob _ _ f (some a)=f a:=id rfl
@[simp]theorem Qm7:@om _ _ f (some a)=some (f a):=id rfl
def Qn3(b:SM):MF->Option MF
 |.nx σ h=>b σ h
 |r=>some r
section
variable{σ σ':MSt}{h h':MH}{a b:SM}{m ma mb mc:ME}{t u:MT}{ms:MA}{w x y:W}{ws:List W}
@[simp]theorem QnC:Qn3 b (.nx σ h)=b σ h:=id rfl
@[simp]theorem Qon:Qn3 b (.rt w h)=some (.rt w h):=id rfl
@[simp]theorem QqT:Qm a b σ h=@ob _ _ (Qn3 b) (a σ h):=by
 unfold Qm;refine congrArg (fun c=>@ob _ _ c (a σ h)) (funext fun r=>?_);cases r<;>rfl
@[simp]theorem QoT:Qw σ h=some (.nx σ h):=id rfl
@[simp]theorem Qql:QR m σ h=@om _ _ (fun p=>.rt p.1 p.2) (m σ h):=id rfl
noncomputable def onB(a b:SM)(σ:MSt)(p:Bool×MH):Option MF:=if p.1=true then a σ p.2 else b σ p.2
@[simp]theorem Qov(c:Bool):onB a b σ (c,h)=if c=true then a σ h else b σ h:=id rfl
@[simp]theorem QqL:Zt t a b σ h=@ob _ _ (onB a b σ) (t σ h):=by
 unfold Zt;refine congrArg (fun d=>@ob _ _ d (t σ h)) (funext fun p=>?_);obtain⟨c,h⟩:=p;cases c<;>rfl
@[simp]theorem QpI:Jb m σ h=@om _ _ (fun p=>.nx σ p.2) (m σ h):=id rfl
@[simp 500]theorem Qqc:QK i m σ h=@om _ _ (fun p=>.nx (σ.set i (some p.1)) p.2) (m σ h):=id rfl
@[simp]theorem QqP:Qkt i f m σ h=@ob _ _ (fun x=>@ob _ _ (fun p=>@om _ _ (fun q=>.nx (σ.set i (some q.1)) q.2) (f x.1 p.1 p.2)) (m σ h)) (Qb i σ h):=by
 unfold Qkt Qb
 rcases σ[i]? with _|_|x<;>rfl
@[simp 1100]theorem Qqt{v0 v1 x:Option W}{r:MSt}:List.set (v0::v1::r) 1 x=v0::x::r:=id rfl
@[simp 1100]theorem Qra{v0 v1 c x:Option W}{r:MSt}:List.set (v0::v1::c::r) 2 x=v0::v1::x::r:=id rfl
@[simp 1100]theorem QqQ{v0 v1 c d x:Option W}{r:MSt}:List.set (v0::v1::c::d::r) 3 x=v0::v1::c::x::r:=id rfl
@[simp 1100]theorem Qqf{v0 v1 d c v4 x:Option W}{r:MSt}:List.set (v0::v1::d::c::v4::r) 4 x=v0::v1::d::c::x::r:=id rfl
@[simp 1100]theorem Qrk{v0 v1 d c v4 e x:Option W}{r:MSt}:List.set (v0::v1::d::c::v4::e::r) 5 x=v0::v1::d::c::v4::x::r:=id rfl
@[simp 1100]theorem Qp8{v0 v1 e d v4 c v6 x:Option W}{r:MSt}:List.set (v0::v1::e::d::v4::c::v6::r) 6 x=v0::v1::e::d::v4::c::x::r:=id rfl
@[simp 1100]theorem QqA{v0 v1 e d v4 c v6 f x:Option W}{r:MSt}:List.set (v0::v1::e::d::v4::c::v6::f::r) 7 x=v0::v1::e::d::v4::c::v6::x::r:=id rfl
@[simp 1100]theorem Qrn{v0 v1 f e v4 d v6 c g x:Option W}{r:MSt}:List.set (v0::v1::f::e::v4::d::v6::c::g::r) 8 x=v0::v1::f::e::v4::d::v6::c::x::r:=id rfl
@[simp 1100]theorem Qqx{v0 v1 g f v4 e v6 d c i x:Option W}{r:MSt}:List.set (v0::v1::g::f::v4::e::v6::d::c::i::r) 9 x=v0::v1::g::f::v4::e::v6::d::c::x::r:=id rfl
@[simp]theorem Qrq:QkR g m σ h=@ob _ _ (fun p=>@om _ _ (fun σ1=>.nx σ1 p.2) (g p.1 σ p.2)) (m σ h):=id rfl
@[simp]theorem Ql6:Qb 0 (some o::r) h=some (o,h):=id rfl
@[simp]theorem Qpb:Qb 1 (v0::some o::r) h=some (o,h):=id rfl
@[simp]theorem QoP:Qb 2 (v0::v1::some o::r) h=some (o,h):=id rfl
@[simp]theorem QpN:Qb 3 (v0::v1::c::some o::r) h=some (o,h):=id rfl
@[simp]theorem Qps:Qb 4 (v0::v1::d::c::some o::r) h=some (o,h):=id rfl
@[simp]theorem QoI:Qb 5 (v0::v1::d::c::v4::some o::r) h=some (o,h):=id rfl
@[simp]theorem QpO:Qb 6 (v0::v1::e::d::v4::c::some o::r) h=some (o,h):=id rfl
@[simp]theorem Qo0:Qb 7 (v0::v1::e::d::v4::c::v6::some o::r) h=some (o,h):=id rfl
@[simp]theorem Qpk:Qb 8 (v0::v1::f::e::v4::d::v6::c::some o::r) h=some (o,h):=id rfl
@[simp]theorem QpV:Qb 9 (v0::v1::g::f::v4::e::v6::d::c::some o::r) h=some (o,h):=id rfl
@[simp 400]theorem QpU:Qb (i+1) (o::r) h=Qb i r h:=by
 unfold Qb;rw[FR]
@[simp]theorem s_c:mC w σ h=some (w,h):=id rfl
@[simp 500]theorem Qp1:Qe f ma mb σ h=@ob _ _ (fun p=>@ob _ _ (fun q=>f p.1 q.1 q.2) (mb σ p.2)) (ma σ h):=id rfl
@[simp]theorem Qrw:mUn f ma σ h=@ob _ _ (fun p=>f p.1 p.2) (ma σ h):=id rfl
@[simp]theorem Qqp:mFn f ms σ h=@ob _ _ (fun p=>f p.1 p.2) (ms σ h):=id rfl
@[simp]theorem Qpo:Qi n g ms σ h=@ob _ _ (fun p=>if p.1.length=n then g p.1 p.2 else none) (ms σ h):=id rfl
@[simp]theorem Qn7:Qc σ h=some ([],h):=id rfl
@[simp 600]theorem Qpp:Qe f ma (mC w) σ h=@ob _ _ (fun p=>f p.1 w p.2) (ma σ h):=id rfl
@[simp 600]theorem Qom:Qa (mC w) ms σ h=@ob _ _ (fun q=>some (w::q.1,q.2)) (ms σ h):=id rfl
@[simp 610]theorem Qnx:Qa m Qc σ h=@ob _ _ (fun p=>some ([p.1],p.2)) (m σ h):=id rfl
@[simp 620]theorem QmL:Qa (mC w) Qc σ h=some ([w],h):=id rfl
@[simp 600]theorem Qo9:QK i (mC w) σ h=some (.nx (σ.set i (some w)) h):=id rfl
@[simp 500]theorem Qmr:Qa m ms σ h=@ob _ _ (fun p=>@ob _ _ (fun q=>some (p.1::q.1,q.2)) (ms σ p.2)) (m σ h):=id rfl
noncomputable def asB(p:W×MH):Option (Bool×MH):=match p.1 with|.bl b=>some (b,p.2)|_=>none
@[simp]theorem QpQ(c:Bool):asB (.bl c,h)=some (c,h):=id rfl
@[simp 500]theorem Qo7:Qj m σ h=@ob _ _ asB (m σ h):=id rfl
@[simp]theorem QpM:KY t σ h=@om _ _ (fun p=>(!p.1,p.2)) (t σ h):=by
 unfold KY
 first|rfl|(cases t σ h<;>rfl)
noncomputable def Qkx(u:MT)(σ:MSt)(p:Bool×MH):Option (Bool×MH):=if p.1=true then u σ p.2 else some (false,p.2)
noncomputable def Qpx(u:MT)(σ:MSt)(p:Bool×MH):Option (Bool×MH):=if p.1=true then some (true,p.2)else u σ p.2
@[simp]theorem QkX(c:Bool):Qkx u σ (c,h)=if c=true then u σ h else some (false,h):=id rfl
@[simp]theorem QmR(c:Bool):Qpx u σ (c,h)=if c=true then some (true,h)else u σ h:=id rfl
@[simp 500]theorem Qb4:J4 t u σ h=@ob _ _ (Qkx u σ) (t σ h):=by
 unfold J4;refine congrArg (fun d=>@ob _ _ d (t σ h)) (funext fun p=>?_);obtain⟨c,h⟩:=p;cases c<;>rfl
@[simp 500]theorem Qp6:GK t u σ h=@ob _ _ (Qpx u σ) (t σ h):=by
 unfold GK;refine congrArg (fun d=>@ob _ _ d (t σ h)) (funext fun p=>?_);obtain⟨c,h⟩:=p;cases c<;>rfl
noncomputable def Qpz(ma mb:ME)(σ:MSt)(p:Bool×MH):Option (W×MH):=if p.1=true then ma σ p.2 else mb σ p.2
@[simp]theorem QmF(c:Bool):Qpz ma mb σ (c,h)=if c=true then ma σ h else mb σ h:=id rfl
@[simp]theorem Qru:mIf t ma mb σ h=@ob _ _ (Qpz ma mb σ) (t σ h):=by
 unfold mIf;refine congrArg (fun d=>@ob _ _ d (t σ h)) (funext fun p=>?_);obtain⟨c,h⟩:=p;cases c<;>rfl
@[simp]theorem Qqe:Ue m σ h=@ob _ _ (fun p=>@om _ _ (fun b=>(b,p.2)) (QhP p.2 p.1)) (m σ h):=by
 unfold Ue;rfl
@[simp]theorem Qrx:mMt T f m ms σ h=@ob _ _ (fun p=>if tyW p.2 T p.1=true then@ob _ _ (fun q=>f p.1 q.1 q.2) (ms σ p.2)else none) (m σ h):=id rfl
end
section
variable{h:MH}{i j:Int}{x y:Str}{ws us:List W}{w:W}
@[simp]theorem QqX:Zj (.int i) (.int j) h=some (.int (i+j),h):=id rfl
@[simp]theorem Qrh:QbS (.int i) (.int j) h=some (.int (i-j),h):=id rfl
@[simp]theorem QrB:wLt (.int i) (.int j) h=some (.bl (decide (i<j)),h):=id rfl
@[simp]theorem Qrz:wLe (.int i) (.int j) h=some (.bl (decide (i<=j)),h):=id rfl
@[simp]theorem QrL:wGt (.int i) (.int j) h=some (.bl (decide (j<i)),h):=id rfl
@[simp]theorem QrG:wGe (.int i) (.int j) h=some (.bl (decide (j<=i)),h):=id rfl
@[simp]theorem Qrp:KN (.int i) h=some (.int (-i),h):=id rfl
@[simp]theorem QoW:QeS (.int i) (.int j) h=some (.int (i+j),h):=id rfl
@[simp]theorem QqN(c:0<j):Qdz (.int i) (.int j) h=some (.int (i%j),h):=Qiq c
@[simp]theorem Qq6(c:0<j)(a:j<1073741824):Qjq (.int i) (.int j) h=some (.int (i/j),h):=QjD ⟨c,a⟩
@[simp]theorem Qpe(c:-18446744073709551616<j)(a:j<18446744073709551616):Yi (.int i) (.int j) h=some (.int (i*j),h):=QdV (.inr ⟨c,a⟩)
@[simp]theorem QpP(c:-18446744073709551616<i)(a:i<18446744073709551616):Yi (.int i) (.int j) h=some (.int (i*j),h):=QdV (.inl ⟨c,a⟩)
@[simp]theorem Qqk(c:0<=j)(b:j<=1000000)(a:i.natAbs<18446744073709551616):Qkl (.int i) (.int j) h=some (.int (i^j.toNat),h):=Qjg ⟨c,b,a⟩
theorem QdM(c:j<1000/\-1000<j/\x.length<1000):Yi (.str x) (.int j) h=some (.str (rep x j),h):=if_pos c
@[simp]theorem Qnc:QiT [.int i,.int j] h=some (.int (if j>i then j else i),h):=id rfl
@[simp]theorem QnW:QlK [.int i,.int j] h=some (.int (if j<i then j else i),h):=id rfl
@[simp]theorem Qqd:QU ws h=if ws.length<=sizeLine then some (.tup ws,h)else none:=id rfl
@[simp]theorem Qqo:Vq ws h=if ws.length<=sizeLine then some (.lst ws,h)else none:=id rfl
@[simp]theorem Qrt:Yq ws h=if ws.length<=sizeLine then some (.ref h.length,h++[.lst ws])else none:=id rfl
@[simp]theorem Qqv:wIx (.tup ws) (.int i) h=@om _ _ (fun w=>(w,h)) (atI ws i):=id rfl
@[simp]theorem QqW:wIx (.lst ws) (.int i) h=@om _ _ (fun w=>(w,h)) (atI ws i):=id rfl
@[simp]theorem QqU:wIx (.frz ws) (.int i) h=@om _ _ (fun w=>(w,h)) (atI ws i):=id rfl
@[simp]theorem QqK:wIx (.ref n) (.int i) h=@ob _ _ (fun(ws:List W)=>@om _ _ (fun w=>(w,h)) (atI ws i)) (match h[n]? with|some (.lst ws)=>some ws|_=>none):=id rfl
@[simp]theorem QoJ:JB [.tup ws] h=some (.int ws.length,h):=id rfl
@[simp]theorem QoG:JB [.lst ws] h=some (.int ws.length,h):=id rfl
@[simp]theorem QkJ:JB [.frz ws] h=some (.int ws.length,h):=id rfl
@[simp]theorem QoY:JB [.ref n] h=@om _ _ (fun(ws:List W)=>(.int ws.length,h)) (match h[n]? with|some (.lst ws)=>some ws|_=>none):=id rfl
theorem QO{xs:List a}{n:Nat}:atI xs (n:Int)=xs[n]?:=by
 cases e:xs[n]? with
 |some x=>exact Qjl e
 |none=>
  unfold atI ixN;have:xs.length<=n:=Lu.mp e;rw[if_pos (by lia)];rw[if_neg (by lia)];rfl
@[simp]theorem Qqu:atI xs 0=xs[0]?:=QO (n:=0)
@[simp]theorem QrA:atI xs 1=xs[1]?:=QO (n:=1)
@[simp]theorem Qpg{a:Type}{xs:List a}{y:a}:atI (xs++[y]) (-1)=some y:=Qhb xs y
@[simp]theorem Qqq:ixN (n+1) 0=some 0:=by unfold ixN;rw[if_pos (by decide),if_pos (by lia)];rfl
@[simp]theorem Qqs:ixN (n+2) 1=some 1:=by unfold ixN;rw[if_pos (by decide),if_pos (by lia)];rfl
@[simp]theorem Qq8:ixN (n+3) 2=some 2:=by unfold ixN;rw[if_pos (by decide),if_pos (by lia)];rfl
theorem Qjd(a:k<n):ixN n (k:Int)=some k:=by unfold ixN;rw[if_pos (by lia),if_pos (by lia)];simp
@[simp]theorem Qo8:ixN (n+1) (-1)=some n:=by unfold ixN;rw[if_neg (by decide),if_pos (by lia)];congr 1;lia
def putAt(o i v:W)(σ:MSt)(h:MH):Option MF:=match o,i with
 |.ref n,.int k=>match h[n]? with
  |some (.lst a)=>@om _ _ (fun j=>.nx σ (h.set n (.lst (a.set j v)))) (ixN a.length k)
  |_=>none
 |_,_=>none
@[simp]theorem Qp5:QfK mo mi a σ h=@ob _ _ (fun v=>@ob _ _ (fun o=>@ob _ _ (fun i=>putAt o.1 i.1 v.1 σ i.2) (mi σ o.2)) (mo σ v.2)) (a σ h):=id rfl
@[simp]theorem Qnb:putAt (.ref n) (.int i) v σ h=match h[n]? with
  |some (.lst xs)=>@om _ _ (fun j=>.nx σ (h.set n (.lst (xs.set j v)))) (ixN xs.length i)
  |_=>none:=id rfl
@[simp]theorem QoS{w:W}:Qij (some (.rt w h))=some (w,h):=id rfl
@[simp]theorem Qo4:Qij (some (.nx σ h))=some (.non,h):=id rfl
@[simp]theorem Qm1{n:Nat}{w:W}:QY (.ref n) [w] h=match h[n]? with|some (.lst xs)=>if xs.length<sizeLine then some (.non,h.set n (.lst (xs++[w])))else none|_=>none:=id rfl
@[simp]theorem QmT{n:Nat}{w:W}:WY (.ref n) [w] h=match h[n]? with|some (.lst xs)=>@ob _ _ (fun a=>if xs.length+a.length<=sizeLine then some (.non,h.set n (.lst (xs++a)))else none) (loW h w)|_=>none:=id rfl
@[simp]theorem Qqr:loW h (.lst ws)=some ws:=id rfl
@[simp]theorem QqF:Qj2 (.ref n) [] h=match h[n]? with|some (.lst xs)=>@om _ _ (fun w=>(w,h.set n (.lst xs.dropLast))) (xs[xs.length-1]?)|_=>none:=id rfl
@[simp]theorem Qrg:tyW h T (.ref n)=match h[n]? with|some (.lst _)=>T=="list"|some (.dic _)=>T=="dict"|some (.dct _)=>T=="dict"|_=>false:=id rfl
@[simp]theorem Qq0:tyW h T (.lst ws)=(T=="list"):=id rfl
@[simp]theorem QoL:QhP h (.ref n)=match h[n]? with|some (.lst ws)=>some (!ws.isEmpty)|some (.dic a)=>some (!a.isEmpty)|_=>none:=id rfl
@[simp]theorem QpS:QhP h (.bl b)=some b:=id rfl
@[simp]theorem QpA:QhP h (.tup ws)=some (!ws.isEmpty):=id rfl
@[simp]theorem QmY:JS [.lst ws] h=some (.tup ws,h):=id rfl
@[simp]theorem QmN:JS [.ref n] h=@om _ _ (fun(ws:List W)=>(.tup ws,h)) (match h[n]? with|some (.lst ws)=>some ws|_=>none):=id rfl
@[simp]theorem QrE:mSl c a b σ h=@ob _ _ (fun p=>@ob _ _ (fun q=>@ob _ _ (fun r=>wSl p.1 q.1 r.1 r.2) (b σ q.2)) (a σ p.2)) (c σ h):=id rfl
@[simp]theorem Qry:Vk σ h=some (none,h):=id rfl
noncomputable def asI(p:W×MH):Option (Option Int×MH):=match p.1 with|.int i=>some (some i,p.2)|_=>none
@[simp]theorem Qoi:asI (.int i,h)=some (some i,h):=id rfl
@[simp]theorem QrF:Ju m σ h=@ob _ _ asI (m σ h):=id rfl
@[simp]theorem QqH{lo a:Option Int}:wSl (.tup ws) lo a h=some (.tup (Ux ws lo a),h):=id rfl
@[simp]theorem Qq1{lo a:Option Int}:wSl (.lst ws) lo a h=some (.lst (Ux ws lo a),h):=id rfl
@[simp]theorem QoQ:Zj (.tup ws) (.tup us) h=if ws.length+us.length<=sizeLine then some (.tup (ws++us),h)else none:=id rfl
@[simp]theorem QoU:Zj (.str x) (.str y) h=if x.length+y.length<=sizeLine then some (.str (x++y),h)else none:=id rfl
@[simp]theorem QqD:wIs a .non h=some (.bl (KS a),h):=id rfl
@[simp]theorem QoA:Qbm a .non h=some (.bl (!KS a),h):=id rfl
@[simp]theorem QmQ:KS .non=true:=id rfl
@[simp]theorem Qqg:Qhw [a,.ty T] h=if WT T=true then@om _ _ (fun k=>(.bl (X2 k T),h)) (QcQ h a)else none:=id rfl
@[simp]theorem QrJ:QcQ h (.bl b)=some "bool":=id rfl
@[simp]theorem Qrd:QcQ h (.int i)=some "int":=id rfl
@[simp]theorem QqV:QcQ h (.tup ws)=some "tuple":=id rfl
@[simp]theorem QrH:WT "int"=true:=by decide
@[simp]theorem QrI:WT "bool"=true:=by decide
@[simp]theorem QrC:WT "tuple"=true:=by decide
end
mutual
noncomputable def pln:W->Bool
 |.tup ws=>Yp ws
 |.lst ws=>Yp ws
 |.frz _=>false
 |.ref _=>false
 |.ty _=>false
 |_=>true
noncomputable def Yp:List W->Bool
 |[]=>true
 |w::ws=>pln w&&Yp ws
end
mutual
noncomputable def dep:W->Nat
 |.tup ws=>U3 ws+1
 |.lst ws=>U3 ws+1
 |_=>1
noncomputable def U3:List W->Nat
 |[]=>0
 |w::ws=>max (dep w) (U3 ws)
end
mutual
theorem Xj(h:MH):∀(w:W) (n:Nat),pln w=true->dep w<=n->drf h n w=some w
 |.non,n+1,_,_=>rfl
 |.bl _,n+1,_,_=>rfl
 |.int _,n+1,_,_=>rfl
 |.str _,n+1,_,_=>rfl
 |.tup ws,n+1,p,d=>by
  unfold pln at p;unfold dep at d;show(Zl (drf h n) ws).map W.tup=_;rw[JW h ws n p (by lia)];rfl
 |.lst ws,n+1,p,d=>by
  unfold pln at p;unfold dep at d;show(Zl (drf h n) ws).map W.lst=_;rw[JW h ws n p (by omega)];rfl
 |.frz _,_,p,_=>by unfold pln at p;cases p
 |.ref _,_,p,_=>by unfold pln at p;cases p
 |.ty _,_,p,_=>by unfold pln at p;cases p
 |.non,0,_,d=>by unfold dep at d;lia
 |.bl _,0,_,d=>by unfold dep at d;omega
 |.int _,0,_,d=>by unfold dep at d;omega
 |.str _,0,_,d=>by unfold dep at d;omega
 |.tup _,0,_,d=>by unfold dep at d;lia
 |.lst _,0,_,d=>by unfold dep at d;omega
theorem JW(h:MH):∀(ws:List W) (n:Nat),Yp ws=true->U3 ws<=n->Zl (drf h n) ws=some ws
 |[],_,_,_=>rfl
 |w::ws,n,p,d=>by
  unfold Yp at p;unfold U3 at d;rw[NJ]at p;rw[Zl,Xj h w n p.1 (Nn (Nat.le_max_left _ _) d),Ni,JW h ws n p.2 (Nn (Nat.le_max_right _ _) d)];rfl
end
mutual
theorem UU:∀(w:W),pln w=true->eqW w w=true
 |.non,_=>by unfold eqW;rfl
 |.bl _,_=>by unfold eqW;simp
 |.int _,_=>by unfold eqW;simp
 |.str _,_=>by unfold eqW;simp
 |.tup ws,p=>by unfold pln at p;unfold eqW;exact WH ws p
 |.lst ws,p=>by unfold pln at p;unfold eqW;exact WH ws p
 |.frz _,p=>by unfold pln at p;cases p
 |.ref _,p=>by unfold pln at p;cases p
 |.ty _,p=>by unfold pln at p;cases p
theorem WH:∀(ws:List W),Yp ws=true->XG ws ws=true
 |[],_=>by unfold XG;rfl
 |w::ws,p=>by
  unfold Yp at p;rw[NJ]at p;unfold XG;rw[UU w p.1,WH ws p.2];rfl
end
theorem Qn9(d:pln a=true)(c:pln b=true)(f:dep a<=40)(e:dep b<=40):wEq a b h=some (.bl (eqW a b),h):=by
 unfold wEq;rw[Xj h a 40 d f,Xj h b 40 c e];rfl
theorem Qrl(d:pln a=true)(c:pln b=true)(f:dep a<=40)(e:dep b<=40):wNe a b h=some (.bl (!eqW a b),h):=by
 unfold wNe;rw[Xj h a 40 d f,Xj h b 40 c e];rfl
@[simp]theorem Qoo:wEq (.int i) (.int j) h=some (.bl (i==j),h):=Qjs i j h
@[simp]theorem QnV:wEq (.str x) (.str y) h=some (.bl (x==y),h):=Qkn x y h
@[simp]theorem QpY:wNe (.int i) (.int j) h=some (.bl (!(i==j)),h):=QiQ i j h
mutual
theorem WW:∀(w:W),pln w=true->pur w=true
 |.non,_=>rfl
 |.bl _,_=>rfl
 |.int _,_=>rfl
 |.str _,_=>rfl
 |.tup ws,p=>by unfold pln at p;unfold pur;exact ZJ ws p
 |.lst ws,p=>by unfold pln at p;unfold pur;exact ZJ ws p
 |.frz _,p=>by unfold pln at p;cases p
 |.ref _,p=>by unfold pln at p;cases p
 |.ty _,p=>by unfold pln at p;cases p
theorem ZJ:∀(ws:List W),Yp ws=true->ZZ ws=true
 |[],_=>rfl
 |w::ws,p=>by
  unfold Yp at p;rw[NJ]at p;unfold ZZ;rw[WW w p.1,ZJ ws p.2];rfl
end
mutual
theorem Qb9(f:Nat->Option W):∀(w:W),pur w=true->th f w=some w
 |.non,_=>rfl
 |.bl _,_=>rfl
 |.int _,_=>rfl
 |.str _,_=>rfl
 |.ty _,_=>rfl
 |.tup ws,p=>by unfold pur at p;unfold th;rw[ZW f ws p];rfl
 |.lst ws,p=>by unfold pur at p;unfold th;rw[ZW f ws p];rfl
 |.frz ws,p=>by unfold pur at p;unfold th;rw[ZW f ws p];rfl
 |.ref _,p=>by unfold pur at p;cases p
theorem ZW(f:Nat->Option W):∀(ws:List W),ZZ ws=true->ths f ws=some ws
 |[],_=>rfl
 |w::ws,p=>by
  unfold ZZ at p;rw[NJ]at p;unfold ths;rw[Qb9 f w p.1,ZW f ws p.2];rfl
end
theorem Qr(b:ZZ ws=true)(e:m ws []=some (w,g))(hw:pur w=true):box frN m ws h=some (w,h):=by
 have hr:Kn 0 ws=some (ws,[]):=by
  generalize 0=k;clear e
  induction ws with
  |nil=>rfl
  |cons a r c=>
   unfold ZZ at b;rw[NJ]at b;have:=c b.2;cases a<;>first|(unfold pur at b;cases b.1;done)|(unfold Kn;rw[if_pos b.1,this];rfl)
 unfold box;rw[hr,Ni];unfold Qdb;rw[if_pos Ea];simp only[Zl,Ni,e,frN,Fv,List.range_zero];rw[if_pos ⟨Ea,by simp⟩,Qb9 _ w hw];simp[Qu]
theorem VT(b:ZZ ws=true)(q:h[n]?=some o)(p:Qba o=true)(e:m (.ref 0::ws) [o]=some (w,j::g))(hw:pur w=true)(i:∃us,j=.lst us/\ZZ us=true):box frN m (.ref n::ws) h=some (w,h.set n j):=by
 obtain⟨us,rfl,c⟩:=i
 have hr:∀k,Kn k ws=some (ws,[]):=by
  clear e
  induction ws with
  |nil=>intro k;rfl
  |cons a r l=>
   intro k;unfold ZZ at b;rw[NJ]at b;have:=l b.2 k;cases a<;>first|(unfold pur at b;cases b.1;done)|(unfold Kn;rw[if_pos b.1,this];rfl)
 unfold box
 have d:Kn 0 (.ref n::ws)=some (.ref 0::ws,[n]):=by
  unfold Kn;rw[hr];rfl
 rw[d,Ni];unfold Qdb;rw[if_pos (by simp)];have f:Qc9 h n=some o:=by unfold Qc9;rw[q];simp[p]
 simp only[Zl,f,Ni,Ef,e,frN,NZ];rw[if_pos ⟨Ea,by simp⟩,Qb9 _ w hw];simp[Qu,Fx,Zl,thO,ZW _ us c]
theorem Yw{os os':List MO}(hr:Kn 0 args=some (as,ns))(hd:ns.Nodup)(r:Zl (Qc9 h) ns=some os)(e:m as os=some (w,os'++g))(s:os'.length=ns.length)
  (c:∀o∈os',∃us,o=.lst us/\ZZ us=true) (hw:th (res (Xn ns [] h.length) (os'++g) 3) w=some w'):box frN m args h=some (w',Qu ns os' h):=by
 unfold box;rw[hr,Ni];unfold Qdb;rw[if_pos hd,r];simp only[Ni,e];rw[if_pos (show(frN w).Nodup/\∀j∈frN w,ns.length<=j from⟨Ea,fun j t=>by simp[frN]at t⟩)];show(th (res (Xn ns [] h.length) (os'++g) 3) w).bind _=_;rw[hw,Ni];show(Zl (fun j=>((os'++g)[j]?).bind (thO (res (Xn ns [] h.length) (os'++g) 3))) (List.range ns.length)).bind (fun os=>(Zl (fun j=>((os'++g)[j]?).bind (thO (res (Xn ns [] h.length) (os'++g) 3))) []).map fun us=>(w',Qu ns os h++us))=_
 have:Zl (fun j=>((os'++g)[j]?).bind (thO (res (Xn ns [] h.length) (os'++g) 3))) (List.range ns.length)=some os':=by
  rw[<-s]
  have key:∀(k:Nat) (a:List MO),(∀i o,a[i]?=some o->(os'++g)[k+i]?=some o)->(∀o∈a,∃us,o=.lst us/\ZZ us=true)->Zl (fun j=>((os'++g)[j]?).bind (thO (res (Xn ns [] h.length) (os'++g) 3))) (List.range' k a.length)=some a:=by
   intro k a
   induction a generalizing k with
   |nil=>intro _ _;rfl
   |cons x a n=>
    intro f d;obtain⟨us,hu,q⟩:=d x NA;rw[NM,Yai];unfold Zl;have l:=f 0 x rfl;rw[Nat.add_zero]at l;rw[l,Ni,n (k+1) (fun i o b=>by have:=f (i+1) o (by simpa using b);rw[show k+1+i=k+(i+1) by exact E9 _ _ _];exact this) fun o p=>d o (Ny _ p),hu];show((ths _ us).map MO.lst).bind _=_;rw[ZW _ us q];rfl
  rw[On];exact key 0 os' (fun i o b=>by rw[NI,NO (Nf.mp b).1];exact b) c
 rw[this];simp[Zl]
@[simp]theorem QjN{os:List MO}:Qu [] os h=h:=by unfold Qu;rfl
@[simp]theorem Qhx{os:List MO}:Qu (n::ns) (o::os) h=Qu ns os (h.set n o):=by rw[Qu]
theorem Wk(e:h[n]?=some (.lst us))(a:ZZ us=true):Qc9 h n=some (.lst us):=by unfold Qc9;rw[e];simp[Qba,a]
theorem Yc(f:W->W)(c:mi σ h=some (items,none,h))(a:∃o,QfM cp σ=o::caps)(d:∀w∈items,me (some w::caps) h=some (f w,h))(b:items.length<=sizeLine) :
  QN fin mi cp (Q2 0) Kl me σ h=fin (items.map f) h:=by
 obtain⟨o,a⟩:=a;unfold QN;rw[c,Ni];simp only[a];rw[Kj (p:=fun _=>true) (f:=f) items [] o (fun _ _=>rfl) (fun w hw _=>d w hw) (by simpa using b),Dm.mpr (fun _ _=>rfl)];rfl
theorem Qao{mt:MT}{me:ME}{h:MH}(f:W->W)(p:W->Bool)(d:mi σ h=some (items,none,h))(a:∃o,QfM cp σ=o::caps)(b:∀w∈items,mt (some w::caps) h=some (p w,h))(e:∀w∈items,p w=true->me (some w::caps) h=some (f w,h))(c:items.length<=sizeLine) :
  QN fin mi cp (Q2 0) mt me σ h=fin ((items.filter p).map f) h:=by
 obtain⟨o,a⟩:=a;unfold QN;rw[d,Ni];simp only[a];rw[Kj (p:=p) (f:=f) items [] o b e (by simpa using c)];simp
theorem Qb3(P:List l->MSt->MH->Prop)(f:l->W):∀(rest:List W) (a:List l) (e:MSt) (h:MH),P a e h->a.length+rest.length<=sizeLine ->
  (∀w∈rest,∀a e h,P a e h->∃d x i,b w e h=some d/\me d h=some (f x,i)/\P (a++[x]) d i) ->
  ∃c g h',ZM fin items none b Kl me rest (a.map f) e h=fin (c.map f) h'/\P c g h'/\c.length=a.length+rest.length
 |[],a,e,h,j,_,_=>⟨a,e,h,by unfold ZM;rw[if_pos (QA _ _)],j,by simp⟩
 |w::rest,a,e,h,j,t,m=>by
  have s:a.length+(rest.length+1)<=sizeLine:=by simpa using t
  obtain⟨d,x,i,v,u,p⟩:=m w NA a e h j;obtain⟨c,g,h',n,o,q⟩:=Qb3 (items:=items) (b:=b) (me:=me) (fin:=fin) P f rest (a++[x]) d i p (by simp;lia) fun y r=>m y (Ny _ r);refine⟨c,g,h',?_,o,by rw[q];simp;exact E9 _ _ _⟩;unfold ZM;rw[if_pos (QA _ _),v,Ni];show(some (true,h)).bind _=_;rw[Ni];simp only[u,Ni];rw[if_pos (by rw[Nu];lia)];rw[N6,Nw,EG]at n;exact n
theorem Q3(P:Nat->MSt->MH->Prop):∀(r:List W) (n:Nat) (σ:MSt) (h:MH),P n σ h ->
  (∀(j:Nat) (w:W),r[j]?=some w->∀σ h,P (n+j) σ h->∃σ1,b w σ h=some σ1/\∃σ2 h2,(body σ1 h=some (.nx σ2 h2)\/body σ1 h=some (.ct σ2 h2))/\P (n+j+1) σ2 h2) ->
  ∃a h',JK items none b body r σ h=some (.nx a h')/\P (n+r.length) a h'
 |[],n,σ,h,c,_=>⟨σ,h,U1,c⟩
 | w::r,n,σ,h,c,e=>by
  obtain⟨σ1,m,σ2,h2,d,g⟩:=e 0 w rfl σ h c
  obtain⟨a,h',l,f⟩:=Q3 (items:=items) (b:=b) (body:=body) P r (n+1) σ2 h2 g fun j x i σ h c=>by
   have:=e (j+1) x (by simpa using i) σ h (by rw[show n+(j+1)=n+1+j by lia];exact c);rw[show n+(j+1)+1=n+1+j+1 by exact E9 _ _ _]at this;exact this
  refine⟨a,h',?_,by rw[NM,show n+(r.length+1)=n+1+r.length by lia];exact f⟩;rw[JK,if_pos (QA _ _),m,Ni]
  rcases d with d|d<;>rw[d]<;>exact l
theorem QaC(P:Nat->MSt->MH->Prop):∀(n f:Nat) (σ:MSt) (h:MH),n<f->P n σ h ->
  (∀n σ h,P n σ h->(t σ h=some (false,h)/\n=0)\/(t σ h=some (true,h)/\∃m σ2 h2,m<n/\(body σ h=some (.nx σ2 h2)\/body σ h=some (.ct σ2 h2))/\P m σ2 h2)) ->
  ∃a h',QP t body f σ h=some (.nx a h')/\P 0 a h'
 |n,0,_,_,l,_,_=>by lia
 | n,f+1,σ,h,l,d,c=>by
  rcases c n σ h d with⟨e,j⟩|⟨e,m,σ2,h2,p,b,i⟩
  ·subst j;exact⟨σ,h,by rw[QP,e];rfl,d⟩
  ·obtain⟨a,h',o,g⟩:=QaC P m f σ2 h2 (by lia) i c;refine⟨a,h',?_,g⟩;rw[QP,e]
   rcases b with b|b<;>simp only[Ni,b]<;>exact o
def eqS(y:Str)(p:W×MH):Option (Bool×MH):=@ob _ _ asB (wEq p.1 (.str y) p.2)
def eqN(j:Int)(p:W×MH):Option (Bool×MH):=@ob _ _ asB (wEq p.1 (.int j) p.2)
@[simp 650]theorem Qpr:Qj (Qe wEq a (mC (.str y))) σ h=@ob _ _ (eqS y) (a σ h):=by
 unfold Qj Qe mC eqS ob;cases a σ h<;>rfl
@[simp 650]theorem QpF:Qj (Qe wEq a (mC (.int j))) σ h=@ob _ _ (eqN j) (a σ h):=by
 unfold Qj Qe mC eqN ob;cases a σ h<;>rfl
@[simp]theorem Qow:eqS y (.str x,h)=some (x==y,h):=by unfold eqS;rw[QnV];rfl
@[simp]theorem Qnu:eqN j (.int i,h)=some (i==j,h):=by unfold eqN;rw[Qoo];rfl
end Mi
namespace Mi
open L2
def Qpc(ws:List W)(h:MH):Option (W×MH):=match ws with
 |[.tup ws]=>some (.ref h.length,h++[.lst ws])
 |[a]=>(lsW h a).map fun ws=>(.ref h.length,h++[.lst ws])
 |_=>none
noncomputable def Qqj(a:W)(ws:List W)(h:MH):Option (W×MH):=match a,ws with
 |.ref n,[.int 0]=>match h[n]? with|some (.lst (x::b))=>some (x,h.set n (.lst b))|_=>none
 |_,_=>none
section
open PySem.AutoSeq1
theorem QcU(l:Addr)(its:Array Value)(n:Nat)(b:Addr)(a:Array Value)(q:Nat)(c:Obj)(t:c.cls=.type "tuple")(hd:c.data=.seq a q)(r:¬(!its.isEmpty&&Builtin.List.listTooLong (its.size+a.size))=true)(i:its.size<=sizeLine)(f:its.size+a.size<=sizeLine+1) :
  Meets (Builtin.«list.extend» ⟨[.ref l,.ref b],[]⟩) (fun _ R s=>s.heap.get? l=some { cls:=.type "list",dict:=none,data:=.seq its n,slots:=#[] }/\s.heap.get? b=some c /\
   R (.ok (.ret Value.none)) { s with heap:=s.heap.update l (Obj.mapSeq fun x=>x++a),toks:=s.toks }):=
 .of_wp fun j w A R s h=>by
  obtain⟨F,E,v,p⟩:=c;subst t hd;obtain⟨z,g,d,tk,os⟩:=s;obtain⟨m,u,h⟩:=h;have f1:=idx_int;have f2:=AutoSeq1.sub_tuple_tuple;have D:=AutoSeq1.sub_list_list;have C:=AutoSeq1.sub_tuple_list;have B:=AutoSeq1.sub_list_tuple;have e:(its++a).size<=sizeLine+1:=by rw[Array.size_append];exact f
  wp_walk using(IB m rfl (hz:=i) (_hz':=e)),Db m,Db u
  exact⟨_,rfl,h⟩
end
section
variable{X:Cx}
theorem QcE:MtM X "list.extend" (fun x i H Q=>∃l b xs g,x=.ref l/\i=[.ref b]/\H l=some (.lst xs)/\SqT X.K H b g/\xs.length+g.length<=sizeLine/\Q .non (upd H l (.lst (xs++g)))):=by
 intro m s J H x i v L Q I w rv h;obtain⟨l,b,xs,g,rfl,rfl,t,hB,C,q⟩:=h;cases w;obtain⟨u,rfl,y⟩:=rv.one;cases y;obtain⟨z,c,n,r,E,e⟩:=I.lstM t;obtain⟨a,j,⟨A,G,F,B,hd⟩,D⟩:=I.tuple hB;have p:=j.length;have f:c.toArray.size+a.toArray.size<=sizeLine:=by rw[Nq,Nq];lia
 have d:¬(!c.toArray.isEmpty&&Builtin.List.listTooLong (c.toArray.size+a.toArray.size))=true:=by
  rw[QbW f,D4];exact NQ
 refine FL Ds ⟨_,e,rfl⟩ OF (Oj _ _)
  (QcU l c.toArray n b a.toArray B A F hd d (by rw[Nq];exact Nn (Nt E.symm) z) (Nn f (Nv _ _))) ⟨e,G,?_⟩
 refine⟨.non,_,I.lset (its':=c++a) t e (by simp) (r.append j) ?_,rfl,q⟩;rw[NH];exact C
noncomputable def Wa(a:W)(ws:List W)(h:MH):Option (W×MH):=match a,ws with
 |.ref n,[.tup b]=>match h[n]? with|some (.lst c)=>if c.length+b.length<=sizeLine then some (.non,h.set n (.lst (c++b)))else none|_=>none
 |_,_=>none
theorem Qa9:Qdd X "list.extend" Wa:=by
 intro b s j H x o v p Q I t rv q;refine QcE b s j H x o v p Q I t rv ?_;obtain⟨R,h,a,G,w,J,d,u,c,e,k⟩:=q;unfold Wa at e;split at e
 ·rename_i n E;split at e
  ·rename_i F z;split at e
   ·rename_i A;cases e;obtain⟨f,rfl,m,C,i⟩:=d.refAt u z;obtain⟨y,rfl,r⟩:=W8 c;obtain⟨D,l,rfl,B,g⟩:=d.tupAt r;refine⟨_,D,m,l,rfl,rfl,C,B,by rw[<-i.length,<-g.length];exact A,?_⟩;exact k R _ _ (Ext.refl _) (d.put f ⟨_,rfl,Rws.append i g⟩) Rw.non
   ·cases e
  ·cases e
 ·cases e
@[simp]theorem Qk3:Wa (.ref n) [.tup a] h=match h[n]? with|some (.lst xs)=>if xs.length+a.length<=sizeLine then some (.non,h.set n (.lst (xs++a)))else none|_=>none:=id rfl
end
end Mi
namespace L2
def RawD(h:Heap)(d:Addr)(es:Array DictEntry)(ep:Nat):Prop:=∃o,h.get? d=some o/\o.ExactDict/\o.data=.dict es ep
theorem RawD.typeIs{s:Shared}(m:RawD s.heap d es ep):s.TypeIs (.ref d) "dict":=by obtain⟨o,a,b,_⟩:=m;exact⟨o,a,b.1⟩
theorem RawD.lt(m:RawD h d es ep):d<h.objs.size:=by obtain⟨_,a,_⟩:=m;exact ND a
theorem RawD.at(m:RawD h d es ep)(k:∀o,h.get? d=some o->h'.get? d=some o):RawD h' d es ep:=by obtain⟨o,a,r⟩:=m;exact⟨o,k o a,r⟩
section
variable{prog:Program}{w:World}{A:Around}{E:Value->Shared->Prop}{s:Shared}{it d:Addr}{es:Array DictEntry}{i ep:Nat}
theorem Qb5(hd:(d==sysModules)=false)(m:RawD s.heap d es ep)
  (q:Q (.ref s.heap.objs.size) { s with heap:=s.heap.push { cls:=.type "dict_keyiterator",data:=.fields #[.ref d,.int 0 0,.int es.size 0,.int ep 0] } }):wpAny (model prog w) A (pyIter (.ref d)) Q E s:=by
 have a:=m.typeIs;obtain⟨o,c,e,b⟩:=m;refine Lm a LZ (Ej LZ a PySem.F.entry_dict_iter ?_ (PySem.F.args_dict_iter_1 _));unfold Builtin.«dict.__iter__» Builtin.Dict.dictSlotNone;refine Na (Na (D7 a ?_));refine(show wpAny _ _ (pure (Value.ref d)) _ _ s from Nj ?_);refine(show wpAny _ _ (Builtin.Dict.showsAll d>>=_) _ _ s from ?_);unfold Builtin.Dict.showsAll;rw[if_neg (by rw[hd];exact NQ)];refine Na (Nj (Na (D3 c b (Na (Dz c b ?_)))));refine Na (N9 (Nj ⟨_,rfl,"dict_keyiterator",_,⟨_,NB _ rfl,rfl⟩,ED.lookup,?_⟩));simpa[rawInt]using q
theorem Qck(hit:s.heap.IsKeyIter it d i es.size ep)(m:RawD s.heap d es ep)(f:i<es.size)
  (j:∀h',h'.IsKeyIter it d (i+1) es.size ep->Heap.SameBut it s.heap h'->Q (some es[i].key) { s with heap:=h' }):wpAny (model prog w) A (pyNext (.ref it)) Q E s:=by
 obtain⟨o,e,h,hd⟩:=id hit;obtain⟨l,b,g,c⟩:=id m;unfold pyNext;refine Na (Le (Ep (name:=Str.ofString "__next__") hit.typeIs ED (Ej ED hit.typeIs FN ?_ (FD _))));refine Na (Nj (Na (Na ?_)))
 first|refine Na (Dk hit.typeIs (Nj (Na (D8 e hd ?_))))|refine Na (DL hit.typeIs (Nj (Na (D8 e hd ?_))))
 simp only[show IV "dict_keyiterator"=false by decide,Es,if_false];refine(show wpAny _ _ (if(Value.ref d==Value.none)=true then _ else _) _ _ s from ?_);rw[if_neg (show¬((Value.ref d==Value.none)=true)from NQ)];refine Na (Nj (Na (D3 b c ?_)));rw[if_neg (by simp)];refine Na (Nj (Na (Dz b c ?_)));rw[if_neg (by simp)];refine Nj ?_;simp only[show¬((i:Int)<0)from by lia,if_false,Ey,NN f];refine Na ?_
 first|refine Na (Dk hit.typeIs (Nj (Na (Ik hit.typeIs ?_))))|refine Na (DL hit.typeIs (Nj (Na (Ik hit.typeIs ?_))))
 refine(show wpAny _ _ (setField (.ref it) 1 (rawInt ((i:Int)+1))>>=_) _ _ s from Na (EV e hd (by simp) ?_))
 have a:(s.heap.update it (Obj.mapFields (·.setIfInBounds 1 (rawInt ((i:Int)+1))))).IsKeyIter it d (i+1) es.size ep:=
  ⟨_,N8 _ e (L8 (FE hd _)),(O3 ..).trans h,by rw[FE hd];simp[rawInt]⟩
 refine Na (N2 (Na (Ik (s:={ s with heap:=s.heap.update it (Obj.mapFields (·.setIfInBounds 1 (rawInt ((i:Int)+1)))) }) a.typeIs ?_)));refine(show wpAny _ _ (pure es[i].key) _ _ _ from ?_);exact Nj (Nj ⟨_,rfl,Nj (j _ a (NP ..))⟩)
theorem Qd5(g:A.handled=none)(hit:s.heap.IsKeyIter it d es.size es.size ep)(m:RawD s.heap d es ep)
  (j:∀h',Heap.ExtBut it s.heap h'->Q none { s with heap:=h' }):wpAny (model prog w) A (pyNext (.ref it)) Q E s:=by
 obtain⟨o,f,n,hd⟩:=id hit;obtain⟨l,c,h,e⟩:=id m;unfold pyNext;refine Na (Le (Ep (name:=Str.ofString "__next__") hit.typeIs ED (Ej ED hit.typeIs FN ?_ (FD _))));refine Na (Nj (Na (Na ?_)))
 first|refine Na (Dk hit.typeIs (Nj (Na (D8 f hd ?_))))|refine Na (DL hit.typeIs (Nj (Na (D8 f hd ?_))))
 simp only[show IV "dict_keyiterator"=false by decide,Es,if_false];refine(show wpAny _ _ (if(Value.ref d==Value.none)=true then _ else _) _ _ s from ?_);rw[if_neg (show¬((Value.ref d==Value.none)=true)from NQ)];refine Na (Nj (Na (D3 c e ?_)));rw[if_neg (by simp)];refine Na (Nj (Na (Dz c e ?_)));rw[if_neg (by simp)];refine Nj ?_;simp only[show¬((es.size:Int)<0)from by lia,if_false,Ey,F4 (Nz es.size)];refine Na ?_
 first|refine Na (Dk hit.typeIs (Nj ?_))|refine Na (DL hit.typeIs (Nj ?_))
 refine(show wpAny _ _ (setField (.ref it) 0 .none>>=_) _ _ s from Na (EV f hd (by simp) ?_));refine(show wpAny _ _ (newExc (.type "StopIteration") []>>=_) _ _ _ from Na ?_);simp only[newExc,newTuple];refine Na (N9 ?_ (by size_fits));refine Na (m:=firstArgMember _ _) (L0 (a:=Value.none) (by first|rfl|(simp only[firstArgMember];rfl)) ?_);refine N9 ?_ (by size_fits);simp only[raiseNew];refine Na (Oz ?_);rw[show A.in1.handled=none from g];refine Na (Nj (wpAny_throw ?_));refine Na (Fc (b:=true) (T:="StopIteration") ⟨_,NB _ rfl,rfl⟩ isSubtype_stop ?_);exact Nj (j _ (((NP ..).extBut.push _).push _))
theorem Qey(q:A.handled=none)(I d:Addr)(j:d≠I)(es:Array DictEntry)(ep:Nat) :
  Walks prog w A I [I,d] [I] es.size (fun i v=>∃e,es[i]?=some e/\v=e.key) (fun i h=>h.IsKeyIter I d i es.size ep/\RawD h d es ep) where
 sub:=fun b a=>by simp at a;simp[a]
 frame:=fun _ _ _ st n=>⟨st.1.at fun o e=>n I (by simp) o e,st.2.at fun o e=>n d (by simp) o e⟩
 item:=fun i s Q E p st g=>Qck st.1 st.2 p fun m f c=>
  g _ m s.toks ⟨es[i],NN p,rfl⟩ ⟨f,st.2.at fun o e=>(c.2 d j).trans e⟩ fun b o a e=>c.extBut b o (fun h=>a (by simp[h])) e
 done:=fun s Q E st g=>Qd5 q st.1 st.2 fun m l=>g m s.toks fun b o a e=>l b o (fun h=>a (by simp[h])) e
 self:=fun _ _ _ _ st g=>Oo st.1 g
theorem QiX(lo:(d==sysModules)=false):PySem.W.KdlSrc prog w "dict" d d es.size (fun i v=>∃e,es[i]?=some e/\v=e.key) (fun h=>RawD h d es ep) where
 type:=fun _ m=>m.typeIs
 there:=fun _ m=>⟨m.lt,m.lt⟩
 keep:=fun _ _ m k=>m.at fun o e=>k d (.inl rfl) o e
 notList:=by decide
 notTuple:=by decide
 hint:=fun _ _ _ _ m q=>PySem.W.kdl_hint_dict m.typeIs q
 iter:=fun _ _ a m=>⟨_,_,(fun _ _ q=>Qb5 lo m q),Qey a _ d (NG m.lt) es ep,⟨⟨_,NB _ rfl,rfl,rfl⟩,m.at fun o e=>No _ e⟩⟩
end
end L2
namespace Mi
open L2
def TrH(K:Ng)(H:Hp):Nat->Tr->V->Prop
 |0,_,_=>False
 |_+1,.i k,v=>v=.int k\/∃b:Bool,v=.bl b/\k=if b then 1 else 0
 |_+1,.s x,v=>v=.str x
 |n+1,.t ks,v=>∃a xs,v=.ref a/\SqT K H a xs/\Paired (TrH K H n) ks xs
theorem Qdh{F:j->i->Prop}{G:i->h->Prop}{M:j->h->Prop}(f:∀a b c,F a b->G b c->M a c):∀{g:List j} {e:List i} {d:List h},Paired F g e->Paired G e d->Paired M g d
 |_,_,_,.nil,.nil=>.nil
 |_,_,_,.cons a s,.cons b t=>.cons (f _ _ _ a b) (Qdh f s t)
section
variable{X:Cx}{pins:List (Addr×Obj)}{σ:L2.St}{H:Hp}{s:Shared}
theorem QiJ(I:Inv X pins σ H s):∀{n:Nat} (k:Tr) (v:V) (u:Value),TrH X.K H n k v->RelV v u->IsT s.heap n k u
 |0,_,_,_,x,_=>x.elim
 |n+1,.i k,v,u,x,r=>by
  rcases x with rfl|⟨b,rfl,f⟩
  ·exact .inl r
  ·exact .inr ⟨b,r,f⟩
 |n+1,.s y,v,u,x,r=>by
  cases(show v=.str y from x);exact r
 |n+1,.t ks,v,u,x,r=>by
  obtain⟨a,xs,rfl,q,p⟩:=x;obtain⟨c,d,e,_⟩:=I.tuple q;cases(show u=Value.ref a from r);exact⟨a,c.toArray,rfl,e,by simpa using Qdh (fun k v u h g=>QiJ I k v u h g) p d⟩
end
section
variable{K:Ng}{R:Rn}{h:MH}{H:Hp}
theorem QlT(l:Rh K R h H):∀(n:Nat) (w:W) (v:V) (k:Tr),Rw K R w v->Wm n w=some k->TrH K H n k v
 |0,_,_,_,_,e=>by simp[Wm]at e
 | n+1,w,v,k,r,e=>by
  cases w with
  |int i=>simp only[Wm]at e;cases e;exact .inl r.int_eq
  |bl b=>simp only[Wm]at e;cases e;exact .inr ⟨b,r.bl_eq,rfl⟩
  |str x=>simp only[Wm]at e;cases e;exact r.str_eq
  | tup ws=>
   simp only[Wm]at e;obtain⟨ks,f,g⟩:=Nd.mp e;subst g;obtain⟨a,j,rfl,q,d⟩:=l.tupAt r;refine⟨a,j,rfl,q,?_⟩;clear e r q
   induction ws generalizing ks j with
   |nil=>
    rw[Rws.nil_iff]at d;subst d;rw[Lf]at f;cases(show some []=some ks from f);exact .nil
   |cons x ws t=>
    rw[Dn]at f;obtain⟨m,z,g⟩:=Nc.mp f;obtain⟨c,u,A⟩:=Nc.mp g;cases(show some (m::c)=some ks from A);rw[Rws.cons_iff]at d;obtain⟨y,o,rfl,s,p⟩:=d;exact .cons (QlT l n x y m s z) (t c u o p)
  |_=>simp[Wm]at e
theorem QdR(a:Rh K R h H)(r:Rw K R w v)(e:nrm w=some k):TrH K H 8 k v:=by
 cases w with
 |tup b=>exact QlT a 8 _ v k r e
 |_=>cases e
theorem Qjp(b:Rh K R h H)(r:Rw K R w v)(e:nrm w=some k):∃a,v=.ref a:=by
 cases w with
 |tup d=>obtain⟨a,c,rfl,_⟩:=b.tupAt r;exact⟨a,rfl⟩
 |_=>cases e
end
def KM(a:List (W×W))(k:Tr):Option W:=(a.find? fun p=>decide (nrm p.1=some k)).map (·.2)
def Qby(a:List (W×W))(k:Tr)(b v:W):List (W×W):=if(KM a k).isSome=true then a.map (fun p=>if nrm p.1=some k then(p.1,v)else p)else a++[(b,v)]
noncomputable def QaT(kx:List (Tr×Addr×V))(k:Tr):Option V:=(kx.find? fun p=>decide (p.1=k)).map (·.2.2)
def Qa2(kx:List (Tr×Addr×V))(k:Tr)(b:Addr)(v:V):List (Tr×Addr×V):=if(QaT kx k).isSome=true then kx.map (fun p=>if p.1=k then(p.1,p.2.1,v)else p)else kx++[(k,b,v)]
abbrev DctR(K:Ng)(R:Rn):List (W×W)->List (Tr×Addr×V)->Prop:=Paired fun p q=>Rw K R p.1 (.ref q.2.1)/\nrm p.1=some q.1/\Rw K R p.2 q.2.2
abbrev QcR:List (Tr×Addr×V)->List (Tr×Addr×Value)->Prop:=Paired fun p q=>p.1=q.1/\p.2.1=q.2.1/\RelV p.2.2 q.2.2
section
variable{K:Ng}{R:Rn}
theorem Yx:∀{a:List (W×W)} {kx:List (Tr×Addr×V)},DctR K R a kx->(KM a k=none/\QaT kx k=none)\/∃w v,KM a k=some w/\QaT kx k=some v/\Rw K R w v
 |_,_,.nil=>.inl ⟨rfl,rfl⟩
 | p::ps,q::qs,.cons h t=>by
  by_cases e:q.1=k
  ·have b:nrm p.1=some k:=by rw[h.2.1,e]
   exact .inr ⟨p.2,q.2.2,by simp[KM,NK,b],by simp[QaT,NK,e],h.2.2⟩
  ·have b:¬nrm p.1=some k:=by rw[h.2.1];exact fun z=>e (NS z)
   have d:KM (p::ps) k=KM ps k:=by simp only[KM,NK,b,decide_false]
   have c:QaT (q::qs) k=QaT qs k:=by simp only[QaT,NK,e,decide_false]
   rcases Yx (k:=k) t with z|⟨w,v,i,g,f⟩
   ·exact .inl ⟨d.trans z.1,c.trans z.2⟩
   ·exact .inr ⟨w,v,d.trans i,c.trans g,f⟩
theorem US(d:DctR K R a kx):(KM a k).isSome=(QaT kx k).isSome:=by
 rcases Yx (k:=k) d with z|⟨w,v,c,b,_⟩
 ·rw[z.1,z.2];rfl
 ·rw[c,b];rfl
theorem U9(d:DctR K R a kx)(rk:Rw K R c (.ref b))(f:nrm c=some k)(r:Rw K R w v):DctR K R (Qby a k c w) (Qa2 kx k b v):=by
 unfold Qby Qa2;rw[US d];split
 ·rename_i i;clear i rk f
  induction d with
  |nil=>exact .nil
  |@cons p q l j h t g=>
   rw[Nw,Nw];refine .cons ?_ g
   by_cases e:q.1=k
   ·rw[if_pos e,if_pos (by rw[h.2.1,e])];exact⟨h.1,h.2.1,r⟩
   ·rw[if_neg e,if_neg (by rw[h.2.1];exact fun z=>e (NS z))];exact h
 ·exact LX d ⟨rk,f,r⟩
theorem Wv:∀{kx:List (Tr×Addr×V)} {xs:List (Tr×Addr×Value)},QcR kx xs->RelO (QaT kx k) ((atKey xs k).map (·.2))
 |_,_,.nil=>True.intro
 | p::ps,q::qs,.cons h t=>by
  have d:=Wv (k:=k) t
  by_cases e:p.1=k
  ·have a:q.1=k:=h.1.symm.trans e;have c:QaT (p::ps) k=some p.2.2:=by simp[QaT,NK,e]
   have b:atKey (q::qs) k=some q.2:=by simp[atKey,NK,a]
   rw[c,b];exact h.2.2
  ·have a:¬q.1=k:=fun z=>e (h.1.trans z);have c:QaT (p::ps) k=QaT ps k:=by simp only[QaT,NK,e,decide_false]
   have b:atKey (q::qs) k=atKey qs k:=by simp[atKey,NK,a]
   rw[c,b];exact d
theorem UX(d:QcR kx xs):(QaT kx k).isSome=(atKey xs k).isSome:=by
 have:=(Wv (k:=k) d).isSome_eq;rwa[Lo]at this
theorem Gu(d:QcR kx xs)(r:RelV v u):QcR (Qa2 kx k b v) (storedH xs k b u):=by
 unfold Qa2 storedH;rw[UX d];split
 ·rename_i c;clear c
  induction d with
  |nil=>exact .nil
  |@cons p q g f h t a=>
   rw[Nw,Nw];refine .cons ?_ a;unfold Yae
   by_cases e:p.1=k
   ·rw[if_pos e,if_pos (h.1.symm.trans e)];exact⟨h.1,h.2.1,r⟩
   ·rw[if_neg e,if_neg (fun z=>e (h.1.trans z))];exact h
 ·exact LX d ⟨rfl,rfl,r⟩
theorem Wg:(Qa2 kx k b v).length<=kx.length+1:=by
 unfold Qa2;split
 ·rw[Nu];exact Nv _ _
 ·rw[NH];simp
end
section
variable{X:Cx}{pins:List (Addr×Obj)}{σ:L2.St}{H:Hp}{s:Shared}{R:Rn}{h:MH}
theorem Ww(I:Inv X pins σ H s)(d:Rh X.K R h H)(g:h[n]?=some (.dct a)) :
  ∃kx xs,H (R.ρ n)=some (.dT kx)/\DctR X.K R a kx/\kx.length<=sizeLine/\(R.ρ n==sysModules)=false/\QcR kx xs/\s.heap.DictOfH (Qh X.prog X.w) (R.ρ n) xs:=by
 obtain⟨kx,c,l⟩:=d.obj n _ g;obtain⟨z,y,xs,r,o,C,D,B,A,v,j,i,_⟩:=I.hok _ _ c;refine⟨kx,xs,c,l,z,y,r,o,C,D,B,A,v,j,?_,i⟩;clear j i z c g
 induction r generalizing a with
 |nil=>intro x b;exact nomatch b
 | @cons p q G F f t u=>
  cases l with
  |cons m E=>
   intro x b
   rcases NE.mp b with e|b
   ·subst e;have:=QiJ I _ _ _ (QdR d m.1 m.2.1) (show RelV (.ref p.2.1) (Value.ref p.2.1)from rfl);rw[f.1,f.2.1]at this;exact this
   ·exact u E x b
def DctE(prog:Program)(w:World)(h:Heap)(d:Addr)(xs:List (Tr×Addr×Value)):Prop:=
 ∃o a b,h.get? d=some o/\o.ExactDict/\o.data=.dict a b/\a.toList=xs.map (entryOfKey (Qh prog w))/\(∀x∈xs,(Qh prog w).is h x.1 x.2.1)/\(xs.map (·.1)).Nodup/\b=a.size
theorem DctE.of{h:Heap}:DctE prog w h d xs->h.DictOfH (Qh prog w) d xs:=fun z=>by
 obtain⟨o,i,j,g,f,e,c,b,a,_⟩:=z;exact⟨o,i,j,g,f,e,c,b,a⟩
theorem QaR(I:Inv X pins σ H s)(g:Rh X.K R h H)(i:h[n]?=some (.dct a)) :
  ∃kx xs,H (R.ρ n)=some (.dT kx)/\DctR X.K R a kx/\kx.length<=sizeLine/\(R.ρ n==sysModules)=false/\QcR kx xs/\DctE X.prog X.w s.heap (R.ρ n) xs:=by
 obtain⟨kx,xs,e,B,A,z,y,o,l,p,b1,x,d,v,u,t⟩:=Ww I g i;obtain⟨_,_,f,r,C,j,m,c,F,b,E,D,q⟩:=I.hok _ _ e;rw[b1]at c;cases c;rw[d]at b;cases b;exact⟨kx,xs,e,B,A,z,y,o,l,p,b1,x,d,v,u,t,q⟩
theorem YR(I:Inv X pins σ H s)(a:Rh X.K R h H)(r:Rw X.K R w v)(c:RelV v u)(e:nrm w=some k):∃b,v=.ref b/\u=.ref b/\(Qh X.prog X.w).is s.heap k b:=by
 obtain⟨b,rfl⟩:=Qjp a r e;cases(show u=Value.ref b from c);exact⟨b,rfl,rfl,QiJ I _ _ _ (QdR a r e) (show RelV (.ref b) (Value.ref b)from rfl)⟩
theorem WE(I:Inv X pins σ H s)(e:H a=some (.dT kx))(z:c.length<=sizeLine)(lo:(a==sysModules)=false)(r:QcR c b)
  (f:Heap.SameBut a s.heap h') (dd:DctE X.prog X.w h' a b):Inv X pins σ (upd H a (.dT c)) { s with heap:=h',toks:=t' }:=by
 obtain⟨o,n,p,d,m,l,j,_,i,g⟩:=dd;exact Qfo I (by rw[e];exact True.intro) f ⟨o,d⟩ ⟨z,lo,b,r,o,n,p,d,m,l,j,i,g⟩
end
def Y1(h:MH):W->Option (List (W×W))
 |.ref n=>match h[n]? with|some (.dct a)=>some a|_=>none
 |_=>none
theorem Xb(e:Y1 h a=some b):∃n,a=.ref n/\h[n]?=some (.dct b):=by
 cases a with
 |ref n=>
  simp only[Y1]at e;split at e
  ·rename_i d c;cases e;exact⟨n,rfl,c⟩
  ·cases e
 |_=>cases e
noncomputable def WS:ME:=fun _ h=>some (.ref h.length,h++[.dct []])
def UI(neg:Bool)(b a:W)(h:MH):Option (W×MH):=(Y1 h a).bind fun c=>(nrm b).map fun k=>(.bl (if neg then !(KM c k).isSome else(KM c k).isSome),h)
def Ko(a b v:W)(h:MH):Option MH:=match a with
 |.ref n=>match h[n]? with
  |some (.dct c)=>(nrm b).bind fun k=>if c.length<sizeLine then some (h.set n (.dct (Qby c k b v)))else none
  |_=>none
 |_=>none
def KB(mo mi b:ME):SM:=fun a h=>(b a h).bind fun v=>(mo a v.2).bind fun o=>(mi a o.2).bind fun i=>(Ko o.1 i.1 v.1 i.2).map fun c=>.nx a c
def QfJ(a:W)(ws:List W)(h:MH):Option (W×MH):=match ws with
 |[b,v]=>(Y1 h a).bind fun c=>(nrm b).bind fun k=>match KM c k with
  |some x=>some (x,h)
  |none=>(Ko a b v h).map fun d=>(v,d)
 |_=>none
def Qec(a:W)(ws:List W)(h:MH):Option (W×MH):=match ws with
 |[b,v]=>(Y1 h a).bind fun c=>(nrm b).map fun k=>((KM c k).getD v,h)
 |_=>none
def Xv(ws:List W)(h:MH):Option (W×MH):=match ws with
 |[a]=>(Y1 h a).map fun b=>(.lst (b.map (·.1)),h)
 |_=>none
section
variable{prog:Program}{w:World}{A:Around}{E:Value->Shared->Prop}{s:Shared}{d a:Addr}{k:Tr}{xs:List (Tr×Addr×Value)}
theorem Qko{dflt:Value}(hu:(Qh prog w).room A)(b:(Qh prog w).is s.heap k a)(u:DctE prog w s.heap d xs)(m:xs.length<=sizeLine)
  (z:∀p,atKey xs k=some p->Q p.2 { s with toks:=s.toks+(Qh prog w).draws k })
  (h2:atKey xs k=none->∀h',DctE prog w h' d (storedH xs k a dflt)->Heap.SameBut d s.heap h'->Q dflt { s with heap:=h',toks:=s.toks+(Qh prog w).draws k }):wpAny (model prog w) A (dictSetDefault d (.ref a) dflt) Q E s:=by
 obtain⟨o,D,B,f,v,hd,l,i,n,t⟩:=u;unfold dictSetDefault;refine N2 (Na ((Qh prog w).pyHash hu b (Na (OG (s:={ s with toks:=s.toks+(Qh prog w).draws k }) hu b f hd l i n ?_ ?_))))
 ·intro h;have g:k∉xs.map (·.1):=OH h;have en:=O4 h;refine Na (Dd (Na (Oq (hz:=by have e:=LM l;exact Nn (Nt e) m) (s:={ s with toks:=s.toks+(Qh prog w).draws k }) f hd (Nj (h2 en _ ⟨_,_,B+1,N8 _ f (IN (Fe hd _)),v.mapDictKeys _,Fe hd _,?_,?_,?_,by rw[t];simp⟩ (NP ..))))))
  ·rw[F5 en];simp[l,entryOfKey]
  ·rw[F5 en];intro x c
   rcases NT.mp c with c|c
   ·exact(Qh prog w).keeps (i x c) f hd (NP ..)
   ·cases NF.mp c;exact(Qh prog w).keeps b f hd (NP ..)
  ·rw[F5 en,N6,Ek];exact⟨n,by simp,fun x c y q e=>g (by rw[Nw,EG,NF]at q;rw[e,q]at c;exact c)⟩
 ·intro j p r;refine Na (D3 (s:={ s with toks:=s.toks+(Qh prog w).draws k }) f hd ?_);rw[entry_at l j,r];exact Na (Dd (Nj (z p (atKey_of_get n r))))
theorem Wy(hu:(Qh prog w).room A)(b:(Qh prog w).is s.heap k a)(F:DctE prog w s.heap d xs)(t:xs.length<=sizeLine)
  (h:∀h',DctE prog w h' d (storedH xs k a v)->Heap.SameBut d s.heap h'->Q () { s with heap:=h',toks:=s.toks+(Qh prog w).draws k }):wpAny (model prog w) A (dictSet d (.ref a) v) Q E s:=by
 obtain⟨o,G,D,f,C,hd,r,g,n,z⟩:=F;unfold dictSet;refine N2 (Na ((Qh prog w).pyHash hu b ?_));unfold dictSetHashed;refine N2 (Na (OG (s:={ s with toks:=s.toks+(Qh prog w).draws k }) hu b f hd r g n ?_ ?_))
 ·intro m;have i:k∉xs.map (·.1):=OH m;have en:=O4 m;refine Na (Dd (Oq (hz:=by have e:=LM r;exact Nn (Nt e) t) (s:={ s with toks:=s.toks+(Qh prog w).draws k }) f hd (h _ ⟨_,_,D+1,N8 _ f (IN (Fe hd _)),C.mapDictKeys _,Fe hd _,?_,?_,?_,by rw[z];simp⟩ (NP ..))))
  ·rw[F5 en];simp[r,entryOfKey]
  ·rw[F5 en];intro x c
   rcases NT.mp c with c|c
   ·exact(Qh prog w).keeps (g x c) f hd (NP ..)
   ·cases NF.mp c;exact(Qh prog w).keeps b f hd (NP ..)
  ·rw[F5 en,N6,Ek];exact⟨n,by simp,fun x c y q e=>i (by rw[Nw,EG,NF]at q;rw[e,q]at c;exact c)⟩
 ·intro j p B;have u:=atKey_of_get n B;refine Na (Dd (Na (wpAny_updateDict (s:={ s with toks:=s.toks+(Qh prog w).draws k }) f hd (wpAny_point (h _ ⟨_,_,D,N8 _ f (IN (Yaj hd _)),C.mapDict _,Yaj hd _,?_,?_,?_,by rw[z];simp⟩ (NP ..))))))
  ·rw[storedH_old u];have:=modify_map_putAt (entryOfKey (Qh prog w)) (fun e:DictEntry=>{ e with val:=v }) k v (fun _ _=>rfl) n B;rw[<-r]at this;obtain⟨l⟩:=G;simpa using this
  ·rw[storedH_old u];intro x c;obtain⟨y,q,rfl⟩:=NL.mp c;simp only[Yae];split<;>exact(Qh prog w).keeps (g y q) f hd (NP ..)
  ·rw[storedH_old u,keys_map_putAt];exact n
theorem QdY(hu:(Qh prog w).room A.in1)(b:(Qh prog w).is s.heap k a)(e:DctE prog w s.heap d xs)(c:xs.length<=sizeLine)
  (h:∀h',DctE prog w h' d (storedH xs k a v)->Heap.SameBut d s.heap h'->Q () { s with heap:=h',toks:=s.toks+(Qh prog w).draws k }):wpAny (model prog w) A (setItem (.ref d) (.ref a) v) Q E s:=by
 have ty:=e.of.typeIs;unfold setItem;refine N2 (Na (Ll ty (by decide) (Na (Ep (name:=Str.ofString "__setitem__") ty O5 (Ej O5 ty entry_dict_setitem ?_ (args_dict_setitem _ _ _))))));refine(show wpAny _ _ (Builtin.Dict.notOrdered "__setitem__" ⟨[.ref d,.ref a,v],[]⟩>>=_) _ _ s from Na (D7 ty ?_));exact(show wpAny _ _ (dictSet d (.ref a) v>>=_) _ _ s from Na (Wy hu b e c fun h' m f=>Nj ⟨.none,rfl,Nj (h h' m f)⟩))
end
section
variable{X:Cx}{o i e a b:Expr}{mo mi mv ma mb:ME}{pos pos':Pos}
theorem WK:PM X (.Dict [] [] pos) WS:=Q5 Qgx fun n H Q q=>by
 obtain⟨R,f,h,w,s,j,st,e,k⟩:=q;cases e;intro p l;obtain⟨m,g,d,c⟩:=j.new (mo:=.dct []) (o:=.dT []) l fun t r=>⟨[],rfl,.nil⟩
 exact k m _ _ g d c
theorem QcW(hu:X.A.units+64<cLine):(Qh X.prog X.w).room X.A.in1:=by show X.A.units+1+8<cLine;lia
theorem Qa3(hu:X.A.units+64<cLine):OpR X (compareOp .In) (F2 X.K (UI false)):=by
 intro g s G H x y v u Q I l j ⟨R,h,a,b,w,O,d,p,f,e,k⟩;unfold UI at e;obtain⟨q,E,D⟩:=Nc.mp e;obtain⟨M,C,B⟩:=Nd.mp D;cases B;obtain⟨n,rfl,r⟩:=Xb E;obtain⟨L,J,N,F,z,lo,m,dd⟩:=Ww I d r;obtain⟨c,rfl,rfl,t⟩:=YR I d p l C;unfold Rw at f;obtain⟨_,rfl⟩:=f;obtain rfl:u=Value.ref (R.ρ n):=j;refine wpAny_in_heap (QcW hu) t lo dd ?_;rw[<-UX m,<-US F];exact⟨.bl _,H,I.tok _,rfl,k R H _ (Ext.refl _) d (Rw.bl _)⟩
theorem V1(hu:X.A.units+64<cLine):OpR X (compareOp .NotIn) (F2 X.K (UI true)):=by
 intro g s G H x y v u Q I l j ⟨R,h,a,b,w,O,d,p,f,e,k⟩;unfold UI at e;obtain⟨q,E,D⟩:=Nc.mp e;obtain⟨M,C,B⟩:=Nd.mp D;cases B;obtain⟨n,rfl,r⟩:=Xb E;obtain⟨L,J,N,F,z,lo,m,dd⟩:=Ww I d r;obtain⟨c,rfl,rfl,t⟩:=YR I d p l C;unfold Rw at f;obtain⟨_,rfl⟩:=f;obtain rfl:u=Value.ref (R.ρ n):=j;refine wpAny_notIn_heap (QcW hu) t lo dd ?_;rw[<-UX m,<-US F];exact⟨.bl _,H,I.tok _,rfl,k R H _ (Ext.refl _) d (Rw.bl _)⟩
theorem GG{a b v:W}(e:Ko a b v h=some h'):∃n c k,a=.ref n/\h[n]?=some (.dct c)/\nrm b=some k/\c.length<sizeLine/\h'=h.set n (.dct (Qby c k b v)):=by
 unfold Ko at e;split at e
 ·rename_i n;split at e
  ·rename_i c f;obtain⟨k,j,d⟩:=Nc.mp e;split at d
   ·rename_i g;cases d;exact⟨n,c,k,rfl,f,j,g,rfl⟩
   ·cases d
  ·cases e
 ·cases e
def Qng(K:Ng)(mo mi mv:ME):TS:=fun D c H=>tI K mv c H fun v m=>tI K mo c m fun x l=>tI K mi c l fun y j=>
 ∃R h a b w d,Rh K R h j/\Rw K R a x/\Rw K R b y/\Rw K R w v/\Ko a b w h=some d/\∀f g,Ext R f->Rh K f d g->D.nx c g
theorem Qrm{H:Hp}{R:Rn}{a b w:W}{x y v:V}(hu:X.A.units+64<cLine)(I:Inv X f σ H s)(j:Rh X.K R h H)(C:Rw X.K R a x)(B:Rw X.K R b y)(rw:Rw X.K R w v)
  (N:RelV x r) (M:RelV y J) (rv:RelV v L) (e:Ko a b w h=some h') (q:∀t G,Inv X f σ G t->Rh X.K R h' G->Q () t):wpAny (model X.prog X.w) X.A (setItem r J L) Q X.xe s:=by
 obtain⟨n,O,k,rfl,U,E,Z,rfl⟩:=GG e;obtain⟨l,Y,S,F,z,lo,u,dd⟩:=QaR I j U;obtain⟨c,rfl,rfl,g⟩:=YR I j B M E;unfold Rw at C;obtain⟨m,rfl⟩:=C;obtain rfl:r=Value.ref (R.ρ n):=N;have D:=NW F;have d:=NW u;refine QdY (QcW hu) g dd (Nn (Nt d.symm) z) fun h' p T=>?_;have P:(Qa2 l k c v).length<=sizeLine:=by have:=Wg (kx:=l) (k:=k) (b:=c) (v:=v);lia
 exact q _ _ (WE I S P lo (Gu u rv) T p) (j.put m ⟨_,rfl,U9 F B E rw⟩)
theorem Qno(hu:X.A.units+64<cLine)(ho:PM X o mo)(hi:PM X i mi)(he:PM X e mv)(hs:swapsWith e (some (.Subscript o i pos')) pos.line X.env=pure false):PMS X (.Assign [.Subscript o i pos'] e pos) (KB mo mi mv):=by
 refine X8 (t:=Qng X.K mo mi mv) (fun c s g H D I h=>?_) fun D g H q=>?_
 ·refine wpAny_Assign_Subscript (thn (he c s g H _ I h) fun r U ⟨v,S,I1,rv,q1⟩=>thn (ho c U g S _ I1 q1) fun u T ⟨x,Q,I2,B,q2⟩=>thn (hi c T g Q _ I2 q2) fun iv s3 z=>?_) hs;obtain⟨y,H3,I3,p,R,h,a,b,w,P,G,ra,Z,rw,e,k⟩:=z;exact Qrm hu I3 G ra Z rw B p rv e fun s4 n I4 f=>⟨g,n,I4,k R n (Ext.refl _) f⟩
 ·obtain⟨R,d,h,r,G,s,e,k⟩:=q;obtain⟨⟨v,O⟩,e1,e2⟩:=Nc.mp e;obtain⟨⟨ob,N⟩,e3,e4⟩:=Nc.mp e2;obtain⟨⟨L,M⟩,e5,e6⟩:=Nc.mp e4;obtain⟨P,e7,e8⟩:=Nd.mp e6;subst e8;refine⟨R,d,h,v,O,G,s,e1,fun R1 S x m F B=>⟨R1,d,O,ob,N,F,s.mono m,e3,fun R2 Q y l E p=>⟨R2,d,N,L,M,E,s.mono (m.trans l),e5,fun R3 H3 z j C Y=>?_⟩⟩⟩;exact⟨R3,M,ob,L,v,P,C,Rw.mono j _ _ p,Y,Rw.mono (l.trans j) _ _ B,e7,fun R4 n J f=>k R4 n g (m.trans (l.trans (j.trans J))) f (s.mono (m.trans (l.trans (j.trans J))))⟩
theorem Ke(hu:X.A.units+64<cLine)(d:PM X o mo)(f:PM X i mi)(g:PM X e mv)(c:G1 e=false:=by rfl):PMS X (.Assign [.Subscript o i pos'] e pos) (KB mo mi mv):=Qno hu d f g (Wh c)
end
theorem QdX{w:World}(d a:Addr)(lo:(d==sysModules)=false)(dflt:Value) :
  MeetsIn prog w (Builtin.«dict.setdefault» ⟨[.ref d,.ref a,dflt],[]⟩) (fun A R s=>(Qh prog w).room A.in1/\∃k xs,(Qh prog w).is s.heap k a/\DctE prog w s.heap d xs/\xs.length<=sizeLine /\
   (∀p,atKey xs k=some p->R (.ok (.ret p.2)) { s with toks:=s.toks+(Qh prog w).draws k }) /\
   (atKey xs k=none->∀h',DctE prog w h' d (storedH xs k a dflt)->Heap.SameBut d s.heap h'->R (.ok (.ret dflt)) { s with heap:=h',toks:=s.toks+(Qh prog w).draws k })):=
 .of_wp fun A R s g=>by
  obtain⟨hu,k,xs,b,f,h,m,l⟩:=g;unfold Builtin.«dict.setdefault» Builtin.Dict.keyAndDefault;refine Na (Na (D7 f.of.typeIs ?_));refine(show wpAny _ _ (pure (d,Value.ref a,some dflt)) _ _ s from Nj ?_);refine(show wpAny _ _ (if(d==sysModules)=true then _ else(dictSetDefault d (.ref a) dflt>>=_)) _ _ s from ?_);rw[if_neg (by rw[lo];exact NQ)];exact Na (Qko hu b f h (fun p i=>Nj ⟨p.2,rfl,m p i⟩) fun j h' e c=>Nj ⟨dflt,rfl,l j h' e c⟩)
section
variable{X:Cx}
theorem Qdg(hu:X.A.units+64<cLine):Qdd X "dict.setdefault" QfJ:=by
 intro Y s σ H x O v us Q I rx rv q;obtain⟨R,h,a,ws,w,h',o,ra,B,e,k⟩:=q;unfold QfJ at e;split at e
 ·rename_i b dv;obtain⟨ab,e1,e2⟩:=Nc.mp e;obtain⟨g,G,r⟩:=Nc.mp e2;obtain⟨n,rfl,hn⟩:=Xb e1;obtain⟨y,J,rfl,U,T⟩:=Qhm B;obtain⟨uy,uz,rfl,ry,S⟩:=GE rv;obtain⟨D,O,hx,t,zl,lo,C,dd⟩:=QaR I o hn;obtain⟨c,rfl,rfl,l⟩:=YR I o U ry G;have i:=ra;unfold Rw at i;obtain⟨F,rfl⟩:=i;obtain rfl:v=Value.ref (R.ρ n):=rx;have aa:=NW t;have f:=NW C;have d:=Wv (k:=g) C;refine Iy EW dd.of.typeIs IK (IC _ _ _) (QdX _ c lo uz) ⟨QcW hu,g,O,l,dd,by exact Nn (Nt f.symm) zl,fun p hp=>?_,fun E ae L hs=>?_⟩
  ·rw[hp]at d
   rcases Yx (k:=g) t with z|⟨w',P,N,u,M⟩
   ·rw[z.2]at d;exact d.elim
   ·rw[N]at r;cases r;rw[u]at d;exact⟨P,H,I.tok _,d,k R H _ (Ext.refl _) o M⟩
  ·rw[E]at d
   rcases Yx (k:=g) t with z|⟨w',P,N,u,M⟩
   ·rw[z.1]at r;obtain⟨h3,e5,e6⟩:=Nd.mp r;cases e6;obtain⟨n',Z,k',en,j,m,hl,rfl⟩:=GG e5;cases en;rw[hn]at j;cases j;rw[G]at m;cases m;have hz:(Qa2 D g c J).length<=sizeLine:=by have:=Wg (kx:=D) (k:=g) (b:=c) (v:=J);lia
    exact⟨J,_,WE I hx hz lo (Gu C S) hs L,S,k R _ _ (Ext.refl _) (o.put F ⟨_,rfl,U9 t U G T⟩) T⟩
   ·rw[u]at d;exact d.elim
 ·cases e
theorem Qgz(hu:X.A.units+64<cLine):Qdd X "dict.get" Qec:=by
 intro r s σ H x o v us Q I J rv q;obtain⟨R,h,a,ws,w,h',f,p,i,e,k⟩:=q;unfold Qec at e;split at e
 ·rename_i b dv;obtain⟨O,Z,Y⟩:=Nc.mp e;obtain⟨j,U,T⟩:=Nd.mp Y;cases T;obtain⟨n,rfl,P⟩:=Xb Z;obtain⟨y,z,rfl,N,M⟩:=Qhm i;obtain⟨uy,E,rfl,G,F⟩:=GE rv;obtain⟨kx,o,hx,dr,zl,lo,L,dd⟩:=Ww I f P;obtain⟨c,rfl,rfl,d⟩:=YR I f N G U;unfold Rw at p;obtain⟨S,rfl⟩:=p;obtain rfl:v=Value.ref (R.ρ n):=J;have g:=Wv (k:=j) L;refine Iy Dy dd.typeIs F3 (FQ _ _ _) (meetsH_dict_get_default (Qh X.prog X.w) (R.ρ n) c lo E) ⟨QcW hu,j,o,d,dd,?_⟩
  rcases Yx (k:=j) dr with z|⟨w',D,C,B,t⟩
  ·rw[z.2]at g;rw[RelO.none_of g];rw[z.1]at k;exact⟨_,H,I.tok _,F,k R H _ (Ext.refl _) f M⟩
  ·rw[B]at g;obtain⟨u,m,l⟩:=RelO.some_of g;rw[m];rw[C]at k;exact⟨D,H,I.tok _,l,k R H _ (Ext.refl _) f t⟩
 ·cases e
theorem QbL{K:Ng}:∀{a:List (W×W)} {kx:List (Tr×Addr×V)},DctR K R a kx->Rws K R (a.map (·.1)) (kx.map fun p=>.ref p.2.1)
 |_,_,.nil=>Rws.nil
 |_,_,.cons h t=>Rws.cons h.1 (QbL t)
theorem Qcn:∀{kx:List (Tr×Addr×V)} {xs:List (Tr×Addr×Value)},QcR kx xs->Vals (kx.map fun p=>.ref p.2.1) (xs.map fun p=>.ref p.2.1)
 |_,_,.nil=>.nil
 |_,_,.cons h t=>.cons (show _=Value.ref _ from by rw[h.2.1]) (Qcn t)
theorem KH(hc:X.calm=true):CallR X (.type "list") (Fs X.K Xv):=by
 intro F s σ H f us Q I r q;obtain⟨R,h,ws,w,J,D,m,e,k⟩:=q;unfold Xv at e;split at e
 ·rename_i a;obtain⟨T,e1,e2⟩:=Nd.mp e;cases e2;obtain⟨n,rfl,hn⟩:=Xb e1;obtain⟨y,rfl,E⟩:=W8 m;obtain⟨u,rfl,N⟩:=KQ r;obtain⟨S,f,hx,dr,B,lo,C,dd⟩:=Ww I D hn;unfold Rw at E;obtain⟨aa,rfl⟩:=E;obtain rfl:u=Value.ref (R.ρ n):=N;obtain⟨o,A,L,h1,h2,h3,G,_,h5⟩:=dd;have d:A.size=f.length:=LM G;have x:=NW C;refine PySem.W.kdl_call (QiX (es:=A) (ep:=L) lo) (I.ok.hd hc) ⟨o,h1,h2,h3⟩ (Nn (Nn (Nt d) (Nt x.symm)) B) fun J tk b c' U eL c=>?_
  have Y:Vals (S.map fun p=>.ref p.2.1) b.toList:=by
   have:b.toList=f.map fun p=>.ref p.2.1:=by
    apply Dh;intro j;rw[Np]
    by_cases i:j<f.length
    ·have g:j<b.size:=by rw[c.1];exact Nk i (Nt d.symm)
     obtain⟨e,l,z⟩:=c.2 j b[j] (NN g);rw[entry_at G j,Nl i]at l;cases l;rw[Eb,NN g,z,Nl i];rfl
    ·have P:b.toList.length<=j:=by rw[N3,c.1];exact Nn (Nt d) (NU.mp i)
     have O:f.length<=j:=by exact NU.mp i
     rw[NY P,NY O];rfl
   rw[this];exact Qcn C
  have Z:=I.hok.fresh (Nz s.heap.objs.size);obtain⟨R3,M,v,t⟩:=D.lstI (p:=s.heap.objs.size) Z (QbL dr);refine⟨.ref s.heap.objs.size,_,I.laid (t':=tk) U (Nz _) (show ObjOk X.prog X.w _ J _ (.lst _)from⟨by rw[Nu];exact B,b.toList,c',Y,by rw[eL]⟩),rfl,k R3 _ _ M v t⟩
 ·cases e
end
end Mi
namespace L2
section
variable{X:Cx}{pins:List (Addr×Obj)}{σ:St}{H:Hp}{s:Shared}{h':Heap}{t':Nat}{ch:List Addr}
theorem Inv.turnedL(I:Inv X pins σ H s)(k:∀b o,b∉ch->s.heap.get? b=some o->h'.get? b=some o)(f:∀b∈ch,Qdf X pins H b)(d:∀b u,H b=some u->i b=some u)(x:∀b o,s.heap.get? b=some o->H b=none->i b=none)
  (new:∀b u,H b=none->i b=some u->ObjOk X.prog X.w i h' b u):Inv X pins σ i { s with heap:=h',toks:=t' }:=by
 have g:∀b u,H b=some u->b∉ch:=fun b u e z=>by rw[(f b z).1]at e;cases e
 refine I.step (g':=s.gens) (d':=s.drawn) (ch:=ch) (fun b h=>⟨(f b h).2.2.2.1,(f b h).2.1,(f b h).2.2.2.2.1,(f b h).2.2.2.2.2⟩) (fun b o _ _ a e _=>k b o a e) (fun b o _ _ a e _=>⟨o.slots,k b o a e⟩) (fun b o _ e n=>x b o e n)
  (fun b o a e=>⟨o,k b o a e⟩) (fun b j e=>d b _ e) (fun b o u e=>d b _ e) (fun b C e=>⟨#[],by rw[d b _ e];simp⟩) (fun m y=>?_) (fun b u e=>?_) I.bare
 ·obtain⟨o,A,B,t,r⟩:=y;exact⟨o,A,B,k _ o (fun z=>(f _ z).2.1 rfl) t,r⟩
 ·cases q:H b with
  |none=>exact new b u q e
  |some l=>
   rw[d b l q]at e;cases e;refine(I.hok b _ q).stay (fun c v a p=>k c v ?_ p) (fun c z=>d c _ z) fun c j z=>d c _ z
   rcases a with z|z
   ·rw[z];exact g b _ q
   ·exact g c _ z
theorem Inv.turnedN(I:Inv X pins σ H s)(k:∀b o,b∉ch->s.heap.get? b=some o->h'.get? b=some o)(d:∀b∈ch,Qdf X pins H b)(a:s.heap.objs.size<=T)(new:ObjOk X.prog X.w (upd H T (.tup xs)) h' T (.tup xs)) :
  Inv X pins σ (upd H T (.tup xs)) { s with heap:=h',toks:=t' }:=by
 have c:=I.hok.fresh a;refine I.turnedL k d (fun b u e=>by rw[Qy (J7 e c)];exact e) (fun b o e n=>by rw[Qy (fun z=>by rw[z]at e;exact absurd (ND e) (NU.mpr a))];exact n) fun b u n e=>?_
 by_cases z:b=T
 ·subst z;rw[JZ]at e;cases e;exact new
 ·rw[Qy z,n]at e;cases e
end
noncomputable def Itv(K:Ng)(a:Addr)(n:Nat):It:=⟨fun i H=>i<n/\∃b,SqL K H a b/\b.length=n,fun i H x c=>c=H/\∀b,SqL K H a b->b[n-1-i]?=some x,fun i _=>n<=i⟩
theorem Qgp{K:Ng}(a it:Addr)(n:Nat):Turn P w K tg (Itv K a n) [it] it (fun i h=>i<=n/\h.IsRevIter it a ((n:Int)-1-(i:Int))) where
 mem:=by simp
 obj:=fun i h st b j=>by
  have e:b=it:=by simpa using j
  subst e;obtain⟨_,o,e,c,d⟩:=st;exact⟨o,e,fun v z=>by rw[d]at z;cases z⟩
 keep:=fun i h m st k=>⟨st.1,st.2.at fun o e=>k it (by simp) o e⟩
 item:=by
  intro X r hw t L i f s D H E I l st q;subst r hw t;obtain⟨T,F,J,hl⟩:=q;obtain⟨Q,rv,p,hz⟩:=I.list J;obtain⟨x,G⟩:∃x,F[n-1-i]?=some x:=⟨F[n-1-i]'(by omega),Nl _⟩
  obtain⟨u,hu,O⟩:=rv.get G;obtain⟨C,f1,f2,B,A,y⟩:=l it (by simp);have e:(n:Int)-1-(i:Int)=((n-1-i:Nat):Int):=by omega
  have hit:=st.2;rw[e]at hit;refine wpAny_pyNext_rev_item hit p.isList (x:=u) (by simpa using hu) fun m g N=>?_;have Y:((n-1-i:Nat):Int)-1=(n:Int)-1-((i+1:Nat):Int):=by lia
  rw[Y]at g;have I1:Inv X f D H { s with heap:=m }:=I.turned (t':=s.toks) (fun b o j e=>(N.2 b j).trans e) C f1 B A y;obtain⟨o,e,c,d⟩:=id g;exact⟨u,rfl,QaZ (s:={ s with heap:=m }) e c d (by decide) ⟨x,H,I1,O,⟨rfl,fun Z R=>by rw[I.list_inj R J];exact G⟩,⟨T,g⟩,fun b j=>(l b j).1⟩⟩
 done:=by
  intro X r hw t L i f s D H E I l st q;subst r hw t;obtain⟨C,f1,f2,B,A,y⟩:=l it (by simp);have S:n<=i:=q;have e:(n:Int)-1-(i:Int)=-1:=by have:=st.1;lia
  have hit:=st.2;rw[e]at hit;exact wpAny_pyNext_rev_end (I.ok.hd L) hit fun m U=>⟨rfl,I.turned (t':=s.toks) (fun b o j e=>U b o j e) C f1 B A y⟩
 self:=fun _ _ _ _ _ st h=>ID st.2 h
def Qq3(K:Ng)(f:TA):TI:=fun d H R=>f d H fun e c=>∃a b,e=[.ref a]/\SqL K c a b/\R (Itv K a b.length) c
theorem QlH{n a:Expr}(C:Gl X "reversed")(A:X.mg "reversed"=none)(E:PA X [a] r)(y:starEach [a] X.env=[(false,eval a X.env)]:=by rfl):PI X n (.Call (.Name "reversed" p) [a] [] pos) (Qq3 X.K r):=by
 intro c s j H R I h;refine Call_ (J9 I C A boot_reversed (NX (thn (E pos c s j H _ I h) fun J f m=>?_) y rfl));obtain⟨G,F,I1,v,w⟩:=m;obtain⟨ad,g,e,z,q⟩:=w;subst e;obtain⟨u,rfl,t⟩:=KQ v;cases t;obtain⟨d,rv,x,M⟩:=I1.list z;have B:=rv.length;refine OS x.isList ?_;refine ID (l:=ad) (i:=(d.toArray.size:Int)-1) ⟨_,NB _ rfl,rfl,rfl⟩ ?_;refine⟨f.heap.objs.size,[f.heap.objs.size],_,_,F,rfl,I1.kept (t':=f.toks) fun b o e=>No _ e,Qgp ad _ g.length,⟨NV _,?_⟩,fun b D=>?_,q⟩
 ·refine⟨_,NB _ rfl,rfl,?_⟩;have:((d.toArray.size:Nat):Int)-1=(g.length:Int)-1-((0:Nat):Int):=by rw[Nq,B];simp
  rw[<-this];rfl
 ·have e:b=f.heap.objs.size:=by simpa using D
  subst e;exact I1.fpOk (Nz _) (I1.hok.fresh (Nz _))
end L2
namespace Mi
open L2
noncomputable def Qha(ms:MA):MI:=fun b h=>(ms b h).bind fun p=>match p.1 with
 |[.lst a]=>some (a.reverse,none,p.2)
 |[.ref n]=>match p.2[n]? with|some (.lst a)=>some (a.reverse,some (.r n),p.2)|_=>none
 |_=>none
section
variable{K:Ng}{R:Rn}
theorem Qgh(l:SqL K R.F a xs)(r:Rws K R ws xs):ItOk K R (Itv K a xs.length) ws.reverse none where
 go:=fun i w j h H x d _ e=>by
  have c:=(Nf.mp e).1;rw[E3,r.length]at c;exact⟨c,xs,Zh (fun b o z=>d.sub b o (x.f b o z)) l,rfl⟩
 yld:=fun i w j h H x s e d _ g m=>by
  obtain⟨rfl,n⟩:=m;have c:=(Nf.mp g).1;rw[E3]at c;rw[Il c]at g;obtain⟨v,q,p⟩:=r.get g;have:=n xs (Zh (fun b o z=>d.sub b o (e.f b o z)) l);rw[<-r.length,q]at this;cases this;exact⟨j,Ext.refl _,d,Rw.mono e _ _ p⟩
 stop:=fun i j h H x d _ c=>by rw[E3,r.length]at c;exact c
theorem QdT{ws:List W}(o:n<R.N):ItOk K R (Itv K (R.ρ n) ws.length) ws.reverse (some (.r n)) where
 go:=fun i w m h H x b a e=>by
  have f:=(Nf.mp e).1;have j:=a (.r n) rfl;obtain⟨g,d,c⟩:=b.obj n _ j;rw[IE]at c;rw[x.ρ n o]at d;exact⟨by simpa using f,g,SqL.of d,c.length.symm⟩
 yld:=fun i w m h H x s e b a l p=>by
  obtain⟨rfl,q⟩:=p;have j:=a (.r n) rfl;obtain⟨g,d,c⟩:=b.obj n _ j;rw[IE]at c;rw[e.ρ n o]at d;have f:=(Nf.mp l).1;rw[E3]at f;rw[Il f]at l;obtain⟨v,g1,g2⟩:=c.get l;have:=q g (SqL.of d);rw[g1]at this;cases this;exact⟨m,Ext.refl _,b,g2⟩
 stop:=fun i m h H x b _ a=>by rw[E3]at a;exact a
end
section
variable{X:Cx}{tg a b:Expr}{ms:MA}{p pos tpos:Pos}{elts:List Expr}{kk:Nat}
theorem Qjz(D:Gl X "reversed")(B:X.mg "reversed"=none)(E:PMA X [a] ms)(z:starEach [a] X.env=[(false,eval a X.env)]:=by rfl):PMI X tg (.Call (.Name "reversed" p) [a] [] pos) (Qha ms):=
 UC (QlH D B E z) fun L H C s=>by
  obtain⟨R,i,h,items,w,N,y,st,e,k⟩:=s;obtain⟨⟨t,I⟩,J,d⟩:=Nc.mp e;refine⟨R,i,h,t,I,y,st,J,fun R1 r M o c rv=>?_⟩;split at d
  ·rename_i u g;simp only at g;subst g;cases d;obtain⟨v,rfl,l⟩:=W8 rv;have f:=l;unfold Rw at f;obtain⟨ad,j,rfl,q,x⟩:=f;exact⟨ad,j,rfl,SqL.of (c.sub _ _ q),k R1 r _ o c (Qgh (SqL.of q) x)⟩
  ·rename_i n g;simp only at g;subst g;split at d
   ·rename_i u A;cases d;obtain⟨v,rfl,l⟩:=W8 rv;obtain⟨m,rfl,j,G,F⟩:=c.refAt l A;refine⟨_,j,rfl,SqL.of G,?_⟩;rw[<-F.length];exact k R1 r _ o c (QdT m)
   ·cases d
  ·cases d
end
def Qf4(mk b:ME):ME:=fun a h=>(mk a (h++[.dct []])).bind fun p=>(b a p.2).bind fun q=>(Ko (.ref h.length) p.1 q.1 q.2).map fun c=>(.ref h.length,c)
section
variable{prog:Program}{w:World}{A:Around}{E:Value->Shared->Prop}{s:Shared}
theorem Qg8(h:wpAny (model prog w) A g (fun d e=>wpAny (model prog w) A f (fun a c=>wpAny (model prog w) A (dictSet s.heap.objs.size d a) (fun _ b=>Q s.heap.objs.size b) E c) E e) E { s with heap:=s.heap.push { cls:=.type "dict",data:=.dict #[] } }) :
  wpAny (model prog w) A (subDict [(g,f)]) Q E s:=by
 unfold subDict;refine Na (wpAny_alloc (Na (N2 ?_)));rw[if_pos (by simp)];refine Na (evalPairs_cons (N0 h (fun d e l=>N0 l (fun a c j=>evalPairs_nil ?_) fun _ _ x=>x) fun _ _ x=>x));refine N2 ?_;rw[Yap];refine Na (Na (show wpAny (model prog w) A (dictSet s.heap.objs.size d a>>=fun _=>pure (ForInStep.yield PUnit.unit)) _ _ c from Na (N0 j (fun _ b i=>Nj ?_) fun _ _ x=>x)));show wpAny (model prog w) A (forIn [] PUnit.unit _) _ _ b;rw[List.forIn_nil];exact Nj (Nj (Nj i))
end
section
variable{X:Cx}{k v:Expr}{mk mv:ME}{pos:Pos}
theorem QgO(hu:X.A.units+64<cLine)(hk:PM X k mk)(hv:PM X v mv):PM X (.Dict [some k] [v] pos) (Qf4 mk mv):=by
 intro f s σ H Q I ⟨R,p,h,w,h',rh,st,e,kk⟩;obtain⟨⟨O,Y⟩,e1,e2⟩:=Nc.mp e;obtain⟨⟨G,h2⟩,e3,e4⟩:=Nc.mp e2;obtain⟨h3,e5,e6⟩:=Nd.mp e4;cases e6;have hn:=I.hok.fresh (Nz s.heap.objs.size);have I1:=I.laid (a:=s.heap.objs.size) (o:=.dT []) (h':=s.heap.push { cls:=.type "dict",data:=.dict #[] }) (t':=s.toks) (fun _ _ q=>No _ q) (Nz _) (Qbw s.heap I.big);obtain⟨R1,F,N,J⟩:=rh.new (mo:=.dct []) (o:=.dT []) hn fun R' x'=>⟨[],rfl,.nil⟩
 rw[arm_eval_Dict,zip_pairTrees [some k] [v] X.env pos rfl rfl,dictDisplay_pairs _ (by simp[pairTrees]) (by simp[pairTrees])];refine Na (F9 (Na (Qg8 ?_)));refine thn (hk f _ σ _ (fun S E=>∃R2,Ext R1 R2/\Rh X.K R2 Y E/\Rw X.K R2 O S) I1 ⟨R1,p,h++[.dct []],O,Y,N,st.mono F,e1,fun R2 E S r i rk=>⟨R2,r,i,rk⟩⟩) fun ku s2 z1=>?_;obtain⟨S,E,I2,M,R2,r,i,rk⟩:=z1;refine Na (thn (hv f s2 σ E (fun m H3=>∃g,Ext R2 g/\Rh X.K g h2 H3/\Rw X.K g G m) I2 ⟨R2,p,Y,G,h2,i,st.mono (F.trans r),e3,fun g H3 m l d rv=>⟨g,l,d,rv⟩⟩) fun vu s3 ⟨m,H3,I3,L,g,l,d,rv⟩=>Na (F9 (Nj ?_)));obtain⟨n,P,x,en,T,y,hl,rfl⟩:=GG e5;cases en;obtain⟨D,xs,hx,dr,z,lo,rr,dd⟩:=QaR I3 d T;obtain⟨c,rfl,rfl,B⟩:=YR I3 d (Rw.mono l _ _ rk) M y;have r3:=Rw.mono (r.trans l) _ _ J;have u:=r3;unfold Rw at u;obtain⟨U,er⟩:=u;have C:g.ρ h.length=s.heap.objs.size:=by injection er with q;exact q.symm
 rw[C]at hx lo dd;have aa:=NW dr;have j:=NW rr;refine Wy (show X.A.units+8<cLine by exact N4 (EC (by decide) _) hu) B dd (Nn (Nt j.symm) z) fun h4 Z hs=>Nj ?_;have hz:(Qa2 D x c m).length<=sizeLine:=by have:=Wg (kx:=D) (k:=x) (b:=c) (v:=m);lia
 have I4:=WE (t':=s3.toks+(Qh X.prog X.w).draws x) I3 hx hz lo (Gu rr L) hs Z;have t:=d.put (n:=h.length) (o:=.dT (Qa2 D x c m)) (mo:=.dct (Qby P x O G)) U ⟨_,rfl,U9 dr (Rw.mono l _ _ rk) y rv⟩;rw[C]at t;exact⟨.ref s.heap.objs.size,_,I4,rfl,kk g _ _ (F.trans (r.trans l)) t r3⟩
end
end Mi
namespace St
theorem Ud(t:SetTable)(n:Nat):(t.orStandIn n).led=t.led/\(t.plain=false->(t.orStandIn n).plain=false):=by
 unfold SetTable.orStandIn;split
 ·exact⟨rfl,id⟩
 ·exact⟨rfl,fun _=>rfl⟩
theorem Qbf(t:SetTable)(es:Array (Int×Value))(g:Int)(x:Value):(layNew t es g x).2.1.led=t.led/\(t.plain=false->(layNew t es g x).2.1.plain=false):=by
 unfold layNew;split
 ·exact Ud _ _
 ·exact⟨rfl,fun _=>rfl⟩
theorem Qfr(e:SetTable.laid m f v l p b=some r):r.1.led=l/\r.1.plain=p:=by
 unfold SetTable.laid at e;obtain⟨o,_,a⟩:=Nc.mp e;cases a;exact⟨rfl,rfl⟩
theorem GI(t:SetTable)(es:Array (Int×Value))(n:Nat):(relayAll t es n).2.1.led=t.led/\(t.plain=false->(relayAll t es n).2.1.plain=false):=by
 unfold relayAll;split
 ·rename_i c d e;have a:=Qfr e;dsimp only;split
  ·exact⟨a.1,fun b=>a.2.trans b⟩
  ·exact⟨rfl,fun _=>rfl⟩
 ·exact⟨rfl,fun _=>rfl⟩
section
variable{prog:Program}{w:World}{A:Around}{E:Value->Shared->Prop}{s:Shared}
def SetL(prog:Program)(w:World)(h:Heap)(a:Addr)(ks:List Str)(led:Bool):Prop:=
 ∃o b c t,h.get? a=some o/\o.ExactSet/\o.data=.set b c t/\ElemsOf (strKind prog w) b.toList/\b.size<scanBound/\t.fits b.size=true/\t.led=led/\(b.size=0\/t.plain=false)/\ks.Nodup/\b.size=ks.length/\∀k,k∈ks↔∃e∈b.toList,(strKind prog w).is k e.2=true
theorem SetL.at{h h':Heap}{a:Addr}{ks:List Str}{led:Bool}(x:SetL prog w h a ks led)(e:∀o,h.get? a=some o->h'.get? a=some o):SetL prog w h' a ks led:=by obtain⟨o,c,d,t,b,r⟩:=x;exact⟨o,c,d,t,e _ b,r⟩
theorem SetL.lt{h:Heap}{a:Addr}{ks:List Str}{led:Bool}(x:SetL prog w h a ks led):a<h.objs.size:=by obtain⟨_,_,_,_,b,_⟩:=x;exact ND b
theorem SetL.typeIs{a:Addr}{ks:List Str}{led:Bool}(x:SetL prog w s.heap a ks led):s.TypeIs (.ref a) "set":=by obtain⟨o,_,_,_,c,b,_⟩:=x;exact⟨o,c,b.1⟩
theorem stored{h:Heap}{o:Obj}(g:h.get? a=some o)(f:o.ExactSet)(hd:o.data=.set es ep t)(p:ElemsOf (strKind prog w) b.toList)(h2:b.size<scanBound)(n:t'.fits b.size=true)(m:b.size=0\/t'.plain=false)(l:ks.Nodup)(j:b.size=ks.length)(i:∀k,k∈ks↔∃e∈b.toList,(strKind prog w).is k e.2=true) :
  (h.update a (Obj.putSet b t')).get? a=some (Obj.putSet b t' o)/\(Obj.putSet b t' o).ExactSet/\(∃c,(Obj.putSet b t' o).data=.set b c t')/\SetL prog w (h.update a (Obj.putSet b t')) a ks t'.led:=by
 have g1:(h.update a (Obj.putSet b t')).get? a=some (Obj.putSet b t' o):=N8 _ g (by rw[putSet_of b t' hd];rfl);have g2:(Obj.putSet b t' o).ExactSet:=by rw[putSet_of b t' hd];exact f
 have g3:∃c,(Obj.putSet b t' o).data=.set b c t':=by rw[putSet_of b t' hd];exact⟨_,rfl⟩
 obtain⟨c,d⟩:=g3;exact⟨g1,g2,⟨c,d⟩,_,b,c,t',g1,g2,d,p,h2,n,rfl,m,l,j,i⟩
theorem Qh1(x:Str)(c:Tok):(strKind prog w).is x (.str x c)=true:=by
 show Value.isStrOf x (.str x c)=true;simp[Value.isStrOf]
theorem QqS{a:Addr}{ks:List Str}{led:Bool}{x:Str}{c:Tok}{Q:Bool->Shared->Prop}(hS:SetL prog w s.heap a ks led)(room:ks.length+1<scanBound)
  (h:∀b h',Heap.SameBut a s.heap h'->SetL prog w h' a (if x∈ks then ks else ks++[x]) led->Q b { s with heap:=h' }) :
  wpAny (model prog w) A (setAddHashed a (.str x c) ((strKind prog w).hash x)) Q E s:=by
 obtain⟨o,I,ep,t,S,hx,hd,y,hb,hf,m,aa,T,hn,i⟩:=hS;have Z:(strKind prog w).is x (.str x c)=true:=Qh1 x c;have G:(Value.str x c).scannable=true:=rfl;have quiet:∀(b:Bool) {B:Shared} {D:Unit->Shared->Prop},D () B->wpAny (model prog w) A (match b with|true=>rule "set.scan.the-table-gave-way"|false=>pure ()) D E B:=fun b _ _ q=>by cases b<;>first|exact Nj q|exact Dd q
 unfold setAddHashed setAddHashedIn;refine N2 (Na (DE S hd hf ?_));dsimp only;rw[byScan_of G hb y,if_pos rfl];unfold setAddByScan;refine Na (Na (Dd (Na (wpAny_setScan_of Z S hd hf y ?_))));cases hr:List.findIdx? (fun e=>(strKind prog w).is x e.2) I.toList with
 |some j=>
  obtain⟨hj,pj,_⟩:=EF.mp hr;have f:x∈ks:=(i x).mpr ⟨I.toList[j],Dp hj,pj⟩;refine Nj (Nj ?_);have q:=h false s.heap (Heap.SameBut.refl a s.heap) ⟨o,I,ep,t,S,hx,hd,y,hb,hf,m,aa,by rw[if_pos f];exact T,by rw[if_pos f];exact hn,by rw[if_pos f];exact i⟩;exact q
 | none=>
  have f:x∉ks:=fun f=>by
   obtain⟨e,z,p⟩:=(i x).mp f;have:=Fw.mp hr e z;rw[p]at this;cases this
  rw[if_neg f]at h;have pm:=layNew_perm t I ((strKind prog w).hash x) (.str x c);have ft:=layNew_fits t I ((strKind prog w).hash x) (.str x c);have Y:=Qbf t I ((strKind prog w).hash x) (.str x c);dsimp only;generalize layNew t I ((strKind prog w).hash x) (.str x c)=L at pm ft Y ⊢;obtain⟨d,t1,ab,gv⟩:=L;dsimp only at pm ft Y ⊢;rw[O6]at pm;have X:ElemsOf (strKind prog w) d.toList:=(y.push Z G).perm pm;have F:d.size=(ks++[x]).length:=by rw[<-N3,pm.length_eq,NH,N3,NH,hn];rfl
  have b1:d.size<scanBound:=by rw[F,NH,NZ];exact room
  have P:(ks++[x]).Nodup:=by
   rw[Ek];exact⟨T,by simp,fun u hu v hv e=>f (by rw[NF.mp hv]at e;rw[<-e];exact hu)⟩
  have C:∀k,k∈ks++[x]↔∃e∈d.toList,(strKind prog w).is k e.2=true:=fun k=>by
   rw[NT,NF,i k];constructor
   ·rintro(⟨e,z,p⟩|rfl)
    ·exact⟨e,pm.mem_iff.mpr (El _ z),p⟩
    ·exact⟨_,pm.mem_iff.mpr (NR _ (NF.mpr rfl)),Z⟩
   ·rintro⟨e,z,p⟩
    rcases NT.mp (pm.mem_iff.mp z)with q|q
    ·exact .inl ⟨e,q,p⟩
    ·rw[NF.mp q]at p;exact .inr ((strKind prog w).inj _ _ _ p Z)
  have fin:∀(g:SetTable),g.fits d.size=true->g.led=led->g.plain=false->wpAny (model prog w) A (do
    storeSet a d g
    if(!ab&&g.tooFull)=true then do
      (match (relayAll g d (SetTable.grown d.size)).2.2 with|true=>rule "set.scan.the-table-gave-way"|false=>pure ())
      storeSet a (relayAll g d (SetTable.grown d.size)).1 (relayAll g d (SetTable.grown d.size)).2.1
      pure (some true)
     else pure (some true)) (fun r N=>∃v,r=some v/\∃h',Heap.SameBut a s.heap h'/\SetL prog w h' a (ks++[x]) led/\N={ s with heap:=h' }) E s:=by
   intro g f2 l2 p2;refine Na (O7 S hd ?_ (O8 b1));obtain⟨g1,g2,⟨af,g3⟩,g4⟩:=stored (prog:=prog) (w:=w) S hx hd X b1 f2 (.inr p2) P F C;rw[l2]at g4;have sb:=NP s.heap a (Obj.putSet d g);split
   ·have l:=relayAll_perm g d (SetTable.grown d.size);have H:=relayAll_fits g d (SetTable.grown d.size);have n:=GI g d (SetTable.grown d.size);generalize relayAll g d (SetTable.grown d.size)=R at l H n ⊢;obtain⟨U,t3,ae⟩:=R;dsimp only at l H n ⊢;have M:U.size=d.size:=by rw[<-N3,l.length_eq,N3]
    have b2:U.size<scanBound:=by rw[M];exact b1
    refine Na (quiet _ (Na (O7 g1 g3 (Nj ⟨true,rfl,_,sb.trans (NP _ a _),?_,rfl⟩) (O8 b2))));obtain⟨_,_,_,g5⟩:=stored (prog:=prog) (w:=w) (ks:=ks++[x]) g1 g2 g3 (X.perm l) b2 H (.inr (n.2 p2)) P (M.trans F) (fun k=>(C k).trans ⟨fun⟨e,z,q⟩=>⟨e,l.mem_iff.mpr z,q⟩,fun⟨e,z,q⟩=>⟨e,l.mem_iff.mp z,q⟩⟩);rw[n.1,l2]at g5;exact g5
   ·exact Nj ⟨true,rfl,_,sb,g4,rfl⟩
  have O:∀r N,(∃v,r=some v/\∃h',Heap.SameBut a s.heap h'/\SetL prog w h' a (ks++[x]) led/\N={ s with heap:=h' })->wpAny (model prog w) A (match r with|some J=>pure J|none=>setAddHashedIn a (.str x c) ((strKind prog w).hash x) 99999) Q E N:=by
   rintro r N ⟨v,rfl,h',q1,q2,rfl⟩
   exact Nj (h v h' q1 q2)
  refine Na (quiet _ ?_);cases hp:t1.plain with
  |true=>
   rw[if_pos rfl,hashByValue_scannable 8 G];refine Na (Nj ?_);exact N0 (fin { t1 with plain:=false } (SetTable.fits_plain_off ft) (Y.1.trans m) rfl) O fun _ _ q=>q
  |false=>
   rw[if_neg (by simp)];refine Na (Nj ?_);exact N0 (fin t1 ft (Y.1.trans m) hp) O fun _ _ q=>q
end
noncomputable def uniq(l:List Str):List Str:=l.foldl (fun u x=>if x∈u then u else u++[x]) []
theorem uniq_snoc(l:List Str)(x:Str):uniq (l++[x])=if x∈uniq l then uniq l else uniq l++[x]:=by unfold uniq;rw[List.foldl_append];rfl
theorem Qf3:∀(n:Nat) (l:List Str),l.length=n->(uniq l).length<=n:=by
 intro n
 induction n with
 |zero=>intro l h;rw[Ec.mp h];exact Nz _
 |succ n a=>
  intro l h;obtain⟨u,x,rfl⟩:∃u x,l=u++[x]:=⟨l.dropLast,l.getLast (fun z=>by rw[z]at h;cases h),(EX _).symm⟩
  rw[uniq_snoc];have:=a u (by simp at h;exact h);split
  ·exact Nn this (Nv _ _)
  ·rw[NH,NZ];exact Df this _
theorem uniq_mem:∀(n:Nat) (l:List Str),l.length=n->∀y,y∈uniq l↔y∈l:=by
 intro n
 induction n with
 |zero=>intro l h y;rw[Ec.mp h];exact Iff.rfl
 |succ n a=>
  intro l h y;obtain⟨u,x,rfl⟩:∃u x,l=u++[x]:=⟨l.dropLast,l.getLast (fun z=>by rw[z]at h;cases h),(EX _).symm⟩
  have q:=a u (by simp at h;exact h);rw[uniq_snoc,NT,NF];split
  ·rename_i b;rw[q y];exact⟨.inl,fun z=>z.elim id fun e=>by rw[e];exact(q x).mp b⟩
  ·rw[NT,NF,q y]
section
variable{prog:Program}{w:World}{A:Around}{R:Result->Shared->Prop}{I:Addr}{fp wr:List Addr}{G:Array GenState->Array GenState->Prop}{n:Nat}{P:Nat->Value->Prop}{St':Nat->Shared->Prop}
theorem Qli(W:WalksS prog w A.in1 I fp wr G n P St')(S:Addr)(f:S∉fp)(led:Bool)(l:List Str)(F:l.length=n)(E:∀i v,P i v->∃x c,l[i]?=some x/\v=.str x c)(N:n+1<scanBound) :
  ∀(k i:Nat) (s:Shared),n-i=k->i<=n->St' i s->SetL prog w s.heap S (uniq (l.take i)) led ->
   (∀a,Moved (S::wr) G s a->SetL prog w a.heap S (uniq l) led->R (.ok (.ret .none)) a) ->
   codeAny (model prog w) A (.builtin "set.update.loop" ⟨[.ref S,.ref I],[]⟩) R s:=by
 have B:S∉wr:=fun z=>f (W.sub _ z);have sub:∀b∈wr,b∈S::wr:=fun b z=>Ny _ z;intro k
 induction k with
 |zero=>
  intro i s H J st hS t;obtain rfl:i=n:=by lia
  refine E2 LJ ?_;rw[Dg FS _];show wpAny _ A.in1 (pyNext (.ref I)>>=_) _ _ s;refine Na (W.done s _ _ st fun a d=>Nj (t a (d.mono sub) ?_));rw[F6 (Nt F)]at hS;exact hS.at fun o e=>d.heap S _ B e
 | succ k C=>
  intro i s H J st hS t;have lt:i<n:=by lia
  refine E2 LJ ?_;rw[Dg FS _];show wpAny _ A.in1 (pyNext (.ref I)>>=_) _ _ s;refine Na (W.item i s _ _ lt st fun v a L g d=>?_);obtain⟨x,c,D,rfl⟩:=E i v L;have r:SetL prog w a.heap S (uniq (l.take i)) led:=hS.at fun o e=>d.heap S _ B e;show wpAny _ A.in1 (holding [Value.str x c] (setAdd S (.str x c))>>=_) _ _ a;refine Na (N2 ?_);unfold setAdd;refine N2 (Na ((strKind prog w).pyHash (k:=x) (Qh1 x c) ?_))
  have room:(uniq (l.take i)).length+1<scanBound:=by
   have:=Qf3 _ (l.take i) rfl;rw[Ei]at this;lia
  refine QqS (s:={ a with toks:=a.toks+1 }) r room fun b M y p=>?_
  have m:SetL prog w M S (uniq (l.take (i+1))) led:=by
   rw[List.take_add_one,D,Option.toList_some,uniq_snoc];exact p
  refine Nj ⟨DR FS _,C (i+1) _ (by lia) lt (W.frame _ a _ _ g (IX _) fun b z o e=>?_) m fun h j q=>?_⟩
  ·exact(y.2 b (fun u:b=S=>f (by rw[<-u];exact z))).trans e
  ·refine t h (Moved.trans W.gtrans ((d.mono sub).then_heap (IX _) fun b o z e=>?_) j) q;exact(y.2 b (fun u:b=S=>z (by rw[u];exact NA))).trans e
end
section
variable{prog:Program}{w:World}{A:Around}{E:Value->Shared->Prop}{s:Shared}
noncomputable abbrev VU(w:World):Bool:=!(w.params.followText "set-order")
noncomputable abbrev Qp(b:Bool):Obj:={ cls:=.type "set",dict:=none,data:=.set #[] 0 (.fresh 0 0 b) }
theorem QpT(a:Value)(h:Q₁ (.ref s.heap.objs.size) { s with heap:=s.heap.push (Qp (VU w)) }) :
  codeAny (model prog w) A (.call (.builtin "set.__new__") ⟨[.type "set",a],[]⟩) (wants Q₁ E) s:=by
 refine LN (show wpAny _ A.in1 (do checkBuiltinCall "set.__new__" ⟨[.type "set",a],[]⟩;again (.builtin "set.__new__" ⟨[.type "set",a],[]⟩)) _ _ s from ?_);refine Na (L0 (F.newCall_set_1 a) (Nj ⟨DR F.plain_set_new _,E2 (F.entry_set_new) ?_⟩));rw[Dg F.plain_set_new _];unfold Builtin.«set.__new__» Builtin.Frozenset.newClass;have b:=sub_set_self;obtain⟨c,g,d,tk,os⟩:=s;dsimp only
 wp_walk
 refine DM (Nj ?_);dsimp only;simp only[newObj];exact Na (wpAny_alloc (Nj (Nj h)))
theorem UM(e:h.get? a=some (Qp b)):SetL prog w h a [] b:=
 ⟨_,#[],0,_,e,⟨rfl,rfl,rfl⟩,rfl,fun x c=>by simp at c,by decide,rfl,rfl,.inl rfl,Ea,rfl,fun k=>by simp⟩
theorem QnF{Q:Value->Shared->Prop}(P:A.handled=none)(O:s.heap.IsList l items)(G:StrsAre items.toList r)(R:items.size+1<scanBound)
  (h:∀(h':Heap) (tk:Nat),SetL prog w h' s.heap.objs.size (uniq r) (VU w)->(∀b o,b<s.heap.objs.size->s.heap.get? b=some o->h'.get? b=some o)->Q (.ref s.heap.objs.size) { s with heap:=h',toks:=tk }) :
  wpAny (model prog w) A (Builtin.«set.__init__» ⟨[.ref s.heap.objs.size,.ref l],[]⟩) (fun fin y=>fin=.done (.ret .none)/\Q (.ref s.heap.objs.size) y) E { s with heap:=s.heap.push (Qp (VU w)) }:=by
 have hS:(s.heap.push (Qp (VU w))).get? s.heap.objs.size=some (Qp (VU w)):=NB _ rfl;have hT:Shared.TypeIs { s with heap:=s.heap.push (Qp (VU w)) } (.ref s.heap.objs.size) "set":=⟨_,hS,rfl⟩
 obtain⟨ol,j,q,nl,p⟩:=O;obtain⟨J,f,B,a⟩:=ol;simp only at q p;subst q p;have g:(s.heap.push (Qp (VU w))).get? l=some { cls:=.type "list",dict:=f,data:=.seq items nl,slots:=a }:=No _ j;have n:(s.heap.push (Qp (VU w))).IsList l items:=⟨_,g,rfl,nl,rfl⟩
 have n1:=F.sub_list_set;have n2:=F.sub_list_frozenset;have Z:(Value.type "list"==Value.type "dict")=false:=by decide
 unfold Builtin.«set.__init__» noKeywords Builtin.Frozenset.updateFrom;generalize I:pyIter=PI
 wp_walk
 subst I;refine D0 n (Na (L9 ?_));have m:l<s.heap.objs.size:=ND j;have d:(s.heap.push (Qp (VU w))).objs.size=s.heap.objs.size+1:=DI _ _;have C:l≠(s.heap.push (Qp (VU w))).objs.size:=by rw[d];exact NG (E1 m)
 have M:s.heap.objs.size∉[(s.heap.push (Qp (VU w))).objs.size,l]:=by
  rw[d];simp only[NE,N5,or_false,not_or];exact⟨NG (N1 _),EO m⟩
 have D:r.length=items.size:=by have:=FO G;rw[N3]at this;exact this.symm
 have N:∀(i:Nat) (v:Value),items[i]?=some v->∃x c,r[i]?=some x/\v=.str x c:=fun i v e=>by
  have L:items.toList[i]?=some v:=by rw[Eb];exact e
  obtain⟨x,c,rfl⟩:=G.all v (NC.mpr ⟨i,L⟩);refine⟨x,c,?_,rfl⟩;rw[<-G.strs,Np,L];rfl
 refine Qli ((Om (show A.in1.handled=none by simp[P]) _ l C items).toS) s.heap.objs.size M (VU w) r D N R (items.size-0) 0 _ rfl (NV _) ⟨⟨_,NB _ rfl,rfl,rfl⟩,n.push _⟩ (UM (No _ hS)) fun y t H=>?_;obtain⟨h',S,Y,u,z⟩:=y;have U:S=s.gens:=t.gens;have X:Y=s.drawn:=t.drawn;have T:z=s.os:=t.os;subst U X T;refine Nj (Nj ⟨rfl,h h' u H fun b o lt e=>?_⟩);refine t.heap b o ?_ (No _ (No _ e));simp only[NE,N5,or_false,not_or];exact⟨NG lt,by rw[d];exact NG (E1 lt)⟩
theorem set_list(x:A.handled=none)(u:s.heap.IsList l items)(v:StrsAre items.toList t)(y:items.size+1<scanBound)
  (h:∀(h':Heap) (tk:Nat),SetL prog w h' s.heap.objs.size (uniq t) (VU w)->(∀b o,b<s.heap.objs.size->s.heap.get? b=some o->h'.get? b=some o)->Q (.ref s.heap.objs.size) { s with heap:=h',toks:=tk }) :
  wpAny (model prog w) A (call (.type "set") [.ref l]) Q E s:=by
 have body:∀(j:Around),j.handled=none->wpAny (model prog w) j (Builtin.«set.__init__» ⟨[.ref s.heap.objs.size,.ref l],[]⟩) (fun fin m=>fin=.done (.ret .none)/\Q (.ref s.heap.objs.size) m) E { s with heap:=s.heap.push (Qp (VU w)) }:=by
  intro j hA;exact QnF hA u v y h
 obtain⟨c,C,n⟩:=Ev.mro;have M:=Ev.made;have L:=Ev.sub;refine wpAny_call (LN (show wpAny _ _ (callAny (.type "set") _) _ _ _ from ?_));refine Nj ⟨IZ _ (by decide +kernel),E2 (O9) ?_⟩;rw[OT (Oa "set" [Value.ref l] []) rfl];have J:=Ev.notType;have I:=Ev.canCreate;have H:=F.typeCall_set_1 (Value.ref l)
 repeat (any_goals (first|assumption|wp_step))
 refine DJ (QpT (Value.ref l) (E:=E) (Q₁:=fun obj f=>obj=.ref s.heap.objs.size/\f={ s with heap:=s.heap.push (Qp (VU w)) }) ⟨rfl,rfl⟩) fun r f hr=>?_;cases r with
 |error e=>exact hr
 | ok B=>
  cases B with
  | ret obj=>
   obtain⟨rfl,rfl⟩:=hr;have hS:(s.heap.push (Qp (VU w))).get? s.heap.objs.size=some (Qp (VU w)):=NB _ rfl;have z:Shared.TypeIs { s with heap:=s.heap.push (Qp (VU w)) } (.ref s.heap.objs.size) "set":=⟨_,hS,rfl⟩
   have G:=Ev.init.lookup;have D:=Ev.init.bind (.ref s.heap.objs.size)
   repeat (any_goals (first|assumption|wp_step))
   refine DJ (Os (R:=wants (fun r d=>r=.none/\Q (.ref s.heap.objs.size) d) E) Ev.init.plain F.entry_set_init (check_set_init_1 z (N0 (body _ (by simp[x])) (fun fin m q=>?_) fun _ _ q=>q))) fun i d a=>?_
   ·obtain⟨rfl,q⟩:=q;exact⟨rfl,q⟩
   ·cases i with
    |error e=>exact a
    | ok g=>
     cases g with
     |ret r=>
      obtain⟨rfl,q⟩:=a
      repeat (any_goals (first|assumption|wp_step))
     |_=>exact a.elim
  |_=>exact hr.elim
end
theorem slotN:Slot "set_iterator" "__next__" "set_iterator.__next__":=.of (owner:="set_iterator") (n:="__next__") (by rw[Fy,DA];kernel_rfl) (by decide +kernel) (by decide +kernel) (by decide +kernel) (by first|exact .inl (by decide +kernel)|exact .inr (by decide +kernel)) (by rw[D9];kernel_rfl)
theorem QhM:entryFor table "set_iterator.__next__"=some Builtin.«set_iterator.__next__»:=entryFor_of_tree (by kernel_rfl)
theorem Qmf(a:Value):argsOk "set_iterator.__next__" ⟨[a],[]⟩:=by unfold argsOk;kernel_rfl
theorem Qmt:entryFor table "set.__iter__"=some Builtin.«frozenset.__iter__»:=entryFor_alias (id':="frozenset.__iter__") (by kernel_rfl) rfl (by decide +kernel) (by kernel_rfl)
theorem UO(lt:j<l.length):List.Perm (l[j]::l.eraseIdx j) l:=by
 rw[List.eraseIdx_eq_take_drop_succ];have e:l=l.take j++l[j]::l.drop (j+1):=by rw[<-EK lt,Ob]
 conv=>rhs;rw[e]
 exact List.perm_middle.symm
theorem Qd9(nx:Nat->Nat):∀(f k:Nat) (l:List a) (o:Array a),f=l.length->List.Perm (pickOrder.go nx f k l o).toList (o.toList++l)
 |0,k,l,o,h=>by
  rw[Ec.mp h.symm,Dv];exact .rfl
 |f+1,k,l,o,h=>by
  unfold pickOrder.go;have lt:nx k%l.length<l.length:=Nat.mod_lt _ (Nk (IF _) (Nt h));generalize nx k%l.length=j at lt;rw[Nl lt];refine(Qd9 nx f (k+1) (l.eraseIdx j) (o.push l[j]) (by rw[Lg lt];lia)).trans ?_;rw[O6,Qq,List.singleton_append];exact List.Perm.append_left _ (UO lt)
theorem QdN(nx:Nat->Nat)(xs:Array a):List.Perm (pickOrder nx xs).toList xs.toList:=by
 have:=Qd9 nx xs.size 0 xs.toList #[] (by simp);simpa[pickOrder]using this
section
variable{prog:Program}{w:World}{A:Around}{E:Value->Shared->Prop}{s:Shared}
theorem Qmh(a:n≠0)(h:∀j d,j<n->Q j { s with drawn:=d }):wpAny M A (choose src n) Q E s:=fun b p _=>by
 show Sem.wp M b (.choose src n fun i=>pure i) _ _ p s;rw[Sem.wp_choose];exact⟨a,h _ _ (Nat.mod_lt _ (Nat.pos_of_ne_zero a))⟩
theorem Qam:∀(n:Nat) (xs:List c) (s:Shared) (Q:List c->Shared->Prop),n=xs.length->(∀b d,List.Perm b xs->Q b { s with drawn:=d })->wpAny (model prog w) A (drawOrder n xs) Q E s
 |0,xs,s,Q,a,h=>by
  have e:=Ec.mp a.symm;subst e;exact Nj (h [] s.drawn .rfl)
 |n+1,[],s,Q,a,h=>by cases a
 |n+1,x::xs,s,Q,a,h=>by
  unfold drawOrder;refine Na (Qmh (by simp) fun j f lt=>?_);rw[Nl lt];refine Na (Qam n _ _ _ (by rw[Lg lt];simp at a ⊢;exact a) fun b d p=>Nj (h _ d ?_));exact(p.cons _).trans (UO lt)
end
end St
namespace Sb
open PySem SetTable
noncomputable abbrev At(xs:Array Nat)(i:Nat):Nat:=xs.getD i 0
def Up(xs:Array Nat):Prop:=∀i j,i<j->j<xs.size->At xs i<At xs j
theorem Gq(up:Up xs):∀(f lo c:Nat),c-lo<=f->lo<=c->c<=xs.size->(∀i,i<lo->At xs i<j)->(∀i,c<=i->i<xs.size->j<=At xs i) ->
  below.go xs j f lo c<=xs.size/\(∀i,i<below.go xs j f lo c->At xs i<j)/\∀i,below.go xs j f lo c<=i->i<xs.size->j<=At xs i
 |0,lo,c,r,h2,m,l,h=>by
  have:lo=c:=by lia
  subst this;exact⟨m,l,h⟩
 | f+1,lo,c,r,h2,m,l,h=>by
  unfold below.go
  by_cases d:lo<c
  ·rw[if_pos d];have p:(lo+c)/2<xs.size:=by lia
   have e:xs.getD ((lo+c)/2) j=At xs ((lo+c)/2):=by simp[Array.getD,p]
   have rel:∀a b,a<=b->b<xs.size->At xs a<=At xs b:=fun a b o n=>by
    rcases Nat.lt_or_ge a b with z|z
    ·exact Nr (up a b z n)
    ·rw[show a=b by exact Dw o z];exact Nz _
   dsimp only;rw[e]
   by_cases g:At xs ((lo+c)/2)<j
   ·rw[if_pos g];exact Gq up f _ c (by omega) (by lia) m (fun i q=>Nh (rel i _ (by lia) p) g) h
   ·rw[if_neg g];exact Gq up f lo _ (by omega) (by lia) (Nr p) l (fun i o n=>Nn (NU.mp g) (rel _ i o n))
  ·rw[if_neg d];have:lo=c:=by exact Dw h2 (NU.mp d)
   subst this;exact⟨m,l,h⟩
theorem QbD(up:Up xs)(j:Nat):below xs j<=xs.size/\(∀i,i<below xs j->At xs i<j)/\∀i,below xs j<=i->i<xs.size->j<=At xs i:=
 Gq up xs.size 0 xs.size (Iv _ _) (NV _) (Nz _) (fun i h=>absurd h (DV _)) (fun i b a=>by omega)
theorem below_next(up:Up xs)(a:i<xs.size):below xs (At xs i+1)=i+1:=by
 obtain⟨d,c,b⟩:=QbD up (At xs i+1)
 rcases Lp (below xs (At xs i+1)) (i+1)with z|z|z
 ·have:=b i (by omega) a;lia
 ·exact z
 ·have:=c (i+1) z;have:=up i (i+1) (N1 _) (Nk z d);omega
theorem below_zero(up:Up xs):below xs 0=0:=by
 obtain⟨c,a,b⟩:=QbD up 0
 rcases Nat.eq_zero_or_pos (below xs 0)with z|z
 ·exact z
 ·exact absurd (a 0 z) (DV _)
theorem at_get(a:i<xs.size):xs[i]?=some (At xs i):=by simp[Array.getD,a]
end Sb
namespace St
theorem Qh2:Slot "set_iterator" "__iter__" "set_iterator.__iter__":=.of (owner:="set_iterator") (n:="__iter__") (by rw[Fy,DA];kernel_rfl) (by decide +kernel) (by decide +kernel) (by decide +kernel) (by first|exact .inl (by decide +kernel)|exact .inr (by decide +kernel)) (by rw[D9];kernel_rfl)
theorem Qjb:entryFor table "set_iterator.__iter__"=some Builtin.«dict_keyiterator.__iter__»:=entryFor_alias (id':="dict_keyiterator.__iter__") (by kernel_rfl) rfl (by decide +kernel) (by kernel_rfl)
theorem Qlu(a:Value):argsOk "set_iterator.__iter__" ⟨[a],[]⟩:=by unfold argsOk;kernel_rfl
section
variable{prog:Program}{w:World}{A:Around}{E:Value->Shared->Prop}{s:Shared}
noncomputable abbrev Qf6(f:Value)(i:Nat)(S:Addr)(n ep:Nat):Obj:={ cls:=.type "set_iterator",data:=.fields #[f,.int i 0,.ref S,.int n 0,.int ep 0] }
inductive How(w:World)(S T:Addr)(h:Heap)(es:Array (Int×Value))(ep:Nat)(t:SetTable)(vs:List Value):Nat->Value->Prop where
 |tup {i:Nat} {ps:List Nat} (hT:h.get? T=some { cls:=.type "tuple",data:=.seq (ps.map fun(p:Nat)=>rawInt p).toArray 0 }) (hl:ps.length=vs.length) (hp:∀(j p:Nat),ps[j]?=some p->∃e,es[p]?=some e/\vs[j]?=some e.2):How w S T h es ep t vs i (.ref T)
 |text {i:Nat} (c:Nat) (hb:w.params.followText "set-order"=true) (hv:vs=(pickOrder (w.params.setOrder S ep) es).toList.map (·.2)):How w S T h es ep t vs i (.int c 0)
 |slots {i:Nat} (c:Nat) (hb:w.params.followText "set-order"=false) (hled:t.led=true) (hs:t.plain=true\/es.size<=1) (hv:vs=es.toList.map (·.2)) (hc:SetTable.below t.place c=i):How w S T h es ep t vs i (.int c 0)
def ItT(w:World)(I S T:Addr)(b:List Value)(i:Nat)(h:Heap):Prop:=
 ∃f o a c t,h.get? I=some (Qf6 f i S b.length c)/\h.get? S=some o/\o.data=.set a c t/\t.fits a.size=true/\(t.plain=true\/a.size<=1->Sb.Up t.place)/\a.size=b.length/\How w S T h a c t b i f
theorem Qb2{t:SetTable}(a:t.fits n=true):t.place.size=n:=by
 simp only[SetTable.fits,NJ,beq_iff_eq]at a;exact a.1
theorem How.keep(x:How w S T h es ep t e i f)(k:∀o,h.get? T=some o->h'.get? T=some o):How w S T h' es ep t e i f:=by
 cases x with
 |tup n l j=>exact .tup (k _ n) l j
 |text c d b=>exact .text c d b
 |slots c d a g b m=>exact .slots c d a g b m
theorem Qke(k:Nat):rawInt (k:Int)=Value.int k 0:=rfl
theorem Qqh:(#[f,a,b,c,d]:Array Value).setIfInBounds 0 x=#[x,a,b,c,d]:=by rfl
theorem Qqm:(#[f,a,b,c,d]:Array Value).setIfInBounds 1 x=#[f,x,b,c,d]:=by rfl
theorem Qcq{h:Heap}(e:h.get? I=some (Qf6 f i S n ep))(k:Nat)(x:Value):(h.update I (Obj.mapFields (·.setIfInBounds k x))).get? I=some { cls:=.type "set_iterator",data:=.fields ((#[f,.int i 0,.ref S,.int n 0,.int ep 0]:Array Value).setIfInBounds k x) }:=N8 _ e rfl
theorem Qq5{h:Heap}(e:h.get? I=some (Qf6 f i S n ep)):((h.update I (Obj.mapFields (·.setIfInBounds 0 x))).update I (Obj.mapFields (·.setIfInBounds 1 y))).get? I=some { cls:=.type "set_iterator",data:=.fields #[x,y,.ref S,.int n 0,.int ep 0] }:=by
 have g1:=Qcq e 0 x;rw[Qqh]at g1;exact N8 (Obj.mapFields (·.setIfInBounds 1 y)) g1 rfl
theorem YV(f:s.heap.get? S=some o)(d:o.data=.set es ep t)(b:t.fits es.size=true)(a:w.params.followText "set-order"=true)
  (h:Q (((pickOrder (w.params.setOrder S ep) es)[i]?).map fun e=>(e.2,c)) s):wpAny (model prog w) A (setNext S c i ep) Q E s:=by
 unfold setNext;refine Na (DE f d b ?_);dsimp only;unfold setsByText;refine Na (Na (DM (Nj ?_)));show wpAny _ _ (if(w.params.followText "set-order")=true then _ else _) _ _ _;rw[if_pos a];rw[if_neg (by simp)];refine Na ?_;unfold setWalk;refine Na (DE f d b ?_);dsimp only;unfold setsByText;refine Na (Na (DM (Nj ?_)));show wpAny _ _ (if(w.params.followText "set-order")=true then _ else _) _ _ _;rw[if_pos a];refine Na (DM (Nj ?_));exact Nj h
theorem U4(d:s.heap.get? S=some o)(c:o.data=.set es ep t)(b:t.fits es.size=true)(a:es[p]?=some e)(h:Q e.2 s):wpAny (model prog w) A (setNextDrawn S p ep) Q E s:=by
 unfold setNextDrawn;refine Na (DE d c b ?_);dsimp only;rw[if_neg (by simp),a];exact Nj h
theorem KP(g:s.heap.get? S=some o)(f:o.data=.set es ep t)(e:t.fits es.size=true)(d:w.params.followText "set-order"=false)(a:t.led=true)(b:t.plain=true\/es.size<=1)
  (h:Q (match es[SetTable.below t.place c]?,t.place[SetTable.below t.place c]? with|some (_,x),some j=>some (x,j+1)|_,_=>none) s):wpAny (model prog w) A (setNext S c i ep) Q E s:=by
 unfold setNext;refine Na (DE g f e ?_);dsimp only;unfold setsByText;refine Na (Na (DM (Nj ?_)));show wpAny _ _ (if(w.params.followText "set-order")=true then _ else _) _ _ _;rw[if_neg (by rw[d];simp)];show wpAny _ _ (if(!t.plain&&decide (es.size>1))=true then _ else _) _ _ _
 rw[if_neg (by
  rcases b with z|z
  ·rw[z];simp
  ·have:¬es.size>1:=by exact NU.mpr z
   simp[this])]
 show wpAny _ _ ((if(!t.led&&!es.isEmpty)=true then unsupported "set:maker-not-led"else pure ())>>=_) _ _ _;rw[if_neg (by rw[a];simp)];exact Na (Nj (Nj h))
theorem QdZ{i:Nat}(H:S≠I)(G:T≠I)(st:ItT w I S T z i s.heap)(P:i<z.length)
  (hQ:∀v h',z[i]?=some v->ItT w I S T z (i+1) h'->Heap.SameBut I s.heap h'->Q (some v) { s with heap:=h' }):wpAny (model prog w) A (pyNext (.ref I)) Q E s:=by
 obtain⟨f,o,n,L,t,m,u,r,l,up,h,hw⟩:=st;have Z:s.TypeIs (.ref I) "set_iterator":=⟨_,m,rfl⟩
 unfold pyNext;refine Na (Le (Ep (name:=Str.ofString "__next__") Z slotN (Ej slotN Z QhM ?_ (Qmf _))));unfold Builtin.«set_iterator.__next__»;refine Na (Nj (Na (D8 m rfl ?_)));dsimp only;refine Na (IP u r l ?_);rw[if_neg (by simp[h])];have d:∀(x y:Value),Heap.SameBut I s.heap ((s.heap.update I (Obj.mapFields (·.setIfInBounds 0 x))).update I (Obj.mapFields (·.setIfInBounds 1 y))):=fun x y=>(NP ..).trans (NP ..)
 have U:∀(x:Value) (nx:Nat),z[i]?=some x->How w S T s.heap n L t z (i+1) (.int nx 0)->wpAny (model prog w) A.in1 (do
   setField (Value.ref I) 0 (rawInt (nx:Int))
   setField (Value.ref I) 1 (rawInt ((i:Int)+1))
   ret x) (fun fin M=>∃v,fin=Fin.done (Flow.ret v)/\wpAny (model prog w) A (pure (some v)) Q E M) (fun e M=>wpAny (model prog w) A (do if(<-isInstance e (Value.type "StopIteration"))=true then pure none else throw e) Q E M) s:=by
  intro x nx hx N;refine Na (EV m rfl (by simp) (Na (EV (Qcq m 0 _) rfl (by simp) (Nj ⟨x,rfl,Nj (hQ x _ hx ?_ (d _ _))⟩))));refine⟨.int nx 0,o,n,L,t,Qq5 m,?_,r,l,up,h,N.keep fun o' e=>?_⟩
  ·rw[(d _ _).2 S H];exact u
  ·rw[(d _ _).2 T G];exact e
 cases hw with
 |@tup J F Y X=>
  simp only[Ey];refine Na (D5 F rfl ?_);dsimp only;have j:J[i]?=some J[i]:=Nl (Nk P (Nt Y.symm));generalize J[i]=q at j;obtain⟨e,he,B⟩:=X i q j;have:((J.map fun(p:Nat)=>rawInt p).toArray)[i]?=some (Value.int (q:Int) 0):=by simp[j,Qke]
  rw[this];dsimp only;refine Na (U4 u r l (p:=q) he (Na (EV m rfl (by simp) (Nj ⟨e.2,rfl,Nj (hQ e.2 _ B ?_ (NP ..))⟩))));have R:Heap.SameBut I s.heap (s.heap.update I (Obj.mapFields (·.setIfInBounds 1 (rawInt ((i:Int)+1))))):=NP ..;refine⟨.ref T,o,n,L,t,?_,by rw[R.2 S H];exact u,r,l,up,h,How.keep (.tup F Y X) fun o' e=>by rw[R.2 T G];exact e⟩;have g:=Qcq m 1 (rawInt ((i:Int)+1));rw[Qqm]at g;exact g
 |text c D B=>
  simp only[Ey];refine Na (YV u r l (i:=i) (c:=c) D ?_);subst B;have a:i<(pickOrder (w.params.setOrder S L) n).size:=by simpa using P
  rw[NN a];exact U _ c (by rw[Np,Eb,NN a];rfl) (.text c D rfl)
 |slots c D b O B hc=>
  simp only[Ey];refine Na (KP u r l (i:=i) (c:=c) D b O ?_);subst B;have a:i<n.size:=by simpa using P
  have C:i<t.place.size:=by rw[Qb2 l];exact a
  rw[hc,NN a,Sb.at_get C];exact U n[i].2 (Sb.At t.place i+1) (by rw[Np,Eb,NN a];rfl) (.slots _ D b O rfl (Sb.below_next (up O) C))
theorem Qcb(d:B.handled=none)(f:∀h',(∀b o,s.heap.get? b=some o->h'.get? b=some o)->Q none { s with heap:=h' }) :
  wpAny (model prog w) B (newExc (.type "StopIteration") []>>=raiseNew) (fun(fin:Fin) c=>∃v,fin=Fin.done (Flow.ret v)/\wpAny (model prog w) A (pure (some v)) Q E c) (fun e c=>wpAny (model prog w) A (do if(<-isInstance e (Value.type "StopIteration"))=true then pure none else throw e) Q E c) s:=by
 refine Na ?_;simp only[newExc,newTuple];refine Na (N9 ?_ (by size_fits));refine Na (m:=firstArgMember _ _) (L0 (a:=Value.none) (by first|rfl|(simp only[firstArgMember];rfl)) (N9 ?_ (by size_fits)));simp only[raiseNew];refine Na (Oz ?_);rw[d];refine Na (Nj (wpAny_throw ?_));refine Na (Fc (T:="StopIteration") (b:=true) ⟨_,NB _ rfl,rfl⟩ isSubtype_stop ?_);refine Nj (f _ ?_);exact fun b o e=>No _ (No _ e)
theorem Gh(G:A.handled=none)(L:S≠I)(J:T≠I)(st:ItT w I S T d d.length s.heap)
  (z:∀h',Heap.ExtBut I s.heap h'->Q none { s with heap:=h' }):wpAny (model prog w) A (pyNext (.ref I)) Q E s:=by
 obtain⟨f,o,B,M,t,j,u,r,q,up,g,hw⟩:=st;have y:s.TypeIs (.ref I) "set_iterator":=⟨_,j,rfl⟩
 unfold pyNext;refine Na (Le (Ep (name:=Str.ofString "__next__") y slotN (Ej slotN y QhM ?_ (Qmf _))));unfold Builtin.«set_iterator.__next__»;refine Na (Nj (Na (D8 j rfl ?_)));dsimp only;refine Na (IP u r q ?_);rw[if_neg (by simp[g])];have hA:A.in1.handled=none:=G
 have one:wpAny (model prog w) A.in1 (do
   setField (Value.ref I) 2 Value.none
   raiseNew (<-newExc (Value.type "StopIteration") [])) (fun(fin:Fin) l=>∃v,fin=Fin.done (Flow.ret v)/\wpAny (model prog w) A (pure (some v)) Q E l) (fun e l=>wpAny (model prog w) A (do if(<-isInstance e (Value.type "StopIteration"))=true then pure none else throw e) Q E l) s:=by
  refine Na (EV j rfl (by simp) (Qcb hA fun h' k=>z h' fun b m a e=>k b m ?_));rw[(NP ..).2 b a];exact e
 cases hw with
 |@tup C n F N=>
  simp only[Ey];refine Na (D5 n rfl ?_);dsimp only;rw[show((C.map fun(p:Nat)=>rawInt p).toArray)[d.length]?=none by simp[F]];refine Na (EV j rfl (by simp) (Na (EV (Qcq j 0 _) rfl (by simp) (Qcb hA fun h' k=>z h' fun b m a e=>k b m ?_))));rw[((NP s.heap I _).trans (NP ..)).2 b a];exact e
 |text c a x=>
  simp only[Ey];refine Na (YV u r q (i:=d.length) (c:=c) a ?_);rw[show(pickOrder (w.params.setOrder S M) B)[d.length]?=none by rw[x];simp];exact one
 |slots c a h D x H=>
  simp only[Ey];refine Na (KP u r q (i:=d.length) (c:=c) a h D ?_);rw[H,show B[d.length]?=none from F4 (Nt g)];exact one
theorem Qm5(st:ItT w I S T c i s.heap)(h:Q (.ref I) s):wpAny (model prog w) A (pyIter (.ref I)) Q E s:=by
 obtain⟨f,o,d,e,t,b,_⟩:=st;have a:s.TypeIs (.ref I) "set_iterator":=⟨_,b,rfl⟩
 refine Lm a Qh2 (Ej Qh2 a Qjb ?_ (Qlu _));exact Nj ⟨_,rfl,"set_iterator",_,a,slotN.lookup,h⟩
theorem QkC(y:A.handled=none)(I S T:Addr)(d:S≠I)(c:T≠I)(j:List Value) :
  Walks prog w A I [I,S,T] [I] j.length (fun i v=>j[i]?=some v) (fun i h=>ItT w I S T j i h) where
 sub:=fun b a=>by simp at a;simp[a]
 frame:=fun i h g z k=>by
  obtain⟨f,o,C,D,t,H,G,F,B,up,m,hw⟩:=z;exact⟨f,o,C,D,t,k I (by simp) _ H,k S (by simp) _ G,F,B,up,m,hw.keep fun o e=>k T (by simp) o e⟩
 item:=fun i s Q E u st n=>QdZ d c st u fun v g r l p=>n v g s.toks r l fun b o a e=>by rw[p.2 b (fun z=>a (by simp[z]))];exact e
 done:=fun s Q E st n=>Gh y d c st fun g x=>n g s.toks fun b o a e=>x b o (fun z=>a (by simp[z])) e
 self:=fun i s Q E st q=>Qm5 st q
noncomputable abbrev atP(es:Array (Int×Value))(i:Nat):Value:=(es.getD i (0,.none)).2
theorem Qc1{ps:List Nat}(p:ps.Perm (List.range es.size)):(ps.map (atP es)).Perm (es.toList.map (·.2))/\∀(j q:Nat),ps[j]?=some q->∃e,es[q]?=some e/\(ps.map (atP es))[j]?=some e.2:=by
 constructor
 ·refine(p.map _).trans ?_
  have:(List.range es.size).map (atP es)=es.toList.map (·.2):=by
   apply Dh;intro j;rw[Np,Np]
   by_cases lt:j<es.size
   ·simp[atP,Array.getD,lt]
   ·rw[NY (by simpa using lt),NY (by simpa using lt)];rfl
  rw[this]
 ·intro j q a;have lt:q<es.size:=Ez.mp (p.mem_iff.mp (NC.mpr ⟨j,a⟩));refine⟨es[q],NN lt,?_⟩;rw[Np,a];simp[atP,Array.getD,lt]
theorem Qnt{es:Array (Int×Value)}(g:s.heap.get? S=some o)(O:o.ExactSet)(y:o.data=.set es ep t)(x:t.fits es.size=true)(up:t.plain=true\/es.size<=1->Sb.Up t.place)(B:t.led=VU w)(hz:es.size<=sizeLine)
  (h:∀h' d I T (f:List Value),(∀b o,s.heap.get? b=some o->h'.get? b=some o)->s.heap.objs.size<=I->(T=S\/s.heap.objs.size<=T)->S≠I->T≠I->f.Perm (es.toList.map (·.2))->f.length=es.size->ItT w I S T f 0 h'->Q (.ref I) { s with heap:=h',drawn:=d }) :
  wpAny (model prog w) A (pyIter (.ref S)) Q E s:=by
 have H:s.TypeIs (.ref S) "set":=⟨o,g,O.1⟩
 have n:=ND g;refine Lm H F.slot_set_iter (Ej F.slot_set_iter H Qmt ?_ (F.args_set_iter_1 _));unfold Builtin.«frozenset.__iter__» Builtin.Frozenset.slot0;refine Na (Na (Nj (Nj ?_)));unfold Builtin.Frozenset.sizeOf;refine Na (Na (IP g y x (Nj ?_)));refine Na (Na (DE g y x ?_));dsimp only;unfold setsByText;refine Na (Na (DM (Nj (Nj ?_))));show wpAny _ _ (if(!(w.params.followText "set-order")&&(!t.plain&&decide (es.size>1)))=true then _ else _) _ _ _
 have made:∀(c:Int) (f:List Value),c=0->f.Perm (es.toList.map (·.2))->How w S S (s.heap.push (Qf6 (.int (0:Nat) 0) 0 S es.size ep)) es ep t f 0 (.int (0:Nat) 0)->wpAny (model prog w) A.in1 (do
   let first <-pure (rawInt c)
   ret (<-newFields "set_iterator" [first,rawInt 0,Value.ref S,rawInt (es.size:Int),rawInt ((<-setEpoch S):Int)])) (fun fin G=>∃v,fin=Fin.done (Flow.ret v)/\∃J r,G.TypeIs v J/\typeLookup (Value.type J) (Str.ofString "__next__")=pure (some r)/\Q v G) E s:=by
  intro c f R p hw;subst R;refine Na (Nj (Na (wpAny_setEpoch_of g y x (Na (N9 (Nj ⟨_,rfl,"set_iterator",_,⟨_,NB _ rfl,rfl⟩,slotN.lookup,?_⟩))))));have a:es.size=f.length:=by rw[p.length_eq,Nu,N3]
  refine h _ s.drawn s.heap.objs.size S f (fun b N e=>No _ e) (Nz _) (.inl rfl) (NG n) (NG n) p a.symm ?_;exact⟨.int (0:Nat) 0,o,es,ep,t,by rw[<-a];exact NB _ rfl,No _ g,y,x,up,a,hw⟩
 cases u:w.params.followText "set-order"with
 |true=>
  rw[if_neg (by simp)];exact made 0 ((pickOrder (w.params.setOrder S ep) es).toList.map (·.2)) rfl ((QdN _ es).map _) (.text 0 u rfl)
 | false=>
  have q:t.led=true:=by rw[B];simp[VU,u]
  by_cases D:t.plain=false/\es.size>1
  ·rw[if_pos (by simp[D.1,D.2])];refine Na (Qam es.size (List.range es.size) s _ (by simp) fun l d p=>?_);have C:l.length=es.size:=by rw[p.length_eq,EJ]
   refine Na (wpAny_newTuple ?_ (by rw[Nu,C];exact hz));refine Na (wpAny_setEpoch_of (s:={ s with drawn:=d,heap:=s.heap.push { cls:=.type "tuple",data:=.seq (l.map fun(i:Nat)=>rawInt i).toArray } }) (No _ g) y x ?_);refine Na (N9 (Nj ⟨_,rfl,"set_iterator",_,⟨_,NB _ rfl,rfl⟩,slotN.lookup,?_⟩));obtain⟨M,L⟩:=Qc1 p;have a:es.size=(l.map (atP es)).length:=by rw[Nu,C]
   have j:(s.heap.push { cls:=.type "tuple",data:=.seq (l.map fun(i:Nat)=>rawInt i).toArray }).objs.size=s.heap.objs.size+1:=DI _ _;refine h _ d _ s.heap.objs.size (l.map (atP es)) (fun b N e=>No _ (No _ e)) (by show s.heap.objs.size<=(s.heap.push _).objs.size;rw[j];exact Nv _ _) (.inr (Nz _)) (by show S≠(s.heap.push _).objs.size;rw[j];exact NG (E1 n)) (by show s.heap.objs.size≠(s.heap.push _).objs.size;rw[j];exact NG (N1 _)) M a.symm ?_;refine⟨.ref s.heap.objs.size,o,es,ep,t,by rw[<-a];exact NB _ rfl,No _ (No _ g),y,x,up,a,.tup (ps:=l) (No _ (NB _ rfl)) (by rw[<-a,C]) L⟩
  ·have m:t.plain=true\/es.size<=1:=by
    cases P:t.plain with
    |true=>exact .inl rfl
    |false=>
     right
     rcases Nat.lt_or_ge 1 es.size with z|z
     ·exact absurd ⟨P,z⟩ D
     ·exact z
   rw[if_neg (by
    rcases m with z|z
    ·rw[z];simp
    ·have:¬es.size>1:=by exact NU.mpr z
     simp[this])]
   exact made 0 (es.toList.map (·.2)) rfl .rfl (.slots 0 u q m rfl (Sb.below_zero (up m)))
theorem QnH(d:s.TypeIs (.ref S) "set")(h:Q false s):wpAny (model prog w) A (Builtin.List.listLengthHint (.ref S)) Q E s:=by
 unfold Builtin.List.listLengthHint;refine Na (Dt d F.slot_set_len.lookup ?_);generalize a:("set.__len__":String)=c
 wp_delta
 rw[show splitId c=some ("set","__len__")from by subst a;decide +kernel];subst a;refine Na (Fc (T:="set") (b:=true) d (by rw[D9];kernel_rfl) ?_);refine LO (fun z=>absurd z (by decide)) (fun _=>LO (fun _=>?_) (fun z=>absurd (by decide +kernel) z));exact Na (DK d (Nj h))
noncomputable abbrev lsO(xs:Array Value)(c:Nat):Obj:={ cls:=.type "list",dict:=none,data:=.seq xs c,slots:=#[] }
theorem QjA(hh:A.handled=none)(Z:s.heap.get? S=some o)(J:o.ExactSet)(e3:o.data=.set es ep t)(ft:t.fits es.size=true)(up:t.plain=true\/es.size<=1->Sb.Up t.place)(B:t.led=VU w)(n:N≠S)(res:Value)(l:Nat)(hN:s.heap.get? N=some (lsO #[] l))(hz:es.size<=sizeLine)
  (hR:∀h' d tk (h:List Value) u,h.Perm (es.toList.map (·.2))->(∀b o,b≠N->s.heap.get? b=some o->h'.get? b=some o)->h'.get? N=some (lsO h.toArray u)->R (.ok (.ret res)) { s with heap:=h',drawn:=d,toks:=tk }) :
  wpAny (model prog w) A.in1 (Builtin.List.listExtendWith (.ref N) (.ref S) res) (fun fin m=>match fin with|.done f=>R (.ok f) m|.again u=>u.quiet=true/\codeAny (model prog w) A u R m) (fun e m=>R (.error e) m) s:=by
 unfold Builtin.List.listExtendWith;refine Na (DK (T:="set") ⟨o,Z,J.1⟩ ?_);have n1:Builtin.List.listSameRef (.ref N) (.ref S)=false:=by simp[Builtin.List.listSameRef,n]
 have n2:(Value.type "set"==Value.type "list")=false:=by decide
 have n3:(Value.type "set"==Value.type "tuple")=false:=by decide
 simp only[n1,n2,n3,Ox,Es,if_false];refine Na (Qnt Z J e3 ft up B hz fun Y d I T h F hI M P O str L st=>?_);have p:=F _ _ hN;have x:N<s.heap.objs.size:=ND hN;have U:N≠I:=fun z=>absurd hI (by rw[<-z];exact DT.mpr x)
 have Q:N≠T:=by
  rcases M with z|z
  ·rw[z];exact n
  ·exact fun e=>absurd z (by rw[<-e];exact DT.mpr x)
 have nf:N∉[I,S,T]:=by
  simp only[NE,N5,or_false,not_or];exact⟨U,n,Q⟩
 have W:=QkC (prog:=prog) (w:=w) (A:=A.in1.in1) (by simp[hh]) I S T P O h
 have key:∀(D:Heap) (a:Nat),ItT w I S T h 0 D->(∀b o,b≠N->s.heap.get? b=some o->D.get? b=some o)->D.get? N=some (lsO #[] a)->codeAny (model prog w) A (.builtin "list.extend.loop" ⟨[.ref N,.ref I,res],[]⟩) R { s with heap:=D,drawn:=d }:=by
  intro D a H k2 g;refine Ot (Walks.of_in1 W).toS (by rw[L];exact hz) N nf res h.length 0 _ #[] a rfl (NV _) H g (ItemsOf.nil _) fun m r u hm C i=>?_;rw[Moved.eq_with hm]
  have ea:r=h.toArray:=by
   apply Array.ext_getElem?;intro j
   by_cases G:j<r.size
   ·have q:=i.2 j r[j] (NN G);rw[NN G,DB,q]
   ·rw[F4 (NU.mp G),DB,NY (by have:=i.1;exact Nn (Nt this.symm) (NU.mp G))]
  rw[ea]at C;refine hR m.heap d m.toks h u str (fun b o c e=>hm.heap b o (fun y=>?_) (k2 b o c e)) C
  rcases NE.mp y with z|z
  ·exact c z
  ·rw[NF.mp z]at e;exact absurd (ND e) (NU.mpr hI)
 refine Na (N2 (QnH ⟨o,F _ _ Z,J.1⟩ ?_));refine LO (fun _=>?_) (fun _=>Nj ⟨DR Im _,key Y l st (fun b o _ e=>F b o e) p⟩);refine Na (Dd (Na ?_));show wpAny _ _ (updateSeq N (·.push .none)>>=fun _=>updateSeq N (·.pop)) _ _ _;refine Na (IB p rfl ?_);have g:=N8 (Obj.mapSeq (·.push Value.none)) p rfl;refine IB (hz:=by seq_fits) g rfl ?_;have X:=N8 (Obj.mapSeq (·.pop)) g rfl;have v:∀b o,b≠N->Y.get? b=some o->((Y.update N (Obj.mapSeq (·.push Value.none))).update N (Obj.mapSeq (·.pop))).get? b=some o:=fun b o c e=>(EI _ _ (EN c)).trans ((EI _ _ (EN c)).trans e);refine Nj ⟨DR Im _,key _ _ (W.frame 0 _ _ st fun b c o e=>v b o (fun z=>nf (by rw[<-z];exact c)) e) (fun b o c e=>v b o c (F b o e)) X⟩
theorem Qhd(x:A.handled=none)(n:s.heap.get? S=some o)(u:o.ExactSet)(z:o.data=.set es ep t)(y:t.fits es.size=true)(up:t.plain=true\/es.size<=1->Sb.Up t.place)(l:t.led=VU w)(hz:es.size<=sizeLine)
  (h:∀h' d tk (c:List Value),c.Perm (es.toList.map (·.2))->(∀b o,s.heap.get? b=some o->h'.get? b=some o)->s.heap.objs.size<=h'.objs.size->Q c { s with heap:=h',drawn:=d,toks:=tk }):wpAny (model prog w) A (collect (.ref S)) Q E s:=by
 unfold collect;refine Na (L9 (E2 entry_proto_collect' (show wpAny _ _ (do again (.builtin "list.__iadd__" ⟨[<-newList [],.ref S],[]⟩)) _ _ s from ?_)));refine Na (wpAny_newList (Nj ⟨IZ _ (by decide +kernel),E2 (entry_list_iadd') ?_⟩));have m:=ND n;rw[Dg F.plain_list_iadd _]
 have fin:∀(r:Result) (g:Shared),(r=.ok (.ret (.ref s.heap.objs.size))/\∃h' d tk,∃c:List Value,∃i,c.Perm (es.toList.map (·.2))/\(∀b o,s.heap.get? b=some o->h'.get? b=some o)/\h'.get? s.heap.objs.size=some (lsO c.toArray i)/\g={ s with heap:=h',drawn:=d,toks:=tk })->(match r with
   | .ok (.ret v)=>wpAny (model prog w) A (match v with
    |.ref a=>do
     match (<-load a).data with
     |.seq p _=>pure p.toList
     |_=>unsupported "internal:collect"
    |_=>unsupported "internal:collect") Q E g
   |.ok _=>False
   |.error e=>E e g):=by
  rintro r g ⟨rfl,h',d,tk,c,i,str,k,hN,rfl⟩
  refine Na (wpAny_load hN ?_);show wpAny _ _ (pure c.toArray.toList) Q E _;rw[IQ];exact Nj (h h' d tk c str k (Nr (ND hN)))
 refine N0 (QjA (A:=A) (s:={ s with heap:=s.heap.push (lsO #[] 0) }) (R:=fun r g=>r=.ok (.ret (.ref s.heap.objs.size))/\∃h' d tk,∃c:List Value,∃i,c.Perm (es.toList.map (·.2))/\(∀b o,s.heap.get? b=some o->h'.get? b=some o)/\h'.get? s.heap.objs.size=some (lsO c.toArray i)/\g={ s with heap:=h',drawn:=d,toks:=tk }) x (No _ n) u z y up l (EO m) (.ref s.heap.objs.size) 0 (NB _ rfl) hz fun h' d tk c i str k hN=>⟨rfl,h',d,tk,c,i,str,fun b o e=>k b o (NG (ND e)) (No _ e),hN,rfl⟩) ?_ ?_
 ·intro f g q;cases f with
  |done f=>exact fin _ _ q
  |again i=>exact⟨q.1,DJ q.2 fun r j hr=>fin r j hr⟩
 ·intro e g q;exact fin _ _ q
end
theorem Uw:∀(ks a:List Str),ks.Nodup->(∀k∈ks,k∈a)->a.length=ks.length->a.Perm ks
 |[],a,_,_,h=>by rw[Ec.mp h]
 |k::r,a,b,c,h=>by
  have e:=c k NA;rw[EB]at b;refine(List.perm_cons_erase e).trans (List.Perm.cons k (Uw r (a.erase k) b.2 (fun x d=>?_) ?_))
  ·exact(IG (fun z=>b.1 (by rw[<-z];exact d))).mpr (c x (Ny _ d))
  ·rw[FF e,h];rfl
section
variable{prog:Program}{w:World}{A:Around}{E:Value->Shared->Prop}{s:Shared}
theorem Qja{h:Heap}{a:Addr}{led:Bool}{es:Array (Int×Value)}(q:ElemsOf (strKind prog w) es.toList)(o:ks.Nodup)(n:es.size=ks.length)(m:∀k,k∈ks↔∃e∈es.toList,(strKind prog w).is k e.2=true)(p:b.Perm (es.toList.map (·.2))):∃l,StrsAre b l/\l.Perm ks:=by
 have d:∀v∈b,∃x c,v=.str x c:=fun v d=>by
  obtain⟨e,i,rfl⟩:=NL.mp (p.mem_iff.mp d);obtain⟨⟨k,g,_⟩,_⟩:=q e i;obtain⟨c,j⟩:=IL g;exact⟨k,c,j⟩
 refine⟨b.map strOf,strsAre_map b d,Uw ks _ o (fun k g=>?_) ?_⟩
 ·obtain⟨e,i,f⟩:=(m k).mp g;obtain⟨c,j⟩:=IL f;exact NL.mpr ⟨e.2,p.mem_iff.mpr (NL.mpr ⟨e,i,rfl⟩),by rw[j];rfl⟩
 ·rw[Nu,p.length_eq,Nu,N3,n]
theorem QhA{t:SetTable}(b:t.fits n=true)(c:n<=1):Sb.Up t.place:=fun i j d a=>by
 rw[Qb2 b]at a;omega
theorem Qgl(r:A.handled=none)(hS:SetL prog w s.heap S ks (VU w))(hz:ks.length<=sizeLine)
  (h:∀h' d tk f,(∃m,StrsAre f m/\m.Perm ks)->(∀b o,s.heap.get? b=some o->h'.get? b=some o)->s.heap.objs.size<=h'.objs.size->Q f { s with heap:=h',drawn:=d,toks:=tk }):wpAny (model prog w) A (collect (.ref S)) Q E s:=by
 obtain⟨o,B,C,t,v,q,u,j,x,l,e,g,i,n,c⟩:=hS;refine Qhd r v q u l (fun z=>?_) e (by rw[n];exact hz) fun h' d tk f p=>h h' d tk f (Qja (h:=s.heap) (a:=S) (led:=true) j i n c p)
 rcases z with z|z
 ·rcases g with y|y
  ·exact QhA l (Nr (Nh (Nt y) (by decide)))
  ·rw[z]at y;cases y
 ·exact QhA l z
theorem sortedS'(x:A.handled=none)(hS:SetL prog w s.heap S ks (VU w))(hz:ks.length<64)
  (h:∀(D:Addr) h' d tk (a:List Value) (j:List Str) c,StrsAre a j->j.Perm ks->sortedS j=true->(∀b o,s.heap.get? b=some o->h'.get? b=some o)->s.heap.objs.size<=D->h'.get? D=some (lsO a.toArray c)->Q (.ref D) { s with heap:=h',drawn:=d,toks:=tk }) :
  wpAny (model prog w) A (call (.builtin "sorted") [.ref S]) Q E s:=by
 refine Calls.call_function_entry kind_sorted plain_sorted entry_sorted (args_sorted1 _) ?_;unfold Builtin.«sorted»;refine Na (m:=checkCount "sorted" 1 1 _) (Nj (Na (Qgl (by simp[x]) hS (by rw[DZ];exact Nr (N4 hz (by decide))) fun p d tk a str t n=>?_)));obtain⟨j,st,pm⟩:=str;have i:a.length<64:=by rw[FO st,pm.length_eq];exact hz
 refine Na (wpAny_newList ?_ (by rw[DZ];exact Nr (N4 i (by decide))));have f:(p.push (seqObj "list" a.toArray 0)).get? p.objs.size=some (seqObj "list" a.toArray 0):=NB _ rfl;refine Na (N2 (Ej slot_list_sort ⟨_,f,rfl⟩ entry_list_sort (list_sort_treeK (κ:=PyProof.Rows.strKind) strKind_oneLt f st.keysOf (fun r q rest e=>keyKind_strs (by rw[<-e];exact st)) i fun g F C=>⟨_,rfl,?_⟩) (args_list_sort _)));obtain⟨l,b1,B,z⟩:=sorted_out_str st F C;obtain⟨c,y⟩:=sortedHeap_at (out:=(arrOf g).map (·.2)) f;refine Nj ⟨_,rfl,h p.objs.size _ d tk ((arrOf g).map (·.2)).toList l c b1 (B.trans pm) z (fun b o e=>?_) n ?_⟩
 ·have u:=No (seqObj "list" a.toArray 0) (t b o e);rw[sortedHeap_old (NG (ND (t b o e))) (ND u)];exact u
 ·rw[Array.toArray_toList];exact y
end
theorem le_of_lt{a b:Str}:ltCps b.cps.toList a.cps.toList=false↔a.cps.toList<=b.cps.toList:=by
 rw[ltCps_eq,decide_eq_false_iff_not];exact Iff.rfl
theorem rising_all:∀(x:Str) (r:List Str),risingS x r=true->∀z∈r,x.cps.toList<=z.cps.toList
 |x,[],_,z,hz=>by cases hz
 |x,y::r,h,z,hz=>by
  have h':(!ltCps y.cps.toList x.cps.toList&&risingS y r)=true:=h;rw[NJ,Yaa]at h';have a:=le_of_lt.mp h'.1
  rcases NE.mp hz with rfl|hz
  ·exact a
  ·exact List.le_trans a (rising_all y r h'.2 z hz)
theorem rising_tail(h:sortedS (x::r)=true):sortedS r=true:=by
 cases r with
 |nil=>rfl
 |cons y r=>
  have a:(!ltCps y.cps.toList x.cps.toList&&risingS y r)=true:=h;rw[NJ]at a;exact a.2
theorem str_eq{a b:Str}(h:a.cps.toList=b.cps.toList):a=b:=by
 obtain⟨a⟩:=a;obtain⟨b⟩:=b;congr 1;exact Array.toList_inj.mp h
theorem UN:∀(a b:List Str),a.Perm b->sortedS a=true->sortedS b=true->a=b
 |[],b,p,_,_=>(List.nil_perm.mp p).symm
 |x::r,[],p,_,_=>by cases List.perm_nil.mp p
 | x::r,y::t,p,d,c=>by
  have e:x=y:=by
   have g:y∈x::r:=p.mem_iff.mpr NA;have f:x∈y::t:=p.mem_iff.mp NA
   rcases NE.mp g with z|z
   ·exact z.symm
   ·rcases NE.mp f with q|q
    ·exact q
    ·exact str_eq (List.le_antisymm (rising_all x r d y z) (rising_all y t c x q))
  subst e;rw[UN r t (List.Perm.cons_inv p) (rising_tail d) (rising_tail c)]
open Classical in
noncomputable def srt(ks:List Str):List Str:=if h:∃a:List Str,a.Perm ks/\sortedS a=true then h.choose else[]
theorem srt_eq(p:a.Perm ks)(h:sortedS a=true):srt ks=a:=by
 have b:∃a:List Str,a.Perm ks/\sortedS a=true:=⟨a,p,h⟩
 unfold srt;rw[dif_pos b];exact UN _ _ (b.choose_spec.1.trans p.symm) b.choose_spec.2 h
end St
namespace Mi
open L2
noncomputable def txW:List W->Option (List Str)
 |[]=>some []
 |.str x::r=>(txW r).map (x::·)
 |_=>none
@[simp]theorem Qd6(l:List Str):txW (l.map .str)=some l:=by
 induction l with
 |nil=>rfl
 |cons x l a=>rw[Nw,txW,a];rfl
theorem Qe9:∀{ws:List W} {a:List Str},txW ws=some a->ws=a.map .str
 |[],a,e=>by cases e;rfl
 |.str x::r,a,e=>by
  obtain⟨t,c,b⟩:=Nd.mp e;subst b;rw[Qe9 c];rfl
theorem Qeh{K:Ng}:∀{a:List Str} {xs:List V} {us:List Value},Rws K R (a.map .str) xs->Vals xs us->StrsAre us a
 |[],xs,us,r,v=>by
  rw[EG,Rws.nil_iff]at r;subst r;cases v;exact .nil
 | x::a,xs,us,r,v=>by
  rw[Nw]at r;unfold Rws at r;obtain⟨y,e,rfl,b,d⟩:=r;unfold Rw at b;subst b;cases v with
  |cons h t=>
   obtain⟨c,rfl⟩:=h;exact .cons x c (Qeh d t)
theorem Wr{K:Ng}:∀{d:List Str} {us:List Value},StrsAre us d->Vals (d.map V.str) us/\Rws K R (d.map W.str) (d.map V.str)
 |[],_,.nil=>⟨.nil,by unfold Rws;rfl⟩
 |_::_,_,.cons x c h=>by
  obtain⟨a,b⟩:=Wr (K:=K) (R:=R) h;refine⟨.cons ⟨c,rfl⟩ a,?_⟩;rw[Nw,Nw];unfold Rws;exact⟨_,_,rfl,by unfold Rw;rfl,b⟩
def Qq4(ws:List W)(h:MH):Option (W×MH):=match ws with
 |[a]=>(lsW h a).bind fun c=>(txW c).bind fun b=>if b.length<64 then some (.lst ((St.srt b).map .str),h)else none
 |_=>none
def Vc(ws:List W)(h:MH):Option (W×MH):=match ws with
 |[a]=>(lsW h a).bind fun c=>(txW c).bind fun b=>if b.length<4000/\(St.uniq b).length<64 then some (.ref h.length,h++[.lst ((St.srt (St.uniq b)).map .str)])else none
 |_=>none
section
variable{X:Cx}
theorem Inv.drew(I:Inv X a σ H s)(d:Drawn):Inv X a σ H { s with drawn:=d }:=⟨I.ok,I.os,I.bare,I.base,I.loc,I.cell,I.free,I.freeC,I.pin,I.hok,I.len⟩
theorem YT{p1 M l g:Pos}(S:X.calm=true)(hg:Gl X "sorted")(hm:X.mg "sorted"=none)(E:Gl X "set")(A:X.mg "set"=none)(he:PM X e me)(P:VX e=false:=by rfl) :
  PM X (.Call (.Name "sorted" p1) [.Call (.Name "set" M) [e] [] g] [] l) (mFn Vc (Qa me Qc)):=by
 intro m s Z H Q I ⟨R,p,h,w,h',rh,st,e1,N⟩;obtain⟨⟨as,h2⟩,e2,e3⟩:=Nc.mp e1;obtain⟨⟨a,T⟩,e4,e5⟩:=Nc.mp e2;obtain⟨⟨bs,h3⟩,e6,e7⟩:=Nc.mp e5;cases e6;cases e7;refine EA (J9 I hg hm boot_sorted (DS ?_ (QF rfl) (Jd rfl)) (by decide) (by decide));rw[QF (e:=.Call (.Name "set" M) [e] [] g) rfl];refine E8 (EA (J9 I E A boot_set (NX ?_ (QF P) (Jd rfl)) (by decide) (by decide)));rw[QF P];refine E8 (thn (he m s Z H (fun v Y=>∃R2,Ext R R2/\Rh X.K R2 T Y/\Rw X.K R2 a v) I ⟨R,p,h,a,T,rh,st,e4,fun R2 Y v x f z=>⟨R2,x,f,z⟩⟩) fun u J ⟨v,H1,I1,ru,R2,x2,f,z⟩=>Dj ?_);obtain⟨ys,e8,e9⟩:=Nc.mp e3;obtain⟨ss,F,j⟩:=Nc.mp e9;split at j
 ·rename_i O;cases j;obtain⟨ad,xs,rfl,q1,L⟩:=f.lsAt z e8;cases ru;rw[Qe9 F]at L;obtain⟨aa,rv,pl,hl⟩:=I1.list q1;have hS:=Qeh L rv;have B:=FO hS;refine St.set_list (I1.ok.hd S) pl.isList (by rw[IQ];exact hS) (by rw[Nq,B];show ss.length+1<4096;lia) fun g1 r i k1=>Dj ?_;refine St.sortedS' (s:={ J with heap:=g1,toks:=r }) (I1.ok.hd S) i O.2 fun D g2 d q vs G c b1 U b3 k2 C hD=>?_;obtain⟨v1,v2⟩:=Wr (K:=X.K) (R:=R2) b1;have n:J.heap.objs.size<=D:=Nn (Nr i.lt) C;have hp:=I1.hok.fresh n;have eq:=St.srt_eq U b3;obtain⟨R3,x3,y,t⟩:=f.new (mo:=.lst (G.map .str)) (o:=.lst (G.map V.str)) hp fun R' x'=>⟨_,rfl,(Wr (K:=X.K) (R:=R') b1).2⟩
  rw[eq]at N;refine⟨.ref D,_,Inv.drew (I1.laid (t':=q) (fun b o e=>k2 b o (k1 b o (ND e) e)) n (show ObjOk X.prog X.w _ _ _ (.lst _)from⟨?_,vs,c,v1,hD⟩)) d,rfl,N R3 _ _ (x2.trans x3) y t⟩;rw[Nu,U.length_eq,DZ];exact Nr (N4 O.2 (by decide))
 ·cases j
end
end Mi
namespace St
open AutoSeq1 (wpAny_loadPart')
theorem Qhi(l:Addr)(items:Array Value)(n:Nat)(dct:Option Addr)(i:Array (Option Value)) :
  Meets (Builtin.«enumerate.__new__» ⟨[.type "enumerate",.ref l],[]⟩) (fun _ R s=>s.heap.get? l=some { cls:=.type "tuple",dict:=dct,data:=.seq items n,slots:=i } /\
   R (.ok (.ret (.ref (s.heap.push { cls:=.type "tuple_iterator",data:=.fields #[.ref l,.int 0 0] }).objs.size)))
    { s with heap:=(s.heap.push { cls:=.type "tuple_iterator",data:=.fields #[.ref l,.int 0 0] }).push { cls:=.type "enumerate",data:=.fields #[.none,.bool false,.ref s.heap.objs.size,rawInt 0,.none,.none] } }):=
 .of_wp fun e w A R s h=>by
  obtain⟨j,g,d,tk,os⟩:=s;obtain⟨a,h⟩:=h;have f:=sub_enumerate;have b:Heap.IsTuple (Shared.heap ⟨j,g,d,tk,os⟩) l items:=⟨_,a,rfl,n,rfl⟩
  wp_walk using Db a
  refine wpAny_stack_any fun st=>Nj ?_;split
  ·rename_i c _ _ _ _ _;cases(c==Value.type "enumerate")
   ·wp_walk using Db a,DU b
    exact⟨_,rfl,h⟩
   ·wp_walk using Db a,DU b
    exact⟨_,rfl,h⟩
  ·wp_walk using Db a,DU b
   exact⟨_,rfl,h⟩
section
variable{prog:Program}{w:World}{A:Around}{E:Value->Shared->Prop}{s:Shared}
theorem enumT(i:s.heap.IsTuple l items)
  (h:∀h',IsEnum h' (s.heap.objs.size+1) s.heap.objs.size 0 .none->h'.IsTupleIter s.heap.objs.size l 0->(∀b o,s.heap.get? b=some o->h'.get? b=some o)->Q (.ref (s.heap.objs.size+1)) { s with heap:=h' }) :
  wpAny (model prog w) A (call (.type "enumerate") [.ref l]) Q E s:=by
 obtain⟨⟨c,dct,j,f⟩,g,e,n,hd⟩:=i;simp only at e hd;subst e hd;refine callType_new F.called_enumerate (by decide) (F.typeCall_enumerate_1 _) (F.newCall_enumerate_1 _) (fun obj=>F.args_object_init_2 obj _) F.entry_enumerate_new (Qhi l items n dct f) ⟨g,?_⟩;have a:(s.heap.push { cls:=.type "tuple_iterator",data:=.fields #[.ref l,.int 0 0] }).objs.size=s.heap.objs.size+1:=DI ..;show _/\_;rw[a]
 have d:IsEnum ((s.heap.push { cls:=.type "tuple_iterator",data:=.fields #[.ref l,.int 0 0] }).push { cls:=.type "enumerate",data:=.fields #[.none,.bool false,.ref s.heap.objs.size,rawInt 0,.none,.none] }) (s.heap.objs.size+1) s.heap.objs.size 0 .none:=by
  rw[<-a];exact NB _ rfl
 exact⟨⟨_,d,rfl⟩,h _ d ⟨_,No _ (NB _ rfl),rfl,rfl⟩ fun b o x=>No _ (No _ x)⟩
theorem QcC(hit:s.heap.IsTupleIter it l i)(e:s.heap.IsTuple l items)(d:items[i]?=some x)
  (g:∀h',h'.IsTupleIter it l (i+1)->Heap.SameBut it s.heap h'->Q x { s with heap:=h' }):wpAny (model prog w) A (Builtin.SmallTypes.nextOf (.ref it)) Q E s:=by
 obtain⟨o,a,f,hd⟩:=id hit;obtain⟨ol,b,_,nl,c⟩:=e;unfold Builtin.SmallTypes.nextOf;refine Na (Ep (name:=Str.ofString "__next__") hit.typeIs DD (Ej DD hit.typeIs La ?_ (IW _)));refine(show wpAny _ _ (field (.ref it) 0>>=_) _ _ s from Na (Fo a hd (x:=.ref l) rfl (show wpAny _ _ (if(Value.ref l==Value.none)=true then _ else _) _ _ s from ?_)));rw[if_neg (show¬((Value.ref l==Value.none)=true)from NQ)];refine(show wpAny _ _ (field (.ref it) 1>>=_) _ _ s from Na (Fo a hd (x:=.int i 0) rfl ?_));refine(show wpAny _ _ (seqItems? (.ref l)>>=_) _ _ s from Na (D5 b c ?_));simp only[Ey,d];refine Na (EV a hd (by simp) (Nj ⟨x,rfl,Nj (g _ ⟨_,N8 _ a (L8 (FE hd _)),(O3 ..).trans f,by rw[FE hd];simp[rawInt]⟩ (NP ..))⟩))
theorem Qdy(f:A.handled=none)(hit:s.heap.IsTupleIter it l i)(h:s.heap.IsTuple l items)(g:items[i]?=none)
  (j:∀h' e,Heap.ExtBut it s.heap h'->(∃o,h'.get? e=some o/\o.cls=.type "StopIteration")->E (.ref e) { s with heap:=h' }):wpAny (model prog w) A (Builtin.SmallTypes.nextOf (.ref it)) Q E s:=by
 obtain⟨o,c,n,hd⟩:=id hit;obtain⟨ol,b,_,nl,d⟩:=h;unfold Builtin.SmallTypes.nextOf;refine Na (Ep (name:=Str.ofString "__next__") hit.typeIs DD (Ej DD hit.typeIs La ?_ (IW _)));refine(show wpAny _ _ (field (.ref it) 0>>=_) _ _ s from Na (Fo c hd (x:=.ref l) rfl (show wpAny _ _ (if(Value.ref l==Value.none)=true then _ else _) _ _ s from ?_)));rw[if_neg (show¬((Value.ref l==Value.none)=true)from NQ)];refine(show wpAny _ _ (field (.ref it) 1>>=_) _ _ s from Na (Fo c hd (x:=.int i 0) rfl ?_));refine(show wpAny _ _ (seqItems? (.ref l)>>=_) _ _ s from Na (D5 b d ?_));simp only[Ey,g];refine Na (Dd (Na (EV c hd (by simp) (Na ?_))));simp only[newExc,newTuple];refine Na (N9 ?_ (by size_fits));refine Na (m:=firstArgMember _ _) (L0 (a:=Value.none) (by first|rfl|(simp only[firstArgMember];rfl)) (N9 ?_ (by size_fits)));simp only[raiseNew];refine Na (Oz ?_)
 first|rw[show A.in1.handled=none from f]|rw[f]
 exact Na (Nj (wpAny_throw (j _ _ (((NP ..).extBut.push _).push _) ⟨_,NB _ rfl,rfl⟩)))
theorem tit_at{h h':Heap}(x:h.IsTupleIter a t i)(e:∀o,h.get? a=some o->h'.get? a=some o):h'.IsTupleIter a t i:=by obtain⟨o,b,r⟩:=x;exact⟨o,e _ b,r⟩
theorem QlJ{h h':Heap}(x:h.IsTuple a items)(e:∀o,h.get? a=some o->h'.get? a=some o):h'.IsTuple a items:=by obtain⟨o,b,r⟩:=x;exact⟨o,e _ b,r⟩
theorem drawsT(g:A.handled=none)(it l:Addr)(b:l≠it)(items:Array Value):Draws prog w A it [it,l] items.size (fun i v=>items[i]?=some v) (fun i h=>h.IsTupleIter it l i/\h.IsTuple l items) where
 live:=fun _ _ x=>let⟨o,h,_⟩:=x.1;⟨o,h⟩
 frame:=fun _ _ _ st d=>⟨tit_at st.1 fun o e=>d it (by simp) o e,QlJ st.2 fun o e=>d l (by simp) o e⟩
 item:=fun i s Q E f st j=>QcC st.1 st.2 (x:=items[i]) (by simp[f]) fun n a c=>j _ n s.toks (by simp[f]) ⟨a,st.2.extBut c.extBut b⟩ c
 done:=fun s Q E st m=>Qdy g st.1 st.2 (by simp) m
end
end St
namespace L2
def Ite(K:Ng)(a:Addr)(n:Nat):It:=
  ⟨fun i H=>i<n/\∃b,SqT K H a b/\b.length=n,
   fun i H v c=>∃T x,v=.ref T/\H T=none/\c=upd H T (.tup [.int i,x])/\∀b,SqT K H a b->b[i]?=some x,
   fun i H=>n<=i/\∃b,SqT K H a b/\b.length=n⟩
theorem QeJ{K:Ng}(l e it:Addr)(n:Nat)(c:e≠it)(C:l≠e)(B:l≠it):Turn P w K (.Tuple L kk pos) (Ite K l n) [e,it] e (fun i h=>i<=n/\(∃old,IsEnum h e it i old)/\h.IsTupleIter it l i) where
 mem:=by simp
 obj:=fun i h st b d=>by
  obtain⟨_,⟨old,g⟩,⟨Y,M,c1,d1⟩⟩:=st;have j:b=e\/b=it:=by simpa using d
  rcases j with rfl|rfl
  ·exact⟨_,g,fun v q=>nomatch q⟩
  ·exact⟨Y,M,fun v q=>by rw[d1]at q;cases q⟩
 keep:=fun i h h' st k=>by
  obtain⟨m,⟨old,g⟩,h1⟩:=st;exact⟨m,⟨old,k e (by simp) _ g⟩,St.tit_at h1 fun o x=>k it (by simp) o x⟩
 item:=by
  intro X J hw hK hc i z s σ H E I U st hg;subst J hw hK;obtain⟨m,N,R,Z⟩:=hg;obtain⟨a,rv,p,hz⟩:=I.tuple R;have hl:=rv.length;obtain⟨_,O,Q⟩:=st;have W:=FX (prog:=X.prog) (w:=X.w) (St.drawsT (A:=X.A.in1) (I.ok.hd hc) it l B a.toArray) e c (by simp[c,EN C]) (by simp);refine W.item i s _ _ (by rw[Nq];exact Nk (Nk m (Nt Z.symm)) (Nt hl)) ⟨O,Q,p⟩ fun T vals h' tk J hT F f hk=>?_;obtain⟨t,u,hu,rfl⟩:=J;refine⟨.ref T,rfl,W.go L kk pos i T _ _ _ f fun ai G D=>?_⟩;obtain⟨x,hx⟩:∃x,N[i]?=some x:=⟨N[i]'(Nk m (Nt Z.symm)),Nl _⟩
  obtain⟨v,hv,r⟩:=rv.get hx;have M:v=u:=by have:=hu;rw[DB,hv]at this;exact NS this
  subst M;have ae:=W.apart i T _ f
  have af:IsTup ai T #[.int i t,v]:=by
   obtain⟨o,S,ab,q⟩:=F;exact⟨o,D T o ae S,ab,q⟩
  have ah:=I.hok.fresh hT;refine⟨.ref T,_,I.turnedN (ch:=[e,it]) (t':=tk) (xs:=[.int i,x]) (fun b o d e=>D b o d (hk b o d e)) U hT ⟨by simp[DZ],[.int i t,v],.cons ⟨t,rfl⟩ (.cons r .nil),af⟩,rfl,⟨T,x,rfl,ah,rfl,fun ys hy=>by rw[I.tuple_inj hy R];exact hx⟩,⟨m,G.1,G.2.1⟩,fun b d=>?_⟩;rw[Qy (fun q=>?_)]
  ·exact(U b d).1
  ·obtain⟨o,S,_⟩:∃o,s.heap.get? b=some o/\True:=by
    obtain⟨old,g⟩:=O;obtain⟨Y,M,_⟩:=Q;have j:b=e\/b=it:=by simpa using d
    rcases j with rfl|rfl
    ·exact⟨_,g,trivial⟩
    ·exact⟨Y,M,trivial⟩
   rw[q]at S;exact absurd (ND S) (NU.mpr hT)
 done:=by
  intro X J hw hK hc i z s σ H E I U st hg;subst J hw hK;obtain⟨m,N,R,Z⟩:=hg;obtain⟨a,rv,p,hz⟩:=I.tuple R;have hl:=rv.length;obtain⟨aj,O,Q⟩:=st;have W:=FX (prog:=X.prog) (w:=X.w) (St.drawsT (A:=X.A.in1) (I.ok.hd hc) it l B a.toArray) e c (by simp[c,EN C]) (by simp);have aa:a.toArray.size=i:=by rw[Nq];lia
  refine W.done s _ _ (by rw[aa];exact⟨O,Q,p⟩) fun h' tk hk=>⟨rfl,?_⟩
  exact I.turnedL (ch:=[e,it]) (fun b o d e=>hk b o d e) U (fun _ _ e=>e) (fun _ _ _ n=>n) fun b u n e=>by rw[n]at e;cases e
 self:=fun _ _ _ _ _ st h=>let⟨_,g⟩:=st.2.1;FY g h
def QnM(K:Ng)(f:TA):TI:=fun d H R=>f d H fun e c=>∃a b,e=[.ref a]/\SqT K c a b/\R (Ite K a b.length) c
theorem Qi8{X:Cx}{i:List Expr}(F:Gl X "enumerate")(D:X.mg "enumerate"=none)(G:PA X [a] v)(A:starEach [a] X.env=[(false,eval a X.env)]:=by rfl) :
  PI X (.Tuple i O j) (.Call (.Name "enumerate" p) [a] [] pos) (QnM X.K v):=by
 intro d s o H R I h;refine Call_ (J9 I F D boot_enumerate (NX (thn (G pos d s o H _ I h) fun M c r=>?_) A rfl));obtain⟨L,J,I1,x,y⟩:=r;obtain⟨ad,t,e,B,q⟩:=y;subst e;obtain⟨u,rfl,w⟩:=KQ x;cases w;obtain⟨z,rv,l,P⟩:=I1.tuple B;have f:ad<c.heap.objs.size:=let⟨_,C,_⟩:=l;ND C
 refine St.enumT l fun Q m hit E=>FY m ?_;refine⟨c.heap.objs.size+1,[c.heap.objs.size+1,c.heap.objs.size],_,_,J,rfl,I1.kept (t':=c.toks) E,QeJ ad _ _ t.length (Yak _) (NG (E1 f)) (NG f),⟨NV _,⟨_,m⟩,hit⟩,fun b n=>?_,q⟩
 have g:c.heap.objs.size<=b:=by
  simp at n
  rcases n with h|h<;>(rw[h];first|exact Nz _|exact Nv _ _)
 exact I1.fpOk g (I1.hok.fresh g)
end L2
namespace Mi
open L2
noncomputable def Jo(ws:List W):List W:=ws.zipIdx.map fun q=>.tup [.int q.2,q.1]
def QbM(ms:MA):MI:=fun a h=>(ms a h).bind fun p=>match p.1 with
 |[.tup b]=>some (Jo b,none,p.2)
 |_=>none
section
variable{K:Ng}{R:Rn}
theorem Qd8(l:SqT K R.F a xs)(r:Rws K R ws xs):ItOk K R (Ite K a xs.length) (Jo ws) none where
 go:=fun i w p h H x d _ e=>by
  have c:=(Nf.mp e).1;have g:=r.length;unfold Jo at c;rw[Nu,DW]at c;exact⟨by exact Nk c (Nt g),xs,ZR (fun b o z=>d.sub b o (x.f b o z)) l,rfl⟩
 yld:=fun i w p h H x E e d _ m q=>by
  obtain⟨T,B,rfl,t,rfl,s⟩:=q;unfold Jo at m;rw[Np,Ff]at m;obtain⟨⟨D,j⟩,A,rfl⟩:=Nd.mp m;obtain⟨C,y,u⟩:=Nd.mp A;cases u;obtain⟨v,g1,g2⟩:=r.get y;have n:=s xs (ZR (fun b o z=>d.sub b o (e.f b o z)) l);rw[g1]at n;cases n;rw[NI];exact d.tup t (Rws.cons (by unfold Rw;rfl) (Rws.cons (Rw.mono e _ _ g2) Rws.nil))
 stop:=fun i p h H x d _ c=>by
  have g:=r.length;unfold Jo at c;rw[Nu,DW]at c;exact⟨by exact Nn (Nt g.symm) c,xs,ZR (fun b o z=>d.sub b o (x.f b o z)) l,rfl⟩
end
section
variable{X:Cx}{tg a:Expr}{ms:MA}{p pos tpos:Pos}{elts:List Expr}{kk:Nat}
theorem Qgj(u:Gl X "enumerate")(t:X.mg "enumerate"=none)(w:PMA X [a] ms)(s:starEach [a] X.env=[(false,eval a X.env)]:=by rfl):PMI X (.Tuple elts kk tpos) (.Call (.Name "enumerate" p) [a] [] pos) (QbM ms):=
 UC (Qi8 u t w s) fun A H C j=>by
  obtain⟨R,c,h,items,o,E,r,st,e,k⟩:=j;obtain⟨⟨n,x⟩,y,d⟩:=Nc.mp e;refine⟨R,c,h,n,x,r,st,y,fun R1 z B m b rv=>?_⟩;split at d
  ·rename_i D g;simp only at g;subst g;cases d;obtain⟨v,rfl,f⟩:=W8 rv;unfold Rw at f;obtain⟨ad,l,rfl,i,q⟩:=f;exact⟨ad,l,rfl,ZR b.sub i,k R1 z _ m b (Qd8 i q)⟩
  ·cases d
end
end Mi
namespace Dc
section
variable{prog:Program}{w:World}{A:Around}{E:Value->Shared->Prop}{s:Shared}
theorem QjZ:typeLookup (.type "list") (Str.ofString "keys")=pure none:=by rw[Fy,DA];kernel_rfl
set_option maxHeartbeats 4000000 in
theorem keys_miss(i:s.heap.get? a=some { cls:=.type "list",dict:=none,data:=.seq xs k,slots:=l })(hA:A.handled=none)
  (h:∀h' tk,(∀b o,s.heap.get? b=some o->h'.get? b=some o)->Q none { s with heap:=h',toks:=tk }):wpAny (model prog w) A (getAttr? (.ref a) (Str.ofString "keys")) Q E s:=by
 obtain⟨m,g,d,tk,os⟩:=s;have j:∀c,(⟨m,g,d,c,os⟩:Shared).TypeIs (.ref a) "list":=fun _=>⟨_,i,rfl⟩
 have f1:=sub_AttributeError;have u:=FG.lookup;have t:=FG.bind (.ref a);have r:=am_list_getattr_none;unfold getAttr? getAttrBy? getAttrBy
 repeat (any_goals (first|assumption|exact j _|((with_reducible show wpAny _ _ (call (Value.builtin "list.__getattribute__") _ _) _ _ _);refine FL FG (j _) am_entry_list_getattribute (F.args_list_getattribute_2 _ _) (meets_getattribute_miss_list a xs k l (Str.ofString "keys") _ QjZ (by decide +kernel)) ⟨i,hA,fun h' c e f=>?_⟩)|wp_step))
 obtain⟨p,n,q⟩:=f.there;show wpAny _ _ (getattributeRaised _ _ _ _ _ _ _) _ _ _;unfold getattributeRaised
 repeat (any_goals (first|assumption|wp_step))
 exact h _ _ f.keeps
end
theorem e_upd:entryFor table "dict.update.loop"=some Builtin.«dict.update.loop»:=entryFor_of_tree (by kernel_rfl)
theorem p_upd:plainId "dict.update.loop"=true:=by decide +kernel
end Dc
namespace Mi
open L2
theorem QmI{K:Ng}(X:K.In h)(G:h.Ns mainGlobals b)(a:FC K mainGlobals x=some (some (.str y t))):Glob K b x (.str y):=
 ⟨.str y,_,Fk X G a,⟨t,rfl⟩,fun _=>Rw.str y⟩
theorem Gr:∀(l:List (b×a)),(l.map (·.1)).zip (l.map (·.2))=l
 |[]=>rfl
 |p::l=>by rw[Nw,Nw,List.zip_cons_cons,Gr l]
theorem Qbc(f:Nat->Option W):∀(o:MO),Qba o=true->thO f o=some o
 |.lst ws,p=>by show(ths f ws).map MO.lst=_;rw[ZW f ws p];rfl
 |.dic a,p=>by show(ths f (a.map (·.2))).map (fun b=>MO.dic ((a.map (·.1)).zip b))=_;rw[ZW f _ p,Ef,Gr]
 |.dct a,p=>by show(ths f (a.map (·.2))).map (fun b=>MO.dct ((a.map (·.1)).zip b))=_;rw[ZW f _ p,Ef,Gr]
 |.ins _ _,p=>by cases p
theorem QdS{os os':List MO}(hr:Kn 0 args=some (as,ns))(hd:ns.Nodup)(r:Zl (Qc9 h) ns=some os)(e:m as os=some (w,os'++g))(s:os'.length=ns.length)(q:∀o∈os',Qba o=true)(hw:pur w=true):box frN m args h=some (w,Qu ns os' h):=by
 unfold box;rw[hr,Ni];unfold Qdb;rw[if_pos hd,r];simp only[Ni,e];rw[if_pos (show(frN w).Nodup/\∀j∈frN w,ns.length<=j from⟨Ea,fun j t=>by simp[frN]at t⟩),Qb9 _ w hw,Ni]
 have key:∀(f:Nat->Option W) (k:Nat) (a:List MO),(∀i o,a[i]?=some o->(os'++g)[k+i]?=some o)->(∀o∈a,Qba o=true)->Zl (fun j=>((os'++g)[j]?).bind (thO f)) (List.range' k a.length)=some a:=by
  intro f k a
  induction a generalizing k with
  |nil=>intro _ _;rfl
  |cons x a n=>
   intro d c;rw[NM,Yai];unfold Zl;have l:=d 0 x rfl;rw[Nat.add_zero]at l;rw[l,Ni,n (k+1) (fun i o b=>by have:=d (i+1) o (by simpa using b);rw[show k+1+i=k+(i+1) by exact E9 _ _ _];exact this) fun o p=>c o (Ny _ p),Qbc _ x (c x NA)];rfl
 rw[<-s,On,key _ 0 os' (fun i o b=>by rw[NI,NO (Nf.mp b).1];exact b) q,Ni];have:frN w=[]:=rfl;rw[this];simp[Zl]
def Qcs(a:W)(ws:List W)(h:MH):Option (W×MH):=match ws with
 |[b,v]=>(Qh8 h a).bind fun c=>(QjB b).map fun k=>((QaG c k).getD v,h)
 |_=>none
section
variable{X:Cx}
theorem QfY(hu:X.A.units+64<cLine):Qdd X "dict.get" Qcs:=by
 intro g s T H x U v us Q I u rv q;obtain⟨R,h,a,Y,w,h',f,D,d,e,k⟩:=q;unfold Qcs at e;split at e
 ·rename_i b dv;obtain⟨E,P,O⟩:=Nc.mp e;obtain⟨i,N,M⟩:=Nd.mp O;cases M;obtain⟨n,rfl,G⟩:=Qbx P;obtain⟨y,z,rfl,C,B⟩:=Qhm d;obtain⟨uy,uz,rfl,t,r⟩:=GE rv;obtain⟨_,J,kx,F,S⟩:=f.dicAt D G;have L:=QbN C N;subst L J;obtain rfl:v=Value.ref (R.ρ n):=u;refine QlV (N4 (EC (by decide) _) hu) I (DGet.k (k:=i) F) t r fun p s' j c=>?_
  rcases Gy (k:=i) S with z|⟨p,Z,o,m,l⟩
  ·rw[z.2]at c;rw[z.1]at k;exact⟨_,H,j,c,k R H _ (Ext.refl _) f B⟩
  ·rw[m]at c;rw[o]at k;exact⟨_,H,j,c,k R H _ (Ext.refl _) f l⟩
 ·cases e
end
end Mi
namespace L2
def ItE(K:Ng)(a:Addr)(n:Nat):It:=
  ⟨fun i H=>i<n/\∃b,SqL K H a b/\b.length=n,
   fun i H v c=>∃T x,v=.ref T/\H T=none/\c=upd H T (.tup [.int i,x])/\∀b,SqL K H a b->b[i]?=some x,
   fun i H=>n<=i/\∃b,SqL K H a b/\b.length=n⟩
theorem QcS{K:Ng}(l e it:Addr)(n:Nat)(c:e≠it)(C:l≠e)(B:l≠it):Turn P w K (.Tuple L kk pos) (ItE K l n) [e,it] e (fun i h=>i<=n/\(∃old,IsEnum h e it i old)/\h.IsListIter it l i) where
 mem:=by simp
 obj:=fun i h st b d=>by
  obtain⟨_,⟨old,g⟩,⟨Y,M,c1,d1⟩⟩:=st;have j:b=e\/b=it:=by simpa using d
  rcases j with rfl|rfl
  ·exact⟨_,g,fun v q=>nomatch q⟩
  ·exact⟨Y,M,fun v q=>by rw[d1]at q;cases q⟩
 keep:=fun i h h' st k=>by
  obtain⟨m,⟨old,g⟩,h1⟩:=st;exact⟨m,⟨old,k e (by simp) _ g⟩,h1.at fun o x=>k it (by simp) o x⟩
 item:=by
  intro X J hw hK hc i z s σ H E I U st hg;subst J hw hK;obtain⟨m,N,R,Z⟩:=hg;obtain⟨a,rv,p,hz⟩:=I.list R;have hl:=rv.length;obtain⟨_,O,Q⟩:=st;have W:=FX (prog:=X.prog) (w:=X.w) (Draws.list (A:=X.A.in1) (I.ok.hd hc) it l B a.toArray) e c (by simp[c,EN C]) (by simp);refine W.item i s _ _ (by rw[Nq];exact Nk (Nk m (Nt Z.symm)) (Nt hl)) ⟨O,Q,p.isList⟩ fun T vals h' tk J hT F f hk=>?_;obtain⟨t,u,hu,rfl⟩:=J;refine⟨.ref T,rfl,W.go L kk pos i T _ _ _ f fun ai G D=>?_⟩;obtain⟨x,hx⟩:∃x,N[i]?=some x:=⟨N[i]'(Nk m (Nt Z.symm)),Nl _⟩
  obtain⟨v,hv,r⟩:=rv.get hx;have M:v=u:=by have:=hu;rw[DB,hv]at this;exact NS this
  subst M;have ae:=W.apart i T _ f
  have af:IsTup ai T #[.int i t,v]:=by
   obtain⟨o,S,ab,q⟩:=F;exact⟨o,D T o ae S,ab,q⟩
  have ah:=I.hok.fresh hT;refine⟨.ref T,_,I.turnedN (ch:=[e,it]) (t':=tk) (xs:=[.int i,x]) (fun b o d e=>D b o d (hk b o d e)) U hT ⟨by simp[DZ],[.int i t,v],.cons ⟨t,rfl⟩ (.cons r .nil),af⟩,rfl,⟨T,x,rfl,ah,rfl,fun ys hy=>by rw[I.list_inj hy R];exact hx⟩,⟨m,G.1,G.2.1⟩,fun b d=>?_⟩;rw[Qy (fun q=>?_)]
  ·exact(U b d).1
  ·obtain⟨o,S,_⟩:∃o,s.heap.get? b=some o/\True:=by
    obtain⟨old,g⟩:=O;obtain⟨Y,M,_⟩:=Q;have j:b=e\/b=it:=by simpa using d
    rcases j with rfl|rfl
    ·exact⟨_,g,trivial⟩
    ·exact⟨Y,M,trivial⟩
   rw[q]at S;exact absurd (ND S) (NU.mpr hT)
 done:=by
  intro X J hw hK hc i z s σ H E I U st hg;subst J hw hK;obtain⟨m,N,R,Z⟩:=hg;obtain⟨a,rv,p,hz⟩:=I.list R;have hl:=rv.length;obtain⟨aj,O,Q⟩:=st;have W:=FX (prog:=X.prog) (w:=X.w) (Draws.list (A:=X.A.in1) (I.ok.hd hc) it l B a.toArray) e c (by simp[c,EN C]) (by simp);have aa:a.toArray.size=i:=by rw[Nq];lia
  refine W.done s _ _ (by rw[aa];exact⟨O,Q,p.isList⟩) fun h' tk hk=>⟨rfl,?_⟩
  exact I.turnedL (ch:=[e,it]) (fun b o d e=>hk b o d e) U (fun _ _ e=>e) (fun _ _ _ n=>n) fun b u n e=>by rw[n]at e;cases e
 self:=fun _ _ _ _ _ st h=>let⟨_,g⟩:=st.2.1;FY g h
def Qlm(K:Ng)(f:TA):TI:=fun d H R=>f d H fun e c=>∃a b,e=[.ref a]/\SqL K c a b/\R (ItE K a b.length) c
theorem Qgd{X:Cx}{i:List Expr}(F:Gl X "enumerate")(D:X.mg "enumerate"=none)(G:PA X [a] v)(A:starEach [a] X.env=[(false,eval a X.env)]:=by rfl) :
  PI X (.Tuple i O j) (.Call (.Name "enumerate" p) [a] [] pos) (Qlm X.K v):=by
 intro d s o H R I h;refine Call_ (J9 I F D boot_enumerate (NX (thn (G pos d s o H _ I h) fun M c r=>?_) A rfl));obtain⟨L,J,I1,x,y⟩:=r;obtain⟨ad,t,e,B,q⟩:=y;subst e;obtain⟨u,rfl,w⟩:=KQ x;cases w;obtain⟨z,rv,l,P⟩:=I1.list B;have f:ad<c.heap.objs.size:=let⟨_,C,_⟩:=l.isList;ND C
 refine call_enumerate_list l.isList fun Q m hit _ E=>FY m ?_;refine⟨c.heap.objs.size+1,[c.heap.objs.size+1,c.heap.objs.size],_,_,J,rfl,I1.kept (t':=c.toks) E,QcS ad _ _ t.length (Yak _) (NG (E1 f)) (NG f),⟨NV _,⟨_,m⟩,hit⟩,fun b n=>?_,q⟩
 have g:c.heap.objs.size<=b:=by
  simp at n
  rcases n with h|h<;>(rw[h];first|exact Nz _|exact Nv _ _)
 exact I1.fpOk g (I1.hok.fresh g)
end L2
namespace Mi
open L2
def XD(ms:MA):MI:=fun a h=>(ms a h).bind fun p=>match p.1 with
 |[.lst b]=>some (Jo b,none,p.2)
 |_=>none
section
variable{K:Ng}{R:Rn}
theorem Qc0(l:SqL K R.F a xs)(r:Rws K R ws xs):ItOk K R (ItE K a xs.length) (Jo ws) none where
 go:=fun i w p h H x d _ e=>by
  have c:=(Nf.mp e).1;have g:=r.length;unfold Jo at c;rw[Nu,DW]at c;exact⟨by exact Nk c (Nt g),xs,Zh (fun b o z=>d.sub b o (x.f b o z)) l,rfl⟩
 yld:=fun i w p h H x E e d _ m q=>by
  obtain⟨T,B,rfl,t,rfl,s⟩:=q;unfold Jo at m;rw[Np,Ff]at m;obtain⟨⟨D,j⟩,A,rfl⟩:=Nd.mp m;obtain⟨C,y,u⟩:=Nd.mp A;cases u;obtain⟨v,g1,g2⟩:=r.get y;have n:=s xs (Zh (fun b o z=>d.sub b o (e.f b o z)) l);rw[g1]at n;cases n;rw[NI];exact d.tup t (Rws.cons (by unfold Rw;rfl) (Rws.cons (Rw.mono e _ _ g2) Rws.nil))
 stop:=fun i p h H x d _ c=>by
  have g:=r.length;unfold Jo at c;rw[Nu,DW]at c;exact⟨by exact Nn (Nt g.symm) c,xs,Zh (fun b o z=>d.sub b o (x.f b o z)) l,rfl⟩
end
section
variable{X:Cx}{tg a:Expr}{ms:MA}{p pos tpos:Pos}{elts:List Expr}{kk:Nat}
theorem Qaf(u:Gl X "enumerate")(t:X.mg "enumerate"=none)(w:PMA X [a] ms)(s:starEach [a] X.env=[(false,eval a X.env)]:=by rfl):PMI X (.Tuple elts kk tpos) (.Call (.Name "enumerate" p) [a] [] pos) (XD ms):=
 UC (Qgd u t w s) fun A H C j=>by
  obtain⟨R,c,h,items,o,E,r,st,e,k⟩:=j;obtain⟨⟨n,x⟩,y,d⟩:=Nc.mp e;refine⟨R,c,h,n,x,r,st,y,fun R1 z B m b rv=>?_⟩;split at d
  ·rename_i D g;simp only at g;subst g;cases d;obtain⟨v,rfl,f⟩:=W8 rv;unfold Rw at f;obtain⟨ad,l,rfl,i,q⟩:=f;exact⟨ad,l,rfl,Zh b.sub (.inl (.inl i)),k R1 z _ m b (Qc0 (.inl (.inl i)) q)⟩
  ·cases d
end
end Mi
namespace L2
open PySem.SeqAt
section
variable{prog:Program}{w:World}{A:Around}{E:Value->Shared->Prop}{s:Shared}
theorem Qex(h:Q 0xFCA86420 { s with toks:=s.toks+1 }):wpAny (model prog w) A (pyHash .none) Q E s:=by
 unfold pyHash;have a:[Value.none].any Value.onHeap=false:=rfl;refine Na ?_;rw[cRoomFor,if_neg (by rw[a];exact NQ)];refine Nj (Na (Dt (L3 s) Fg.lookup ?_));show wpAny _ _ (if(some (Value.builtin "NoneType.__hash__")==some Value.none)=true then _ else _) Q E s;rw[if_neg (by rw[Lw];exact NQ)];refine Na (Dt (L3 s) Fg.lookup ?_);show wpAny _ _ (callSpecialIfBoundUnlessNone? .none "__hash__" _>>=_) Q E s;refine Na (wpAny_callSpecialIfBoundUnlessNone?_slot (L3 s) Fg (Ej Fg (L3 s) F.entry_NoneType_hash (show wpAny _ _ (do ret (<-mkInt 0xFCA86420)) _ _ s from wpAny_ret_mkInt ?_) (F.args_NoneType_hash_1 _)));show wpAny _ _ (if(decide (-(2:Int)^63<=0xFCA86420)&&decide ((0xFCA86420:Int)<2^63))=true then _ else _) Q E _;rw[if_pos (by decide)];exact Nj h
theorem Qed{stored:List Value}(c:∀v∈stored,∃k b,v=.ref b/\(Qh prog w).is s.heap k b)(h:Q false s):wpAny (model prog w) A (tableMayTell .none stored) Q E s:=by
 unfold tableMayTell;split
 ·exact Nj h
 ·refine Na (m:=eqIsQuiet 8 .none) (Nj ?_);simp only[Lc,Es,if_false];refine Na (Ia _ (fun rest r a=>a=s/\r=(none,())/\∀v∈rest,∃d b,v=.ref b/\(Qh prog w).is s.heap d b) _ ?_ ?_ _ _ ⟨rfl,rfl,c⟩)
  ·rintro x rest r a ⟨rfl,rfl,hr⟩
   obtain⟨d,b,rfl,f⟩:=hr x NA;refine Na ((Qh prog w).quiet f ?_);simp only[Lc,Es,if_false];exact Nj ⟨rfl,rfl,fun v e=>hr v (Ny _ e)⟩
  ·rintro r a ⟨rfl,rfl,_⟩
   exact Nj h
theorem Qds {es ep} {xs:List (Tr×Addr×Value)} (hu:A.units<cLine) (n:s.heap.get? d=some o) (hd:o.data=.dict es ep) (H:es.toList=xs.map (entryOfKey (Qh prog w))) (m:∀x∈xs,(Qh prog w).is s.heap x.1 x.2.1)
  (z:Q none s):wpAny (model prog w) A (dictFind d .none g) Q E s:=by
 have a:∀e∈es,∃x∈xs,e=entryOfKey (Qh prog w) x:=fun e t=>by
  have:e∈xs.map (entryOfKey (Qh prog w)):=H▸Oh.mpr t;obtain⟨x,l,rfl⟩:=NL.mp this;exact⟨x,l,rfl⟩
 have q:∀v∈(placesWithHash es.size (fun i=>es[i]?.map (·.hash)) g).filterMap (fun i=>es[i]?.map (·.key)),∃B b,v=.ref b/\(Qh prog w).is s.heap B b:=by
  intro v D;obtain⟨i,_,G⟩:=IY.mp D;obtain⟨e,u,rfl⟩:=Nd.mp G;obtain⟨x,l,rfl⟩:=a e (Io u);exact⟨x.1,x.2.1,rfl,m x l⟩
 have eq:∀{b:Addr} {k:Tr} {R:Bool->Shared->Prop},(Qh prog w).is s.heap k b->R false s->wpAny (model prog w) A (eqBool (.ref b) .none) R E s:=fun {b k R} I r=>by
  obtain⟨_,_,C,_,_,F,_⟩:=QaQ (show IsT s.heap 8 k (.ref b)from I);exact EqAt.tuple_none F hu prog w E R r
 unfold dictFind;refine N2 (Na (D3 n hd ?_));dsimp only
 by_cases h:((Value.none::(placesWithHash es.size (fun i=>es[i]?.map (·.hash)) g).filterMap (fun i=>es[i]?.map (·.key))).all carriedByValue)=true
 ·rw[if_pos h];unfold dictWalkPlain;refine Na (Ia _ (fun rest r j=>j=s/\r=(none,())) _ ?_ ?_ _ _ ⟨rfl,rfl⟩)
  ·rintro x rest r j ⟨rfl,rfl⟩
   cases l:es[x]? with
   |none=>exact Nj ⟨rfl,rfl⟩
   |some e=>
    obtain⟨y,p,rfl⟩:=a e (Io l);dsimp only;split
    ·refine Na (Dz n hd (Na (eq (m y p) (Na (Dz n hd ?_)))));show wpAny _ _ (if(ep != ep)=true then _ else _) _ E _;rw[if_neg (by simp)];simp only[Es,if_false];exact Na (Dd (Nj ⟨rfl,rfl⟩))
    ·exact Nj ⟨rfl,rfl⟩
  ·rintro r j ⟨rfl,rfl⟩
   exact Nj z
 ·rw [if_neg h]
  have go:∀stored:List Value,wpAny (model prog w) A (do
    let mut hit:Option Nat:=none
    for i in placesWithHash es.size (fun i=>es[i]?.map (·.hash)) g do
     if let some e:=es[i]? then
      if e.hash==g then
       let c <-dictEpoch d (keyPart .none)
       let same <-eqBool e.key .none
       if(<-dictEpoch d (keyPart .none)) != c then unsupported "dict.changed-during-lookup"
       if same then
        if hit.isSome then unsupported "dict.find:order-among-keys-of-one-hash"
        rule "dict.find.hit"
        if stored.length<2 then return some i
        hit:=some i
       else
        rule "dict.find.same-hash-other-key"
        if false&&!(0<=g&&g<32)then unsupported "dict.find:asked-again-or-not-hangs-on-the-table"
    return hit) Q E s:=by
   intro stored;refine Na (Ia _ (fun rest r j=>j=s/\r=(none,none)) _ ?_ ?_ _ _ ⟨rfl,rfl⟩)
   ·rintro x rest r j ⟨rfl,rfl⟩
    cases l:es[x]? with
    |none=>exact Nj ⟨rfl,rfl⟩
    | some e=>
     obtain⟨y,p,rfl⟩:=a e (Io l);dsimp only;split
     ·refine Na (Dz n hd (Na (eq (m y p) (Na (Dz n hd ?_)))));show wpAny _ _ (if(ep != ep)=true then _ else _) _ E _;rw[if_neg (by simp)];simp only[Es,if_false];refine Na (Dd ?_)
      first|rw[if_neg (by simp)]|skip
      first|exact Nj ⟨rfl,rfl⟩|exact Na (Nj (Nj ⟨rfl,rfl⟩))
     ·exact Nj ⟨rfl,rfl⟩
   ·rintro r j ⟨rfl,rfl⟩
    exact Nj z
  by_cases f:(((placesWithHash es.size (fun i=>es[i]?.map (·.hash)) g).filterMap (fun i=>es[i]?.map (·.key)))==[Value.none])=true
  ·rw[if_pos f];refine Na (Nj ?_);rw[if_neg (by simp)];exact go _
  ·rw[if_neg f];refine Na (Qed q ?_);rw[if_neg (by simp)];exact go _
end
theorem Um(d:Addr)(hd:(d==sysModules)=false)(dflt:Value) :
  MeetsIn prog w (Builtin.«dict.get» ⟨[.ref d,.none,dflt],[]⟩) (fun A R s=>A.in1.units<cLine/\∃xs,s.heap.DictOfH (Qh prog w) d xs/\R (.ok (.ret dflt)) { s with toks:=s.toks+1 }):=
 .of_wp fun A R s b=>by
  obtain⟨hu,xs,e,h⟩:=b;obtain⟨o,j,l,c,_,g,f,a,i⟩:=e;show wpAny _ _ (dictGet d .none>>=_) _ _ s;unfold dictGet;refine Na (N2 (Na (Qex (Na (Qds (s:={ s with toks:=s.toks+1 }) (xs:=xs) hu c g f a ?_)))));refine Nj (show wpAny _ _ (Builtin.Dict.missed d .none>>=_) _ _ _ from Na (wpAny_missed_other hd (Nj ⟨dflt,rfl,h⟩)))
end L2
namespace Mi
open L2
def Qcg(a:W)(ws:List W)(h:MH):Option (W×MH):=match ws with
 |[.non,v]=>(Y1 h a).map fun _=>(v,h)
 |_=>Qec a ws h
theorem QfE(hu:X.A.units+64<cLine):Qdd X "dict.get" Qcg:=by
 intro c s j H x d v p Q I i rv q;obtain⟨R,h,a,l,w,G,f,g,b,e,k⟩:=q;unfold Qcg at e;split at e
 ·rename_i S;obtain⟨C,L,J⟩:=Nd.mp e;cases J;obtain⟨n,rfl,E⟩:=Xb L;obtain⟨y,z,rfl,B,u⟩:=Qhm b;obtain⟨o,m,rfl,t,r⟩:=GE rv;obtain⟨O,d,P,T,M,lo,N,dd⟩:=Ww I f E;unfold Rw at g;obtain⟨F,rfl⟩:=g;obtain rfl:v=Value.ref (R.ρ n):=i;have D:y=.non:=B.non_eq;subst D;obtain rfl:o=Value.none:=t;exact Iy Dy dd.typeIs F3 (FQ _ _ _) (Um (R.ρ n) lo m) ⟨show X.A.units+1<cLine by exact N4 (EC (by decide) _) hu,d,dd,_,H,I.tok _,r,k R H _ (Ext.refl _) f u⟩
 ·exact Qgz hu c s j H x d v p Q I i rv ⟨R,h,a,l,w,G,f,g,b,e,k⟩
structure MetAt(K:Ng)(C:Addr)(x q:Str)(st:Stmt)(ps:List Str):Prop where
 ex:∃(f:Addr) (fd:FuncData),Fun K x q st f fd/\Meth K C x f/\Binds K fd ps []
structure ClsAt(K:Ng)(mg:Str->Option Value)(C:Addr)(c:Str):Prop where
 cl:Cls K C
 ms:Yas K C=true
 kp:EE K (.ref C)=true
 mg:mg c=some (.ref C)
theorem QmZ{K:Ng}{C:Addr}{x q:Str}{st:Stmt}{f:Addr}{h:Value}{kV d pm cd ct:Value}
  (a:D6 K (.ref C) x=some (some (.ref f))) (i:Yay K (.ref f)=true) (l:K.lookup f=some ⟨h,m,.func (EQ x q (VR st) (Js st) (Qg st) .none kV d pm g cd ct),j⟩) (c:FK K cd q=true) (k:EE K (.ref f)=true)
  (b:∀(kV d pm:Value) (g:Option Addr) (e ct:Value) (us:List Value),us.length=ps.length->bindArgs (EQ x q (VR st) (Js st) (Qg st) .none kV d pm g e ct) ⟨us,[]⟩=pure (ps.zip us)):MetAt K C x q st ps:=
 ⟨f,_,QbP l c k,⟨a,i,k⟩,(QbP l c k).binds b⟩
theorem QmH{K:Ng}{h:Heap}{c:Str}{C:Addr}(X:K.In h)(G:h.Ns mainGlobals d)(f:FC K mainGlobals c=some (some (.ref C)))(b:Lx K C Str.empty=true)(hd:OY K C=true)(po:OZ K C=true)
  (a:D6 K (.ref C) "__setattr__"=some (some (.builtin "object.__setattr__"))) (mk:Yas K C=true) (e:EE K (.ref C)=true):ClsAt K d C c:=
 ⟨⟨b,hd,po,a⟩,mk,e,Fk X G f⟩
theorem Qp9{l:PySem.W.OpenLaw}{d:DefRec}{K:Params->Ng}{st:Stmt}{sem:Addr->FM}{k:Nat}(A:l.most=some 63)(I:d.params.defaults=[])(hr:Room k callerA)(B:d.name="law")
  (X:∀(w:World) (h:Heap),Z w h->(K w.params).In h)
  (U:∀(kV c pm:Value) (J:Option Addr) (g ct:Value) (s:Shared) (u:Value),BindsTo s (EQ "law" "law" (VR st) (Js st) (Qg st) .none kV c pm J g ct) ⟨[u],[]⟩ [("script",u)])
  (F:∀(w:World) (i:Str->Option Value) (h:Heap),(K w.params).In h->h.Ns mainGlobals i ->
   DefAt (K w.params) i "law" st ["script"]/\∀base:Heap,(K w.params).In base->base.Ns mainGlobals i->∃C,Cal l.prog w (K w.params) i base k "law" ["script"] (sem C))
  (main:∀(C:Addr) (ns:List Int),ns.length<=63->∃h',sem C [.frz (ns.map W.int)] []=some (.bl true,h')) :
  Oy q y XP Z l.row.toRowW d [] (fun f r=>Ol f r):=by
 refine L2.QeO (n:=63) (k:=k) (x:="script") (CX:=fun _=>CX0) (sp:=fun w r H Q E=>r.length=1/\∀C,spM (K w.params) 1 (sem C) r H Q E) A (by decide) I hr X ?_ ?_ fun _ _ _ _ _ z=>z
 ·intro w i fa h KX G b;obtain⟨D,Fn⟩:=F w i h KX G;obtain⟨f,fd,Fu,t,_⟩:=D.ex;rw[B]at b;rw[t]at b;cases b;obtain⟨oc,od,kV,c,pm,J,g,ct,M,e,lk,T⟩:=Fu.ex;refine⟨fd,fun s u=>?_,fun base R P=>?_⟩
  rotate_left
  ·obtain⟨C,CC⟩:=Fn base R P;obtain⟨f',Y,F',p,_,_,O,N,L,j⟩:=CC.ex;rw[t]at p;cases p;rw[lk]at j;cases j;exact F'.imp fun _ _ _ _ z=>z.2 C
  rw[e];exact U kV c pm J g ct s u
 ·intro w H a ns S hO hS;refine⟨rfl,fun C=>?_⟩;obtain⟨h',e⟩:=main C ns S;refine⟨⟨fun _=>0,0,H,fun _=>none⟩,[.frz (ns.map W.int)],[],.bl true,h',rfl,⟨rfl,fun _ _ z=>z,fun n A=>absurd A (DV _),fun m n t=>absurd t (DV _),(fun n o z=>by simp at z),(fun _ _ z=>by cases z),(fun _ _=>rfl),(fun _ _ z=>by cases z)⟩,?_,e,fun R' H' v _ _ rv=>rv.bl_eq⟩;refine Rws.cons ?_ Rws.nil;unfold Rw;exact⟨a,_,rfl,hS,GA ns⟩
def QqZ(a:W)(ws:List W)(h:MH):Option (W×MH):=match ws with
 |[b]=>(Qh8 h a).bind fun c=>(QjB b).map fun k=>((QaG c k).getD .non,h)
 |_=>none
def Qmb(n:Nat)(k:Key)(v:W)(a:List (Key×W))(h:MH):Option (W×MH):=match QaG a k with
 |some x=>some (x,h)
 |none=>if a.length<sizeLine then some (v,h.set n (.dic (QlR a k v)))else none
def Qj0(a:W)(ws:List W)(h:MH):Option (W×MH):=match a,ws with
 |.ref n,[b,v]=>(Qh8 h (.ref n)).bind fun c=>(QjB b).bind fun k=>Qmb n k v c h
 |_,_=>none
noncomputable def Qc3:List W->Option (List Int)
 |[]=>some []
 |.int i::r=>(Qc3 r).map (i::·)
 |_=>none
section
variable{X:Cx}
theorem Qj6(hu:X.A.units+64<cLine):Qdd X "dict.setdefault" Qj0:=by
 intro J s σ H x xs v us Q I U rv q;obtain⟨R,h,a,ws,w,h',m,Z,l,e,k⟩:=q;unfold Qj0 at e;split at e
 ·rename_i n b dv;obtain⟨aa,e1,e2⟩:=Nc.mp e;obtain⟨f,e3,c⟩:=Nc.mp e2;obtain⟨n',r,hn⟩:=Qbx e1;cases r;obtain⟨y,B,rfl,Y,G⟩:=Qhm l;obtain⟨uy,S,rfl,T,F⟩:=GE rv;obtain⟨t,ey,L,M,i⟩:=m.dicAt Z hn;have eb:=QbN Y e3;subst eb ey;obtain rfl:v=Value.ref (R.ρ n):=U;obtain⟨z,hd,P,rel,dd⟩:=Qnm I.hok M;have d:=rel.val f;refine Iy EW dd.typeIs IK (IC _ _ _) (kt_meets_setdefault (VQ X.prog X.w) _ (QkB T) hd S) ⟨P,dd,?_,fun p hp=>?_,fun o u g hs=>?_⟩
  ·rw[<-NW rel];exact z
  ·rw[hp]at d
   rcases Gy (k:=f) i with z|⟨O,E,D,j,C⟩
   ·rw[z.2]at d;exact d.elim
   ·unfold Qmb at c;rw[D]at c;cases c;rw[j]at d;exact⟨E,H,I.tok _,d,k R H _ (Ext.refl _) m C⟩
  ·rw [o]at d
   rcases Gy (k:=f) i with N|⟨O,E,D,j,C⟩
   ·unfold Qmb at c;rw[N.1]at c;dsimp only at c;split at c
    ·rename_i hl;cases c;have he:∃q,u.get? (R.ρ n)=some q:=let⟨q,_,_,hq,_⟩:=g;⟨q,hq⟩
     have hz:(QiB L f B).length<=sizeLine:=by
      have h1:=Qbj L f B;have h2:=NW i;lia
     exact⟨B,_,Qfo (t':=s.toks+1) I (by rw[M];exact True.intro) hs he (Ql0 hz hd (rel.put f F) g),F,k R _ _ (Ext.refl _) (m.put t ⟨_,rfl,QjK i G⟩) G⟩
    ·cases c
   ·rw[j]at d;exact d.elim
 ·cases e
theorem GV{K:Ng}:∀{a:List W} {ns:List Int} {xs:List V},Qc3 a=some ns->Rws K R a xs->xs=ns.map V.int
 |[],_,_,e,r=>by cases e;rw[Rws.nil_iff]at r;exact r
 | y::a,ns,xs,e,r=>by
  rw[Rws.cons_iff]at r;obtain⟨v,f,rfl,b,c⟩:=r;cases y with
  |int i=>
   obtain⟨g,d,rfl⟩:=Nd.mp (show(Qc3 a).map (i::·)=some ns from e);unfold Rw at b;rw[b,GV d c];rfl
  |_=>cases e
end
end Mi
namespace Sb
noncomputable abbrev Ex(h h':Heap):Prop:=∀b o,h.get? b=some o->h'.get? b=some o
end Sb
namespace L2
noncomputable def Itq(a:Addr)(n:Nat):It:=⟨fun i H=>i<n/\∃b,H a=some (.dT b)/\b.length=n,fun i H x c=>c=H/\∀b,H a=some (.dT b)->∃p,b[i]?=some p/\x=.ref p.2.1,fun i H=>n<=i/\∃b,H a=some (.dT b)/\b.length=n⟩
theorem Qeu(I:Inv X d σ H s)(e:H a=some (.dT kx)) :
  ∃es:Array DictEntry,RawD s.heap a es kx.length/\es.size=kx.length/\(a==sysModules)=false/\∀(i:Nat) p,kx[i]?=some p->∃c:i<es.size,es[i].key=.ref p.2.1:=by
 obtain⟨z,y,v,r,o,es,A,u,t,n,g,x,m⟩:=I.hok _ _ e;have l:=NW r;have b:es.size=kx.length:=by rw[<-N3,g,Nu,l]
 refine⟨es,⟨o,u,t,by rw[n,m,b]⟩,b,y,fun i p f=>?_⟩;have c:i<es.size:=by rw[b];exact(Nf.mp f).1
 obtain⟨q,j,h⟩:=V0 r f;refine⟨c,?_⟩;have:es.toList[i]?=some (entryOfKey (Qh X.prog X.w) q):=by rw[g,Np,j];rfl
 rw[Eb,NN c]at this;rw[NS this,h.2.1];rfl
theorem Qmy{K:Ng}(a it:Addr)(n:Nat):Turn P w K tg (Itq a n) [it] it (fun i h=>i<=n/\h.IsKeyIter it a i n n) where
 mem:=by simp
 obj:=fun i h st b j=>by
  have e:b=it:=by simpa using j
  subst e;obtain⟨_,o,e,c,d⟩:=st;exact⟨o,e,fun v z=>by rw[d]at z;cases z⟩
 keep:=fun i h A st k=>⟨st.1,st.2.at fun o e=>k it (by simp) o e⟩
 item:=by
  intro X F hw G S i f s O H E I y st D;subst F hw G;obtain⟨x,B,t,u⟩:=D;obtain⟨m,q,l,lo,R⟩:=Qeu I t;obtain⟨p,Q⟩:∃p,B[i]?=some p:=⟨B[i]'(Nk x (Nt u.symm)),Nl _⟩
  obtain⟨N,f1,f2,M,L,J⟩:=y it (by simp);obtain⟨C,ek⟩:=R i p Q;have hit:=st.2;rw[u]at q l;refine Qck (es:=m) (ep:=n) (by rw[l];exact hit) q C fun A g U=>?_;rw[l]at g;have I1:Inv X f O H { s with heap:=A }:=I.turned (t':=s.toks) (fun b o j e=>(U.2 b j).trans e) N f1 M L J;obtain⟨o,e,c,d⟩:=id g;refine⟨m[i].key,rfl,QaZ (s:={ s with heap:=A }) e c d (by decide) ⟨.ref p.2.1,H,I1,ek,⟨rfl,fun Y r=>?_⟩,⟨x,g⟩,fun b j=>(y b j).1⟩⟩;rw[t]at r;cases r;exact⟨p,Q,rfl⟩
 done:=by
  intro X F hw G S i f s O H E I y st D;subst F hw G;obtain⟨x,B,t,u⟩:=D;obtain rfl:i=n:=Dw st.1 x;obtain⟨m,q,l,lo,R⟩:=Qeu I t;obtain⟨N,f1,f2,M,L,J⟩:=y it (by simp);have hit:=st.2;rw[u]at q l;exact Qd5 (es:=m) (ep:=i) (I.ok.hd S) (by rw[l];exact hit) q fun A eb=>⟨rfl,I.turned (t':=s.toks) (fun b o j e=>eb b o j e) N f1 M L J⟩
 self:=fun _ _ _ _ _ st h=>Oo st.2 h
end L2
namespace Mi
open L2
noncomputable def Jl(m:ME):MI:=fun b h=>(m b h).bind fun p=>match p.1 with
 |.ref n=>match p.2[n]? with|some (.dct a)=>some (a.map (·.1),some (.d n),p.2)|_=>none
 |_=>none
theorem QfS{K:Ng}(o:n<R.N):ItOk K R (Itq (R.ρ n) ws.length) ws (some (.d n)) where
 go:=fun i w s h H x b g e=>by
  obtain⟨f,m,l⟩:=g (.d n) rfl;obtain⟨c,a,j⟩:=b.obj n _ m;rw[x.ρ n o]at a;refine⟨(Nf.mp e).1,c,a,?_⟩;rw[<-NW j,<-l,Nu]
 yld:=fun i w s h H x D e b g u A=>by
  obtain⟨rfl,B⟩:=A;obtain⟨f,m,l⟩:=g (.d n) rfl;obtain⟨c,a,j⟩:=b.obj n _ m;rw[e.ρ n o]at a;obtain⟨p,z,rfl⟩:=B c a;rw[<-l,Np]at u;obtain⟨q,v,rfl⟩:=Nd.mp u;obtain⟨C,t,y⟩:=V0 j v;rw[z]at t;cases t;exact⟨s,Ext.refl _,b,y.1⟩
 stop:=fun i s h H x b g r=>by
  obtain⟨f,m,l⟩:=g (.d n) rfl;obtain⟨c,a,j⟩:=b.obj n _ m;rw[x.ρ n o]at a;exact⟨r,c,a,by rw[<-NW j,<-l,Nu]⟩
section
variable{X:Cx}{tg a:Expr}{ma:ME}
theorem K6(O:PM X a ma):PMI X tg a (Jl ma):=by
 intro j s B H C I q;obtain⟨R,t,h,items,y,S,D,st,e,k⟩:=q;obtain⟨⟨w,r⟩,Y,m⟩:=Nc.mp e;refine thn (O j s B H (fun v i=>∃R1 n l c,Ext R R1/\Rh X.K R1 r i/\v=.ref (R1.ρ n)/\n<R1.N/\r[n]?=some (.dct c)/\i (R1.ρ n)=some (.dT l)/\items=c.map (·.1)/\l.length=items.length/\y=some (.d n)/\S=r) I ⟨R,t,h,w,r,D,st,Y,fun R1 i v u f rv=>?_⟩) fun v p ⟨x,i,I1,F,R1,n,l,c,u,f,J,g,z,G,ei,T,A,U⟩=>?_
 ·cases w with
  |ref n=>
   simp only at m;split at m
   ·rename_i c z;cases m;obtain⟨l,Q,P⟩:=f.obj n _ z;unfold Rw at rv;obtain⟨g,rfl⟩:=rv;exact⟨R1,n,l,c,u,f,rfl,g,z,Q,rfl,by rw[<-NW P,Nu],rfl,rfl⟩
   ·cases m
  |_=>cases m
 ·subst J A U;cases F;obtain⟨A,E,L,lo,hk⟩:=Qeu I1 G;refine Qb5 lo E ?_;refine⟨p.heap.objs.size,[p.heap.objs.size],_,Itq (R1.ρ n) items.length,i,rfl,I1.kept (t':=p.toks) fun b o e=>No _ e,Qmy (R1.ρ n) _ items.length,⟨NV _,_,NB _ rfl,rfl,?_⟩,fun b M=>?_,k R1 i _ u f (QfS g)⟩
  ·rw[<-T,L];rfl
  ·have e:b=p.heap.objs.size:=by simpa using M
   subst e;exact I1.fpOk (Nz _) (I1.hok.fresh (Nz _))
end
open Sb
def U2(a b:W)(h:MH):Option (W×MH):=(Y1 h a).bind fun c=>(nrm b).bind fun k=>(KM c k).map fun v=>(v,h)
section
variable{X:Cx}{o i e a b:Expr}{mo mi mv ma mb:ME}{pos pos':Pos}
theorem XT(hu:X.A.units+64<cLine)(ha:PM X a ma)(hb:PM X b mb)(hs:QoH b):PM X (.Subscript a b pos) (Qe U2 ma mb):=by
 intro d s B H Q I q;refine Qin PySem.F.slot_dict_getitem.lookup hs (thn (ha d s B H _ I (QkM q)) fun u O ⟨x,H1,I1,S,Y⟩=>thn (hb d O B H1 _ I1 Y) fun iv s2 ⟨y,G,I2,P,R,h,a,b,w,h',j,C,U,e,k⟩=>?_);unfold U2 at e;obtain⟨Z,e1,e2⟩:=Nc.mp e;obtain⟨D,e3,e4⟩:=Nc.mp e2;obtain⟨v,g,e6⟩:=Nd.mp e4;cases e6;obtain⟨n,rfl,hn⟩:=Xb e1;obtain⟨kx,xs,hx,dr,zl,lo,T,dd⟩:=Ww I2 j hn;obtain⟨c,rfl,rfl,f⟩:=YR I2 j U P e3;unfold Rw at C;obtain⟨aa,rfl⟩:=C;obtain rfl:u=Value.ref (R.ρ n):=S;have E:=Wv (k:=D) T;refine⟨dd.typeIs,?_⟩
 rcases Yx (k:=D) dr with z|⟨w',N,M,L,J⟩
 ·rw[z.1]at g;cases g
 ·rw[M]at g;cases g;rw[L]at E;obtain⟨u',m,l⟩:=RelO.some_of E;obtain⟨p,t,r⟩:=Nd.mp m;subst r;exact wpAny_getItem_heap (QcW hu) f dd t ⟨N,G,I2.tok _,l,k R G _ (Ext.refl _) j J⟩
end
end Mi
namespace Qd
open L2 Mi
section
variable{prog:Program}{w:World}{A:Around}{E:Value->Shared->Prop}
noncomputable abbrev Kv:=Tr×Addr×Value
def PairQ(prog:Program)(w:World)(h:Heap)(v:Value)(p:Kv):Prop:=∃a o n,v=.ref a/\h.get? a=some o/\o.cls=.type "tuple"/\o.data=.seq #[.ref p.2.1,p.2.2] n/\(Qh prog w).is h p.1 p.2.1
noncomputable def mrgQ(a ps:List Kv):List Kv:=ps.foldl (fun b p=>storedH b p.1 p.2.1 p.2.2) a
theorem QkG(b:List Kv)(k:Tr)(a:Addr)(v:Value):(storedH b k a v).length<=b.length+1:=by
 unfold storedH;split
 ·rw[Nu];exact Nv _ _
 ·rw[NH,NM,Fv];lia
theorem Qny(d:∀x∈c,(Qh prog w).is h x.1 x.2.1)(h2:(Qh prog w).is h k a):∀x∈storedH c k a v,(Qh prog w).is h x.1 x.2.1:=by
 unfold storedH;intro x b;split at b
 ·obtain⟨y,e,rfl⟩:=NL.mp b;unfold Yae;split<;>exact d y e
 ·rcases NT.mp b with b|b
  ·exact d x b
  ·cases NF.mp b;exact h2
theorem Qez(e:Sb.Ex h h'):∀{n:Nat} (k:Tr) (v:Value),IsT h n k v->IsT h' n k v
 |0,_,_,x=>x.elim
 |_+1,.i _,_,x=>x
 |_+1,.s _,_,x=>x
 |n+1,.t _,_,x=>by
  obtain⟨a,its,rfl,b,h2⟩:=x;exact⟨a,its,rfl,b.at fun o q=>e a o q,Paired.mapP h2 fun k v z=>Qez e k v z⟩
theorem Qdk(e:Sb.Ex g h')(d:∀x∈a,(Qh prog w).is g x.1 x.2.1)(b:∀o,h.get? D=some o->h'.get? D=some o)(m:DctE prog w h D a):DctE prog w h' D a:=by
 obtain⟨o,q,r,p,n,l,j,_,i,f⟩:=m;exact⟨o,q,r,b _ p,n,l,j,fun x c=>Qez e _ _ (d x c),i,f⟩
theorem Qot{ps:List Kv}(hu:A.units+12<cLine)(hh:A.in1.handled=none)(L:l≠I)(r:D≠I)(O:D≠l)(H:∀b o,g.get? b=some o->b≠I/\b≠D)(z:ps.length=items.size)(hp:∀(j:Nat) (v:Value) (p:Kv),items[j]?=some v->ps[j]?=some p->PairQ prog w g v p) :
  ∀(k i:Nat) (s:Shared) (c:List Kv),items.size-i=k->i<=items.size->s.heap.IsListIter I l i->s.heap.IsList l items->Sb.Ex g s.heap->(∀x∈c,(Qh prog w).is g x.1 x.2.1)->DctE prog w s.heap D c->c.length+k<=sizeLine ->
  (∀h' tk,DctE prog w h' D (mrgQ c (ps.drop i))->Sb.Ex g h'->R (.ok (.ret .none)) { s with heap:=h',toks:=tk })->∀t,codeAny (model prog w) A (.builtin "dict.update.loop" ⟨[.ref D,.ref I,.int i t,.none],[]⟩) R s:=by
 intro k;have W:=Om (prog:=prog) (w:=w) (A:=A.in1) hh I l L items
 induction k with
 | zero=>
  intro i s c hk hi m h ex f U hz N t;have M:i=items.size:=by lia
  subst M
  refine E2 Dc.e_upd (by
   rw[Dg Dc.p_upd _];refine(show wpAny _ A.in1 (pyNext (.ref I)>>=_) _ _ s from Na (W.done s _ _ ⟨m,h⟩ fun h' tk y=>?_));have d:Sb.Ex g h':=fun b o e=>y b o (by simpa using(H b o e).1) (ex b o e);refine(show wpAny _ A.in1 (Builtin.Dict.addKeywords D []>>=_) _ _ _ from Na (Nj (Nj (N h' tk ?_ d))));rw[List.drop_of_length_le (Nt z)]
   exact Qdk d f (fun o e=>y D o (by simpa using r) e) U)
 | succ k ih=>
  intro i s c hk hi m h ex f U hz N t;have q:i<items.size:=by lia
  refine E2 Dc.e_upd (by
   rw[Dg Dc.p_upd _];refine(show wpAny _ A.in1 (pyNext (.ref I)>>=_) _ _ s from Na (W.item i s _ _ q ⟨m,h⟩ fun v h' tk hv u y=>?_));have d:Sb.Ex g h':=fun b o e=>y b o (by simpa using(H b o e).1) (ex b o e);have B:i<ps.length:=by rw[z];exact q
   obtain⟨a,o,n,rfl,h1,Y,X,h4⟩:=hp i v ps[i] hv (Nl B);have C:=d a o h1;refine(show wpAny _ A.in1 (holding [Value.ref a] _>>=_) _ _ _ from Na (N2 (Na (wpAny_tryCatch (show wpAny _ _ (Builtin.Dict.pairItems (.ref a)) _ _ _ from ?_)))));unfold Builtin.Dict.pairItems;refine Na (DK (T:="tuple") ⟨o,C,Y⟩ ?_);rw[if_pos (by decide)];refine Na (show wpAny _ _ (seqItems? (.ref a)) _ _ _ from ?_);unfold seqItems?;refine Na (wpAny_load C ?_);rw[X];refine Nj (Nj (show wpAny _ A.in1 (holding [.ref (ps[i]).2.1,(ps[i]).2.2] (dictSet D (.ref (ps[i]).2.1) (ps[i]).2.2)) _ _ _ from N2 ?_));have S:DctE prog w h' D c:=Qdk d f (fun o e=>y D o (by simpa using r) e) U;refine Wy (s:={ s with heap:=h',toks:=tk }) (show A.units+1+8<cLine by lia) (Qez d _ _ h4) S (by lia) fun Y Q G=>?_;have Z:Sb.Ex g Y:=fun b o e=>by rw[G.2 b (H b o e).2];exact d b o e
   refine Nj ⟨DR Dc.p_upd _,ih (i+1) _ (storedH c (ps[i]).1 (ps[i]).2.1 (ps[i]).2.2) (by lia) q (u.1.at fun o e=>by rw[G.2 I (EN r)];exact e) (u.2.at fun o e=>by rw[G.2 l (EN O)];exact e) Z (Qny f h4) Q (by have:=QkG c (ps[i]).1 (ps[i]).2.1 (ps[i]).2.2;lia) (fun X F P J=>?_) _⟩;refine N X F ?_ J;rw[EK B]
   exact P)
variable{s:Shared}
theorem call_pairsQ{ps:List Kv}(hu:A.units+16<cLine)(G:A.handled=none)(B:s.heap.get? l=some { cls:=.type "list",dict:=none,data:=.seq items m,slots:=L })(z:ps.length=items.size)(hz:items.size<=sizeLine)
  (I:∀(j:Nat) (v:Value) (p:Kv),items[j]?=some v->ps[j]?=some p->PairQ prog w s.heap v p)
  (h:∀h' tk,DctE prog w h' s.heap.objs.size (mrgQ [] ps)->Sb.Ex s.heap h'->Q (.ref s.heap.objs.size) { s with heap:=h',toks:=tk }):wpAny (model prog w) A (call (.type "dict") [.ref l]) Q E s:=by
 refine callType_codes (Q₁:=fun obj c=>obj=.ref s.heap.objs.size/\c={ s with heap:=s.heap.push { cls:=.type "dict",data:=.dict #[] } }) F.kt_called_dict (F.kt_typeCall_dict_1 _) F.entry_dict_init (kt_code_dict_new _ ⟨rfl,rfl⟩) fun obj c i=>?_;obtain⟨rfl,rfl⟩:=i;have a:DctE prog w (s.heap.push { cls:=.type "dict",data:=.dict #[] }) s.heap.objs.size []:=⟨_,_,_,NB _ rfl,⟨rfl,rfl,rfl⟩,rfl,rfl,by simp,by simp,rfl⟩
 have ty:Shared.TypeIs { s with heap:=s.heap.push { cls:=.type "dict",data:=.dict #[] } } (.ref s.heap.objs.size) "dict":=Heap.DictOfH.typeIs (s:={ s with heap:=s.heap.push { cls:=.type "dict",data:=.dict #[] } }) a.of;have f:l<s.heap.objs.size:=ND B;have d:=No { cls:=.type "dict",data:=.dict #[] } B;refine⟨ty,F.args_dict_init_2 _ _,?_⟩;unfold Builtin.«dict.__init__» Builtin.Dict.selfAndRest;refine Na (Na (D7 ty (show wpAny _ _ (pure (s.heap.objs.size,[Value.ref l])) _ _ _ from Nj (show wpAny _ _ (Builtin.Dict.updateFrom "dict.__init__" s.heap.objs.size (.ref l) [] .none) _ _ _ from ?_))));unfold Builtin.Dict.updateFrom;refine Na (DK (T:="list") ⟨_,d,rfl⟩ ?_);rw[if_pos (by decide)];refine Na (Dc.keys_miss d (by simp[G]) fun q t n=>?_);rw[if_pos (by rfl)];refine Na (Dd (Na (D0 (s:={ s with heap:=q,toks:=t }) ⟨_,n _ _ d,rfl,_,rfl⟩ ?_)));have y:Sb.Ex s.heap (q.push { cls:=.type "list_iterator",data:=.fields #[.ref l,.int 0 0] }):=fun b o e=>No _ (n _ _ (No _ e))
 have u:s.heap.objs.size<q.objs.size:=by
  obtain⟨o,_,_,e,_⟩:=a;exact ND (n _ _ e)
 have D:DctE prog w (q.push { cls:=.type "list_iterator",data:=.fields #[.ref l,.int 0 0] }) s.heap.objs.size []:=Qdk y (by simp) (fun o e=>No _ (n _ _ e)) a;refine Nj ⟨DR Dc.p_upd _,Qot (l:=l) (g:=s.heap) (items:=items) (ps:=ps) (by show A.units+1+12<cLine;lia) (by simp[G]) (NG (N4 f u)) (NG u) (EO f) (fun b o e=>⟨NG (N4 (ND e) u),NG (ND e)⟩) z I (items.size-0) 0 _ [] rfl (NV _) ⟨_,NB _ rfl,rfl,rfl⟩ ⟨_,y _ _ B,rfl,_,rfl⟩ y (by simp) D (by simpa using hz) (fun J r C x=>?_) _⟩;exact⟨rfl,h J r (by simpa using C) x⟩
end
end Qd
namespace Mi
open L2
def prQ:List W->Option (List (Tr×W×W))
 |[]=>some []
 |.tup [k,x]::r=>(nrm k).bind fun t=>(prQ r).map ((t,k,x)::·)
 |_=>none
def mgQ(a:List (W×W))(ps:List (Tr×W×W)):List (W×W):=ps.foldl (fun b p=>Qby b p.1 p.2.1 p.2.2) a
def mgX(a:List (Tr×Addr×V))(ps:List (Tr×Addr×V)):List (Tr×Addr×V):=ps.foldl (fun b p=>Qa2 b p.1 p.2.1 p.2.2) a
def WI(ws:List W)(h:MH):Option (W×MH):=match ws with
 |[a]=>(lsW h a).bind fun c=>(prQ c).bind fun b=>if b.length<=10000000 then some (.ref h.length,h++[.dct (mgQ [] b)])else none
 |_=>none
section
variable{X:Cx}{pins:List (Addr×Obj)}{σ:L2.St}{H:Hp}{s:Shared}{R:Rn}{h:MH}
abbrev PrR(K:Ng)(R:Rn):List (Tr×W×W)->List (Tr×Addr×V)->Prop:=Paired fun p q=>p.1=q.1/\Rw K R p.2.1 (.ref q.2.1)/\nrm p.2.1=some q.1/\Rw K R p.2.2 q.2.2
theorem QeW(I:Inv X pins σ H s)(g:Rh X.K R h H):∀{f:List W} {ps:List (Tr×W×W)} {xs:List V} {us:List Value},prQ f=some ps->Rws X.K R f xs->Vals xs us ->
  ∃(kx:List (Tr×Addr×V)) (b:List Qd.Kv),PrR X.K R ps kx/\QcR kx b/\b.length=us.length/\∀(j:Nat) (u:Value) (p:Qd.Kv),us[j]?=some u->b[j]?=some p->Qd.PairQ X.prog X.w s.heap u p
 |[],ps,xs,us,e,r,v=>by
  cases e;rw[Rws.nil_iff]at r;subst r;cases v;exact⟨[],[],.nil,.nil,rfl,fun j u p hu=>by simp at hu⟩
 | .tup [k,x]::f,ps,xs,us,e,r,v=>by
  obtain⟨y,A,Q⟩:=Nc.mp e;obtain⟨qs,P,O⟩:=Nd.mp Q;subst O;rw[Rws.cons_iff]at r;obtain⟨z,Z,rfl,m,G⟩:=r;cases v with
  |@cons _ u _ us hu C=>
  obtain⟨kx,b,Y,U,T,S⟩:=QeW I g P G C;unfold Rw at m;obtain⟨a,vz,rfl,L,J⟩:=m;obtain⟨M,N,⟨o,g1,g2,n,g3⟩,_⟩:=I.tuple (ZR g.sub L);obtain⟨z1,B,rfl,l,F⟩:=Qhm J;obtain⟨u1,i,rfl,E,D⟩:=GE N;obtain⟨c,rfl,rfl,d⟩:=YR I g l E A;obtain rfl:u=Value.ref a:=hu;refine⟨(y,c,B)::kx,(y,c,i)::b,.cons ⟨rfl,l,A,F⟩ Y,.cons ⟨rfl,rfl,D⟩ U,by simp[T],fun j u p t q=>?_⟩;cases j with
  |zero=>
   have f1:Value.ref a=u:=by simpa using t
   have f2:(y,c,i)=p:=by simpa using q
   subst f1;subst f2;exact⟨a,o,n,rfl,g1,g2,g3,d⟩
  |succ j=>exact S j u p (by simpa using t) (by simpa using q)
theorem Qdt{K:Ng}:∀{ps:List (Tr×W×W)} {kx:List (Tr×Addr×V)} {c:List (W×W)} {e:List (Tr×Addr×V)},PrR K R ps kx->DctR K R c e->DctR K R (mgQ c ps) (mgX e kx)
 |_,_,_,_,.nil,d=>d
 |_,_,_,_,.cons (a:=p) (b:=q) h t,d=>by
  show DctR K R (mgQ (Qby _ p.1 p.2.1 p.2.2) _) (mgX (Qa2 _ q.1 q.2.1 q.2.2) _);rw[h.1];exact Qdt t (U9 d h.2.1 h.2.2.1 h.2.2.2)
theorem Qen:∀{kx:List (Tr×Addr×V)} {c:List Qd.Kv} {e:List (Tr×Addr×V)} {f:List Qd.Kv},QcR kx c->QcR e f->QcR (mgX e kx) (Qd.mrgQ f c)
 |_,_,_,_,.nil,d=>d
 |_,_,_,_,.cons (a:=p) (b:=q) h t,d=>by
  show QcR (mgX (Qa2 _ p.1 p.2.1 p.2.2) _) (Qd.mrgQ (storedH _ q.1 q.2.1 q.2.2) _);rw[h.1,h.2.1];exact Qen t (Gu d h.2.2)
theorem QfH:∀(kx a:List (Tr×Addr×V)),(mgX a kx).length<=a.length+kx.length
 |[],a=>Nz _
 |p::kx,a=>by
  have d:=QfH kx (Qa2 a p.1 p.2.1 p.2.2);have c:=Wg (kx:=a) (k:=p.1) (b:=p.2.1) (v:=p.2.2);show(mgX (Qa2 a p.1 p.2.1 p.2.2) kx).length<=_;rw[NM];lia
theorem Qan(hc:X.calm=true)(hu:X.A.units+64<cLine):CallR X (.type "dict") (Fs X.K WI):=by
 intro pins s σ H J us Q I r q;obtain⟨R,h,ws,w,h',l,d,e,k⟩:=q;unfold WI at e;split at e
 ·obtain⟨ys,e1,e2⟩:=Nc.mp e;obtain⟨B,e3,x⟩:=Nc.mp e2;split at x
  ·rename_i hz;cases x;obtain⟨v,rfl,P⟩:=W8 d;obtain⟨ad,J,rfl,S,O⟩:=l.lsAt P e1;obtain⟨u,rfl,N⟩:=KQ r;obtain rfl:u=Value.ref ad:=N;obtain⟨t,rv,n,hl⟩:=I.list S;obtain⟨E,M,G,F,d3,d4⟩:=QeW I l e3 O rv;have l1:=NW G;have l2:=NW F;obtain⟨⟨oc,U,Y,T⟩,m,n,D,C,c⟩:=n;dsimp only at D C c;subst D C c;have aa:10000000<=sizeLine:=by decide
   refine Qd.call_pairsQ (ps:=M) (items:=t.toArray) (N4 (EC (by decide) _) hu) (I.ok.hd hc) n (by simpa using d3) (by rw[Nq];lia) (fun j u p h1 h2=>d4 j u p (by simpa using h1) h2) fun g tk dd Z=>?_;have hp:=I.hok.fresh (Nz s.heap.objs.size);obtain⟨R3,L,i,f⟩:=l.new (mo:=.dct (mgQ [] B)) (o:=.dT (mgX [] E)) hp fun R' y=>⟨_,rfl,Paired.mapP (Qdt G .nil) fun a b z=>⟨Rw.mono y _ _ z.1,z.2.1,Rw.mono y _ _ z.2.2⟩⟩
   obtain⟨o,es,ep,b1,b2,b3,b4,_,b6,b7⟩:=dd;refine⟨.ref s.heap.objs.size,_,I.laid (t':=tk) Z (Nz _) (show ObjOk X.prog X.w _ _ _ (.dT _)from⟨?_,?_,_,Qen F .nil,o,es,ep,b1,b2,b3,b4,b6,b7⟩),rfl,k R3 _ _ L i f⟩
   ·have:=QfH E [];simp at this;lia
   ·exact beq_eq_false_iff_ne.mpr fun z=>absurd I.big (by rw[<-z];exact Et _)
  ·cases x
 ·cases e
end
end Mi
namespace L2
theorem QfZ:typeLookup (.type "list_reverseiterator") "__len__"=pure none:=by
 rw[Fy,DA]
 kernel_rfl
theorem Qi5:typeLookup (.type "list_reverseiterator") "__length_hint__"=pure (some (.builtin "list_reverseiterator.__length_hint__")):=by
 rw[Fy,DA]
 kernel_rfl
section
variable{prog:Program}{w:World}{A:Around}{E:Value->Shared->Prop}{s:Shared}{r d:Addr}{its:Array Value}
theorem Qj7{Q:Bool->Shared->Prop}(e:s.TypeIs (.ref r) "list_reverseiterator")(h:Q false s):wpAny (model prog w) A (Builtin.List.listLengthHint (.ref r)) Q E s:=by
 unfold Builtin.List.listLengthHint;refine Na (Dt e QfZ (show wpAny _ A (specialOf (Value.ref r) (Str.ofString "__length_hint__")>>=_) _ _ _ from Na (Dt e Qi5 ?_)));generalize a:("list_reverseiterator.__length_hint__":String)=c
 wp_delta
 rw[show splitId c=some ("list_reverseiterator","__length_hint__")from by subst a;decide +kernel];subst a;exact Na (Fc (b:=true) e (by rw[D9];kernel_rfl) (Nj h))
theorem Qe5{R:Result->Shared->Prop}(B:A.handled=none)(hit:s.heap.IsRevIter r d ((its.size:Int)-1))(z:s.heap.IsList d its)(S:Addr)(m:S≠r)(t:S≠d)(n:d≠r)(res:Value)(g:Nat)(hS:s.heap.get? S=some { cls:=.type "list",data:=.seq #[] g })(y:its.size<=sizeLine)
  (D:∀h' tk a j,(∀b o,b≠S->b≠r->s.heap.get? b=some o->h'.get? b=some o)->h'.get? S=some { cls:=.type "list",dict:=none,data:=.seq a j,slots:=#[] }->ItemsOf (fun i v=>its[its.size-1-i]?=some v) a its.size->R (.ok (.ret res)) { s with heap:=h',toks:=tk }) :
  wpAny (model prog w) A.in1 (Builtin.List.listExtendWith (.ref S) (.ref r) res)
   (fun fin h=>match fin with|.done f=>R (.ok f) h|.again j=>j.quiet=true/\codeAny (model prog w) A j R h) (fun e h=>R (.error e) h) s:=by
 have W:=Walks.listRev (prog:=prog) (w:=w) (A:=A.in1) B r d n its;unfold Builtin.List.listExtendWith;refine Na (DK (T:="list_reverseiterator") hit.typeIs ?_);have F:Builtin.List.listSameRef (.ref S) (.ref r)=false:=by simp[Builtin.List.listSameRef,m]
 rw[if_neg (by rw[F];decide)];refine Na (ID hit (Na (N2 (Qj7 hit.typeIs ?_))));rw[if_neg (by decide)];have q:S∉[r,d]:=by simp[m,t]
 refine Nj ⟨DR Im _,Ot W.toS y S q res its.size 0 _ #[] g rfl (NV _) ⟨NV _,by simpa using hit,z⟩ hS (ItemsOf.nil _) fun h a j x u l=>?_⟩;rw[Moved.eq_with x];refine D h.heap h.toks a j (fun b o C p e=>x.heap b o (fun c=>?_) e) u l
 rcases NE.mp c with G|c
 ·exact C G
 ·exact p (NF.mp c)
theorem Qit{Q:Value->Shared->Prop}(C:A.handled=none)(hit:s.heap.IsRevIter r d ((its.size:Int)-1))(x:s.heap.IsList d its)(l:d≠r)(z:its.size<=sizeLine)
  (D:∀h' tk a q,(∀b o,b≠r->s.heap.get? b=some o->h'.get? b=some o)->h'.get? s.heap.objs.size=some { cls:=.type "list",dict:=none,data:=.seq a q,slots:=#[] }->ItemsOf (fun i v=>its[its.size-1-i]?=some v) a its.size->Q (.ref s.heap.objs.size) { s with heap:=h',toks:=tk }) :
  wpAny (model prog w) A (call (.type "list") [.ref r]) Q E s:=by
 refine callType_codes (Q₁:=fun obj c=>obj=.ref s.heap.objs.size/\c={ s with heap:=s.heap.push { cls:=.type "list",data:=.seq #[] } }) PySem.F.called_list (PySem.F.typeCall_list_1 _) PySem.F.entry_list_init (code_list_new _ ⟨rfl,rfl⟩) fun obj c g=>?_;obtain⟨rfl,rfl⟩:=g;have hS:(s.heap.push { cls:=.type "list",data:=.seq #[] }).get? s.heap.objs.size=some { cls:=.type "list",data:=.seq #[] }:=NB _ rfl;have u:r<s.heap.objs.size:=let⟨_,j,_⟩:=hit;ND j
 have t:d<s.heap.objs.size:=let⟨_,j,_⟩:=x;ND j
 refine⟨⟨_,hS,rfl⟩,PySem.F.args_list_init_2 _ _,?_⟩;refine(show wpAny _ _ (do let old <-Builtin.List.listItems (.ref s.heap.objs.size);Builtin.List.listUpdate (.ref s.heap.objs.size) (fun _=>#[]);letGo old.toList.reverse;Builtin.List.listExtendWith (.ref s.heap.objs.size) (.ref r) .none) _ _ _ from Na ?_);unfold Builtin.List.listItems;refine Na (D5 hS rfl (Nj ?_));refine(show wpAny _ _ (updateSeq s.heap.objs.size (fun _=>#[])>>=fun _=>letGo (#[]:Array Value).toList.reverse>>=fun _=>Builtin.List.listExtendWith (.ref s.heap.objs.size) (.ref r) .none) _ _ _ from Na (IB hS rfl ?_));have n:=N8 (Obj.mapSeq (fun _=>(#[]:Array Value))) hS rfl
 have f:∀b o,b≠s.heap.objs.size->s.heap.get? b=some o->((s.heap.push { cls:=.type "list",data:=.seq #[] }).update s.heap.objs.size (Obj.mapSeq (fun _=>(#[]:Array Value)))).get? b=some o:=
  fun b o m e=>(EI _ _ (EN m)).trans (No _ e)
 refine Na (wpAny_letGo ?_);refine Qe5 (A:=A.in1) C (hit.at fun o e=>f r o (NG u) e) (x.at fun o e=>f d o (NG t) e) _ (EO u) (EO t) l .none _ n z fun h' tk a q B p h=>?_;exact⟨rfl,D h' tk a q (fun b o m e=>B b o (NG (ND e)) m (f b o (NG (ND e)) e)) p h⟩
end
end L2
namespace Mi
open L2
def Qhg(ws:List W)(h:MH):Option (W×MH):=match ws with
 |[a]=>(lsW h a).map fun ws=>(.ref h.length,h++[.lst ws.reverse])
 |_=>none
theorem Rws.reverse{K:Ng}{R:Rn}:∀{ws:List W} {a:List V},Rws K R ws a->Rws K R ws.reverse a.reverse
 |[],_,h=>by rw[Rws.nil_iff]at h;subst h;exact Rws.nil
 |w::ws,_,h=>by
  rw[Rws.cons_iff]at h;obtain⟨v,a,rfl,b,h2⟩:=h;rw[FV,FV];exact Rws.append (Rws.reverse h2) (Rws.cons b Rws.nil)
section
variable{X:Cx}
theorem QcH{p1 N q l:Pos}(hc:X.calm=true)(hg:Gl X "list")(hm:X.mg "list"=none)(L:Gl X "reversed")(F:X.mg "reversed"=none)(he:PM X e me)(O:VX e=false:=by rfl) :
  PM X (.Call (.Name "list" p1) [.Call (.Name "reversed" N) [e] [] l] [] q) (mFn Qhg (Qa me Qc)):=by
 intro r s Y H Q I ⟨R,A,h,w,T,rh,st,e1,kk⟩;obtain⟨⟨as,h2⟩,e2,e3⟩:=Nc.mp e1;obtain⟨⟨a,n⟩,e4,e5⟩:=Nc.mp e2;obtain⟨⟨bs,h3⟩,e6,e7⟩:=Nc.mp e5;cases e6;cases e7;refine EA (J9 I hg hm ET (NX ?_ (QF rfl) (Jd rfl)) (by decide) (by decide));rw[QF (e:=.Call (.Name "reversed" N) [e] [] l) rfl];refine E8 (EA (J9 I L F boot_reversed (NX ?_ (QF O) (Jd rfl)) (by decide) (by decide)));rw[QF O];refine E8 (thn (he r s Y H (fun v U=>∃R2,Ext R R2/\Rh X.K R2 n U/\Rw X.K R2 a v) I ⟨R,A,h,a,n,rh,st,e4,fun R2 U v x i D=>⟨R2,x,i,D⟩⟩) fun u g ⟨v,H1,I1,ru,R2,x2,i,D⟩=>Dj ?_);obtain⟨ys,e8,e9⟩:=Nd.mp e3;cases e9;obtain⟨ad,M,rfl,q1,r2⟩:=i.lsAt D e8;cases ru;obtain⟨d,rv,E,P⟩:=I1.list q1;have J:=rv.length;refine OS E.isList (Dj ?_);have S:∀b o,g.heap.get? b=some o->(g.heap.push { cls:=.type "list_reverseiterator",data:=.fields #[.ref ad,rawInt ((d.toArray.size:Int)-1)] }).get? b=some o:=fun b o e=>No _ e;have Z:(g.heap.push { cls:=.type "list_reverseiterator",data:=.fields #[.ref ad,rawInt ((d.toArray.size:Int)-1)] }).objs.size=g.heap.objs.size+1:=DI ..;have G:ad<g.heap.objs.size:=let⟨_,ho,_⟩:=E.isList;ND ho
 refine Qit (s:={ g with heap:=g.heap.push { cls:=.type "list_reverseiterator",data:=.fields #[.ref ad,rawInt ((d.toArray.size:Int)-1)] } }) (its:=d.toArray) (I1.ok.hd hc) ⟨_,NB _ rfl,rfl,rfl⟩ (E.isList.at fun o e=>S _ o e) (NG G) (by rw[Nq,<-J];exact P) fun T tk f c kp eL m=>?_
 have hv:Vals M.reverse f.toList:=by
  have:f.toList=d.reverse:=by
   apply Dh;intro j;have n:=m.1;rw[Nq]at n
   by_cases z:j<d.length
   ·have t:j<f.size:=Nk z (Nt n.symm);have:=m.2 j f[j] (NN t);rw[Nq,DB]at this;rw[Eb,NN t,Il z,this]
   ·rw[NY (by simpa[n]using NU.mp z),NY (by simpa using NU.mp z)]
  rw[this];exact Vals.reverse rv
 have hp:=I1.hok.fresh (IX g.heap.objs.size);obtain⟨R3,x3,C,B⟩:=i.new (mo:=.lst ys.reverse) (o:=.lst M.reverse) (p:=g.heap.objs.size+1) hp fun R' x'=>⟨_,rfl,Rws.mono x' _ _ (Rws.reverse r2)⟩
 have y:=eL;rw[Z]at y ⊢;exact⟨.ref (g.heap.objs.size+1),_,I1.laid (t':=tk) (fun b o e=>kp b o (NG (ND e)) (S b o e)) (IX _) (show ObjOk X.prog X.w _ T _ (.lst _)from⟨by rw[E3];exact P,f.toList,c,hv,by rw[y]⟩),rfl,kk R3 _ _ (x2.trans x3) C B⟩
end
end Mi
namespace St
theorem Qhn:isSubtype (.type "tuple") (.type "set")=pure false:=by rw[D9];kernel_rfl
theorem QgG:isSubtype (.type "tuple") (.type "frozenset")=pure false:=by rw[D9];kernel_rfl
section
variable{prog:Program}{w:World}{A:Around}{E:Value->Shared->Prop}{s:Shared}{l:Addr}{items:Array Value}
theorem Qoe{Q:Value->Shared->Prop}(O:A.handled=none)(N:s.heap.IsTuple l items)(F:StrsAre items.toList r)(P:items.size+1<scanBound)
  (h:∀(h':Heap) (tk:Nat),SetL prog w h' s.heap.objs.size (uniq r) (VU w)->(∀b o,b<s.heap.objs.size->s.heap.get? b=some o->h'.get? b=some o)->Q (.ref s.heap.objs.size) { s with heap:=h',toks:=tk }) :
  wpAny (model prog w) A (Builtin.«set.__init__» ⟨[.ref s.heap.objs.size,.ref l],[]⟩) (fun fin y=>fin=.done (.ret .none)/\Q (.ref s.heap.objs.size) y) E { s with heap:=s.heap.push (Qp (VU w)) }:=by
 have hS:(s.heap.push (Qp (VU w))).get? s.heap.objs.size=some (Qp (VU w)):=NB _ rfl;have hT:Shared.TypeIs { s with heap:=s.heap.push (Qp (VU w)) } (.ref s.heap.objs.size) "set":=⟨_,hS,rfl⟩
 obtain⟨ol,j,q,nl,p⟩:=N;obtain⟨I,f,B,a⟩:=ol;simp only at q p;subst q p;have g:(s.heap.push (Qp (VU w))).get? l=some { cls:=.type "tuple",dict:=f,data:=.seq items nl,slots:=a }:=No _ j;have n:(s.heap.push (Qp (VU w))).IsTuple l items:=⟨_,g,rfl,nl,rfl⟩
 have n1:=Qhn;have Z:=QgG;have Y:(Value.type "tuple"==Value.type "dict")=false:=by decide
 unfold Builtin.«set.__init__» noKeywords Builtin.Frozenset.updateFrom;generalize H:pyIter=PI
 wp_walk
 subst H;refine DU n (Na (L9 ?_));have m:l<s.heap.objs.size:=ND j;have d:(s.heap.push (Qp (VU w))).objs.size=s.heap.objs.size+1:=DI _ _;have C:l≠(s.heap.push (Qp (VU w))).objs.size:=by rw[d];exact NG (E1 m)
 have L:s.heap.objs.size∉[(s.heap.push (Qp (VU w))).objs.size,l]:=by
  rw[d];simp only[NE,N5,or_false,not_or];exact⟨NG (N1 _),EO m⟩
 have D:r.length=items.size:=by have:=FO F;rw[N3]at this;exact this.symm
 have M:∀(i:Nat) (v:Value),items[i]?=some v->∃x c,r[i]?=some x/\v=.str x c:=fun i v e=>by
  have J:items.toList[i]?=some v:=by rw[Eb];exact e
  obtain⟨x,c,rfl⟩:=F.all v (NC.mpr ⟨i,J⟩);refine⟨x,c,?_,rfl⟩;rw[<-F.strs,Np,J];rfl
 refine Qli ((Walks.tuple (show A.in1.handled=none by simp[O]) _ l C items).toS) s.heap.objs.size L (VU w) r D M P (items.size-0) 0 _ rfl (NV _) ⟨⟨_,NB _ rfl,rfl,rfl⟩,n.push _⟩ (UM (No _ hS)) fun y t G=>?_;obtain⟨h',R,X,u,z⟩:=y;have T:R=s.gens:=t.gens;have U:X=s.drawn:=t.drawn;have S:z=s.os:=t.os;subst T U S;refine Nj (Nj ⟨rfl,h h' u G fun b o lt e=>?_⟩);refine t.heap b o ?_ (No _ (No _ e));simp only[NE,N5,or_false,not_or];exact⟨NG lt,by rw[d];exact NG (E1 lt)⟩
theorem set_tup(x:A.handled=none)(u:s.heap.IsTuple l items)(v:StrsAre items.toList t)(y:items.size+1<scanBound)
  (h:∀(h':Heap) (tk:Nat),SetL prog w h' s.heap.objs.size (uniq t) (VU w)->(∀b o,b<s.heap.objs.size->s.heap.get? b=some o->h'.get? b=some o)->Q (.ref s.heap.objs.size) { s with heap:=h',toks:=tk }) :
  wpAny (model prog w) A (call (.type "set") [.ref l]) Q E s:=by
 have body:∀(j:Around),j.handled=none->wpAny (model prog w) j (Builtin.«set.__init__» ⟨[.ref s.heap.objs.size,.ref l],[]⟩) (fun fin m=>fin=.done (.ret .none)/\Q (.ref s.heap.objs.size) m) E { s with heap:=s.heap.push (Qp (VU w)) }:=fun j hA=>Qoe hA u v y h;obtain⟨c,C,n⟩:=Ev.mro;have M:=Ev.made;have L:=Ev.sub;refine wpAny_call (LN (show wpAny _ _ (callAny (.type "set") _) _ _ _ from ?_));refine Nj ⟨IZ _ (by decide +kernel),E2 (O9) ?_⟩;rw[OT (Oa "set" [Value.ref l] []) rfl];have J:=Ev.notType;have I:=Ev.canCreate;have H:=F.typeCall_set_1 (Value.ref l)
 repeat (any_goals (first|assumption|wp_step))
 refine DJ (QpT (Value.ref l) (E:=E) (Q₁:=fun obj f=>obj=.ref s.heap.objs.size/\f={ s with heap:=s.heap.push (Qp (VU w)) }) ⟨rfl,rfl⟩) fun r f hr=>?_;cases r with
 |error e=>exact hr
 | ok B=>
  cases B with
  | ret obj=>
   obtain⟨rfl,rfl⟩:=hr;have hS:(s.heap.push (Qp (VU w))).get? s.heap.objs.size=some (Qp (VU w)):=NB _ rfl;have z:Shared.TypeIs { s with heap:=s.heap.push (Qp (VU w)) } (.ref s.heap.objs.size) "set":=⟨_,hS,rfl⟩
   have G:=Ev.init.lookup;have D:=Ev.init.bind (.ref s.heap.objs.size)
   repeat (any_goals (first|assumption|wp_step))
   refine DJ (Os (R:=wants (fun r d=>r=.none/\Q (.ref s.heap.objs.size) d) E) Ev.init.plain F.entry_set_init (check_set_init_1 z (N0 (body _ (by simp[x])) (fun fin m q=>?_) fun _ _ q=>q))) fun i d a=>?_
   ·obtain⟨rfl,q⟩:=q;exact⟨rfl,q⟩
   ·cases i with
    |error e=>exact a
    | ok g=>
     cases g with
     |ret r=>
      obtain⟨rfl,q⟩:=a
      repeat (any_goals (first|assumption|wp_step))
     |_=>exact a.elim
  |_=>exact hr.elim
end
end St
namespace Mi
open L2
def XQ(ws:List W)(h:MH):Option (W×MH):=match ws with
 |[.tup b]=>(txW b).bind fun a=>if a.length<4000/\(St.uniq a).length<64 then some (.ref h.length,h++[.lst ((St.srt (St.uniq a)).map .str)])else none
 |_=>none
noncomputable def QcJ(ns:List Int):Int:=ns.getD (argBest (fun i j=>decide (ns.getD i 0>ns.getD j 0)) (ns.length-1)) 0
def Qe2(ws:List W)(h:MH):Option (W×MH):=match ws with
 |[a]=>(lsW h a).bind fun c=>(Qc3 c).bind fun b=>if 0<b.length then some (.int (QcJ b),h)else none
 |_=>none
section
variable{X:Cx}
theorem UQ{p1 O l g:Pos}(U:X.calm=true)(hg:Gl X "sorted")(hm:X.mg "sorted"=none)(G:Gl X "set")(C:X.mg "set"=none)(he:PM X e me)(T:VX e=false:=by rfl) :
  PM X (.Call (.Name "sorted" p1) [.Call (.Name "set" O) [e] [] g] [] l) (mFn XQ (Qa me Qc)):=by
 intro m s σ H Q I ⟨R,r,h,w,h',rh,st,e1,P⟩;obtain⟨⟨as,h2⟩,e2,q⟩:=Nc.mp e1;obtain⟨⟨a,Y⟩,e4,e5⟩:=Nc.mp e2;obtain⟨⟨bs,h3⟩,e6,e7⟩:=Nc.mp e5;cases e6;cases e7;refine EA (J9 I hg hm boot_sorted (DS ?_ (QF rfl) (Jd rfl)) (by decide) (by decide));rw[QF (e:=.Call (.Name "set" O) [e] [] g) rfl];refine E8 (EA (J9 I G C boot_set (NX ?_ (QF T) (Jd rfl)) (by decide) (by decide)));rw[QF T];refine E8 (thn (he m s σ H (fun v H2=>∃R2,Ext R R2/\Rh X.K R2 Y H2/\Rw X.K R2 a v) I ⟨R,r,h,a,Y,rh,st,e4,fun R2 H2 v x f B=>⟨R2,x,f,B⟩⟩) fun u M ⟨v,H1,I1,ru,R2,x2,f,B⟩=>Dj ?_);unfold XQ at q;split at q
 ·rename_i ys n;simp only at n;cases n;obtain⟨ss,J,j⟩:=Nc.mp q;split at j
  ·rename_i S;cases j;obtain⟨ad,xs,rfl,q1,N⟩:=f.tupAt B;cases ru;rw[Qe9 J]at N;obtain⟨aa,rv,pl,hl⟩:=I1.tuple q1;have hS:=Qeh N rv;have E:=FO hS;refine St.set_tup (I1.ok.hd U) pl (by rw[IQ];exact hS) (by rw[Nq,E];show ss.length+1<4096;lia) fun g1 y i k1=>Dj ?_;refine St.sortedS' (s:={ M with heap:=g1,toks:=y }) (I1.ok.hd U) i S.2 fun D g2 d t vs L c b1 Z b3 k2 F hD=>?_;obtain⟨v1,v2⟩:=Wr (K:=X.K) (R:=R2) b1;have p:M.heap.objs.size<=D:=Nn (Nr i.lt) F;have hp:=I1.hok.fresh p;have eq:=St.srt_eq Z b3;obtain⟨R3,x3,A,z⟩:=f.new (mo:=.lst (L.map .str)) (o:=.lst (L.map V.str)) hp fun R' x'=>⟨_,rfl,(Wr (K:=X.K) (R:=R') b1).2⟩
   rw[eq]at P;refine⟨.ref D,_,Inv.drew (I1.laid (t':=t) (fun b o e=>k2 b o (k1 b o (ND e) e)) p (show ObjOk X.prog X.w _ _ _ (.lst _)from⟨?_,vs,c,v1,hD⟩)) d,rfl,P R3 _ _ (x2.trans x3) A z⟩;rw[Nu,Z.length_eq,DZ];exact Nr (N4 S.2 (by decide))
  ·cases j
 ·cases q
theorem QcL(S:X.calm=true):CallR X (.builtin "max") (Fs X.K Qe2):=by
 intro C s σ H D us Q I r q;obtain⟨R,h,ws,w,U,B,x,e,k⟩:=q;unfold Qe2 at e;split at e
 ·obtain⟨ys,e1,e2⟩:=Nc.mp e;obtain⟨a,Z,z⟩:=Nc.mp e2;split at z
  ·rename_i M;cases z;obtain⟨v,rfl,J⟩:=W8 x;obtain⟨ad,D,rfl,L,G⟩:=B.lsAt J e1;obtain⟨u,rfl,F⟩:=KQ r;cases F;have Y:=GV Z G;subst Y;obtain⟨c,rv,y,hl⟩:=I.list L;have d:c.length=a.length:=by rw[<-rv.length,Nu]
   have n:ad<s.heap.objs.size:=let⟨_,O,_⟩:=y.isList;ND O
   refine call_max_walk (D0 y.isList ⟨s.heap.objs.size,_,_,_,_,_,(fun i j=>decide (a.getD i 0>a.getD j 0)),rfl,Om (show X.A.in1.handled=none by simp[I.ok.hd S]) _ ad (NG n) c.toArray,⟨⟨_,NB _ rfl,rfl,rfl⟩,y.isList.push _⟩,fun b p=>?_,by rw[Nq,d];exact M,CmpOf.ints_gt (fun i=>a.getD i 0) fun i v N=>?_,fun v U tk T P=>?_⟩)
   ·have l:=DI s.heap { cls:=.type "list_iterator",data:=.fields #[.ref ad,.int 0 0] };simp only[NE,N5,or_false]at p
    rcases p with rfl|rfl
    ·exact Nk (N1 _) (Nt l.symm)
    ·exact Nk (E1 n) (Nt l.symm)
   ·have m:c[i]?=some v:=by simpa using N
    have f:=(Nf.mp m).1;rw[d]at f;obtain⟨E,g1,g2⟩:=rv.get (show(a.map V.int)[i]?=some (V.int a[i]) by rw[Np,Nl f];rfl);rw[m]at g1;cases g1;obtain⟨t,rfl⟩:=g2;exact⟨t,by rw[EH,Nl f];rfl⟩
   ·have g:c[argBest (fun i j=>decide (a.getD i 0>a.getD j 0)) (c.toArray.size-1)]?=some v:=by simpa using T
    rw[Nq,d]at g;have f:=(Nf.mp g).1;rw[d]at f
    obtain⟨E,g1,g2⟩:=rv.get (show(a.map V.int)[argBest (fun i j=>decide (a.getD i 0>a.getD j 0)) (a.length-1)]?=some (V.int (QcJ a)) by
     rw[Np,Nl f];unfold QcJ
     rw[EH,Nl f];rfl)
    rw[g]at g1;cases g1;refine⟨.int (QcJ a),H,I.kept (t':=tk) fun b o e=>P b o (fun p=>?_) (No _ e),g2,k R H _ (Ext.refl _) B (by unfold Rw;rfl)⟩;rw[NF.mp p]at e;exact absurd (ND e) (Et _)
  ·cases z
 ·cases e
end
section
variable{p:List Value->Prop}
theorem ar0(h:p [])(us:List Value)(e:us.length=0):p us:=List.eq_nil_of_length_eq_zero e▸h
theorem arS{n:Nat}(h:∀a us,us.length=n->p (a::us)):∀us:List Value,us.length=n+1->p us
 |a::us,e=>h a us (Nat.succ.inj e)
theorem ar1(h:∀a,p [a]):∀us:List Value,us.length=1->p us:=arS fun a=>ar0 (h a)
theorem ar2(h:∀a b,p [a,b]):∀us:List Value,us.length=2->p us:=arS fun a=>ar1 (h a)
theorem ar3(h:∀a b c,p [a,b,c]):∀us:List Value,us.length=3->p us:=arS fun a=>ar2 (h a)
theorem ar4(h:∀a b c d,p [a,b,c,d]):∀us:List Value,us.length=4->p us:=arS fun a=>ar3 (h a)
theorem ar5(h:∀a b c d e,p [a,b,c,d,e]):∀us:List Value,us.length=5->p us:=arS fun a=>ar4 (h a)
theorem ar6(h:∀a b c d e f,p [a,b,c,d,e,f]):∀us:List Value,us.length=6->p us:=arS fun a=>ar5 (h a)
end
end Mi
namespace My
open L2 Mi
set_option maxHeartbeats 4000000
local macro_rules|`(tactic|walk_at $s:str)=>do
 let l:=s.getString.toList
 if l.head? != some '~'then Lean.Macro.throwUnsupported
 let mut r:Array (Lean.TSyntax `tactic):=#[]
 let mut f:=false
 for c in l.tail do
  if c=='!'then f:=true
  else
   r:=r.push (<-match f,c with
    |false,'#'=>`(tactic|refine Qgf ?_ ?_)
    |false,'$'=>`(tactic|exact rfl)
    |false,'%'=>`(tactic|exact Qly _)
    |false,'&'=>`(tactic|first|exact .inl rfl|exact .inr rfl)
    |false,'('=>`(tactic|refine Qg0 (by assumption) ?_ ?_ ?_ ?_ ?_ ?_ ?_)
    |false,')'=>`(tactic|exact QiL)
    |false,'*'=>`(tactic|refine QfV ?_ ?_)
    |false,'+'=>`(tactic|exact Qk6)
    |false,','=>`(tactic|refine Qn8 ?_ ?_)
    |false,'-'=>`(tactic|refine Qkq ?_ ?_ ?_ ?_ ?_ ?_)
    |false,'.'=>`(tactic|refine Qi0 ?_)
    |false,'/'=>`(tactic|exact $(Lean.mkIdent `hr.mono) (by decide))
    |false,'0'=>`(tactic|refine ZS Qfu QD ?_ ?_ PySem.boot_len ?_ ?_ ?_ ?_ ?_)
    |false,'1'=>`(tactic|decide)
    |false,'2'=>`(tactic|refine Qn (QhZ ?_) Qk ?_ ?_)
    |false,'3'=>`(tactic|refine Qkg ?_)
    |false,'4'=>`(tactic|exact(Or.inl rfl))
    |false,'5'=>`(tactic|refine JH QjR Qk ?_ ?_)
    |false,'6'=>`(tactic|refine Y5 N7 Iw PySem.F.type_list_append Qcu ?_ ?_)
    |false,'7'=>`(tactic|refine QkN ?_ ?_ ?_)
    |false,'8'=>`(tactic|refine Zq $(Lean.mkIdent `nd_) rfl (Or.inl rfl) ?_ ?_)
    |false,'9'=>`(tactic|refine Qlp ?_)
    |false,':'=>`(tactic|exact Qbr (by dsimp only[blk];decide +kernel) rfl (Or.inl rfl))
    |false,';'=>`(tactic|exact $(Lean.mkIdent `nd_))
    |false,'<'=>`(tactic|assumption)
    |false,'='=>`(tactic|refine Qkj ?_ ?_ ?_ ?_ ?_ ?_)
    |false,'>'=>`(tactic|have $(Lean.mkIdent `hu):ident:=$(Lean.mkIdent `hr.units))
    |false,'?'=>`(tactic|exact $(Lean.mkIdent `hu))
    |false,'@'=>`(tactic|exact fun _=>rfl)
    |false,'A'=>`(tactic|exact Qjm)
    |false,'B'=>`(tactic|exact PassesOwn.never)
    |false,'C'=>`(tactic|exact Qbr $(Lean.mkIdent `nd_) rfl (Or.inl rfl))
    |false,'D'=>`(tactic|refine ZN Qbk QD ?_ ?_ FT ?_ ?_ ?_ ?_ ?_)
    |false,'E'=>`(tactic|refine QkF ?_)
    |false,'F'=>`(tactic|exact Qmp)
    |_,_=>Lean.Macro.throwUnsupported)
   f:=false
 `(tactic|($[$r]*))
noncomputable def top(i:Nat):Stmt:=LC.main.body.getD i (.Pass ⟨0,0,0,0⟩)
section
variable{P:Program}{w:World}{K:Ng}{mg:Str->Option Value}{base:Heap}
abbrev VD:Stmt:=top 35
theorem YL:FnScope ["feed","many","found"] ["feed","many"] (Qg VD):=⟨rfl,rfl,rfl,by decide +kernel,rfl,by decide +kernel,by decide +kernel⟩
def ZD:FM:=Qz 1
  (Qm (Zt (Qj (Qe wGt (Qe wIx (Qb 0) (mC (.int 0))) (mC (.int 0)))) (Qm (QK 2 (Qe Qdz (Qe wIx (Qb 0) (mC (.int 0))) (Qb 1)))
  (Qm (QfK (Qb 0) (mC (.int 0)) (Qe Qjq (Qe wIx (Qb 0) (mC (.int 0))) (Qb 1)))
  (QR (Qb 2)))) Qw)
  (Qm (QfK (Qb 0) (mC (.int 1)) (Qe Qdz (Qe Zj (Qe Yi (Qe wIx (Qb 0) (mC (.int 1))) (mC (.int 69621))) (mC (.int 12345))) (mC (.int 2147483647))))
  (QR (Qe Qdz (Qe Qjq (Qe wIx (Qb 0) (mC (.int 1))) (mC (.int 8191))) (Qb 1)))))
theorem Gp(d:DefAt K mg "_law_take" VD ["feed","many"]):Cal P w K mg base 1 "_law_take" ["feed","many"] ZD:=by
 refine Qs (k:=0) (more:=1) d YL rfl fun _ _ _ _ _ _ _ hr=>?_;have nd_:=(YL).nd
 walk_at"~>*7"
 refine Qn XR Qk ?_ ?_
 walk_at"~,%++*-;$4"
 refine JH Yt Qk ?_ ?_
 walk_at"~,%+%$&*"
 refine KG ?_ ?_ ?_ ?_ ?_ ?_
 walk_at"~%+"
 refine JH Qfd Qk ?_ ?_
 walk_at"~,%+%@$$.3%A*"
 refine KG ?_ ?_ ?_ ?_ ?_ ?_
 walk_at"~%+"
 refine JH Yt Qk ?_ ?_
 walk_at"~5"
 refine JH Kg Qk ?_ ?_
 walk_at"~,%++++@$$.3"
 refine JH Yt Qk ?_ ?_;refine JH Qfd Qk ?_ ?_
 walk_at"~,%++%"
def Qf:FM:=box frN ZD
abbrev Zw:Stmt:=top 36
theorem K4:FnScope ["feed","many","letters","filler","first","step","size","place","back"] ["feed","many"] (Qg Zw):=⟨rfl,rfl,rfl,by decide +kernel,rfl,by decide +kernel,by decide +kernel⟩
def JF:FM:=Qz 7
  (Qm (QK 2 (mC (.str "abcdefghijklmnopqrstuvwxyz")))
  (Qm (QK 3 (Qe wIx (Qb 2) (Qi 2 Qf (Qa (Qb 0) (Qa (mC (.int 26)) Qc)))))
  (Qm (Zt (Qj (Qe wEq (Qi 2 Qf (Qa (Qb 0) (Qa (mC (.int 3)) Qc))) (mC (.int 0)))) (QR (QN Jn (Wi (Qa (Qb 1) Qc)) [none,some 3] (Q2 0) Kl (Qe Yi (Qb 1) (Qe Zj (Qb 0) (mC (.int 1)))))) Qw)
  (Qm (QK 4 (Qi 2 Qf (Qa (Qb 0) (Qa (mC (.int 26)) Qc))))
  (Qm (QK 5 (Qe wIx (mFn Vq (Qa (mC (.int 1)) (Qa (mC (.int 3)) (Qa (mC (.int 5)) (Qa (mC (.int 7)) (Qa (mC (.int 9)) (Qa (mC (.int 11)) Qc))))))) (Qi 2 Qf (Qa (Qb 0) (Qa (mC (.int 6)) Qc)))))
  (Qm (QK 6 (Qe wIx (mFn Vq (Qa (mC (.int 1)) (Qa (mC (.int 3)) (Qa (mC (.int 4)) (Qa (mC (.int 5)) (Qa (mC (.int 6)) (Qa (mC (.int 7)) (Qa (mC (.int 8)) (Qa (mC (.int 1)) Qc))))))))) (Qi 2 Qf (Qa (Qb 0) (Qa (mC (.int 8)) Qc)))))
  (Qm (QK 7 (Qi 2 Qf (Qa (Qb 0) (Qa (Qb 6) Qc))))
  (Qm (QK 8 (Qe Yi (Qb 3) (Qe QbS (Qe QbS (Qb 6) (mC (.int 1))) (Qb 7))))
  (QR (QN Jn (Wi (Qa (Qb 1) Qc)) [none,some 8,some 3,some 7,some 2,some 4,some 5] (Q2 0) Kl (Qe Zj (Qe Zj (Qe Yi (Qb 2) (Qb 3)) (Qe wIx (Qb 4) (Qe Qdz (Qe Zj (Qb 5) (Qe Yi (Qb 6) (Qb 0))) (mC (.int 26))))) (Qb 1))))))))))))
theorem Uc(d:DefAt K mg "_law_names" Zw ["feed","many"])(b_range:mg "range"=none)(c__law_take:Cal P w K mg base 1 "_law_take" ["feed","many"] Qf):Cal P w K mg base 2 "_law_names" ["feed","many"] JF:=by
 refine Qs (k:=1) (more:=7) d K4 rfl fun _ _ _ _ _ _ _ hr=>?_;have nd_:=(K4).nd
 walk_at"~>*-;$"
 exact(Or.inr rfl)
 walk_at"~F$&*-;$"
 exact(Or.inr rfl)
 walk_at"~,%(/$#%#+)$1$$$&*72?(/$#%#+)$1$$+.3"
 refine JA Q4 ?_ (XS (ks:=["filler"]) (Nb:=["k","filler"]) (cp:=[none,some 3]) (N:=["feed","many","letters","filler","first","step","size","place","back"]) (xs:=(Qg Zw)) rfl rfl (by decide +kernel) rfl (by decide +kernel) (by intro p hp;simp only[NE,N5,or_false]at hp;rcases hp with rfl<;>rfl) rfl rfl rfl (by decide +kernel)) ?_ (fun _ _ _ _ _=>?_) (fun _ _ _ _ _=>?_)
 walk_at"~$"
 refine Kx ?_ ?_ ?_ ?_
 walk_at"~$<#%)$:"
 refine JH Kg Qk ?_ ?_
 walk_at"~%5%+A*-;$"
 exact(Or.inr rfl)
 walk_at"~(/$#%#+)$1$$$&*-;$"
 exact(Or.inr rfl)
 walk_at"~,E#+#+#+#+#+#+)(/$#%#+)$1$$$&*-;$4,E#+#+#+#+#+#+#+#+)(/$#%#+)$1$$$&*-;$"
 exact(Or.inr rfl)
 walk_at"~(/$#%#%)$1$$$&*-;$"
 exact(Or.inr rfl);refine JH Kg Qk ?_ ?_
 walk_at"~%"
 refine JH Xa Qk ?_ ?_;refine JH Xa Qk ?_ ?_
 walk_at"~%+%$&.3"
 refine JA Q4 ?_ (XS (ks:=["step","place","letters","first","filler","back"]) (Nb:=["k","back","filler","place","letters","first","step"]) (cp:=[none,some 8,some 3,some 7,some 2,some 4,some 5]) (N:=["feed","many","letters","filler","first","step","size","place","back"]) (xs:=(Qg Zw)) rfl rfl (by decide +kernel) rfl (by decide +kernel) (by intro p hp;simp only[NE,N5,or_false]at hp;rcases hp with rfl|rfl|rfl|rfl|rfl|rfl<;>rfl) rfl rfl rfl (by decide +kernel)) ?_ (fun _ _ _ _ _=>?_) (fun _ _ _ _ _=>?_)
 walk_at"~$"
 refine Kx ?_ ?_ ?_ ?_
 walk_at"~$<#%)$:55"
 refine JH Kg Qk ?_ ?_
 walk_at"~%%,%"
 refine JH Yt Qk ?_ ?_
 walk_at"~5%"
 refine JH Kg Qk ?_ ?_
 walk_at"~%%+%"
def Z3:FM:=box frN JF
abbrev Z6:Stmt:=top 38
theorem X4:FnScope ["lines","opened"] ["lines","opened"] (Qg Z6):=⟨rfl,rfl,rfl,by decide +kernel,rfl,by decide +kernel,by decide +kernel⟩
def ZP:FM:=Qz 0
  (Zt (Qj (Qe wEq (Qe wIx (Qb 1) (mUn KN (mC (.int 1)))) (mC (.str "either")))) (Qm (Jb (mMt "list" QY (Qb 0) (Qa (mFn QU (Qa (mC (.str "or")) Qc)) Qc)))
  (QfK (Qb 1) (mUn KN (mC (.int 1))) (mC (.str "or")))) (Qm (Jb (mMt "list" QY (Qb 0) (Qa (mFn QU (Qa (mC (.str "end")) Qc)) Qc)))
  (Jb (mMt "list" Qj2 (Qb 1) Qc))))
theorem YY(d:DefAt K mg "_law_step_on" Z6 ["lines","opened"]):Cal P w K mg base 1 "_law_step_on" ["lines","opened"] ZP:=by
 refine Qs (k:=0) (more:=0) d X4 rfl fun _ _ _ _ _ _ _ hr=>?_;have nd_:=(X4).nd
 walk_at"~>.72?,%"
 refine Zo ?_
 walk_at"~+F*"
 refine Qx ?_
 walk_at"~6%#9#F))."
 refine KG ?_ ?_ ?_ ?_ ?_ ?_
 walk_at"~%"
 refine Zo ?_
 walk_at"~+F@$$*"
 refine Qx ?_
 walk_at"~6%#9#F))."
 refine Qx ?_;refine Qcc N7 DH Fa Ga ?_
 walk_at"~%"
def QT:FM:=box frN ZP
abbrev JX:Stmt:=top 37
theorem K7:FnScope ["feed","boxes","words","way","x","y","z"] ["feed","boxes","words"] (Qg JX):=⟨rfl,rfl,rfl,by decide +kernel,rfl,by decide +kernel,by decide +kernel⟩
def Jx:FM:=Qz 4
  (Qm (QK 3 (Qi 2 Qf (Qa (Qb 0) (Qa (mC (.int 10)) Qc))))
  (Qm (QK 4 (Qe wIx (Qb 1) (Qi 2 Qf (Qa (Qb 0) (Qa (mFn JB (Qa (Qb 1) Qc)) Qc)))))
  (Qm (QK 5 (Qe wIx (Qb 1) (Qi 2 Qf (Qa (Qb 0) (Qa (mFn JB (Qa (Qb 1) Qc)) Qc)))))
  (Qm (Zt (Qj (Qe wLt (Qb 3) (mC (.int 4)))) (Qm (QK 6 (Qe wIx (Qb 1) (Qi 2 Qf (Qa (Qb 0) (Qa (mFn JB (Qa (Qb 1) Qc)) Qc)))))
  (QR (mFn QU (Qa (mC (.str "pair")) (Qa (Qb 4) (Qa (Qe wIx (Qb 2) (Qi 2 Qf (Qa (Qb 0) (Qa (mFn JB (Qa (Qb 2) Qc)) Qc)))) (Qa (Qb 5) (Qa (Qb 6) Qc)))))))) Qw)
  (QR (Qe wIx (mFn Vq (Qa (mFn QU (Qa (mC (.str "first")) (Qa (Qb 4) (Qa (Qb 5) Qc)))) (Qa (mFn QU (Qa (mC (.str "second")) (Qa (Qb 4) (Qa (Qb 5) Qc)))) (Qa (mFn QU (Qa (mC (.str "same")) (Qa (Qb 4) (Qa (Qb 5) Qc)))) (Qa (mFn QU (Qa (mC (.str "none")) (Qa (Qb 4) Qc))) (Qa (mFn QU (Qa (mC (.str "tell")) (Qa (Qb 5) Qc))) (Qa (mFn QU (Qa (mC (.str "tell")) (Qa (Qb 4) Qc))) Qc))))))) (Qe QbS (Qb 3) (mC (.int 4)))))))))
theorem Ug(d:DefAt K mg "_law_plain" JX ["feed","boxes","words"])(b_len:mg "len"=none)(c__law_take:Cal P w K mg base 1 "_law_take" ["feed","many"] Qf):Cal P w K mg base 2 "_law_plain" ["feed","boxes","words"] Jx:=by
 refine Qs (k:=1) (more:=4) d K7 rfl fun _ _ _ _ _ _ _ hr=>?_;have nd_:=(K7).nd
 walk_at"~>*-;$4(/$#%#+)$1$$$&*-;$4,%(/$#%#0$<#%)11$$)$1$$$&*-;$4,%(/$#%#0$<#%)11$$)$1$$$&*7"
 refine Qn XO Qk ?_ ?_
 walk_at"~%+*-;$4,%(/$#%#0$<#%)11$$)$1$$$&.39#F#%#,%(/$#%#0$<#%)11$$)$1$$#%#%)A.3,E#9#F#%#%)#9#F#%#%)#9#F#%#%)#9#F#%)#9#F#%)#9#F#%))"
 refine JH Xa Qk ?_ ?_
 walk_at"~%+"
def Xo:FM:=box frN Jx
abbrev Vy:Stmt:=top 39
theorem YK:FnScope ["feed","size","menus","later","opens","dos","lines","opened","k","way"] ["feed","size","menus","later","opens","dos"] (Qg Vy):=⟨rfl,rfl,rfl,by decide +kernel,rfl,by decide +kernel,by decide +kernel⟩
abbrev JG:SM:=(Qm (QK 9 (Qi 2 Qf (Qa (Qb 0) (Qa (mC (.int 14)) Qc))))
  (Zt (J4 (Qj (Qe wLt (Qb 9) (mC (.int 3)))) (Qj (Qe wGt (Qb 4) (mC (.int 0))))) (Qm (Jb (mMt "list" QY (Qb 7) (Qa (Qe wIx (mFn Vq (Qa (mC (.str "either")) (Qa (mC (.str "again")) (Qa (mC (.str "either")) Qc)))) (Qb 9)) Qc)))
  (Qm (Jb (mMt "list" QY (Qb 6) (Qa (mFn QU (Qa (Qe wIx (Qb 7) (mUn KN (mC (.int 1)))) Qc)) Qc)))
  (QK 4 (Qe QbS (Qb 4) (mC (.int 1)))))) (Zt (J4 (Qj (Qe wLt (Qb 9) (mC (.int 6)))) (Qj (Qe wGt (mFn JB (Qa (Qb 7) Qc)) (mC (.int 0))))) (Jb (Qi 2 QT (Qa (Qb 6) (Qa (Qb 7) Qc)))) (Zt (J4 (Qj (Qe (wIn false) (Qb 9) (mFn Vq (Qa (mC (.int 6)) (Qa (mC (.int 7)) Qc))))) (J4 (Qj (Qe wGt (Qb 5) (mC (.int 0)))) (Qj (Qe wGt (mFn JB (Qa (Qb 3) Qc)) (mC (.int 0)))))) (Qm (Jb (mMt "list" QY (Qb 6) (Qa (mFn QU (Qa (mC (.str "do")) (Qa (Qe wIx (Qb 3) (Qi 2 Qf (Qa (Qb 0) (Qa (mFn JB (Qa (Qb 3) Qc)) Qc)))) Qc))) Qc)))
  (QK 5 (Qe QbS (Qb 5) (mC (.int 1))))) (Jb (mMt "list" QY (Qb 6) (Qa (Qi 3 Xo (Qa (Qb 0) (Qa (Qe wIx (Qb 2) (mC (.int 0))) (Qa (Qe wIx (Qb 2) (mC (.int 1))) Qc)))) Qc)))))))
abbrev Kr:SM:=(Jb (Qi 2 QT (Qa (Qb 6) (Qa (Qb 7) Qc))))
def V8:FM:=Qz 4
  (Qm (QK 6 (mFn Yq Qc))
  (Qm (QK 7 (mFn Yq Qc))
  (Qm (Zm (Wi (Qa (Qb 1) Qc)) (Q2 8)
  JG)
  (Qm (QP (Qj (Qe wGt (mFn JB (Qa (Qb 7) Qc)) (mC (.int 0)))) Kr 1000000)
  (QR (mFn JS (Qa (Qb 6) Qc)))))))
theorem UY(d:DefAt K mg "_law_part" Vy ["feed","size","menus","later","opens","dos"])(b_len:mg "len"=none)(b_range:mg "range"=none)(b_tuple:mg "tuple"=none)(c__law_plain:Cal P w K mg base 2 "_law_plain" ["feed","boxes","words"] Xo)(c__law_step_on:Cal P w K mg base 1 "_law_step_on" ["lines","opened"] QT)(c__law_take:Cal P w K mg base 1 "_law_take" ["feed","many"] Qf):Cal P w K mg base 3 "_law_part" ["feed","size","menus","later","opens","dos"] V8:=by
 refine Qs (k:=2) (more:=4) d YK rfl fun _ _ _ _ _ _ _ hr=>?_;have nd_:=(YK).nd
 walk_at"~>*-;$4"
 refine Z8 ?_
 walk_at"~)$&*-;$4"
 refine Z8 ?_
 walk_at"~)$&*=B$"
 refine Kx ?_ ?_ ?_ ?_
 walk_at"~$<#%)$C*-;$4(/$#%#+)$1$$$&.7"
 refine PMW.pt ?_;refine Jg ?_ ?_;refine Qn XO Qk ?_ ?_
 walk_at"~%+"
 refine ZU ?_;refine Qn XR Qk ?_ ?_
 walk_at"~%+*"
 refine Qx ?_
 walk_at"~6%#,E#F#F#F)%)*"
 refine Qx ?_
 walk_at"~6%#9#,%"
 refine Zo ?_
 walk_at"~+)).-;$4"
 refine JH Xa Qk ?_ ?_
 walk_at"~%+$&.7"
 refine PMW.pt ?_;refine Jg ?_ ?_;refine Qn XO Qk ?_ ?_
 walk_at"~%+"
 refine ZU ?_;refine Qn XR Qk ?_ ?_
 walk_at"~0$<#%)11$$+."
 refine Qx ?_
 walk_at"~(/$#%#%)$1$$.7"
 refine PMW.pt ?_;refine Jg ?_ ?_;refine Qn (Qbs ?_) Qk ?_ ?_
 walk_at"~?%E#+#+)"
 refine Jg ?_ ?_;refine Qn XR Qk ?_ ?_
 walk_at"~%+"
 refine ZU ?_;refine Qn XR Qk ?_ ?_
 walk_at"~0$<#%)11$$+*"
 refine Qx ?_
 walk_at"~6%#9#F#,%(/$#%#0$<#%)11$$)$1$$)).-;$4"
 refine JH Xa Qk ?_ ?_
 walk_at"~%+$&."
 refine Qx ?_
 walk_at"~6%#(/$#%#,%+#,%+)$1$$)@*"
 refine W4 1000000 ?_ ?_ ?_
 walk_at"~B"
 refine Qn XR Qk ?_ ?_
 walk_at"~0$<#%)11$$+."
 refine Qx ?_
 walk_at"~(/$#%#%)$1$$.3D$<#%)11$$"
def VJ:FM:=box frN V8
abbrev Z2:Stmt:=top 40
theorem XU:FnScope ["feed","bounds","menus","names","size","found","k"] ["feed","bounds"] (Qg Z2):=⟨rfl,rfl,rfl,by decide +kernel,rfl,by decide +kernel,by decide +kernel⟩
abbrev VY:SM:=(Jb (mMt "list" QY (Qb 5) (Qa (mFn QU (Qa (Qe wIx (Qb 3) (Qb 6)) (Qa (Qi 6 VJ (Qa (Qb 0) (Qa (Qi 2 Qf (Qa (Qb 0) (Qa (mC (.int 4)) Qc))) (Qa (Qb 2) (Qa (mSl (Qb 3) (Ju (Qe Zj (Qb 6) (mC (.int 1)))) Vk) (Qa (mC (.int 1)) (Qa (mC (.int 1)) Qc))))))) Qc))) Qc)))
def JP:FM:=Qz 5
  (Qm (QK 2 (mFn QU (Qa (Qi 2 Z3 (Qa (Qb 0) (Qa (Qe Zj (mC (.int 1)) (Qi 2 Qf (Qa (Qb 0) (Qa (Qe wIx (Qb 1) (mC (.int 0))) Qc)))) Qc))) (Qa (Qi 2 Z3 (Qa (Qb 0) (Qa (Qe Zj (mC (.int 1)) (Qi 2 Qf (Qa (Qb 0) (Qa (Qe wIx (Qb 1) (mC (.int 1))) Qc)))) Qc))) Qc))))
  (Qm (QK 3 (Qi 2 Z3 (Qa (Qb 0) (Qa (Qe Zj (mC (.int 1)) (Qi 2 Qf (Qa (Qb 0) (Qa (Qe wIx (Qb 1) (mC (.int 2))) Qc)))) Qc))))
  (Qm (QK 4 (Qe QbS (Qe wIx (Qb 1) (mC (.int 3))) (Qi 2 Qf (Qa (Qb 0) (Qa (mC (.int 3)) Qc)))))
  (Qm (Zt (Qj (Qe wEq (Qi 2 Qf (Qa (Qb 0) (Qa (mC (.int 4)) Qc))) (mC (.int 0)))) (QK 4 (Qi 2 Qf (Qa (Qb 0) (Qa (Qe Zj (Qb 4) (mC (.int 1))) Qc)))) Qw)
  (Qm (QK 5 (mFn Yq (Qa (mFn QU (Qa (Qe wIx (Qb 3) (mC (.int 0))) (Qa (Qi 6 VJ (Qa (Qb 0) (Qa (Qb 4) (Qa (Qb 2) (Qa (mSl (Qb 3) (Ju (mC (.int 1))) Vk) (Qa (mC (.int 2)) (Qa (mC (.int 2)) Qc))))))) Qc))) Qc)))
  (Qm (Zm (QgA (Qa (mC (.int 1)) (Qa (mFn JB (Qa (Qb 3) Qc)) Qc))) (Q2 6)
  VY)
  (QR (mFn JS (Qa (Qb 5) Qc)))))))))
theorem YZ(d:DefAt K mg "_law_program" Z2 ["feed","bounds"])(b_len:mg "len"=none)(b_range:mg "range"=none)(b_tuple:mg "tuple"=none)(c__law_names:Cal P w K mg base 2 "_law_names" ["feed","many"] Z3)(c__law_part:Cal P w K mg base 3 "_law_part" ["feed","size","menus","later","opens","dos"] VJ)(c__law_take:Cal P w K mg base 1 "_law_take" ["feed","many"] Qf):Cal P w K mg base 4 "_law_program" ["feed","bounds"] JP:=by
 refine Qs (k:=3) (more:=5) d XU rfl fun _ _ _ _ _ _ _ hr=>?_;have nd_:=(XU).nd
 walk_at"~>*-;$49#(/$#%#5+(/$#%#,%+)$1$$)$1$$#(/$#%#5+(/$#%#,%+)$1$$)$1$$)$&*-;$4(/$#%#5+(/$#%#,%+)$1$$)$1$$$&*-;$4"
 refine JH Xa Qk ?_ ?_
 walk_at"~,%+(/$#%#+)$1$$$&*72?(/$#%#+)$1$$+.-;$4(/$#%#5%+)$1$$$&A*-;$4"
 refine Z8 ?_
 walk_at"~#9#,%+#(/$#%#%#%#"
 refine Zk ?_ ?_ ?_
 walk_at"~%"
 refine Q9 ?_
 walk_at"~+"
 exact ZC
 walk_at"~#+#+)$1$$))$&*=B$"
 refine Qih ?_ ?_ ?_ ?_ ?_
 walk_at"~$<#+#0$<#%)11$$)$$C."
 refine Qx ?_
 walk_at"~6%#9#,%%#(/$#%#(/$#%#+)$1$$#%#"
 refine Zk ?_ ?_ ?_
 walk_at"~%"
 refine Q9 ?_
 walk_at"~5%+"
 exact ZC
 walk_at"~#+#+)$1$$))@.3D$<#%)11$$"
def Vn:FM:=box frN JP
abbrev VC:Stmt:=top 34
theorem YU:FnScope ["script","k","cell","digits"] ["script","k"] (Qg VC):=⟨rfl,rfl,rfl,by decide +kernel,rfl,by decide +kernel,by decide +kernel⟩
def Ji:FM:=Qz 2
  (Qm (QK 2 (mC (.int 0)))
  (Qm (Zt (Qj (Qe wLt (Qb 1) (mFn JB (Qa (Qb 0) Qc)))) (QK 2 (Qe wIx (Qb 0) (Qb 1))) Qw)
  (Qm (QK 3 (mC (.int 0)))
  (Qm (Zt (Qj (Qe wGe (Qb 2) (Qe Qkl (mC (.int 10)) (mC (.int 18))))) (QK 3 (Qe QbS (Qb 2) (Qe Qkl (mC (.int 10)) (mC (.int 18))))) Qw)
  (QR (mFn Yq (Qa (Qb 3) (Qa (Qe Zj (Qe Qdz (Qe Yi (Qe Qdz (Qb 2) (mC (.int 2147483647))) (mC (.int 48271))) (mC (.int 2147483647))) (Qb 1)) Qc))))))))
theorem GB(d:DefAt K mg "_law_feed" VC ["script","k"])(b_len:mg "len"=none):Cal P w K mg base 1 "_law_feed" ["script","k"] Ji:=by
 refine Qs (k:=0) (more:=2) d YU rfl fun _ _ _ _ _ _ _ hr=>?_;have nd_:=(YU).nd
 walk_at"~>*-;$4+$&*7"
 refine Qn XO Qk ?_ ?_
 walk_at"~%0$<#%)11$$.-;$4,%%$&A*-;$4+$&*7"
 refine Qn Qmd Qk ?_ ?_
 walk_at"~%"
 refine JH Qdq Qk ?_ ?_
 walk_at"~++.-;$4"
 refine JH Xa Qk ?_ ?_
 walk_at"~%"
 refine JH Qdq Qk ?_ ?_
 walk_at"~++$&A.3"
 refine Z8 ?_
 walk_at"~#%#5"
 refine JH Yt Qk ?_ ?_;refine JH Kg Qk ?_ ?_;refine JH Yt Qk ?_ ?_
 walk_at"~%+++%)"
def Z0:FM:=box frR Ji
abbrev JY:Stmt:=top 44
theorem Yb:FnScope ["program","found","name","lines"] ["program"] (Qg JY):=⟨rfl,rfl,rfl,by decide +kernel,rfl,by decide +kernel,by decide +kernel⟩
abbrev XA:SM:=(Jb (mMt "list" WY (Qb 1) (Qa (QN Jn (Qo (Qb 3)) [none] (Q2 0) (Qj (Qe wEq (Qe wIx (Qb 0) (mC (.int 0))) (mC (.str "pair")))) (Qe wIx (Qb 0) (mC (.int 2)))) Qc)))
def VO:FM:=Qz 3
  (Qm (QK 1 (mFn Yq Qc))
  (Qm (Zm (Qo (Qb 0)) (Zb [2,3])
  XA)
  (QR (mFn Vc (Qa (Qb 1) Qc)))))
theorem Uj(d:DefAt K mg "_law_words" JY ["program"])(b_set:mg "set"=none)(b_sorted:mg "sorted"=none):Cal P w K mg base 1 "_law_words" ["program"] VO:=by
 refine Qs (k:=0) (more:=3) d Yb rfl fun _ _ _ _ _ _ _ hr=>?_;have nd_:=(Yb).nd
 walk_at"~>*-;$4"
 refine Z8 ?_
 walk_at"~)$&*=B$"
 refine QB ?_
 walk_at"~%"
 refine Q1 ?_ ?_ ?_ ?_
 walk_at"~$88"
 exact Q0
 walk_at"~&&$$."
 refine Qx ?_;refine Y5 N7 Ds FH UH ?_ ?_
 walk_at"~%#"
 refine Vt Q4 ?_ (ZI (Nb:=["line"]) (cp:=[none]) rfl (by decide +kernel) (by decide +kernel) rfl rfl) ?_ (fun _ _ _ _ _=>?_) (fun _ _ _ _ _=>?_) (fun _ _ _ _ _=>?_)
 walk_at"~$"
 refine QB ?_
 walk_at"~%:2?,%+F,%+)@.3"
 refine YT ?_ ?_ ?_ ?_ ?_ ?_ ?_
 walk_at"~$$<$<%$"
def QI:FM:=box frN VO
abbrev ZL:Stmt:=top 45
theorem Kt:FnScope ["program","feed","places","number","part","words","way","one","found","word","place"] ["program","feed"] (Qg ZL):=⟨rfl,rfl,rfl,by decide +kernel,rfl,by decide +kernel,by decide +kernel⟩
abbrev JN:SM:=(Jb (mMt "list" WY (Qb 2) (Qa (QN Jn (Wi (Qa (Qe Zj (mFn JB (Qa (Qe wIx (Qb 4) (mC (.int 1))) Qc)) (mC (.int 1))) Qc)) [none,some 3] (Q2 0) Kl (mFn QU (Qa (Qb 1) (Qa (Qb 0) Qc)))) Qc)))
abbrev ZQ:SM:=(Zt (GK (J4 (Qj (Qe wEq (Qb 6) (mC (.int 0)))) (Qj (Qe wEq (Qb 10) (Qb 7)))) (J4 (Qj (Qe wGt (Qb 6) (mC (.int 1)))) (Qj (Qe wEq (Qi 2 Qf (Qa (Qb 1) (Qa (Qe Zj (mC (.int 2)) (Qb 6)) Qc))) (mC (.int 0)))))) (Jb (mMt "list" QY (Qb 8) (Qa (mFn QU (Qa (Qb 9) (Qa (Qb 10) Qc))) Qc))) Qw)
abbrev Xw:SM:=(Zm (Qo (Qb 2)) (Q2 10)
  ZQ)
def Vb:FM:=Qz 9
  (Qm (QK 2 (mFn Yq Qc))
  (Qm (Zm (QbM (Qa (Qb 0) Qc)) (Zb [3,4])
  JN)
  (Qm (QK 5 (Qi 1 QI (Qa (Qb 0) Qc)))
  (Qm (QK 6 (Qi 2 Qf (Qa (Qb 1) (Qa (mC (.int 6)) Qc))))
  (Qm (QK 7 (Qe wIx (Qb 2) (Qi 2 Qf (Qa (Qb 1) (Qa (mFn JB (Qa (Qb 2) Qc)) Qc)))))
  (Qm (QK 8 (mFn Yq Qc))
  (Qm (Zm (Qo (Qb 5)) (Q2 9)
  Xw)
  (QR (Qb 8)))))))))
theorem WX(d:DefAt K mg "_law_manner" ZL ["program","feed"])(b_enumerate:mg "enumerate"=none)(b_len:mg "len"=none)(b_range:mg "range"=none)(c__law_take:Cal P w K mg base 1 "_law_take" ["feed","many"] Qf)(c__law_words:Cal P w K mg base 1 "_law_words" ["program"] QI):Cal P w K mg base 2 "_law_manner" ["program","feed"] Vb:=by
 refine Qs (k:=1) (more:=9) d Kt rfl fun _ _ _ _ _ _ _ hr=>?_;have nd_:=(Kt).nd
 walk_at"~>*-;$4"
 refine Z8 ?_
 walk_at"~)$&*=B$"
 refine Qgj ?_ ?_ ?_ ?_
 walk_at"~$<#%)$"
 refine Q1 ?_ ?_ ?_ ?_
 walk_at"~$"
 refine Zq (i:=3) (x:="number") nd_ rfl (Or.inr rfl) ?_ ?_
 walk_at"~8"
 exact Q0
 walk_at"~&&$$."
 refine Qx ?_;refine Y5 N7 Ds FH UH ?_ ?_
 walk_at"~%#"
 refine JA Q4 ?_ (XS (ks:=["number"]) (Nb:=["gap","number"]) (cp:=[none,some 3]) (N:=["program","feed","places","number","part","words","way","one","found","word","place"]) (xs:=(Qg ZL)) rfl rfl (by decide +kernel) rfl (by decide +kernel) (by intro p hp;simp only[NE,N5,or_false]at hp;rcases hp with rfl<;>rfl) rfl rfl rfl (by decide +kernel)) ?_ (fun _ _ _ _ _=>?_) (fun _ _ _ _ _=>?_)
 walk_at"~$"
 refine Kx ?_ ?_ ?_ ?_
 walk_at"~$<#50$<#,%+)11$$+)$:9#%#%))@*-;$4(/$#%)$1$$$&*-;$4(/$#%#+)$1$$$&*-;$4,%(/$#%#0$<#%)11$$)$1$$$&*-;$4"
 refine Z8 ?_
 walk_at"~)$&*=B$"
 refine QB ?_
 walk_at"~%C.=B$"
 refine QB ?_
 walk_at"~%C.7"
 refine PMW.pt ?_;refine VH ?_ ?_;refine PMW.pt ?_;refine Jg ?_ ?_
 walk_at"~2?%+"
 refine ZU ?_
 walk_at"~2?%%"
 refine JO ?_;refine PMW.pt ?_;refine Jg ?_ ?_;refine Qn XR Qk ?_ ?_
 walk_at"~%+"
 refine ZU ?_
 walk_at"~2?(/$#%#5+%)$1$$+."
 refine Qx ?_
 walk_at"~6%#9#%#%))A@@.3%"
def VS:FM:=box frN Vb
abbrev Vz:Stmt:=top 42
theorem YO:FnScope ["program","rows","spot","way","part","k","head","lines","word"] ["program","rows","spot"] (Qg Vz):=⟨rfl,rfl,rfl,by decide +kernel,rfl,by decide +kernel,by decide +kernel⟩
def QV:SM:=(Qm (Zt (Qj (Qe wEq (Qb 8) (mC (.str "either")))) (QR (mFn Vq (Qa (mFn QU (Qa (Qb 3) (Qa (Qb 4) (Qa (Qe Zj (Qb 5) (mC (.int 1))) (Qa (mC (.bl false)) Qc))))) (Qa (mFn QU (Qa (Qb 3) (Qa (Qb 4) (Qa (Qe Zj (Qe wIx (Qe wIx (Qe wIx (Qb 1) (Qb 4)) (Qb 5)) (mC (.int 1))) (mC (.int 1))) (Qa (mC (.bl false)) Qc))))) Qc)))) Qw)
  (Qm (Zt (Qj (Qe wEq (Qb 8) (mC (.str "or")))) (QR (mFn Vq (Qa (mFn QU (Qa (Qb 3) (Qa (Qb 4) (Qa (Qe Zj (Qe wIx (Qe wIx (Qe wIx (Qb 1) (Qb 4)) (Qb 5)) (mC (.int 2))) (mC (.int 1))) (Qa (mC (.bl false)) Qc))))) Qc))) Qw)
  (Qm (Zt (Qj (Qe wEq (Qb 8) (mC (.str "again")))) (QR (mFn Vq (Qa (mFn QU (Qa (Qb 3) (Qa (Qb 4) (Qa (Qb 5) (Qa (mC (.bl true)) Qc))))) Qc))) Qw)
  (Qm (Zt (J4 (Qj (Qe wEq (Qb 8) (mC (.str "end")))) (Qj (Qe wEq (Qe wIx (Qe wIx (Qb 7) (Qe wIx (Qe wIx (Qe wIx (Qb 1) (Qb 4)) (Qb 5)) (mC (.int 0)))) (mC (.int 0))) (mC (.str "again"))))) (QR (mFn Vq (Qa (mFn QU (Qa (Qb 3) (Qa (Qb 4) (Qa (Qe wIx (Qe wIx (Qe wIx (Qb 1) (Qb 4)) (Qb 5)) (mC (.int 0))) (Qa (mC (.bl true)) Qc))))) Qc))) Qw)
  (Qm (Zt (Qj (Qe wEq (Qb 8) (mC (.str "do")))) (QR (mFn Vq (Qa (mFn QU (Qa (Qe Zj (Qb 3) (mFn QU (Qa (mFn QU (Qa (Qb 4) (Qa (Qb 5) Qc))) Qc))) (Qa (mMt "list" XC (QN Jn (Qo (Qb 0)) [none,none] (Zb [0,1]) Kl (Qb 0)) (Qa (Qe wIx (Qe wIx (Qb 7) (Qb 5)) (mC (.int 1))) Qc)) (Qa (mC (.int 0)) (Qa (mC (.bl false)) Qc))))) Qc))) Qw)
  (QR (mFn Vq (Qa (mFn QU (Qa (Qb 3) (Qa (Qb 4) (Qa (Qe Zj (Qb 5) (mC (.int 1))) (Qa (mC (.bl false)) Qc))))) Qc))))))))
def QW:FM:=Qz 6
  (Qm (QkR (Zb [3,4,5,6]) (Qb 2))
  (Qm (QK 7 (Qe wIx (Qe wIx (Qb 0) (Qb 4)) (mC (.int 1))))
  (Qm (Zt (Ue (Qb 6)) (QR (mFn Vq (Qa (mFn QU (Qa (Qb 3) (Qa (Qb 4) (Qa (Qe Zj (Qe wIx (Qe wIx (Qe wIx (Qb 1) (Qb 4)) (Qb 5)) (mC (.int 2))) (mC (.int 1))) (Qa (mC (.bl false)) Qc))))) (Qa (mFn QU (Qa (Qb 3) (Qa (Qb 4) (Qa (Qe Zj (Qb 5) (mC (.int 1))) (Qa (mC (.bl false)) Qc))))) Qc)))) Qw)
  (Qm (Zt (J4 (Qj (Qe wEq (Qb 5) (mFn JB (Qa (Qb 7) Qc)))) (Qj (Qe wGt (mFn JB (Qa (Qb 3) Qc)) (mC (.int 0))))) (QR (mFn Vq (Qa (mFn QU (Qa (mSl (Qb 3) Vk (Ju (mUn KN (mC (.int 1))))) (Qa (Qe wIx (Qe wIx (Qb 3) (mUn KN (mC (.int 1)))) (mC (.int 0))) (Qa (Qe Zj (Qe wIx (Qe wIx (Qb 3) (mUn KN (mC (.int 1)))) (mC (.int 1))) (mC (.int 1))) (Qa (mC (.bl false)) Qc))))) Qc))) Qw)
  (Qm (Zt (Qj (Qe wEq (Qb 5) (mFn JB (Qa (Qb 7) Qc)))) (QR (mFn Vq Qc)) Qw)
  (Qm (QK 8 (Qe wIx (Qe wIx (Qb 7) (Qb 5)) (mC (.int 0))))
  QV))))))
theorem Gk(d:DefAt K mg "_law_next" Vz ["program","rows","spot"])(b_len:mg "len"=none):Cal P w K mg base 1 "_law_next" ["program","rows","spot"] QW:=by
 refine Qs (k:=0) (more:=6) d YO rfl fun _ _ _ _ _ _ _ hr=>?_;have nd_:=(YO).nd
 walk_at"~>*"
 refine QfF ?_ ?_ ?_ ?_ ?_
 walk_at"~%"
 refine Q1 ?_ ?_ ?_ ?_
 walk_at"~$8888"
 exact Q0
 walk_at"~&&&&$$$$$*-;$4,,%%+$&*7"
 refine ZG ?_
 walk_at"~%.3E#9#%#%#5,,,%%%++#"
 exact ZF
 walk_at"~)#9#%#%#5%+#"
 exact ZF
 walk_at"~))A*7"
 refine PMW.pt ?_;refine Jg ?_ ?_
 walk_at"~2?%0$<#%)11$$"
 refine ZU ?_;refine Qn XR Qk ?_ ?_
 walk_at"~0$<#%)11$$+.3E#9#"
 refine Zk ?_ ?_ ?_
 walk_at"~%"
 exact ZC;refine Q9 ?_;refine Zo ?_
 walk_at"~+#,,%"
 refine Zo ?_
 walk_at"~++#5,,%"
 refine Zo ?_
 walk_at"~+++#"
 exact ZF
 walk_at"~))A*72?%0$<#%)11$$.3E)A*-;$4,,%%+$&*72?%F.3E#9#%#%#5%+#"
 exact ZF
 walk_at"~)#9#%#%#5,,,%%%++#"
 exact ZF
 walk_at"~))A*72?%F.3E#9#%#%#5,,,%%%++#"
 exact ZF
 walk_at"~))A*72?%F.3E#9#%#%#%#"
 exact ZF
 walk_at"~))A*7"
 refine PMW.pt ?_;refine Jg ?_ ?_
 walk_at"~2?%F"
 refine ZU ?_
 walk_at"~2?,,%,,,%%%++F.3E#9#%#%#,,,%%%+#"
 exact ZF
 walk_at"~))A*72?%F.3E#9#5%9#9#%#%))#"
 refine Y5 N7 DQ FU (WL ?_) ?_ ?_
 walk_at"~?"
 refine JA Q4 ?_ (ZI (Nb:=["name","inner"]) (cp:=[none,none]) rfl (by decide +kernel) (by decide +kernel) rfl rfl) ?_ (fun _ _ _ _ _=>?_) (fun _ _ _ _ _=>?_)
 walk_at"~$"
 refine QB ?_
 walk_at"~%"
 refine Q1 ?_ ?_ ?_ ?_
 walk_at"~$"
 refine Zq (by dsimp only[blk];decide +kernel) rfl (Or.inl rfl) ?_ ?_;refine Zq (by dsimp only[blk];decide +kernel) rfl (Or.inl rfl) ?_ ?_;exact Q0
 walk_at"~&&$$%#,,%%+)#+#"
 exact ZF
 walk_at"~))A.3E#9#%#%#5%+#"
 exact ZF
 walk_at"~))"
def Q7:FM:=box frN QW
abbrev Xg:Stmt:=top 43
theorem W5:FnScope ["program","rows","met","path","others","spot"] ["program","rows"] (Qg Xg):=⟨rfl,rfl,rfl,by decide +kernel,rfl,by decide +kernel,by decide +kernel⟩
abbrev Zx:SM:=(Qm (QK 4 (Qi 3 Q7 (Qa (Qb 0) (Qa (Qb 1) (Qa (Qe wIx (Qe wIx (Qb 3) (mUn KN (mC (.int 1)))) (mC (.int 0))) Qc)))))
  (Zt (Qj (Qe wEq (Qe wIx (Qe wIx (Qb 3) (mUn KN (mC (.int 1)))) (mC (.int 1))) (mFn JB (Qa (Qb 4) Qc)))) (Jb (mMt "list" Qj2 (Qb 3) Qc)) (Qm (QK 5 (Qe wIx (Qb 4) (Qe wIx (Qe wIx (Qb 3) (mUn KN (mC (.int 1)))) (mC (.int 1)))))
  (Qm (QfK (Qe wIx (Qb 3) (mUn KN (mC (.int 1)))) (mC (.int 1)) (Qe Zj (Qe wIx (Qe wIx (Qb 3) (mUn KN (mC (.int 1)))) (mC (.int 1))) (mC (.int 1))))
  (Zt (Qj (Qe (UI true) (Qb 5) (Qb 2))) (Qm (KB (Qb 2) (Qb 5) (mC (.bl true)))
  (Jb (mMt "list" QY (Qb 3) (Qa (mFn Yq (Qa (Qb 5) (Qa (mC (.int 0)) Qc))) Qc)))) Qw)))))
def XY:FM:=Qz 4
  (Qm (QK 2 (Qf4 (mFn QU (Qa (mFn QU Qc) (Qa (mC (.int 0)) (Qa (mC (.int 0)) (Qa (mC (.bl false)) Qc))))) (mC (.bl true))))
  (Qm (QK 3 (mFn Yq (Qa (mFn Yq (Qa (mFn QU (Qa (mFn QU Qc) (Qa (mC (.int 0)) (Qa (mC (.int 0)) (Qa (mC (.bl false)) Qc))))) (Qa (mC (.int 0)) Qc))) Qc)))
  (Qm (QP (Qj (Qe wGt (mFn JB (Qa (Qb 3) Qc)) (mC (.int 0)))) Zx 20000000)
  (QR (mFn Xv (Qa (Qb 2) Qc))))))
theorem Qae(d:DefAt K mg "_law_all" Xg ["program","rows"])(b_len:mg "len"=none)(b_list:mg "list"=none)(c__law_next:Cal P w K mg base 1 "_law_next" ["program","rows","spot"] Q7):Cal P w K mg base 2 "_law_all" ["program","rows"] XY:=by
 refine Qs (k:=1) (more:=4) d W5 rfl fun _ _ _ _ _ _ _ hr=>?_;have nd_:=(W5).nd
 walk_at"~>*-;$4"
 refine QgO ?_ ?_ ?_
 walk_at"~?9#9)#+#+#"
 exact ZF
 walk_at"~)"
 exact ZF
 walk_at"~$&*-;$4"
 refine Z8 ?_
 walk_at"~#"
 refine Z8 ?_
 walk_at"~#9#9)#+#+#"
 exact ZF
 walk_at"~)#+))$&*"
 refine W4 20000000 ?_ ?_ ?_
 walk_at"~B"
 refine Qn XR Qk ?_ ?_
 walk_at"~0$<#%)11$$+*-;$4(/$#%#%#,,%"
 refine Zo ?_
 walk_at"~++)$1$$$&.72?,,%"
 refine Zo ?_
 walk_at"~++0$<#%)11$$."
 refine Qx ?_;refine Qcc N7 DH Fa Ga ?_
 walk_at"~%*-;$4,%,,%"
 refine Zo ?_
 walk_at"~++$&*"
 refine KG ?_ ?_ ?_ ?_ ?_ ?_
 walk_at"~,%"
 refine Zo ?_
 walk_at"~++5,,%"
 refine Zo ?_
 walk_at"~+++@$$.7"
 refine Qn (V1 ?_) Qk ?_ ?_
 walk_at"~?%%*"
 refine Ke ?_ ?_ ?_ ?_ ?_
 walk_at"~?%%"
 exact ZF
 walk_at"~$."
 refine Qx ?_
 walk_at"~6%#"
 refine Z8 ?_
 walk_at"~#%#+))A.3"
 refine ZN (KH ?_) QD ?_ ?_ ET ?_ ?_ ?_ ?_ ?_
 walk_at"~$$<#%)11$$"
def Jq:FM:=box frN XY
abbrev J1:Stmt:=top 49
theorem Yf:FnScope ["program","rows","every","found","p","spot"] ["program","rows","every"] (Qg J1):=⟨rfl,rfl,rfl,by decide +kernel,rfl,by decide +kernel,by decide +kernel⟩
abbrev J8:SM:=(Jb (mMt "list" QY (Qe wIx (Qb 3) (mMt "list" XC (Qb 2) (Qa (Qb 5) Qc))) (Qa (Qb 4) Qc)))
abbrev Xy:SM:=(Zm (Qo (Qi 3 Q7 (Qa (Qb 0) (Qa (Qb 1) (Qa (Qe wIx (Qb 2) (Qb 4)) Qc))))) (Q2 5)
  J8)
def Ze:FM:=Qz 3
  (Qm (QK 3 (QN Jn (Qo (Qb 2)) [none] (Q2 0) Kl (mFn Yq Qc)))
  (Qm (Zm (Wi (Qa (mFn JB (Qa (Qb 2) Qc)) Qc)) (Q2 4)
  Xy)
  (QR (Qb 3))))
theorem Uk(d:DefAt K mg "_law_ahead" J1 ["program","rows","every"])(b_len:mg "len"=none)(b_range:mg "range"=none)(c__law_next:Cal P w K mg base 1 "_law_next" ["program","rows","spot"] Q7):Cal P w K mg base 2 "_law_ahead" ["program","rows","every"] Ze:=by
 refine Qs (k:=1) (more:=3) d Yf rfl fun _ _ _ _ _ _ _ hr=>?_;have nd_:=(Yf).nd
 walk_at"~>*"
 refine W7 nd_ rfl (Or.inl rfl) ?_ Q4 ?_ (ZI (Nb:=["spot"]) (cp:=[none]) rfl (by decide +kernel) (by decide +kernel) rfl rfl) ?_ (fun _ _ _ _ _=>?_) (fun _ _ _ _ _=>?_) ?_ ?_
 walk_at"~&$"
 refine QB ?_
 walk_at"~%:"
 refine Z8 ?_
 walk_at"~)@$*=B$"
 refine Kx ?_ ?_ ?_ ?_
 walk_at"~$<#0$<#%)11$$)$C.=B$"
 refine QB ?_
 walk_at"~(/$#%#%#,%%)$1$$C."
 refine Qx ?_
 walk_at"~6,%"
 refine Y5 N7 DQ FU (WL ?_) ?_ ?_
 walk_at"~?%#%)#%)@@.3%"
def Za:FM:=box frN Ze
abbrev Jf:Stmt:=top 47
theorem Yh:FnScope ["manner","spot"] ["manner","spot"] (Qg Jf):=⟨rfl,rfl,rfl,by decide +kernel,rfl,by decide +kernel,by decide +kernel⟩
def Jz:FM:=Qz 0
  (Qm (Zt (Ue (Qe wIx (Qb 1) (mC (.int 3)))) (QR (mFn Vq Qc)) Qw)
  (QR (QN Jn (Qo (Qb 0)) [none,none,some 1] (Zb [0,1]) (Qj (Qe wEq (Qb 1) (mSl (Qb 2) (Ju (mC (.int 1))) (Ju (mC (.int 3)))))) (Qb 0))))
theorem Ui(d:DefAt K mg "_law_given" Jf ["manner","spot"]):Cal P w K mg base 1 "_law_given" ["manner","spot"] Jz:=by
 refine Qs (k:=0) (more:=0) d Yh rfl fun _ _ _ _ _ _ _ hr=>?_;have nd_:=(Yh).nd
 walk_at"~>*7"
 refine ZG ?_
 walk_at"~,%+.3E)A.3"
 refine Vt Q4 ?_ (XS (ks:=["spot"]) (Nb:=["word","place","spot"]) (cp:=[none,none,some 1]) (N:=["manner","spot"]) (xs:=(Qg Jf)) rfl rfl (by decide +kernel) rfl (by decide +kernel) (by intro p hp;simp only[NE,N5,or_false]at hp;rcases hp with rfl<;>rfl) rfl rfl rfl (by decide +kernel)) ?_ (fun _ _ _ _ _=>?_) (fun _ _ _ _ _=>?_) (fun _ _ _ _ _=>?_)
 walk_at"~$"
 refine QB ?_
 walk_at"~%"
 refine Q1 ?_ ?_ ?_ ?_
 walk_at"~$"
 refine Zq (by dsimp only[blk];decide +kernel) rfl (Or.inl rfl) ?_ ?_;refine Zq (by dsimp only[blk];decide +kernel) rfl (Or.inl rfl) ?_ ?_;exact Q0
 walk_at"~&&$$2?%"
 refine Zk ?_ ?_ ?_
 walk_at"~%"
 refine Q9 ?_
 walk_at"~+"
 refine Q9 ?_
 walk_at"~+%"
def Zc:FM:=box frN Jz
abbrev Vr:Stmt:=top 46
theorem YQ:FnScope ["program","spot","lines"] ["program","spot"] (Qg Vr):=⟨rfl,rfl,rfl,by decide +kernel,rfl,by decide +kernel,by decide +kernel⟩
def Zy:FM:=Qz 1
  (Qm (QK 2 (Qe wIx (Qe wIx (Qb 0) (Qe wIx (Qb 1) (mC (.int 1)))) (mC (.int 1))))
  (Qm (Zt (J4 (KY (Ue (Qe wIx (Qb 1) (mC (.int 3))))) (J4 (Qj (Qe wLt (Qe wIx (Qb 1) (mC (.int 2))) (mFn JB (Qa (Qb 2) Qc)))) (Qj (Qe wEq (Qe wIx (Qe wIx (Qb 2) (Qe wIx (Qb 1) (mC (.int 2)))) (mC (.int 0))) (mC (.str "pair")))))) (QR (Qe wIx (Qe wIx (Qb 2) (Qe wIx (Qb 1) (mC (.int 2)))) (mC (.int 2)))) Qw)
  (QR (mC .non))))
theorem Gv(d:DefAt K mg "_law_made" Vr ["program","spot"])(b_len:mg "len"=none):Cal P w K mg base 1 "_law_made" ["program","spot"] Zy:=by
 refine Qs (k:=0) (more:=1) d YQ rfl fun _ _ _ _ _ _ _ hr=>?_;have nd_:=(YQ).nd
 walk_at"~>*-;$4,,%,%++$&*7"
 refine PMW.pt ?_;refine Jg ?_ ?_;refine Vp ?_;refine ZG ?_
 walk_at"~,%+"
 refine Jg ?_ ?_;refine Qn XO Qk ?_ ?_
 walk_at"~,%+0$<#%)11$$"
 refine ZU ?_
 walk_at"~2?,,%,%++F.3,,%,%++A.3"
 exact V4
def Zn:FM:=box frN Zy
abbrev Zv:Stmt:=top 52
theorem Ya:FnScope ["program","rows","manner","every","ahead","words","found","n","turn","some","p","gone","left","more"] ["program","rows","manner"] (Qg Zv):=⟨rfl,rfl,rfl,by decide +kernel,rfl,by decide +kernel,by decide +kernel⟩
abbrev XL:SM:=(KB (Qb 6) (mFn QU (Qa (Qb 7) (Qa (Qb 5) Qc))) (mC (.int 0)))
abbrev Ve:SM:=(Qm (QK 11 (Qi 2 Zc (Qa (Qb 2) (Qa (Qe wIx (Qb 3) (Qb 10)) Qc))))
  (Qm (QK 12 (mFn JS (Qa (QN Jn (Qo (Qb 9)) [none,some 11] (Q2 0) (Qj (Qe (wIn true) (Qb 0) (Qb 1))) (Qb 0)) Qc)))
  (Qm (QK 13 (mFn Qkr (Qa (Qe (wIn false) (Qi 2 Zn (Qa (Qb 0) (Qa (Qe wIx (Qb 3) (Qb 10)) Qc))) (Qb 9)) Qc)))
  (Qm (Jb (mMt "dict" QfJ (Qb 6) (Qa (mFn QU (Qa (Qb 10) (Qa (Qb 12) Qc))) (Qa (mC (.int 0)) Qc))))
  (KB (Qb 6) (mFn QU (Qa (Qb 7) (Qa (Qb 9) Qc))) (mFn QiT (Qa (Qe U2 (Qb 6) (mFn QU (Qa (Qb 7) (Qa (Qb 9) Qc)))) (Qa (Qe Zj (Qe U2 (Qb 6) (mFn QU (Qa (Qb 10) (Qa (Qb 12) Qc)))) (Qb 13)) Qc))))))))
abbrev XF:SM:=(Zm (Qo (Qe wIx (Qb 4) (Qb 7))) (Q2 10)
  Ve)
abbrev X0:SM:=(Zm (Qo (mFn Xv (Qa (Qb 6) Qc))) (Zb [7,9])
  XF)
def VN:FM:=Qz 11
  (Qm (QK 3 (Qi 2 Jq (Qa (Qb 0) (Qa (Qb 1) Qc))))
  (Qm (QK 4 (Qi 3 Za (Qa (Qb 0) (Qa (Qb 1) (Qa (Qb 3) Qc)))))
  (Qm (QK 5 (mFn JS (Qa (Qi 1 QI (Qa (Qb 0) Qc)) Qc)))
  (Qm (QK 6 WS)
  (Qm (Zm (Wi (Qa (mFn JB (Qa (Qb 3) Qc)) Qc)) (Q2 7)
  XL)
  (Qm (Zm (Wi (Qa (mC (.int 12)) Qc)) (Q2 8)
  X0)
  (QR (QN Jn (Jl (Qb 6)) [none,none,some 6] (Zb [0,1]) Kl (mFn QU (Qa (Qb 0) (Qa (Qb 1) (Qa (Qe U2 (Qb 2) (mFn QU (Qa (Qb 0) (Qa (Qb 1) Qc)))) Qc))))))))))))
theorem Ul(d:DefAt K mg "_law_table" Zv ["program","rows","manner"])(b_int:mg "int"=none)(b_len:mg "len"=none)(b_list:mg "list"=none)(b_max:mg "max"=none)(b_range:mg "range"=none)(b_tuple:mg "tuple"=none)(c__law_ahead:Cal P w K mg base 2 "_law_ahead" ["program","rows","every"] Za)(c__law_all:Cal P w K mg base 2 "_law_all" ["program","rows"] Jq)(c__law_given:Cal P w K mg base 1 "_law_given" ["manner","spot"] Zc)(c__law_made:Cal P w K mg base 1 "_law_made" ["program","spot"] Zn)(c__law_words:Cal P w K mg base 1 "_law_words" ["program"] QI):Cal P w K mg base 3 "_law_table" ["program","rows","manner"] VN:=by
 refine Qs (k:=2) (more:=11) d Ya rfl fun _ _ _ _ _ _ _ hr=>?_;have nd_:=(Ya).nd
 walk_at"~>*-;$4(/$#%#%)$1$$$&*-;$4(/$#%#%#%)$1$$$&*-;$4D$<#(/$#%)$1$$)11$$$&*-;$"
 exact(Or.inr rfl);exact WK
 walk_at"~$&*=B$"
 refine Kx ?_ ?_ ?_ ?_
 walk_at"~$<#0$<#%)11$$)$C."
 refine Ke ?_ ?_ ?_ ?_ ?_
 walk_at"~?%9#%#%)+$@*=B$"
 refine Kx ?_ ?_ ?_ ?_
 walk_at"~$<#+)$C.=B$"
 refine QB ?_;refine ZN (KH ?_) QD ?_ ?_ ET ?_ ?_ ?_ ?_ ?_
 walk_at"~$$<#%)11$$"
 refine Q1 ?_ ?_ ?_ ?_
 walk_at"~$88"
 exact Q0
 walk_at"~&&$$.=B$"
 refine QB ?_
 walk_at"~,%%C*-;$"
 exact(Or.inr rfl)
 walk_at"~(/$#%#,%%)$1$$$&*-;$4D$<#"
 refine Vt Q4 ?_ (XS (ks:=["gone"]) (Nb:=["word","gone"]) (cp:=[none,some 11]) (N:=["program","rows","manner","every","ahead","words","found","n","turn","some","p","gone","left","more"]) (xs:=(Qg Zv)) rfl rfl (by decide +kernel) rfl (by decide +kernel) (by intro p hp;simp only[NE,N5,or_false]at hp;rcases hp with rfl<;>rfl) rfl rfl rfl (by decide +kernel)) ?_ (fun _ _ _ _ _=>?_) (fun _ _ _ _ _=>?_) (fun _ _ _ _ _=>?_)
 walk_at"~$"
 refine QB ?_
 walk_at"~%:"
 refine Qn (KW ?_) Qk ?_ ?_
 walk_at"~?%%%)11$$$&*-;$4"
 refine ZN Qak QD ?_ ?_ Ip ?_ ?_ ?_ ?_ ?_
 walk_at"~$<#"
 refine Qax (Qbs ?_) Qk ?_ ?_
 walk_at"~?(/$#%#,%%)$1$$%)11$$$&*"
 refine Qx ?_;refine Y5 Dl EW Fb (Qdg ?_) ?_ ?_
 walk_at"~?%#9#%#%)#+)."
 refine Ke ?_ ?_ ?_ ?_ ?_
 walk_at"~?%9#%#%)"
 refine ZS (GN ?_) QD ?_ ?_ Iq ?_ ?_ ?_ ?_ ?_
 walk_at"~$$<#"
 refine XT ?_ ?_ ?_ ?_
 walk_at"~?%9#%#%)"
 exact fun _ _=>rfl
 walk_at"~#5"
 refine XT ?_ ?_ ?_ ?_
 walk_at"~?%9#%#%)"
 exact fun _ _=>rfl
 walk_at"~%)11$$$@@@.3"
 refine JA Q4 ?_ (XS (ks:=["found"]) (Nb:=["n","some","found"]) (cp:=[none,none,some 6]) (N:=["program","rows","manner","every","ahead","words","found","n","turn","some","p","gone","left","more"]) (xs:=(Qg Zv)) rfl rfl (by decide +kernel) rfl (by decide +kernel) (by intro p hp;simp only[NE,N5,or_false]at hp;rcases hp with rfl<;>rfl) rfl rfl rfl (by decide +kernel)) ?_ (fun _ _ _ _ _=>?_) (fun _ _ _ _ _=>?_)
 walk_at"~$"
 refine K6 ?_
 walk_at"~%"
 refine Q1 ?_ ?_ ?_ ?_
 walk_at"~$"
 refine Zq (by dsimp only[blk];decide +kernel) rfl (Or.inl rfl) ?_ ?_;refine Zq (by dsimp only[blk];decide +kernel) rfl (Or.inl rfl) ?_ ?_;exact Q0
 walk_at"~&&$$9#%#%#"
 refine XT ?_ ?_ ?_ ?_
 walk_at"~?%9#%#%)"
 exact fun _ _=>rfl
 walk_at"~)"
def Xr:FM:=box frN VN
abbrev JD:Stmt:=top 41
theorem Kz:FnScope ["lines","rows","opened","k"] ["lines"] (Qg JD):=⟨rfl,rfl,rfl,by decide +kernel,rfl,by decide +kernel,by decide +kernel⟩
abbrev JQ:SM:=(Qm (Zt (GK (Qj (Qe wEq (Qe wIx (Qe wIx (Qb 0) (Qb 3)) (mC (.int 0))) (mC (.str "either")))) (Qj (Qe wEq (Qe wIx (Qe wIx (Qb 0) (Qb 3)) (mC (.int 0))) (mC (.str "again"))))) (Jb (mMt "list" QY (Qb 2) (Qa (mFn Yq (Qa (Qb 3) (Qa (Qb 3) (Qa (Qb 3) Qc)))) Qc))) Qw)
  (Qm (Zt (Qj (Qe wGt (mFn JB (Qa (Qb 2) Qc)) (mC (.int 0)))) (QfK (Qb 1) (Qb 3) (Qe wIx (Qb 2) (mUn KN (mC (.int 1))))) Qw)
  (Qm (Zt (Qj (Qe wEq (Qe wIx (Qe wIx (Qb 0) (Qb 3)) (mC (.int 0))) (mC (.str "or")))) (QfK (Qe wIx (Qb 2) (mUn KN (mC (.int 1)))) (mC (.int 1)) (Qb 3)) Qw)
  (Zt (Qj (Qe wEq (Qe wIx (Qe wIx (Qb 0) (Qb 3)) (mC (.int 0))) (mC (.str "end")))) (Qm (QfK (Qe wIx (Qb 2) (mUn KN (mC (.int 1)))) (mC (.int 2)) (Qb 3))
  (Jb (mMt "list" Qj2 (Qb 2) Qc))) Qw))))
def Zr:FM:=Qz 3
  (Qm (QK 1 (QN QmK (Qo (Qb 0)) [none] (Q2 0) Kl (mC .non)))
  (Qm (QK 2 (mFn Yq Qc))
  (Qm (Zm (Wi (Qa (mFn JB (Qa (Qb 0) Qc)) Qc)) (Q2 3)
  JQ)
  (QR (Qb 1)))))
theorem WU(d:DefAt K mg "_law_blocks" JD ["lines"])(b_len:mg "len"=none)(b_range:mg "range"=none):Cal P w K mg base 1 "_law_blocks" ["lines"] Zr:=by
 refine Qs (k:=0) (more:=3) d Kz rfl fun _ _ _ _ _ _ _ hr=>?_;have nd_:=(Kz).nd
 walk_at"~>*"
 refine W7 nd_ rfl (Or.inl rfl) ?_ Qjk ?_ (ZI (Nb:=["line"]) (cp:=[none]) rfl (by decide +kernel) (by decide +kernel) rfl rfl) ?_ (fun _ _ _ _ _=>?_) (fun _ _ _ _ _=>?_) ?_ ?_
 walk_at"~&$"
 refine QB ?_
 walk_at"~%:"
 exact V4
 walk_at"~@$*-;$4"
 refine Z8 ?_
 walk_at"~)$&*=B$"
 refine Kx ?_ ?_ ?_ ?_
 walk_at"~$<#0$<#%)11$$)$C*7"
 refine PMW.pt ?_;refine VH ?_ ?_
 walk_at"~2?,,%%+F"
 refine JO ?_
 walk_at"~2?,,%%+F."
 refine Qx ?_
 walk_at"~6%#"
 refine Z8 ?_
 walk_at"~#%#%#%))A*7"
 refine Qn XR Qk ?_ ?_
 walk_at"~0$<#%)11$$+."
 refine KG ?_ ?_ ?_ ?_ ?_ ?_
 walk_at"~%%,%"
 refine Zo ?_
 walk_at"~+@$$A*72?,,%%+F."
 refine KG ?_ ?_ ?_ ?_ ?_ ?_
 walk_at"~,%"
 refine Zo ?_
 walk_at"~++%@$$A.72?,,%%+F*"
 refine KG ?_ ?_ ?_ ?_ ?_ ?_
 walk_at"~,%"
 refine Zo ?_
 walk_at"~++%@$$."
 refine Qx ?_;refine Qcc N7 DH Fa Ga ?_
 walk_at"~%A@.3%"
def QZ:FM:=box frN Zr
abbrev VA:Stmt:=top 53
theorem YH:FnScope ["table","words","feed","at","n","some","number","way"] ["table","words","feed"] (Qg VA):=⟨rfl,rfl,rfl,by decide +kernel,rfl,by decide +kernel,by decide +kernel⟩
def ZB:FM:=Qz 5
  (Qm (QK 3 (Qi 2 Qf (Qa (Qb 2) (Qa (mFn JB (Qa (Qb 0) Qc)) Qc))))
  (Qm (QkR (Zb [4,5,6]) (Qe wIx (Qb 0) (Qb 3)))
  (Qm (QK 7 (Qi 2 Qf (Qa (Qb 2) (Qa (mC (.int 7)) Qc))))
  (Qm (Zt (Qj (Qe wEq (Qb 7) (mC (.int 0)))) (QR (Qe Zj (mSl (Qb 0) Vk (Ju (Qb 3))) (mSl (Qb 0) (Ju (Qe Zj (Qb 3) (mC (.int 1)))) Vk))) Qw)
  (Qm (Zt (Qj (Qe wEq (Qb 7) (mC (.int 1)))) (QR (Qe Zj (Qe Zj (mSl (Qb 0) Vk (Ju (Qb 3))) (mFn Vq (Qa (mFn QU (Qa (Qb 4) (Qa (Qb 5) (Qa (mUn KN (mC (.int 1))) Qc)))) Qc))) (mSl (Qb 0) (Ju (Qe Zj (Qb 3) (mC (.int 1)))) Vk))) Qw)
  (Qm (Zt (Qj (Qe wLt (Qb 7) (mC (.int 4)))) (QR (Qe Zj (Qe Zj (mSl (Qb 0) Vk (Ju (Qb 3))) (mFn Vq (Qa (mFn QU (Qa (Qb 4) (Qa (Qb 5) (Qa (Qe Zj (Qb 6) (Qe wIx (mFn Vq (Qa (mC (.int 1)) (Qa (mUn KN (mC (.int 1))) Qc))) (Qe QbS (Qb 7) (mC (.int 2))))) Qc)))) Qc))) (mSl (Qb 0) (Ju (Qe Zj (Qb 3) (mC (.int 1)))) Vk))) Qw)
  (Qm (Zt (J4 (Qj (Qe wEq (Qb 7) (mC (.int 4)))) (Qj (Qe (wIn true) (mFn QU (Qa (Qb 4) (Qa (mFn QU Qc) Qc))) (QN Jn (Qo (Qb 0)) [none] (Q2 0) Kl (mSl (Qb 0) Vk (Ju (mC (.int 2)))))))) (QR (Qe Zj (Qb 0) (mFn Vq (Qa (mFn QU (Qa (Qb 4) (Qa (mFn QU Qc) (Qa (Qi 2 Qf (Qa (Qb 2) (Qa (mC (.int 2)) Qc))) Qc)))) Qc)))) Qw)
  (Qm (Zt (Qj (Qe wEq (Qb 7) (mC (.int 5)))) (QR (QN Jn (Qo (Qb 0)) [none] (Q2 0) Kl (mFn QU (Qa (Qe wIx (Qb 0) (mC (.int 0))) (Qa (Qe wIx (Qb 0) (mC (.int 1))) (Qa (Qe Zj (Qe wIx (Qb 0) (mC (.int 2))) (mC (.int 1))) Qc)))))) Qw)
  (QR (mFn Qhg (Qa (Qb 0) Qc)))))))))))
theorem Ge(d:DefAt K mg "_law_bent" VA ["table","words","feed"])(b_len:mg "len"=none)(b_list:mg "list"=none)(b_reversed:mg "reversed"=none)(c__law_take:Cal P w K mg base 1 "_law_take" ["feed","many"] Qf):Cal P w K mg base 2 "_law_bent" ["table","words","feed"] ZB:=by
 refine Qs (k:=1) (more:=5) d YH rfl fun _ _ _ _ _ _ _ hr=>?_;have nd_:=(YH).nd
 walk_at"~>*-;$4(/$#%#0$<#%)11$$)$1$$$&*"
 refine QfF ?_ ?_ ?_ ?_ ?_
 walk_at"~,%%"
 refine Q1 ?_ ?_ ?_ ?_
 walk_at"~$888"
 exact Q0
 walk_at"~&&&$$$$$*-;$4(/$#%#+)$1$$$&*72?%+.35"
 refine Zk ?_ ?_ ?_
 walk_at"~%"
 exact ZC;refine Q9 ?_
 walk_at"~%"
 refine Zk ?_ ?_ ?_
 walk_at"~%"
 refine Q9 ?_
 walk_at"~5%+"
 exact ZC
 walk_at"~A*72?%+.355"
 refine Zk ?_ ?_ ?_
 walk_at"~%"
 exact ZC;refine Q9 ?_
 walk_at"~%E#9#%#%#"
 refine Zo ?_
 walk_at"~+))"
 refine Zk ?_ ?_ ?_
 walk_at"~%"
 refine Q9 ?_
 walk_at"~5%+"
 exact ZC
 walk_at"~A*7"
 refine Qn XO Qk ?_ ?_
 walk_at"~%+.355"
 refine Zk ?_ ?_ ?_
 walk_at"~%"
 exact ZC;refine Q9 ?_
 walk_at"~%E#9#%#%#5%,E#+#"
 refine Zo ?_
 walk_at"~+)"
 refine JH Xa Qk ?_ ?_
 walk_at"~%+))"
 refine Zk ?_ ?_ ?_
 walk_at"~%"
 refine Q9 ?_
 walk_at"~5%+"
 exact ZC
 walk_at"~A*7"
 refine PMW.pt ?_;refine Jg ?_ ?_
 walk_at"~2?%+"
 refine ZU ?_;refine Qn (KW ?_) Qk ?_ ?_
 walk_at"~?9#%#9))"
 refine JA Q4 ?_ (ZI (Nb:=["row"]) (cp:=[none]) rfl (by decide +kernel) (by decide +kernel) rfl rfl) ?_ (fun _ _ _ _ _=>?_) (fun _ _ _ _ _=>?_)
 walk_at"~$"
 refine QB ?_
 walk_at"~%:"
 refine Zk ?_ ?_ ?_
 walk_at"~%"
 exact ZC;refine Q9 ?_
 walk_at"~+.35%E#9#%#9)#(/$#%#+)$1$$))A*72?%+.3"
 refine JA Q4 ?_ (ZI (Nb:=["row"]) (cp:=[none]) rfl (by decide +kernel) (by decide +kernel) rfl rfl) ?_ (fun _ _ _ _ _=>?_) (fun _ _ _ _ _=>?_)
 walk_at"~$"
 refine QB ?_
 walk_at"~%:9#,%+#,%+#5,%++)A.3"
 refine QcH ?_ ?_ ?_ ?_ ?_ ?_ ?_
 walk_at"~$$<$<%$"
def ZY:FM:=box frN ZB
abbrev Vm:Stmt:=top 32
theorem WQ:FnScope ["ahead","key","asked","p","given","made","left"] ["ahead","key"] (Qg Vm):=⟨rfl,rfl,rfl,by decide +kernel,rfl,by decide +kernel,by decide +kernel⟩
abbrev K5:SM:=(Qm (QK 6 (mFn JS (Qa (QN Jn (Qo (Qe wIx (Qb 1) (mC (.int 1)))) [none,some 4] (Q2 0) (Qj (Qe (wIn true) (Qb 0) (Qb 1))) (Qb 0)) Qc)))
  (Jb (mMt "list" QY (Qb 2) (Qa (mFn QU (Qa (mFn QU (Qa (Qb 3) (Qa (Qb 6) Qc))) (Qa (mIf (Qj (Qe (wIn false) (Qb 5) (Qe wIx (Qb 1) (mC (.int 1))))) (mC (.int 1)) (mC (.int 0))) Qc))) Qc))))
def XM:FM:=Qz 5
  (Qm (QK 2 (mFn Yq Qc))
  (Qm (Zm (Qo (mMt "dict" Qcs (Qb 0) (Qa (Qe wIx (Qb 1) (mC (.int 0))) (Qa (mFn Vq Qc) Qc)))) (Zb [3,4,5])
  K5)
  (QR (Qb 2))))
theorem GZ(d:DefAt K mg "asked_of" Vm ["ahead","key"])(b_tuple:mg "tuple"=none):Cal P w K mg base 1 "asked_of" ["ahead","key"] XM:=by
 refine Qs (k:=0) (more:=5) d WQ rfl fun _ _ _ _ _ _ _ hr=>?_;have nd_:=(WQ).nd
 walk_at"~>*-;$4"
 refine Z8 ?_
 walk_at"~)$&*=B$"
 refine QB ?_;refine Y5 Dl Dy Oc (QfY ?_) ?_ ?_
 walk_at"~?%#,%+#E))"
 refine Q1 ?_ ?_ ?_ ?_
 walk_at"~$8"
 refine Zq (i:=4) (x:="given") nd_ rfl (Or.inr rfl) ?_ ?_
 walk_at"~8"
 exact Q0
 walk_at"~&&&$$*-;$4D$<#"
 refine Vt Q4 ?_ (XS (ks:=["given"]) (Nb:=["word","given"]) (cp:=[none,some 4]) (N:=["ahead","key","asked","p","given","made","left"]) (xs:=(Qg Vm)) rfl rfl (by decide +kernel) rfl (by decide +kernel) (by intro p hp;simp only[NE,N5,or_false]at hp;rcases hp with rfl<;>rfl) rfl rfl rfl (by decide +kernel)) ?_ (fun _ _ _ _ _=>?_) (fun _ _ _ _ _=>?_) (fun _ _ _ _ _=>?_)
 walk_at"~$"
 refine QB ?_
 walk_at"~,%+:"
 refine Qn (KW ?_) Qk ?_ ?_
 walk_at"~?%%%)11$$$&."
 refine Qx ?_
 walk_at"~6%#9#9#%#%)#"
 refine Qhk ?_ ?_ ?_;refine Qn (Qbs ?_) Qk ?_ ?_
 walk_at"~?%,%+++))@.3%"
def Xk:FM:=box frN XM
abbrev Zi:Stmt:=top 30
theorem Vu:FnScope ["ahead","numbers","key","nearer","more"] ["ahead","numbers"] (Qg Zi):=⟨rfl,rfl,rfl,by decide +kernel,rfl,by decide +kernel,by decide +kernel⟩
abbrev JT:SM:=(Zt (GK (Qj (Qe (UI true) (Qb 3) (Qb 1))) (Qj (Qe wLt (Qe U2 (Qb 1) (Qb 2)) (Qe Zj (Qe U2 (Qb 1) (Qb 3)) (Qb 4))))) (QR (mC (.bl false))) Qw)
abbrev JU:SM:=(Qm (Zt (Qj (Qe wLt (Qe U2 (Qb 1) (Qb 2)) (mC (.int 0)))) (QR (mC (.bl false))) Qw)
  (Zm (Qo (Qi 2 Xk (Qa (Qb 0) (Qa (Qb 2) Qc)))) (Zb [3,4])
  JT))
def QG:FM:=Qz 3
  (Qm (Zm (Jl (Qb 1)) (Q2 2)
  JU)
  (QR (mC (.bl true))))
theorem KI(d:DefAt K mg "is_closed_table" Zi ["ahead","numbers"])(c_asked_of:Cal P w K mg base 1 "asked_of" ["ahead","key"] Xk):Cal P w K mg base 2 "is_closed_table" ["ahead","numbers"] QG:=by
 refine Qs (k:=1) (more:=3) d Vu rfl fun _ _ _ _ _ _ _ hr=>?_;have nd_:=(Vu).nd
 walk_at"~>*=B$"
 refine K6 ?_
 walk_at"~%C*7"
 refine Qn XO Qk ?_ ?_;refine XT ?_ ?_ ?_ ?_
 walk_at"~?%%"
 exact fun _ _=>rfl
 walk_at"~+.3"
 exact ZF
 walk_at"~A.=B$"
 refine QB ?_
 walk_at"~(/$#%#%)$1$$"
 refine Q1 ?_ ?_ ?_ ?_
 walk_at"~$88"
 exact Q0
 walk_at"~&&$$.7"
 refine PMW.pt ?_;refine VH ?_ ?_;refine Qn (V1 ?_) Qk ?_ ?_
 walk_at"~?%%"
 refine JO ?_;refine Qn XO Qk ?_ ?_;refine XT ?_ ?_ ?_ ?_
 walk_at"~?%%"
 exact fun _ _=>rfl
 walk_at"~5"
 refine XT ?_ ?_ ?_ ?_
 walk_at"~?%%"
 exact fun _ _=>rfl
 walk_at"~%.3"
 exact ZF
 walk_at"~A@@.3"
 exact ZF
def Z9:FM:=box frN QG
abbrev VF:Stmt:=top 11
theorem YI:FnScope ["program","lines","part"] ["program"] (Qg VF):=⟨rfl,rfl,rfl,by decide +kernel,rfl,by decide +kernel,by decide +kernel⟩
abbrev Ku:SM:=(Jb (mMt "list" Wa (Qb 1) (Qa (Qe wIx (Qb 2) (mC (.int 1))) Qc)))
def Xq:FM:=Qz 2
  (Qm (QK 1 (mFn Yq Qc))
  (Qm (Zm (Qo (Qb 0)) (Q2 2)
  Ku)
  (QR (Qb 1))))
theorem UV(d:DefAt K mg "all_lines" VF ["program"]):Cal P w K mg base 1 "all_lines" ["program"] Xq:=by
 refine Qs (k:=0) (more:=2) d YI rfl fun _ _ _ _ _ _ _ hr=>?_;have nd_:=(YI).nd
 walk_at"~>*-;$4"
 refine Z8 ?_
 walk_at"~)$&*=B$"
 refine QB ?_
 walk_at"~%C."
 refine Qx ?_;refine Y5 N7 Ds FH Qa9 ?_ ?_
 walk_at"~%#,%+)@.3%"
def Vw:FM:=box frN Xq
abbrev Xt:Stmt:=top 9
theorem WO:FnScope ["program"] ["program"] (Qg Xt):=⟨rfl,rfl,rfl,by decide +kernel,rfl,by decide +kernel,by decide +kernel⟩
def XV:FM:=Qz 0
  (QR (mFn Vc (Qa (QN Jn (Qo (Qi 1 Vw (Qa (Qb 0) Qc))) [none] (Q2 0) (Qj (Qe wEq (Qe wIx (Qb 0) (mC (.int 0))) (mC (.str "pair")))) (Qe wIx (Qb 0) (mC (.int 2)))) Qc)))
theorem G9(d:DefAt K mg "words_of" Xt ["program"])(b_set:mg "set"=none)(b_sorted:mg "sorted"=none)(c_all_lines:Cal P w K mg base 1 "all_lines" ["program"] Vw):Cal P w K mg base 2 "words_of" ["program"] XV:=by
 refine Qs (k:=1) (more:=0) d WO rfl fun _ _ _ _ _ _ _ hr=>?_;have nd_:=(WO).nd
 walk_at"~>.3"
 refine YT ?_ ?_ ?_ ?_ ?_ ?_ ?_
 walk_at"~$$<$<"
 refine Vt Q4 ?_ (ZI (Nb:=["line"]) (cp:=[none]) rfl (by decide +kernel) (by decide +kernel) rfl rfl) ?_ (fun _ _ _ _ _=>?_) (fun _ _ _ _ _=>?_) (fun _ _ _ _ _=>?_)
 walk_at"~$"
 refine QB ?_
 walk_at"~(/$#%)$1$$:2?,%+F,%+$"
def KL:FM:=box frN XV
abbrev J6:Stmt:=top 13
theorem Ye:FnScope [] [] (Qg J6):=⟨rfl,rfl,rfl,by decide +kernel,rfl,by decide +kernel,by decide +kernel⟩
def VM:FM:=Qz 0
  (QR (mFn QU (Qa (mFn QU Qc) (Qa (mC (.int 0)) (Qa (mC (.int 0)) (Qa (mC (.bl false)) Qc))))))
theorem W9(d:DefAt K mg "first_spot" J6 []):Cal P w K mg base 1 "first_spot" [] VM:=by
 refine Qs (k:=0) (more:=0) d Ye rfl fun _ _ _ _ _ _ _ hr=>?_;have nd_:=(Ye).nd
 walk_at"~>.39#9)#+#+#"
 exact ZF
 walk_at"~)"
def Xc:FM:=box frN VM
abbrev Kb:Stmt:=top 15
theorem Uv:FnScope ["program","spot","lines"] ["program","spot"] (Qg Kb):=⟨rfl,rfl,rfl,by decide +kernel,rfl,by decide +kernel,by decide +kernel⟩
def Vg:FM:=Qz 1
  (Qm (QK 2 (Qe wIx (Qe wIx (Qb 0) (Qe wIx (Qb 1) (mC (.int 1)))) (mC (.int 1))))
  (Qm (Zt (GK (Ue (Qe wIx (Qb 1) (mC (.int 3)))) (Qj (Qe wEq (Qe wIx (Qb 1) (mC (.int 2))) (mFn JB (Qa (Qb 2) Qc))))) (QR (mC .non)) Qw)
  (QR (Qe wIx (Qb 2) (Qe wIx (Qb 1) (mC (.int 2)))))))
theorem QaI(d:DefAt K mg "line_of" Kb ["program","spot"])(b_len:mg "len"=none):Cal P w K mg base 1 "line_of" ["program","spot"] Vg:=by
 refine Qs (k:=0) (more:=1) d Uv rfl fun _ _ _ _ _ _ _ hr=>?_;have nd_:=(Uv).nd
 walk_at"~>*-;$4,,%,%++$&*7"
 refine PMW.pt ?_;refine VH ?_ ?_;refine ZG ?_
 walk_at"~,%+"
 refine JO ?_
 walk_at"~2?,%+0$<#%)11$$.3"
 exact V4
 walk_at"~A.3,%,%+"
def Zf:FM:=box frN Vg
abbrev Yd:Stmt:=top 19
theorem G8:FnScope ["spot","k"] ["spot","k"] (Qg Yd):=⟨rfl,rfl,rfl,by decide +kernel,rfl,by decide +kernel,by decide +kernel⟩
def YD:FM:=Qz 0
  (QR (mFn QU (Qa (Qe wIx (Qb 0) (mC (.int 0))) (Qa (Qe wIx (Qb 0) (mC (.int 1))) (Qa (Qb 1) (Qa (mC (.bl false)) Qc))))))
theorem Qcr(d:DefAt K mg "at_gap" Yd ["spot","k"]):Cal P w K mg base 1 "at_gap" ["spot","k"] YD:=by
 refine Qs (k:=0) (more:=0) d G8 rfl fun _ _ _ _ _ _ _ hr=>?_;have nd_:=(G8).nd
 walk_at"~>.39#,%+#,%+#%#"
 exact ZF
 walk_at"~)"
def Jc:FM:=box frN YD
abbrev Kk:Stmt:=top 20
theorem Uu:FnScope ["spot","k"] ["spot","k"] (Qg Kk):=⟨rfl,rfl,rfl,by decide +kernel,rfl,by decide +kernel,by decide +kernel⟩
def KJ:FM:=Qz 0
  (QR (mFn QU (Qa (Qe wIx (Qb 0) (mC (.int 0))) (Qa (Qe wIx (Qb 0) (mC (.int 1))) (Qa (Qb 1) (Qa (mC (.bl true)) Qc))))))
theorem Qa8(d:DefAt K mg "at_head" Kk ["spot","k"]):Cal P w K mg base 1 "at_head" ["spot","k"] KJ:=by
 refine Qs (k:=0) (more:=0) d Uu rfl fun _ _ _ _ _ _ _ hr=>?_;have nd_:=(Uu).nd
 walk_at"~>.39#,%+#,%+#%#"
 exact ZF
 walk_at"~)"
def X9:FM:=box frN KJ
abbrev Je:Stmt:=top 4
theorem XI:FnScope ["line"] ["line"] (Qg Je):=⟨rfl,rfl,rfl,by decide +kernel,rfl,by decide +kernel,by decide +kernel⟩
def QL:FM:=Qz 0
  (Qm (Zt (GK (Qj (Qe wEq (Qe wIx (Qb 0) (mC (.int 0))) (mC (.str "either")))) (Qj (Qe wEq (Qe wIx (Qb 0) (mC (.int 0))) (mC (.str "again"))))) (QR (mC (.int 1))) Qw)
  (QR (mIf (Qj (Qe wEq (Qe wIx (Qb 0) (mC (.int 0))) (mC (.str "end")))) (mUn KN (mC (.int 1))) (mC (.int 0)))))
theorem Y2(d:DefAt K mg "level_change" Je ["line"]):Cal P w K mg base 1 "level_change" ["line"] QL:=by
 refine Qs (k:=0) (more:=0) d XI rfl fun _ _ _ _ _ _ _ hr=>?_;have nd_:=(XI).nd
 walk_at"~>*7"
 refine PMW.pt ?_;refine VH ?_ ?_
 walk_at"~2?,%+F"
 refine JO ?_
 walk_at"~2?,%+F.3+A.3"
 refine Qhk ?_ ?_ ?_
 walk_at"~2?,%+F"
 refine Zo ?_
 walk_at"~++"
def Zp:FM:=box frN QL
abbrev Km:Stmt:=top 3
theorem Ut:FnScope ["lines","k","level","j"] ["lines","k"] (Qg Km):=⟨rfl,rfl,rfl,by decide +kernel,rfl,by decide +kernel,by decide +kernel⟩
abbrev YX:SM:=(Qm (Qkt 2 QeS (Qi 1 Zp (Qa (Qe wIx (Qb 0) (Qb 3)) Qc)))
  (Zt (Qj (Qe wEq (Qb 2) (mC (.int 1)))) (QR (Qb 3)) Qw))
def KA:FM:=Qz 2
  (Qm (QK 2 (mC (.int 0)))
  (Qm (Zm (QhS (Qa (Qe QbS (Qb 1) (mC (.int 1))) (Qa (mUn KN (mC (.int 1))) (Qa (mUn KN (mC (.int 1))) Qc)))) (Q2 3)
  YX)
  (QR (mC .non))))
theorem Qa6(d:DefAt K mg "head_of" Km ["lines","k"])(b_range:mg "range"=none)(c_level_change:Cal P w K mg base 1 "level_change" ["line"] Zp):Cal P w K mg base 2 "head_of" ["lines","k"] KA:=by
 refine Qs (k:=1) (more:=2) d Ut rfl fun _ _ _ _ _ _ _ hr=>?_;have nd_:=(Ut).nd
 walk_at"~>*-;$4+$&*=B$"
 refine QhN ?_ ?_ ?_ ?_ ?_
 walk_at"~$<#"
 refine JH Xa Qk ?_ ?_
 walk_at"~%+#"
 refine Zo ?_
 walk_at"~+#"
 refine Zo ?_
 walk_at"~+)$$C*"
 refine Qfw ?_ ?_ ?_ Qb0 Qk ?_ ?_
 walk_at"~;$4(/$#,%%)$1$$&.72?%+.3%A@.3"
 exact V4
def VW:FM:=box frN KA
abbrev Z4:Stmt:=top 5
theorem XW:FnScope ["lines","k","kind","level","j"] ["lines","k","kind"] (Qg Z4):=⟨rfl,rfl,rfl,by decide +kernel,rfl,by decide +kernel,by decide +kernel⟩
abbrev V3:SM:=(Qm (Zt (J4 (Qj (Qe wEq (Qb 3) (mC (.int 0)))) (Qj (Qe wEq (Qe wIx (Qe wIx (Qb 0) (Qb 4)) (mC (.int 0))) (Qb 2)))) (QR (Qb 4)) Qw)
  (Qkt 3 QeS (Qi 1 Zp (Qa (Qe wIx (Qb 0) (Qb 4)) Qc))))
def JR:FM:=Qz 2
  (Qm (QK 3 (mC (.int 0)))
  (Qm (Zm (QgA (Qa (Qe Zj (Qb 1) (mC (.int 1))) (Qa (mFn JB (Qa (Qb 0) Qc)) Qc))) (Q2 4)
  V3)
  (QR (mC .non))))
theorem Y6(d:DefAt K mg "found_behind" Z4 ["lines","k","kind"])(b_len:mg "len"=none)(b_range:mg "range"=none)(c_level_change:Cal P w K mg base 1 "level_change" ["line"] Zp):Cal P w K mg base 2 "found_behind" ["lines","k","kind"] JR:=by
 refine Qs (k:=1) (more:=2) d XW rfl fun _ _ _ _ _ _ _ hr=>?_;have nd_:=(XW).nd
 walk_at"~>*-;$4+$&*=B$"
 refine Qih ?_ ?_ ?_ ?_ ?_
 walk_at"~$<#5%+#0$<#%)11$$)$$C*7"
 refine PMW.pt ?_;refine Jg ?_ ?_
 walk_at"~2?%+"
 refine ZU ?_
 walk_at"~2?,,%%+%.3%A."
 refine Qfw ?_ ?_ ?_ Qb0 Qk ?_ ?_
 walk_at"~;$4(/$#,%%)$1$$&@.3"
 exact V4
def QS:FM:=box frN JR
abbrev Wc:Stmt:=top 2
theorem QbI:FnScope ["lines","k"] ["lines","k"] (Qg Wc):=⟨rfl,rfl,rfl,by decide +kernel,rfl,by decide +kernel,by decide +kernel⟩
def Ws:FM:=Qz 0
  (QR (Qi 3 QS (Qa (Qb 0) (Qa (Qb 1) (Qa (mC (.str "or")) Qc)))))
theorem Qfx(d:DefAt K mg "or_of" Wc ["lines","k"])(c_found_behind:Cal P w K mg base 2 "found_behind" ["lines","k","kind"] QS):Cal P w K mg base 3 "or_of" ["lines","k"] Ws:=by
 refine Qs (k:=2) (more:=0) d QbI rfl fun _ _ _ _ _ _ _ hr=>?_;have nd_:=(QbI).nd
 walk_at"~>.3(/$#%#%#F)$1$$"
def Wf:FM:=box frN Ws
abbrev Yg:Stmt:=top 1
theorem G5:FnScope ["lines","k"] ["lines","k"] (Qg Yg):=⟨rfl,rfl,rfl,by decide +kernel,rfl,by decide +kernel,by decide +kernel⟩
def Yr:FM:=Qz 0
  (QR (Qi 3 QS (Qa (Qb 0) (Qa (Qb 1) (Qa (mC (.str "end")) Qc)))))
theorem Qc5(d:DefAt K mg "end_of" Yg ["lines","k"])(c_found_behind:Cal P w K mg base 2 "found_behind" ["lines","k","kind"] QS):Cal P w K mg base 3 "end_of" ["lines","k"] Yr:=by
 refine Qs (k:=2) (more:=0) d G5 rfl fun _ _ _ _ _ _ _ hr=>?_;have nd_:=(G5).nd
 walk_at"~>.3(/$#%#%#F)$1$$"
def Va:FM:=box frN Yr
abbrev Z7:Stmt:=top 17
theorem XJ:FnScope ["lines","spot","k","kind"] ["lines","spot"] (Qg Z7):=⟨rfl,rfl,rfl,by decide +kernel,rfl,by decide +kernel,by decide +kernel⟩
def QJ:SM:=(Qm (Zt (Qj (Qe wEq (Qb 3) (mC (.str "either")))) (QR (mFn Vq (Qa (Qi 2 Jc (Qa (Qb 1) (Qa (Qe Zj (Qb 2) (mC (.int 1))) Qc))) (Qa (Qi 2 Jc (Qa (Qb 1) (Qa (Qe Zj (Qi 2 Wf (Qa (Qb 0) (Qa (Qb 2) Qc))) (mC (.int 1))) Qc))) Qc)))) Qw)
  (Qm (Zt (Qj (Qe wEq (Qb 3) (mC (.str "or")))) (QR (mFn Vq (Qa (Qi 2 Jc (Qa (Qb 1) (Qa (Qe Zj (Qi 2 Va (Qa (Qb 0) (Qa (Qb 2) Qc))) (mC (.int 1))) Qc))) Qc))) Qw)
  (Qm (Zt (Qj (Qe wEq (Qb 3) (mC (.str "again")))) (QR (mFn Vq (Qa (Qi 2 X9 (Qa (Qb 1) (Qa (Qb 2) Qc))) Qc))) Qw)
  (Qm (Zt (J4 (Qj (Qe wEq (Qb 3) (mC (.str "end")))) (Qj (Qe wEq (Qe wIx (Qe wIx (Qb 0) (Qi 2 VW (Qa (Qb 0) (Qa (Qb 2) Qc)))) (mC (.int 0))) (mC (.str "again"))))) (QR (mFn Vq (Qa (Qi 2 X9 (Qa (Qb 1) (Qa (Qi 2 VW (Qa (Qb 0) (Qa (Qb 2) Qc))) Qc))) Qc))) Qw)
  (QR (mFn Vq (Qa (Qi 2 Jc (Qa (Qb 1) (Qa (Qe Zj (Qb 2) (mC (.int 1))) Qc))) Qc)))))))
def Zd:FM:=Qz 2
  (Qm (QK 2 (Qe wIx (Qb 1) (mC (.int 2))))
  (Qm (QK 3 (Qe wIx (Qe wIx (Qb 0) (Qb 2)) (mC (.int 0))))
  QJ))
theorem Y0(d:DefAt K mg "next_in_part" Z7 ["lines","spot"])(c_at_gap:Cal P w K mg base 1 "at_gap" ["spot","k"] Jc)(c_at_head:Cal P w K mg base 1 "at_head" ["spot","k"] X9)(c_end_of:Cal P w K mg base 3 "end_of" ["lines","k"] Va)(c_head_of:Cal P w K mg base 2 "head_of" ["lines","k"] VW)(c_or_of:Cal P w K mg base 3 "or_of" ["lines","k"] Wf):Cal P w K mg base 4 "next_in_part" ["lines","spot"] Zd:=by
 refine Qs (k:=3) (more:=2) d XJ rfl fun _ _ _ _ _ _ _ hr=>?_;have nd_:=(XJ).nd
 walk_at"~>*-;$4,%+$&*-;$4,,%%+$&*72?%F.3E#(/$#%#5%+)$1$$#(/$#%#5(/$#%#%)$1$$+)$1$$)A*72?%F.3E#(/$#%#5(/$#%#%)$1$$+)$1$$)A*72?%F.3E#(/$#%#%)$1$$)A*7"
 refine PMW.pt ?_;refine Jg ?_ ?_
 walk_at"~2?%F"
 refine ZU ?_
 walk_at"~2?,,%(/$#%#%)$1$$+F.3E#(/$#%#(/$#%#%)$1$$)$1$$)A.3E#(/$#%#5%+)$1$$)"
def Jm:FM:=box frN Zd
abbrev VE:Stmt:=top 18
theorem YG:FnScope ["spot","way"] ["spot"] (Qg VE):=⟨rfl,rfl,rfl,by decide +kernel,rfl,by decide +kernel,by decide +kernel⟩
def J0:FM:=Qz 1
  (Qm (QK 1 (Qe wIx (Qb 0) (mC (.int 0))))
  (Qm (Zt (KY (Ue (Qb 1))) (QR (mFn Vq Qc)) Qw)
  (QR (mFn Vq (Qa (mFn QU (Qa (mSl (Qb 1) Vk (Ju (mUn KN (mC (.int 1))))) (Qa (Qe wIx (Qe wIx (Qb 1) (mUn KN (mC (.int 1)))) (mC (.int 0))) (Qa (Qe Zj (Qe wIx (Qe wIx (Qb 1) (mUn KN (mC (.int 1)))) (mC (.int 1))) (mC (.int 1))) (Qa (mC (.bl false)) Qc))))) Qc)))))
theorem Gm(d:DefAt K mg "behind_do" VE ["spot"]):Cal P w K mg base 1 "behind_do" ["spot"] J0:=by
 refine Qs (k:=0) (more:=1) d YG rfl fun _ _ _ _ _ _ _ hr=>?_;have nd_:=(YG).nd
 walk_at"~>*-;$4,%+$&*7"
 refine Vp ?_;refine ZG ?_
 walk_at"~%.3E)A.3E#9#"
 refine Zk ?_ ?_ ?_
 walk_at"~%"
 exact ZC;refine Q9 ?_;refine Zo ?_
 walk_at"~+#,,%"
 refine Zo ?_
 walk_at"~++#5,,%"
 refine Zo ?_
 walk_at"~+++#"
 exact ZF
 walk_at"~))"
def VI:FM:=box frN J0
abbrev Jy:Stmt:=top 10
theorem Kq:FnScope ["program","name"] ["program","name"] (Qg Jy):=⟨rfl,rfl,rfl,by decide +kernel,rfl,by decide +kernel,by decide +kernel⟩
def Vi:FM:=Qz 0
  (QR (mMt "list" XC (QN Jn (Qo (Qb 0)) [none] (Q2 0) Kl (Qe wIx (Qb 0) (mC (.int 0)))) (Qa (Qb 1) Qc)))
theorem WG(d:DefAt K mg "part_number" Jy ["program","name"]):Cal P w K mg base 1 "part_number" ["program","name"] Vi:=by
 refine Qs (k:=0) (more:=0) d Kq rfl fun _ _ _ _ _ _ _ hr=>?_;have nd_:=(Kq).nd
 walk_at"~>.3"
 refine Y5 N7 DQ FU (WL ?_) ?_ ?_
 walk_at"~?"
 refine JA Q4 ?_ (ZI (Nb:=["part"]) (cp:=[none]) rfl (by decide +kernel) (by decide +kernel) rfl rfl) ?_ (fun _ _ _ _ _=>?_) (fun _ _ _ _ _=>?_)
 walk_at"~$"
 refine QB ?_
 walk_at"~%:,%+#%)"
def JC:FM:=box frN Vi
abbrev J2:Stmt:=top 16
theorem Yj:FnScope ["program","spot","lines","line","way"] ["program","spot"] (Qg J2):=⟨rfl,rfl,rfl,by decide +kernel,rfl,by decide +kernel,by decide +kernel⟩
def QQ:FM:=Qz 3
  (Qm (QK 2 (Qe wIx (Qe wIx (Qb 0) (Qe wIx (Qb 1) (mC (.int 1)))) (mC (.int 1))))
  (Qm (Zt (Ue (Qe wIx (Qb 1) (mC (.int 3)))) (QR (mFn Vq (Qa (Qi 2 Jc (Qa (Qb 1) (Qa (Qe Zj (Qi 2 Va (Qa (Qb 2) (Qa (Qe wIx (Qb 1) (mC (.int 2))) Qc))) (mC (.int 1))) Qc))) (Qa (Qi 2 Jc (Qa (Qb 1) (Qa (Qe Zj (Qe wIx (Qb 1) (mC (.int 2))) (mC (.int 1))) Qc))) Qc)))) Qw)
  (Qm (QK 3 (Qi 2 Zf (Qa (Qb 0) (Qa (Qb 1) Qc))))
  (Qm (Zt (Qj (Qe wIs (Qb 3) (mC .non))) (QR (Qi 1 VI (Qa (Qb 1) Qc))) Qw)
  (Qm (Zt (Qj (Qe wEq (Qe wIx (Qb 3) (mC (.int 0))) (mC (.str "do")))) (Qm (QK 4 (Qe Zj (Qe wIx (Qb 1) (mC (.int 0))) (mFn QU (Qa (mFn QU (Qa (Qe wIx (Qb 1) (mC (.int 1))) (Qa (Qe wIx (Qb 1) (mC (.int 2))) Qc))) Qc))))
  (QR (mFn Vq (Qa (mFn QU (Qa (Qb 4) (Qa (Qi 2 JC (Qa (Qb 0) (Qa (Qe wIx (Qb 3) (mC (.int 1))) Qc))) (Qa (mC (.int 0)) (Qa (mC (.bl false)) Qc))))) Qc)))) Qw)
  (QR (Qi 2 Jm (Qa (Qb 2) (Qa (Qb 1) Qc)))))))))
theorem Uf(d:DefAt K mg "next_spots" J2 ["program","spot"])(c_at_gap:Cal P w K mg base 1 "at_gap" ["spot","k"] Jc)(c_behind_do:Cal P w K mg base 1 "behind_do" ["spot"] VI)(c_end_of:Cal P w K mg base 3 "end_of" ["lines","k"] Va)(c_line_of:Cal P w K mg base 1 "line_of" ["program","spot"] Zf)(c_next_in_part:Cal P w K mg base 4 "next_in_part" ["lines","spot"] Jm)(c_part_number:Cal P w K mg base 1 "part_number" ["program","name"] JC):Cal P w K mg base 5 "next_spots" ["program","spot"] QQ:=by
 refine Qs (k:=4) (more:=3) d Yj rfl fun _ _ _ _ _ _ _ hr=>?_;have nd_:=(Yj).nd
 walk_at"~>*-;$4,,%,%++$&*7"
 refine ZG ?_
 walk_at"~,%+.3E#(/$#%#5(/$#%#,%+)$1$$+)$1$$#(/$#%#5,%++)$1$$)A*-;$4(/$#%#%)$1$$$&*7"
 refine Qn Qh4 Qk ?_ ?_
 walk_at"~%"
 exact V4
 walk_at"~.3(/$#%)$1$$A*72?,%+F*-;$45,%+9#9#,%+#,%+))$&.3E#9#%#(/$#%#,%+)$1$$#+#"
 exact ZF
 walk_at"~))A.3(/$#%#%)$1$$"
def QC:FM:=box frN QQ
abbrev Wb:Stmt:=top 24
theorem QbX:FnScope ["program","met","waiting","spot","later"] ["program"] (Qg Wb):=⟨rfl,rfl,rfl,by decide +kernel,rfl,by decide +kernel,by decide +kernel⟩
abbrev Uy:SM:=(Jb (mMt "list" QY (Qb 2) (Qa (Qb 4) Qc)))
abbrev Yz:SM:=(Qm (QK 3 (mMt "list" Qj2 (Qb 2) Qc))
  (Zt (Qj (Qe (UI true) (Qb 3) (Qb 1))) (Qm (KB (Qb 1) (Qb 3) (mC (.bl true)))
  (Zm (Qha (Qa (Qi 2 QC (Qa (Qb 0) (Qa (Qb 3) Qc))) Qc)) (Q2 4)
  Uy)) Qw))
def WD:FM:=Qz 4
  (Qm (QK 1 WS)
  (Qm (QK 2 (mFn Yq (Qa (Qi 0 Xc Qc) Qc)))
  (Qm (QP (Ue (Qb 2)) Yz 20000000)
  (QR (mFn Xv (Qa (Qb 1) Qc))))))
theorem QdC(d:DefAt K mg "spots" Wb ["program"])(b_list:mg "list"=none)(b_reversed:mg "reversed"=none)(c_first_spot:Cal P w K mg base 1 "first_spot" [] Xc)(c_next_spots:Cal P w K mg base 5 "next_spots" ["program","spot"] QC):Cal P w K mg base 6 "spots" ["program"] WD:=by
 refine Qs (k:=5) (more:=4) d QbX rfl fun _ _ _ _ _ _ _ hr=>?_;have nd_:=(QbX).nd
 walk_at"~>*-;$4"
 exact WK
 walk_at"~$&*-;$4"
 refine Z8 ?_
 walk_at"~#"
 exact Qeb c_first_spot (hr.mono (by decide)) rfl
 walk_at"~)$&*"
 refine W4 20000000 ?_ ?_ ?_
 walk_at"~B"
 refine ZG ?_
 walk_at"~%*-;$4"
 refine Qcc N7 DH Fa Ga ?_
 walk_at"~%$&.7"
 refine Qn (V1 ?_) Qk ?_ ?_
 walk_at"~?%%*"
 refine Ke ?_ ?_ ?_ ?_ ?_
 walk_at"~?%%"
 exact ZF
 walk_at"~$.=B$"
 refine Qjz ?_ ?_ ?_ ?_
 walk_at"~$<#(/$#%#%)$1$$)$C."
 refine Qx ?_
 walk_at"~6%#%)@A.3"
 refine ZN (KH ?_) QD ?_ ?_ ET ?_ ?_ ?_ ?_ ?_
 walk_at"~$$<#%)11$$"
def Jj:FM:=box frN WD
abbrev ZE:Stmt:=top 22
theorem VZ:FnScope ["manner","words","word","place"] ["manner"] (Qg ZE):=⟨rfl,rfl,rfl,by decide +kernel,rfl,by decide +kernel,by decide +kernel⟩
abbrev ZX:SM:=(Jb (mMt "list" QY (mMt "dict" QfJ (Qb 1) (Qa (Qb 3) (Qa (mFn Yq Qc) Qc))) (Qa (Qb 2) Qc)))
def QX:FM:=Qz 3
  (Qm (QK 1 WS)
  (Qm (Zm (Qo (Qb 0)) (Zb [2,3])
  ZX)
  (QR (Qb 1))))
theorem Ym(d:DefAt K mg "words_by_place" ZE ["manner"]):Cal P w K mg base 1 "words_by_place" ["manner"] QX:=by
 refine Qs (k:=0) (more:=3) d VZ rfl fun _ _ _ _ _ _ _ hr=>?_;have nd_:=(VZ).nd
 walk_at"~>*-;$4"
 exact WK
 walk_at"~$&*=B$"
 refine QB ?_
 walk_at"~%"
 refine Q1 ?_ ?_ ?_ ?_
 walk_at"~$88"
 exact Q0
 walk_at"~&&$$."
 refine Qx ?_
 walk_at"~6"
 refine Y5 Dl EW Fb (Qdg ?_) ?_ ?_
 walk_at"~?%#%#"
 refine Z8 ?_
 walk_at"~))#%)@.3%"
def Jv:FM:=box frR QX
abbrev Xf:Stmt:=top 14
theorem WM:FnScope ["spot"] ["spot"] (Qg Xf):=⟨rfl,rfl,rfl,by decide +kernel,rfl,by decide +kernel,by decide +kernel⟩
def XN:FM:=Qz 0
  (QR (mIf (Ue (Qe wIx (Qb 0) (mC (.int 3)))) (mC .non) (mFn QU (Qa (Qe wIx (Qb 0) (mC (.int 1))) (Qa (Qe wIx (Qb 0) (mC (.int 2))) Qc)))))
theorem GO(d:DefAt K mg "place_of" Xf ["spot"]):Cal P w K mg base 1 "place_of" ["spot"] XN:=by
 refine Qs (k:=0) (more:=0) d WM rfl fun _ _ _ _ _ _ _ hr=>?_;have nd_:=(WM).nd
 walk_at"~>.3"
 refine Qhk ?_ ?_ ?_;refine ZG ?_
 walk_at"~,%+"
 exact V4
 walk_at"~9#,%+#,%+)"
def Jr:FM:=box frN XN
abbrev Xh:Stmt:=top 26
theorem WC:FnScope ["program","listed","numbers","steps","n","spot","line","later"] ["program"] (Qg Xh):=⟨rfl,rfl,rfl,by decide +kernel,rfl,by decide +kernel,by decide +kernel⟩
abbrev Yl:SM:=(Jb (mMt "list" QY (Qb 3) (Qa (mFn QU (Qa (Qb 4) (Qa (Qb 6) (Qa (Qe U2 (Qb 2) (Qb 7)) (Qa (Qi 1 Jr (Qa (Qb 7) Qc)) Qc))))) Qc)))
abbrev KZ:SM:=(Qm (QK 6 (Qi 2 Zf (Qa (Qb 0) (Qa (Qb 5) Qc))))
  (Zm (Qo (Qi 2 QC (Qa (Qb 0) (Qa (Qb 5) Qc)))) (Q2 7)
  Yl))
def XH:FM:=Qz 7
  (Qm (QK 1 (Qi 1 Jj (Qa (Qb 0) Qc)))
  (Qm (QK 2 (mFn WI (Qa (QN Jn (XD (Qa (Qb 1) Qc)) [none,none] (Zb [0,1]) Kl (mFn QU (Qa (Qb 1) (Qa (Qb 0) Qc)))) Qc)))
  (Qm (QK 3 (mFn Yq Qc))
  (Qm (Zm (XD (Qa (Qb 1) Qc)) (Zb [4,5])
  KZ)
  (QR (Qb 3))))))
theorem Qaa(d:DefAt K mg "steps_of" Xh ["program"])(b_dict:mg "dict"=none)(b_enumerate:mg "enumerate"=none)(c_line_of:Cal P w K mg base 1 "line_of" ["program","spot"] Zf)(c_next_spots:Cal P w K mg base 5 "next_spots" ["program","spot"] QC)(c_place_of:Cal P w K mg base 1 "place_of" ["spot"] Jr)(c_spots:Cal P w K mg base 6 "spots" ["program"] Jj):Cal P w K mg base 7 "steps_of" ["program"] XH:=by
 refine Qs (k:=6) (more:=7) d WC rfl fun _ _ _ _ _ _ _ hr=>?_;have nd_:=(WC).nd
 walk_at"~>*-;$4(/$#%)$1$$$&*-;$4"
 refine ZN (Qan ?_ ?_) QD ?_ ?_ PyProof.Rows.boot_dict ?_ ?_ ?_ ?_ ?_
 walk_at"~$?$<#"
 refine JA Q4 ?_ (ZI (Nb:=["n","spot"]) (cp:=[none,none]) rfl (by decide +kernel) (by decide +kernel) rfl rfl) ?_ (fun _ _ _ _ _=>?_) (fun _ _ _ _ _=>?_)
 walk_at"~$"
 refine Qaf ?_ ?_ ?_ ?_
 walk_at"~$<#%)$"
 refine Q1 ?_ ?_ ?_ ?_
 walk_at"~$"
 refine Zq (by dsimp only[blk];decide +kernel) rfl (Or.inl rfl) ?_ ?_;refine Zq (by dsimp only[blk];decide +kernel) rfl (Or.inl rfl) ?_ ?_;exact Q0
 walk_at"~&&$$9#%#%))11$$$&*-;$4"
 refine Z8 ?_
 walk_at"~)$&*=B$"
 refine Qaf ?_ ?_ ?_ ?_
 walk_at"~$<#%)$"
 refine Q1 ?_ ?_ ?_ ?_
 walk_at"~$88"
 exact Q0
 walk_at"~&&$$*-;$4(/$#%#%)$1$$$&.=B$"
 refine QB ?_
 walk_at"~(/$#%#%)$1$$C."
 refine Qx ?_
 walk_at"~6%#9#%#%#"
 refine XT ?_ ?_ ?_ ?_
 walk_at"~?%%"
 exact fun _ _=>rfl
 walk_at"~#(/$#%)$1$$))@@.3%"
def V5:FM:=box frN XH
abbrev VB:Stmt:=top 7
theorem YS:FnScope ["line"] ["line"] (Qg VB):=⟨rfl,rfl,rfl,by decide +kernel,rfl,by decide +kernel,by decide +kernel⟩
def Jh:FM:=Qz 0
  (QR (mIf (J4 (Qj (Qe Qbm (Qb 0) (mC .non))) (Qj (Qe wEq (Qe wIx (Qb 0) (mC (.int 0))) (mC (.str "pair"))))) (Qe wIx (Qb 0) (mC (.int 2))) (mC .non)))
theorem U7(d:DefAt K mg "made_word" VB ["line"]):Cal P w K mg base 1 "made_word" ["line"] Jh:=by
 refine Qs (k:=0) (more:=0) d YS rfl fun _ _ _ _ _ _ _ hr=>?_;have nd_:=(YS).nd
 walk_at"~>.3"
 refine Qhk ?_ ?_ ?_;refine PMW.pt ?_;refine Jg ?_ ?_;refine Qn QeY Qk ?_ ?_
 walk_at"~%"
 exact V4;refine ZU ?_
 walk_at"~2?,%+F,%+"
 exact V4
def Vv:FM:=box frN Jh
abbrev Xu:Stmt:=top 31
theorem W6:FnScope ["program","manner","listed","words","ahead","n","line","m","m_place","given"] ["program","manner"] (Qg Xu):=⟨rfl,rfl,rfl,by decide +kernel,rfl,by decide +kernel,by decide +kernel⟩
abbrev V9:SM:=(Qm (QK 9 (mMt "dict" Qcg (Qb 3) (Qa (Qi 1 Jr (Qa (Qe wIx (Qb 2) (Qb 5)) Qc)) (Qa (mFn Vq Qc) Qc))))
  (Jb (mMt "list" QY (mMt "dict" Qj0 (Qb 4) (Qa (Qb 7) (Qa (mFn Yq Qc) Qc))) (Qa (mFn QU (Qa (Qb 5) (Qa (Qb 9) (Qa (Qi 1 Vv (Qa (Qb 6) Qc)) Qc)))) Qc))))
def JM:FM:=Qz 8
  (Qm (QK 2 (Qi 1 Jj (Qa (Qb 0) Qc)))
  (Qm (QK 3 (Qi 1 Jv (Qa (Qb 1) Qc)))
  (Qm (QK 4 Qkm)
  (Qm (Zm (Qo (Qi 1 V5 (Qa (Qb 0) Qc))) (Zb [5,6,7,8])
  V9)
  (QR (Qb 4))))))
theorem G6(d:DefAt K mg "steps_to" Xu ["program","manner"])(c_made_word:Cal P w K mg base 1 "made_word" ["line"] Vv)(c_place_of:Cal P w K mg base 1 "place_of" ["spot"] Jr)(c_spots:Cal P w K mg base 6 "spots" ["program"] Jj)(c_steps_of:Cal P w K mg base 7 "steps_of" ["program"] V5)(c_words_by_place:Cal P w K mg base 1 "words_by_place" ["manner"] Jv):Cal P w K mg base 8 "steps_to" ["program","manner"] JM:=by
 refine Qs (k:=7) (more:=8) d W6 rfl fun _ _ _ _ _ _ _ hr=>?_;have nd_:=(W6).nd
 walk_at"~>*-;$4(/$#%)$1$$$&*-;$4(/$#%)$1$$$&*-;$4"
 exact Qki
 walk_at"~$&*=B$"
 refine QB ?_
 walk_at"~(/$#%)$1$$"
 refine Q1 ?_ ?_ ?_ ?_
 walk_at"~$8888"
 exact Q0
 walk_at"~&&&&$$*-;$4"
 refine Y5 Dl Dy Oc (QfE ?_) ?_ ?_
 walk_at"~?%#(/$#,%%)$1$$#E))$&."
 refine Qx ?_
 walk_at"~6"
 refine Y5 Dl EW Fb (Qj6 ?_) ?_ ?_
 walk_at"~?%#%#"
 refine Z8 ?_
 walk_at"~))#9#%#%#(/$#%)$1$$))@.3%"
def KF:FM:=box frR JM
abbrev Vx:Stmt:=top 29
theorem YM:FnScope ["words"] ["words"] (Qg Vx):=⟨rfl,rfl,rfl,by decide +kernel,rfl,by decide +kernel,by decide +kernel⟩
def Xd:FM:=Qz 0
  (QR (Qe wEq (mFn Qa7 (Qa (Qb 0) Qc)) (mFn XQ (Qa (Qb 0) Qc))))
theorem UR(d:DefAt K mg "is_rising" Vx ["words"])(b_list:mg "list"=none)(b_set:mg "set"=none)(b_sorted:mg "sorted"=none):Cal P w K mg base 1 "is_rising" ["words"] Xd:=by
 refine Qs (k:=0) (more:=0) d YM rfl fun _ _ _ _ _ _ _ hr=>?_;have nd_:=(YM).nd
 walk_at"~>.3"
 refine Qax (QhZ ?_) Qk ?_ ?_
 walk_at"~?"
 refine ZN Yv QD ?_ ?_ ET ?_ ?_ ?_ ?_ ?_
 walk_at"~$<#%)11$$"
 refine UQ ?_ ?_ ?_ ?_ ?_ ?_ ?_
 walk_at"~$$<$<%$"
def VG:FM:=box frN Xd
abbrev ZA:Stmt:=top 28
theorem KO:FnScope ["program","manner","number","table","numbers","n","words","count","every"] ["program","manner","number","table"] (Qg ZA):=⟨rfl,rfl,rfl,by decide +kernel,rfl,by decide +kernel,by decide +kernel⟩
abbrev XX:SM:=(Qm (Zt (GK (Qj (Qe (UI false) (mFn QU (Qa (Qb 5) (Qa (Qb 6) Qc))) (Qb 4))) (KY (Ue (Qi 1 VG (Qa (Qb 6) Qc))))) (QR (mC (.bl false))) Qw)
  (KB (Qb 4) (mFn QU (Qa (Qb 5) (Qa (Qb 6) Qc))) (Qb 7)))
def ZK:FM:=Qz 5
  (Qm (QK 4 WS)
  (Qm (Zm (Qo (Qb 3)) (Zb [5,6,7])
  XX)
  (Qm (QK 8 (mFn JS (Qa (Qi 1 KL (Qa (Qb 0) Qc)) Qc)))
  (Qm (Zt (KY (Ue (mFn Qku (Qa (QN Jn (Wi (Qa (mFn JB (Qa (Qi 1 Jj (Qa (Qb 0) Qc)) Qc)) Qc)) [none,some 4,some 8] (Q2 0) Kl (Qe (UI false) (mFn QU (Qa (Qb 0) (Qa (Qb 2) Qc))) (Qb 1))) Qc)))) (QR (mC (.bl false))) Qw)
  (Qm (Zt (KY (Ue (mFn Qku (Qa (QN Jn (Jl (Qb 4)) [none,some 2,some 4,some 8] (Q2 0) (Qj (Qe wEq (Qe wIx (Qb 0) (mC (.int 1))) (Qb 3))) (Qe wLe (Qe U2 (Qb 2) (Qb 0)) (Qb 1))) Qc)))) (QR (mC (.bl false))) Qw)
  (QR (Qi 2 Z9 (Qa (Qi 2 KF (Qa (Qb 0) (Qa (Qb 1) Qc))) (Qa (Qb 4) Qc)))))))))
theorem Ua(d:DefAt K mg "shows_most" ZA ["program","manner","number","table"])(b_all:mg "all"=none)(b_len:mg "len"=none)(b_range:mg "range"=none)(b_tuple:mg "tuple"=none)(c_is_closed_table:Cal P w K mg base 2 "is_closed_table" ["ahead","numbers"] Z9)(c_is_rising:Cal P w K mg base 1 "is_rising" ["words"] VG)(c_spots:Cal P w K mg base 6 "spots" ["program"] Jj)(c_steps_to:Cal P w K mg base 8 "steps_to" ["program","manner"] KF)(c_words_of:Cal P w K mg base 2 "words_of" ["program"] KL):Cal P w K mg base 9 "shows_most" ["program","manner","number","table"] ZK:=by
 refine Qs (k:=8) (more:=5) d KO rfl fun _ _ _ _ _ _ _ hr=>?_;have nd_:=(KO).nd
 walk_at"~>*-;$"
 exact(Or.inr rfl);exact WK
 walk_at"~$&*=B$"
 refine QB ?_
 walk_at"~%"
 refine Q1 ?_ ?_ ?_ ?_
 walk_at"~$888"
 exact Q0
 walk_at"~&&&$$*7"
 refine PMW.pt ?_;refine VH ?_ ?_;refine Qn (Qa3 ?_) Qk ?_ ?_
 walk_at"~?9#%#%)%"
 refine JO ?_;refine Vp ?_;refine ZG ?_
 walk_at"~(/$#%)$1$$.3"
 exact ZF
 walk_at"~A."
 refine Ke ?_ ?_ ?_ ?_ ?_
 walk_at"~?%9#%#%)%$@*-;$"
 exact(Or.inr rfl)
 walk_at"~D$<#(/$#%)$1$$)11$$$&*7"
 refine Vp ?_;refine ZG ?_;refine ZS (G0 ?_) QD ?_ ?_ Od ?_ ?_ ?_ ?_ ?_
 walk_at"~$$<#"
 refine JA Q4 ?_ (XS (ks:=["numbers","every"]) (Nb:=["n","numbers","every"]) (cp:=[none,some 4,some 8]) (N:=["program","manner","number","table","numbers","n","words","count","every"]) (xs:=(Qg ZA)) rfl rfl (by decide +kernel) rfl (by decide +kernel) (by intro p hp;simp only[NE,N5,or_false]at hp;rcases hp with rfl|rfl<;>rfl) rfl rfl rfl (by decide +kernel)) ?_ (fun _ _ _ _ _=>?_) (fun _ _ _ _ _=>?_)
 walk_at"~$"
 refine Kx ?_ ?_ ?_ ?_
 walk_at"~$<#0$<#(/$#%)$1$$)11$$)$:"
 refine Qax (Qa3 ?_) Qk ?_ ?_
 walk_at"~?9#%#%)%)11$$.3"
 exact ZF
 walk_at"~A*7"
 refine Vp ?_;refine ZG ?_;refine ZS (G0 ?_) QD ?_ ?_ Od ?_ ?_ ?_ ?_ ?_
 walk_at"~$$<#"
 refine Vt Q4 ?_ (XS (ks:=["numbers","number","every"]) (Nb:=["key","number","numbers","every"]) (cp:=[none,some 2,some 4,some 8]) (N:=["program","manner","number","table","numbers","n","words","count","every"]) (xs:=(Qg ZA)) rfl rfl (by decide +kernel) rfl (by decide +kernel) (by intro p hp;simp only[NE,N5,or_false]at hp;rcases hp with rfl|rfl|rfl<;>rfl) rfl rfl rfl (by decide +kernel)) ?_ (fun _ _ _ _ _=>?_) (fun _ _ _ _ _=>?_) (fun _ _ _ _ _=>?_)
 walk_at"~$"
 refine K6 ?_
 walk_at"~%:2?,%+%"
 refine Qax Qic Qk ?_ ?_;refine XT ?_ ?_ ?_ ?_
 walk_at"~?%%"
 exact fun _ _=>rfl
 walk_at"~%)11$$.3"
 exact ZF
 walk_at"~A.3(/$#(/$#%#%)$1$$#%)$1$$"
def Xm:FM:=box frN ZK
abbrev J3:Stmt:=top 48
theorem K2:FnScope ["found"] ["found"] (Qg J3):=⟨rfl,rfl,rfl,by decide +kernel,rfl,by decide +kernel,by decide +kernel⟩
def VL:FM:=Qz 0
  (QR (QnL (mFn Qhw (Qa (Qb 0) (Qa (mC (.ty "int")) Qc))) (Qn2 (mFn Qhw (Qa (Qb 0) (Qa (mC (.ty "bool")) Qc))))))
theorem Ub(d:DefAt K mg "_law_whole" J3 ["found"])(b_bool:mg "bool"=none)(b_int:mg "int"=none)(b_isinstance:mg "isinstance"=none):Cal P w K mg base 1 "_law_whole" ["found"] VL:=by
 refine Qs (k:=0) (more:=0) d K2 rfl fun _ _ _ _ _ _ _ hr=>?_;have nd_:=(K2).nd
 walk_at"~>.3"
 refine QlG ?_ ?_;refine ZS X7 QD ?_ ?_ EY ?_ ?_ ?_ ?_ ?_
 walk_at"~$<#%#"
 exact QeZ rfl b_int Ip
 walk_at"~)11$$"
 refine Qle ?_;refine QkS ?_;refine ZS X7 QD ?_ ?_ EY ?_ ?_ ?_ ?_ ?_
 walk_at"~$<#%#"
 exact QeZ rfl b_bool L4
 walk_at"~)11$$"
def JV:FM:=box frN VL
abbrev Z5:Stmt:=top 50
theorem X5:FnScope ["table","many","found","row"] ["table","many"] (Qg Z5):=⟨rfl,rfl,rfl,by decide +kernel,rfl,by decide +kernel,by decide +kernel⟩
abbrev Zz:SM:=(Qm (Zt (GK (KY (Ue (mFn Qhw (Qa (Qb 3) (Qa (mC (.ty "tuple")) Qc))))) (GK (Qj (Qe wNe (mFn JB (Qa (Qb 3) Qc)) (mC (.int 3)))) (KY (Ue (mFn Qhw (Qa (Qe wIx (Qb 3) (mC (.int 1))) (Qa (mC (.ty "tuple")) Qc))))))) (QR (mC .non)) Qw)
  (Qm (Zt (GK (KY (Ue (Qi 1 JV (Qa (Qe wIx (Qb 3) (mC (.int 0))) Qc)))) (GK (KY (Ue (Qi 1 JV (Qa (Qe wIx (Qb 3) (mC (.int 2))) Qc)))) (Qj (Qe (UI false) (mSl (Qb 3) Vk (Ju (mC (.int 2)))) (Qb 2))))) (QR (mC .non)) Qw)
  (Qm (Zt (GK (KY (Qj (QaB wLe wLt (mC (.int 0)) (Qe wIx (Qb 3) (mC (.int 0))) (Qb 1)))) (Qj (Qe wLt (Qe wIx (Qb 3) (mC (.int 2))) (mC (.int 0))))) (QR (mC .non)) Qw)
  (KB (Qb 2) (mSl (Qb 3) Vk (Ju (mC (.int 2)))) (Qe wIx (Qb 3) (mC (.int 2)))))))
def ZT:FM:=Qz 2
  (Qm (QK 2 WS)
  (Qm (Zm (Qo (Qb 0)) (Q2 3)
  Zz)
  (QR (Qb 2))))
theorem Y3(d:DefAt K mg "_law_entries" Z5 ["table","many"])(b_isinstance:mg "isinstance"=none)(b_len:mg "len"=none)(b_tuple:mg "tuple"=none)(c__law_whole:Cal P w K mg base 1 "_law_whole" ["found"] JV):Cal P w K mg base 2 "_law_entries" ["table","many"] ZT:=by
 refine Qs (k:=1) (more:=2) d X5 rfl fun _ _ _ _ _ _ _ hr=>?_;have nd_:=(X5).nd
 walk_at"~>*-;$4"
 exact WK
 walk_at"~$&*=B$"
 refine QB ?_
 walk_at"~%C*7"
 refine PMW.pt ?_;refine VH ?_ ?_;refine Vp ?_;refine ZG ?_;refine ZS X7 QD ?_ ?_ EY ?_ ?_ ?_ ?_ ?_
 walk_at"~$<#%#"
 exact QeZ rfl b_tuple FT
 walk_at"~)11$$"
 refine VH ?_ ?_;refine Qn (QeG ?_) Qk ?_ ?_
 walk_at"~?0$<#%)11$$+"
 refine JO ?_;refine Vp ?_;refine ZG ?_;refine ZS X7 QD ?_ ?_ EY ?_ ?_ ?_ ?_ ?_
 walk_at"~$<#,%+#"
 exact QeZ rfl b_tuple FT
 walk_at"~)11$$.3"
 exact V4
 walk_at"~A*7"
 refine PMW.pt ?_;refine VH ?_ ?_;refine Vp ?_;refine ZG ?_
 walk_at"~(/$#,%+)$1$$"
 refine VH ?_ ?_;refine Vp ?_;refine ZG ?_
 walk_at"~(/$#,%+)$1$$"
 refine JO ?_;refine Qn (Qa3 ?_) Qk ?_ ?_
 walk_at"~?"
 refine Zk ?_ ?_ ?_
 walk_at"~%"
 exact ZC;refine Q9 ?_
 walk_at"~+%.3"
 exact V4
 walk_at"~A*7"
 refine PMW.pt ?_;refine VH ?_ ?_;refine Vp ?_;refine QdU Qic Qk XO Qk ?_ ?_ ?_
 walk_at"~+,%+%"
 refine JO ?_;refine Qn XO Qk ?_ ?_
 walk_at"~,%++.3"
 exact V4
 walk_at"~A."
 refine Ke ?_ ?_ ?_ ?_ ?_
 walk_at"~?%"
 refine Zk ?_ ?_ ?_
 walk_at"~%"
 exact ZC;refine Q9 ?_
 walk_at"~+,%+$@.3%"
def Vd:FM:=box frR ZT
abbrev Jk:Stmt:=top 51
theorem Yo:FnScope ["program","rows","manner","table","number","every","words","found","n","ahead","some","p","gone","left","more","here"] ["program","rows","manner","table","number"] (Qg Jk):=⟨rfl,rfl,rfl,by decide +kernel,rfl,by decide +kernel,by decide +kernel⟩
abbrev Xz:SM:=(Zt (GK (Qj (Qe (UI true) (mFn QU (Qa (Qb 8) (Qa (Qb 6) Qc))) (Qb 7))) (Qj (Qe wGt (Qe U2 (Qb 7) (mFn QU (Qa (Qb 8) (Qa (Qb 6) Qc)))) (Qb 4)))) (QR (mC (.bl false))) Qw)
abbrev Vj:SM:=(Qm (QK 12 (Qi 2 Zc (Qa (Qb 2) (Qa (Qe wIx (Qb 5) (Qb 11)) Qc))))
  (Qm (QK 13 (mFn JS (Qa (QN Jn (Qo (Qb 10)) [none,some 12] (Q2 0) (Qj (Qe (wIn true) (Qb 0) (Qb 1))) (Qb 0)) Qc)))
  (Qm (QK 14 (mFn Qkr (Qa (Qe (wIn false) (Qi 2 Zn (Qa (Qb 0) (Qa (Qe wIx (Qb 5) (Qb 11)) Qc))) (Qb 10)) Qc)))
  (Qm (QK 15 (Qe U2 (Qb 7) (mFn QU (Qa (Qb 8) (Qa (Qb 10) Qc)))))
  (Zt (GK (Qj (Qe (UI true) (mFn QU (Qa (Qb 11) (Qa (Qb 13) Qc))) (Qb 7))) (Qj (Qe wLt (Qb 15) (Qe Zj (Qe U2 (Qb 7) (mFn QU (Qa (Qb 11) (Qa (Qb 13) Qc)))) (Qb 14))))) (QR (mC (.bl false))) Qw)))))
abbrev X1:SM:=(Zm (Qo (Qe wIx (Qb 9) (Qb 8))) (Q2 11)
  Vj)
def Zg:FM:=Qz 11
  (Qm (QK 5 (Qi 2 Jq (Qa (Qb 0) (Qa (Qb 1) Qc))))
  (Qm (QK 6 (mFn JS (Qa (Qi 1 QI (Qa (Qb 0) Qc)) Qc)))
  (Qm (QK 7 (Qi 2 Vd (Qa (Qb 3) (Qa (mFn JB (Qa (Qb 5) Qc)) Qc))))
  (Qm (Zt (Qj (Qe wIs (Qb 7) (mC .non))) (QR (mC (.bl false))) Qw)
  (Qm (Zm (Wi (Qa (mFn JB (Qa (Qb 5) Qc)) Qc)) (Q2 8)
  Xz)
  (Qm (QK 9 (Qi 3 Za (Qa (Qb 0) (Qa (Qb 1) (Qa (Qb 5) Qc)))))
  (Qm (Zm (Jl (Qb 7)) (Zb [8,10])
  X1)
  (QR (mC (.bl true))))))))))
theorem Uh(d:DefAt K mg "_law_bears" Jk ["program","rows","manner","table","number"])(b_int:mg "int"=none)(b_len:mg "len"=none)(b_range:mg "range"=none)(b_tuple:mg "tuple"=none)(c__law_ahead:Cal P w K mg base 2 "_law_ahead" ["program","rows","every"] Za)(c__law_all:Cal P w K mg base 2 "_law_all" ["program","rows"] Jq)(c__law_entries:Cal P w K mg base 2 "_law_entries" ["table","many"] Vd)(c__law_given:Cal P w K mg base 1 "_law_given" ["manner","spot"] Zc)(c__law_made:Cal P w K mg base 1 "_law_made" ["program","spot"] Zn)(c__law_words:Cal P w K mg base 1 "_law_words" ["program"] QI):Cal P w K mg base 3 "_law_bears" ["program","rows","manner","table","number"] Zg:=by
 refine Qs (k:=2) (more:=11) d Yo rfl fun _ _ _ _ _ _ _ hr=>?_;have nd_:=(Yo).nd
 walk_at"~>*-;$4(/$#%#%)$1$$$&*-;$4D$<#(/$#%)$1$$)11$$$&*-;$4(/$#%#0$<#%)11$$)$1$$$&*7"
 refine Qn Qh4 Qk ?_ ?_
 walk_at"~%"
 exact V4
 walk_at"~.3"
 exact ZF
 walk_at"~A*=B$"
 refine Kx ?_ ?_ ?_ ?_
 walk_at"~$<#0$<#%)11$$)$C.7"
 refine PMW.pt ?_;refine VH ?_ ?_;refine Qn (V1 ?_) Qk ?_ ?_
 walk_at"~?9#%#%)%"
 refine JO ?_;refine Qn XR Qk ?_ ?_;refine XT ?_ ?_ ?_ ?_
 walk_at"~?%9#%#%)"
 exact fun _ _=>rfl
 walk_at"~%.3"
 exact ZF
 walk_at"~A@*-;$4(/$#%#%#%)$1$$$&*=B$"
 refine K6 ?_
 walk_at"~%"
 refine Q1 ?_ ?_ ?_ ?_
 walk_at"~$88"
 exact Q0
 walk_at"~&&$$.=B$"
 refine QB ?_
 walk_at"~,%%C*-;$"
 exact(Or.inr rfl)
 walk_at"~(/$#%#,%%)$1$$$&*-;$4D$<#"
 refine Vt Q4 ?_ (XS (ks:=["gone"]) (Nb:=["word","gone"]) (cp:=[none,some 12]) (N:=["program","rows","manner","table","number","every","words","found","n","ahead","some","p","gone","left","more","here"]) (xs:=(Qg Jk)) rfl rfl (by decide +kernel) rfl (by decide +kernel) (by intro p hp;simp only[NE,N5,or_false]at hp;rcases hp with rfl<;>rfl) rfl rfl rfl (by decide +kernel)) ?_ (fun _ _ _ _ _=>?_) (fun _ _ _ _ _=>?_) (fun _ _ _ _ _=>?_)
 walk_at"~$"
 refine QB ?_
 walk_at"~%:"
 refine Qn (KW ?_) Qk ?_ ?_
 walk_at"~?%%%)11$$$&*-;$4"
 refine ZN Qak QD ?_ ?_ Ip ?_ ?_ ?_ ?_ ?_
 walk_at"~$<#"
 refine Qax (Qbs ?_) Qk ?_ ?_
 walk_at"~?(/$#%#,%%)$1$$%)11$$$&*-;$4"
 refine XT ?_ ?_ ?_ ?_
 walk_at"~?%9#%#%)"
 exact fun _ _=>rfl
 walk_at"~$&.7"
 refine PMW.pt ?_;refine VH ?_ ?_;refine Qn (V1 ?_) Qk ?_ ?_
 walk_at"~?9#%#%)%"
 refine JO ?_;refine Qn XO Qk ?_ ?_
 walk_at"~%5"
 refine XT ?_ ?_ ?_ ?_
 walk_at"~?%9#%#%)"
 exact fun _ _=>rfl
 walk_at"~%.3"
 exact ZF
 walk_at"~A@@.3"
 exact ZF
def Xe:FM:=box frN Zg
abbrev Us:Stmt:=top 54
theorem Qhv:FnScope ["script","k","program","rows","feed","manner","words","plain","most_here","table","number","handed","found"] ["script"] (Qg Us):=⟨rfl,rfl,rfl,by decide +kernel,rfl,by decide +kernel,by decide +kernel⟩
abbrev UT:SM:=(Qm (QK 10 (Qe Zj (Qb 8) (Qe wIx (mFn Vq (Qa (mC (.int 0)) (Qa (mUn KN (mC (.int 1))) (Qa (mC (.int 0)) (Qa (mC (.int 1)) Qc))))) (Qi 2 Qf (Qa (Qb 4) (Qa (mC (.int 4)) Qc))))))
  (Qm (QK 11 (mFn Vq (Qa (mFn Qa7 (Qa (Qb 5) Qc)) (Qa (mFn Qa7 (Qa (Qb 9) Qc)) Qc))))
  (Qm (QK 12 (Qi 4 Xm (Qa (Qb 2) (Qa (Qe wIx (Qb 11) (mC (.int 0))) (Qa (Qb 10) (Qa (Qe wIx (Qb 11) (mC (.int 1))) Qc))))))
  (Qm (Zt (GK (KY (Ue (mFn Qhw (Qa (Qb 12) (Qa (mC (.ty "bool")) Qc))))) (Qj (Qe wNe (Qb 11) (mFn Vq (Qa (Qb 5) (Qa (Qb 9) Qc)))))) (QR (mC (.bl false))) Qw)
  (Zt (Qj (Qe wNe (Qb 12) (Qi 5 Xe (Qa (Qb 2) (Qa (Qb 3) (Qa (Qb 5) (Qa (Qb 9) (Qa (Qb 10) Qc)))))))) (QR (mC (.bl false))) Qw)))))
abbrev U5:SM:=(Qm (QK 2 (Qi 2 Vn (Qa (Qi 2 Z0 (Qa (Qb 0) (Qa (Qb 1) Qc))) (Qa (mFn Vq (Qa (mC (.int 2)) (Qa (mC (.int 3)) (Qa (mC (.int 3)) (Qa (mC (.int 6)) Qc))))) Qc))))
  (Qm (QK 3 (QN Jn (Qo (Qb 2)) [none] (Q2 0) Kl (Qi 1 QZ (Qa (Qe wIx (Qb 0) (mC (.int 1))) Qc))))
  (Qm (QK 4 (Qi 2 Z0 (Qa (Qb 0) (Qa (Qe Zj (Qb 1) (mC (.int 1))) Qc))))
  (Qm (QK 5 (Qi 2 VS (Qa (Qb 2) (Qa (Qb 4) Qc))))
  (Qm (QK 6 (mFn JS (Qa (Qi 1 QI (Qa (Qb 2) Qc)) Qc)))
  (Qm (QK 7 (Qi 3 Xr (Qa (Qb 2) (Qa (Qb 3) (Qa (Qb 5) Qc)))))
  (Qm (QK 8 (mFn Qe2 (Qa (QN Jn (Qo (Qb 7)) [none,some 6] (Q2 0) (Qj (Qe wEq (Qe wIx (Qb 0) (mC (.int 1))) (Qb 1))) (Qe wIx (Qb 0) (mC (.int 2)))) Qc)))
  (Zm (Qo (mFn Vq (Qa (Qb 7) (Qa (Qi 3 ZY (Qa (Qb 7) (Qa (Qb 6) (Qa (Qb 4) Qc)))) (Qa (Qi 3 ZY (Qa (Qb 7) (Qa (Qb 6) (Qa (Qb 4) Qc)))) Qc))))) (Q2 9)
  UT))))))))
def Yy:FM:=Qz 12
  (Qm (Zm (QhS (Qa (mC (.int 0)) (Qa (mFn QiT (Qa (mC (.int 2)) (Qa (mFn QlK (Qa (mC (.int 4)) (Qa (mFn JB (Qa (Qb 0) Qc)) Qc))) Qc))) (Qa (mC (.int 2)) Qc)))) (Q2 1)
  U5)
  (QR (mC (.bl true))))
theorem QjE(d:DefAt K mg "law" Us ["script"])(b_bool:mg "bool"=none)(b_isinstance:mg "isinstance"=none)(b_len:mg "len"=none)(b_list:mg "list"=none)(b_max:mg "max"=none)(b_min:mg "min"=none)(b_range:mg "range"=none)(b_tuple:mg "tuple"=none)(c__law_bears:Cal P w K mg base 3 "_law_bears" ["program","rows","manner","table","number"] Xe)(c__law_bent:Cal P w K mg base 2 "_law_bent" ["table","words","feed"] ZY)(c__law_blocks:Cal P w K mg base 1 "_law_blocks" ["lines"] QZ)(c__law_feed:Cal P w K mg base 1 "_law_feed" ["script","k"] Z0)(c__law_manner:Cal P w K mg base 2 "_law_manner" ["program","feed"] VS)(c__law_program:Cal P w K mg base 4 "_law_program" ["feed","bounds"] Vn)(c__law_table:Cal P w K mg base 3 "_law_table" ["program","rows","manner"] Xr)(c__law_take:Cal P w K mg base 1 "_law_take" ["feed","many"] Qf)(c__law_words:Cal P w K mg base 1 "_law_words" ["program"] QI)(c_shows_most:Cal P w K mg base 9 "shows_most" ["program","manner","number","table"] Xm):Cal P w K mg base 10 "law" ["script"] Yy:=by
 refine Qs (k:=9) (more:=12) d Qhv rfl fun _ _ _ _ _ _ _ hr=>?_;have nd_:=(Qhv).nd
 walk_at"~>*=B$"
 refine QhN ?_ ?_ ?_ ?_ ?_
 walk_at"~$<#+#"
 refine ZS (GN ?_) QD ?_ ?_ Iq ?_ ?_ ?_ ?_ ?_
 walk_at"~$$<#+#"
 refine ZS (Qet ?_) QD ?_ ?_ PyProof.Rows.boot_min ?_ ?_ ?_ ?_ ?_
 walk_at"~$$<#+#0$<#%)11$$)11$$)11$$#+)$$C*-;$4(/$#(/$#%#%)$1$$#E#+#+#+#+))$1$$$&*"
 refine W7 nd_ rfl (Or.inl rfl) ?_ Q4 ?_ (ZI (Nb:=["part"]) (cp:=[none]) rfl (by decide +kernel) (by decide +kernel) rfl rfl) ?_ (fun _ _ _ _ _=>?_) (fun _ _ _ _ _=>?_) ?_ ?_
 walk_at"~&$"
 refine QB ?_
 walk_at"~%:(/$#,%+)$1$$@$*-;$4(/$#%#5%+)$1$$$&*-;$4(/$#%#%)$1$$$&*-;$"
 exact(Or.inr rfl)
 walk_at"~D$<#(/$#%)$1$$)11$$$&*-;$4(/$#%#%#%)$1$$$&*-;$4"
 refine ZS (QcL ?_) QD ?_ ?_ Iq ?_ ?_ ?_ ?_ ?_
 walk_at"~$$<#"
 refine Vt Q4 ?_ (XS (ks:=["words"]) (Nb:=["row","words"]) (cp:=[none,some 6]) (N:=["script","k","program","rows","feed","manner","words","plain","most_here","table","number","handed","found"]) (xs:=(Qg Us)) rfl rfl (by decide +kernel) rfl (by decide +kernel) (by intro p hp;simp only[NE,N5,or_false]at hp;rcases hp with rfl<;>rfl) rfl rfl rfl (by decide +kernel)) ?_ (fun _ _ _ _ _=>?_) (fun _ _ _ _ _=>?_) (fun _ _ _ _ _=>?_)
 walk_at"~$"
 refine QB ?_
 walk_at"~%:2?,%+%,%+)11$$$&.=B$"
 refine QB ?_
 walk_at"~E#%#(/$#%#%#%)$1$$#(/$#%#%#%)$1$$)C*-;$45%,E#+#"
 refine Zo ?_
 walk_at"~+#+#+)(/$#%#+)$1$$$&*-;$4E#"
 refine ZN Yv QD ?_ ?_ ET ?_ ?_ ?_ ?_ ?_
 walk_at"~$<#%)11$$#"
 refine ZN Yv QD ?_ ?_ ET ?_ ?_ ?_ ?_ ?_
 walk_at"~$<#%)11$$)$&*-;$4(/$#%#,%+#%#,%+)$1$$$&*7"
 refine PMW.pt ?_;refine VH ?_ ?_;refine Vp ?_;refine ZG ?_;refine ZS X7 QD ?_ ?_ EY ?_ ?_ ?_ ?_ ?_
 walk_at"~$<#%#"
 exact QeZ rfl b_bool L4
 walk_at"~)11$$"
 refine JO ?_;refine Qn (QeG ?_) Qk ?_ ?_
 walk_at"~?%E#%#%).3"
 exact ZF
 walk_at"~A.7"
 refine Qn (QeG ?_) Qk ?_ ?_
 walk_at"~?%(/$#%#%#%#%#%)$1$$.3"
 exact ZF
 walk_at"~A@@.3"
 exact ZF
end
theorem Qip{P:Program}{w:World}{K:Ng}{d:Str->Option Value}{base:Heap}(ay:DefAt K d "_law_take" VD ["feed","many"])(af:DefAt K d "_law_names" Zw ["feed","many"])(D:DefAt K d "_law_step_on" Z6 ["lines","opened"])(ae:DefAt K d "_law_plain" JX ["feed","boxes","words"])(az:DefAt K d "_law_part" Vy ["feed","size","menus","later","opens","dos"])(E:DefAt K d "_law_program" Z2 ["feed","bounds"])(a2:DefAt K d "_law_feed" VC ["script","k"])(Z:DefAt K d "_law_words" JY ["program"])(M:DefAt K d "_law_manner" ZL ["program","feed"])(a0:DefAt K d "_law_next" Vz ["program","rows","spot"])(bg:DefAt K d "_law_all" Xg ["program","rows"])(aj:DefAt K d "_law_ahead" J1 ["program","rows","every"])(ah:DefAt K d "_law_given" Jf ["manner","spot"])(a1:DefAt K d "_law_made" Vr ["program","spot"])(ab:DefAt K d "_law_table" Zv ["program","rows","manner"])(N:DefAt K d "_law_blocks" JD ["lines"])(a3:DefAt K d "_law_bent" VA ["table","words","feed"])(bf:DefAt K d "asked_of" Vm ["ahead","key"])(o:DefAt K d "is_closed_table" Zi ["ahead","numbers"])(ax:DefAt K d "all_lines" VF ["program"])(bb:DefAt K d "words_of" Xt ["program"])(Y:DefAt K d "first_spot" J6 [])(bn:DefAt K d "line_of" Kb ["program","spot"])(bz:DefAt K d "at_gap" Yd ["spot","k"])(bp:DefAt K d "at_head" Kk ["spot","k"])(B:DefAt K d "level_change" Je ["line"])(bo:DefAt K d "head_of" Km ["lines","k"])(C:DefAt K d "found_behind" Z4 ["lines","k","kind"])(b2:DefAt K d "or_of" Wc ["lines","k"])(bx:DefAt K d "end_of" Yg ["lines","k"])(A:DefAt K d "next_in_part" Z7 ["lines","spot"])(aw:DefAt K d "behind_do" VE ["spot"])(L:DefAt K d "part_number" Jy ["program","name"])(X:DefAt K d "next_spots" J2 ["program","spot"])(b0:DefAt K d "spots" Wb ["program"])(q:DefAt K d "words_by_place" ZE ["manner"])(be:DefAt K d "place_of" Xf ["spot"])(bd:DefAt K d "steps_of" Xh ["program"])(au:DefAt K d "made_word" VB ["line"])(bc:DefAt K d "steps_to" Xu ["program","manner"])(av:DefAt K d "is_rising" Vx ["words"])(U:DefAt K d "shows_most" ZA ["program","manner","number","table"])(aa:DefAt K d "_law_whole" J3 ["found"])(F:DefAt K d "_law_entries" Z5 ["table","many"])(ai:DefAt K d "_law_bears" Jk ["program","rows","manner","table","number"])(b6:DefAt K d "law" Us ["script"])(b9:d "all"=none)(bw:d "bool"=none)(b5:d "dict"=none)(u:d "enumerate"=none)(bv:d "int"=none)(g:d "isinstance"=none)(c:d "len"=none)(j:d "list"=none)(b4:d "max"=none)(b8:d "min"=none)(b:d "range"=none)(z:d "reversed"=none)(bu:d "set"=none)(v:d "sorted"=none)(f:d "tuple"=none):Cal P w K d base 10 "law" ["script"] Yy:=by
 have a:=(Gp (P:=P) (w:=w) (base:=base) ay).box frN;have ap:=(Uc af b a).box frN;have H:=(YY (P:=P) (w:=w) (base:=base) D).box frN;have ao:=(Ug ae c a).box frN;have a8:=(UY az c b f ao H a).box frN;have I:=(YZ E c b f ap a8 a).box frN;have a9:=(GB (P:=P) (w:=w) (base:=base) a2 c).box frR;have e:=(Uj (P:=P) (w:=w) (base:=base) Z bu v).box frN;have S:=(WX M u c b a e).box frN;have s:=(Gk (P:=P) (w:=w) (base:=base) a0 c).box frN;have y:=(Qae bg c j s).box frN;have n:=(Uk aj c b s).box frN;have m:=(Ui (P:=P) (w:=w) (base:=base) ah).box frN;have t:=(Gv (P:=P) (w:=w) (base:=base) a1 c).box frN;have an:=(Ul ab bv c j b4 b f n y m t e).box frN;have T:=(WU (P:=P) (w:=w) (base:=base) N c b).box frN;have ba:=(Ge a3 c j z a).box frN;have bm:=(GZ (P:=P) (w:=w) (base:=base) bf f).box frN;have p:=(KI o bm).box frN;have a7:=(UV (P:=P) (w:=w) (base:=base) ax).box frN;have bh:=(G9 bb bu v a7).box frN;have al:=(W9 (P:=P) (w:=w) (base:=base) Y).box frN;have R:=(QaI (P:=P) (w:=w) (base:=base) bn c).box frN;have as:=(Qcr (P:=P) (w:=w) (base:=base) bz).box frN;have br:=(Qa8 (P:=P) (w:=w) (base:=base) bp).box frN;have h:=(Y2 (P:=P) (w:=w) (base:=base) B).box frN;have bq:=(Qa6 bo b h).box frN;have i:=(Y6 C c b h).box frN;have b3:=(Qfx b2 i).box frN;have ar:=(Qc5 bx i).box frN;have G:=(Y0 A as br ar bq b3).box frN;have a6:=(Gm (P:=P) (w:=w) (base:=base) aw).box frN;have Q:=(WG (P:=P) (w:=w) (base:=base) L).box frN;have l:=(Uf X as a6 ar R G Q).box frN;have O:=(QdC b0 j z al l).box frN;have r:=(Ym (P:=P) (w:=w) (base:=base) q).box frR;have x:=(GO (P:=P) (w:=w) (base:=base) be).box frN;have bj:=(Qaa bd b5 u R l x O).box frN;have a4:=(U7 (P:=P) (w:=w) (base:=base) au).box frN;have bi:=(G6 bc a4 x O bj r).box frR;have a5:=(UR (P:=P) (w:=w) (base:=base) av j bu v).box frN;have ak:=(Ua U b9 c b f p a5 O bi bh).box frN;have am:=(Ub (P:=P) (w:=w) (base:=base) aa bw bv g).box frN;have J:=(Y3 F g c f am).box frR;have aq:=(Uh ai bv c b f n y J m t e).box frN;have b7:Cal P w K d base 10 "law" ["script"] Yy:=QjE b6 bw g c j b4 b8 b f aq ba T a9 S I an a e ak;exact b7
noncomputable abbrev Ln:=List Str
noncomputable def QH(l:Ln):W:=.tup (l.map .str)
noncomputable def Z1(xs:List Str):W:=.lst (xs.map .str)
abbrev Pt:=Str×List Ln
def Vf(p:Pt):W:=.tup [.str p.1,.tup (p.2.map QH)]
def Q6(p:List Pt):W:=.tup (p.map Vf)
structure Spt where
 way:List (Nat×Nat)
 part:Nat
 k:Nat
 head:Bool
noncomputable def Wu(q:Nat×Nat):W:=.tup [.int q.1,.int q.2]
def Ql(s:Spt):W:=.tup [.tup (s.way.map Wu),.int s.part,.int s.k,.bl s.head]
theorem QbB:∀{ws:List W},(∀w∈ws,pln w=true)->Yp ws=true
 |[],_=>rfl
 |w::ws,h=>by unfold Yp;rw[h w NA,QbB fun x a=>h x (Ny _ a)];rfl
theorem QbR{n:Nat}:∀{ws:List W},(∀w∈ws,dep w<=n)->U3 ws<=n
 |[],_=>NV _
 |w::ws,h=>by unfold U3;exact Nat.max_le.mpr ⟨h w NA,QbR fun x a=>h x (Ny _ a)⟩
theorem JE{f:a->W}{xs:List a}(h:∀x,pln (f x)=true):Yp (xs.map f)=true:=QbB fun w hw=>by obtain⟨x,_,rfl⟩:=NL.mp hw;exact h x
theorem Kc{f:a->W}{xs:List a}(h:∀x,dep (f x)<=n):U3 (xs.map f)<=n:=QbR fun w hw=>by obtain⟨x,_,rfl⟩:=NL.mp hw;exact h x
@[simp]theorem Ja{xs:List Str}:Yp (xs.map .str)=true:=JE fun _=>rfl
theorem Kh{xs:List Str}:U3 (xs.map .str)<=1:=Kc fun _=>Nz _
@[simp]theorem Qma{l:Ln}:pln (QH l)=true:=by unfold QH pln;exact Ja
theorem QjF{l:Ln}:dep (QH l)<=2:=by unfold QH dep;have:=Kh (xs:=l);exact Nh this (by decide)
@[simp]theorem Qgq{xs:List Str}:pln (Z1 xs)=true:=by unfold Z1 pln;exact Ja
@[simp]theorem Qjn{ls:List Ln}:Yp (ls.map QH)=true:=JE fun _=>Qma
@[simp]theorem Qox{p:Pt}:pln (Vf p)=true:=by simp[Vf,pln,Yp]
@[simp]theorem Qd4{ps:List Pt}:Yp (ps.map Vf)=true:=JE fun _=>Qox
@[simp]theorem Qn5{ps:List Pt}:pln (Q6 ps)=true:=by unfold Q6 pln;exact Qd4
@[simp]theorem Qm3{q:Nat×Nat}:pln (Wu q)=true:=id rfl
theorem Qok{q:Nat×Nat}:dep (Wu q)<=2:=Nz _
@[simp]theorem Qi1{qs:List (Nat×Nat)}:Yp (qs.map Wu)=true:=JE fun _=>Qm3
theorem Qjw{qs:List (Nat×Nat)}:U3 (qs.map Wu)<=2:=Kc fun _=>Qok
@[simp]theorem QiD{s:Spt}:pln (Ql s)=true:=by simp[Ql,pln,Yp]
theorem QmB{s:Spt}:dep (Ql s)<=4:=by simp[Ql,dep,U3];have:=Qjw (qs:=s.way);exact this
@[simp]theorem Qef{a:List Spt}:Yp (a.map Ql)=true:=JE fun _=>QiD
theorem QiF{a:List Spt}:U3 (a.map Ql)<=4:=Kc fun _=>QmB
@[simp]theorem Qrb{l:Ln}:pur (QH l)=true:=WW _ Qma
@[simp]theorem QmW{xs:List Str}:pur (Z1 xs)=true:=WW _ Qgq
@[simp]theorem QqJ{ps:List Pt}:pur (Q6 ps)=true:=WW _ Qn5
@[simp]theorem Qqw{s:Spt}:pur (Ql s)=true:=WW _ QiD
@[simp]theorem QmP{xs:List Str}:ZZ (xs.map .str)=true:=ZJ _ Ja
@[simp]theorem QnQ{ls:List Ln}:ZZ (ls.map QH)=true:=ZJ _ Qjn
@[simp]theorem Qn0{ls:List Pt}:ZZ (ls.map Vf)=true:=ZJ _ Qd4
@[simp]theorem QiZ{a:List Spt}:ZZ (a.map Ql)=true:=ZJ _ Qef
@[simp]theorem Qp2{i:Int}:pur (.int i)=true:=id rfl
@[simp]theorem Qq9{x:Str}:pur (.str x)=true:=id rfl
@[simp]theorem QrK{b:Bool}:pur (.bl b)=true:=id rfl
@[simp]theorem Qrc:pur .non=true:=id rfl
@[simp]theorem QqR{ws:List W}:pur (.tup ws)=ZZ ws:=by unfold pur;rfl
@[simp]theorem Qne{ws:List W}:pur (.lst ws)=ZZ ws:=by unfold pur;rfl
@[simp]theorem Qqi{ws:List W}:pur (.frz ws)=ZZ ws:=by unfold pur;rfl
@[simp]theorem Qpa:ZZ []=true:=id rfl
@[simp]theorem Qd0{ws:List W}:ZZ (w::ws)=(pur w&&ZZ ws):=by rw[ZZ]
@[simp]theorem QoM{ws us:List W}:ZZ (ws++us)=(ZZ ws&&ZZ us):=by
 induction ws with
 |nil=>simp
 |cons w ws a=>simp[a,Bool.and_assoc]
@[simp]theorem Qml{ns:List Int}:ZZ (ns.map .int)=true:=by
 induction ns with
 |nil=>rfl
 |cons n ns a=>simp[a]
@[simp]theorem QpH{ws:List W}:Qba (.lst ws)=ZZ ws:=id rfl
theorem Xi{n:Nat}(h:n<=1000000):n<=sizeLine:=Nn h (by decide)
theorem QcF{n:Nat}(h:n<=1000000):n<sizeLine:=Nh h (by decide)
@[simp]theorem Qph:1<=sizeLine:=by decide
@[simp]theorem QoV:2<=sizeLine:=by decide
@[simp]theorem QoK:3<=sizeLine:=by decide
@[simp]theorem QpK:4<=sizeLine:=by decide
@[simp]theorem Qpl:5<=sizeLine:=by decide
@[simp]theorem QoO:6<=sizeLine:=by decide
@[simp]theorem QoX:8<=sizeLine:=by decide
structure Fd where
 a:Int
 b:Int
 hb:0<=b/\b<1099511627776
noncomputable def Qv(f:Fd):MO:=.lst [.int f.a,.int f.b]
theorem Qdp{xs:List b}{i:Int}{P:b->Prop}{f:b->W}(e:0<=i)(d:i<xs.length)(c:∀x∈xs,P x):∃x,x∈xs/\P x/\atI (xs.map f) i=some (f x):=by
 obtain⟨n,rfl⟩:∃n:Nat,i=n:=⟨i.toNat,by exact(DO ‹_›).symm⟩
 have a:n<xs.length:=by lia
 exact⟨xs[n],Dp a,c _ (Dp a),by rw[QO,Np,Nl a];rfl⟩
theorem QgS{f g:Fd}(e:Qv f=Qv g):f=g:=by
 obtain⟨a,b,d⟩:=f;obtain⟨i,h,c⟩:=g;simp[Qv]at e;obtain⟨rfl,rfl⟩:=e;rfl
def QmM(h:MH)(n:Nat):Prop:=∃f,h[n]?=some (Qv f)
open Classical in
noncomputable def QfA(h:MH)(n:Nat):Fd:=if p:QmM h n then p.choose else⟨0,0,by decide⟩
theorem Qce{n:Nat}(e:h[n]?=some (Qv f)):QfA h n=f:=by
 have p:QmM h n:=⟨f,e⟩
 unfold QfA;rw[dif_pos p];exact(QgS (NS (e.symm.trans p.choose_spec))).symm
@[simp]theorem QpB{f:Fd}:QmM (Qv f::h) 0:=⟨f,rfl⟩
@[simp]theorem QnD{f:Fd}:QfA (Qv f::h) 0=f:=Qce rfl
theorem QiU{b:List W}(d:pln a=true)(py:Yp b=true)(f:dep a<=40)(e:U3 b<=40):wIn neg a (.lst b) h=some (.bl (if neg=true then !inW a b else inW a b),h):=by
 show((lsW h (.lst b)).bind fun b=>(drf h 40 a).bind fun x=>(Zl (drf h 40) b).map fun c=>(W.bl (if neg then !inW x c else inW x c),h))=_;simp only[lsW,Ni];rw[Xj h a 40 d f,JW h b 40 py e];rfl
@[simp]theorem Qqb{i:Int}:wIn false (.int i) (.lst [.int 6,.int 7]) h=some (.bl (decide (i=6\/i=7)),h):=by
 rw[QiU (by simp[pln]) (by simp[pln,Yp]) (by simp[dep]) (by simp[dep,U3])]
 have:inW (.int i) [.int 6,.int 7]=decide (i=6\/i=7):=by
  simp only[inW,E6,List.any_nil,eqW,Ox];rw[EL];simp;lia
 simp[this]
@[simp]theorem Qop{xs:List Str}:JB [Z1 xs] h=some (.int xs.length,h):=by unfold Z1;simp
@[simp]theorem QpD{xs:List Str}:wIx (Z1 xs) (.int i) h=@om _ _ (fun w=>(w,h)) (atI (xs.map .str) i):=by unfold Z1;simp
@[simp]theorem QrD{xs:List a}:atI xs 2=xs[2]?:=QO (n:=2)
@[simp]theorem Qrv{xs:List a}:atI xs 3=xs[3]?:=QO (n:=3)
theorem K8{n j:Nat}(h:(Qt a n)[j]?=some w):j<n/\w=.int (a+j):=by
 have b:=(Nf.mp h).1;simp[Qt]at b;refine⟨b,?_⟩;unfold Qt at h;rw[Np,Em b]at h;cases h;rfl
theorem Qiv{a b:Char}(h:a.toNat=b.toNat):a=b:=by
 have:a.val=b.val:=by
  apply UInt32.toNat_inj.mp;exact h
 exact Char.ext this
theorem WJ:∀{a b:List Char},a.map Char.toNat=b.map Char.toNat->a=b
 |[],[],_=>rfl
 |[],_::_,h=>by simp at h
 |_::_,[],h=>by simp at h
 |x::a,y::b,h=>by
  simp only[Nw,IH]at h;rw[Qiv h.1,WJ h.2]
@[simp]theorem Qnk{a b:String}:(Str.ofString a=Str.ofString b)↔a=b:=by
 constructor
 ·intro h;rw[L5,L5]at h;have c:=WJ (List.toArray_inj (Str.mk.inj h));exact String.toList_inj.mp c
 ·intro h;rw[h]
end My
namespace My3
inductive Cd where
 |ei|ag|oo|en|ot
 deriving DecidableEq
structure En where
 kd:Cd
 fs:Nat
 md:Nat
noncomputable def ch:Cd->Int
 |.ei=>1
 |.ag=>1
 |.en=>-1
 |_=>0
def lev(ls:List Cd):Nat->Int
 |0=>0
 |k+1=>lev ls k+(match ls[k]? with|some c=>ch c|none=>0)
noncomputable def stp(k:Nat)(c:Cd)(st:List En):Option (List En):=match c with
 |.ei=>some (⟨.ei,k,0⟩::st)
 |.ag=>some (⟨.ag,k,0⟩::st)
 |.oo=>match st with
  |e::r=>if e.kd=.ei then some (⟨.oo,e.fs,k⟩::r)else none
  |[]=>none
 |.en=>match st with
  |e::r=>if e.kd=.ei then none else some r
  |[]=>none
 |.ot=>some st
theorem J5(e:ls[k]?=some c):lev ls (k+1)=lev ls k+ch c:=by
 simp only[lev,e]
structure Fit(ls:List Cd)(k t:Nat)(e:En):Prop where
 lt:e.fs<k
 at_:ls[e.fs]?=some .ei\/ls[e.fs]?=some .ag
 lv:lev ls (e.fs+1)+t=lev ls k
 ge:∀j,e.fs<j->j<=k->lev ls (e.fs+1)<=lev ls j
 kd:e.kd=.ei\/e.kd=.ag\/e.kd=.oo
 ei:e.kd=.ei->∀j,e.fs<j->j<k->lev ls j=lev ls (e.fs+1)->ls[j]?≠some .oo
 oo:e.kd=.oo->e.fs<e.md/\e.md<k/\ls[e.md]?=some .oo/\lev ls e.md=lev ls (e.fs+1)/\∀j,e.fs<j->j<e.md->lev ls j=lev ls (e.fs+1)->ls[j]?≠some .oo
noncomputable def Qhu(ls:List Cd)(k:Nat):Nat->List En->Prop
 |_,[]=>True
 |t,e::r=>Fit ls k t e/\Qhu ls k (t+1) r
structure Mat(ls:List Cd)(k:Nat)(e:En):Prop where
 fit:Fit ls k 0 e
 en:ls[k]?=some .en
 kd:e.kd=.ag\/e.kd=.oo
theorem QgU{k t t':Nat}(l:ls[k]?=some c)(h:Fit ls k t e)(u:(t':Int)=t+ch c)(n:c=.oo->0<t):Fit ls (k+1) t' e:=by
 have v:=J5 l;have o:=h.lv;have g:=h.lt;refine⟨by exact Nk g (Nv _ _),h.at_,by lia,fun j i r=>?_,h.kd,fun q j i r p=>?_,fun q=>?_⟩
 ·by_cases z:j<=k
  ·exact h.ge j i z
  ·have:j=k+1:=by lia
   subst this;lia
 ·by_cases z:j<k
  ·exact h.ei q j i z p
  ·have:j=k:=by lia
   subst this;rw[l];intro w;have m:c=.oo:=by simpa using w
   have:=n m;omega
 ·obtain⟨a,b,s,d,f⟩:=h.oo q;exact⟨a,by exact Nk b (Nv _ _),s,d,f⟩
theorem V2(a:ls[k]?=some c):∀(r:List En) (t t':Nat),Qhu ls k t r->(t':Int)=t+ch c->(c=.oo->0<t)->Qhu ls (k+1) t' r
 |[],_,_,_,_,_=>True.intro
 |e::r,t,t',h,b,d=>⟨QgU a h.1 b d,V2 a r (t+1) (t'+1) h.2 (by push_cast;lia) fun _=>by exact IF _⟩
theorem Qg6{ls:List Cd}{k:Nat}{c:Cd}{st g:List En}(d:ls[k]?=some c)(h:Qhu ls k 0 st)(e:stp k c st=some g):Qhu ls (k+1) 0 g:=by
 have s:=J5 d
 have new:∀f:Cd,(f=.ei\/f=.ag)->c=f->Fit ls (k+1) 0 ⟨f,k,0⟩:=fun f n e=>by
  refine⟨by simp,?_,by simp,fun j m t=>?_,by rcases n with z|z<;>simp[z],fun q j m t=>?_,fun q=>?_⟩
  ·rw[d,e];rcases n with z|z<;>simp[z]
  ·have o:k<j:=m;have:j=k+1:=by lia
   subst this;exact Yad _
  ·have o:k<j:=m;lia
  ·have p:f=.oo:=q
   rcases n with z|z<;>rw[z]at p<;>cases p
 cases c with
 |ei=>cases e;exact⟨new _ (.inl rfl) rfl,V2 d st 0 1 h (by simp[ch]) (by simp)⟩
 |ag=>cases e;exact⟨new _ (.inr rfl) rfl,V2 d st 0 1 h (by simp[ch]) (by simp)⟩
 |ot=>cases e;exact V2 d st 0 0 h (by simp[ch]) (by simp)
 | oo=>
  cases st with
  |nil=>cases e
  | cons a r=>
   simp only[stp]at e;split at e
   ·rename_i u;cases e;have l:=h.1;have b:=l.lv;have i:=l.lt;refine⟨⟨by show a.fs<k+1;exact Nk i (Nv _ _),l.at_,?_,fun j m t=>?_,.inr (.inr rfl),fun q=>(by cases q),fun _=>⟨i,N1 _,d,?_,l.ei u⟩⟩,V2 d r 1 1 h.2 (by simp[ch]) (by simp)⟩
    ·show lev ls (a.fs+1)+((0:Nat):Int)=lev ls (k+1);rw[s];simp[ch];simp at b;exact b
    ·by_cases z:j<=k
     ·exact l.ge j m z
     ·have:j=k+1:=by lia
      subst this;show lev ls (a.fs+1)<=_;rw[s];simp[ch];simp at b;exact FI b
    ·show lev ls k=lev ls (a.fs+1);simp at b;exact b.symm
   ·cases e
 | en=>
  cases st with
  |nil=>cases e
  |cons a r=>
   simp only[stp]at e;split at e
   ·cases e
   ·cases e;exact V2 d _ 1 0 h.2 (by simp[ch]) (by simp)
theorem Qjc(c:ls[k]?=some .en)(h:Qhu ls k 0 (a::r))(e:stp k .en (a::r)=some b):Mat ls k a:=by
 simp only[stp]at e;split at e
 ·cases e
 ·rename_i d;refine⟨h.1,c,?_⟩
  rcases h.1.kd with z|z|z
  ·exact absurd z d
  ·exact .inl z
  ·exact .inr z
structure Beh(ls:List Cd)(k:Nat)(c:Cd)(j:Nat):Prop where
 lt:k<j
 at_:ls[j]?=some c
 lv:lev ls j=lev ls (k+1)
 no:∀i,k<i->i<j->lev ls i=lev ls (k+1)->ls[i]?≠some c
 ge:∀i,k<i->i<=j->lev ls (k+1)<=lev ls i
structure Ahd(ls:List Cd)(k j:Nat):Prop where
 lt:j<k
 lv:lev ls k=lev ls j+1
 no:∀i,j<i->i<k->lev ls k≠lev ls i+1
 ge:∀i,j<i->i<=k->lev ls k<=lev ls i
theorem QiI(m:Mat ls k e):Beh ls e.fs .en k:=by
 have h:=m.fit;refine⟨h.lt,m.en,by have:=h.lv;simp at this;exact Int.le_antisymm (FI this.symm) (FI this),fun i b a c q=>?_,h.ge⟩;have:=J5 q;have g:=h.ge (i+1) (Nk b (Nv _ _)) a;simp[ch]at this;lia
theorem QgE(m:Mat ls k e):Ahd ls k e.fs:=by
 have h:=m.fit;have a:=h.lv
 have f:lev ls (e.fs+1)=lev ls e.fs+1:=by
  rcases h.at_ with q|q<;>exact J5 q
 refine⟨h.lt,by simp at a;lia,fun i c b d=>?_,fun i c b=>by have g:=h.ge i c b;simp at a;exact LD (FI a.symm) g⟩;have g:=h.ge i c (Nr b);simp at a;lia
theorem Qld(m:Mat ls k e)(g:e.kd=.oo):Beh ls e.fs .oo e.md:=by
 obtain⟨a,b,c,d,f⟩:=m.fit.oo g;exact⟨a,c,d,f,fun i j h=>m.fit.ge i j (Nr (Nh h b))⟩
theorem Qei(m:Mat ls k e)(p:e.kd=.oo):Beh ls e.md .en k:=by
 obtain⟨a,b,c,d,f⟩:=m.fit.oo p;have h:=m.fit;have j:=h.lv;have o:=J5 c;simp[ch]at o;simp at j;refine⟨b,m.en,by lia,fun i n l s q=>?_,fun i n l=>by have g:=h.ge i (N4 a n) l;exact LD (LD (FI o) (FI d)) g⟩;have r:=J5 q;have g:=h.ge (i+1) (Nk (N4 a n) (Nv _ _)) l;simp[ch]at r;lia
end My3
namespace My4
open My3
def pil(ls:List Cd):Nat->Option (List En)
 |0=>some []
 |k+1=>(pil ls k).bind fun st=>match ls[k]? with|some c=>stp k c st|none=>none
structure Bk where
 trs:List (Nat×Nat×Nat)
 st:List Nat
 rws:List (Option Nat)
noncomputable def top(b:Bk)(f:Nat×Nat×Nat->Nat×Nat×Nat):List (Nat×Nat×Nat):=match b.st with
 |t::_=>b.trs.modify t f
 |[]=>b.trs
def bst(k:Nat)(c:Cd)(b:Bk):Bk:=match c with
 |.ei=>⟨b.trs++[(k,k,k)],b.trs.length::b.st,b.rws++[some b.trs.length]⟩
 |.ag=>⟨b.trs++[(k,k,k)],b.trs.length::b.st,b.rws++[some b.trs.length]⟩
 |.oo=>⟨top b fun x=>(x.1,k,x.2.2),b.st,b.rws++[b.st.head?]⟩
 |.en=>⟨top b fun x=>(x.1,x.2.1,k),b.st.tail,b.rws++[b.st.head?]⟩
 |.ot=>⟨b.trs,b.st,b.rws++[b.st.head?]⟩
def bks(ls:List Cd):Nat->Bk
 |0=>⟨[],[],[]⟩
 |k+1=>match ls[k]? with|some c=>bst k c (bks ls k)|none=>bks ls k
def Kd(ls:List Cd)(e:En):Prop:=(e.kd=.ag/\ls[e.fs]?=some .ag)\/((e.kd=.ei\/e.kd=.oo)/\ls[e.fs]?=some .ei)
inductive Op(ls:List Cd)(trs:List (Nat×Nat×Nat)):List Nat->List En->Prop where
 |nil:Op ls trs [] []
 |cons {t:Nat} {e:En} {st:List Nat} {p:List En} (x:∃md en,trs[t]?=some (e.fs,md,en)/\(e.kd=.oo->md=e.md)) (k:Kd ls e) (n:t∉st) (r:Op ls trs st p):Op ls trs (t::st) (e::p)
structure Cl(ls:List Cd)(fs md en:Nat)(e:En):Prop where
 m:Mat ls en e
 f:e.fs=fs
 d:e.kd=.oo->e.md=md
 k:Kd ls e
structure BI(ls:List Cd)(k:Nat)(b:Bk)(p:List En):Prop where
 len:b.rws.length=k
 op:Op ls b.trs b.st p
 cl:∀t x,b.trs[t]?=some x->t∉b.st->∃e,Cl ls x.1 x.2.1 x.2.2 e
 ei:∀j,j<k->(ls[j]?=some .ei\/ls[j]?=some .ag)->∃t md en,b.rws[j]?=some (some t)/\b.trs[t]?=some (j,md,en)
 oo:∀j,j<k->ls[j]?=some .oo->∃t fs en,b.rws[j]?=some (some t)/\b.trs[t]?=some (fs,j,en)/\ls[fs]?=some .ei/\∀i:Nat,b.st[i]?=some t->∃e:En,p[i]?=some e/\e.kd=.oo
 en:∀j,j<k->ls[j]?=some .en->∃t fs md,b.rws[j]?=some (some t)/\b.trs[t]?=some (fs,md,j)/\t∉b.st
theorem Op.lt{ls:List Cd}{a:List (Nat×Nat×Nat)}{st:List Nat}{p:List En}(h:Op ls a st p):∀t∈st,t<a.length:=by
 induction h with
 |nil=>intro t b;simp at b
 |cons x k n r c=>
  intro t b
  rcases NE.mp b with rfl|b
  ·obtain⟨d,en,e,_⟩:=x;exact(Nf.mp e).1
  ·exact c t b
theorem Op.imp{ls:List Cd}{b a:List (Nat×Nat×Nat)}{st:List Nat}{p:List En}(h:Op ls b st p)(q:∀t∈st,a[t]?=b[t]?):Op ls a st p:=by
 induction h with
 |nil=>exact .nil
 |cons x k n r c=>exact .cons (by rw[q _ NA];exact x) k n (c fun t d=>q t (Ny _ d))
theorem Qbu(h:t<l.length):(l++[x])[t]?=l[t]?:=NO h
theorem YN{l:List a}(h:l[t]?=some x):t<l.length:=(Nf.mp h).1
theorem ZV(a:l.length=k)(b:j<k)(h:l[j]?=some y):(l++[x])[j]?=some y:=by rw[Qbu (Nk b (Nt a.symm))];exact h
theorem Qa5(a:l.length=k):(l++[x])[k]?=some x:=by subst a;simp
theorem Qia{l:List (Nat×Nat×Nat)}(h:t≠s):(l.modify t f)[s]?=l[s]?:=by
 rw[II];simp[h]
theorem Qii{l:List (Nat×Nat×Nat)}(h:l[t]?=some x):(l.modify t f)[t]?=some (f x):=by
 rw[II,h];simp
theorem QjO {p R:List En} (h:BI ls k b p) (hf:Qhu ls k 0 p) (F:ls[k]?=some c) (e:stp k c p=some R):BI ls (k+1) (bst k c b) R:=by
 have old:∀j,j<k+1->j≠k->j<k:=fun j a b=>by lia
 have P:(c=.ei\/c=.ag)->R=⟨c,k,0⟩::p->BI ls (k+1) ⟨b.trs++[(k,k,k)],b.trs.length::b.st,b.rws++[some b.trs.length]⟩ R:=fun S hp=>by
  subst hp;have hn:b.trs.length∉b.st:=fun z=>Et _ (h.op.lt _ z);have keep:∀t x,b.trs[t]?=some x->(b.trs++[(k,k,k)])[t]?=some x:=fun t x z=>by rw[Qbu (YN z)];exact z
  refine⟨by simp[h.len],.cons ⟨k,k,by simp,fun z=>?_⟩ ?_ hn (h.op.imp fun t G=>Qbu (h.op.lt t G)),fun t x I N=>?_,fun j f d=>?_,fun j f d=>?_,fun j f d=>?_⟩
  ·rcases S with B|B<;>rw[B]at z<;>cases z
  ·unfold Kd
   rcases S with B|B
   ·exact .inr ⟨.inl B,by rw[F,B]⟩
   ·exact .inl ⟨B,by rw[F,B]⟩
  ·have G:t≠b.trs.length:=fun z=>N (by rw[z];exact NA);have Y:t<b.trs.length:=by have:=YN I;simp at this;lia
   rw[Qbu Y]at I;exact h.cl t x I fun z=>N (Ny _ z)
  ·by_cases z:j=k
   ·subst z;exact⟨b.trs.length,j,j,Qa5 h.len,by simp⟩
   ·obtain⟨t,E,en,o,l⟩:=h.ei j (old j f z) d;exact⟨t,E,en,ZV h.len (old j f z) o,keep _ _ l⟩
  ·by_cases z:j=k
   ·subst z;rw[F]at d;rcases S with B|B<;>rw[B]at d<;>cases d
   ·obtain⟨t,fs,en,o,l,v,O⟩:=h.oo j (old j f z) d;refine⟨t,fs,en,ZV h.len (old j f z) o,keep _ _ l,v,fun i C=>?_⟩;cases i with
    |zero=>simp at C;have:=YN l;lia
    |succ i=>simp at C;obtain⟨e,L,J⟩:=O i C;exact⟨e,by simpa using L,J⟩
  ·by_cases z:j=k
   ·subst z;rw[F]at d;rcases S with B|B<;>rw[B]at d<;>cases d
   ·obtain⟨t,fs,E,o,l,v⟩:=h.en j (old j f z) d;refine⟨t,fs,E,ZV h.len (old j f z) o,keep _ _ l,fun q=>?_⟩
    rcases NE.mp q with q|q
    ·have:=YN l;exact Yal (Nt q.symm) this
    ·exact v q
 cases c with
 |ei=>exact P (.inl rfl) (by cases e;rfl)
 |ag=>exact P (.inr rfl) (by cases e;rfl)
 | ot=>
  cases e;refine⟨by simp[bst,h.len],h.op,h.cl,fun j f d=>?_,fun j f d=>?_,fun j f d=>?_⟩
  ·by_cases z:j=k
   ·subst z;rw[F]at d;rcases d with d|d<;>cases d
   ·obtain⟨t,E,en,o,l⟩:=h.ei j (old j f z) d;exact⟨t,E,en,ZV h.len (old j f z) o,l⟩
  ·by_cases z:j=k
   ·subst z;rw[F]at d;cases d
   ·obtain⟨t,fs,en,o,l,v⟩:=h.oo j (old j f z) d;exact⟨t,fs,en,ZV h.len (old j f z) o,l,v⟩
  ·by_cases z:j=k
   ·subst z;rw[F]at d;cases d
   ·obtain⟨t,fs,E,o,l,v⟩:=h.en j (old j f z) d;exact⟨t,fs,E,ZV h.len (old j f z) o,l,v⟩
 | oo=>
  cases p with
  |nil=>cases e
  | cons a r=>
   simp only[stp]at e;split at e
   ·rename_i ha;cases e;obtain⟨u,st,U⟩:=b;have M:=h.op;cases M with
    | @cons t _ st _ x X n q=>
     obtain⟨E,en,G,H⟩:=x;simp only at G H
     have Q:ls[a.fs]?=some .ei:=by
      rcases X with z|z
      ·rw[ha]at z;cases z.1
      ·exact z.2
     have g:∀s,s≠t->(u.modify t fun x=>(x.1,k,x.2.2))[s]?=u[s]?:=fun s m=>Qia (EN m);have w:(u.modify t fun x=>(x.1,k,x.2.2))[t]?=some (a.fs,k,en):=Qii G;refine⟨by simp[bst,h.len],?_,fun s x I N=>?_,fun j f d=>?_,fun j f d=>?_,fun j f d=>?_⟩
     ·exact .cons ⟨k,en,w,fun _=>rfl⟩ (.inr ⟨.inr rfl,Q⟩) n (q.imp fun s m=>g s fun z=>n (z▸m))
     ·have Z:s≠t:=fun z=>N (by rw[z];exact NA);have D:u[s]?=some x:=by rw[<-g s Z];exact I
      exact h.cl s x D N
     ·by_cases z:j=k
      ·subst z;rw[F]at d;rcases d with d|d<;>cases d
      ·obtain⟨s,y,A,o,l⟩:=h.ei j (old j f z) d
       by_cases m:s=t
       ·subst m;rw[G]at l;cases l;exact⟨s,k,en,ZV h.len (old _ f z) o,w⟩
       ·exact⟨s,y,A,ZV h.len (old j f z) o,(g s m).trans l⟩
     ·by_cases z:j=k
      ·rw[z];refine⟨t,a.fs,en,Qa5 h.len,w,Q,fun i C=>?_⟩;cases i with
       |zero=>exact⟨_,rfl,rfl⟩
       |succ i=>simp[bst]at C;exact absurd (NC.mpr ⟨i,C⟩) n
      ·obtain⟨s,fs,A,o,l,v,O⟩:=h.oo j (old j f z) d
       by_cases m:s=t
       ·subst m;obtain⟨T,L,J⟩:=O 0 (by simp);simp at L;subst L;rw[ha]at J;cases J
       ·refine⟨s,fs,A,ZV h.len (old j f z) o,(g s m).trans l,v,fun i C=>?_⟩;obtain⟨T,L,J⟩:=O i C;cases i with
        |zero=>simp[bst]at C;exact absurd C.symm m
        |succ i=>exact⟨T,by simpa using L,J⟩
     ·by_cases z:j=k
      ·subst z;rw[F]at d;cases d
      ·obtain⟨s,fs,y,o,l,v⟩:=h.en j (old j f z) d;have m:s≠t:=fun z=>v (by rw[z];exact NA);exact⟨s,fs,y,ZV h.len (old j f z) o,(g s m).trans l,v⟩
   ·cases e
 | en=>
  cases p with
  |nil=>cases e
  | cons a r=>
   have aa:=Qjc F hf e;simp only[stp]at e;split at e
   ·cases e
   ·rename_i ha;cases e;obtain⟨u,st,U⟩:=b;have M:=h.op;cases M with
    | @cons t _ st _ x X n q=>
     obtain⟨E,en,G,H⟩:=x;simp only at G H;have g:∀s,s≠t->(u.modify t fun x=>(x.1,x.2.1,k))[s]?=u[s]?:=fun s m=>Qia (EN m);have w:(u.modify t fun x=>(x.1,x.2.1,k))[t]?=some (a.fs,E,k):=Qii G;refine⟨by simp[bst,h.len],?_,fun s x I N=>?_,fun j f d=>?_,fun j f d=>?_,fun j f d=>?_⟩
     ·exact q.imp fun s m=>g s fun z=>n (z▸m)
     ·by_cases m:s=t
      ·subst m;have D:(u.modify s fun x=>(x.1,x.2.1,k))[s]?=some x:=I;rw[w]at D;cases D;exact⟨a,aa,rfl,fun z=>(H z).symm,X⟩
      ·have D:u[s]?=some x:=by rw[<-g s m];exact I
       exact h.cl s x D fun z=>by
        rcases NE.mp z with z|z
        ·exact m z
        ·exact N z
     ·by_cases z:j=k
      ·subst z;rw[F]at d;rcases d with d|d<;>cases d
      ·obtain⟨s,y,A,o,l⟩:=h.ei j (old j f z) d
       by_cases m:s=t
       ·subst m;rw[G]at l;cases l;exact⟨s,E,k,ZV h.len (old _ f z) o,w⟩
       ·exact⟨s,y,A,ZV h.len (old j f z) o,(g s m).trans l⟩
     ·by_cases z:j=k
      ·subst z;rw[F]at d;cases d
      ·obtain⟨s,fs,A,o,l,v,O⟩:=h.oo j (old j f z) d
       by_cases m:s=t
       ·subst m;rw[G]at l;cases l;exact⟨s,a.fs,k,ZV h.len (old _ f z) o,w,v,fun i C=>absurd (NC.mpr ⟨i,C⟩) n⟩
       ·refine⟨s,fs,A,ZV h.len (old j f z) o,(g s m).trans l,v,fun i C=>?_⟩;obtain⟨T,L,J⟩:=O (i+1) (by simpa[bst]using C);exact⟨T,by simpa using L,J⟩
     ·by_cases z:j=k
      ·rw[z];exact⟨t,a.fs,E,Qa5 h.len,w,n⟩
      ·obtain⟨s,fs,y,o,l,v⟩:=h.en j (old j f z) d;have m:s≠t:=fun z=>v (by rw[z];exact NA);exact⟨s,fs,y,ZV h.len (old j f z) o,(g s m).trans l,fun z=>v (Ny _ z)⟩
theorem Gb:∀{k:Nat} {p:List En},pil ls k=some p->Qhu ls k 0 p/\BI ls k (bks ls k) p
 |0,p,e=>by
  cases e;exact⟨True.intro,⟨rfl,.nil,fun t x h=>by simp[bks]at h,fun j h=>by lia,fun j h=>by omega,fun j h=>by omega⟩⟩
 | k+1,p,e=>by
  obtain⟨q,d,h2⟩:=Nc.mp e;obtain⟨f,b⟩:=Gb d;cases a:ls[k]? with
  |none=>rw[a]at h2;cases h2
  |some c=>
   rw[a]at h2;refine⟨Qg6 a f h2,?_⟩;have:bks ls (k+1)=bst k c (bks ls k):=by simp only[bks,a]
   rw[this];exact QjO b f a h2
def Bal(ls:List Cd):Prop:=pil ls ls.length=some []
structure Found(ls:List Cd)(b:Bk):Prop where
 len:b.rws.length=ls.length
 ei:∀j,ls[j]?=some .ei->∃t md en,b.rws[j]?=some (some t)/\b.trs[t]?=some (j,md,en)/\Beh ls j .oo md
 ag:∀j,ls[j]?=some .ag->∃t md en,b.rws[j]?=some (some t)/\b.trs[t]?=some (j,md,en)/\Beh ls j .en en
 oo:∀j,ls[j]?=some .oo->∃t fs en,b.rws[j]?=some (some t)/\b.trs[t]?=some (fs,j,en)/\Beh ls j .en en
 en:∀j,ls[j]?=some .en->∃t fs md,b.rws[j]?=some (some t)/\b.trs[t]?=some (fs,md,j)/\Ahd ls j fs/\(ls[fs]?=some .ei\/ls[fs]?=some .ag)
theorem Qah(h:Bal ls):Found ls (bks ls ls.length):=by
 obtain⟨_,b⟩:=Gb h
 have o:(bks ls ls.length).st=[]:=by
  have:=b.op;generalize(bks ls ls.length).st=s at this;cases this;rfl
 have nm:∀t,t∉(bks ls ls.length).st:=fun t=>by rw[o];simp
 refine⟨b.len,fun j a=>?_,fun j a=>?_,fun j a=>?_,fun j a=>?_⟩
 ·obtain⟨t,i,en,g,c⟩:=b.ei j (YN a) (.inl a);obtain⟨e,m,f,d,l⟩:=b.cl t _ c (nm t);simp only at m f d
  have n:e.kd=.oo:=by
   rcases l with z|z
   ·rw[f,a]at z;cases z.2
   ·rcases m.kd with q|q
    ·rcases z.1 with z|z<;>rw[q]at z<;>cases z
    ·exact q
  refine⟨t,i,en,g,c,?_⟩;have:=Qld m n;rw[f,d n]at this;exact this
 ·obtain⟨t,i,en,g,c⟩:=b.ei j (YN a) (.inr a);obtain⟨e,m,f,d,l⟩:=b.cl t _ c (nm t);simp only at m f d;refine⟨t,i,en,g,c,?_⟩;have:=QiI m;rw[f]at this;exact this
 ·obtain⟨t,fs,en,g,c,p,_⟩:=b.oo j (YN a) a;obtain⟨e,m,f,d,l⟩:=b.cl t _ c (nm t);simp only at m f d
  have n:e.kd=.oo:=by
   rcases l with z|z
   ·rw[f,p]at z;cases z.2
   ·rcases m.kd with q|q
    ·rcases z.1 with z|z<;>rw[q]at z<;>cases z
    ·exact q
  refine⟨t,fs,en,g,c,?_⟩;have:=Qei m n;rw[d n]at this;exact this
 ·obtain⟨t,fs,i,g,c,_⟩:=b.en j (YN a) a;obtain⟨e,m,f,d,l⟩:=b.cl t _ c (nm t);simp only at m f d;refine⟨t,fs,i,g,c,?_,?_⟩
  ·have:=QgE m;rw[f]at this;exact this
  ·have:=m.fit.at_;rw[f]at this;exact this
noncomputable def kst:Cd->List Cd->Option (List Cd)
 |.ei,s=>some (.ei::s)
 |.ag,s=>some (.ag::s)
 |.oo,s=>match s with
  |e::r=>if e=.ei then some (.oo::r)else none
  |[]=>none
 |.en,s=>match s with
  |e::r=>if e=.ei then none else some r
  |[]=>none
 |.ot,s=>some s
def QaO:List Cd->List Cd->Option (List Cd)
 |[],s=>some s
 |c::ls,s=>(kst c s).bind (QaO ls)
theorem GC:∀(ls ms:List Cd) (s:List Cd),QaO (ls++ms) s=(QaO ls s).bind (QaO ms)
 |[],ms,s=>rfl
 |c::ls,ms,s=>by
  show(kst c s).bind (QaO (ls++ms))=((kst c s).bind (QaO ls)).bind (QaO ms);cases kst c s with
  |none=>rfl
  |some t=>exact GC ls ms t
theorem V7(h:QaO ls s=some t)(k:kst c t=some u):QaO (ls++[c]) s=some u:=by
 rw[GC,h];show(kst c t).bind _=_;rw[k];rfl
theorem Qj8{k:Nat}{c:Cd}{st:List En}:(stp k c st).map (List.map En.kd)=kst c (st.map En.kd):=by
 cases c with
 |ei=>rfl
 |ag=>rfl
 |ot=>rfl
 | oo=>
  cases st with
  |nil=>rfl
  |cons e r=>
   simp only[stp,kst,Nw]
   by_cases h:e.kd=.ei<;>simp[h]
 | en=>
  cases st with
  |nil=>rfl
  |cons e r=>
   simp only[stp,kst,Nw]
   by_cases h:e.kd=.ei<;>simp[h]
theorem QbK:∀{k:Nat},k<=ls.length->(pil ls k).map (List.map En.kd)=QaO (ls.take k) []
 |0,_=>rfl
 | k+1,b=>by
  have a:k<ls.length:=by exact b
  have c:=QbK (ls:=ls) (k:=k) (Nr b);have d:ls.take (k+1)=ls.take k++[ls[k]]:=by rw[Ih a]
  rw[d,GC,<-c];simp only[pil];rw[Nl a];cases pil ls k with
  |none=>rfl
  |some p=>
   show(stp k ls[k] p).map _=(kst ls[k] (p.map En.kd)).bind (QaO []);rw[<-Qj8];cases stp k ls[k] p<;>rfl
theorem bal_iff:Bal ls↔QaO ls []=some []:=by
 have:=QbK (ls:=ls) (k:=ls.length) (Nz _);rw[Ew]at this;rw[<-this];unfold Bal;cases pil ls ls.length with
 |none=>simp
 |some p=>simp
end My4
namespace My
open L2 Mi My3 My4
theorem GH(f:Fd)(m:Int):∃p:Int×Fd,(0<m->0<=p.1/\p.1<m)/\(0<m->m<1000000->∀(h:MH) (n:Nat),h[n]?=some (Qv f)->Qf [.ref n,.int m] h=some (.int p.1,h.set n (Qv p.2))):=by
 obtain⟨a,b,j⟩:=f
 by_cases h:0<a
 ·refine⟨(a%m,⟨a/m,b,j⟩),fun c=>⟨EM _ (FA c),ER _ c⟩,fun c i g n e=>VT (o:=Qv ⟨a,b,j⟩) (g:=[]) (by simp) e (by simp[Qv]) ?_ rfl ⟨_,rfl,by simp⟩⟩;have d:m<1073741824:=by lia
  simp[ZD,Qz,h,c,d,Qv]
 ·refine⟨((b*69621+12345)%2147483647/8191%m,⟨a,(b*69621+12345)%2147483647,EM _ (by decide),Int.lt_trans (ER _ (by decide)) (by decide)⟩),fun c=>⟨EM _ (FA c),ER _ c⟩,fun c i g n e=>VT (o:=Qv ⟨a,b,j⟩) (g:=[]) (by simp) e (by simp[Qv]) ?_ rfl ⟨_,rfl,by simp⟩⟩;have d:m<1073741824:=by omega
  simp[ZD,Qz,h,c,d,Qv]
noncomputable def tk(f:Fd)(m:Int):Int:=(Classical.choose (GH f m)).1
noncomputable def tf(f:Fd)(m:Int):Fd:=(Classical.choose (GH f m)).2
theorem Wq(a:0<m):0<=tk f m/\tk f m<m:=(Oe (GH f m)).1 a
theorem U6(c:0<m)(a:m<1000000)(b:h[n]?=some (Qv f)):Qf [.ref n,.int m] h=some (.int (tk f m),h.set n (Qv (tf f m))):=(Oe (GH f m)).2 c a h n b
@[simp]theorem XB(d:0<m)(a:m<1000000)(c:QmM h n):Qf [.ref n,.int m] h=some (.int (tk (QfA h n) m),h.set n (Qv (tf (QfA h n) m))):=by
 obtain⟨f,b⟩:=c;rw[Qce b];exact U6 d a b
noncomputable abbrev abc:Str:="abcdefghijklmnopqrstuvwxyz"
theorem QaV(x:Str)(n:Int):(rep x n).length=n.toNat*x.length:=by unfold rep Str.length;simp
theorem Qa4(x y:Str):(x++y).length=x.length+y.length:=by show(x.cps++y.cps).size=_;simp[Str.length]
theorem QjH:abc.length=26:=by decide +kernel
noncomputable def ltr(i:Int):Str:=⟨#[97+i.toNat]⟩
theorem Qik:abc.cps.toList=(List.range 26).map (97+·):=by decide +kernel
@[simp]theorem Qkp:(ltr i).length=1:=rfl
@[simp]theorem Qo5(b:0<=i)(a:i<26):wIx (.str abc) (.int i) h=some (.str (ltr i),h):=by
 obtain⟨n,rfl⟩:∃n:Nat,i=n:=⟨i.toNat,by exact(DO ‹_›).symm⟩
 refine Qkh (by rw[QjH];decide) ?_;rw[QO,Qik,Np,Em (by lia)];rfl
theorem VP(e:ms σ h=some ([.int j],h'))(a:j<1000000):Wi ms σ h=some (Qt 0 j,none,h'):=by
 unfold Wi;rw[e,Ni];exact(if_pos ⟨by lia,by lia⟩).trans (by simp)
theorem JL:(Qt a n).length=n:=by simp[Qt]
theorem QaF:(Qt a n).map f=(List.range n).map fun(i:Nat)=>f (.int (a+i)):=by simp[Qt]
theorem Qns(c:0<=i)(b:i<6):∃v:Int,(v=1\/v=3\/v=5\/v=7\/v=9\/v=11)/\atI [W.int 1,.int 3,.int 5,.int 7,.int 9,.int 11] i=some (.int v):=by
 obtain⟨x,_,a,e⟩:=Qdp (xs:=[(1:Int),3,5,7,9,11]) (f:=W.int) (P:=fun v=>v=1\/v=3\/v=5\/v=7\/v=9\/v=11) c b (by decide);exact⟨x,a,e⟩
theorem Qnh(c:0<=i)(b:i<8):∃v:Int,1<=v/\v<=8/\atI [W.int 1,.int 3,.int 4,.int 5,.int 6,.int 7,.int 8,.int 1] i=some (.int v):=by
 obtain⟨x,_,a,e⟩:=Qdp (xs:=[(1:Int),3,4,5,6,7,8,1]) (f:=W.int) (P:=fun v=>1<=v/\v<=8) c b (by decide);exact⟨x,a.1,a.2,e⟩
theorem YJ{l:List j}(h:∀a∈l,∀b∈l,f a=f b->a=b)(d:l.Nodup):(l.map f).Nodup:=by
 unfold List.Nodup;rw[Yab];exact LF (fun i g c e=>c (h _ i _ g e)) d
theorem Gj{t st:Int}{a b:Nat}(d:st=1\/st=3\/st=5\/st=7\/st=9\/st=11)(f:a<5)(e:b<5)(h:((t+st*(0+(a:Int)))%26).toNat=((t+st*(0+(b:Int)))%26).toNat):a=b:=by
 rw[OU,OU]at h;have l:=EM (t+st*a) (show(26:Int)≠0 by decide);have j:=EM (t+st*b) (show(26:Int)≠0 by decide);have i:(t+st*a)%26=(t+st*b)%26:=by rw[<-DO l,<-DO j,h]
 have c:=Int.emod_eq_emod_iff_emod_sub_eq_zero.mp i;have g:t+st*a-(t+st*b)=st*((a:Int)-b):=by rw[Int.mul_sub];lia
 rw[g]at c;have key:∀a:Fin 5,∀b:Fin 5,∀st∈[(1:Int),3,5,7,9,11],st*((a.val:Int)-b.val)%26=0->a=b:=by decide
 exact Fin.mk.inj (key ⟨a,f⟩ ⟨b,e⟩ st (by simpa using d) c)
theorem QjP(h:a++ltr i++b=a++ltr j++b):i.toNat=j.toNat:=by
 have e:∀x y:Str,(x++y).cps.toList=x.cps.toList++y.cps.toList:=fun x y=>by show(x.cps++y.cps).toList=_;simp
 have c:=congrArg (fun s:Str=>s.cps.toList) h;simp only[e]at c;simp[ltr]at c;exact c
theorem Gi(f:Fd)(many:Nat)(j:many<=5):∃(ns:List Str) (P:Fd),ns.length=many/\ns.Nodup/\∀(h:MH) (n:Nat),h[n]?=some (Qv f)->Z3 [.ref n,.int many] h=some (Z1 ns,h.set n (Qv P)):=by
 obtain⟨D,C⟩:=Wq (f:=f) (m:=26) (by decide)
 by_cases B:tk (tf f 26) 3=0
 ·refine⟨(List.range many).map fun(k:Nat)=>rep (ltr (tk f 26)) ((0:Int)+k+1),tf (tf f 26) 3,by simp,YJ (fun a _ b _ e=>?_) Yam,fun h n t=>?_⟩
  ·have:=congrArg Str.length e;rw[QaV,QaV,Qkp]at this;lia
  ·refine VT (o:=Qv f) (g:=[]) (by simp) t (by simp[Qv]) ?_ (by simp) ⟨_,rfl,by simp⟩
   have e:=Yc (fin:=Jn) (mi:=Wi (Qa (Qb 1) Qc)) (cp:=[none,some 3]) (me:=Qe Yi (Qb 1) (Qe Zj (Qb 0) (mC (.int 1)))) (σ:=[some (.ref 0),some (.int many),some (.str abc),some (.str (ltr (tk f 26))),none,none,none,none,none]) (caps:=[some (.str (ltr (tk f 26)))]) (h:=[Qv (tf (tf f 26) 3)]) (items:=Qt 0 many)
    (fun w=>match w with|.int k=>.str (rep (ltr (tk f 26)) (k+1))|w=>w) (VP (by simp) (Nh j (by decide))) ⟨_,rfl⟩ (fun w hw=>by
     obtain⟨k,u,rfl⟩:=NL.mp hw;simp at u;simp
     exact QdM ⟨by lia,by lia,by simp⟩) (by rw[JL];exact Xi (Nr (Nh j (by decide))))
   simp[JF,Qz,D,C,B,e,Jn,Z1,QaF]
 ·generalize v:tf (tf f 26) 3=f2;obtain⟨b0,b1⟩:=Wq (f:=f2) (m:=26) (by decide);obtain⟨Z,Y⟩:=Wq (f:=tf f2 26) (m:=6) (by decide);obtain⟨X,U⟩:=Wq (f:=tf (tf f2 26) 6) (m:=8) (by decide);obtain⟨st,r,R⟩:=Qns Z Y;have s0:0<=st:=by lia
  have s1:st<=11:=by lia
  obtain⟨sz,z0,z1,Q⟩:=Qnh X U;obtain⟨A,z⟩:=Wq (f:=tf (tf (tf f2 26) 6) 8) (m:=sz) (by lia);generalize s:tk (tf (tf (tf f2 26) 6) 8) sz=c at A z;generalize l:ltr (tk f 26)=d;have i:d.length=1:=by rw[<-l];rfl
  have I:∀n:Int,(rep d n).length=n.toNat:=fun n=>by rw[QaV,i];exact Nat.add_comm _ _
  refine⟨(List.range many).map fun(k:Nat)=>rep d c++ltr ((tk f2 26+st*(0+(k:Int)))%26)++rep d (sz-1-c),tf (tf (tf (tf f2 26) 6) 8) sz,by simp,YJ (fun a O b N e=>?_) Yam,fun h n t=>?_⟩
  ·have:=QjP e;have y:=Ez.mp O;have x:=Ez.mp N;exact Gj r (Nk y j) (Nk x j) this
  ·refine VT (o:=Qv f) (g:=[]) (by simp) t (by simp[Qv]) ?_ (by simp) ⟨_,rfl,by simp⟩;have T:Yi (.str d) (.int (sz-1-c)) [Qv (tf (tf (tf (tf f2 26) 6) 8) sz)]=some (.str (rep d (sz-1-c)),_):=QdM ⟨by lia,by lia,by exact Nh (Nt i) (by decide)⟩;have M:(0:Int)<sz:=by exact Lb A z
   have q:sz<1000000:=by lia
   simp[JF,Qz,D,C,B,v,l,b0,b1,R,Q,M,q,s,T];rw[Yc (items:=Qt 0 many) (caps:=[some (.str (rep d (sz-1-c))),some (.str d),some (.int c),some (.str abc),some (.int (tk f2 26)),some (.int st)]) (fun w=>match w with|.int k=>.str (rep d c++ltr ((tk f2 26+st*k)%26)++rep d (sz-1-c))|w=>w)]
   ·simp[Jn,Z1,QaF]
   ·exact VP (by simp) (Nh j (by decide))
   ·exact⟨_,rfl⟩
   ·intro w hw;obtain⟨k,u,rfl⟩:=NL.mp hw;simp at u;have S:Yi (.str d) (.int c) [Qv (tf (tf (tf (tf f2 26) 6) 8) sz)]=some (.str (rep d c),_):=QdM ⟨by lia,by lia,by exact Nh (Nt i) (by decide)⟩;have H:0<=(tk f2 26+st*(k:Int))%26:=EM _ (by decide);have G:(tk f2 26+st*(k:Int))%26<26:=ER _ (by decide);have F:-18446744073709551616<st:=by lia
    have E:st<18446744073709551616:=by lia
    have L:c.toNat+1<=sizeLine:=Xi (by lia);have J:c.toNat+1+(sz-1-c).toNat<=sizeLine:=Xi (by lia);simp[S,H,G,F,E,I,L,J,Qa4]
   ·rw[JL];exact Xi (Nr (Nh j (by decide)))
inductive PlainL(bs ws:List Str):Ln->Prop where
 |pair {x w y z:Str} (hx:x∈bs) (hw:w∈ws) (hy:y∈bs) (hz:z∈bs):PlainL bs ws ["pair",x,w,y,z]
 |first {x y:Str} (hx:x∈bs) (hy:y∈bs):PlainL bs ws ["first",x,y]
 |second {x y:Str} (hx:x∈bs) (hy:y∈bs):PlainL bs ws ["second",x,y]
 |same {x y:Str} (hx:x∈bs) (hy:y∈bs):PlainL bs ws ["same",x,y]
 |none {x:Str} (hx:x∈bs):PlainL bs ws ["none",x]
 |tell {x:Str} (hx:x∈bs):PlainL bs ws ["tell",x]
theorem QfI{xs:List Str}{i:Int}(c:0<=i)(b:i<xs.length):∃x,x∈xs/\atI (xs.map W.str) i=some (.str x):=by
 obtain⟨x,a,_,e⟩:=Qdp (xs:=xs) (f:=W.str) (P:=fun _=>True) c b (fun _ _=>True.intro);exact⟨x,a,e⟩
theorem Qge(f:Fd)(bs ws:List Str)(t:0<bs.length)(p:bs.length<=5)(hw:0<ws.length)(e:ws.length<=5):∃(l:Ln) (E:Fd),PlainL bs ws l/\∀(h:MH) (n:Nat),h[n]?=some (Qv f)->Xo [.ref n,Z1 bs,Z1 ws] h=some (QH l,h.set n (Qv E)):=by
 obtain⟨Y,X⟩:=Wq (f:=f) (m:=10) (by decide);have b:(0:Int)<bs.length:=by lia
 have s:(bs.length:Int)<1000000:=by lia
 have r:(0:Int)<ws.length:=by lia
 have C:(ws.length:Int)<1000000:=by lia
 have U:bs≠[]:=by intro z;rw[z]at t;simp at t
 have T:ws≠[]:=by intro z;rw[z]at hw;simp at hw
 have S:bs.length<1000:=by exact Nh p (by decide)
 have R:ws.length<1000:=by exact Nh e (by decide)
 obtain⟨O,b1⟩:=Wq (f:=tf f 10) (m:=bs.length) b;obtain⟨x,a,A⟩:=QfI O b1;obtain⟨N,M⟩:=Wq (f:=tf (tf f 10) bs.length) (m:=bs.length) b;obtain⟨y,c,v⟩:=QfI N M
 by_cases u:tk f 10<4
 ·obtain⟨L,J⟩:=Wq (f:=tf (tf (tf f 10) bs.length) bs.length) (m:=bs.length) b;obtain⟨z,D,F⟩:=QfI L J;obtain⟨I,H⟩:=Wq (f:=tf (tf (tf (tf f 10) bs.length) bs.length) bs.length) (m:=ws.length) r;obtain⟨w,hw,G⟩:=QfI I H;refine⟨_,tf (tf (tf (tf (tf f 10) bs.length) bs.length) bs.length) ws.length,.pair a hw c D,fun h n j=>?_⟩;refine VT (o:=Qv f) (g:=[]) (by simp) j (by simp[Qv]) ?_ (by simp) ⟨_,rfl,by simp⟩;simp[Jx,Qz,Z1,XB b s,XB r C,A,v,F,G,u,QH]
 ·have q:0<=tk f 10-4:=by lia
  obtain⟨l,_,d,B⟩:=Qdp (xs:=([["first",x,y],["second",x,y],["same",x,y],["none",x],["tell",y],["tell",x]]:List Ln)) (i:=tk f 10-4) (f:=QH) (P:=PlainL bs ws) q (by show tk f 10-4<6;lia) (by
   intro l d;simp at d
   rcases d with rfl|rfl|rfl|rfl|rfl|rfl
   ·exact .first a c
   ·exact .second a c
   ·exact .same a c
   ·exact .none a
   ·exact .tell c
   ·exact .tell a)
  refine⟨l,tf (tf (tf f 10) bs.length) bs.length,d,fun h n j=>?_⟩;refine VT (o:=Qv f) (g:=[]) (by simp) j (by simp[Qv]) ?_ (by simp) ⟨_,rfl,by simp⟩;simp[QH]at B;simp[Jx,Qz,Z1,XB b s,A,v,u,B,QH]
noncomputable def cd(x:Str):Cd:=if x="either"then .ei else if x="again"then .ag else if x="or"then .oo else if x="end"then .en else .ot
def cdL:Ln->Cd
 |[]=>.ot
 |x::_=>cd x
inductive LineOk(bs ws later:List Str):Ln->Prop where
 |plain {l:Ln} (h:PlainL bs ws l):LineOk bs ws later l
 |do {x:Str} (h:x∈later):LineOk bs ws later ["do",x]
 |blk {x:Str} (h:x="either"\/x="again"\/x="or"\/x="end"):LineOk bs ws later [x]
 |back {x:Str} (h:x∈ws):LineOk bs ws later ["back",x]
noncomputable abbrev orL:Ln:=["or"]
noncomputable abbrev Ql7:Ln:=["end"]
def QaY:Ln->Bool
 |x::_=>x=="do"
 |[]=>false
def dcn(ls:List Ln):Nat:=ls.countP QaY
theorem Qcd(L:List Ln)(l:Ln):dcn (L++[l])=dcn L+(if QaY l=true then 1 else 0):=by simp[dcn,List.countP_append,Yan]
theorem YC{L:List Ln}(h:QaY l=false):dcn (L++[l])=dcn L:=by rw[Qcd,h];rfl
theorem Qf2{bs ws:List Str}(h:PlainL bs ws l):QaY l=false:=by cases h<;>(show(_==_)=false)<;>decide
theorem We:cd "again"=.ag:=by decide
theorem QlE:cd "or"=.oo:=by decide
theorem QbF:cd "end"=.en:=by decide
theorem Qhe{bs ws:List Str}(h:PlainL bs ws l):cdL l=.ot:=by cases h<;>(show cd _=.ot)<;>decide
@[simp]theorem Ur(e:h[i]?=some (.lst us))(d:h[j]?=some (.lst a))(c:ZZ us=true)(b:ZZ a=true):Zl (Qc9 h) [i,j]=some [.lst us,.lst a]:=by
 simp[Zl,Wk e c,Wk d b]
theorem Qhs{O:List Str}(d:L.length<=100000)(a:i≠j)(f:h[i]?=some (.lst (L.map QH)))(e:h[j]?=some (.lst ((O++[("either":Str)]).map .str))) :
  QT [.ref i,.ref j] h=some (.non,(h.set i (.lst ((L++[orL]).map QH))).set j (.lst ((O++[("or":Str)]).map .str))):=by
 refine Yw (w:=.non) (as:=[.ref 0,.ref 1]) (ns:=[i,j]) (os:=[.lst (L.map QH),.lst ((O++[("either":Str)]).map .str)]) (os':=[.lst ((L++[orL]).map QH),.lst ((O++[("or":Str)]).map .str)]) (g:=[]) rfl (by simp[a]) (Ur f e (by simp) (by simp)) ?_ rfl ?_ rfl
 ·have l:L.length<sizeLine:=QcF (Nr (Nh d (by decide)));simp[ZP,Qz,l,QH]
 ·intro o b;simp at b
  rcases b with rfl|rfl
  ·exact⟨_,rfl,by simp⟩
  ·exact⟨_,rfl,by simp⟩
theorem Qhz{O:List Str}{x:Str}(d:x≠"either")(e:L.length<=100000)(a:i≠j)(l:h[i]?=some (.lst (L.map QH)))(f:h[j]?=some (.lst ((O++[x]).map .str))) :
  QT [.ref i,.ref j] h=some (.non,(h.set i (.lst ((L++[Ql7]).map QH))).set j (.lst (O.map .str))):=by
 refine Yw (w:=.non) (as:=[.ref 0,.ref 1]) (ns:=[i,j]) (os:=[.lst (L.map QH),.lst ((O++[x]).map .str)]) (os':=[.lst ((L++[Ql7]).map QH),.lst (O.map .str)]) (g:=[]) rfl (by simp[a]) (Ur l f (by simp) (by simp)) ?_ rfl ?_ rfl
 ·have m:L.length<sizeLine:=QcF (Nr (Nh e (by decide)));simp[ZP,Qz,m,QH,d]
 ·intro o b;simp at b
  rcases b with rfl|rfl
  ·exact⟨_,rfl,by simp⟩
  ·exact⟨_,rfl,by simp⟩
structure PI(bs ws later:List Str)(size d0:Int)(n:Nat)(σ:MSt)(h:MH):Prop where
 ex:∃(f:Fd) (L:List Ln) (O:List Str) (op ds:Int) (kk ww:Option W),σ=[some (.ref 0),some (.int size),some (.tup [Z1 bs,Z1 ws]),some (Z1 later),some (.int op),some (.int ds),some (.ref 1),some (.ref 2),kk,ww]/\h=[Qv f,.lst (L.map QH),.lst (O.map .str)] /\
  (∀l∈L,LineOk bs ws later l)/\QaO (L.map cdL) []=some (O.reverse.map cd)/\(∀x∈O,x="either"\/x="again"\/x="or")/\L.length=n/\O.length<=n/\(dcn L:Int)+ds=d0/\0<=ds
theorem Qjj(O:List Str)(h:O≠[]):∃r x,O=r++[x]:=⟨O.dropLast,O.getLast h,(EX h).symm⟩
theorem Qb6{bs ws later:List Str}:LineOk bs ws later Ql7:=.blk (.inr (.inr (.inr rfl)))
theorem Qfj{bs ws later:List Str}:LineOk bs ws later orL:=.blk (.inr (.inr (.inl rfl)))
theorem Vo{P:a->Prop}{xs:List a}(h:∀y∈xs,P y)(c:P x):∀y∈xs++[x],P y:=fun y b=>by
 rcases NT.mp b with z|z
 ·exact h y z
 ·rw[NF.mp z];exact c
theorem QeP{P:Str->Prop}(h:∀z∈xs++[x],P z)(b:P y):∀z∈xs++[y],P z:=Vo (fun z a=>h z (El _ a)) b
theorem K9(O:List Str)(x:Str):(O++[x]).reverse.map cd=cd x::O.reverse.map cd:=by simp
theorem Xs(L:List Ln)(l:Ln):(L++[l]).map cdL=L.map cdL++[cdL l]:=by simp
theorem opk{x:Str}(h:x="either"\/x="again"\/x="or")(a:x≠"either"):cd x≠.ei:=by
 rcases h with rfl|rfl|rfl
 ·exact absurd rfl a
 ·decide
 ·decide
theorem QhI{s:List Cd}(h:cd x≠.ei):kst .en (cd x::s)=some s:=by simp[kst,h]
abbrev pS(bs ws later:List Str)(a op b:Int)(k:W)(way:Int):MSt:=[some (.ref 0),some (.int a),some (.tup [Z1 bs,Z1 ws]),some (Z1 later),some (.int op),some (.int b),some (.ref 1),some (.ref 2),some k,some (.int way)]
theorem Qem{bs ws later:List Str}{σ:MSt}(hb:0<bs.length)(S:bs.length<=5)(hw:0<ws.length)(N:ws.length<=5)(aa:later.length<=5)(G:n<=1000)(H:PI bs ws later d d0 n σ h) :
  ∃σ1,Q2 8 k σ h=some σ1/\∃σ2 h2,(JG σ1 h=some (.nx σ2 h2)\/JG σ1 h=some (.ct σ2 h2))/\PI bs ws later d d0 (n+1) σ2 h2:=by
 obtain⟨f,L,O,op,p,kk,ww,rfl,rfl,D,v,w,t,e,q,s⟩:=H.ex;refine⟨_,rfl,?_⟩;obtain⟨Y,a1⟩:=Wq (f:=f) (m:=14) (by decide);have u:L.length<sizeLine:=QcF (Nr (Nh (Nn (Nt t) G) (by decide)));have R:O.length<sizeLine:=QcF (Nr (Nh (Nn e G) (by decide)));generalize g:tk f 14=c at Y a1;have F:∀h,J4 (Qj (Qe wLt (Qb 9) (mC (.int 3)))) (Qj (Qe wGt (Qb 4) (mC (.int 0)))) (pS bs ws later d op p k c) h=some (decide (c<3/\0<op),h):=fun h=>by by_cases a:c<3<;>simp[a]
 have M:∀f,J4 (Qj (Qe wLt (Qb 9) (mC (.int 6)))) (Qj (Qe wGt (mFn JB (Qa (Qb 7) Qc)) (mC (.int 0)))) (pS bs ws later d op p k c) [Qv f,.lst (L.map QH),.lst (O.map .str)]=some (decide (c<6/\0<O.length),[Qv f,.lst (L.map QH),.lst (O.map .str)]):=fun h=>by by_cases a:c<6<;>simp[a]
 have T:∀h,J4 (Qj (Qe (wIn false) (Qb 9) (mFn Vq (Qa (mC (.int 6)) (Qa (mC (.int 7)) Qc))))) (J4 (Qj (Qe wGt (Qb 5) (mC (.int 0)))) (Qj (Qe wGt (mFn JB (Qa (Qb 3) Qc)) (mC (.int 0))))) (pS bs ws later d op p k c) h=some (decide ((c=6\/c=7)/\0<p/\0<later.length),h):=fun h=>by
  by_cases a:c=6\/c=7
  ·by_cases b:0<p<;>simp[a,b]
  ·simp[a]
 by_cases E:c<3/\0<op
 ·obtain⟨x,_,o,I⟩:=Qdp (xs:=([("either":Str),"again","either"])) (f:=W.str) (P:=fun x=>x="either"\/x="again") Y (by show c<3;exact E.1) (by simp);simp at I;refine⟨pS bs ws later d (op-1) p k c,[Qv (tf f 14),.lst ((L++[[x]]).map QH),.lst ((O++[x]).map .str)],.inl ?_,⟨_,_,_,_,_,_,_,rfl,rfl,?_,?_,?_,?_,?_,?_,s⟩⟩
  ·simp[-Qb4,g,F,E,I,R,u,QH]
  ·exact Vo D (.blk (by rcases o with rfl|rfl<;>simp))
  ·rw[Xs,K9];refine V7 v ?_
   rcases o with rfl|rfl
   ·rfl
   ·show kst (cd "again") _=_;rw[We];rfl
  ·exact Vo w (by rcases o with z|z<;>simp[z])
  ·simp[t]
  ·simp;exact e
  ·rw[YC (by rcases o with rfl|rfl<;>decide)];exact q
 ·by_cases h2:c<6/\0<O.length
  ·obtain⟨r,x,rfl⟩:=Qjj O (by intro z;rw[z]at h2;simp at h2);rw[K9]at v
   have J:∃B A,((x="either"/\B=L++[orL]/\A=r++[("or":Str)])\/(x≠"either"/\B=L++[Ql7]/\A=r))/\QT [.ref 1,.ref 2] [Qv (tf f 14),.lst (L.map QH),.lst ((r++[x]).map .str)]=some (.non,[Qv (tf f 14),.lst (B.map QH),.lst (A.map .str)]):=by
    by_cases o:x="either"
    ·subst o;exact⟨_,_,.inl ⟨rfl,rfl,rfl⟩,Qhs (L:=L) (O:=r) (i:=1) (j:=2) (Nr (Nh (Nn (Nt t) G) (by decide))) (by decide) rfl rfl⟩
    ·exact⟨_,_,.inr ⟨o,rfl,rfl⟩,Qhz (L:=L) (O:=r) (x:=x) (i:=1) (j:=2) o (Nr (Nh (Nn (Nt t) G) (by decide))) (by decide) rfl rfl⟩
   obtain⟨B,A,hc,J⟩:=J;refine⟨pS bs ws later d op p k c,[Qv (tf f 14),.lst (B.map QH),.lst (A.map .str)],.inl ?_,⟨_,B,A,_,_,_,_,rfl,rfl,?_⟩⟩
   ·have ab:c<6/\0<r.length+1:=⟨h2.1,by exact IF _⟩
    have C:=M (tf f 14);simp only[N6,Nw,EG]at J C;simp[-Qb4,g,F,E,C,h2.1,J]
   ·rcases hc with⟨rfl,rfl,rfl⟩|⟨o,rfl,rfl⟩
    ·refine⟨Vo D Qfj,?_,QeP w (by simp),by simp[t],by simp at e ⊢;exact Nr e,by rw[YC (by decide)];exact q,s⟩;rw[Xs,K9];exact V7 v rfl
    ·refine⟨Vo D Qb6,?_,fun y hy=>w y (El _ hy),by simp[t],by simp at e ⊢;exact Nr (Nk e (Nv _ _)),by rw[YC (by decide)];exact q,s⟩;rw[Xs];refine V7 v ?_;show kst (cd "end") _=_;rw[QbF];exact QhI (opk (w x (by simp)) o)
  ·by_cases X:(c=6\/c=7)/\0<p/\0<later.length
   ·have U:(0:Int)<later.length:=by lia
    have Z:(later.length:Int)<1000000:=by lia
    obtain⟨b0,b1⟩:=Wq (f:=tf f 14) (m:=later.length) U;obtain⟨x,o,I⟩:=QfI b0 b1;refine⟨pS bs ws later d op (p-1) k c,[Qv (tf (tf f 14) later.length),.lst ((L++[(["do",x]:Ln)]).map QH),.lst (O.map .str)],.inl ?_,⟨_,_,_,_,_,_,_,rfl,rfl,?_,?_,w,?_,?_,?_,by lia⟩⟩
    ·simp[-Qb4,g,F,E,M,h2,T,X,u,QH,XB U Z,I]
    ·exact Vo D (.do o)
    ·rw[Xs];exact V7 v (by show kst (cd "do") _=_;rw[show cd "do"=.ot by decide];rfl)
    ·simp[t]
    ·exact Nn e (Nv _ _)
    ·rw[Qcd,if_pos (by show(_==_)=true;decide)];lia
   ·obtain⟨l,f',Q,ep⟩:=Qge (tf f 14) bs ws hb S hw N;refine⟨pS bs ws later d op p k c,[Qv f',.lst ((L++[l]).map QH),.lst (O.map .str)],.inl ?_,⟨_,_,_,_,_,_,_,rfl,rfl,?_,?_,w,?_,?_,?_,s⟩⟩
    ·simp[-Qb4,g,F,E,M,h2,T,X,u,ep]
    ·exact Vo D (.plain Q)
    ·rw[Xs];exact V7 v (by rw[Qhe Q];rfl)
    ·simp[t]
    ·exact Nn e (Nv _ _)
    ·rw[YC (Qf2 Q)];exact q
noncomputable def wt(O:List Str):Nat:=(O.map fun(x:Str)=>if x="either"then 2 else 1).sum
theorem U0(O:List Str)(x:Str):wt (O++[x])=wt O+(if x="either"then 2 else 1):=by simp[wt]
theorem QnX(O:List Str):wt O<=2*O.length:=by
 induction O with
 |nil=>simp[wt]
 |cons x O a=>simp only[wt,Nw,OA,NM]at a ⊢;split<;>lia
theorem Ql8(O:List Str)(h:O≠[]):0<wt O:=by
 obtain⟨r,x,rfl⟩:=Qjj O h;rw[U0];split<;>lia
theorem QdG(g:List Ln->List Str->MH)(bound:Nat)(f:i≠j)(G:bound<=90000)
  (C:∀L O,(g L O)[i]?=some (.lst (L.map QH))) (B:∀L O,(g L O)[j]?=some (.lst (O.map .str))) (A:∀L O b p,((g L O).set i (.lst (b.map QH))).set j (.lst (p.map .str))=g b p)
  (v:∀L O,t σ (g L O)=some (decide (0<O.length),g L O)) (z:∀L O w h,QT [.ref i,.ref j] (g L O)=some (w,h)->body σ (g L O)=some (.nx σ h))
  (L:List Ln) (O:List Str) (I:∀l∈L,LineOk bs ws later l) (F:QaO (L.map cdL) []=some (O.reverse.map cd)) (H:∀x∈O,x="either"\/x="again"\/x="or") (E:L.length+wt O<=bound) :
  ∃b,(∀l∈b,LineOk bs ws later l)/\Bal (b.map cdL)/\b.length<=bound/\dcn b=dcn L/\QP t body 1000000 σ (g L O)=some (.nx σ (g b [])):=by
 have key:=QaC (t:=t) (body:=body) (fun n a h=>a=σ/\∃L1 O,dcn L1=dcn L/\h=g L1 O/\n=wt O/\(∀l∈L1,LineOk bs ws later l)/\QaO (L1.map cdL) []=some (O.reverse.map cd)/\(∀x∈O,x="either"\/x="again"\/x="or")/\L1.length+wt O<=bound) (wt O) 1000000 σ (g L O) (by lia) ⟨rfl,L,O,rfl,rfl,rfl,I,F,H,E⟩ ?_
 ·obtain⟨a,J,e,rfl,b,p,c,rfl,hw,u,o,s,m⟩:=key
  have:p=[]:=by
   cases p with
   |nil=>rfl
   |cons x r=>have:=Ql8 (x::r) (by simp);lia
  subst this;exact⟨b,u,bal_iff.mpr o,by exact Nn (Nv _ _) m,c,e⟩
 ·rintro n a h ⟨rfl,L1,O,c,rfl,rfl,u,o,s,m⟩
  by_cases d:O=[]
  ·subst d;exact .inl ⟨by rw[v];rfl,rfl⟩
  ·refine .inr ⟨by rw[v,decide_eq_true (Fp.mpr d)],?_⟩;obtain⟨r,x,rfl⟩:=Qjj O d;rw[K9]at o;rw[U0]at m ⊢
   by_cases q:x="either"
   ·subst q;rw[if_pos rfl]at m ⊢;refine⟨wt (r++[("or":Str)]),a,g (L1++[orL]) (r++[("or":Str)]),?_,.inl ?_,rfl,_,_,(YC (by decide)).trans c,rfl,rfl,Vo u Qfj,?_,QeP s (by simp),?_⟩
    ·rw[U0,if_neg (by decide)];exact EC (by decide) _
    ·refine z _ _ .non _ ?_;rw[Qhs (L:=L1) (O:=r) (by lia) f (C _ _) (B _ _),A]
    ·rw[Xs,K9];exact V7 o rfl
    ·rw[U0,if_neg (by decide)];simp;lia
   ·rw[if_neg q]at m ⊢;refine⟨wt r,a,g (L1++[Ql7]) r,by exact N1 _,.inl ?_,rfl,_,_,(YC (by decide)).trans c,rfl,rfl,Vo u Qb6,?_,fun y D=>s y (El _ D),?_⟩
    ·refine z _ _ .non _ ?_;rw[Qhz (L:=L1) (O:=r) q (by lia) f (C _ _) (B _ _),A]
    ·rw[Xs];refine V7 o ?_;show kst (cd "end") _=_;rw[QbF];exact QhI (opk (s x (by simp)) q)
    ·simp;lia
theorem Qdo(f:Fd)(a:Nat)(bs ws later:List Str)(op c:Int)(s:0<=c)(D:a<=100)(N:0<bs.length)(v:bs.length<=5)(hw:0<ws.length)(p:ws.length<=5)(r:later.length<=5) :
  ∃(ls:List Ln) (U:Fd),Bal (ls.map cdL)/\(∀l∈ls,LineOk bs ws later l)/\ls.length<=3*a/\(dcn ls:Int)<=c/\∀(h:MH) (n:Nat),h[n]?=some (Qv f)->VJ [.ref n,.int a,.tup [Z1 bs,Z1 ws],Z1 later,.int op,.int c] h=some (.tup (ls.map QH),h.set n (Qv U)):=by
 have d:=Q3 (items:=Qt 0 a) (b:=Q2 8) (body:=JG) (PI bs ws later a c) (Qt 0 a) 0 [some (.ref 0),some (.int a),some (.tup [Z1 bs,Z1 ws]),some (Z1 later),some (.int op),some (.int c),some (.ref 1),some (.ref 2),none,none] [Qv f,.lst [],.lst []]
  ⟨f,[],[],op,c,none,none,rfl,rfl,by simp,rfl,by simp,rfl,Nz _,by simp[dcn],s⟩ (fun j w I A h H=>Qem N v hw p r (by have:=(Nf.mp I).1;rw[JL]at this;lia) H)
 obtain⟨z,h',Z,H⟩:=d;obtain⟨f1,L,O,m,x,C,B,rfl,rfl,Q,G,P,F,q,J,M⟩:=H.ex;rw[JL,NI]at F q
 have cl:=QdG (bs:=bs) (ws:=ws) (later:=later) (i:=1) (j:=2) (t:=Qj (Qe wGt (mFn JB (Qa (Qb 7) Qc)) (mC (.int 0)))) (body:=Kr) (σ:=[some (.ref 0),some (.int a),some (.tup [Z1 bs,Z1 ws]),some (Z1 later),some (.int m),some (.int x),some (.ref 1),some (.ref 2),C,B])
  (fun L O=>[Qv f1,.lst (L.map QH),.lst (O.map .str)]) (3*a) (by decide) (by lia) (fun _ _=>rfl) (fun _ _=>rfl) (fun _ _ _ _=>rfl) (fun L O=>by simp) (fun L O w h e=>by simp[e]) L O Q G P (by have:=QnX O;lia)
 obtain⟨y,T,S,R,u,Y⟩:=cl;refine⟨y,f1,S,T,R,by rw[u];lia,fun h n E=>?_⟩;refine VT (o:=Qv f) (g:=[.lst (y.map QH),.lst []]) (by simp) E (by simp[Qv]) ?_ (by simp) ⟨_,rfl,by simp⟩;have X:Wi (Qa (Qb 1) Qc) [some (.ref 0),some (.int a),some (.tup [Z1 bs,Z1 ws]),some (Z1 later),some (.int op),some (.int c),some (.ref 1),some (.ref 2),none,none] [Qv f,.lst [],.lst []]=some (Qt 0 a,none,[Qv f,.lst [],.lst []]):=VP (by simp) (Nh D (by decide));simp[V8,Qz,Zm,X,Z,Y]
noncomputable abbrev QiO(i:Nat):Nat:=if i=0 then 23 else 1
structure GoodP(N:Nat)(bs ws:List Str)(p:List Pt):Prop where
 ne:p≠[]
 len:p.length<=5
 bal:∀x∈p,Bal (x.2.map cdL)
 sz:∀x∈p,x.2.length<=N
 ok:∀(i:Nat) (x:Pt),p[i]?=some x->∀l∈x.2,LineOk bs ws ((p.map (·.1)).drop (i+1)) l
 nd:(p.map (·.1)).Nodup
 dos:∀(i:Nat) (x:Pt),p[i]?=some x->dcn x.2<=QiO i
theorem QbG(xs:List a)(k:Nat):Ux xs (some (k:Int)) none=xs.drop k:=by
 unfold Ux;rw[HT.sIx_nat,HT.sIx_none]
 by_cases h:k<=xs.length
 ·rw[Nat.min_eq_left h,F6 (by simp)]
 ·rw[Yao (Nr (DT.mp h)),E5 (Nz _),E5 (Nr (DT.mp h))];simp
theorem QhF{k:Nat}(a:i=k):wSl (Z1 ns) (some i) none h=some (Z1 (ns.drop k),h):=by
 subst a;unfold Z1;simp[QbG,List.map_drop]
@[simp]theorem Qm4:wSl (Z1 ns) (some 1) none h=some (Z1 (ns.drop 1),h):=QhF (k:=1) rfl
theorem Qda{i:Int}(h:0<=i):∃n:Nat,i=n:=⟨i.toNat,by exact(DO ‹_›).symm⟩
theorem Qg4(e:ms σ h=some ([.int 1,.int j],h'))(a:j<100000000):QgA ms σ h=some (Qt 1 (j-1),none,h'):=by
 unfold QgA;rw[e,Ni];refine(if_pos ⟨by exact by decide,by exact by decide,by lia,by lia⟩).trans ?_;rw[show((j:Int)-1).toNat=j-1 by lia]
structure PP(N:Nat)(bs ws names:List Str)(k:Nat)(p:List Pt):Prop where
 nm:p.map (·.1)=names.take k
 bal:∀x∈p,Bal (x.2.map cdL)
 sz:∀x∈p,x.2.length<=N
 ok:∀(i:Nat) (x:Pt),p[i]?=some x->∀l∈x.2,LineOk bs ws (names.drop (i+1)) l
 dos:∀(i:Nat) (x:Pt),p[i]?=some x->dcn x.2<=QiO i
theorem PP.snoc{nm:Str}(H:PP N bs ws a k p)(e:a[k]?=some nm)(j:Bal (ls.map cdL))(g:ls.length<=N)(h:∀l∈ls,LineOk bs ws (a.drop (k+1)) l)(hd:dcn ls<=QiO k):PP N bs ws a (k+1) (p++[(nm,ls)]):=by
 have d:=(Nf.mp e).1;have c:p.length=k:=by have:=congrArg List.length H.nm;simp at this;lia
 refine⟨?_,Vo H.bal j,Vo H.sz g,fun i x b=>?_,fun i x b=>?_⟩
 ·rw[N6,H.nm,Ih d];rw[Nl d]at e;cases e;rfl
 ·by_cases f:i<p.length
  ·rw[NO f]at b;exact H.ok i x b
  ·have:i=p.length:=by have:=(Nf.mp b).1;simp at this;lia
   subst this;simp at b;subst b;rw[c];exact h
 ·by_cases f:i<p.length
  ·rw[NO f]at b;exact H.dos i x b
  ·have:i=p.length:=by have:=(Nf.mp b).1;simp at this;omega
   subst this;simp at b;subst b;rw[c];exact hd
theorem PP.good(H:PP N bs ws a a.length p)(e:a≠[])(f:a.length<=5)(d:a.Nodup):GoodP N bs ws p:=by
 have b:p.map (·.1)=a:=by rw[H.nm,Ew]
 have c:p.length=a.length:=by rw[<-b];simp
 refine⟨fun z=>e (by rw[<-b,z];rfl),by exact Nn (Nt c) f,H.bal,H.sz,?_,by rw[b];exact d,H.dos⟩;rw[b];exact H.ok
theorem Qc6(f:Fd)(r b1 q d:Nat)(h0:1<=r/\r<=5)(h1:1<=b1/\b1<=5)(h2:1<=q/\q<=5)(h3:3<=d/\d<=48) :
  ∃(bs ws:List Str) (p:List Pt) (D:Fd),(0<bs.length/\bs.length<=5)/\(0<ws.length/\ws.length<=5)/\GoodP 300 bs ws p/\∀(h:MH) (n:Nat),h[n]?=some (Qv f)->Vn [.ref n,.lst [.int r,.int b1,.int q,.int d]] h=some (Q6 p,h.set n (Qv D)):=by
 have Z:(0:Int)<r:=by lia
 have J:(r:Int)<1000000:=by lia
 have Y:(0:Int)<b1:=by lia
 have I:(b1:Int)<1000000:=by lia
 have X:(0:Int)<q:=by lia
 have G:(q:Int)<1000000:=by lia
 obtain⟨a0,a1⟩:=Wq (f:=f) Z;obtain⟨n0,e0⟩:=Qda a0;obtain⟨bs,f1,lb,_,eb⟩:=Gi (tf f r) (1+n0) (by lia);obtain⟨c0,c1⟩:=Wq (f:=f1) Y;obtain⟨n1,e1⟩:=Qda c0;obtain⟨ws,f2,lw,_,ew⟩:=Gi (tf f1 b1) (1+n1) (by lia);obtain⟨d0,d1⟩:=Wq (f:=f2) X;obtain⟨n2,e2⟩:=Qda d0;obtain⟨a,l,B,N,en⟩:=Gi (tf f2 q) (1+n2) (by lia);obtain⟨g0,g1⟩:=Wq (f:=l) (m:=3) (by decide);have y:0<bs.length/\bs.length<=5:=by lia
 have hw:0<ws.length/\ws.length<=5:=by lia
 obtain⟨c,P,hs,es⟩:∃(c:Nat) (P:Fd),c<=60/\(if tk (tf l 3) 4=0 then@om _ _ (fun p=>MF.nx [some (.ref 0),some (.lst [.int r,.int b1,.int q,.int d]),some (.tup [Z1 bs,Z1 ws]),some (Z1 a),some p.fst,none,none] p.snd) (Qf [.ref 0,.int (d-tk l 3+1)] [Qv (tf (tf l 3) 4)])
   else some (MF.nx [some (.ref 0),some (.lst [.int r,.int b1,.int q,.int d]),some (.tup [Z1 bs,Z1 ws]),some (Z1 a),some (.int (d-tk l 3)),none,none] [Qv (tf (tf l 3) 4)]))=some (.nx [some (.ref 0),some (.lst [.int r,.int b1,.int q,.int d]),some (.tup [Z1 bs,Z1 ws]),some (Z1 a),some (.int c),none,none] [Qv P]):=by
  by_cases z:tk (tf l 3) 4=0
  ·have A:(0:Int)<d-tk l 3+1:=by lia
   have F:(d:Int)-tk l 3+1<1000000:=by lia
   obtain⟨k0,k1⟩:=Wq (f:=tf (tf l 3) 4) A;obtain⟨sz,Q⟩:=Qda k0;exact⟨sz,tf (tf (tf l 3) 4) (d-tk l 3+1),by lia,by simp[z,XB A F,Q]⟩
  ·obtain⟨sz,Q⟩:=Qda (i:=d-tk l 3) (by lia);exact⟨sz,tf (tf l 3) 4,by lia,by simp[z,Q]⟩
 obtain⟨s,C,p1,p2,p3,p4,ep⟩:=Qdo P c bs ws (a.drop 1) 2 2 (by decide) (Nr (Nh hs (by decide))) y.1 y.2 hw.1 hw.2 (by simp;lia);obtain⟨e,v⟩:∃x,a[0]?=some x:=⟨a[0]'(Nk (Nk (by decide) (Nv _ _)) (Nt B.symm)),Nl (Nk (Nk (by decide) (Nv _ _)) (Nt B.symm))⟩
 have t:=Q3 (items:=Qt 1 (a.length-1)) (b:=Q2 6) (body:=VY) (fun n U h=>∃(f:Fd) (p:List Pt) (L:Option W),U=[some (.ref 0),some (.lst [.int r,.int b1,.int q,.int d]),some (.tup [Z1 bs,Z1 ws]),some (Z1 a),some (.int c),some (.ref 1),L]/\h=[Qv f,.lst (p.map Vf)]/\PP 300 bs ws a (n+1) p)
  (Qt 1 (a.length-1)) 0 [some (.ref 0),some (.lst [.int r,.int b1,.int q,.int d]),some (.tup [Z1 bs,Z1 ws]),some (Z1 a),some (.int c),some (.ref 1),none] [Qv C,.lst [Vf (e,s)]]
  ⟨C,[(e,s)],none,rfl,rfl,PP.snoc (p:=[]) ⟨rfl,by simp,by simp,by simp,by simp⟩ v p1 (by lia) p2 (by show _<=23;lia)⟩ (by
   rintro j w hj U h ⟨f,p,L,rfl,rfl,H⟩
   have O:=(Nf.mp hj).1;rw[JL]at O;obtain rfl:w=.int ((j:Int)+1):=by rw[(K8 hj).2,Int.add_comm]
   refine⟨_,rfl,?_⟩;obtain⟨t0,t1⟩:=Wq (f:=f) (m:=4) (by decide);obtain⟨m,em⟩:=Qda t0;obtain⟨ls,D,A,F,r3,r4,E⟩:=Qdo (tf f 4) m bs ws (a.drop (j+2)) 1 1 (by decide) (by lia) y.1 y.2 hw.1 hw.2 (by simp;lia);obtain⟨nm,u⟩:∃x,a[j+1]?=some x:=⟨a[j+1]'(by lia),Nl (by omega)⟩
   refine⟨[some (.ref 0),some (.lst [.int r,.int b1,.int q,.int d]),some (.tup [Z1 bs,Z1 ws]),some (Z1 a),some (.int c),some (.ref 1),some (.int ((j:Int)+1))],[Qv D,.lst ((p++[(nm,ls)]).map Vf)],.inl ?_,D,_,_,rfl,rfl,?_⟩
   ·have T:atI (a.map W.str) ((j:Int)+1)=some (.str nm):=by rw[show(j:Int)+1=((j+1:Nat):Int) by exact rfl,QO,Np,u];rfl
    have R:∀h,wSl (Z1 a) (some ((j:Int)+1+1)) none h=some (Z1 (a.drop (j+2)),h):=fun h=>QhF rfl;have M:p.length<sizeLine:=by have:=congrArg List.length H.nm;simp at this;exact QcF (by lia)
    simp[T,R,em,E,M,Vf]
   ·rw[NI]at H ⊢
    exact H.snoc u A (by lia) F (by rw[QiO,if_neg (EO (IF _))];lia))
 obtain⟨aa,h',el,f6,p,L,rfl,rfl,H⟩:=t;rw[JL,NI,show a.length-1+1=a.length by lia]at H;refine⟨bs,ws,p,f6,y,hw,H.good (by intro z;rw[z]at B;simp at B;lia) (by lia) N,fun h n hn=>?_⟩;refine VT (o:=Qv f) (g:=[.lst (p.map Vf)]) (by simp) hn (by simp[Qv]) ?_ (by simp) ⟨_,rfl,by simp⟩;have E:QgA (Qa (mC (.int 1)) (Qa (mFn JB (Qa (Qb 3) Qc)) Qc)) [some (.ref 0),some (.lst [.int r,.int b1,.int q,.int d]),some (.tup [Z1 bs,Z1 ws]),some (Z1 a),some (.int c),some (.ref 1),none] [Qv C,.lst [Vf (e,s)]]=some (Qt 1 (a.length-1),none,[Qv C,.lst [Vf (e,s)]]):=Qg4 (by simp) (by lia);have T:atI (a.map W.str) 0=some (.str e):=by rw[Qqu,Np,v];rfl
 push_cast at eb ew en;rw[List.drop_one]at ep;have S:Vf (e,s)=.tup [.str e,.tup (s.map QH)]:=rfl;rw[S]at E el;simp[JP,Qz,Zm,XB Z J,XB Y I,XB X G,e0,e1,e2,eb,ew,en,es,T,ep,E,el,Q6]
theorem JJ(h:LineOk bs ws a l):∃x r,l=x::r:=by
 cases h with
 |plain h=>cases h<;>exact⟨_,_,rfl⟩
 |«do» h=>exact⟨_,_,rfl⟩
 |blk h=>exact⟨_,_,rfl⟩
 |back h=>exact⟨_,_,rfl⟩
theorem Qdm(h:GoodP N bs ws p)(b:N<=M):GoodP M bs ws p:=⟨h.ne,h.len,h.bal,fun x a=>Nn (h.sz x a) b,h.ok,h.nd,h.dos⟩
theorem Qdv(ns:List Int)(k:Nat)(j:k<100):∃f:Fd,∀h:MH,Z0 [.frz (ns.map .int),.int k] h=some (.ref h.length,h++[Qv f]):=by
 have fin:∀(a b:Int) (g:0<=b/\b<1099511627776),Ji [.frz (ns.map .int),.int k] []=some (.ref 0,[.lst [.int a,.int b]])->∀h:MH,Z0 [.frz (ns.map .int),.int k] h=some (.ref h.length,h++[Qv ⟨a,b,g⟩]):=by
  intro a b g e h;unfold Z0 box;have hr:Kn 0 [.frz (ns.map .int),.int k]=some ([.frz (ns.map .int),.int k],[]):=by simp[Kn]
  rw[hr,Ni];unfold Qdb;rw[if_pos Ea];simp only[Zl,Ni,e];rw[if_pos ⟨by simp[frR],by simp[frR]⟩];simp[frR,th,res,Xn,Zl,thO,ths,Qu,Qv]
 obtain⟨c,d⟩:∃c:Int,(if(k:Int)<(ns.length:Nat)then@om _ _ (fun p=>MF.nx [some (.frz (ns.map .int)),some (.int k),some p.fst,none] p.snd) (@om _ _ (fun w=>(w,([]:MH))) (atI (ns.map W.int) (k:Int)))else some (MF.nx [some (.frz (ns.map .int)),some (.int k),some (.int 0),none] []))=some (MF.nx [some (.frz (ns.map .int)),some (.int k),some (.int c),none] []):=by
  by_cases i:k<ns.length
  ·refine⟨ns[k],?_⟩;rw[if_pos (by omega),QO,Np,Nl i];simp
  ·exact⟨0,by rw[if_neg (by omega)]⟩
 have b1:0<=c%2147483647*48271%2147483647:=EM _ (by decide);have l:c%2147483647*48271%2147483647<2147483647:=ER _ (by decide)
 by_cases hd:(1000000000000000000:Int)<=c
 ·refine⟨⟨c-1000000000000000000,c%2147483647*48271%2147483647+k,by omega⟩,fin _ _ _ ?_⟩;simp at d;simp[Ji,Qz,d,hd]
 ·refine⟨⟨0,c%2147483647*48271%2147483647+k,by omega⟩,fin _ _ _ ?_⟩;simp at d;simp[Ji,Qz,d,hd]
noncomputable def rW:Option Nat->W
 |some t=>.ref (t+2)
 |none=>.non
noncomputable def tO(x:Nat×Nat×Nat):MO:=.lst [.int x.1,.int x.2.1,.int x.2.2]
def hB(b:Bk)(n:Nat):MH:=.lst (b.rws.map rW++List.replicate n .non)::.lst (b.st.reverse.map fun(t:Nat)=>W.ref (t+2))::b.trs.map tO
theorem QdP(h:pil ls (k+1)=some p):∃q c,pil ls k=some q/\ls[k]?=some c/\stp k c q=some p:=by
 obtain⟨q,d,a⟩:=Nc.mp h;cases b:ls[k]? with
 |none=>rw[b]at a;cases a
 |some c=>rw[b]at a;exact⟨q,c,d,rfl,a⟩
theorem QdK:∀{n:Nat} {p:List En},pil ls n=some p->∀k,k<=n->∃q,pil ls k=some q
 |0,p,h,k,a=>⟨p,by rw[Nat.le_zero.mp a];exact h⟩
 |n+1,p,h,k,a=>by
  by_cases z:k=n+1
  ·rw[z];exact⟨p,h⟩
  ·obtain⟨q,c,b,_⟩:=QdP h;exact QdK b k (by lia)
theorem QhU(ls:List Cd):∀k,(∀t∈(bks ls k).st,t<(bks ls k).trs.length)/\∀t,some t∈(bks ls k).rws->t<(bks ls k).trs.length
 |0=>⟨by simp[bks],by simp[bks]⟩
 | k+1=>by
  obtain⟨e,h2⟩:=QhU ls k;simp only[bks];split
  ·rename_i c j;generalize bks ls k=b at e h2;obtain⟨g,st,h⟩:=b
   have hd:∀t,st.head?=some t->t<g.length:=by
    intro t d;cases st with
    |nil=>simp at d
    |cons a r=>
     simp at d;subst d;exact e _ NA
   have i:∀f,(My4.top ⟨g,st,h⟩ f).length=g.length:=fun f=>by unfold My4.top;cases st<;>simp
   cases c<;>simp only[bst]
   ·refine⟨fun t d=>?_,fun t d=>?_⟩
    ·simp at d ⊢;rcases d with rfl|d
     ·exact N1 _
     ·have:=e t d;simp at this;exact Nk this (Nv _ _)
    ·simp at d ⊢;rcases d with d|rfl
     ·have:=h2 t d;simp at this;exact Nk this (Nv _ _)
     ·exact N1 _
   ·refine⟨fun t d=>?_,fun t d=>?_⟩
    ·simp at d ⊢;rcases d with rfl|d
     ·exact N1 _
     ·have:=e t d;simp at this;exact Nk this (Nv _ _)
    ·simp at d ⊢;rcases d with d|rfl
     ·have:=h2 t d;simp at this;exact Nk this (Nv _ _)
     ·exact N1 _
   ·rw[i];refine⟨e,fun t d=>?_⟩;simp at d
    rcases d with d|d
    ·exact h2 t d
    ·exact hd t d.symm
   ·rw[i];refine⟨fun t d=>e t (List.mem_of_mem_tail d),fun t d=>?_⟩;simp at d
    rcases d with d|d
    ·exact h2 t d
    ·exact hd t d.symm
   ·refine⟨e,fun t d=>?_⟩;simp at d
    rcases d with d|d
    ·exact h2 t d
    ·exact hd t d.symm
  ·exact⟨e,h2⟩
theorem QjU(h:a.length=k):(a++x::b).set k y=a++y::b:=by subst h;simp
theorem Qek{l:List (Nat×Nat×Nat)}(h:l[t]?=some x):(l.map tO).set t (tO (f x))=(l.modify t f).map tO:=by
 apply Dh;intro i;rw[FW,Np,Np,II];have a:=(Nf.mp h).1
 by_cases z:t=i
 ·subst z;rw[h];simp[a]
 ·simp[z]
abbrev bS(ls:List Ln)(k:Option W):MSt:=[some (.tup (ls.map QH)),some (.ref 0),some (.ref 1),k]
theorem Jw{x:Str}:(x="either"/\cd x=.ei)\/(x="again"/\cd x=.ag)\/(x="or"/\cd x=.oo)\/(x="end"/\cd x=.en)\/((x≠"either"/\x≠"again"/\x≠"or"/\x≠"end")/\cd x=.ot):=by
 unfold cd
 by_cases d:x="either"
 ·exact .inl ⟨d,if_pos d⟩
 rw[if_neg d]
 by_cases c:x="again"
 ·exact .inr (.inl ⟨c,if_pos c⟩)
 rw[if_neg c]
 by_cases b:x="or"
 ·exact .inr (.inr (.inl ⟨b,if_pos b⟩))
 rw[if_neg b]
 by_cases a:x="end"
 ·exact .inr (.inr (.inr (.inl ⟨a,if_pos a⟩)))
 rw[if_neg a];exact .inr (.inr (.inr (.inr ⟨⟨d,c,b,a⟩,rfl⟩)))
theorem QaH{b:Bk}{p N:List En}(R:ls[k]?=some l)(Q:l=x::r)(T:k<=5000)(A:b.st.length<=5000)(B:BI (ls.map cdL) k b p)(w:stp k (cdL l) p=some N) :
  JQ (bS ls (some (.int k))) (hB b (n+1))=some (.nx (bS ls (some (.int k))) (hB (bst k (cdL l) b) n)):=by
 subst Q;have L:atI (ls.map QH) (k:Int)=some (QH (x::r)):=by rw[QO,Np,R];rfl
 have S:QH (x::r)=.tup (.str x::r.map .str):=rfl;rw[S]at L;have c:∀h,Qe wIx (Qe wIx (Qb 0) (Qb 3)) (mC (.int 0)) (bS ls (some (.int k))) h=some (.str x,h):=fun h=>by simp[L]
 obtain⟨j,st,d⟩:=b;have o:(d.map rW).length=k:=by simp;exact B.len
 have C:d.length=k:=B.len;have e:ixN (d.length+(n+1)) (k:Int)=some k:=Qjd (by lia);have u:∀v,(d.map rW++List.replicate (n+1) W.non).set k v=d.map rW++v::List.replicate n W.non:=fun v=>by rw[OI,QjU o]
 have F:st.length<sizeLine:=QcF (Nn (show st.length<=5000 from A) (by decide));have D:cdL (x::r)=cd x:=rfl;rw[D]at w ⊢
 rcases Jw (x:=x)with⟨rfl,s⟩|⟨rfl,s⟩|⟨rfl,s⟩|⟨rfl,s⟩|⟨⟨J,I,H,G⟩,s⟩
 all_goals rw[s]at w ⊢
 ·simp[hB,bst,c,F,e,u,Fh,rW,tO]
 ·simp[hB,bst,c,F,e,u,Fh,rW,tO]
 ·cases p with
  |nil=>cases w
  | cons a M=>
   have i:=B.op;cases i with
   |@cons t _ m _ y P O q=>
    obtain⟨z,en,g,_⟩:=y;simp only at g;have E:(j.map tO)[t]?=some (tO (a.fs,z,en)):=by rw[Np,g];rfl
    simp[hB,bst,c,e,u,Fh,rW,tO,My4.top,E];exact Qek (f:=fun x=>(x.1,k,x.2.2)) g
 ·cases p with
  |nil=>cases w
  | cons a M=>
   have i:=B.op;cases i with
   |@cons t _ m _ y P O q=>
    obtain⟨z,en,g,_⟩:=y;simp only at g;have E:(j.map tO)[t]?=some (tO (a.fs,z,en)):=by rw[Np,g];rfl
    simp[hB,bst,c,e,u,Fh,rW,tO,My4.top,E];exact Qek (f:=fun x=>(x.1,x.2.1,k)) g
 ·cases st with
  |nil=>
   simp[hB,bst,c,J,I,H,G,rW];rw[OI]
  |cons t m=>simp[hB,bst,c,J,I,H,G,e,u,rW]
noncomputable def rv(b:Bk):Option Nat->W
 |some t=>match b.trs[t]? with
  |some x=>.lst [.int x.1,.int x.2.1,.int x.2.2]
  |none=>.non
 |none=>.non
def Qdc(b:Bk):W:=.lst (b.rws.map (rv b))
theorem Qll:pln (rv b o)=true:=by
 cases o with
 |none=>rfl
 |some t=>
  simp only[rv];split<;>rfl
@[simp]theorem Qnz:pln (Qdc b)=true:=by unfold Qdc pln;exact JE fun _=>Qll
theorem QbO(f:g=A::B::b.trs.map tO)(a:∀j,kp j=none):∀(os:List (Option Nat)),(∀t,some t∈os->t<b.trs.length)->ths (res kp g 2) (os.map rW)=some (os.map (rv b))
 |[],_=>rfl
 | o::os,h=>by
  rw[Nw,ths,QbO f a os fun t i=>h t (Ny _ i)];cases o with
  |none=>rfl
  | some t=>
   have c:=h t NA;have e:b.trs[t]?=some b.trs[t]:=Nl c
   have d:g[t+2]?=some (.lst [.int b.trs[t].1,.int b.trs[t].2.1,.int b.trs[t].2.2]):=by
    rw[f];simp only[FR,Np,e];rfl
   have:th (res kp g 2) (rW (some t))=some (rv b (some t)):=by
    simp only[rW,th,res,a,d,rv,e];rfl
   rw[this];rfl
theorem QkO(ls:List Cd):∀k,(bks ls k).st.length<=k
 |0=>Nz _
 |k+1=>by
  have a:=QkO ls k;simp only[bks];split
  ·rename_i c b;cases c<;>simp[bst]<;>omega
  ·exact Nn a (Nv _ _)
theorem Qfg(ls:List Ln)(R:Bal (ls.map cdL))(z:∀l∈ls,∃x r,l=x::r)(o:ls.length<=5000)(h:MH):QZ [.tup (ls.map QH)] h=some (Qdc (bks (ls.map cdL) ls.length),h):=by
 have C:pil (ls.map cdL) ls.length=some []:=by have:=R;unfold Bal at this;rwa[Nu]at this
 have f:=Q3 (items:=Qt 0 ls.length) (b:=Q2 3) (body:=JQ) (fun n s h=>∃u,s=bS ls u/\h=hB (bks (ls.map cdL) n) (ls.length-n)/\n<=ls.length) (Qt 0 ls.length) 0 (bS ls none) (hB ⟨[],[],[]⟩ ls.length) ⟨none,rfl,by simp[bks],NV _⟩ (by
  rintro j w Q s h ⟨u,rfl,rfl,E⟩
  obtain⟨d,rfl⟩:=K8 Q;rw[NI]at *;obtain⟨l,a⟩:∃l,ls[j]?=some l:=⟨ls[j],Nl d⟩
  obtain⟨x,r,N⟩:=z l (NC.mpr ⟨j,a⟩);obtain⟨U,y⟩:=QdK C (j+1) d;obtain⟨p,c,P,G,O⟩:=QdP y;have i:(ls.map cdL)[j]?=some (cdL l):=by rw[Np,a];rfl
  rw[i]at G;cases G;obtain⟨_,B⟩:=Gb P;have v:(bks (ls.map cdL) j).st.length<=5000:=Nn (QkO _ j) (Nn E o);refine⟨bS ls (some (.int ((0:Int)+j))),rfl,bS ls (some (.int j)),hB (bks (ls.map cdL) (j+1)) (ls.length-(j+1)),.inl ?_,_,rfl,rfl,by exact d⟩;have e:=QaH (n:=ls.length-(j+1)) a N (Nn E o) v B O;rw[show ls.length-(j+1)+1=ls.length-j by lia]at e;rw[OU];simp only[bks,i]
  exact e)
 obtain⟨L,h',q,u,rfl,rfl,_⟩:=f;rw[JL,NI,Nat.sub_self]at q;generalize D:bks (ls.map cdL) ls.length=b at q ⊢;have I:=Yc (fin:=QmK) (mi:=Qo (Qb 0)) (cp:=[none]) (me:=mC .non) (σ:=[some (.tup (ls.map QH)),none,none,none]) (caps:=[]) (h:=[]) (items:=ls.map QH) (fun _=>W.non) rfl ⟨_,rfl⟩ (fun w hw=>rfl) (by simp;exact Xi (Nr (Nh o (by decide))));rw[Yat,Nu]at I;have H:Wi (Qa (mFn JB (Qa (Qb 0) Qc)) Qc) (bS ls none) (hB ⟨[],[],[]⟩ ls.length)=some (Qt 0 ls.length,none,hB ⟨[],[],[]⟩ ls.length):=VP (by simp) (Nh o (by decide))
 have:=Yw (m:=Zr) (args:=[.tup (ls.map QH)]) (as:=[.tup (ls.map QH)]) (ns:=[]) (os:=[]) (os':=[]) (g:=hB b 0) (h:=h) (w:=.ref 0) (w':=Qdc b) (by simp[Kn]) (by simp) rfl (by
  simp[hB]at H q;simp[Zr,Qz,Zm,I,QmK,H,q,hB]) rfl (by simp) (by
  have F:∀j,Xn [] [] h.length j=none:=fun j=>by simp[Xn]
  have hr:=QbO (b:=b) (kp:=Xn [] [] h.length) (g:=hB b 0) (A:=.lst (b.rws.map rW++List.replicate 0 .non)) (B:=.lst (b.st.reverse.map fun(t:Nat)=>W.ref (t+2))) rfl F b.rws (by rw[<-D];exact(QhU _ _).2);show th (res (Xn [] [] h.length) (hB b 0) 3) (.ref 0)=_;have S:(hB b 0)[0]?=some (.lst (b.rws.map rW)):=by simp[hB]
  unfold th res;simp only[F 0,S,hr]
  rfl)
 show box frN Zr _ _=_;simpa using this
theorem GJ(P:Nat->MSt->MH->Prop)(v:W)(d:MH):∀(r:List W) (n m:Nat) (σ:MSt) (h:MH),P n σ h->m<r.length ->
  (∀(j:Nat) (w:W),j<m->r[j]?=some w->∀σ h,P (n+j) σ h->∃σ1,b w σ h=some σ1/\∃σ2 h2,body σ1 h=some (.nx σ2 h2)/\P (n+j+1) σ2 h2) ->
  (∀w,r[m]?=some w->∀σ h,P (n+m) σ h->∃σ1,b w σ h=some σ1/\body σ1 h=some (.rt v d))->JK items none b body r σ h=some (.rt v d)
 |[],n,m,σ,h,_,e,_,_=>by simp at e
 |w::r,n,0,σ,h,a,_,_,f=>by
  obtain⟨σ1,i,g⟩:=f w rfl σ h a;rw[JK,if_pos (QA _ _),i,Ni,g];rfl
 | w::r,n,m+1,σ,h,a,e,l,f=>by
  obtain⟨σ1,i,σ2,h2,g,o⟩:=l 0 w (IF _) rfl σ h a;rw[JK,if_pos (QA _ _),i,Ni,g]
  exact GJ (items:=items) (b:=b) (body:=body) P v d r (n+1) m σ2 h2 o (by simpa using e) (fun j x p c σ h a=>by
   have:=l (j+1) x (IJ p _) (by simpa using c) σ h (by rw[show n+(j+1)=n+1+j by lia];exact a);rw[show n+(j+1)+1=n+1+j+1 by exact E9 _ _ _]at this
   exact this) (fun x c σ h a=>f x (by simpa using c) σ h (by rw[show n+(m+1)=n+1+m by lia];exact a))
@[simp]theorem Qm0:Zp [QH (x::r)] h=some (.int (ch (cd x)),h):=by
 refine Qr (g:=[]) (by simp) ?_ rfl;have b:QH (x::r)=.tup (.str x::r.map .str):=rfl
 rcases Jw (x:=x)with⟨rfl,a⟩|⟨rfl,a⟩|⟨rfl,a⟩|⟨rfl,a⟩|⟨⟨e,d,f,c⟩,a⟩
 ·simp[QL,Qz,b,a,ch]
 ·simp[QL,Qz,b,a,ch]
 ·simp[QL,Qz,b,a,ch]
 ·simp[QL,Qz,b,a,ch]
 ·simp[QL,Qz,b,e,d,c,a,ch]
@[simp]theorem Qpd:wIx (QH (x::r)) (.int 0) h=some (.str x,h):=by unfold QH;simp
@[simp]theorem Qpt:wIx (QH (x::y::r)) (.int 1) h=some (.str y,h):=by unfold QH;simp
theorem Qee(e:ms σ h=some ([.int i,.int j],h'))(b:-1000000<=i/\i<=1000000)(a:-1000000<=j/\j<=1000000):QgA ms σ h=some (Qt i (j-i).toNat,none,h'):=by
 unfold QgA;rw[e,Ni];exact if_pos ⟨by lia,by omega,by lia,by omega⟩
abbrev fS(ls:List Ln)(k:Nat)(y:Str)(a j:Option W):MSt:=[some (.tup (ls.map QH)),some (.int k),some (.str y),a,j]
theorem Qaw{ls:List Ln}{j:Nat}(h:ls[j]?=some l):atI (ls.map QH) (j:Int)=some (QH l):=by rw[QO,Np,h];rfl
theorem Qad{ls:List Ln}{k j:Nat}(v:∀l∈ls,∃x r,l=x::r)(O:ls.length<=5000)(I:∀x:Str,cd x=cd y↔x=y)(B:Beh (ls.map cdL) k (cd y) j):QS [.tup (ls.map QH),.int k,.str y] h=some (.int j,h):=by
 refine Qr (g:=[]) (by simp) ?_ rfl;have D:j<ls.length:=by have:=(Nf.mp B.at_).1;simpa using this
 have C:=B.lt
 have M:∀d,QgA (Qa (Qe Zj (Qb 1) (mC (.int 1))) (Qa (mFn JB (Qa (Qb 0) Qc)) Qc)) (fS ls k y (some (.int 0)) d) []=some (Qt ((k:Int)+1) (ls.length-(k+1)),none,[]):=by
  intro d;rw[Qee (h':=[]) (i:=(k:Int)+1) (j:=ls.length) (by simp) (by lia) (by lia),show((ls.length:Int)-((k:Int)+1)).toNat=ls.length-(k+1) by lia]
 have lines:∀i,k<i->i<=j->∃x r,ls[i]?=some (x::r)/\(ls.map cdL)[i]?=some (cd x):=fun i _ G=>by
  have m:i<ls.length:=by exact Nh G D
  obtain⟨x,r,e⟩:=v ls[i] (Dp m);have H:ls[i]?=some (x::r):=by rw[Nl m,e]
  exact⟨x,r,H,by rw[Np,H];rfl⟩
 have f:=GJ (items:=Qt ((k:Int)+1) (ls.length-(k+1))) (b:=Q2 4) (body:=V3) (fun n s h=>∃d,s=fS ls k y (some (.int (lev (ls.map cdL) (k+1+n)-lev (ls.map cdL) (k+1)))) d/\h=[]) (.int j) [] (Qt ((k:Int)+1) (ls.length-(k+1))) 0 (j-(k+1)) (fS ls k y (some (.int 0)) none) [] ⟨none,by simp,rfl⟩ (by rw[JL];omega) (by
  rintro i w G hw s h ⟨d,rfl,rfl⟩
  obtain⟨_,rfl⟩:=K8 hw;obtain⟨x,r,t,q⟩:=lines (k+1+i) (Nk (N1 _) (Nv _ _)) (by omega);have E:=Qaw t;have J:=J5 q;rw[NI];have p:atI (ls.map QH) ((k:Int)+1+(i:Int))=some (QH (x::r)):=by rw[show((k:Int)+1+(i:Int))=((k+1+i:Nat):Int) by exact rfl];exact E
  refine⟨fS ls k y (some (.int (lev (ls.map cdL) (k+1+i)-lev (ls.map cdL) (k+1)))) (some (.int ((k:Int)+1+i))),rfl,fS ls k y (some (.int (lev (ls.map cdL) (k+1+(i+1))-lev (ls.map cdL) (k+1)))) (some (.int ((k:Int)+1+i))),[],?_,_,rfl,rfl⟩
  have c:lev (ls.map cdL) (k+1+(i+1))-lev (ls.map cdL) (k+1)=lev (ls.map cdL) (k+1+i)-lev (ls.map cdL) (k+1)+ch (cd x):=by
   rw[show k+1+(i+1)=k+1+i+1 by exact rfl,J];lia
  rw[c];generalize P:lev (ls.map cdL) (k+1+i)-lev (ls.map cdL) (k+1)=L
  by_cases F:L=0
  ·have u:=B.no (k+1+i) (Nk (N1 _) (Nv _ _)) (by omega) (by lia);have a:x≠y:=fun z=>u (by rw[q,z]);subst F;simp[a,p]
  ·simp[F,p]) (by
  rintro w hw s h ⟨d,rfl,rfl⟩
  obtain⟨_,rfl⟩:=K8 hw;obtain⟨x,r,t,q⟩:=lines j C (Nz _);have o:=B.at_;rw[q]at o;have a:x=y:=(I x).mp (by simpa using o);subst a;have N:(k:Int)+1+((j-(k+1):Nat):Int)=(j:Int):=by omega
  have E:=Qaw t;rw[N]
  have A:lev (ls.map cdL) (k+1+(0+(j-(k+1))))-lev (ls.map cdL) (k+1)=0:=by
   rw[show k+1+(0+(j-(k+1)))=j by lia,B.lv];lia
  rw[A]
  exact⟨_,rfl,by simp[E]⟩)
 simp[JR,Qz,Zm,M,f]
theorem YA{lo c:Int}(h:(JI lo c n)[j]?=some w):j<n/\w=.int (lo+(j:Int)*c):=by
 have a:=(Nf.mp h).1;simp[JI]at a;refine⟨a,?_⟩;unfold JI at h;rw[Np,Em a]at h;cases h;rfl
abbrev hS(ls:List Ln)(k:Nat)(a j:Option W):MSt:=[some (.tup (ls.map QH)),some (.int k),a,j]
theorem Qjf{ls:List Ln}{k j:Nat}(s:∀l∈ls,∃x r,l=x::r)(G:ls.length<=900)(A:k<=ls.length)(B:Ahd (ls.map cdL) k j):VW [.tup (ls.map QH),.int k] h=some (.int j,h):=by
 refine Qr (g:=[]) (by simp) ?_ rfl;have v:=B.lt;have H:∀c,QhS (Qa (Qe QbS (Qb 1) (mC (.int 1))) (Qa (mUn KN (mC (.int 1))) (Qa (mUn KN (mC (.int 1))) Qc))) (hS ls k (some (.int 0)) c) []=some (JI ((k:Int)-1) (-1) k,none,[]):=fun c=>Qos rfl rfl rfl (Nh (Nn A G) (by decide))
 have lines:∀i,i<k->∃x r,ls[i]?=some (x::r)/\(ls.map cdL)[i]?=some (cd x):=fun i C=>by
  have f:i<ls.length:=by exact Nk C A
  obtain⟨x,r,e⟩:=s ls[i] (Dp f);have D:ls[i]?=some (x::r):=by rw[Nl f,e]
  exact⟨x,r,D,by rw[Np,D];rfl⟩
 have E:(JI ((k:Int)-1) (-1) k).length=k:=by simp[JI]
 have d:=GJ (items:=JI ((k:Int)-1) (-1) k) (b:=Q2 3) (body:=YX) (fun n o h=>∃c,o=hS ls k (some (.int (lev (ls.map cdL) k-lev (ls.map cdL) (k-n)))) c/\h=[]) (.int j) [] (JI ((k:Int)-1) (-1) k) 0 (k-1-j) (hS ls k (some (.int 0)) none) [] ⟨none,by simp,rfl⟩ (by rw[E];omega) (by
  rintro i w C hw o h ⟨c,rfl,rfl⟩
  obtain⟨_,rfl⟩:=YA hw;obtain⟨x,r,p,y⟩:=lines (k-1-i) (by omega);have z:(k:Int)-1+(i:Int)*-1=((k-1-i:Nat):Int):=by lia
  have m:=Qaw p;have q:=J5 y;rw[NI,z];generalize I:((k-1-i:Nat):Int)=t at m;refine⟨hS ls k (some (.int (lev (ls.map cdL) k-lev (ls.map cdL) (k-i)))) (some (.int t)),rfl,hS ls k (some (.int (lev (ls.map cdL) k-lev (ls.map cdL) (k-(i+1))))) (some (.int t)),[],?_,_,rfl,rfl⟩
  have a:lev (ls.map cdL) k-lev (ls.map cdL) (k-(i+1))=lev (ls.map cdL) k-lev (ls.map cdL) (k-i)+ch (cd x):=by
   rw[show k-i=k-1-i+1 by lia,q,show k-(i+1)=k-1-i by lia];lia
  have F:=B.no (k-1-i) (by lia) (by lia);have u:lev (ls.map cdL) k-lev (ls.map cdL) (k-i)+ch (cd x)≠1:=by rw[<-a,show k-(i+1)=k-1-i by omega];lia
  rw[a];simp[m,u]) (by
  rintro w hw o h ⟨c,rfl,rfl⟩
  obtain⟨_,rfl⟩:=YA hw;obtain⟨x,r,p,y⟩:=lines j v;have z:(k:Int)-1+((k-1-j:Nat):Int)*-1=(j:Int):=by omega
  have m:=Qaw p;have q:=J5 y;rw[z]
  have a:lev (ls.map cdL) k-lev (ls.map cdL) (k-(0+(k-1-j)))+ch (cd x)=1:=by
   rw[show k-(0+(k-1-j))=j+1 by lia,q];have:=B.lv;lia
  rw[NI]at a ⊢
  exact⟨_,rfl,by simp[m,a]⟩)
 simp[KA,Qz,Zm,H,d]
theorem Qct(x:Str):cd x=cd "end"↔x="end":=by
 rcases Jw (x:=x)with⟨rfl,a⟩|⟨rfl,a⟩|⟨rfl,a⟩|⟨rfl,a⟩|⟨⟨e,d,c,b⟩,a⟩<;>simp[a,QbF, *]
theorem Qe7(x:Str):cd x=cd "or"↔x="or":=by
 rcases Jw (x:=x)with⟨rfl,a⟩|⟨rfl,a⟩|⟨rfl,a⟩|⟨rfl,a⟩|⟨⟨e,d,c,b⟩,a⟩<;>simp[a,QlE, *]
theorem QhL{ls:List Ln}(a:∀l∈ls,∃x r,l=x::r)(b:ls.length<=900)(B:Beh (ls.map cdL) k .en j):Va [.tup (ls.map QH),.int k] h=some (.int j,h):=by
 refine Qr (g:=[]) (by simp) ?_ rfl;have e:∀h,QS [.tup (ls.map QH),.int k,.str "end"] h=some (.int j,h):=fun h=>Qad a (Nr (Nh b (by decide))) Qct (by rw[QbF];exact B);simp[Yr,Qz,e]
theorem Qnq{ls:List Ln}(a:∀l∈ls,∃x r,l=x::r)(b:ls.length<=900)(B:Beh (ls.map cdL) k .oo j):Wf [.tup (ls.map QH),.int k] h=some (.int j,h):=by
 refine Qr (g:=[]) (by simp) ?_ rfl;have e:∀h,QS [.tup (ls.map QH),.int k,.str "or"] h=some (.int j,h):=fun h=>Qad a (Nr (Nh b (by decide))) Qe7 (by rw[QlE];exact B);simp[Ws,Qz,e]
@[simp]theorem QoZ(hw:pur w=true)(c:pur p=true)(a:pur e=true)(f:pur b=true)(d:pur k=true):Jc [.tup [w,p,e,b],k] h=some (.tup [w,p,k,.bl false],h):=by
 refine Qr (g:=[]) (by simp[hw,c,a,f,d]) ?_ (by simp[hw,c,d]);simp[YD,Qz]
@[simp]theorem QqB(hw:pur w=true)(c:pur p=true)(a:pur e=true)(f:pur b=true)(d:pur k=true):X9 [.tup [w,p,e,b],k] h=some (.tup [w,p,k,.bl true],h):=by
 refine Qr (g:=[]) (by simp[hw,c,a,f,d]) ?_ (by simp[hw,c,d]);simp[KJ,Qz]
@[simp]theorem Qrj:wIx (Q6 p) (.int i) h=@om _ _ (fun w=>(w,h)) (atI (p.map Vf) i):=by unfold Q6;simp
@[simp]theorem Qpi:wIx (Vf x) (.int 1) h=some (.tup (x.2.map QH),h):=by unfold Vf;simp
@[simp]theorem QpC:wIx (Qdc b) (.int i) h=@om _ _ (fun w=>(w,h)) (atI (b.rws.map (rv b)) i):=by unfold Qdc;simp
@[simp]theorem Qpf:wIx (Wu q) (.int 0) h=some (.int q.1,h):=by unfold Wu;simp
@[simp]theorem QpE:wIx (Wu q) (.int 1) h=some (.int q.2,h):=by unfold Wu;simp
def bk(x:Pt):Bk:=bks (x.2.map cdL) x.2.length
def ZH(p:List Pt):W:=.lst (p.map fun x=>Qdc (bk x))
@[simp]theorem QmO:pur (ZH p)=true:=by
 unfold ZH;rw[Qne];exact ZJ _ (JE fun _=>Qnz)
@[simp]theorem QmX:wIx (ZH p) (.int i) h=@om _ _ (fun w=>(w,h)) (atI (p.map fun x=>Qdc (bk x)) i):=by unfold ZH;simp
structure SV(p:List Pt)(s:Spt):Prop where
 ex:∃x,p[s.part]?=some x/\s.k<=x.2.length/\(s.head=true->∃r,x.2[s.k]?=some (("again":Str)::r))
 way:∀q∈s.way,∃x,p[q.1]?=some x/\q.2<x.2.length
theorem Ys{p:List Pt}{i:Nat}(h:p[i]?=some x):atI (p.map Vf) (i:Int)=some (Vf x):=by rw[QO,Np,h];rfl
theorem Qfm{p:List Pt}{i:Nat}(h:p[i]?=some x):atI (p.map fun x=>Qdc (bk x)) (i:Int)=some (Qdc (bk x)):=by rw[QO,Np,h];rfl
theorem Qcl{b:Bk}{k t:Nat}(h:b.rws[k]?=some (some t))(a:b.trs[t]?=some x):atI (b.rws.map (rv b)) (k:Int)=some (.lst [.int x.1,.int x.2.1,.int x.2.2]):=by
 rw[QO,Np,h];simp[rv,a]
theorem W3{p:List Pt}{s:Spt}(c:p[s.part]?=some x)(d:s.head=true\/s.k=x.2.length):Zf [Q6 p,Ql s] h=some (.non,h):=by
 refine Qr (g:=[]) (by simp) ?_ rfl;obtain⟨e,part,k,head⟩:=s;have b:=Ys c;simp only at b d c
 by_cases a:head=true
 ·simp[Vg,Qz,Ql,b,a]
 ·have f:k=x.2.length:=by rcases d with z|z;exact absurd z a;exact z
  simp[Vg,Qz,Ql,b,a,f]
theorem Qaz{p:List Pt}{s:Spt}(c:p[s.part]?=some x)(f:s.head=false)(d:x.2[s.k]?=some l):Zf [Q6 p,Ql s] h=some (QH l,h):=by
 refine Qr (g:=[]) (by simp) ?_ (by simp);obtain⟨m,part,k,head⟩:=s;have i:=Ys c;have j:=Qaw d;have e:=(Nf.mp d).1;simp only at i f c j e;have b:¬(k:Int)=x.2.length:=by lia
 have a:¬k=x.2.length:=by exact NG e
 simp[Vg,Qz,Ql,i,f,j,b,a]
@[simp]theorem QmG:Xc [] h=some (Ql ⟨[],0,0,false⟩,h):=by
 refine Qr (g:=[]) (by simp) ?_ (by simp);simp[VM,Qz,Ql]
theorem Qe3{ns:List Str}:∀{j:Nat},ns.findIdx? (·==x)=some j->(ns.map W.str).findIdx? (fun y=>eqW y (.str x))=some j:=by
 intro j h;rw[List.findIdx?_map];rw[<-h];congr 1
theorem QdI{j:Nat}(f:(p.map (·.1)).findIdx? (·==nm)=some j)(e:p.length<=100):JC [Q6 p,.str nm] h=some (.int j,h):=by
 refine Qr (g:=[]) (by simp) ?_ rfl
 have b:=Yc (fin:=Jn) (mi:=Qo (Qb 0)) (cp:=[none]) (me:=Qe wIx (Qb 0) (mC (.int 0))) (σ:=[some (Q6 p),some (.str nm)]) (caps:=[]) (h:=[]) (items:=p.map Vf) (fun w=>match w with|.tup (a::_)=>a|w=>w) rfl ⟨_,rfl⟩ (fun w hw=>by
  obtain⟨x,_,rfl⟩:=NL.mp hw
  simp[Vf]) (by simp;exact Xi (Nr (Nh e (by decide))))
 have d:(p.map Vf).map (fun w=>match w with|.tup (a::_)=>a|w=>w)=(p.map (·.1)).map W.str:=by simp[Vf,EZ]
 rw[d]at b;simp only[Jn]at b
 have ei:XC (.lst ((p.map (·.1)).map W.str)) [.str nm] []=some (.int j,[]):=by
  unfold XC;simp only[lsW,Ni];rw[Xj [] (.str nm) 40 rfl (by simp[dep]),JW [] _ 40 Ja (Nn Kh (by decide)),Ni,Ni,Qe3 f];rfl
 rw[ES]at b ei;simp[Vi,Qz,b,ei]
noncomputable def Wt:Nat->Nat
 |0=>65330
 |i+1=>(4-i)*702
theorem UW(h:i+1<=q):Wt q<=Wt (i+1):=by
 obtain⟨r,rfl⟩:∃r,q=r+1:=⟨q-1,by lia⟩
 show(4-r)*702<=(4-i)*702;exact Ou _ (by omega)
theorem QmD(h:i<=4):700+QiO i*(Wt (i+1)+2)<=Wt i:=by
 match i,h with
 |0,_=>decide
 |1,_=>decide
 |2,_=>decide
 |3,_=>decide
 |4,_=>decide
theorem QhJ:Wt i<=65330:=by
 match i with
 |0=>exact Nz _
 |i+1=>
  show(4-i)*702<=_;have:(4-i)*702<=4*702:=Ou _ (Iv _ _);lia
def cst(i:Nat)(l:Ln):Nat:=if QaY l=true then Wt (i+1)+2 else 1
def rem(x:Pt)(i k:Nat):Nat:=((x.2.drop k).map (cst i)).sum
theorem K3(h:x.2[k]?=some l):rem x i k=cst i l+rem x i (k+1):=by
 obtain⟨a,rfl⟩:=Nf.mp h;unfold rem;rw[EK a,Nw,OA]
theorem UA:∀{j k:Nat},k<j->k<x.2.length->rem x i j<rem x i k
 |0,_,h,_=>by lia
 | j+1,k,h,a=>by
  have f:=K3 (i:=i) (Nl a);have g:1<=cst i x.2[k]:=by unfold cst;split<;>lia
  by_cases e:j=k
  ·subst e;lia
  ·by_cases b:j<x.2.length
   ·have d:=UA (x:=x) (i:=i) (j:=j) (k:=k) (by lia) a;have c:=K3 (i:=i) (Nl b);exact Nh (Nn (Fz _ _) (Nt c.symm)) d
   ·have:rem x i (j+1)=0:=by unfold rem;rw[E5 (Nn (NU.mp b) (Nv _ _))];rfl
    lia
theorem QfG:∀(ls:List Ln),(ls.map (cst i)).sum=ls.length+dcn ls*(Wt (i+1)+1)
 |[]=>by simp[dcn]
 |l::ls=>by
  have a:=QfG (i:=i) ls;unfold dcn at a ⊢;rw[Nw,OA,a,Yan,NM,cst]
  by_cases h:QaY l=true
  ·rw[if_pos h,if_pos h,Nat.add_mul,Nat.one_mul];lia
  ·rw[if_neg h,if_neg h,show List.countP QaY ls+0=List.countP QaY ls from rfl];lia
theorem Qls(e:x.2.length<=700)(hd:dcn x.2<=QiO i)(d:i<=4):rem x i k<=Wt i:=by
 have c:rem x i 0<=Wt i:=by
  unfold rem;rw[List.drop_zero,QfG];have:=QmD d;have:dcn x.2*(Wt (i+1)+1)<=QiO i*(Wt (i+1)+2):=IU hd (Nr (EC (by decide) _));lia
 by_cases a:0<k
 ·by_cases b:0<x.2.length
  ·have:=UA (x:=x) (i:=i) a b;exact Nr (Nk this c)
  ·unfold rem;rw[E5 (Nr (Nh (NU.mp b) a))];simp
 ·rw[show k=0 by exact Dw (NU.mp a) (NV _)];exact c
def Qfa(p:List Pt)(i k:Nat):Nat:=match p[i]? with
 |some x=>rem x i k
 |none=>0
theorem Xp(h:p[i]?=some x):Qfa p i k=rem x i k:=by unfold Qfa;rw[h]
def RL(p:List Pt):Prop:=∀i k,Qfa p i k<=Wt i
theorem Qff(b:GoodP 700 bs ws p):RL p:=by
 intro i k;unfold Qfa;split
 ·rename_i x a;have d:=(Nf.mp a).1;have c:=b.len;exact Qls (b.sz x (NC.mpr ⟨i,a⟩)) (b.dos i x a) (by lia)
 ·exact NV _
def QcI(p:List Pt)(w:List (Nat×Nat)):Nat:=(w.map fun q=>1+Qfa p q.1 (q.2+1)).sum
theorem WF:QcI p (w++[q])=QcI p w+(1+Qfa p q.1 (q.2+1)):=by simp[QcI]
def rk(p:List Pt)(s:Spt):Nat:=if s.head=true then 0 else 1+Qfa p s.part s.k+QcI p s.way
theorem W2{part k:Nat}:rk p ⟨way,part,k,false⟩=1+Qfa p part k+QcI p way:=by unfold rk;rw[if_neg (by simp)]
theorem QjI{part k:Nat}:rk p ⟨way,part,k,true⟩=0:=by unfold rk;rw[if_pos rfl]
structure SW(s:Spt):Prop where
 up:∀(j:Nat) (q:Nat×Nat),s.way[j]?=some q->j<=q.1
 le:s.way.length<=s.part
structure Mono(p:List Pt)(s:Spt)(L:List Spt):Prop where
 one:∀t,L=[t]->rk p t<rk p s
 two:∀a b,L=[a,b]->a.k≠b.k
theorem QfX:Mono p s []:=⟨fun _ h=>by simp at h,fun _ _ h=>by simp at h⟩
theorem Wj(h:rk p t<rk p s):Mono p s [t]:=⟨fun u e=>by simp at e;rw[<-e];exact h,fun _ _ e=>by simp at e⟩
theorem Qbz(h:a.k≠b.k):Mono p s [a,b]:=⟨fun u e=>by simp at e,fun x y e=>by simp at e;rw[<-e.1,<-e.2];exact h⟩
theorem UP{part k m:Nat}(a:p[part]?=some x)(c:k<x.2.length)(b:k<m):Mono p ⟨way,part,k,false⟩ [⟨way,part,m,false⟩]:=Wj (by
 rw[W2,W2,Xp a,Xp a];have:=UA (x:=x) (i:=part) b c
 lia)
theorem Qat{part k m:Nat}:Mono p ⟨way,part,k,false⟩ [⟨way,part,m,true⟩]:=Wj (by rw[W2,QjI];exact Nk (Nk (by decide) (Nv _ _)) (Nv _ _))
theorem Qi7(d:RL p){part k j:Nat}(a:p[part]?=some x)(b:x.2[k]?=some l)(hd:QaY l=true)(c:part+1<=j):Mono p ⟨way,part,k,false⟩ [⟨way++[(part,k)],j,0,false⟩]:=Wj (by
 rw[W2,W2,WF,Xp (p:=p) (i:=part) (k:=k) a,K3 b];have g:=d (j) (0);have f:=UW c;have e:cst part l=Wt (part+1)+2:=by unfold cst;rw[if_pos hd]
 rw[Xp (k:=k+1) a];show 1+Qfa p j 0+(QcI p way+(1+rem x part (k+1)))<_
 lia)
theorem Qdn{part k:Nat}:Mono p ⟨r++[q],part,k,false⟩ [⟨r,q.1,q.2+1,false⟩]:=Wj (by
 rw[W2,W2,WF]
 lia)
def Qj1(p:List Pt)(l:Ln):Option Nat:=if QaY l=true then(p.map (·.1)).findIdx? (·==l.getD 1 "")else none
inductive Nx(p:List Pt):Spt->List Spt->Prop where
 |head {way:List (Nat×Nat)} {part k en:Nat} {x:Pt} {l:Ln} (hx:p[part]?=some x) (hl:x.2[k]?=some l) (hc:cdL l=.ag) (B:Beh (x.2.map cdL) k .en en):Nx p ⟨way,part,k,true⟩ [⟨way,part,en+1,false⟩,⟨way,part,k+1,false⟩]
 |fin0 {way:List (Nat×Nat)} {part k:Nat} {x:Pt} (hw:way=[]) (hx:p[part]?=some x) (hl:x.2[k]?=none):Nx p ⟨way,part,k,false⟩ []
 |fin {way r:List (Nat×Nat)} {q:Nat×Nat} {part k:Nat} {x:Pt} (hw:way=r++[q]) (hx:p[part]?=some x) (hl:x.2[k]?=none):Nx p ⟨way,part,k,false⟩ [⟨r,q.1,q.2+1,false⟩]
 |ei {way:List (Nat×Nat)} {part k md:Nat} {x:Pt} {l:Ln} (hx:p[part]?=some x) (hl:x.2[k]?=some l) (hc:cdL l=.ei) (B:Beh (x.2.map cdL) k .oo md):Nx p ⟨way,part,k,false⟩ [⟨way,part,k+1,false⟩,⟨way,part,md+1,false⟩]
 |ag {way:List (Nat×Nat)} {part k:Nat} {x:Pt} {l:Ln} (hx:p[part]?=some x) (hl:x.2[k]?=some l) (hc:cdL l=.ag):Nx p ⟨way,part,k,false⟩ [⟨way,part,k,true⟩]
 |oo {way:List (Nat×Nat)} {part k en:Nat} {x:Pt} {l:Ln} (hx:p[part]?=some x) (hl:x.2[k]?=some l) (hc:cdL l=.oo) (B:Beh (x.2.map cdL) k .en en):Nx p ⟨way,part,k,false⟩ [⟨way,part,en+1,false⟩]
 |enA {way:List (Nat×Nat)} {part k fs:Nat} {x:Pt} {l l':Ln} (hx:p[part]?=some x) (hl:x.2[k]?=some l) (hc:cdL l=.en) (A:Ahd (x.2.map cdL) k fs) (hf:x.2[fs]?=some l') (hf':cdL l'=.ag):Nx p ⟨way,part,k,false⟩ [⟨way,part,fs,true⟩]
 |enE {way:List (Nat×Nat)} {part k fs:Nat} {x:Pt} {l l':Ln} (hx:p[part]?=some x) (hl:x.2[k]?=some l) (hc:cdL l=.en) (A:Ahd (x.2.map cdL) k fs) (hf:x.2[fs]?=some l') (hf':cdL l'=.ei):Nx p ⟨way,part,k,false⟩ [⟨way,part,k+1,false⟩]
 |dd {way:List (Nat×Nat)} {part k j:Nat} {x:Pt} {l:Ln} (hx:p[part]?=some x) (hl:x.2[k]?=some l) (hc:cdL l=.ot) (hd:QaY l=true) (hj:Qj1 p l=some j):Nx p ⟨way,part,k,false⟩ [⟨way++[(part,k)],j,0,false⟩]
 |ot {way:List (Nat×Nat)} {part k:Nat} {x:Pt} {l:Ln} (hx:p[part]?=some x) (hl:x.2[k]?=some l) (hc:cdL l=.ot) (hd:QaY l=false):Nx p ⟨way,part,k,false⟩ [⟨way,part,k+1,false⟩]
@[simp]theorem QnA{qs:List (Nat×Nat)}:ZZ (qs.map Wu)=true:=ZJ _ Qi1
@[simp]theorem Qpq:Ux (a++[x]) none (some (-1))=a:=by
 unfold Ux;have c:HT.sIx (a++[x]).length 0 none=0:=HT.sIx_none _ _
 have b:HT.sIx (a++[x]).length (a++[x]).length (some (-1))=a.length:=by
  unfold HT.sIx;simp;lia
 rw[c,b];simp
theorem Qn6(w:List (Nat×Nat))(h:w≠[]):∃r q,w=r++[q]:=⟨w.dropLast,w.getLast h,(EX h).symm⟩
def UG(p:List Pt)(s:Spt)(L:List Spt):Prop:=(∀t∈L,SV p t/\SW t)/\(Mono p s L/\Nx p s L)/\(∀h:MH,QC [Q6 p,Ql s] h=some (.lst (L.map Ql),h))/\∀h:MH,Q7 [Q6 p,ZH p,Ql s] h=some (.lst (L.map Ql),h)
theorem QiV{part k:Nat}(hw:∀q∈way,∃x,p[q.1]?=some x/\q.2<x.2.length)(b:p[part]?=some x)(c:k<=x.2.length)(a:SW ⟨way,part,d,e⟩):SV p ⟨way,part,k,false⟩/\SW ⟨way,part,k,false⟩:=⟨⟨⟨x,b,c,by simp⟩,hw⟩,⟨a.up,a.le⟩⟩
theorem bN{L:List Spt}(e:QW [Q6 p,ZH p,Ql s] []=some (.lst (L.map Ql),[])):Q7 [Q6 p,ZH p,Ql s] h=some (.lst (L.map Ql),h):=Qr (g:=[]) (by simp) e (by simp)
theorem bP{L:List Spt}(e:QQ [Q6 p,Ql s] []=some (.lst (L.map Ql),[])):QC [Q6 p,Ql s] h=some (.lst (L.map Ql),h):=Qr (g:=[]) (by simp) e (by simp)
theorem bI{ls:List Ln}{L:List Spt}(e:Zd [.tup (ls.map QH),Ql s] []=some (.lst (L.map Ql),[])):Jm [.tup (ls.map QH),Ql s] h=some (.lst (L.map Ql),h):=Qr (g:=[]) (by simp) e (by simp)
theorem QeE{way:List (Nat×Nat)}{part k:Nat}(j:GoodP 700 bs ws p)(n:SV p ⟨way,part,k,true⟩)(b:SW ⟨way,part,k,true⟩):∃L,L.length<=2/\UG p ⟨way,part,k,true⟩ L:=by
 obtain⟨x,a,w,z⟩:=n.ex;have hw:=n.way;simp only at a w hw;obtain⟨r,hr⟩:=z rfl;simp only at hr;have o:=NC.mpr ⟨part,a⟩;have e:=j.ok part x a;have f:∀l∈x.2,∃y r,l=y::r:=fun l v=>JJ (e l v);have d:=j.sz x o;have F:=Qah (j.bal x o);rw[Nu]at F;obtain⟨t,s,en,B,A,c⟩:=F.ag k (by rw[Np,hr];show some (cd "again")=_;rw[We]);have m:en<x.2.length:=by have:=(Nf.mp c.at_).1;simpa using this
 have i:=(Nf.mp hr).1;have D:∀h,Va [.tup (x.2.map QH),.int k] h=some (.int en,h):=fun h=>QhL f (Nr (Nh d (by decide))) c;have q:=Ys a;have C:=Qfm a;have E:atI ((bk x).rws.map (rv (bk x))) (k:Int)=some (.lst [.int k,.int s,.int en]):=Qcl B A;have g:k<en:=c.lt;refine⟨[⟨way,part,en+1,false⟩,⟨way,part,k+1,false⟩],by simp,?_,⟨Qbz (show en+1≠k+1 by exact EO (IJ g _)),.head a hr We c⟩,fun h=>?_,fun h=>?_⟩
 ·intro u hu;simp at hu
  rcases hu with rfl|rfl
  ·exact QiV hw a m b
  ·exact QiV hw a i b
 ·refine bP ?_;simp[QQ,Qz,Ql,q,D]
 ·refine bN ?_;simp[QW,Qz,Ql,Zb,Qag,q,C,E]
theorem Gh{part k:Nat}(n:GoodP 700 bs ws p)(m:SV p ⟨way,part,k,false⟩)(c:SW ⟨way,part,k,false⟩)(e:p[part]?=some x)(d:k=x.2.length):∃L,L.length<=2/\UG p ⟨way,part,k,false⟩ L:=by
 have hw:=m.way;simp only at hw;have f:=Ys e;have en:∀h,Zf [Q6 p,Ql ⟨way,part,k,false⟩] h=some (.non,h):=fun h=>W3 e (.inr d);simp only[Ql]at en
 by_cases a:way=[]
 ·subst a
  have b:∀h,VI [Ql ⟨[],part,k,false⟩] h=some (.lst [],h):=fun h=>by
   refine Qr (g:=[]) (by simp) ?_ (by simp);simp[J0,Qz,Ql]
  simp only[Ql]at b;refine⟨[],by simp,by simp,⟨QfX,.fin0 rfl e (NY (Nt d.symm))⟩,fun h=>?_,fun h=>?_⟩
  ·refine bP ?_;simp at en b;simp[QQ,Qz,Ql,f,en,b]
  ·refine bN ?_;simp[QW,Qz,Ql,Zb,Qag,f,d]
 ·obtain⟨r,q,rfl⟩:=Qn6 way a;obtain⟨y,l,i⟩:=hw q (by simp)
  have b:∀h,VI [Ql ⟨r++[q],part,k,false⟩] h=some (.lst [Ql ⟨r,q.1,q.2+1,false⟩],h):=fun h=>by
   refine Qr (g:=[]) (by simp) ?_ (by simp);simp[J0,Qz,Ql]
  simp only[Ql]at b;refine⟨[⟨r,q.1,q.2+1,false⟩],by simp,?_,⟨Qdn,.fin rfl e (NY (Nt d.symm))⟩,fun h=>?_,fun h=>?_⟩
  ·intro u hu;simp at hu;subst hu;exact⟨⟨⟨y,l,by show q.2+1<=_;exact i,by simp⟩,fun z a=>hw z (by simp;exact .inl a)⟩,⟨fun j z a=>c.up j z (by show(r++[q])[j]?=_;rw[NO (Nf.mp a).1];exact a),c.up r.length q (by simp)⟩⟩
  ·refine bP ?_;simp at en b;simp[QQ,Qz,Ql,f,en,b]
  ·refine bN ?_;simp[QW,Qz,Ql,Zb,Qag,f,d]
theorem Qcf(h:LineOk bs ws b (x::r))(hd:x="do"):∃nm,r=[nm]/\nm∈b:=by
 subst hd;generalize a:(("do":Str)::r)=l at h;cases h with
 |plain h=>cases h<;>simp at a
 |«do» h=>simp at a;exact⟨_,a,h⟩
 |blk h=>rcases h with rfl|rfl|rfl|rfl<;>simp at a
 |back h=>simp at a
theorem Qoy(h:cd x=.ag):x="again":=by
 rcases Jw (x:=x)with⟨rfl,a⟩|⟨rfl,a⟩|⟨rfl,a⟩|⟨rfl,a⟩|⟨_,a⟩
 ·rw[a]at h;cases h
 ·rfl
 ·rw[a]at h;cases h
 ·rw[a]at h;cases h
 ·rw[a]at h;cases h
theorem QiN{ns:List Str}(h:nm∈ns):∃j,ns.findIdx? (·==nm)=some j/\j<ns.length:=by
 cases e:ns.findIdx? (·==nm)with
 |none=>
  rw[Fw]at e;have:=e nm h;simp at this
 |some j=>
  refine⟨j,rfl,?_⟩;rw[EF]at e;exact e.1
theorem Qej(P:MSt->Prop)(f:W->W):∀(rest a:List W) (d:MSt),P d->(∀w∈rest,∀d,P d->∃c,b w d h=some c/\P c/\me c h=some (f w,h))->a.length+rest.length<=sizeLine->ZM fin items none b Kl me rest a d h=fin (a++rest.map f) h
 |[],a,d,_,_,_=>by unfold ZM;rw[if_pos (QA _ _)];simp
 |w::rest,a,d,j,e,m=>by
  have l:a.length+(rest.length+1)<=sizeLine:=by simpa using m
  obtain⟨c,o,g,n⟩:=e w NA d j;unfold ZM;rw[if_pos (QA _ _),o,Ni];show(some (true,h)).bind _=_;rw[Ni];simp only[n,Ni];rw[if_pos (by lia),Qej P f rest (a++[f w]) c g (fun x i=>e x (Ny _ i)) (by simp;lia)];simp
theorem Qh6(P:MSt->Prop)(f:W->W)(g:mi σ h=some (items,none,h))(i:P (QfM cp σ))(d:∀w∈items,∀c,P c->∃a,b w c h=some a/\P a/\me a h=some (f w,h))(e:items.length<=sizeLine):QN fin mi cp b Kl me σ h=fin (items.map f) h:=by
 unfold QN;rw[g,Ni];rw[Qej P f items [] _ i d (by simpa using e)];simp
noncomputable def Qjh:W->W
 |.tup (a::_)=>a
 |w=>w
theorem W1{ns:List Str}(n:ns.Nodup)(h:nm∈ns.drop (m+1))(f:ns.findIdx? (·==nm)=some j):m+1<=j:=by
 obtain⟨i,g⟩:=NC.mp h;rw[List.getElem?_drop]at g;obtain⟨d,e⟩:=Nf.mp g;rw[EF]at f;obtain⟨c,b,_⟩:=f;simp at b;have l:=List.pairwise_iff_getElem.mp n
 by_cases a:j<m+1+i
 ·exact absurd (b.trans e.symm) (l j (m+1+i) c d a)
 ·exact Nn (Nv _ _) (NU.mp a)
abbrev nS(p:List Pt)(way:List (Nat×Nat))(part k:Nat)(x:Pt)(y:Str):MSt:=[some (Q6 p),some (ZH p),some (.tup [.tup (way.map Wu),.int part,.int k,.bl false]),some (.tup (way.map Wu)),some (.int part),some (.int k),some (.bl false),some (.tup (x.2.map QH)),some (.str y)]
abbrev iS(way:List (Nat×Nat))(part k:Nat)(x:Pt)(y:Str):MSt:=[some (.tup (x.2.map QH)),some (.tup [.tup (way.map Wu),.int part,.int k,.bl false]),some (.int k),some (.str y)]
theorem skS{r rest:SM}(a:Qb i σ h=some (.str y,h))(b:¬y=c):Qm (Zt (Qj (Qe wEq (Qb i) (mC (.str c)))) r Qw) rest σ h=rest σ h:=by simp[a,b]
theorem skA{r rest:SM}{t:MT}(a:Qb i σ h=some (.str y,h))(b:¬y=c):Qm (Zt (J4 (Qj (Qe wEq (Qb i) (mC (.str c)))) t) r Qw) rest σ h=rest σ h:=by simp[a,b]
theorem Qdu{way:List (Nat×Nat)}{part k:Nat}(O:GoodP 700 bs ws p)(hs:SV p ⟨way,part,k,false⟩)(f:SW ⟨way,part,k,false⟩)(d:p[part]?=some x)(g:x.2[k]?=some l):∃L,L.length<=2/\UG p ⟨way,part,k,false⟩ L:=by
 have hw:=hs.way;simp only at hw;have hm:=NC.mpr ⟨part,d⟩;have R:=O.ok part x d;have C:∀l∈x.2,∃y r,l=y::r:=fun l g=>JJ (R l g);have H:=O.sz x hm;have F:=Qah (O.bal x hm);rw[Nu]at F;have c:=(Nf.mp g).1;obtain⟨y,r,rfl⟩:=C l (NC.mpr ⟨k,g⟩);have M:(x.2.map cdL)[k]?=some (cd y):=by rw[Np,g];rfl
 have ep:=Ys d;have er:=Qfm d;have el:=Qaw g;have n:∀h,Zf [Q6 p,Ql ⟨way,part,k,false⟩] h=some (QH (y::r),h):=fun h=>Qaz d rfl g;simp only[Ql]at n;have nk:¬(k:Int)=x.2.length:=by lia
 have aa:¬k=x.2.length:=by exact NG c
 have nl:KS (QH (y::r))=false:=rfl;have Z:∀m,m<=x.2.length->SV p ⟨way,part,m,false⟩/\SW ⟨way,part,m,false⟩:=fun m hm=>QiV hw d hm f;have one:∀(u:Spt),(SV p u/\SW u)->∀t∈[u],SV p t/\SW t:=fun u hu t ht=>by rw[NF.mp ht];exact hu
 have up:y≠"do"->∀(L:List Spt),(∀h,Jm [.tup (x.2.map QH),.tup [.tup (way.map Wu),.int part,.int k,.bl false]] h=some (.lst (L.map Ql),h))->∀h,QC [Q6 p,Ql ⟨way,part,k,false⟩] h=some (.lst (L.map Ql),h):=fun hd L e h=>by
  refine bP ?_;simp[QQ,Qz,Ql,ep,n,nl,hd,e]
 have G:QW [Q6 p,ZH p,Ql ⟨way,part,k,false⟩] []=Qij (QV (nS p way part k x y) []):=by
  simp[QW,Qz,Ql,Zb,Qag,ep,el,nk,aa]
 have N:Zd [.tup (x.2.map QH),Ql ⟨way,part,k,false⟩] []=Qij (QJ (iS way part k x y) []):=by
  simp[Zd,Qz,Ql,el]
 rcases Jw (x:=y)with⟨rfl,o⟩|⟨rfl,o⟩|⟨rfl,o⟩|⟨rfl,o⟩|⟨⟨n1,n2,n3,n4⟩,o⟩
 ·obtain⟨t,D,en,Y,X,v⟩:=F.ei k (by rw[M,o]);have af:D<x.2.length:=by have:=(Nf.mp v.at_).1;simpa using this
  have eo:∀h,Wf [.tup (x.2.map QH),.int k] h=some (.int D,h):=fun h=>Qnq C (Nr (Nh H (by decide))) v;have P:atI ((bk x).rws.map (rv (bk x))) (k:Int)=some (.lst [.int k,.int D,.int en]):=Qcl Y X;have I:k<D:=v.lt;refine⟨[⟨way,part,k+1,false⟩,⟨way,part,D+1,false⟩],by simp,?_,⟨Qbz (show k+1≠D+1 by exact NG (IJ I _)),.ei d g o v⟩,up (by simp) _ fun h=>?_,fun h=>?_⟩
  ·intro u hu;simp at hu
   rcases hu with rfl|rfl
   ·exact Z _ c
   ·exact Z _ af
  ·refine bI (s:=⟨way,part,k,false⟩) ?_;rw[N];simp[QJ,Ql,eo]
  ·refine bN ?_;rw[G];simp[QV,Ql,er,P]
 ·refine⟨[⟨way,part,k,true⟩],by simp,one _ ⟨⟨⟨x,d,by show k<=_;exact Nr c,fun _=>⟨r,g⟩⟩,hw⟩,⟨f.up,f.le⟩⟩,⟨Qat,.ag d g o⟩,up (by simp) _ fun h=>?_,fun h=>?_⟩
  ·refine bI (s:=⟨way,part,k,false⟩) ?_;rw[N,QJ,skS rfl (by simp),skS rfl (by simp)];simp[Ql]
  ·refine bN ?_;rw[G,QV,skS rfl (by simp),skS rfl (by simp)];simp[Ql]
 ·obtain⟨t,fs,en,Y,X,v⟩:=F.oo k (by rw[M,o]);have aj:en<x.2.length:=by have:=(Nf.mp v.at_).1;simpa using this
  have ee:∀h,Va [.tup (x.2.map QH),.int k] h=some (.int en,h):=fun h=>QhL C (Nr (Nh H (by decide))) v;have P:atI ((bk x).rws.map (rv (bk x))) (k:Int)=some (.lst [.int fs,.int k,.int en]):=Qcl Y X;have I:k<en:=v.lt;refine⟨[⟨way,part,en+1,false⟩],by simp,one _ (Z _ aj),⟨UP d c (Nk I (Nv _ _)),.oo d g o v⟩,up (by simp) _ fun h=>?_,fun h=>?_⟩
  ·refine bI (s:=⟨way,part,k,false⟩) ?_;rw[N,QJ,skS rfl (by simp)];simp[Ql,ee]
  ·refine bN ?_;rw[G,QV,skS rfl (by simp)];simp[Ql,er,P]
 ·obtain⟨t,fs,D,Y,X,v,h4⟩:=F.en k (by rw[M,o]);have eh:∀h,VW [.tup (x.2.map QH),.int k] h=some (.int fs,h):=fun h=>Qjf C (Nr (Nh H (by decide))) (Nr c) v;have P:atI ((bk x).rws.map (rv (bk x))) (k:Int)=some (.lst [.int fs,.int D,.int k]):=Qcl Y X;have J:fs<x.2.length:=by have:=v.lt;exact N4 this c
  obtain⟨z,r',hz⟩:=C x.2[fs] (Dp J);have A:x.2[fs]?=some (z::r'):=by rw[Nl J,hz]
  have ef:=Qaw A;have ak:(x.2.map cdL)[fs]?=some (cd z):=by rw[Np,A];rfl
  by_cases ha:z="again"
  ·subst ha;refine⟨[⟨way,part,fs,true⟩],by simp,one _ ⟨⟨⟨x,d,by show fs<=_;exact Nr J,fun _=>⟨r',A⟩⟩,hw⟩,⟨f.up,f.le⟩⟩,⟨Qat,.enA d g o v A We⟩,up (by simp) _ fun h=>?_,fun h=>?_⟩
   ·refine bI (s:=⟨way,part,k,false⟩) ?_;rw[N,QJ,skS rfl (by simp),skS rfl (by simp),skS rfl (by simp)];simp[Ql,eh,ef]
   ·refine bN ?_;rw[G,QV,skS rfl (by simp),skS rfl (by simp),skS rfl (by simp)];simp[Ql,er,P,ef]
  ·refine⟨[⟨way,part,k+1,false⟩],by simp,one _ (Z _ c),⟨UP d c (N1 _),.enE d g o v A (by rcases h4 with q|q<;>rw[ak]at q<;>first|exact NS q|exact absurd (Qoy (NS q)) ha)⟩,up (by simp) _ fun h=>?_,fun h=>?_⟩
   ·refine bI (s:=⟨way,part,k,false⟩) ?_;rw[N,QJ,skS rfl (by simp),skS rfl (by simp),skS rfl (by simp)];simp[Ql,eh,ef,ha]
   ·refine bN ?_;rw[G,QV,skS rfl (by simp),skS rfl (by simp),skS rfl (by simp)];simp[Ql,er,P,ef,ha]
 ·by_cases hd:y="do"
  ·obtain⟨nm,rfl,S⟩:=Qcf (R _ (NC.mpr ⟨k,g⟩)) hd;subst hd;obtain⟨j,hj,ah⟩:=QiN (List.mem_of_mem_drop S);have Q:=W1 O.nd S hj;have E:=O.len;have en:∀h,JC [Q6 p,.str nm] h=some (.int j,h):=fun h=>QdI hj (Nr (Nh E (by decide)));have U:j<p.length:=by simpa using ah
   have s1:way.length+1<=sizeLine:=Xi (by have:=f.le;have:=(Nf.mp d).1;simp only at *;lia)
   have ec:∀(σ:MSt),σ[0]?=some (some (Q6 p))->QN Jn (Qo (Qb 0)) [none,none] (Zb [0,1]) Kl (Qb 0) σ []=Jn ((p.map Vf).map Qjh) []:=fun σ h0=>by
    refine Qh6 (fun τ=>τ.length=2) Qjh (by simp[Qo,Qb,h0,QbE,Q6]) rfl (fun w hw τ ab=>?_) (by simp;exact Xi (Nr (Nh E (by decide))));obtain⟨z,_,rfl⟩:=NL.mp hw
    match τ,ab with
    |[a,b],_=>exact⟨[some (.str z.1),some (.tup (z.2.map QH))],rfl,rfl,rfl⟩
   have ae:(p.map Vf).map Qjh=(p.map (·.1)).map W.str:=by simp[Vf,Qjh,EZ]
   have ei:XC (.lst ((p.map (·.1)).map W.str)) [.str nm] []=some (.int j,[]):=by
    unfold XC;simp only[lsW,Ni];rw[Xj [] (.str nm) 40 rfl (by simp[dep]),JW [] _ 40 Ja (Nn Kh (by decide)),Ni,Ni,Qe3 hj];rfl
   rw[ae]at ec;rw[ES]at ec ei;simp only[Jn]at ec;refine⟨[⟨way++[(part,k)],j,0,false⟩],by simp,one _ ⟨⟨⟨p[j],Nl U,NV _,by simp⟩,?_⟩,?_⟩,⟨Qi7 (Qff O) d g (by show(("do":Str)=="do")=true;decide) Q,.dd d g o (by show(("do":Str)=="do")=true;decide) (by show(if QaY (["do",nm]:Ln)=true then _ else none)=some j;rw[if_pos (by show(("do":Str)=="do")=true;decide)];exact hj)⟩,fun h=>?_,fun h=>?_⟩
   ·intro q B;simp at B
    rcases B with B|rfl
    ·exact hw q B
    ·exact⟨x,d,c⟩
   ·refine⟨fun i q B=>?_,by have:=f.le;simp at this ⊢;exact Nn (Df this _) Q⟩;have ai:=(Nf.mp B).1;simp at ai;have T:=f.le;simp only at T B
    by_cases hi:i<way.length
    ·rw[NO hi]at B;exact f.up i q B
    ·have:i=way.length:=by lia
     subst this;simp at B;subst B;exact T
   ·refine bP ?_;simp[QQ,Qz,Ql,ep,n,nl,en,s1,Wu]
   ·refine bN ?_;rw[G,QV,skS rfl (by simp),skS rfl (by simp),skS rfl (by simp),skA rfl (by simp)];simp[Ql,s1,Wu,ep,el];rw[ec _ rfl];simp[ei]
  ·refine⟨[⟨way,part,k+1,false⟩],by simp,one _ (Z _ c),⟨UP d c (N1 _),.ot d g o (by show(y==("do":Str))=false;simpa using hd)⟩,up hd _ fun h=>?_,fun h=>?_⟩
   ·refine bI (s:=⟨way,part,k,false⟩) ?_;rw[N,QJ,skS rfl n1,skS rfl n3,skS rfl n2,skA rfl n4];simp[Ql]
   ·refine bN ?_;rw[G,QV,skS rfl n1,skS rfl n3,skS rfl n2,skA rfl n4,skS rfl hd];simp[Ql]
theorem Qka(d:GoodP 700 bs ws p)(b:SV p s)(a:SW s):∃L,L.length<=2/\UG p s L:=by
 obtain⟨e,part,k,head⟩:=s;cases head with
 |true=>exact QeE d b a
 |false=>
  obtain⟨x,c,f,_⟩:=b.ex;simp only at c f
  by_cases z:k=x.2.length
  ·exact Gh d b a c z
  ·exact Qdu d b a c (Nl (by lia))
theorem QbZ:∀(N:Nat) (l:List Nat),l.Nodup->(∀x∈l,x<N)->l.length<=N
 |0,[],_,_=>Nz _
 |0,x::l,_,h=>absurd (h x NA) (NU.mpr (NV _))
 | N+1,l,b,h=>by
  have c:=QbZ N (l.erase N) (b.erase N) (fun x a=>by
   have:=h x (List.mem_of_mem_erase a);have:=((b.mem_erase_iff).mp a).1
   lia)
  rw[List.length_erase]at c;split at c<;>lia
section
variable{N:Nat}{bs ws:List Str}{p:List Pt}
theorem QlL(c:GoodP N bs ws p)(d:p[i]?=some x)(e:l∈x.2)(hd:Qj1 p l=some j):i+1<=j/\QaY l=true:=by
 unfold Qj1 at hd;split at hd
 ·rename_i a;obtain⟨y,r,rfl⟩:=JJ (c.ok i x d l e);obtain⟨nm,rfl,b⟩:=Qcf (c.ok i x d _ e) (by simpa[QaY]using a);exact⟨W1 c.nd b hd,a⟩
 ·cases hd
inductive Chn(p:List Pt):List (Nat×Nat)->Nat->Prop where
 |nil:Chn p [] 0
 |snoc {r way:List (Nat×Nat)} {i k j:Nat} {x:Pt} {l:Ln} (hw:way=r++[(i,k)]) (c:Chn p r i) (hx:p[i]?=some x) (hl:x.2[k]?=some l) (hj:Qj1 p l=some j):Chn p way j
structure Rc(p:List Pt)(s:Spt):Prop where
 v:SV p s
 w:SW s
 c:Chn p s.way s.part
theorem Qlo(h:Nx p s L)(c:Chn p s.way s.part):∀t∈L,Chn p t.way t.part:=by
 cases h with
 |head=>intro t a;simp at a;rcases a with rfl|rfl<;>exact c
 |fin0=>intro t a;simp at a
 | @fin way r q part k x hw d f=>
  intro t a;simp at a;subst a;cases c with
  |nil=>simp at hw
  |@snoc u _ i w _ o v b n g j l=>
   rw[hw]at b;obtain⟨rfl,e⟩:=List.append_inj' b rfl;cases e;exact n
 |ei=>intro t a;simp at a;rcases a with rfl|rfl<;>exact c
 |ag=>intro t a;simp at a;subst a;exact c
 |oo=>intro t a;simp at a;subst a;exact c
 |enA=>intro t a;simp at a;subst a;exact c
 |enE=>intro t a;simp at a;subst a;exact c
 |dd d f y hd m=>intro t a;simp at a;subst a;exact .snoc rfl c d f m
 |ot=>intro t a;simp at a;subst a;exact c
theorem Wl(h:k<=j)(a:j<=x.2.length):rem x i j<=rem x i k:=by
 by_cases e:k=j
 ·rw[e];exact Nz _
 ·exact Nr (UA (by lia) (by lia))
inductive Vl(p:List Pt):Nat->List (Nat×Nat)->Nat->Nat->Nat->Prop where
 |here {i k:Nat} {x:Pt} (hx:p[i]?=some x) (hk:k<=x.2.length):Vl p i [] i k (1+rem x i k)
 |down {i k0 j part k v:Nat} {x:Pt} {l:Ln} {w:List (Nat×Nat)} (hx:p[i]?=some x) (hl:x.2[k0]?=some l) (hj:Qj1 p l=some j) (a:Vl p j w part k v):Vl p i ((i,k0)::w) part k (v+(1+rem x i (k0+1)))
theorem Qlb(f:GoodP N bs ws p)(hr:RL p){i part k v:Nat}(a:Vl p i w part k v):1<=v/\v<=1+Wt i:=by
 induction a with
 |@here i k x b o=>
  have:=hr i k;rw[Xp b]at this;lia
 |@down i c j part k v x l w b d e a n=>
  obtain⟨m,h⟩:=QlL f b (NC.mpr ⟨c,d⟩) e;have q:=UW m;have g:=hr i c;rw[Xp b,K3 d,cst,if_pos h]at g;lia
theorem Qky(G:GoodP N bs ws p)(hr:RL p){i part k v:Nat}(a:Vl p i w part k v):∀{b n u:Nat} {w':List (Nat×Nat)},Vl p i w' b n u->v=u->w=w'/\part=b/\k=n:=by
 have r:∀{i d j part k v:Nat} {x:Pt} {l:Ln} {w:List (Nat×Nat)},p[i]?=some x->x.2[d]?=some l->Qj1 p l=some j->Vl p j w part k v->rem x i (d+1)+2<=v+(1+rem x i (d+1))/\v+(1+rem x i (d+1))<=rem x i d:=by
  intro i d j part k v x l w f m q a;obtain⟨P,O⟩:=QlL G f (NC.mpr ⟨d,m⟩) q;have Q:=UW P;obtain⟨b1,H⟩:=Qlb G hr a;rw[K3 m,cst,if_pos O];lia
 have s:∀{i k d j b n v:Nat} {x:Pt} {l:Ln} {w:List (Nat×Nat)},p[i]?=some x->k<=x.2.length->x.2[d]?=some l->Qj1 p l=some j->Vl p j w b n v->1+rem x i k=v+(1+rem x i (d+1))->False:=by
  intro i k d j b n v x l w f y m q a e;obtain⟨b1,H⟩:=r f m q a;have E:=(Nf.mp m).1
  by_cases z:k<=d
  ·have:=Wl (x:=x) (i:=i) z (Nr E);lia
  ·have:=Wl (x:=x) (i:=i) (show d+1<=k by exact DT.mp z) y;lia
 induction a with
 | @here i k x f y=>
  intro b n u w' F e;cases F with
  |@here _ _ B c o=>
   rw[f]at c;cases c;refine⟨rfl,rfl,?_⟩
   rcases Lp k n with z|z|z
   ·have:=UA (x:=x) (i:=i) z (Nk z o);lia
   ·exact z
   ·have:=UA (x:=x) (i:=i) z (Nk z y);lia
  |@down _ t L _ _ v1 B J I c g h A=>
   rw[f]at c;cases c;exact(s f y g h A e).elim
 | @down i d j part k v x l w f m q a M=>
  intro b n u w' F e;cases F with
  |@here _ _ B c o=>
   rw[f]at c;cases c;exact(s f o m q a e.symm).elim
  | @down _ t L _ _ v1 B J I c g h A=>
   rw[f]at c;cases c;obtain⟨b1,H⟩:=r f m q a;obtain⟨S,R⟩:=r f g h A;have D:=(Nf.mp m).1;have C:=(Nf.mp g).1
   have:d=t:=by
    rcases Lp d t with z|z|z
    ·have:=Wl (x:=x) (i:=i) (show d+1<=t from z) (Nr C);lia
    ·exact z
    ·have:=Wl (x:=x) (i:=i) (show t+1<=d from z) (Nr D);lia
   subst this;rw[m]at g;cases g;rw[q]at h;cases h;obtain⟨rfl,rfl,rfl⟩:=M A (by lia);exact⟨rfl,rfl,rfl⟩
theorem QhY(c:Chn p way i):∀{w:List (Nat×Nat)} {part k v:Nat},Vl p i w part k v->Vl p 0 (way++w) part k (v+QcI p way):=by
 induction c with
 |nil=>intro w part k v a;simpa[QcI]using a
 |@snoc r way i b j x l hw c d f g e=>
  intro w part k v a;have:=e (.down d f g a);rw[hw,WF,Xp d];rw[Qq,List.cons_append,DX];rw[show v+(QcI p r+(1+rem x i (b+1)))=v+(1+rem x i (b+1))+QcI p r by lia];exact this
def Qi3(p:List Pt)(s:Spt):Nat:=2*(1+Qfa p s.part s.k+QcI p s.way)+if s.head=true then 1 else 0
theorem Qgb(t:GoodP N bs ws p)(hr:RL p)(h:Rc p s)(h':Rc p d)(e:Qi3 p s=Qi3 p d):s=d:=by
 obtain⟨x,l,r,_⟩:=h.v.ex;obtain⟨y,f,g,_⟩:=h'.v.ex;have a:=QhY h.c (.here l r);have u:=QhY h'.c (.here f g);unfold Qi3 at e;rw[Xp l,Xp f]at e
 have i:s.head=d.head:=by
  cases z:s.head<;>cases o:d.head<;>rw[z,o]at e<;>simp at e ⊢<;>lia
 rw[i]at e;obtain⟨j,n,m⟩:=Qky t hr a u (by lia);simp only[Dv]at j;obtain⟨w,q,k,b⟩:=s;obtain⟨A,B,C,D⟩:=d;simp only at j n m i;subst j n m i;rfl
theorem QiH(hr:RL p)(h2:SW s)(hw:s.way.length<=4):Qi3 p s<280010:=by
 have r:=hr s.part s.k;have m:=QhJ (i:=s.part)
 have key:∀(j:Nat) (q:Nat×Nat),s.way[j]?=some q->1+Qfa p q.1 (q.2+1)<=1+Wt j:=fun j q e=>by
  have t:=hr q.1 (q.2+1);have n:=h2.up j q e;cases j with
  |zero=>have:=QhJ (i:=q.1);show _<=1+65330;lia
  |succ j=>have:=UW (i:=j) (q:=q.1) n;lia
 have o:QcI p s.way<=71700:=by
  unfold QcI;generalize s.way=w at key hw
  match w,hw with
  |[],_=>simp
  |[a],_=>
   have f:=key 0 a rfl;simp[Wt]at f ⊢;exact Nr (Nh f (by decide))
  |[a,b],_=>
   have f:=key 0 a rfl;have g:=key 1 b rfl;simp[Wt]at f g ⊢;lia
  |[a,b,c],_=>
   have f:=key 0 a rfl;have g:=key 1 b rfl;have h:=key 2 c rfl;simp[Wt]at f g h ⊢;lia
  |[a,b,c,d],_=>
   have f:=key 0 a rfl;have g:=key 1 b rfl;have h:=key 2 c rfl;have l:=key 3 d rfl;simp[Wt]at f g h l ⊢;lia
 unfold Qi3;split<;>lia
theorem Qp4(b:GoodP N bs ws p)(h:Rc p s):s.way.length<=4:=by
 obtain⟨x,a,_⟩:=h.v.ex;have e:=(Nf.mp a).1;have d:=b.len;have c:=h.w.le;lia
theorem Qh9(d:GoodP N bs ws p)(hr:RL p){L:List Spt}(g:L.Nodup)(h:∀s∈L,Rc p s):L.length<=280010:=by
 have:=QbZ 280010 (L.map (Qi3 p)) ?_ ?_
 ·rwa[Nu]at this
 ·rw[List.Nodup,Yab];refine LF (fun {a b} j i ne e=>ne (Qgb d hr (h a j) (h b i) e)) g
 ·intro x f;obtain⟨s,c,rfl⟩:=NL.mp f;exact QiH hr (h s c).w (Qp4 d (h s c))
end
noncomputable def trS(s:Spt):Tr:=.t [.t (s.way.map fun q=>.t [.i q.1,.i q.2]),.i s.part,.i s.k,.i (if s.head then 1 else 0)]
theorem QhC:∀(qs:List (Nat×Nat)),(qs.map Wu).mapM (Wm 6)=some (qs.map fun q=>Tr.t [.i q.1,.i q.2])
 |[]=>rfl
 |q::qs=>by
  rw[Nw,Dn,QhC qs];rfl
theorem QaD:nrm (Ql s)=some (trS s):=by
 show Wm 8 (.tup [.tup (s.way.map Wu),.int s.part,.int s.k,.bl s.head])=_;simp only[Wm,Dn,Lf,QhC];rfl
theorem Qfn(h:trS a=trS b):a=b:=by
 obtain⟨w,q,k,hd⟩:=a;obtain⟨d,g,j,c⟩:=b;unfold trS at h;simp only[Tr.t.injEq,IH,Tr.i.injEq,and_true]at h;obtain⟨o,n,m,l⟩:=h
 have u:w=d:=by
  refine OV (f:=fun q:Nat×Nat=>Tr.t [.i q.1,.i q.2]) (fun x y e=>?_)|>.mp o
  simp only[Tr.t.injEq,IH,Tr.i.injEq,and_true]at e;exact Prod.ext (Fl e.1) (Fl e.2)
 have s:q=g:=Fl n;have r:k=j:=Fl m;have p:hd=c:=by cases hd<;>cases c<;>simp at l ⊢
 subst u s r p;rfl
theorem Qil(h:nrm (Ql a)=some (trS b)):a=b:=by
 rw[QaD]at h;exact Qfn (NS h)
noncomputable instance sptDec:DecidableEq Spt:=fun _ _=>Classical.propDecidable _
open Classical in
noncomputable def nx(p:List Pt)(s:Spt):List Spt:=if h:∃L,L.length<=2/\UG p s L then h.choose else[]
section
variable{bs ws:List Str}{p:List Pt}
theorem QeF(b:GoodP 700 bs ws p)(a:Rc p s):(nx p s).length<=2/\UG p s (nx p s):=by
 have h:=Qka b a.v a.w;unfold nx;rw[dif_pos h];exact h.choose_spec
theorem Qji(d:GoodP 700 bs ws p)(a:Rc p s)(h:t∈nx p s):Rc p t:=by
 obtain⟨_,b,e,_⟩:=QeF d a;exact⟨(b t h).1,(b t h).2,Qlo e.2 a.c t h⟩
noncomputable abbrev sp0:Spt:=⟨[],0,0,false⟩
theorem rc0(a:GoodP 700 bs ws p):Rc p sp0:=by
 have b:0<p.length:=Fp.mpr a.ne;exact⟨⟨⟨p[0],Nl b,NV _,by simp⟩,by simp⟩,⟨by simp,Nz _⟩,.nil⟩
inductive Dfs(p:List Pt):List Spt->List Spt->Nat->List Spt->Prop where
 |done {met:List Spt}:Dfs p met [] 0 met
 |skip {met st out:List Spt} {s:Spt} {n:Nat} (h:s∈met) (d:Dfs p met st n out):Dfs p met (s::st) (n+1) out
 |add {met st out:List Spt} {s:Spt} {n:Nat} (h:s∉met) (d:Dfs p (met++[s]) (nx p s++st) n out):Dfs p met (s::st) (n+1) out
theorem QlB(l:GoodP 700 bs ws p):∀(m:Nat) (met st:List Spt),met.Nodup->(∀s∈met,Rc p s)->(∀s∈st,Rc p s)->3*(280010-met.length)+st.length<=m->∃n out,Dfs p met st n out/\n<=m/\out.Nodup/\∀s∈out,Rc p s:=by
 have hr:=Qff l;intro m
 induction m with
 |zero=>
  intro met st g j w u;have:st=[]:=Ec.mp (Dw (Nn (Fz _ _) u) (NV _));subst this;exact⟨0,met,.done,Nz _,g,j⟩
 | succ m y=>
  intro met st g j w u;cases st with
  |nil=>exact⟨0,met,.done,NV _,g,j⟩
  | cons s st=>
   rw[NM]at u;have o:=w s NA;have h:∀t∈st,Rc p t:=fun t c=>w t (Ny _ c)
   by_cases z:s∈met
   ·obtain⟨n,out,d,v,r,hr⟩:=y met st g j h (by lia);exact⟨n+1,out,.skip z d,by exact Df v _,r,hr⟩
   ·have f:(met++[s]).Nodup:=by
     rw[Ek];exact⟨g,by simp,fun a B b A e=>z (by rw[NF.mp A]at e;rw[<-e];exact B)⟩
    have i:∀t∈met++[s],Rc p t:=fun t c=>by
     rcases NT.mp c with q|q
     ·exact j t q
     ·rw[NF.mp q];exact o
    have x:=Qh9 l hr f i;rw[NH,NZ]at x;have C:=(QeF l o).1
    obtain⟨n,out,d,v,r,hr⟩:=y (met++[s]) (nx p s++st) f i (fun t c=>by
     rcases NT.mp c with q|q
     ·exact Qji l o q
     ·exact h t q) (by rw[NH,NH,NZ];lia)
    exact⟨n+1,out,.add z d,by exact Df v _,r,hr⟩
def X6(met:List Spt):List (W×W):=met.map fun s=>(Ql s,.bl true)
theorem QfC:(KM (X6 met) (trS s)).isSome=decide (s∈met):=by
 induction met with
 |nil=>rfl
 | cons t met a=>
  have b:nrm (Ql t)=some (trS t):=QaD
  by_cases e:t=s
  ·subst e;simp[X6,KM,NK,b]
  ·have d:¬nrm (Ql t)=some (trS s):=fun z=>e (Qil z);have:KM (X6 (t::met)) (trS s)=KM (X6 met) (trS s):=by simp only[X6,KM,Nw,NK,d,decide_false]
   rw[this,a];have c:¬s=t:=fun z=>e z.symm;simp[c]
theorem WA(a:h[n]?=some (.dct (X6 met))):UI true (Ql s) (.ref n) h=some (.bl (!decide (s∈met)),h):=by
 have c:Y1 h (.ref n)=some (X6 met):=by simp only[Y1,a]
 have b:nrm (Ql s)=some (trS s):=QaD;unfold UI;rw[c,Ni,b,Ef,QfC];rfl
theorem QaP(c:h[n]?=some (.dct (X6 met)))(b:s∉met)(d:met.length<sizeLine):Ko (.ref n) (Ql s) (.bl true) h=some (h.set n (.dct (X6 (met++[s])))):=by
 have e:nrm (Ql s)=some (trS s):=QaD;have a:(KM (X6 met) (trS s)).isSome=false:=by rw[QfC];simpa using b
 unfold Ko;simp only[c];rw[e,Ni,if_pos (by unfold X6;rw[Nu];exact d)];unfold Qby;rw[a];simp[X6]
@[simp]theorem QoE:KB mo mi a σ h=@ob _ _ (fun v=>@ob _ _ (fun o=>@ob _ _ (fun i=>@om _ _ (fun h'=>.nx σ h') (Ko o.1 i.1 v.1 i.2)) (mi σ o.2)) (mo σ v.2)) (a σ h):=id rfl
theorem KU(e:t σ h=some (true,h))(a:body σ h=some (.nx σ2 h2)):QP t body (f+1) σ h=QP t body f σ2 h2:=by
 rw[QP,e,Ni,a];rfl
theorem WN(e:t σ h=some (false,h)):QP t body (f+1) σ h=some (.nx σ h):=by rw[QP,e];rfl
theorem szN(h:n<=16000000):n<sizeLine:=Nh h (by decide)
abbrev qS(p:List Pt)(a b:Option W):MSt:=[some (Q6 p),some (.ref 0),some (.ref 1),a,b]
abbrev qH(met st:List Spt):MH:=[.dct (X6 met),.lst (st.map Ql).reverse]
theorem GL:∀(L st:List Spt) (b:Option W),st.length+L.length<=16000000 ->
  ∃c,JK items none (Q2 4) Uy (L.map Ql) (qS p a b) (qH met st)=some (.nx (qS p a c) (qH met (L.reverse++st)))
 |[],st,b,_=>⟨b,U1⟩
 |s::L,st,b,h=>by
  rw[NM]at h;obtain⟨c,e⟩:=GL (items:=items) (met:=met) (a:=a) L (s::st) (some (Ql s)) (by rw[NM];lia);refine⟨c,?_⟩;have g:st.length<sizeLine:=szN (Nn (Nv _ _) h);rw[Nw,G3 (σ1:=qS p a (some (Ql s))) (σ2:=qS p a (some (Ql s))) (h2:=qH met (s::st)) rfl (by simp[g])];rw[e];simp
theorem QeK(A:GoodP 700 bs ws p){met st out:List Spt}(d:Dfs p met st n out):∀(f:Nat) (a b:Option W),n<f->met.length+n<=15000000->st.length+2*n<=15000000->(∀s∈st,Rc p s)->∃j i,QP (Ue (Qb 2)) Yz f (qS p a b) (qH met st)=some (.nx (qS p j i) (qH out [])):=by
 induction d with
 |@done met=>
  intro f a b B _ _ _;obtain⟨f,rfl⟩:∃k,f=k+1:=⟨f-1,by lia⟩
  exact⟨a,b,WN (by simp)⟩
 |@skip met st out s n h d w=>
  intro f a b B C g m;obtain⟨f,rfl⟩:∃k,f=k+1:=⟨f-1,by lia⟩
  rw[NM]at g;obtain⟨j,i,e⟩:=w f (some (Ql s)) b (by lia) (by lia) (by lia) fun t c=>m t (Ny _ c);refine⟨j,i,?_⟩;have l:=WA (s:=s) (h:=qH met st) (n:=0) rfl;rw[KU (σ2:=qS p (some (Ql s)) b) (h2:=qH met st) (by simp) (by simp only[qH]at l;simp[l,h]),e]
 | @add met st out s n h d w=>
  intro f a b B C g m;obtain⟨f,rfl⟩:∃k,f=k+1:=⟨f-1,by omega⟩
  rw[NM]at g;have z:=m s NA;obtain⟨G,_,_,en,_⟩:=QeF A z;have x:∀t∈st,Rc p t:=fun t c=>m t (Ny _ c);have l:=WA (s:=s) (h:=qH met st) (n:=0) rfl;have E:=QaP (s:=s) (h:=qH met st) (n:=0) rfl h (szN (Nr (Nh (Nn (Nv _ _) C) (by decide))));obtain⟨b1,y⟩:=GL (p:=p) (items:=(nx p s).reverse.map Ql) (met:=met++[s]) (a:=some (Ql s)) (nx p s).reverse st b (by rw[E3];lia);rw[IE]at y
  obtain⟨j,i,e⟩:=w f (some (Ql s)) b1 (by lia) (by rw[NH,NZ];lia) (by rw[NH];lia) fun t c=>by
   rcases NT.mp c with q|q
   ·exact Qji A z q
   ·exact x t q
  refine⟨j,i,?_⟩
  have D:Qha (Qa (Qi 2 QC (Qa (Qb 0) (Qa (Qb 3) Qc))) Qc) (qS p (some (Ql s)) b) (qH (met++[s]) st)=some ((nx p s).reverse.map Ql,none,qH (met++[s]) st):=by
   have:(Qa (Qi 2 QC (Qa (Qb 0) (Qa (Qb 3) Qc))) Qc) (qS p (some (Ql s)) b) (qH (met++[s]) st)=some ([.lst ((nx p s).map Ql)],qH (met++[s]) st):=by simp[en]
   unfold Qha;rw[this,Ni,Ii]
  have u:Ko (.ref 0) (Ql s) (.bl true) (qH met st)=some (qH (met++[s]) st):=E;have F:¬s∈met:=h;rw[KU (σ2:=qS p (some (Ql s)) b1) (h2:=qH (met++[s]) (nx p s++st)) (by simp) ?_,e];have r:Ko (.ref 0) (Ql s) (.bl true) [.dct (X6 met),.lst (st.map Ql).reverse]=some [.dct (X6 (met++[s])),.lst (st.map Ql).reverse]:=u;have v:UI true (Ql s) (.ref 0) [.dct (X6 met),.lst (st.map Ql).reverse]=some (.bl (!decide (s∈met)),[.dct (X6 met),.lst (st.map Ql).reverse]):=l;simp only[qS,qH]at D y;simp[v,F,r,Zm,D];rw[<-Ii];exact y
end
section
variable{bs ws:List Str}{p:List Pt}
theorem QfR(a:GoodP 700 bs ws p):∃(n:Nat) (out:List Spt),Dfs p [] [sp0] (n+1) out/\n<=840040/\out.length<=280010/\out.Nodup/\(∀s∈out,Rc p s)/\∀h:MH,Jj [Q6 p] h=some (.lst (out.map Ql),h):=by
 have i:=rc0 a;obtain⟨n,out,d,c,f,hr⟩:=QlB a 840031 [] [sp0] Ea (by simp) (by intro s b;rw[NF.mp b];exact i) (by simp);cases d with
 |skip h=>simp at h
 | @add _ _ _ _ n h d=>
  refine⟨n,out,.add h d,by exact Nr (N4 c (by decide)),Qh9 a (Qff a) f hr,f,hr,fun t=>?_⟩;obtain⟨r,q,e⟩:=QeK a (.add h d) 20000000 none none (Nh c (by decide)) (by simp;exact Nr (N4 c (by decide))) (by simp;lia) (by intro s b;rw[NF.mp b];exact i);refine Qr (g:=[.dct (X6 out),.lst []]) (by simp) ?_ (by simp)
  have o:Xv [.ref 0] [.dct (X6 out),.lst []]=some (.lst (out.map Ql),[.dct (X6 out),.lst []]):=by
   have:Y1 [.dct (X6 out),.lst []] (.ref 0)=some (X6 out):=rfl;unfold Xv;simp only[this,Ef];simp[X6,EZ]
  have m:∀l,WS l []=some (.ref 0,[.dct []]):=fun _=>rfl;have j:QP (Ue (Qb 2)) Yz 20000000 [some (Q6 p),some (.ref 0),some (.ref 1),none,none] [.dct [],.lst [Ql sp0]]=some (.nx (qS p r q) (qH out [])):=e;simp only[qH,EG,List.reverse_nil]at j;simp[WD,Qz,m];rw[j];simp[o]
theorem Qgs{N:Nat}{bs ws:List Str}{p:List Pt}(d:GoodP N bs ws p){x:Pt}(a:x∈p):∀l∈x.2,∃y r,l=y::r:=by
 obtain⟨i,c⟩:=NC.mp a;exact fun l b=>JJ (d.ok i x c l b)
noncomputable abbrev Fm:=Nat×Spt×Nat
def flt(p:List Pt)(F:List Fm):List Spt:=F.flatMap fun f=>(nx p f.2.1).drop f.2.2
noncomputable def pth(F:List Fm):List W:=(F.map fun f=>W.ref f.1).reverse
structure LI(p:List Pt)(h:MH)(met:List Spt)(F:List Fm):Prop where
 d:h[0]?=some (.dct (X6 met))
 q:h[2]?=some (.lst (pth F))
 f:∀f∈F,h[f.1]?=some (.lst [Ql f.2.1,.int f.2.2])/\f.1≠0/\f.1≠2/\f.2.2<=(nx p f.2.1).length/\Rc p f.2.1
 nd:(F.map (·.1)).Nodup
abbrev aS(p:List Pt)(a b:Option W):MSt:=[some (Q6 p),some (ZH p),some (.ref 0),some (.ref 2),a,b]
abbrev tA:MT:=Qj (Qe wGt (mFn JB (Qa (Qb 3) Qc)) (mC (.int 0)))
theorem QgW{h:MH}(e:h[n]?=some o):n<h.length:=(Nf.mp e).1
theorem Vs{h:MH}(e:h[n]?=some o):(h.set n x)[m]?=if n=m then some x else h[m]?:=by
 rw[FW];split
 ·rename_i z;subst z;rw[if_pos (QgW e)]
 ·rfl
theorem Qf8(hg:GoodP 700 bs ws p):∀(m n:Nat) (met out:List Spt) (F:List Fm) (h:MH) (a b:Option W) (f:Nat),LI p h met F->Dfs p met (flt p F) n out->2*n+F.length<=m->m<f->met.length+n<=15000000->F.length+n<=15000000 ->
  ∃L J h',QP tA Zx f (aS p a b) h=some (.nx (aS p L J) h')/\h'[0]?=some (.dct (X6 out)):=by
 intro m
 induction m with
 |zero=>
  intro n met out F h a b f I d hm hf _ _;obtain⟨f,rfl⟩:∃k,f=k+1:=⟨f-1,by lia⟩
  have:F=[]:=Ec.mp (Dw (Nn (Fz _ _) hm) (NV _));subst this;cases d;have u:=I.q;exact⟨a,b,h,WN (by simp[u,pth]),I.d⟩
 | succ m ih=>
  intro n met out F h a b f I d hm hf l1 l2;obtain⟨f,rfl⟩:∃k,f=k+1:=⟨f-1,by lia⟩
  cases F with
  |nil=>
   cases d;have u:=I.q;exact⟨a,b,h,WN (by simp[u,pth]),I.d⟩
  | cons fr F=>
   obtain⟨i,s,c⟩:=fr;rw[NM]at hm l2;obtain⟨E,i0,i2,hc,U⟩:=I.f (i,s,c) NA;simp only at E i0 i2 hc U;have u:=I.q;have hp:pth ((i,s,c)::F)=pth F++[.ref i]:=by simp[pth]
   rw[hp]at u;obtain⟨_,_,_,_,en⟩:=QeF hg U;have C:tA (aS p a b) h=some (true,h):=by simp[u]
   have Y:=I.nd;rw[Nw,EB]at Y
   by_cases hz:c=(nx p s).length
   ·-- back
    have hI:LI p (h.set 2 (.lst (pth F))) met F:=by
     refine⟨?_,?_,fun g l=>?_,Y.2⟩
     ·rw[Vs u,if_neg (by decide)];exact I.d
     ·rw[Vs u,if_pos rfl]
     ·have z:=I.f g (Ny _ l);refine⟨?_,z.2⟩;rw[Vs u,if_neg (fun e=>z.2.2.1 e.symm)];exact z.1
    have H:flt p ((i,s,c)::F)=flt p F:=by simp[flt,hz]
    rw[H]at d;obtain⟨L,J,h',e,S⟩:=ih n met out F _ (some (.lst ((nx p s).map Ql))) b f hI d (by lia) (by lia) l1 (by lia);refine⟨L,J,h',?_,S⟩;rw[KU (σ2:=aS p (some (.lst ((nx p s).map Ql))) b) (h2:=h.set 2 (.lst (pth F))) C (by simp[u,E,en,hz]),e]
   ·-- on
    have y:c<(nx p s).length:=by lia
    have ht:(nx p s)[c]?=some (nx p s)[c]:=Nl y;have O:Rc p (nx p s)[c]:=Qji hg U (Dp y);have R:(nx p s).drop c=(nx p s)[c]::(nx p s).drop (c+1):=EK y;generalize(nx p s)[c]=t at ht O R;have ae:atI ((nx p s).map Ql) (c:Int)=some (Ql t):=by rw[QO,Np,ht];rfl
    have H:flt p ((i,s,c)::F)=t::flt p ((i,s,c+1)::F):=by simp[flt,R]
    rw[H]at d;have aa:¬(c:Int)=(nx p s).length:=by lia
    generalize v:h.set i (.lst [Ql s,.int ((c:Int)+1)])=w;have M:w[0]?=some (.dct (X6 met)):=by rw[<-v,Vs E,if_neg i0];exact I.d
    have g2:w[2]?=some (.lst (pth F++[.ref i])):=by rw[<-v,Vs E,if_neg i2];exact u
    have gi:w[i]?=some (.lst [Ql s,.int ((c:Int)+1)]):=by rw[<-v,Vs E,if_pos rfl]
    have gf:∀g∈F,w[g.1]?=some (.lst [Ql g.2.1,.int g.2.2]):=fun g l=>by
     have z:=I.f g (Ny _ l);rw[<-v,Vs E,if_neg (fun e=>Y.1 (by rw[show(i,s,c).1=i from rfl,e];exact NL.mpr ⟨g,l,rfl⟩))];exact z.1
    have ni:=WA (s:=t) M
    have B:LI p w met ((i,s,c+1)::F):=by
     refine⟨M,by rw[g2];simp[pth],fun g l=>?_,I.nd⟩
     rcases NE.mp l with rfl|l
     ·exact⟨by rw[gi];simp,i0,i2,y,U⟩
     ·exact⟨gf g l,(I.f g (Ny _ l)).2⟩
    have pre:Zx (aS p a b) h=Zt (Qj (Qe (UI true) (Qb 5) (Qb 2))) (Qm (KB (Qb 2) (Qb 5) (mC (.bl true))) (Jb (mMt "list" QY (Qb 3) (Qa (mFn Yq (Qa (Qb 5) (Qa (mC (.int 0)) Qc))) Qc)))) Qw (aS p (some (.lst ((nx p s).map Ql))) (some (Ql t))) w:=by
     rw[<-v];unfold Zx;generalize Zt (Qj (Qe (UI true) (Qb 5) (Qb 2))) (Qm (KB (Qb 2) (Qb 5) (mC (.bl true))) (Jb (mMt "list" QY (Qb 3) (Qa (mFn Yq (Qa (Qb 5) (Qa (mC (.int 0)) Qc))) Qc)))) Qw=rest;simp[u,E,en,aa,ae]
    cases d with
    |@skip _ _ _ _ n x d=>
     obtain⟨L,J,h',e,S⟩:=ih n met out _ w (some (.lst ((nx p s).map Ql))) (some (Ql t)) f B d (by rw[NM];lia) (by lia) (by lia) (by rw[NM];lia);refine⟨L,J,h',?_,S⟩;rw[KU (σ2:=aS p (some (.lst ((nx p s).map Ql))) (some (Ql t))) (h2:=w) C (by rw[pre];simp[ni,x]),e]
    | @add _ _ _ _ n x d=>
     have pu:=QaP (s:=t) M x (szN (Nr (Nh (Nn (Nv _ _) l1) (by decide))));generalize G:w.set 0 (.dct (X6 (met++[t])))=r at pu;have k0:r[0]?=some (.dct (X6 (met++[t]))):=by rw[<-G,Vs M,if_pos rfl]
     have Z:r[2]?=some (.lst (pth F++[.ref i])):=by rw[<-G,Vs M,if_neg (by decide)];exact g2
     have kf:∀(j:Nat) (o:MO),j≠0->w[j]?=some o->r[j]?=some o:=fun j o hj e=>by rw[<-G,Vs M,if_neg (fun z=>hj z.symm)];exact e
     have D:=QgW Z;have T:(r++[MO.lst [Ql t,.int 0]])[2]?=some (.lst (pth F++[.ref i])):=by rw[NO D];exact Z
     have sl:(pth F).length+1<sizeLine:=szN (by simp[pth];lia);generalize A:(r++[MO.lst [Ql t,.int 0]]).set 2 (MO.lst (pth F++[W.ref i]++[W.ref r.length]))=X
     have ap:∀(j:Nat) (o:MO),r[j]?=some o->j≠2->X[j]?=some o:=fun j o e hj=>by
      rw[<-A,Vs T,if_neg (fun z=>hj z.symm),NO (QgW e)];exact e
     have ab:LI p X (met++[t]) ((r.length,t,0)::(i,s,c+1)::F):=by
      refine⟨ap 0 _ k0 (by decide),?_,fun g l=>?_,?_⟩
      ·rw[<-A,Vs T,if_pos rfl];simp[pth]
      ·rcases NE.mp l with rfl|l
       ·refine⟨?_,by show r.length≠0;exact EO (N4 (by decide) D),by show r.length≠2;exact EO D,NV _,O⟩;rw[<-A,Vs T,if_neg (by lia)];simp
       ·have z:=B.f g l;exact⟨ap _ _ (kf _ _ z.2.1 z.1) z.2.2.1,z.2⟩
      ·rw[Nw,EB];refine⟨fun P=>?_,B.nd⟩;obtain⟨g,l,e⟩:=NL.mp P;have z:=B.f g l;have:=QgW (kf _ _ z.2.1 z.1);simp only at e;exact Yal (Nt e.symm) this
     have Q:flt p ((r.length,t,0)::(i,s,c+1)::F)=nx p t++flt p ((i,s,c+1)::F):=by simp[flt]
     rw[<-Q]at d;obtain⟨L,J,h',e,S⟩:=ih n (met++[t]) out _ X (some (.lst ((nx p s).map Ql))) (some (Ql t)) f ab d (by rw[NM,NM];lia) (by lia) (by rw[NH,NZ];lia) (by rw[NM,NM];lia);refine⟨L,J,h',?_,S⟩;rw[KU (σ2:=aS p (some (.lst ((nx p s).map Ql))) (some (Ql t))) (h2:=X) C ?_,e];rw[pre,<-A];simp[ni,x,pu,T,sl,Z]
end
theorem KR:(H0++[o])[H0.length]?=some o:=by simp
theorem Xx:(H0++[o]).set H0.length a=H0++[a]:=by simp
theorem Gc{h:MH}(e:h[n]?=some o):h.set n o=h:=by
 apply Dh;intro j;rw[Vs e];split
 ·rename_i z;subst z;exact e.symm
 ·rfl
section
variable{bs ws:List Str}{p:List Pt}
theorem Qc2(j:GoodP 700 bs ws p)(d:Dfs p [] [sp0] (n+1) out)(x:n<=840040)(h:MH):Jq [Q6 p,ZH p] h=some (.lst (out.map Ql),h):=by
 have u:Dfs p [sp0] (flt p [(1,sp0,0)]) n out:=by
  cases d with
  |skip h=>simp at h
  |add h d=>simpa[flt]using d
 have I:LI p [.dct (X6 [sp0]),.lst [Ql sp0,.int 0],.lst [.ref 1]] [sp0] [(1,sp0,0)]:=by
  refine⟨rfl,rfl,fun f o=>?_,by simp⟩;rw[NF.mp o];exact⟨rfl,by decide,by decide,NV _,rc0 j⟩
 obtain⟨w,v,a,e,t⟩:=Qf8 j 2000000 n [sp0] out _ _ none none 20000000 I u (by simp;lia) (by decide) (by simp;lia) (by simp;omega);refine Qr (g:=a) (by simp) ?_ (by simp[QiZ])
 have r:∀b,Qf4 (mFn QU (Qa (mFn QU Qc) (Qa (mC (.int 0)) (Qa (mC (.int 0)) (Qa (mC (.bl false)) Qc))))) (mC (.bl true)) b []=some (.ref 0,[.dct (X6 [sp0])]):=fun b=>by
  have m:=QaP (met:=[]) (s:=sp0) (h:=[.dct (X6 [])]) (n:=0) rfl (by simp) (by decide);have c:∀h,(mFn QU (Qa (mFn QU Qc) (Qa (mC (.int 0)) (Qa (mC (.int 0)) (Qa (mC (.bl false)) Qc))))) b h=some (Ql sp0,h):=fun h=>by simp[Ql]
  unfold Qf4;rw[c,Ni];show(Ko (.ref 0) (Ql sp0) (.bl true) [.dct (X6 [])]).map _=_;rw[m];rfl
 have c:Xv [.ref 0] a=some (.lst (out.map Ql),a):=by
  have:Y1 a (.ref 0)=some (X6 out):=by simp only[Y1,t]
  unfold Xv;simp only[this,Ef];simp[X6,EZ]
 have l:QP tA Zx 20000000 [some (Q6 p),some (ZH p),some (.ref 0),some (.ref 2),none,none] [.dct (X6 [sp0]),.lst [.tup [.tup [],.int 0,.int 0,.bl false],.int 0],.lst [.ref 1]]=some (.nx (aS p w v) a):=e;generalize q:QP tA Zx 20000000=i at l;simp only[XY,Qz,q];simp[r,l,c]
end
theorem QkV:∀(a b:List Str),a.Nodup->(∀y∈a,y∈b)->a.length<=b.length
 |[],b,_,_=>NV _
 |k::r,b,c,h=>by
  have e:=h k NA;rw[EB]at c;have:=QkV r (b.erase k) c.2 fun y d=>(IG (fun z=>c.1 (by rw[<-z];exact d))).mpr (h y (Ny _ d));rw[FF e]at this;have:=Dr e;rw[NM];lia
theorem Wn:∀(n:Nat) (l:List Str),l.length=n->(St.uniq l).Nodup/\(l.Nodup->St.uniq l=l):=by
 intro n
 induction n with
 |zero=>intro l h;rw[Ec.mp h];exact⟨Ea,fun _=>rfl⟩
 | succ n f=>
  intro l h;obtain⟨u,x,rfl⟩:∃u x,l=u++[x]:=⟨l.dropLast,l.getLast (fun z=>by rw[z]at h;cases h),(EX _).symm⟩
  obtain⟨q,d⟩:=f u (by simp at h;exact h);rw[St.uniq_snoc];constructor
  ·split
   ·exact q
   ·rename_i g;rw[Ek];exact⟨q,by simp,fun a j b i e=>g (by rw[NF.mp i]at e;rw[<-e];exact j)⟩
  ·intro c;rw[Ek]at c;rw[d c.1,if_neg fun z=>c.2.2 x z x (by simp) rfl]
theorem QcT(h:a.Sublist b):sortedS b=true->sortedS a=true:=by
 induction h with
 |slnil=>intro h;exact h
 |cons x _ c=>intro h;exact c (St.rising_tail h)
 | @cons_cons e d x s c=>
  intro h;have f:=c (St.rising_tail h);cases e with
  |nil=>rfl
  |cons y t=>
   have:=St.rising_all x d h y (s.subset NA);show(!ltCps y.cps.toList x.cps.toList&&risingS y t)=true;rw[NJ,Yaa];exact⟨St.le_of_lt.mpr this,f⟩
noncomputable def pW:W->Bool
 |.tup (.str x::_)=>x=="pair"
 |_=>false
noncomputable def fW:W->W
 |.tup (_::_::z::_)=>z
 |_=>.non
noncomputable def wdL(l:Ln):Option Str:=match l with
 |[x,_,w,_,_]=>if x="pair"then some w else none
 |_=>none
section
variable{bs ws la:List Str}{p:List Pt}
theorem Wz(h:LineOk bs ws la l)(a:pW (QH l)=true):∃x w y z:Str,l=(["pair",x,w,y,z]:Ln)/\w∈ws:=by
 cases h with
 |plain h=>
  cases h with
  |pair d hw c b=>exact⟨_,_,_,_,rfl,hw⟩
  |_=>simp[QH,pW]at a
 |«do» h=>simp[QH,pW]at a
 |blk h=>rcases h with rfl|rfl|rfl|rfl<;>simp[QH,pW]at a
 |back h=>simp[QH,pW]at a
theorem Qbe{y:Str}(f:¬y="pair"):wdL (y::r)=none:=by
 unfold wdL;split
 ·rename_i a b c d e g;cases g;rw[if_neg f]
 ·rfl
theorem QhE(h:LineOk bs ws la ("pair"::r)):∃x w y z:Str,r=[x,w,y,z]:=by
 obtain⟨x,w,y,z,e,_⟩:=Wz h (by simp[QH,pW]);injection e with _ e
 exact⟨x,w,y,z,e⟩
theorem YE:∀{ls:List Ln},(∀l∈ls,∃la,LineOk bs ws la l)->((ls.map QH).filter pW).map fW=(ls.filterMap wdL).map .str/\∀x∈ls.filterMap wdL,x∈ws
 |[],_=>⟨rfl,by simp⟩
 | l::ls,h=>by
  obtain⟨e,hw⟩:=YE (ls:=ls) fun x f=>h x (Ny _ f);obtain⟨la,d⟩:=h l NA
  by_cases a:pW (QH l)=true
  ·obtain⟨x,w,y,z,rfl,g⟩:=Wz d a;have c:wdL ["pair",x,w,y,z]=some w:=by simp[wdL]
   rw[Nw,List.filter_cons_of_pos a,Nw,e,List.filterMap_cons_some c];refine⟨rfl,fun q b=>?_⟩
   rcases NE.mp b with rfl|b
   ·exact g
   ·exact hw q b
  ·obtain⟨y,r,rfl⟩:=JJ d;have c:wdL (y::r)=none:=Qbe fun z=>a (by subst z;simp[QH,pW]);rw[Nw,List.filter_cons_of_neg a,e,List.filterMap_cons_none c];exact⟨rfl,hw⟩
theorem UL{ls:List Ln}(g:mi σ h=some (ls.map QH,none,h))(a:∀l∈ls,∃la,LineOk bs ws la l)(e:ls.length<=1000000):QN Jn mi [none] (Q2 0) (Qj (Qe wEq (Qe wIx (Qb 0) (mC (.int 0))) (mC (.str "pair")))) (Qe wIx (Qb 0) (mC (.int 2))) σ h=some (.lst ((ls.filterMap wdL).map .str),h):=by
 have c:=Qao (fin:=Jn) (mi:=mi) (cp:=[none]) (mt:=Qj (Qe wEq (Qe wIx (Qb 0) (mC (.int 0))) (mC (.str "pair")))) (me:=Qe wIx (Qb 0) (mC (.int 2))) (σ:=σ) (caps:=[]) (h:=h) (items:=ls.map QH)
  fW pW g ⟨_,rfl⟩ (fun w hw=>by
   obtain⟨l,b,rfl⟩:=NL.mp hw;obtain⟨la,b⟩:=a l b;obtain⟨y,r,rfl⟩:=JJ b;simp[QH,pW]) (fun w hw f=>by
   obtain⟨l,b,rfl⟩:=NL.mp hw;obtain⟨la,b⟩:=a l b;obtain⟨y,w,u,z,rfl,_⟩:=Wz b f
   simp[QH,fW]) (by simp;exact Xi e)
 rw[(YE a).1]at c;exact c
def prw(p:List Pt):List Str:=p.flatMap fun x=>x.2.filterMap wdL
def Wds(p:List Pt):List Str:=St.srt (St.uniq (prw p))
theorem Qlt(e:GoodP N bs ws p):∀y∈prw p,y∈ws:=by
 intro y a;obtain⟨x,b,a⟩:=Ij.mp a;obtain⟨i,d⟩:=NC.mp b;exact(YE (fun l c=>⟨_,e.ok i x d l c⟩)).2 y a
theorem UJ{f:a->List c}:∀(l:List a),(∀x∈l,(f x).length<=n)->(l.flatMap f).length<=n*l.length
 |[],_=>by simp
 |x::l,h=>by
  have:=UJ l fun y b=>h y (Ny _ b);have:=h x NA;rw[Lq,NH,NM,Nat.mul_succ];lia
theorem Qfq(a:GoodP N bs ws p):(prw p).length<=N*5:=Nn (UJ p fun x b=>Nn (FJ _ _) (a.sz x b)) (IR _ a.len)
theorem YW(f:GoodP N bs ws p)(b:ws.length<=5):(St.uniq (prw p)).length<=5/\(Wds p).length<=5/\(Wds p).Nodup/\sortedS (Wds p)=true:=by
 have d:(St.uniq (prw p)).length<=5:=Nn (QkV _ ws (Wn _ _ rfl).1 fun y e=>Qlt f y ((St.uniq_mem _ _ rfl y).mp e)) b;refine⟨d,?_⟩
 by_cases c:∃a:List Str,a.Perm (St.uniq (prw p))/\sortedS a=true
 ·obtain⟨a,q,h⟩:=c;unfold Wds;rw[St.srt_eq q h];exact⟨by rw[q.length_eq];exact d,q.nodup_iff.mpr (Wn _ _ rfl).1,h⟩
 ·unfold Wds St.srt;rw[dif_neg c];exact⟨by simp,Ea,rfl⟩
theorem Qcy(h:a.Sublist b)(d:b.Nodup)(c:sortedS b=true):St.uniq a=a/\St.srt (St.uniq a)=a:=by
 have e:=(Wn _ a rfl).2 (d.sublist h);exact⟨e,by rw[e];exact St.srt_eq (List.Perm.refl _) (QcT h c)⟩
theorem Uz(c:lsW h a=some (b.map .str))(d:b.length<4000)(h2:(St.uniq b).length<64):Vc [a] h=some (.ref h.length,h++[.lst ((St.srt (St.uniq b)).map .str)]):=by
 unfold Vc;simp only[c,Ni,Qd6];rw[if_pos ⟨d,h2⟩]
theorem X3:∀{ws:List W},ZZ ws=true->∀{k:Nat},Kn k ws=some (ws,[])
 |[],_,k=>rfl
 |a::r,b,k=>by
  unfold ZZ at b;rw[NJ]at b;have:=X3 b.2 (k:=k);cases a<;>first|(unfold pur at b;cases b.1;done)|(unfold Kn;rw[if_pos b.1,this];rfl)
theorem Y8{ws a:List W}(d:ZZ ws=true)(e:m ws []=some (.ref j,g))(f:g[j]?=some (.lst a))(c:ZZ a=true):box frN m ws h=some (.lst a,h):=by
 have hr:Kn 0 ws=some (ws,[]):=X3 d
 have:=Yw (m:=m) (args:=ws) (as:=ws) (ns:=[]) (os:=[]) (os':=[]) (g:=g) (h:=h) (w:=.ref j) (w':=.lst a) hr (by simp) rfl e rfl (by simp) (by
  unfold th res
  simp[Xn,f,ZW _ a c])
 simpa[Qu]using this
abbrev oS(p:List Pt)(x2 x3:Option W):MSt:=[some (Q6 p),some (.ref 0),x2,x3]
theorem Qib{f:a->List b}{l:List a}(h:l[j]?=some x):(l.take (j+1)).flatMap f=(l.take j).flatMap f++f x:=by rw[Dq,h];simp
theorem Y9(a:GoodP 300 bs ws p)(o:ws.length<=5)(h:MH):QI [Q6 p] h=some (.lst ((Wds p).map .str),h):=by
 have i:=a.len;have v:=Qfq a
 have e:=Q3 (items:=p.map Vf) (b:=Zb [2,3]) (body:=XA) (fun n m h=>∃(d c:Option W),m=oS p d c/\h=[.lst ((prw (p.take n)).map .str)])
  (p.map Vf) 0 (oS p none none) [.lst []] ⟨none,none,rfl,rfl⟩ (by
   rintro j w r m h ⟨d,c,rfl,rfl⟩
   rw[Np]at r;obtain⟨x,f,rfl⟩:=Nd.mp r;have q:=a.sz x (NC.mpr ⟨j,f⟩);rw[NI];refine⟨oS p (some (.str x.1)) (some (.tup (x.2.map QH))),rfl,oS p (some (.str x.1)) (some (.tup (x.2.map QH))),_,.inl ?_,_,_,rfl,rfl⟩;have A:=UL (ls:=x.2) (mi:=Qo (Qb 3)) (σ:=oS p (some (.str x.1)) (some (.tup (x.2.map QH)))) (h:=[.lst ((prw (p.take j)).map .str)]) rfl (fun l y=>⟨_,a.ok j x f l y⟩) (Nr (Nh q (by decide)));have B:prw (p.take (j+1))=prw (p.take j)++x.2.filterMap wdL:=Qib f;have F:(prw (p.take j)).length<=300*5:=Nn (UJ _ fun x f=>Nn (FJ _ _) (a.sz x (Ov f))) (IR _ (by rw[Ei];exact Nn (E7 _ _) i));have E:=FJ wdL x.2;have u:(prw (p.take j)).length+(x.2.filterMap wdL).length<=sizeLine:=Xi (by lia);rw[B]
   simp[A,u])
 obtain⟨t,G,s,d,c,rfl,rfl⟩:=e;rw[Nu,NI,Ew]at s;have hu:=(YW a o).1;have z:Vc [.ref 0] [.lst ((prw p).map .str)]=some (.ref 1,[.lst ((prw p).map .str),.lst ((Wds p).map .str)]):=Uz rfl (by lia) (Nh hu (by decide));refine Y8 (j:=1) (g:=[.lst ((prw p).map .str),.lst ((Wds p).map .str)]) (by simp) ?_ rfl (by simp);have ei:∀d c (h:MH),Qo (Qb 0) (oS p d c) h=some (p.map Vf,none,h):=fun _ _ _=>rfl;simp[VO,Qz,Zm,ei,s,z]
noncomputable def lns(p:List Pt):List Ln:=p.flatMap (·.2)
theorem QdJ{N:Nat}(a:GoodP N bs ws p)(j:Nat):(lns (p.take j)).length<=N*5:=Nn (UJ _ fun x b=>a.sz x (Ov b)) (IR _ (by have:=a.len;rw[Ei];exact Nn (E7 _ _) this))
theorem QgT(d:GoodP 300 bs ws p)(h:MH):Vw [Q6 p] h=some (.lst ((lns p).map QH),h):=by
 have i:=d.len
 have c:=Q3 (items:=p.map Vf) (b:=Q2 2) (body:=Ku) (fun n e h=>∃(a:Option W),e=[some (Q6 p),some (.ref 0),a]/\h=[.lst ((lns (p.take n)).map QH)])
  (p.map Vf) 0 [some (Q6 p),some (.ref 0),none] [.lst []] ⟨none,rfl,rfl⟩ (by
   rintro j w l e h ⟨a,rfl,rfl⟩
   rw[Np]at l;obtain⟨x,f,rfl⟩:=Nd.mp l;have r:=d.sz x (NC.mpr ⟨j,f⟩);rw[NI];refine⟨[some (Q6 p),some (.ref 0),some (Vf x)],rfl,[some (Q6 p),some (.ref 0),some (Vf x)],_,.inl ?_,_,rfl,rfl⟩;have s:lns (p.take (j+1))=lns (p.take j)++x.2:=Qib f;have t:=QdJ d j;have q:(lns (p.take j)).length+x.2.length<=sizeLine:=Xi (by lia);rw[s]
   simp[q,Vf])
 obtain⟨o,u,m,a,rfl,rfl⟩:=c;rw[Nu,NI,Ew]at m;refine Y8 (j:=0) (g:=[.lst ((lns p).map QH)]) (by simp) ?_ rfl (by simp);have ei:∀a (h:MH),Qo (Qb 0) [some (Q6 p),some (.ref 0),a] h=some (p.map Vf,none,h):=fun _ _=>rfl;simp[Xq,Qz,Zm,ei,m]
theorem Qd7:(lns p).filterMap wdL=prw p:=by
 unfold lns prw
 induction p with
 |nil=>rfl
 |cons x p a=>rw[Lq,List.filterMap_append,a,Lq]
theorem Qbb(a:GoodP 300 bs ws p)(b:ws.length<=5)(h:MH):KL [Q6 p] h=some (.lst ((Wds p).map .str),h):=by
 have e:=QdJ a p.length;rw[Ew]at e
 have ei:Qo (Qi 1 Vw (Qa (Qb 0) Qc)) [some (Q6 p)] []=some ((lns p).map QH,none,[]):=by
  unfold Qo;simp[QgT a];rfl
 have d:=UL (ls:=lns p) (bs:=bs) (ws:=ws) ei (fun l c=>by
  obtain⟨x,f,c⟩:=Ij.mp c;obtain⟨i,n⟩:=NC.mp f
  exact⟨_,a.ok i x n l c⟩) (by lia)
 rw[Qd7]at d;have hu:=(YW a b).1;have m:=Qfq a;have o:Vc [.lst ((prw p).map .str)] []=some (.ref 0,[.lst ((Wds p).map .str)]):=Uz rfl (by omega) (Nh hu (by decide));refine Y8 (j:=0) (g:=[.lst ((Wds p).map .str)]) (by simp) ?_ rfl (by simp);simp[XV,Qz,d,o]
end
theorem Qbn(P:Nat->MSt->MH->Prop)(d:∀n σ h,P n σ h->live src items h):∀(r:List W) (n:Nat) (σ:MSt) (h:MH),P n σ h ->
  (∀(j:Nat) (w:W),r[j]?=some w->∀σ h,P (n+j) σ h->∃σ1,b w σ h=some σ1/\∃σ2 h2,(body σ1 h=some (.nx σ2 h2)\/body σ1 h=some (.ct σ2 h2))/\P (n+j+1) σ2 h2) ->
  ∃a h',JK items src b body r σ h=some (.nx a h')/\P (n+r.length) a h'
 |[],n,σ,h,c,_=>⟨σ,h,by rw[JK,if_pos (d _ _ _ c)],c⟩
 | w::r,n,σ,h,c,f=>by
  obtain⟨σ1,o,σ2,h2,e,i⟩:=f 0 w rfl σ h c
  obtain⟨a,h',m,g⟩:=Qbn (items:=items) (src:=src) (b:=b) (body:=body) P d r (n+1) σ2 h2 i fun j x l σ h c=>by
   have:=f (j+1) x (by simpa using l) σ h (by rw[show n+(j+1)=n+1+j by lia];exact c);rw[show n+(j+1)+1=n+1+j+1 by exact E9 _ _ _]at this;exact this
  refine⟨a,h',?_,by rw[NM,show n+(r.length+1)=n+1+r.length by lia];exact g⟩;rw[JK,if_pos (d _ _ _ c),o,Ni]
  rcases e with e|e<;>rw[e]<;>exact m
noncomputable abbrev Pl:=Nat×Nat
noncomputable def Zs(q:Pl):W:=.tup [.int q.1,.int q.2]
abbrev Mn:=Str×Pl
def Jt(m:Mn):W:=.tup [.str m.1,Zs m.2]
@[simp]theorem Qq7:pur (Zs q)=true:=by simp[Zs]
@[simp]theorem QgY:pln (Zs q)=true:=by simp[Zs,pln,Yp]
@[simp]theorem Qor:pln (Jt m)=true:=by simp[Jt,pln,Yp]
theorem QgX:dep (Zs q)<=3:=by simp[Zs,dep,U3]
@[simp]theorem Qlf{ms:List Mn}:Yp (ms.map Jt)=true:=JE fun _=>Qor
@[simp]theorem Ql5{ms:List Mn}:ZZ (ms.map Jt)=true:=ZJ _ Qlf
abbrev mS(p:List Pt)(x3 x4 x5 x6 x7 x8 x9 x10:Option W):MSt:=[some (Q6 p),some (.ref 0),some (.ref 1),x3,x4,x5,x6,x7,x8,x9,x10]
theorem QaX{j:Nat}(d:x.2.length<=300)(q:D.length<=3000)(o:j<=10) :
  JN (mS p (some (.int j)) (some (Vf x)) none none none none none none) [Qv f,.lst (D.map Zs)]=some (.nx (mS p (some (.int j)) (some (Vf x)) none none none none none none) [Qv f,.lst ((D++(List.range (x.2.length+1)).map fun g=>(j,g)).map Zs)]):=by
 have e:Wi (Qa (Qe Zj (mFn JB (Qa (Qe wIx (Qb 4) (mC (.int 1))) Qc)) (mC (.int 1))) Qc) (mS p (some (.int j)) (some (Vf x)) none none none none none none) [Qv f,.lst (D.map Zs)]=some (Qt 0 (x.2.length+1),none,[Qv f,.lst (D.map Zs)]):=VP (by simp[Vf]) (by lia)
 have a:=Yc (fin:=Jn) (mi:=Wi (Qa (Qe Zj (mFn JB (Qa (Qe wIx (Qb 4) (mC (.int 1))) Qc)) (mC (.int 1))) Qc)) (cp:=[none,some 3]) (me:=mFn QU (Qa (Qb 1) (Qa (Qb 0) Qc))) (σ:=mS p (some (.int j)) (some (Vf x)) none none none none none none) (caps:=[some (.int j)]) (h:=[Qv f,.lst (D.map Zs)]) (items:=Qt 0 (x.2.length+1))
  (fun w=>.tup [.int j,w]) e ⟨_,rfl⟩ (fun w _=>by simp) (by rw[QcX];exact Xi (Nh d (by decide)))
 have i:(Qt 0 (x.2.length+1)).map (fun w=>W.tup [.int j,w])=((List.range (x.2.length+1)).map fun g=>(j,g)).map Zs:=by
  unfold Qt;simp[Zs,EZ]
 rw[i]at a;simp only[Jn]at a;have c:D.length+(x.2.length+1)<=sizeLine:=Xi (by lia);simp[a,c]
theorem QlO(hr:Kn 0 args=some (as,[n]))(q:h[n]?=some (Qv f))(e:m as [Qv f]=some (.ref (j+1),Qv i::g))(r:g[j]?=some (.lst c))(p:ZZ c=true):box frN m args h=some (.lst c,h.set n (Qv i)):=by
 have:=Yw (m:=m) (args:=args) (as:=as) (ns:=[n]) (os:=[Qv f]) (os':=[Qv i]) (g:=g) (h:=h) (w:=.ref (j+1)) (w':=.lst c) hr (by simp) (by simp[Zl,Wk (us:=[.int f.a,.int f.b]) q (by simp),Qv]) e rfl (fun o d=>by simp at d;subst d;exact⟨_,rfl,by simp⟩) (by
  unfold th res
  simp[Xn,r,ZW _ c p])
 simpa using this
theorem QdD{p:List Pt}{f:Fd}{PL:List Pl}{M:List Mn}{way:Nat}{one q:Pl}{wd:Str}{x3 x4 x5:Option W}(hw:way<=5)(l:M.length<=200000) :
  ∃(o:Fd) (j:List Mn),j.length<=M.length+1/\ZQ (mS p x3 x4 x5 (some (.int way)) (some (Zs one)) (some (.ref 2)) (some (.str wd)) (some (Zs q))) [Qv f,.lst (PL.map Zs),.lst (M.map Jt)]=some (.nx (mS p x3 x4 x5 (some (.int way)) (some (Zs one)) (some (.ref 2)) (some (.str wd)) (some (Zs q))) [Qv o,.lst (PL.map Zs),.lst (j.map Jt)]):=by
 have c:M.length<sizeLine:=Nh l (by decide);have app:M.map Jt++[Jt (wd,q)]=(M++[(wd,q)]).map Jt:=by simp
 have a:∀h,wEq (Zs q) (Zs one) h=some (.bl (eqW (Zs q) (Zs one)),h):=fun h=>Qn9 QgY QgY (Nn QgX (by decide)) (Nn QgX (by decide))
 by_cases b:way=0
 ·subst b;cases e:eqW (Zs q) (Zs one)with
  |true=>
   refine⟨f,M++[(wd,q)],by simp,?_⟩;rw[<-app];simp[a,e,c,Jt]
  |false=>
   refine⟨f,M,by exact Nv _ _,?_⟩;simp[a,e]
 ·by_cases n:way=1
  ·subst n;refine⟨f,M,by exact Nv _ _,?_⟩;simp
  ·obtain⟨s,r⟩:=Wq (f:=f) (m:=2+way) (by lia);have g1:(1:Int)<way:=by lia
   have g2:¬(way:Int)=0:=by lia
   have g3:(0:Int)<2+way:=by exact Lb s r
   have i:(2:Int)+way<1000000:=by lia
   have g:1<way:=by lia
   by_cases d:tk f (2+way)=0
   ·refine⟨tf f (2+way),M++[(wd,q)],by simp,?_⟩;rw[<-app];simp[g1,g2,g3,i,b,g,d,c,Jt]
   ·refine⟨tf f (2+way),M,by exact Nv _ _,?_⟩;simp[g1,g2,g3,i,b,g,d]
theorem Qfe{p:List Pt}{bs ws:List Str}(J:GoodP 300 bs ws p)(E:ws.length<=5)(f:Fd):∃(M:List Mn) (f':Fd),M.length<=100000/\∀(h:MH) (n:Nat),h[n]?=some (Qv f)->VS [Q6 p,.ref n] h=some (.lst (M.map Jt),h.set n (Qv f')):=by
 have G:=J.len;have T:=J.ne;obtain⟨Wd,Y,aa⟩:∃Wd:List Str,Wd.length<=63/\∀h:MH,QI [Q6 p] h=some (.lst (Wd.map .str),h):=⟨_,Nn (YW J E).2.1 (by decide),Y9 J E⟩
 have B:=Q3 (items:=Jo (p.map Vf)) (b:=Zb [3,4]) (body:=JN) (fun n o h=>∃(D:List Pl) (e d:Option W),o=mS p e d none none none none none none/\h=[Qv f,.lst (D.map Zs)]/\D.length<=301*n/\(0<n->D≠[]))
  (Jo (p.map Vf)) 0 (mS p none none none none none none none none) [Qv f,.lst []] ⟨[],none,none,rfl,rfl,by simp,by simp⟩ (by
   rintro j w z o h ⟨D,e,d,rfl,rfl,h1,h2⟩
   unfold Jo at z;rw[Np,Ff,Np]at z;obtain⟨q,S,rfl⟩:=Nd.mp z;obtain⟨y,hy,rfl⟩:=Nd.mp S;obtain⟨x,hx,rfl⟩:=Nd.mp hy;have H:=(Nf.mp hx).1;have R:=J.sz x (NC.mpr ⟨j,hx⟩);rw[NI]at *
   exact⟨mS p (some (.int j)) (some (Vf x)) none none none none none none,rfl,_,_,.inl (QaX R (by lia) (Nr (N4 (Nk H G) (by decide)))),_,_,_,rfl,rfl,by simp;lia,fun _=>by simp⟩)
 obtain⟨ah,h',e1,D,e,d,rfl,rfl,hD,s⟩:=B;have X:(Jo (p.map Vf)).length=p.length:=by simp[Jo]
 rw[X,NI]at hD s;have F:0<p.length:=Fp.mpr T;have al:0<D.length:=Fp.mpr (s F);obtain⟨a0,a1⟩:=Wq (f:=f) (m:=6) (by decide);obtain⟨c,C⟩:=Qda a0;have v:c<=5:=by lia
 obtain⟨b0,b1⟩:=Wq (f:=tf f 6) (m:=D.length) (by lia);obtain⟨N,U⟩:=Qda b0;have I:N<D.length:=by lia
 have t:atI (D.map Zs) (N:Int)=some (Zs D[N]):=by rw[QO,Np,Nl I];rfl
 generalize D[N]=one at t
 have u:=Q3 (items:=Wd.map .str) (b:=Q2 9) (body:=Xw) (fun n o h=>∃(f:Fd) (M:List Mn) (A a:Option W),o=mS p e d (some (.lst (Wd.map .str))) (some (.int c)) (some (Zs one)) (some (.ref 2)) A a/\h=[Qv f,.lst (D.map Zs),.lst (M.map Jt)]/\M.length<=D.length*n)
  (Wd.map .str) 0 (mS p e d (some (.lst (Wd.map .str))) (some (.int c)) (some (Zs one)) (some (.ref 2)) none none) [Qv (tf (tf f 6) D.length),.lst (D.map Zs),.lst []] ⟨_,[],none,none,rfl,rfl,by simp⟩ (by
   rintro j w z o h ⟨f1,M,A,a,rfl,rfl,hM⟩
   rw[Np]at z;obtain⟨r,Q,rfl⟩:=Nd.mp z;have H:=(Nf.mp Q).1;rw[NI]at *;refine⟨mS p e d (some (.lst (Wd.map .str))) (some (.int c)) (some (Zs one)) (some (.ref 2)) (some (.str r)) a,rfl,?_⟩;have hb:D.length*j<=1505*62:=IU (by lia) (by lia)
   have inner:=Qbn (items:=D.map Zs) (src:=some (.l 1)) (b:=Q2 10) (body:=ZQ) (fun n o h=>∃(f:Fd) (M':List Mn) (a:Option W),o=mS p e d (some (.lst (Wd.map .str))) (some (.int c)) (some (Zs one)) (some (.ref 2)) (some (.str r)) a/\h=[Qv f,.lst (D.map Zs),.lst (M'.map Jt)]/\M'.length<=M.length+n)
    (by rintro n o h ⟨f,M',a,rfl,rfl,_⟩ k hk;cases hk;rfl)
    (D.map Zs) 0 (mS p e d (some (.lst (Wd.map .str))) (some (.int c)) (some (Zs one)) (some (.ref 2)) (some (.str r)) a) [Qv f1,.lst (D.map Zs),.lst (M.map Jt)] ⟨f1,M,a,rfl,rfl,by exact Nv _ _⟩ (by
     rintro i w hi o h ⟨f2,M2,ab,rfl,rfl,ak⟩
     rw[Np]at hi;obtain⟨q,S,rfl⟩:=Nd.mp hi;have aj:=(Nf.mp S).1;obtain⟨Z,M3,l3,O⟩:=QdD (p:=p) (f:=f2) (PL:=D) (M:=M2) (way:=c) (one:=one) (q:=q) (wd:=r) (x3:=e) (x4:=d) (x5:=some (.lst (Wd.map .str))) v (by lia)
     exact⟨mS p e d (some (.lst (Wd.map .str))) (some (.int c)) (some (Zs one)) (some (.ref 2)) (some (.str r)) (some (Zs q)),rfl,_,_,.inl O,Z,M3,_,rfl,rfl,by lia⟩)
   obtain⟨af,h2,e2,f2,M2,P,rfl,rfl,l2⟩:=inner;rw[Nu,NI]at l2;refine⟨_,_,.inl ?_,f2,M2,some (.str r),P,rfl,rfl,by rw[Nat.mul_add];lia⟩
   have ei:∀a (h:MH),h[1]?=some (.lst (D.map Zs))->Qo (Qb 2) (mS p e d (some (.lst (Wd.map .str))) (some (.int c)) (some (Zs one)) (some (.ref 2)) (some (.str r)) a) h=some (D.map Zs,some (.l 1),h):=fun _ h he=>by
    unfold Qo Qb;simp[QbE,he]
   show Zm (Qo (Qb 2)) (Q2 10) ZQ _ _=_;unfold Zm;rw[ei _ _ rfl,Ni]
   exact e2)
 obtain⟨ae,h3,O,Z,M,A,a,rfl,rfl,hM⟩:=u;rw[Nu,NI]at hM;have hb:D.length*Wd.length<=1505*63:=IU (by lia) Y;refine⟨M,Z,by lia,fun h n hn=>?_⟩;refine QlO (j:=1) (g:=[.lst (D.map Zs),.lst (M.map Jt)]) (as:=[Q6 p,.ref 0]) (by simp[Kn,Q6]) hn ?_ rfl Ql5
 have ei:QbM (Qa (Qb 0) Qc) (mS p none none none none none none none none) [Qv f,.lst []]=some (Jo (p.map Vf),none,[Qv f,.lst []]):=by
  unfold QbM;simp[Q6]
 have g1:(0:Int)<D.length:=by exact Lb b0 b1
 have g2:(D.length:Int)<1000000:=by lia
 have et:=U6 (f:=tf f 6) (m:=D.length) (h:=[Qv (tf f 6),.lst (D.map Zs)]) (n:=0) g1 g2 rfl;have L:∀A a (h:MH),Qo (Qb 5) (mS p e d (some (.lst (Wd.map .str))) (some (.int c)) (some (Zs one)) (some (.ref 2)) A a) h=some (Wd.map .str,none,h):=fun _ _ _=>rfl;simp only[mS]at ei e1 L O;simp[Vb,Qz,Zm,ei,e1,aa,C,U,et,t,L,O]
theorem Gd{mt:MT}{h:MH}(d:live src items h)(P:MSt->Prop)(g:W->Bool)(f:W->W):∀(rest a:List W) (e:MSt),P e->(∀w∈rest,∀e,P e->∃c,b w e h=some c/\P c/\mt c h=some (g w,h)/\(g w=true->me c h=some (f w,h)))->a.length+rest.length<=sizeLine->ZM fin items src b mt me rest a e h=fin (a++(rest.filter g).map f) h
 |[],a,e,_,_,_=>by unfold ZM;rw[if_pos d];simp
 | w::rest,a,e,n,j,p=>by
  have o:a.length+(rest.length+1)<=sizeLine:=by simpa using p
  obtain⟨c,s,m,r,q⟩:=j w NA e n;unfold ZM;rw[if_pos d,s,Ni,r,Ni];cases l:g w with
  |true=>
   simp only[q l,Ni];rw[if_pos (by lia),Gd d P g f rest (a++[f w]) c m (fun x i=>j x (Ny _ i)) (by simp;lia)];simp[l]
  |false=>
   simp only;rw[Gd d P g f rest a c m (fun x i=>j x (Ny _ i)) (by lia)];simp[l]
theorem Qim{b:MG}{mt:MT}{me:ME}{σ:MSt}{h:MH}(P:MSt->Prop)(g:W->Bool)(f:W->W)(j:mi σ h=some (items,src,h))(c:live src items h)(l:P (QfM cp σ))(e:∀w∈items,∀d,P d->∃a,b w d h=some a/\P a/\mt a h=some (g w,h)/\(g w=true->me a h=some (f w,h)))(i:items.length<=sizeLine):QN fin mi cp b mt me σ h=fin ((items.filter g).map f) h:=by
 unfold QN;rw[j,Ni,Gd c P g f items [] _ l e (by simpa using i)];simp
def mdS(p:List Pt)(s:Spt):Option Str:=if s.head=true then none else(p[s.part]?).bind fun x=>(x.2[s.k]?).bind wdL
noncomputable def Y4:Option Str->W
 |some w=>.str w
 |none=>.non
@[simp]theorem Qqy:pur (Y4 o)=true:=by cases o<;>simp[Y4]
noncomputable def gn(M:List Mn)(s:Spt):List Str:=if s.head=true then[]else(M.filter fun m=>m.2=(s.part,s.k)).map (·.1)
theorem Qew{p:List Pt}{N:Nat}{bs ws:List Str}{s:Spt}{h:MH}(z:GoodP N bs ws p)(u:SV p s):Zn [Q6 p,Ql s] h=some (Y4 (mdS p s),h):=by
 obtain⟨q,part,k,head⟩:=s;obtain⟨x,i,v,_⟩:=u.ex;simp only at i v;have j:=Ys i;refine Qr (g:=[]) (by simp) ?_ (by simp);unfold mdS;simp only[i,Ni];cases head with
 |true=>simp[Zy,Qz,Ql,j,Y4]
 | false=>
  by_cases n:k=x.2.length
  ·have B:x.2[k]?=none:=by rw[n];simp
   have t:¬k<x.2.length:=by exact NU.mpr (Nt n.symm)
   simp[Zy,Qz,Ql,j,B,t,Y4]
  ·have e:k<x.2.length:=by lia
   obtain⟨l,d⟩:∃l,x.2[k]?=some l:=⟨x.2[k],Nl e⟩
   have f:=z.ok part x i l (NC.mpr ⟨k,d⟩);obtain⟨y,r,rfl⟩:=JJ f;have o:=Qaw d;rw[d,Ni]
   by_cases m:y="pair"
   ·subst m;obtain⟨a,w,b,c,rfl⟩:=QhE f;have A:∀h,wIx (QH ["pair",a,w,b,c]) (.int 2) h=some (.str w,h):=fun h=>by simp[QH]
    simp[Zy,Qz,Ql,j,e,o,A,wdL,Y4]
   ·have:=Qbe (r:=r) m;simp[Zy,Qz,Ql,j,e,o,m,this,Y4]
theorem Qbq(l:M.length<=100000):Zc [.lst (M.map Jt),Ql s] h=some (.lst ((gn M s).map .str),h):=by
 obtain⟨c,part,k,head⟩:=s;refine Qr (g:=[]) (by simp) ?_ (by simp);unfold gn;cases head with
 |true=>simp[Jz,Qz,Ql]
 | false=>
  have e:=Qim (fin:=Jn) (mi:=Qo (Qb 0)) (cp:=[none,none,some 1]) (b:=Zb [0,1]) (mt:=Qj (Qe wEq (Qb 1) (mSl (Qb 2) (Ju (mC (.int 1))) (Ju (mC (.int 3)))))) (me:=Qb 0) (σ:=[some (.lst (M.map Jt)),some (Ql ⟨c,part,k,false⟩)]) (h:=[]) (items:=M.map Jt) (src:=none)
   (fun i=>∃a b,i=[a,b,some (Ql ⟨c,part,k,false⟩)]) (fun w=>match w with|.tup [_,q]=>eqW q (Zs (part,k))|_=>false) Qjh rfl (QA _ _) ⟨_,_,rfl⟩ (fun w hw i ⟨a,b,f⟩=>by
    subst f;obtain⟨m,x,rfl⟩:=NL.mp hw;refine⟨[some (.str m.1),some (Zs m.2),some (Ql ⟨c,part,k,false⟩)],rfl,⟨_,_,rfl⟩,?_,fun _=>by simp[Jt,Qjh]⟩;have r:∀h,wEq (Zs m.2) (.tup [.int part,.int k]) h=some (.bl (eqW (Zs m.2) (Zs (part,k))),h):=fun h=>Qn9 QgY (QgY (q:=(part,k))) (Nn QgX (by decide)) (Nn (QgX (q:=(part,k))) (by decide))
    simp[Ql,Jt,Ux,HT.sIx,r]) (by simp;exact Xi (Nr (Nh l (by decide))))
  have p:((M.map Jt).filter (fun w=>match w with|.tup [_,q]=>eqW q (Zs (part,k))|_=>false)).map Qjh=((M.filter fun m=>m.2=(part,k)).map (·.1)).map W.str:=by
   clear e l
   induction M with
   |nil=>rfl
   | cons m M d=>
    have o:eqW (Zs m.2) (Zs (part,k))=decide (m.2=(part,k)):=by
     obtain⟨w,a,b⟩:=m;rw[EL];simp[Zs,eqW,XG];lia
    rw[Nw,Ig,Ig];simp only[Jt,o]at d ⊢
    by_cases j:m.2=(part,k)
    ·simp[j]at d ⊢;exact⟨rfl,d⟩
    ·simp[j]at d ⊢;exact d
  rw[p]at e;simp only[Jn]at e;simp[Jz,Qz,Ql]at e ⊢;rw[e];rfl
section
variable{ι κ:Type}[DecidableEq κ]
noncomputable def wa(M:List (ι×κ))(q:κ):List ι:=(M.filter fun m=>m.2=q).map (·.1)
theorem YB{q:κ}:wa (M++[m]) q=if m.2=q then wa M q++[m.1]else wa M q:=by
 unfold wa;rw[List.filter_append,N6]
 by_cases h:m.2=q<;>simp[h]
structure WB(M:List (ι×κ))(G:List (κ×Nat))(Ls:List (List ι)):Prop where
 nk:(G.map (·.1)).Nodup
 ni:(G.map (·.2)).Nodup
 at_:∀g∈G,Ls[g.2]?=some (wa M g.1)
 all:∀m∈M,m.2∈G.map (·.1)
theorem Qh5{G:List (κ×Nat)}(b:(G.map (·.1)).Nodup)(a:g∈G)(c:g.1=q):(G.find? fun g=>decide (g.1=q))=some g:=by
 induction G with
 |nil=>cases a
 |cons x G d=>
  rw[Nw,EB]at b;rw[NK]
  rcases NE.mp a with rfl|a
  ·simp[c]
  ·have:¬x.1=q:=fun z=>b.1 (by rw[z,<-c];exact Ee a);simp only[this,decide_false];exact d b.2 a
theorem Qci{G:List (κ×Nat)}(h:q∉G.map (·.1)):(G.find? fun g=>decide (g.1=q))=none:=by
 rw[DY];intro g a;simp;exact fun z=>h (by rw[<-z];exact Ee a)
theorem Qiy(I:WB M G Ls){q:κ}(h:q∉G.map (·.1)):wa M q=[]:=by
 unfold wa;rw[IS,F7];intro m a;simp;exact fun z=>h (by rw[<-z];exact I.all m a)
theorem WB.step(I:WB M G Ls)(m:ι×κ) :
  (∃g∈G,g.1=m.2/\g.2<Ls.length/\WB (M++[m]) G ((Ls++[[]]).set g.2 (wa M m.2++[m.1]))/\(Ls++[[]])[g.2]?=some (wa M m.2)) \/
  (m.2∉G.map (·.1)/\WB (M++[m]) (G++[(m.2,Ls.length)]) ((Ls++[[]]).set Ls.length [m.1])):=by
 by_cases n:m.2∈G.map (·.1)
 ·obtain⟨g,o,r⟩:=NL.mp n;have u:=I.at_ g o;have s:=(Nf.mp u).1;refine .inl ⟨g,o,r,s,⟨I.nk,I.ni,fun x f=>?_,fun x f=>?_⟩,by rw[NO s,u,r]⟩
  ·have d:=I.at_ x f;have c:=(Nf.mp d).1
   by_cases e:x=g
   ·subst e;rw[E4 (by simp;exact Nk c (Nv _ _)),YB,if_pos r.symm,r]
   ·have ne:g.2≠x.2:=fun z=>e (by
     obtain⟨i,y,ei⟩:=EU.mp f;obtain⟨j,w,v⟩:=EU.mp o;have:=(Ic (i:=i) (j:=j) (h₀:=by simpa using y) (h₁:=by simpa using w) I.ni).mp (by simp[ei,v,z]);subst this
     rw[<-ei,<-v])
    have l:¬m.2=x.1:=fun z=>e (by
     obtain⟨i,y,ei⟩:=EU.mp f;obtain⟨j,w,v⟩:=EU.mp o;have:=(Ic (i:=i) (j:=j) (h₀:=by simpa using y) (h₁:=by simpa using w) I.nk).mp (by simp[ei,v,<-z,r]);subst this
     rw[<-ei,<-v])
    rw[Da ne,NO c,d,YB,if_neg l]
  ·rcases NT.mp f with h|h
   ·exact I.all x h
   ·rw[NF.mp h];exact n
 ·refine .inr ⟨n,⟨?_,?_,fun x f=>?_,fun x f=>?_⟩⟩
  ·rw[N6,Ek];exact⟨I.nk,by simp,fun a A b t=>by simp at t;subst t;exact fun z=>n (by rw[<-z];exact A)⟩
  ·rw[N6,Ek];refine⟨I.ni,by simp,fun a A b t=>?_⟩;simp at t;subst t;obtain⟨g,o,rfl⟩:=NL.mp A;have:=(Nf.mp (I.at_ g o)).1;exact NG this
  ·rcases NT.mp f with h|h
   ·have d:=I.at_ x h;have c:=(Nf.mp d).1;have l:¬m.2=x.1:=fun z=>n (by rw[z];exact Ee h);rw[Da (EO c),NO c,d,YB,if_neg l]
   ·rw[NF.mp h];show((Ls++[[]]).set Ls.length [m.1])[Ls.length]?=some (wa (M++[m]) m.2);rw[E4 (by simp),YB,if_pos rfl,Qiy I n];rfl
  ·rcases NT.mp f with h|h
   ·have:=I.all x h;simp at this ⊢;exact .inl this
   ·rw[NF.mp h];simp
end
theorem Qqz:eqW (Wu a) (Wu b)=decide (a=b):=by
 obtain⟨e,d⟩:=a;obtain⟨b1,c⟩:=b;simp only[Wu,eqW,XG,Fi,Yax];rw[EL];simp only[NJ,beq_iff_eq,decide_eq_true_eq];lia
theorem Qlq:∀{a b:List (Nat×Nat)},XG (a.map Wu) (b.map Wu)=decide (a=b)
 |[],[]=>by simp[XG]
 |[],_::_=>by simp[XG]
 |_::_,[]=>by simp[XG]
 |x::xs,y::c=>by
  rw[Nw,Nw,XG,Qqz,Qlq,EL];simp
theorem Qo1:eqW (Ql a) (Ql b)=decide (a=b):=by
 obtain⟨f,h,j,m⟩:=a;obtain⟨e,g,i,l⟩:=b;simp only[Ql,eqW,XG,Fi,Qlq];rw[EL];simp only[NJ,beq_iff_eq,decide_eq_true_eq,Spt.mk.injEq];constructor
 ·rintro⟨a,b,c,d⟩
  exact⟨a,by lia,by lia,d⟩
 ·rintro⟨a,b,c,d⟩
  exact⟨a,by lia,by lia,d⟩
section
variable{bs ws:List Str}{p:List Pt}
theorem Qcv{met st out:List Spt}(d:Dfs p met st n out):(∀s∈met,∀t∈nx p s,t∈met\/t∈st)->∀s∈out,∀t∈nx p s,t∈out:=by
 induction d with
 |done=>intro h s c t a;rcases h s c t a with z|z;exact z;cases z
 | @skip met st out s n h d b=>
  intro H;refine b fun u hu t a=>?_
  rcases H u hu t a with z|z
  ·exact .inl z
  ·rcases NE.mp z with rfl|z
   ·exact .inl h
   ·exact .inr z
 | @add met st out s n h d b=>
  intro H;refine b fun u hu t a=>?_
  rcases NT.mp hu with hu|hu
  ·rcases H u hu t a with z|z
   ·exact .inl (El _ z)
   ·rcases NE.mp z with rfl|z
    ·exact .inl (by simp)
    ·exact .inr (NR _ z)
  ·rw[NF.mp hu]at a;exact .inr (El _ a)
theorem Qkz{met st out:List Spt}(d:Dfs p met st n out):(∀s∈met,s∈out)/\∀s∈st,s∈out:=by
 induction d with
 |done=>exact⟨fun _ h=>h,fun _ h=>by cases h⟩
 |@skip met st out s n h d b=>exact⟨b.1,fun t a=>by rcases NE.mp a with rfl|a;exact b.1 _ h;exact b.2 t a⟩
 |@add met st out s n h d b=>exact⟨fun t a=>b.1 t (El _ a),fun t a=>by rcases NE.mp a with rfl|a;exact b.1 _ (by simp);exact b.2 t (NR _ a)⟩
structure Al(p:List Pt)(out:List Spt):Prop where
 few:out.length<=280010
 pos:0<out.length
 nd:out.Nodup
 rc:∀s∈out,Rc p s
 cl:∀s∈out,∀t∈nx p s,t∈out
 s:∀h:MH,Jj [Q6 p] h=some (.lst (out.map Ql),h)
 a:∀h:MH,Jq [Q6 p,ZH p] h=some (.lst (out.map Ql),h)
 nx2:∀s∈out,(nx p s).length<=2/\(∀h:MH,QC [Q6 p,Ql s] h=some (.lst ((nx p s).map Ql),h))/\∀h:MH,Q7 [Q6 p,ZH p,Ql s] h=some (.lst ((nx p s).map Ql),h)
theorem QnN(a:GoodP 700 bs ws p):∃out,Al p out:=by
 obtain⟨n,out,d,h,b,f,c,e⟩:=QfR a;refine⟨out,b,Dr ((Qkz d).2 sp0 (by simp)),f,c,Qcv d (by simp),e,Qc2 a d h,fun s g=>?_⟩;obtain⟨l,_,_,j,i⟩:=QeF a (c s g);exact⟨l,j,i⟩
noncomputable def ixS(out:List Spt)(t:Spt):Nat:=out.idxOf t
def sq(out:List Spt)(q:Nat):Spt:=out.getD q sp0
theorem Qho(h:q<out.length):out[q]?=some (sq out q):=by
 unfold sq;rw[EH,Nl h];rfl
theorem WR(h:q<out.length):sq out q∈out:=NC.mpr ⟨q,Qho h⟩
theorem Qc4(h:t∈out):ixS out t<out.length:=List.idxOf_lt_length_of_mem h
theorem Qk7(h:t∈out):(out.map Ql).findIdx? (fun y=>eqW y (Ql t))=some (ixS out t):=by
 induction out with
 |nil=>cases h
 | cons s out a=>
  rw[Nw,List.findIdx?_cons];unfold ixS at a ⊢
  by_cases e:s=t
  ·subst e;simp[Qo1]
  ·have:eqW (Ql s) (Ql t)=false:=by rw[Qo1];simpa using e
   rw[this,Yau];have b:(s==t)=false:=by simpa using e
   rw[a (by rcases NE.mp h with z|z;exact absurd z.symm e;exact z),b];rfl
theorem Qj4(a:t∈out):XC (.lst (out.map Ql)) [Ql t] h=some (.int (ixS out t),h):=by
 unfold XC;simp only[lsW,Ni];rw[Xj h (Ql t) 40 QiD (Nn QmB (by decide)),JW h _ 40 Qef (Nn QiF (by decide)),Ni,Ni,Qk7 a];rfl
def Ed(p:List Pt)(out:List Spt)(q:Nat):List (Nat×Nat):=(nx p (sq out q)).map fun t=>(q,ixS out t)
def Eg(p:List Pt)(out:List Spt)(n:Nat):List (Nat×Nat):=(List.range n).flatMap (Ed p out)
theorem Qfs:Eg p out (n+1)=Eg p out n++Ed p out n:=by
 unfold Eg;rw[Fx];simp
theorem Qbt(A:Al p out)(h:n<=out.length):(Eg p out n).length<=2*n:=by
 have:=UJ (f:=Ed p out) (n:=2) (List.range n) fun q a=>by
  unfold Ed;rw[Nu];exact(A.nx2 _ (WR (by have:=Ez.mp a;exact Nk this h))).1
 rwa[EJ]at this
theorem Qdj[DecidableEq κ]{M:List (a×κ)}:(wa M q).length<=M.length:=by unfold wa;rw[Nu];exact Of _ _
noncomputable def KC(q:Nat):W:=.int q
@[simp]theorem QpL{l:List Nat}:ZZ (l.map KC)=true:=by
 induction l with
 |nil=>rfl
 |cons n l a=>simp[KC];exact a
def hA(N:Nat)(L:List (Nat×Nat)):MH:=(List.range N).map fun m=>.lst ((wa L m).map KC)
theorem QeA(h:m<N):(hA N L)[m]?=some (.lst ((wa L m).map KC)):=by
 unfold hA;rw[Np,Em h];rfl
theorem QkT{N q i:Nat}(h:i<N):(hA N L).set i (.lst ((wa L i).map KC++[.int q]))=hA N (L++[(q,i)]):=by
 apply Dh;intro m;rw[FW];have b:(hA N L).length=N:=by simp[hA]
 by_cases e:i=m
 ·subst e;rw[if_pos rfl,if_pos (Nk h (Nt b.symm)),QeA h,YB,if_pos rfl];simp[KC]
 ·rw[if_neg e]
  by_cases a:m<N
  ·rw[QeA a,QeA a,YB,if_neg e]
  ·rw[NY (Nn (Nt b) (NU.mp a)),NY (by simp[hA];exact NU.mp a)]
abbrev sA(p:List Pt)(out:List Spt)(x4 x5:Option W):MSt:=[some (Q6 p),some (ZH p),some (.lst (out.map Ql)),some (.lst ((List.range out.length).map .ref)),x4,x5]
theorem QgQ(h:i<N):atI ((List.range N).map W.ref) (i:Int)=some (.ref i):=by rw[QO,Np,Em h];rfl
theorem QmV{q:Nat}(h:q<out.length):atI (out.map Ql) (q:Int)=some (Ql (sq out q)):=by rw[QO,Np,Qho h];rfl
theorem Qb8{out:List Spt}(A:Al p out)(h:MH):Za [Q6 p,ZH p,.lst (out.map Ql)] h=some (.lst ((List.range out.length).map fun m=>.lst ((wa (Eg p out out.length) m).map KC)),h):=by
 have y:=A.few
 have e0:∀f:MSt,f[2]?=some (some (.lst (out.map Ql)))->QN Jn (Qo (Qb 2)) [none] (Q2 0) Kl (mFn Yq Qc) f []=some (.lst ((List.range out.length).map .ref),hA out.length []):=by
  intro f E;unfold QN;have G:Qo (Qb 2) f []=some (out.map Ql,none,[]):=by unfold Qo Qb;rw[E];rfl
  rw[G,Ni]
  obtain⟨c,C,Q,e,⟨z,M⟩,l⟩:=Qb3 (fin:=Jn) (items:=out.map Ql) (b:=Q2 0) (me:=mFn Yq Qc) (fun(c:List Nat) (C:MSt) (h:MH)=>(c=List.range c.length/\h=List.replicate c.length (.lst []))/\∃a,C=[a]) W.ref (out.map Ql) [] [none] [] ⟨⟨rfl,rfl⟩,_,rfl⟩ (by simp;exact Xi (Nr (Nh y (by decide)))) (by
   rintro w _ c C h ⟨⟨h1,rfl⟩,a,rfl⟩
   refine⟨[some w],c.length,List.replicate c.length (.lst [])++[.lst []],rfl,by simp,⟨?_,?_⟩,_,rfl⟩
   ·rw[NH,NZ,Fx]<;>rw[<-h1]
   ·simp[List.replicate_succ'])
  rw[EG]at e;simp only[Fv,NI,Nu]at l;have e':=e.trans (show Jn (c.map W.ref) Q=_ by rw[z.1,z.2,l])
  have:hA out.length []=List.replicate out.length (MO.lst []):=by
   unfold hA;simp only[wa,List.filter_nil,EG];rw[Yat,EJ]
  rw[this];exact e'
 have u:=Q3 (items:=Qt 0 out.length) (b:=Q2 4) (body:=Xy) (fun n f h=>∃(s d:Option W),f=sA p out s d/\h=hA out.length (Eg p out n))
  (Qt 0 out.length) 0 (sA p out none none) (hA out.length []) ⟨none,none,rfl,rfl⟩ (by
   rintro j w B f h ⟨s,d,rfl,rfl⟩
   rw[NI]at *
   obtain⟨o,rfl⟩:j<out.length/\w=.int j:=by
    have:=(Nf.mp B).1;unfold Qt at this B;rw[Nu,EJ]at this;rw[Np,Em this]at B;exact⟨this,by simpa using(NS B).symm⟩
   refine⟨sA p out (some (.int j)) d,rfl,?_⟩;have P:=WR o;obtain⟨n2,_,en⟩:=A.nx2 _ P
   have inner:=Q3 (items:=(nx p (sq out j)).map Ql) (b:=Q2 5) (body:=J8) (fun n f h=>∃(d:Option W),f=sA p out (some (.int j)) d/\h=hA out.length (Eg p out j++((nx p (sq out j)).take n).map fun t=>(j,ixS out t)))
    ((nx p (sq out j)).map Ql) 0 (sA p out (some (.int j)) d) (hA out.length (Eg p out j)) ⟨d,rfl,by simp⟩ (by
     rintro i w G f h ⟨N,rfl,rfl⟩
     rw[NI,Np]at *;obtain⟨t,O,rfl⟩:=Nd.mp G;have v:=A.cl _ P t (NC.mpr ⟨i,O⟩);refine⟨sA p out (some (.int j)) (some (Ql t)),rfl,sA p out (some (.int j)) (some (Ql t)),_,.inl ?_,_,rfl,rfl⟩;have et:(Eg p out j++((nx p (sq out j)).take (i+1)).map fun t=>(j,ixS out t))=(Eg p out j++((nx p (sq out j)).take i).map fun t=>(j,ixS out t))++[(j,ixS out t)]:=by rw[Dq,O];simp
     rw[et];have aa:=Qbt A (n:=j) (Nr o);generalize hL:(Eg p out j++((nx p (sq out j)).take i).map fun t=>(j,ixS out t))=L;have H:L.length<=600000:=by rw[<-hL,NH,Nu,Ei];lia
     have D:=Qc4 v;have R:=QeA (L:=L) D;have es:=QkT (q:=j) (L:=L) D;have ei:=Qj4 (h:=hA out.length L) v;have I:=QgQ D;have U:(wa L (ixS out t)).length<sizeLine:=Nh (Nn Qdj H) (by decide);have J:∀(h:ixS out t<(hA out.length L).length),(hA out.length L)[ixS out t]=.lst ((wa L (ixS out t)).map KC):=fun h=>(Nf.mp R).2
     simp[ei,I,R,J,U,es,tyW])
   obtain⟨S,h2,M,N,rfl,rfl⟩:=inner;rw[Nu,NI,Ew]at M;refine⟨sA p out (some (.int j)) N,hA out.length (Eg p out (j+1)),.inl ?_,_,_,rfl,rfl⟩;rw[Qfs]
   have ei:Qo (Qi 3 Q7 (Qa (Qb 0) (Qa (Qb 1) (Qa (Qe wIx (Qb 2) (Qb 4)) Qc)))) (sA p out (some (.int j)) d) (hA out.length (Eg p out j))=some ((nx p (sq out j)).map Ql,none,hA out.length (Eg p out j)):=by
    unfold Qo;simp[QmV o,en];rfl
   show Zm _ (Q2 5) J8 _ _=_;unfold Zm;rw[ei,Ni]
   exact M)
 obtain⟨T,Q,z,s,d,rfl,rfl⟩:=u;have F:(Qt 0 out.length).length=out.length:=by simp[Qt]
 rw[F,NI]at z;have I:∀s d,Wi (Qa (mFn JB (Qa (Qb 2) Qc)) Qc) (sA p out s d) (hA out.length [])=some (Qt 0 out.length,none,hA out.length []):=fun s d=>VP (by simp) (Nh y (by decide))
 have e:Ze [Q6 p,ZH p,.lst (out.map Ql)] []=some (.lst ((List.range out.length).map .ref),hA out.length (Eg p out out.length)):=by
  have Y:=e0 [some (Q6 p),some (ZH p),some (.lst (out.map Ql)),none,none,none] rfl;have X:=I none none;simp[Ze,Qz,Zm,Y,X,z]
 have:=Yw (m:=Ze) (args:=[Q6 p,ZH p,.lst (out.map Ql)]) (as:=[Q6 p,ZH p,.lst (out.map Ql)]) (ns:=[]) (os:=[]) (os':=[]) (g:=hA out.length (Eg p out out.length)) (h:=h) (w':=.lst ((List.range out.length).map fun m=>.lst ((wa (Eg p out out.length) m).map KC))) (X3 (by simp)) (by simp) rfl e rfl (by simp) (by
  unfold th;rw[DX]
  have key:∀(r:List Nat),(∀m∈r,m<out.length)->ths (res (Xn [] [] h.length) (hA out.length (Eg p out out.length)) 3) (r.map .ref)=some (r.map fun m=>.lst ((wa (Eg p out out.length) m).map KC)):=by
   intro r
   induction r with
   |nil=>intro _;rfl
   | cons m r ih=>
    intro hr;rw[Nw,Nw,ths,ih fun x hx=>hr x (Ny _ hx)]
    have:th (res (Xn [] [] h.length) (hA out.length (Eg p out out.length)) 3) (.ref m)=some (.lst ((wa (Eg p out out.length) m).map KC)):=by
     unfold th res;simp[Xn,QeA (L:=Eg p out out.length) (hr m NA),ZW]
    rw[this];rfl
  rw[key _ fun m hm=>Ez.mp hm]
  rfl)
 show box frN Ze _ _=_;simpa[Qu]using this
end
noncomputable def trQ(q:Pl):Tr:=.t [.i q.1,.i q.2]
@[simp]theorem QcD:nrm (Zs q)=some (trQ q):=by
 show Wm 8 (.tup [.int q.1,.int q.2])=_;simp only[Wm,Dn,Lf];rfl
theorem QaW(h:trQ a=trQ b):a=b:=by
 unfold trQ at h;injection h with h
 simp at h;exact Prod.ext (by have:=h.1;lia) (by have:=h.2;lia)
abbrev Gs:=List (Pl×Nat)
def dG(G:Gs):List (W×W):=G.map fun g=>(Zs g.1,.ref (g.2+1))
def hG(G:Gs)(Ls:List (List Str)):MH:=.dct (dG G)::Ls.map fun l=>.lst (l.map .str)
theorem QiG:KM (dG G) (trQ q)=(G.find? fun g=>decide (g.1=q)).map fun g=>.ref (g.2+1):=by
 unfold KM dG
 induction G with
 |nil=>rfl
 |cons g G a=>
  rw[Nw,NK,NK]
  by_cases h:g.1=q
  ·simp[h]
  ·have:¬trQ g.1=trQ q:=fun z=>h (QaW z);simp only[QcD,FZ,this,h,decide_false];exact a
noncomputable abbrev yS(mn:W)(x2 x3:Option W):MSt:=[some mn,some (.ref 0),x2,x3]
theorem QdA:hG G Ls++[.lst []]=hG G (Ls++[[]]):=by simp[hG]
theorem QdF:(hG G Ls).length=Ls.length+1:=by simp[hG]
theorem Qif:(hG G Ls).set (i+1) (.lst (l.map .str++[.str w]))=hG G (Ls.set i (l++[w])):=by
 simp[hG,List.map_set]
theorem QjQ(h:Ls[i]?=some l):(hG G Ls)[i+1]?=some (.lst (l.map .str)):=by
 show(Ls.map fun l=>MO.lst (l.map .str))[i]?=_;rw[Np,h];rfl
theorem QcZ(I:WB M G Ls)(m:Mn)(f:G.length<=100000)(z:M.length<=100000) :
  ∃p b,WB (M++[m]) p b/\p.length<=G.length+1/\b.length=Ls.length+1/\ZX (yS mn (some (.str m.1)) (some (Zs m.2))) (hG G Ls)=some (.nx (yS mn (some (.str m.1)) (some (Zs m.2))) (hG p b)):=by
 have u:∀q,(wa M q).length<sizeLine:=fun q=>Nh (Nn (by unfold wa;rw[Nu];exact Of _ _) z) (by decide);have B:∀G Ls,(hG G Ls)[0]?=some (.dct (dG G)):=fun _ _=>rfl;have c:∀G Ls (h:0<(hG G Ls).length),(hG G Ls)[0]=.dct (dG G):=fun _ _ _=>rfl;have s:∀G Ls,Y1 (hG G Ls) (.ref 0)=some (dG G):=fun _ _=>rfl
 have C:Yq [] (hG G Ls)=some (.ref (Ls.length+1),hG G (Ls++[[]])):=by
  show some (W.ref (hG G Ls).length,hG G Ls++[.lst []])=_;rw[QdF,QdA]
 rcases I.step m with⟨g,A,x,y,o,e⟩|⟨r,o⟩
 ·refine⟨G,_,o,by exact Nv _ _,by simp,?_⟩
  have j:QfJ (.ref 0) [Zs m.2,.ref (Ls.length+1)] (hG G (Ls++[[]]))=some (.ref (g.2+1),hG G (Ls++[[]])):=by
   unfold QfJ;simp only[s,QcD,Ni,QiG,Qh5 I.nk A x,Ef]
  have d:=QjQ (G:=G) e;have a:=Qif (G:=G) (Ls:=Ls++[[]]) (i:=g.2) (l:=wa M m.2) (w:=m.1);simp[QdF,QdA,j,d,a,u,tyW,c]
 ·refine⟨_,_,o,by simp,by simp,?_⟩;have v:(dG G).length<sizeLine:=Nh (by simpa[dG]using f) (by decide)
  have j:QfJ (.ref 0) [Zs m.2,.ref (Ls.length+1)] (hG G (Ls++[[]]))=some (.ref (Ls.length+1),hG (G++[(m.2,Ls.length)]) (Ls++[[]])):=by
   unfold QfJ;simp only[s,QcD,Ni,QiG,Qci r,LP];unfold Ko;simp only[B,QcD,Ni];rw[if_pos v]
   have:Qby (dG G) (trQ m.2) (Zs m.2) (.ref (Ls.length+1))=dG (G++[(m.2,Ls.length)]):=by
    unfold Qby;rw[QiG,Qci r];simp[dG]
   rw[this];rfl
  have d:=QjQ (G:=G++[(m.2,Ls.length)]) (Ls:=Ls++[[]]) (i:=Ls.length) (l:=[]) (by simp);have a:=Qif (G:=G++[(m.2,Ls.length)]) (Ls:=Ls++[[]]) (i:=Ls.length) (l:=[]) (w:=m.1);simp only[EG,DX]at a d;have t:0<sizeLine:=by decide
  have n:∀(h:Ls.length+1<(hG (G++[(m.2,Ls.length)]) (Ls++[[]])).length),(hG (G++[(m.2,Ls.length)]) (Ls++[[]]))[Ls.length+1]=.lst []:=fun h=>(Nf.mp d).2;simp[QdF,QdA,j,n,a,t,tyW,c]
def dP(M:List Mn)(P:List Pl):List (W×W):=P.map fun q=>(Zs q,.lst ((wa M q).map .str))
theorem QoC(a:∀m∈M,m.2∈P):(KM (dP M P) (trQ q)).getD (.lst [])=.lst ((wa M q).map .str):=by
 by_cases h:q∈P
 ·have:KM (dP M P) (trQ q)=some (.lst ((wa M q).map .str)):=by
   clear a;unfold KM dP
   induction P with
   |nil=>cases h
   |cons x P b=>
    rw[Nw,NK]
    by_cases e:x=q
    ·subst e;simp
    ·have:¬trQ x=trQ q:=fun z=>e (QaW z);simp only[QcD,FZ,this,decide_false];exact b (by rcases NE.mp h with z|z;exact absurd z.symm e;exact z)
  rw[this];rfl
 ·have f:wa M q=[]:=by
   unfold wa;rw[IS,F7];intro m g;simp;exact fun z=>h (by rw[<-z];exact a m g)
  have:KM (dP M P) (trQ q)=none:=by
   unfold KM dP;rw[F8,DY];intro x d;obtain⟨y,c,rfl⟩:=NL.mp d;simp;exact fun z=>h (by rw[<-QaW z];exact c)
  rw[this,f];rfl
theorem Qbl(t:M.length<=100000):∃P:List Pl,(∀m∈M,m.2∈P)/\∀h:MH,Jv [.lst (M.map Jt)] h=some (.ref h.length,h++[.dct (dP M P)]):=by
 have d:=Q3 (items:=M.map Jt) (b:=Zb [2,3]) (body:=ZX) (fun n r h=>∃(G:Gs) (Ls:List (List Str)) (p o:Option W),r=yS (.lst (M.map Jt)) p o/\h=hG G Ls/\WB (M.take n) G Ls/\G.length<=n)
  (M.map Jt) 0 (yS (.lst (M.map Jt)) none none) (hG [] []) ⟨[],[],none,none,rfl,rfl,⟨by simp,by simp,by simp,by simp⟩,Nz _⟩ (by
   rintro j w u r h ⟨G,Ls,p,o,rfl,rfl,I,a⟩
   rw[Np]at u;obtain⟨m,s,rfl⟩:=Nd.mp u;have f:=(Nf.mp s).1;rw[NI]at *;obtain⟨c,q,E,z,_,e⟩:=QcZ (mn:=.lst (M.map Jt)) I m (Nr (Nk (Nh a f) t)) (by rw[Ei];exact Nr (Nk (Nh (Nat.min_le_left _ _) f) t));refine⟨yS (.lst (M.map Jt)) (some (.str m.1)) (some (Zs m.2)),rfl,_,_,.inl e,c,q,_,_,rfl,rfl,?_,by exact Nn z (Df a _)⟩;rw[Dq,s]
   exact E)
 obtain⟨y,H,l,G,Ls,p,o,rfl,rfl,I,a⟩:=d;rw[Nu,NI,Ew]at I;refine⟨G.map (·.1),I.all,fun h=>?_⟩;show box frR QX _ _=_;unfold box;rw[X3 (by simp),Ni];unfold Qdb;rw[if_pos Ea];have ei:∀(h:MH),Qo (Qb 0) (yS (.lst (M.map Jt)) none none) h=some (M.map Jt,none,h):=fun _=>rfl
 have e:QX [.lst (M.map Jt)] []=some (.ref 0,hG G Ls):=by
  simp only[yS,hG]at l ei;simp[dG]at l;simp[QX,Qz,Zm,WS,ei,l,hG,dG]
 simp only[Zl,Ni,e];rw[if_pos ⟨by simp[frR],by simp[frR]⟩]
 have key:∀(c:Gs),(∀g∈c,Ls[g.2]?=some (wa M g.1))->ths (res (Xn [] [0] h.length) (hG G Ls) 3) ((dG c).map (·.2))=some ((dP M (c.map (·.1))).map (·.2)):=by
  intro c
  induction c with
  |nil=>intro _;rfl
  | cons g c i=>
   intro v;have:=i fun x A=>v x (Ny _ A);unfold dG dP at this ⊢;rw[Nw,Nw,ths,this];have D:=QjQ (G:=G) (v g NA)
   have:th (res (Xn [] [0] h.length) (hG G Ls) 3) (.ref (g.2+1))=some (.lst ((wa M g.1).map .str)):=by
    have B:ths (res (Xn [] [0] h.length) (hG G Ls) 2) ((wa M g.1).map .str)=some ((wa M g.1).map .str):=ZW _ _ (by simp);unfold th res;simp[Xn,D,B]
   rw[this];rfl
 have k:=key G I.at_
 have hd:thO (res (Xn [] [0] h.length) (hG G Ls) 3) (.dct (dG G))=some (.dct (dP M (G.map (·.1)))):=by
  unfold thO;dsimp only;rw[k]
  have:((dG G).map (·.1)).zip ((dP M (G.map (·.1))).map (·.2))=dP M (G.map (·.1)):=by
   unfold dG dP;clear k key e l ei I a
   induction G with
   |nil=>rfl
   |cons g G i=>simp at i ⊢;exact i
  simp[this]
 have C:(hG G Ls)[0]?=some (.dct (dG G)):=rfl;simp[frR,th,res,Xn,Zl,Qu,C]at hd ⊢;rw[hd];rfl
section
variable{bs ws:List Str}{p:List Pt}{out:List Spt}
def plW(s:Spt):W:=if s.head=true then .non else Zs (s.part,s.k)
@[simp]theorem QpR:pur (plW s)=true:=by unfold plW;split<;>simp
theorem Qco:Jr [Ql s] h=some (plW s,h):=by
 refine Qr (g:=[]) (by simp) ?_ (by simp);obtain⟨a,part,k,head⟩:=s;cases head<;>simp[XN,Qz,Ql,plW,Zs]
noncomputable def lnO(p:List Pt)(s:Spt):Option Ln:=if s.head=true then none else(p[s.part]?).bind fun x=>x.2[s.k]?
def lnW(p:List Pt)(s:Spt):W:=match lnO p s with
 |some l=>QH l
 |none=>.non
@[simp]theorem Qpy:pur (lnW p s)=true:=by unfold lnW;split<;>simp
theorem Qnr:mdS p s=(lnO p s).bind wdL:=by
 unfold mdS lnO;split
 ·rfl
 ·cases p[s.part]?<;>rfl
theorem QjG(d:SV p s):Zf [Q6 p,Ql s] h=some (lnW p s,h):=by
 obtain⟨x,a,f,_⟩:=d.ex;unfold lnW lnO;rw[a,Ni];cases c:s.head with
 |true=>exact W3 a (.inl c)
 |false=>
  simp only[Es,if_false]
  by_cases b:s.k=x.2.length
  ·rw[NY (Nt b.symm)];exact W3 a (.inr b)
  ·have e:x.2[s.k]?=some (x.2[s.k]'(by lia)):=Nl (by omega);rw[e];exact Qaz a c e
theorem Qar(n:GoodP N bs ws p)(m:SV p s):Vv [lnW p s] h=some (Y4 (mdS p s),h):=by
 refine Qr (g:=[]) (by simp) ?_ (by simp);obtain⟨x,j,q,_⟩:=m.ex;rw[Qnr];unfold lnW;cases e:lnO p s with
 |none=>simp[Jh,Qz,Y4]
 | some l=>
  unfold lnO at e;split at e
  ·cases e
  ·rw[j,Ni]at e;have d:=n.ok _ x j l (NC.mpr ⟨_,e⟩);obtain⟨y,r,rfl⟩:=JJ d;rw[Ni];have i:KS (QH (y::r))=false:=rfl
   by_cases f:y="pair"
   ·subst f;obtain⟨a,w,b,c,rfl⟩:=QhE d;have o:∀h,wIx (QH ["pair",a,w,b,c]) (.int 2) h=some (.str w,h):=fun h=>by simp[QH]
    simp[Jh,Qz,i,o,wdL,Y4]
   ·have:=Qbe (r:=r) f;simp[Jh,Qz,i,f,this,Y4]
def nm(Z:List (Spt×Nat)):List (W×W):=Z.map fun q=>(Ql q.1,.int q.2)
theorem QhR:KM (nm Z) (trS s)=(Z.find? fun q=>decide (q.1=s)).map fun q=>.int q.2:=by
 unfold KM nm
 induction Z with
 |nil=>rfl
 |cons q Z a=>
  rw[Nw,NK,NK]
  by_cases e:q.1=s
  ·simp[e,QaD]
  ·have:¬trS q.1=trS s:=fun z=>e (Qfn z);simp only[QaD,FZ,this,e,decide_false];exact a
theorem QlN:∀(r a:List (Spt×Nat)),((a++r).map (·.1)).Nodup->mgQ (nm a) (r.map fun q=>(trS q.1,Ql q.1,W.int q.2))=nm (a++r)
 |[],a,_=>by simp[mgQ]
 | q::r,a,b=>by
  have c:q.1∉a.map (·.1):=fun z=>by
   rw[N6,Ek]at b;exact b.2.2 _ z q.1 (by simp) rfl
  have e:Qby (nm a) (trS q.1) (Ql q.1) (.int q.2)=nm (a++[q]):=by
   unfold Qby;rw[QhR,Qci c];simp[nm]
  unfold mgQ;rw[Nw,Yar,e];have:=QlN r (a++[q]) (by simpa using b);unfold mgQ at this;rw[this];simp
theorem QbJ:∀(out:List Spt) (k:Nat),t∈out->((out.zipIdx k).find? fun q=>decide (q.1=t))=some (t,k+ixS out t)
 |[],_,h=>by cases h
 | s::out,k,h=>by
  unfold ixS;rw[List.zipIdx_cons,NK,Yau]
  by_cases e:s=t
  ·subst e;simp
  ·have a:(s==t)=false:=by simpa using e
   have:=QbJ out (k+1) (by rcases NE.mp h with z|z;exact absurd z.symm e;exact z);simp only[e,decide_false,this,a,cond_false];unfold ixS;rw[show k+1+out.idxOf t=k+(out.idxOf t+1) by exact E9 _ _ _]
theorem QhB:∀(Z:List (Spt×Nat)),prQ (Z.map fun q=>.tup [Ql q.1,.int q.2])=some (Z.map fun q=>(trS q.1,Ql q.1,W.int q.2))
 |[]=>rfl
 |q::Z=>by
  rw[Nw,prQ,QaD,Ni,QhB Z];rfl
theorem Ql9(b:h[n]?=some (.dct (nm out.zipIdx)))(a:t∈out):U2 (.ref n) (Ql t) h=some (.int (ixS out t),h):=by
 unfold U2;have:Y1 h (.ref n)=some (nm out.zipIdx):=by simp only[Y1,b]
 rw[this,Ni,QaD,Ni,QhR,QbJ out 0 a];simp
theorem Qnp(a:t∈out):sq out (ixS out t)=t:=by
 have b:=Qho (Qc4 a);rw[Nl (Qc4 a)]at b;have c:out[ixS out t]'(Qc4 a)=t:=List.getElem_idxOf (Qc4 a);exact(NS b).symm.trans c
def stW(p:List Pt)(out:List Spt)(e:Nat×Nat):W:=.tup [.int e.1,lnW p (sq out e.1),.int e.2,plW (sq out e.2)]
@[simp]theorem QnE{l:List (Nat×Nat)}:ZZ (l.map (stW p out))=true:=by
 induction l with
 |nil=>rfl
 |cons e l a=>simp[stW];exact a
abbrev tS(p:List Pt)(out:List Spt)(x4 x5 x6 x7:Option W):MSt:=[some (Q6 p),some (.lst (out.map Ql)),some (.ref 0),some (.ref 1),x4,x5,x6,x7]
abbrev tH(p:List Pt)(out:List Spt)(L:List (Nat×Nat)):MH:=[.dct (nm out.zipIdx),.lst (L.map (stW p out))]
noncomputable def swp:W->W
 |.tup [a,b]=>.tup [b,a]
 |w=>w
theorem Qf0(A:Al p out)(h:MH):V5 [Q6 p] h=some (.lst ((Eg p out out.length).map (stW p out)),h):=by
 have y:=A.few;have f:(Jo (out.map Ql)).length=out.length:=by simp[Jo]
 have Z:∀c:MSt,c[1]?=some (some (.lst (out.map Ql)))->QN Jn (XD (Qa (Qb 1) Qc)) [none,none] (Zb [0,1]) Kl (mFn QU (Qa (Qb 1) (Qa (Qb 0) Qc))) c []=some (.lst (out.zipIdx.map fun q=>.tup [Ql q.1,.int q.2]),[]):=by
  intro c E
  have x:XD (Qa (Qb 1) Qc) c []=some (Jo (out.map Ql),none,[]):=by
   unfold XD Qa Qb;rw[E];rfl
  have X:=Qh6 (fin:=Jn) (mi:=XD (Qa (Qb 1) Qc)) (cp:=[none,none]) (b:=Zb [0,1]) (me:=mFn QU (Qa (Qb 1) (Qa (Qb 0) Qc))) (σ:=c) (h:=[]) (items:=Jo (out.map Ql)) (fun C=>C.length=2) swp x rfl (fun w hw C D=>by
   unfold Jo at hw;obtain⟨q,_,rfl⟩:=NL.mp hw
   match C,D with
   |[a,b],_=>exact⟨[some (.int q.2),some q.1],rfl,rfl,by simp[swp]⟩) (by rw[f];exact Xi (Nr (Nh y (by decide))))
  rw[X]
  have:(Jo (out.map Ql)).map swp=out.zipIdx.map fun q=>.tup [Ql q.1,.int q.2]:=by
   unfold Jo;rw[List.zipIdx_map];simp[swp,EZ]
  rw[this];rfl
 have Y:WI [.lst (out.zipIdx.map fun q=>.tup [Ql q.1,.int q.2])] []=some (.ref 0,[.dct (nm out.zipIdx)]):=by
  unfold WI;simp only[lsW,Ni,QhB];rw[if_pos (by rw[Nu,DW];exact Nr (Nh y (by decide)))];have:=QlN out.zipIdx [] (by rw[DX,List.zipIdx_map_fst];exact A.nd);rw[show nm []=[]from rfl]at this;rw[this];rfl
 have r:=Q3 (items:=Jo (out.map Ql)) (b:=Zb [4,5]) (body:=KZ) (fun n c h=>∃(o m l d:Option W),c=tS p out o m l d/\h=tH p out (Eg p out n))
  (Jo (out.map Ql)) 0 (tS p out none none none none) (tH p out []) ⟨none,none,none,none,rfl,rfl⟩ (by
   rintro j w B c h ⟨o,m,l,d,rfl,rfl⟩
   rw[NI]at *;have e:=(Nf.mp B).1;rw[f]at e;unfold Jo at B;rw[Np,Ff,Np,Qho e]at B;obtain rfl:W.tup [.int (j:Nat),Ql (sq out j)]=w:=by simpa using B
   refine⟨tS p out (some (.int j)) (some (Ql (sq out j))) l d,rfl,?_⟩;have F:=WR e;obtain⟨n2,en,_⟩:=A.nx2 _ F
   have inner:=Q3 (items:=(nx p (sq out j)).map Ql) (b:=Q2 7) (body:=Yl) (fun n c h=>∃(d:Option W),c=tS p out (some (.int j)) (some (Ql (sq out j))) (some (lnW p (sq out j))) d/\h=tH p out (Eg p out j++((nx p (sq out j)).take n).map fun t=>(j,ixS out t)))
    ((nx p (sq out j)).map Ql) 0 (tS p out (some (.int j)) (some (Ql (sq out j))) (some (lnW p (sq out j))) d) (tH p out (Eg p out j)) ⟨d,rfl,by simp⟩ (by
     rintro i w x c h ⟨H,rfl,rfl⟩
     rw[NI,Np]at *;obtain⟨t,I,rfl⟩:=Nd.mp x;have u:=A.cl _ F t (NC.mpr ⟨i,I⟩);refine⟨tS p out (some (.int j)) (some (Ql (sq out j))) (some (lnW p (sq out j))) (some (Ql t)),rfl,tS p out (some (.int j)) (some (Ql (sq out j))) (some (lnW p (sq out j))) (some (Ql t)),_,.inl ?_,_,rfl,rfl⟩;have S:(Eg p out j++((nx p (sq out j)).take (i+1)).map fun t=>(j,ixS out t))=(Eg p out j++((nx p (sq out j)).take i).map fun t=>(j,ixS out t))++[(j,ixS out t)]:=by rw[Dq,I];simp
     rw[S];have Q:=Qbt A (n:=j) (Nr e);generalize R:(Eg p out j++((nx p (sq out j)).take i).map fun t=>(j,ixS out t))=L;have G:L.length<=600000:=by rw[<-R,NH,Nu,Ei];lia
     have N:L.length<sizeLine:=Nh G (by decide);have en:=Ql9 (h:=tH p out L) (n:=0) rfl u;have T:=Qnp u
     simp[en,Qco,N,stW,T])
   obtain⟨J,h2,z,H,rfl,rfl⟩:=inner;rw[Nu,NI,Ew]at z;refine⟨tS p out (some (.int j)) (some (Ql (sq out j))) (some (lnW p (sq out j))) H,tH p out (Eg p out (j+1)),.inl ?_,_,_,_,_,rfl,rfl⟩;rw[Qfs]
   have ei:Qo (Qi 2 QC (Qa (Qb 0) (Qa (Qb 5) Qc))) (tS p out (some (.int j)) (some (Ql (sq out j))) (some (lnW p (sq out j))) d) (tH p out (Eg p out j))=some ((nx p (sq out j)).map Ql,none,tH p out (Eg p out j)):=by
    unfold Qo;simp[en];rfl
   have U:∀h,Zf [Q6 p,Ql (sq out j)] h=some (lnW p (sq out j),h):=fun h=>QjG (A.rc _ F).v
   simp[Zm,U,ei,z,Ed])
 obtain⟨M,h',z,o,m,l,d,rfl,rfl⟩:=r;rw[f,NI,show tH p out []=[MO.dct (nm out.zipIdx),MO.lst []]from rfl]at z;have x:∀o m l d h,XD (Qa (Qb 1) Qc) (tS p out o m l d) h=some (Jo (out.map Ql),none,h):=fun _ _ _ _ _=>rfl;refine Y8 (j:=1) (g:=tH p out (Eg p out out.length)) (by simp) ?_ rfl (by simp);have P:=Z [some (Q6 p),some (.lst (out.map Ql)),none,none,none,none,none,none] rfl;have O:=x none none none none;simp[XH,Qz,Zm,A.s,P,Y,O,z]
end
section
variable{bs ws:List Str}{p:List Pt}{out:List Spt}{M:List Mn}
def aW(p:List Pt)(out:List Spt)(M:List Mn)(q:Nat):W:=.tup [.int q,.lst ((gn M (sq out q)).map .str),Y4 (mdS p (sq out q))]
@[simp]theorem Qm6{l:List Nat}:ZZ (l.map (aW p out M))=true:=by
 induction l with
 |nil=>rfl
 |cons e l a=>simp[aW];exact a
noncomputable abbrev Gn:=List (Nat×Nat)
noncomputable def dI(G:Gn):List (Key×W):=G.map fun g=>(.inl (g.1:Int),.ref (g.2+2))
def hI(p:List Pt)(out:List Spt)(M:List Mn)(P:List Pl)(G:Gn)(Ls:List (List Nat)):MH:=.dct (dP M P)::.dic (dI G)::Ls.map fun l=>.lst (l.map (aW p out M))
theorem QlF{q:Nat}:QaG (dI G) (.inl (q:Int))=(G.find? fun g=>decide (g.1=q)).map fun g=>.ref (g.2+2):=by
 unfold QaG dI
 induction G with
 |nil=>rfl
 |cons g G a=>
  rw[Nw,NK,NK]
  by_cases h:g.1=q
  ·simp[h]
  ·have:¬(Sum.inl (g.1:Int):Key)=.inl (q:Int):=fun z=>h (by injection z with z;lia);simp only[this,h,decide_false];exact a
variable{P:List Pl}
theorem UK:(hI p out M P G Ls).length=Ls.length+2:=by simp[hI]
theorem Qh7:hI p out M P G Ls++[.lst []]=hI p out M P G (Ls++[[]]):=by simp[hI]
theorem QhQ:(hI p out M P G Ls).set (i+2) (.lst (l.map (aW p out M)++[aW p out M q]))=hI p out M P G (Ls.set i (l++[q])):=by
 simp[hI,List.map_set]
theorem QjL(h:Ls[i]?=some l):(hI p out M P G Ls)[i+2]?=some (.lst (l.map (aW p out M))):=by
 show(Ls.map fun l=>MO.lst (l.map (aW p out M)))[i]?=_;rw[Np,h];rfl
abbrev qT(p:List Pt)(out:List Spt)(M:List Mn)(x5 x6 x7 x8 x9:Option W):MSt:=[some (Q6 p),some (.lst (M.map Jt)),some (.lst (out.map Ql)),some (.ref 0),some (.ref 1),x5,x6,x7,x8,x9]
theorem QoD:gn M s=if s.head=true then[]else wa M (s.part,s.k):=rfl
theorem Qmo(b:∀m∈M,m.2∈P)(c:h[0]?=some (.dct (dP M P))):Qcg (.ref 0) [plW s,.lst []] h=some (.lst ((gn M s).map .str),h):=by
 have a:Y1 h (.ref 0)=some (dP M P):=by simp only[Y1,c]
 rw[QoD];unfold plW;cases s.head with
 |true=>
  simp only[if_true];show(Y1 h (.ref 0)).map _=_;rw[a];rfl
 |false=>
  simp only[Es,if_false];show Qec (.ref 0) [Zs (s.part,s.k),.lst []] h=_;unfold Qec;simp only[a,QcD,Ni,Ef,QoC b]
theorem QiS(hg:GoodP N bs ws p)(A:Al p out)(hP:∀m∈M,m.2∈P){L:List (Nat×Nat)}(I:WB L G Ls)(e:Nat×Nat)(O:e.1<out.length)(B:G.length<=1000000)(hl:L.length<=1000000) :
  ∃E o t,WB (L++[e]) E o/\E.length<=G.length+1/\V9 (qT p out M (some (.int e.1)) (some (lnW p (sq out e.1))) (some (.int e.2)) (some (plW (sq out e.2))) x9) (hI p out M P G Ls)=some (.nx (qT p out M (some (.int e.1)) (some (lnW p (sq out e.1))) (some (.int e.2)) (some (plW (sq out e.2))) t) (hI p out M P E o)):=by
 have Y:=WR O;have U:∀q,(wa L q).length<sizeLine:=fun q=>Nh (Nn Qdj hl) (by decide);have Q:∀h,Jr [Ql (sq out e.1)] h=some (plW (sq out e.1),h):=fun h=>Qco;have em:∀h,Vv [lnW p (sq out e.1)] h=some (Y4 (mdS p (sq out e.1)),h):=fun h=>Qar hg (A.rc _ Y).v;have R:=Qmo hP (s:=sq out e.1) (h:=hI p out M P G Ls) rfl;have eS:=QmV O;have S:∀G Ls,Qh8 (hI p out M P G Ls) (.ref 1)=some (dI G):=fun _ _=>rfl;have n:∀G Ls (h:0<(hI p out M P G Ls).length),(hI p out M P G Ls)[0]=.dct (dP M P):=fun _ _ _=>rfl;have j:∀G Ls (h:1<(hI p out M P G Ls).length),(hI p out M P G Ls)[1]=.dic (dI G):=fun _ _ _=>rfl;have H:∀G Ls,0<(hI p out M P G Ls).length:=fun G Ls=>by rw[UK];exact Nk (by decide) (Fz _ _)
 have F:∀G Ls,1<(hI p out M P G Ls).length:=fun G Ls=>by rw[UK];exact Nk (by decide) (Fz _ _)
 rcases I.step e with⟨g,w,Z,u,D,x⟩|⟨J,D⟩
 ·refine⟨G,_,some (.lst ((gn M (sq out e.1)).map .str)),D,by exact Nv _ _,?_⟩
  have C:Qj0 (.ref 1) [.int e.2,.ref (Ls.length+2)] (hI p out M P G (Ls++[[]]))=some (.ref (g.2+2),hI p out M P G (Ls++[[]])):=by
   unfold Qj0;simp only[S,QjB,Ni];unfold Qmb;rw[QlF,Qh5 I.nk w Z];rfl
  have f:=QjL (p:=p) (out:=out) (M:=M) (P:=P) (G:=G) x;have d:∀(h:g.2+2<(hI p out M P G (Ls++[[]])).length),(hI p out M P G (Ls++[[]]))[g.2+2]=.lst ((wa L e.2).map (aW p out M)):=fun h=>(Nf.mp f).2;have c:=QhQ (p:=p) (out:=out) (M:=M) (P:=P) (G:=G) (Ls:=Ls++[[]]) (i:=g.2) (q:=e.1) (l:=wa L e.2);have r:g.2+2<(hI p out M P G (Ls++[[]])).length:=by rw[UK];simp;exact Nk u (Nv _ _)
  rw[show aW p out M e.1=.tup [.int e.1,.lst ((gn M (sq out e.1)).map .str),Y4 (mdS p (sq out e.1))]from rfl]at c;simp[UK,Qh7,eS,Q,R,C,f,d,c,U,em,tyW,n,j,H,F,r]
 ·refine⟨_,_,some (.lst ((gn M (sq out e.1)).map .str)),D,by simp,?_⟩;have X:(dI G).length<sizeLine:=Nh (by simpa[dI]using B) (by decide)
  have C:Qj0 (.ref 1) [.int e.2,.ref (Ls.length+2)] (hI p out M P G (Ls++[[]]))=some (.ref (Ls.length+2),hI p out M P (G++[(e.2,Ls.length)]) (Ls++[[]])):=by
   unfold Qj0;simp only[S,QjB,Ni];unfold Qmb;rw[QlF,Qci J];show(if _ then _ else _)=_;rw[if_pos X]
   have:QlR (dI G) (.inl (e.2:Int)) (.ref (Ls.length+2))=dI (G++[(e.2,Ls.length)]):=by
    unfold QlR;rw[if_neg]
    ·simp[dI]
    ·simp[dI];intro a b y z;exact J (NL.mpr ⟨_,y,by show a=e.2;lia⟩)
   rw[this];rfl
  have f:=QjL (p:=p) (out:=out) (M:=M) (P:=P) (G:=G++[(e.2,Ls.length)]) (Ls:=Ls++[[]]) (i:=Ls.length) (l:=[]) (by simp);have c:=QhQ (p:=p) (out:=out) (M:=M) (P:=P) (G:=G++[(e.2,Ls.length)]) (Ls:=Ls++[[]]) (i:=Ls.length) (q:=e.1) (l:=[]);simp only[EG,DX]at c f;rw[show aW p out M e.1=.tup [.int e.1,.lst ((gn M (sq out e.1)).map .str),Y4 (mdS p (sq out e.1))]from rfl]at c;have T:0<sizeLine:=by decide
  have d:∀(h:Ls.length+2<(hI p out M P (G++[(e.2,Ls.length)]) (Ls++[[]])).length),(hI p out M P (G++[(e.2,Ls.length)]) (Ls++[[]]))[Ls.length+2]=.lst []:=fun h=>(Nf.mp f).2;have r:Ls.length+2<(hI p out M P (G++[(e.2,Ls.length)]) (Ls++[[]])).length:=by rw[UK];simp
  simp[UK,Qh7,eS,Q,R,C,f,d,c,T,em,tyW,n,j,H,F,r]
def dJ(p:List Pt)(out:List Spt)(M:List Mn)(Q:List Nat):List (Key×W):=Q.map fun(m:Nat)=>(.inl (m:Int),.lst ((wa (Eg p out out.length) m).map (aW p out M)))
theorem QnT(a:∀e∈Eg p out out.length,e.2∈Q){m:Nat}:(QaG (dJ p out M Q) (.inl (m:Int))).getD (.lst [])=.lst ((wa (Eg p out out.length) m).map (aW p out M)):=by
 by_cases h:m∈Q
 ·have:QaG (dJ p out M Q) (.inl (m:Int))=some (.lst ((wa (Eg p out out.length) m).map (aW p out M))):=by
   clear a;unfold QaG dJ
   induction Q with
   |nil=>cases h
   |cons x Q b=>
    rw[Nw,NK]
    by_cases e:x=m
    ·subst e;simp
    ·have:¬(Sum.inl (x:Int):Key)=.inl (m:Int):=fun z=>e (by injection z with z;lia);simp only[this,decide_false];exact b (by rcases NE.mp h with z|z;exact absurd z.symm e;exact z)
  rw[this];rfl
 ·have f:wa (Eg p out out.length) m=[]:=by
   unfold wa;rw[IS,F7];intro e g;simp;exact fun z=>h (by rw[<-z];exact a e g)
  have:QaG (dJ p out M Q) (.inl (m:Int))=none:=by
   unfold QaG dJ;rw[F8,DY];intro x d;obtain⟨y,c,rfl⟩:=NL.mp d;simp;exact fun z=>h (Fl z▸c)
  rw[this,f];rfl
theorem QkI(A:Al p out)(d:n<=out.length):∀e∈Eg p out n,e.1<n/\e.2<out.length:=by
 intro e b;obtain⟨q,a,b⟩:=Ij.mp b;have a:=Ez.mp a;obtain⟨t,c,rfl⟩:=NL.mp b;exact⟨a,Qc4 (A.cl _ (WR (Nk a d)) t c)⟩
theorem QaL{N:Nat}(U:GoodP N bs ws p)(A:Al p out)(Y:M.length<=100000):∃Q:List Nat,(∀e∈Eg p out out.length,e.2∈Q)/\∀h:MH,KF [Q6 p,.lst (M.map Jt)] h=some (.ref h.length,h++[.dic (dJ p out M Q)]):=by
 have aa:=A.few;obtain⟨P,X,eP⟩:=Qbl Y;have B:=Qbt A (Nz _);have i:=QkI A (Nz _);generalize H:Eg p out out.length=E at B i
 have f:=Q3 (items:=E.map (stW p out)) (b:=Zb [5,6,7,8]) (body:=V9) (fun n D h=>∃(G:Gn) (Ls:List (List Nat)) (v u t r d:Option W),D=qT p out M v u t r d/\h=hI p out M P G Ls/\WB (E.take n) G Ls/\G.length<=n)
  (E.map (stW p out)) 0 (qT p out M none none none none none) (hI p out M P [] []) ⟨[],[],none,none,none,none,none,rfl,rfl,⟨by simp,by simp,by simp,by simp⟩,Nz _⟩ (by
   rintro j w F D h ⟨G,Ls,v,u,t,r,d,rfl,rfl,I,c⟩
   rw[Np]at F;obtain⟨e,z,rfl⟩:=Nd.mp F;have T:=(Nf.mp z).1;rw[NI]at *;obtain⟨a,C,L,I',O,e2⟩:=QiS (x9:=d) U A X I e (i e (NC.mpr ⟨j,z⟩)).1 (by lia) (by rw[Ei];lia);refine⟨qT p out M (some (.int e.1)) (some (lnW p (sq out e.1))) (some (.int e.2)) (some (plW (sq out e.2))) d,rfl,_,_,.inl e2,a,C,_,_,_,_,_,rfl,rfl,?_,by exact Nn O (Df c _)⟩;rw[Dq,z]
   exact I')
 obtain⟨J,h',q,G,Ls,v,u,t,r,d,rfl,rfl,I,c⟩:=f;rw[Nu,NI,Ew]at I;refine⟨G.map (·.1),I.all,fun h=>?_⟩;show box frR JM _ _=_;unfold box;rw[X3 (by simp),Ni];unfold Qdb;rw[if_pos Ea];have l:=Qf0 A;rw[H]at l
 have ei:∀(h:MH),Qo (Qi 1 V5 (Qa (Qb 0) Qc)) (qT p out M none none none none none) h=some (E.map (stW p out),none,h):=fun h=>by
  unfold Qo;simp[l];rfl
 have e:JM [Q6 p,.lst (M.map Jt)] []=some (.ref 1,hI p out M P G Ls):=by
  have y:=ei (hI p out M P [] []);have o:hI p out M P [] []=[.dct (dP M P),.dic []]:=rfl;rw[o]at y q;simp only[qT]at y q;simp[JM,Qz,Zm,Qkm,A.s,eP,y,q]
 simp only[Zl,Ni,e];rw[if_pos ⟨by simp[frR],by simp[frR]⟩]
 have key:∀(a:Gn),(∀g∈a,Ls[g.2]?=some (wa E g.1))->ths (res (Xn [] [1] h.length) (hI p out M P G Ls) 3) ((dI a).map (·.2))=some ((dJ p out M (a.map (·.1))).map (·.2)):=by
  intro a
  induction a with
  |nil=>intro _;rfl
  | cons g a m=>
   intro o;have:=m fun x R=>o x (Ny _ R);unfold dI dJ at this ⊢;rw[Nw,Nw,ths,this];have ea:=QjL (p:=p) (out:=out) (M:=M) (P:=P) (G:=G) (o g NA)
   have:th (res (Xn [] [1] h.length) (hI p out M P G Ls) 3) (.ref (g.2+2))=some (.lst ((wa E g.1).map (aW p out M))):=by
    have S:ths (res (Xn [] [1] h.length) (hI p out M P G Ls) 2) ((wa E g.1).map (aW p out M))=some ((wa E g.1).map (aW p out M)):=ZW _ _ (by simp);unfold th res;simp[Xn,ea,S]
   rw[this,H];rfl
 have k:=key G I.at_
 have hd:thO (res (Xn [] [1] h.length) (hI p out M P G Ls) 3) (.dic (dI G))=some (.dic (dJ p out M (G.map (·.1)))):=by
  unfold thO;dsimp only;rw[k]
  have:((dI G).map (·.1)).zip ((dJ p out M (G.map (·.1))).map (·.2))=dJ p out M (G.map (·.1)):=by
   unfold dI dJ;clear k key e q ei I c
   induction G with
   |nil=>rfl
   |cons g G m=>simp at m ⊢;exact m
  simp[this]
 have Z:(hI p out M P G Ls)[1]?=some (.dic (dI G)):=rfl;simp[frR,th,res,Xn,Zl,Qu,Z]at hd ⊢;rw[hd];rfl
end
noncomputable abbrev Ky:=Nat×List Str
noncomputable def Zu(k:Ky):W:=.tup [.int k.1,.tup (k.2.map .str)]
noncomputable def trK(k:Ky):Tr:=.t [.i k.1,.t (k.2.map .s)]
theorem Qgg:∀(l:List Str),(l.map W.str).mapM (Wm 7)=some (l.map .s)
 |[]=>rfl
 |x::l=>by
  rw[Nw,Dn,Qgg l];rfl
theorem Qas:∀(l:List Str),(l.map W.str).mapM (Wm 6)=some (l.map .s)
 |[]=>rfl
 |x::l=>by
  rw[Nw,Dn,Qas l];rfl
theorem GT{k:Ky}:nrm (Zu k)=some (trK k):=by
 show Wm 8 (.tup [.int k.1,.tup (k.2.map .str)])=_;simp only[Wm,Dn,Lf,Qas];rfl
theorem Qfk(h:trK a=trK b):a=b:=by
 obtain⟨n,l⟩:=a;obtain⟨m,r⟩:=b;unfold trK at h;simp only[Tr.t.injEq,IH,Tr.i.injEq,and_true]at h;obtain⟨d,c⟩:=h;have e:l=r:=OV (f:=Tr.s) (fun x y e=>by injection e)|>.mp c
 have:n=m:=Fl d;rw[e,this]
abbrev Tb:=List (Ky×Int)
def dT(D:Tb):List (W×W):=D.map fun e=>(Zu e.1,.int e.2)
noncomputable def vl(D:Tb)(k:Ky):Option Int:=(D.find? fun e=>decide (e.1=k)).map (·.2)
theorem Qgw{D:Tb}{k:Ky}:KM (dT D) (trK k)=(vl D k).map .int:=by
 unfold KM dT vl
 induction D with
 |nil=>rfl
 |cons e D a=>
  rw[Nw,NK,NK]
  by_cases h:e.1=k
  ·simp[h,GT]
  ·have:¬trK e.1=trK k:=fun z=>h (Qfk z);simp only[GT,FZ,this,h,decide_false];exact a
theorem U8{D:Tb}{k:Ky}(h:k∉D.map (·.1)):vl D k=none:=by
 unfold vl;rw[F8,DY];intro g a;simp;exact fun z=>h (by rw[<-z];exact Ee a)
theorem XZ{D:Tb}{k:Ky}(h:k∈D.map (·.1)):∃c,vl D k=some c:=by
 unfold vl;cases e:D.find? fun e=>decide (e.1=k)with
 |some x=>exact⟨_,rfl⟩
 |none=>
  rw[DY]at e;obtain⟨x,a,b⟩:=NL.mp h;exact absurd (by simpa using b) (e x a)
theorem QhO{D:Tb}{k:Ky}{c:Int}(h:vl D k=some c):(k,c)∈D:=by
 unfold vl at h;obtain⟨x,a,rfl⟩:=Nd.mp h;have:=List.find?_some a;simp at this;rw[<-this];exact List.mem_of_find?_eq_some a
theorem QiW(l:(D.map (·.1)).Nodup)(g:e∈D):vl D e.1=some e.2:=by
 obtain⟨c,h⟩:=XZ (Ee (f:=(·.1)) g);have:=QhO h;obtain⟨i,n,ei⟩:=EU.mp g;obtain⟨j,m,a⟩:=EU.mp this;have:=(Ic (i:=i) (j:=j) (h₀:=by simpa using n) (h₁:=by simpa using m) l).mp (by simp[ei,a]);subst this;rw[ei]at a;rw[h,a]
def upT(D:Tb)(k:Ky)(v:Int):Tb:=if(vl D k).isSome=true then D.map (fun e=>if e.1=k then(e.1,v)else e)else D++[(k,v)]
theorem Qoh{D:Tb}{k:Ky}{v:Int}:Qby (dT D) (trK k) (Zu k) (.int v)=dT (upT D k v):=by
 unfold Qby upT;rw[Qgw,Lo];split
 ·unfold dT;rw[ES,ES];refine OJ fun e _=>?_
  by_cases h:e.1=k
  ·simp[h,GT]
  ·have:¬trK e.1=trK k:=fun z=>h (Qfk z);simp[h,GT,this]
 ·simp[dT]
section
variable{D:Tb}{k:Ky}{n:Nat}{h:MH}
theorem Qkv(a:h[n]?=some (.dct (dT D))):UI g (Zu k) (.ref n) h=some (.bl (if g=true then !(vl D k).isSome else(vl D k).isSome),h):=by
 have:Y1 h (.ref n)=some (dT D):=by simp only[Y1,a]
 unfold UI;rw[this,Ni,GT,Ef,Qgw,Lo]
theorem Qga(a:h[n]?=some (.dct (dT D)))(b:vl D k=some c):U2 (.ref n) (Zu k) h=some (.int c,h):=by
 have:Y1 h (.ref n)=some (dT D):=by simp only[Y1,a]
 unfold U2;rw[this,Ni,GT,Ni,Qgw,b];rfl
theorem Qes(a:h[n]?=some (.dct (dT D)))(b:D.length<sizeLine):Ko (.ref n) (Zu k) (.int v) h=some (h.set n (.dct (dT (upT D k v)))):=by
 unfold Ko;simp only[a,GT,Ni];rw[if_pos (by simpa[dT]using b),Qoh]
end
theorem Yu(a:j->W)(g:j->Bool)(c:live src items h)(P:MSt->Prop):∀(xs:List j) (σ:MSt),P σ ->
  (∀x∈xs,∀σ,P σ->∃σ1,b (a x) σ h=some σ1/\((g x=true/\∃σ2,body σ1 h=some (.nx σ2 h)/\P σ2)\/(g x=false/\body σ1 h=some (.rt v h)))) ->
  (xs.all g=true/\∃d,JK items src b body (xs.map a) σ h=some (.nx d h)/\P d)\/(xs.all g=false/\JK items src b body (xs.map a) σ h=some (.rt v h))
 |[],σ,e,_=>.inl ⟨rfl,σ,by rw[EG,JK,if_pos c],e⟩
 |x::xs,σ,e,l=>by
  obtain⟨σ1,o,z⟩:=l x NA σ e;rw[Nw,JK,if_pos c,o,Ni,Fj]
  rcases z with⟨f,σ2,i,m⟩|⟨f,i⟩
  ·rw[f,i,Bool.true_and];exact Yu a g c P xs σ2 m fun y n=>l y (Ny _ n)
  ·rw[f,i,Bool.false_and];exact .inr ⟨rfl,rfl⟩
theorem Qd2{l:List Str}:inW (.str x) (l.map .str)=decide (x∈l):=by
 induction l with
 |nil=>rfl
 |cons y l a=>
  unfold inW at a ⊢;rw[Nw,E6,a];show((y==x) ||_)=_
  by_cases e:y=x
  ·subst e;simp
  ·have b:¬x=y:=fun z=>e z.symm;rw[show(y==x)=false from beq_eq_false_iff_ne.mpr e,Bool.false_or,EL,decide_eq_true_eq,decide_eq_true_eq,NE];exact⟨.inr,fun z=>z.elim (fun q=>absurd q b) id⟩
theorem inL{l:List Str}:wIn g (.str x) (.lst (l.map .str)) h=some (.bl (if g=true then !decide (x∈l)else decide (x∈l)),h):=by
 rw[QiU rfl Ja (by simp[dep]) (Nn Kh (by decide)),Qd2]
noncomputable def inO(o:Option Str)(l:List Str):Bool:=match o with
 |some x=>decide (x∈l)
 |none=>false
theorem inT:wIn false (Y4 o) (.tup (l.map .str)) h=some (.bl (inO o l),h):=by
 have c:drf h 40 (Y4 o)=some (Y4 o):=by cases o<;>rfl
 have b:=JW h (l.map .str) 40 Ja (Nn Kh (by decide))
 have a:inW (Y4 o) (l.map .str)=inO o l:=by
  cases o with
  |some x=>exact Qd2
  |none=>
   unfold inW;rw[show inO none l=false from rfl,OX];intro w hw;obtain⟨x,_,rfl⟩:=NL.mp hw;exact NQ
 show(drf h 40 (Y4 o)).bind _=_;rw[c,Ni,b,Ef,a];rfl
noncomputable def lf(l g:List Str):List Str:=l.filter fun x=>!decide (x∈g)
theorem lf_sub:(lf l g).Sublist l:=List.filter_sublist
theorem WV{l g:List Str}(d:mi σ h=some (l.map .str,none,h))(e:σ[c]?=some (some (.lst (g.map .str))))(b:l.length<=1000):QN Jn mi [none,some c] (Q2 0) (Qj (Qe (wIn true) (Qb 0) (Qb 1))) (Qb 0) σ h=some (.lst ((lf l g).map .str),h):=by
 have f:=Qao (fin:=Jn) (mi:=mi) (cp:=[none,some c]) (mt:=Qj (Qe (wIn true) (Qb 0) (Qb 1))) (me:=Qb 0) (σ:=σ) (caps:=[some (.lst (g.map .str))]) (h:=h) (items:=l.map .str)
  id (fun w=>match w with|.str x=>!decide (x∈g)|_=>false) d ⟨none,by simp[QfM,e]⟩ (fun w hw=>by
   obtain⟨x,j,rfl⟩:=NL.mp hw
   simp[inL]) (fun w hw m=>by simp) (by simp;exact Xi (Nr (Nh b (by decide))))
 rw[f]
 have:((l.map W.str).filter fun w=>match w with|.str x=>!decide (x∈g)|_=>false).map id=(lf l g).map .str:=by
  unfold lf;rw[List.map_id,List.filter_map];rfl
 rw[this];rfl
def moI(o:Option Str)(l:List Str):Int:=if inO o l=true then 1 else 0
section
variable{bs ws:List Str}{p:List Pt}{out:List Spt}{M:List Mn}
def ask(p:List Pt)(out:List Spt)(M:List Mn)(k:Ky)(q:Nat):Ky×Int:=((q,lf k.2 (gn M (sq out q))),moI (mdS p (sq out q)) k.2)
def QfL(a:Ky×Int):W:=.tup [Zu a.1,.int a.2]
@[simp]theorem QpZ{k:Ky}:pur (Zu k)=true:=by simp[Zu]
@[simp]theorem Ql1{l:List (Ky×Int)}:ZZ (l.map QfL)=true:=by
 induction l with
 |nil=>rfl
 |cons e l a=>simp[QfL];exact a
theorem QgZ{ws a:List W}(l:ZZ ws=true)(f:h[n]?=some o)(d:Qba o=true)(e:m (.ref 0::ws) [o]=some (.ref (j+1),o::g))(q:g[j]?=some (.lst a))(i:ZZ a=true):box frN m (.ref n::ws) h=some (.lst a,h):=by
 unfold box
 have b:Kn 0 (.ref n::ws)=some (.ref 0::ws,[n]):=by
  unfold Kn;rw[X3 l];rfl
 rw[b,Ni];unfold Qdb;rw[if_pos (by simp)];have c:Qc9 h n=some o:=by unfold Qc9;rw[f];simp[d]
 simp only[Zl,c,Ni,Ef,e,frN,NZ];rw[if_pos ⟨Ea,by simp⟩]
 have:th (res (Xn [n] [] h.length) (o::g) 3) (.ref (j+1))=some (.lst a):=by
  unfold th res;simp only[Xn,FR,List.getElem?_nil,List.findIdx?_nil,LP,q];rw[ZW _ a i];rfl
 rw[this];simp[Qu,Fx,Zl,Qbc _ o d,Gc f]
abbrev uS(k:Ky)(x3 x4 x5 x6:Option W):MSt:=[some (.ref 0),some (Zu k),some (.ref 1),x3,x4,x5,x6]
theorem Qlg:Qba (.dic a)=ZZ (a.map (·.2)):=rfl
theorem Qio:Qba (.dic (dJ p out M Q))=true:=by
 rw[Qlg];unfold dJ;rw[ES]
 induction Q with
 |nil=>rfl
 |cons m Q a=>rw[Nw,Qd0,a];simp
theorem Qg7(A:Al p out){Q:List Nat}(H:∀e∈Eg p out out.length,e.2∈Q){k:Ky}{h:MH}{n:Nat}(D:h[n]?=some (.dic (dJ p out M Q)))(E:k.2.length<=1000):Xk [.ref n,Zu k] h=some (.lst (((wa (Eg p out out.length) k.1).map (ask p out M k)).map QfL),h):=by
 have O:=A.few;have J:=Qbt A (Nz _);have u:=Qdj (M:=Eg p out out.length) (q:=k.1)
 have y:∀h:MH,h[0]?=some (.dic (dJ p out M Q))->Qcs (.ref 0) [.int k.1,.lst []] h=some (.lst ((wa (Eg p out out.length) k.1).map (aW p out M)),h):=fun h N=>by
  have:Qh8 h (.ref 0)=some (dJ p out M Q):=by simp only[Qh8,N]
  unfold Qcs;simp only[this,QjB,Ni,Ef,QnT H]
 generalize wa (Eg p out out.length) k.1=a at u y
 have f:=Q3 (items:=a.map (aW p out M)) (b:=Zb [3,4,5]) (body:=K5) (fun n i h=>∃(t s r d:Option W),i=uS k t s r d/\h=[.dic (dJ p out M Q),.lst (((a.take n).map (ask p out M k)).map QfL)])
  (a.map (aW p out M)) 0 (uS k none none none none) [.dic (dJ p out M Q),.lst []] ⟨none,none,none,none,rfl,rfl⟩ (by
   rintro j w x i h ⟨t,s,r,d,rfl,rfl⟩
   rw[Np]at x;obtain⟨q,v,rfl⟩:=Nd.mp x;have F:=(Nf.mp v).1;rw[NI]at *;have P:(a.take (j+1)).map (ask p out M k)=(a.take j).map (ask p out M k)++[ask p out M k q]:=by rw[Dq,v];simp
   rw[P];generalize I:(a.take j).map (ask p out M k)=L;have C:L.length<sizeLine:=Nh (m:=1000000) (by rw[<-I,Nu,Ei];lia) (by decide);have R:=WV (l:=k.2) (g:=gn M (sq out q)) (mi:=Qo (Qe wIx (Qb 1) (mC (.int 1)))) (σ:=uS k (some (.int q)) (some (.lst ((gn M (sq out q)).map .str))) (some (Y4 (mdS p (sq out q)))) d) (h:=[.dic (dJ p out M Q),.lst (L.map QfL)]) (c:=4) (by unfold Qo;simp[Zu];rfl) rfl E;refine⟨uS k (some (.int q)) (some (.lst ((gn M (sq out q)).map .str))) (some (Y4 (mdS p (sq out q)))) d,rfl,uS k (some (.int q)) (some (.lst ((gn M (sq out q)).map .str))) (some (Y4 (mdS p (sq out q)))) (some (.tup ((lf k.2 (gn M (sq out q))).map .str))),_,.inl ?_,_,_,_,_,rfl,rfl⟩
   cases G:inO (mdS p (sq out q)) k.2<;>simp[R,Zu,inT,G,C,QfL,ask,moI])
 obtain⟨B,T,z,t,s,r,d,rfl,rfl⟩:=f;rw[Nu,NI,Ew]at z;refine QgZ (o:=.dic (dJ p out M Q)) (j:=0) (g:=[.lst ((a.map (ask p out M k)).map QfL)]) (by simp) D Qio ?_ rfl Ql1
 have ei:Qo (mMt "dict" Qcs (Qb 0) (Qa (Qe wIx (Qb 1) (mC (.int 0))) (Qa (mFn Vq Qc) Qc))) (uS k none none none none) [.dic (dJ p out M Q),.lst []]=some (a.map (aW p out M),none,[.dic (dJ p out M Q),.lst []]):=by
  unfold Qo;simp[Zu,y,tyW];rfl
 simp[XM,Qz,Zm,ei,z]
end
theorem QaK{b:MG}{mt:MT}{h:MH}(e:j->W)(d:live src items h)(P:MSt->Prop)(g:j->Bool)(f:j->W):∀(xs:List j) (a:List W) (i:MSt),P i->(∀x∈xs,∀i,P i->∃c,b (e x) i h=some c/\P c/\mt c h=some (g x,h)/\(g x=true->me c h=some (f x,h)))->a.length+xs.length<=sizeLine->ZM fin items src b mt me (xs.map e) a i h=fin (a++(xs.filter g).map f) h
 |[],a,i,_,_,_=>by rw[EG];unfold ZM;rw[if_pos d];simp
 | x::xs,a,i,p,m,r=>by
  have q:a.length+(xs.length+1)<=sizeLine:=by simpa using r
  obtain⟨c,u,o,t,s⟩:=m x NA i p;rw[Nw];unfold ZM;rw[if_pos d,u,Ni,t,Ni];cases n:g x with
  |true=>
   simp only[s n,Ni];rw[if_pos (by lia),QaK e d P g f xs (a++[f x]) c o (fun y l=>m y (Ny _ l)) (by simp;lia)];simp[n]
  |false=>
   simp only;rw[QaK e d P g f xs a c o (fun y l=>m y (Ny _ l)) (by lia)];simp[n]
theorem WZ{b:MG}{mt:MT}{me:ME}{σ:MSt}{h:MH}{xs:List d}(c:d->W)(P:MSt->Prop)(g:d->Bool)(f:d->W)(m:mi σ h=some (xs.map c,src,h))(e:live src (xs.map c) h)(n:P (QfM cp σ))(j:∀x∈xs,∀i,P i->∃a,b (c x) i h=some a/\P a/\mt a h=some (g x,h)/\(g x=true->me a h=some (f x,h)))(l:xs.length<=sizeLine):QN fin mi cp b mt me σ h=fin ((xs.filter g).map f) h:=by
 unfold QN;rw[m,Ni,QaK c e P g f xs [] _ n j (by simpa using l)];simp
theorem QeT:∀(l:List Bool),Qks (l.map .bl)=some l
 |[]=>rfl
 |b::l=>by rw[Nw,Qks,QeT l];rfl
theorem Qe4{l:List Bool}:Qku [.lst (l.map .bl)] h=some (.bl (l.all id),h):=by
 unfold Qku;simp only[lsW,Ni,QeT,Ef]
theorem Gw:∀{a b:List Str},XG (a.map .str) (b.map .str)=decide (a=b)
 |[],[]=>by simp[XG]
 |[],_::_=>by simp[XG]
 |_::_,[]=>by simp[XG]
 |x::xs,y::c=>by
  rw[Nw,Nw,XG,Gw];show((x==y)&&_)=_;rw[EL];simp
theorem eqT{a b:List Str}:wEq (.tup (a.map .str)) (.tup (b.map .str)) h=some (.bl (decide (a=b)),h):=by
 have hd:∀l:List Str,dep (.tup (l.map .str))<=40:=fun l=>Nn (QjF (l:=l)) (by decide);rw[Qn9 (by unfold pln;exact Ja) (by unfold pln;exact Ja) (hd a) (hd b)];rw[show eqW (.tup (a.map .str)) (.tup (b.map .str))=XG (a.map .str) (b.map .str) by unfold eqW;rfl,Gw]
section
variable{bs ws:List Str}{p:List Pt}{out:List Spt}{M:List Mn}
def okA(D:Tb)(c:Int)(a:Ky×Int):Bool:=match vl D a.1 with
 |none=>false
 |some d=>decide (d+a.2<=c)
def Qi4(p:List Pt)(out:List Spt)(M:List Mn)(k:Ky):List (Ky×Int):=(wa (Eg p out out.length) k.1).map (ask p out M k)
def clK(p:List Pt)(out:List Spt)(M:List Mn)(D:Tb)(k:Ky):Bool:=match vl D k with
 |none=>false
 |some c=>(Qi4 p out M k).all (okA D c)
def psK(D:Tb)(k:Ky):Bool:=match vl D k with
 |none=>false
 |some c=>decide (0<=c)
theorem QjM:Qba (.dct (dT D))=true:=by
 show ZZ ((dT D).map (·.2))=true;unfold dT;rw[ES]
 induction D with
 |nil=>rfl
 |cons m Q a=>rw[Nw,Qd0,a];simp
noncomputable abbrev cS(k x3 x4:Option W):MSt:=[some (.ref 0),some (.ref 1),k,x3,x4]
theorem QeX(A:Al p out)(Z:∀e∈Eg p out out.length,e.2∈Q)(N:h[a]?=some (.dic (dJ p out M Q)))(S:h[b]?=some (.dct (dT D)))(L:a≠b)(s:D.map (·.1)=Ks)(X:∀k∈Ks,k.2.length<=1000):Z9 [.ref a,.ref b] h=some (.bl (Ks.all fun k=>psK D k&&clK p out M D k),h):=by
 have Y:Qu [a,b] [MO.dic (dJ p out M Q),.dct (dT D)] h=h:=by simp[Gc N,Gc S]
 have key:QG [.ref 0,.ref 1] [.dic (dJ p out M Q),.dct (dT D)]=some (.bl (Ks.all fun k=>psK D k&&clK p out M D k),[.dic (dJ p out M Q),.dct (dT D)]):=by
  have I:live (some (.d 1)) (Ks.map Zu) [.dic (dJ p out M Q),.dct (dT D)]:=by
   intro n U;cases U;exact⟨dT D,rfl,by rw[<-s];simp[dT]⟩
  have w:=Yu (items:=Ks.map Zu) (src:=some (.d 1)) (b:=Q2 2) (body:=JU) (v:=.bl false) Zu (fun k=>psK D k&&clK p out M D k) I (fun u=>∃O i f,u=cS O i f) Ks (cS none none none) ⟨none,none,none,rfl⟩ (by
   rintro k y u ⟨O,i,f,rfl⟩
   refine⟨cS (some (Zu k)) i f,rfl,?_⟩;obtain⟨c,J⟩:=XZ (s▸y);have B:=Qga (k:=k) (h:=[.dic (dJ p out M Q),.dct (dT D)]) (n:=1) rfl J;have ea:=Qg7 A Z (k:=k) (h:=[.dic (dJ p out M Q),.dct (dT D)]) (n:=0) rfl (X k y);have e2:clK p out M D k=(Qi4 p out M k).all (okA D c):=by unfold clK;rw[J]
   have e3:psK D k=decide (0<=c):=by unfold psK;rw[J]
   simp only[e2,e3]
   by_cases C:0<=c
   ·have j:¬c<0:=by exact Lv.mpr C
    have inner:=Yu (items:=(Qi4 p out M k).map QfL) (src:=none) (b:=Zb [3,4]) (body:=JT) (v:=.bl false) (h:=[.dic (dJ p out M Q),.dct (dT D)]) QfL (okA D c) (QA _ _) (fun u=>∃i f,u=cS (some (Zu k)) i f) (Qi4 p out M k) (cS (some (Zu k)) i f) ⟨i,f,rfl⟩ (by
     rintro a N u ⟨G,F,rfl⟩
     refine⟨cS (some (Zu k)) (some (Zu a.1)) (some (.int a.2)),rfl,?_⟩;have x:=Qkv (g:=true) (k:=a.1) (h:=[.dic (dJ p out M Q),.dct (dT D)]) (n:=1) rfl;cases t:vl D a.1 with
     |none=>
      rw[t]at x;refine .inr ⟨by unfold okA;rw[t],?_⟩;simp[x]
     | some d=>
      have P:=Qga (k:=a.1) (h:=[.dic (dJ p out M Q),.dct (dT D)]) (n:=1) rfl t;rw[t]at x
      by_cases hd:d+a.2<=c
      ·have l:¬c<d+a.2:=by exact Lv.mpr hd
       refine .inl ⟨by unfold okA;rw[t];simpa using hd,cS (some (Zu k)) (some (Zu a.1)) (some (.int a.2)),?_,⟨_,_,rfl⟩⟩;simp[x,P,B,l]
      ·have l:c<d+a.2:=by exact DF.mp hd
       refine .inr ⟨by unfold okA;rw[t];simpa using l,?_⟩
       simp[x,P,B,l])
    have ei:∀i f,Qo (Qi 2 Xk (Qa (Qb 0) (Qa (Qb 2) Qc))) (cS (some (Zu k)) i f) [.dic (dJ p out M Q),.dct (dT D)]=some ((Qi4 p out M k).map QfL,none,[.dic (dJ p out M Q),.dct (dT D)]):=fun i f=>by
     unfold Qo;simp[ea];unfold Qi4;rw[<-ES];rfl
    have z:=ei i f;rw[decide_eq_true C,Bool.true_and]
    rcases inner with⟨r,E,q,G,F,rfl⟩|⟨r,q⟩
    ·refine .inl ⟨r,cS (some (Zu k)) G F,?_,⟨_,_,_,rfl⟩⟩;simp[Zm,B,j,z,q]
    ·refine .inr ⟨r,?_⟩;simp[Zm,B,j,z,q]
   ·have j:c<0:=by exact DF.mp C
    refine .inr ⟨by rw[decide_eq_false C];rfl,?_⟩
    simp[B,j])
  have ei:Jl (Qb 1) (cS none none none) [.dic (dJ p out M Q),.dct (dT D)]=some (Ks.map Zu,some (.d 1),[.dic (dJ p out M Q),.dct (dT D)]):=by
   unfold Jl;rw[<-s];simp[dT]
  rcases w with⟨r,E,q,y2,G,F,rfl⟩|⟨r,q⟩
  ·rw[r];simp[QG,Qz,Zm,ei,q]
  ·rw[r];simp[QG,Qz,Zm,ei,q]
 have:=QdS (m:=QG) (args:=[.ref a,.ref b]) (as:=[.ref 0,.ref 1]) (ns:=[a,b]) (os:=[.dic (dJ p out M Q),.dct (dT D)]) (os':=[.dic (dJ p out M Q),.dct (dT D)]) (g:=[]) (h:=h) (by simp[Kn]) (by simpa using L) (by simp[Zl,Qc9,N,S,Qio,QjM]) key rfl (by
  intro o R;simp at R
  rcases R with rfl|rfl
  ·exact Qio
  ·exact QjM) rfl
 rw[Y]at this;exact this
theorem Qfh(b:l.length<=60)(c:St.uniq l=l)(h2:St.srt (St.uniq l)=l):VG [.tup (l.map .str)] h=some (.bl true,h):=by
 refine Qr (g:=[.lst (l.map .str)]) (by simp) ?_ rfl
 have d:XQ [.tup (l.map .str)] []=some (.ref 0,[.lst (l.map .str)]):=by
  unfold XQ;simp only[Qd6,Ni];rw[if_pos ⟨by exact Nh b (by decide),by rw[c];exact Nh b (by decide)⟩,h2];rfl
 have eq:wEq (.lst (l.map .str)) (.ref 0) [.lst (l.map .str)]=some (.bl true,[.lst (l.map .str)]):=by
  have a:=JW [.lst (l.map .str)] (l.map .str) 39 Ja (Nn Kh (by decide))
  have i:drf [.lst (l.map .str)] 40 (.lst (l.map .str))=some (.lst (l.map .str)):=by
   show(Zl (drf _ 39) (l.map .str)).map W.lst=_;rw[a];rfl
  have f:drf [.lst (l.map .str)] 40 (.ref 0)=some (.lst (l.map .str)):=by
   show(Zl (drf _ 39) (l.map .str)).map W.lst=_;rw[a];rfl
  unfold wEq;rw[i,f,Ni,Ef,UU _ (by unfold pln;exact Ja)]
 have e:Qa7 [.tup (l.map .str)] []=some (.lst (l.map .str),[]):=rfl;simp[Xd,Qz,e,d,eq]
end
noncomputable def QM(e:Ky×Int):W:=.tup [.int e.1.1,.tup (e.1.2.map .str),.int e.2]
@[simp]theorem Qo6{l:Tb}:ZZ (l.map QM)=true:=by
 induction l with
 |nil=>rfl
 |cons e l a=>simp[QM];exact a
structure TbOk(N:Nat)(Wd:List Str)(T:Tb):Prop where
 nd:(T.map (·.1)).Nodup
 lt:∀k∈T.map (·.1),k.1<N
 sub:∀k∈T.map (·.1),k.2.Sublist Wd
theorem Qfb{D:Tb}{k:Ky}{v:Int}(h:k∉D.map (·.1)):upT D k v=D++[(k,v)]:=by
 unfold upT;rw[U8 h];rfl
theorem QhX[DecidableEq f]:∀(a b:List f),a.Nodup->(∀y∈a,y∈b)->a.length<=b.length
 |[],b,_,_=>NV _
 |k::r,b,c,h=>by
  have e:=h k NA;rw[EB]at c;have:=QhX r (b.erase k) c.2 fun y d=>(IG (fun z=>c.1 (by rw[<-z];exact d))).mpr (h y (Ny _ d));rw[FF e]at this;have:=Dr e;rw[NM];lia
noncomputable def Qi2:List Str->List (List Str)
 |[]=>[[]]
 |x::r=>Qi2 r++(Qi2 r).map (x::·)
theorem Qcj:∀(l:List Str),(Qi2 l).length=2^l.length
 |[]=>rfl
 |x::r=>by rw[Qi2,NH,Nu,Qcj r,NM,Nat.pow_succ];lia
theorem QgN(h:a.Sublist b):a∈Qi2 b:=by
 induction h with
 |slnil=>exact NA
 |cons x _ c=>exact El _ c
 |cons_cons x _ c=>exact NR _ (Ee c)
theorem TbOk.len(h:TbOk N Wd T)(b:Wd.length<=5)(hN:N<=280010):T.length<=8960320:=by
 have d:=QhX (T.map (·.1)) ((List.range N).flatMap fun n=>(Qi2 Wd).map fun l=>(n,l)) h.nd fun k a=>Ij.mpr ⟨k.1,Ez.mpr (h.lt k a),NL.mpr ⟨k.2,QgN (h.sub k a),rfl⟩⟩
 have c:((List.range N).flatMap fun n=>(Qi2 Wd).map fun l=>(n,l)).length<=32*(List.range N).length:=UJ _ fun n _=>by
  rw[Nu,Qcj];exact Nat.pow_le_pow_right (by decide) b
 rw[EJ]at c;rw[Nu]at d;lia
theorem szB(h:n<=10000000):n<sizeLine:=Nh h (by decide)
section
variable{bs ws:List Str}{p:List Pt}{out:List Spt}{M:List Mn}
abbrev sS(p:List Pt)(M:List Mn)(num:Int)(T:Tb)(x5 x6 x7 x8:Option W):MSt:=[some (Q6 p),some (.lst (M.map Jt)),some (.int num),some (.lst (T.map QM)),some (.ref 0),x5,x6,x7,x8]
def S1(N:Nat)(Wd:List Str)(D:Tb):Bool:=(List.range N).all fun n=>(vl D (n,Wd)).isSome
def S2(Wd:List Str)(D:Tb)(num:Int):Bool:=((D.map (·.1)).filter fun k=>decide (k.2=Wd)).all fun k=>decide ((vl D k).getD 0<=num)
theorem Qgv(X:GoodP 300 bs ws p)(E:ws.length<=5)(A:Al p out)(hM:M.length<=100000){T:Tb}(O:TbOk out.length (Wds p) T)(num:Int)(h:MH) :
  Xm [Q6 p,.lst (M.map Jt),.int num,.lst (T.map QM)] h=some (.bl (S1 out.length (Wds p) T&&(S2 (Wds p) T num&&(T.map (·.1)).all fun k=>psK T k&&clK p out M T k)),h):=by
 have x:=A.few;obtain⟨_,w5,wn,wr⟩:=YW X E;obtain⟨Q,hQ,eQ⟩:=QaL X A hM;have u:=O.len w5 x;have kl:∀k∈T.map (·.1),k.2.length<=5:=fun k J=>Nn (O.sub k J).length_le w5
 have C:=Q3 (items:=T.map QM) (b:=Zb [5,6,7]) (body:=XX) (fun n B h=>∃(r q m:Option W),B=sS p M num T r q m none/\h=[.dct (dT (T.take n))])
  (T.map QM) 0 (sS p M num T none none none none) [.dct (dT [])] ⟨none,none,none,rfl,rfl⟩ (by
   rintro j w hj B h ⟨r,q,m,rfl,rfl⟩
   rw[Np]at hj;obtain⟨e,Y,rfl⟩:=Nd.mp hj;have ab:=(Nf.mp Y).1;rw[NI]at *;have L:e.1∈T.map (·.1):=Ee (NC.mpr ⟨j,Y⟩);have et:T.take (j+1)=T.take j++[e]:=by rw[Dq,Y];simp
   have H:e.1∉(T.take j).map (·.1):=fun z=>by
    have I:=O.nd.sublist ((Lk (j+1) T).map (·.1));rw[et,N6,Ek]at I;exact I.2.2 _ z e.1 (by simp) rfl
   have hl:(T.take j).length<sizeLine:=szB (by rw[Ei];exact Nr (Nh (Nn (E7 _ _) u) (by decide)));refine⟨sS p M num T (some (.int e.1.1)) (some (.tup (e.1.2.map .str))) (some (.int e.2)) none,rfl,sS p M num T (some (.int e.1.1)) (some (.tup (e.1.2.map .str))) (some (.int e.2)) none,_,.inl ?_,_,_,_,rfl,rfl⟩;have t:=Qkv (g:=false) (D:=T.take j) (k:=e.1) (h:=[.dct (dT (T.take j))]) (n:=0) rfl;rw[U8 H]at t;have S:=Qes (D:=T.take j) (k:=e.1) (v:=e.2) (h:=[.dct (dT (T.take j))]) (n:=0) rfl hl;rw[Qfb H]at S;obtain⟨u1,u2⟩:=Qcy (O.sub _ L) wn wr;have ir:∀h,VG [.tup (e.1.2.map .str)] h=some (.bl true,h):=fun h=>Qfh (Nn (kl _ L) (by decide)) u1 u2;rw[et];unfold Zu at t S
   simp[t,S,ir,KB])
 obtain⟨aa,h',N,r,q,m,rfl,rfl⟩:=C;rw[Nu,NI,Ew]at N
 have P:QN Jn (Wi (Qa (mFn JB (Qa (Qi 1 Jj (Qa (Qb 0) Qc)) Qc)) Qc)) [none,some 4,some 8] (Q2 0) Kl (Qe (UI false) (mFn QU (Qa (Qb 0) (Qa (Qb 2) Qc))) (Qb 1)) (sS p M num T r q m (some (.tup ((Wds p).map .str)))) [.dct (dT T)]=some (.lst (((List.range out.length).map fun n=>(vl T (n,Wds p)).isSome).map .bl),[.dct (dT T)]):=by
  have er:Wi (Qa (mFn JB (Qa (Qi 1 Jj (Qa (Qb 0) Qc)) Qc)) Qc) (sS p M num T r q m (some (.tup ((Wds p).map .str)))) [.dct (dT T)]=some ((List.range out.length).map KC,none,[.dct (dT T)]):=by
   have:=VP (ms:=Qa (mFn JB (Qa (Qi 1 Jj (Qa (Qb 0) Qc)) Qc)) Qc) (σ:=sS p M num T r q m (some (.tup ((Wds p).map .str)))) (h:=[.dct (dT T)]) (h':=[.dct (dT T)]) (j:=out.length) (by simp[A.s]) (Nh x (by decide));rw[this];unfold Qt KC;simp
  rw[WZ KC (fun y=>∃o,y=[o,some (.ref 0),some (.tup ((Wds p).map .str))]) (fun _=>true) (fun n=>.bl (vl T (n,Wds p)).isSome) er (QA _ _) ⟨none,rfl⟩ (by
   rintro n I y ⟨o,rfl⟩
   refine⟨[some (.int n),some (.ref 0),some (.tup ((Wds p).map .str))],rfl,⟨_,rfl⟩,rfl,fun _=>?_⟩;have t:=Qkv (g:=false) (D:=T) (k:=(n,Wds p)) (h:=[.dct (dT T)]) (n:=0) rfl;unfold Zu at t
   simp[t]) (by rw[EJ];exact Xi (Nr (Nh x (by decide))))]
  rw[Dm.mpr fun _ _=>rfl,ES];rfl
 have U:live (some (.d 0)) ((T.map (·.1)).map Zu) [.dct (dT T)]:=by
  intro n I;cases I;exact⟨dT T,rfl,by simp[dT]⟩
 have c2:QN Jn (Jl (Qb 4)) [none,some 2,some 4,some 8] (Q2 0) (Qj (Qe wEq (Qe wIx (Qb 0) (mC (.int 1))) (Qb 3))) (Qe wLe (Qe U2 (Qb 2) (Qb 0)) (Qb 1)) (sS p M num T r q m (some (.tup ((Wds p).map .str)))) [.dct (dT T)]=some (.lst ((((T.map (·.1)).filter fun k=>decide (k.2=Wds p)).map fun k=>decide ((vl T k).getD 0<=num)).map .bl),[.dct (dT T)]):=by
  have er:Jl (Qb 4) (sS p M num T r q m (some (.tup ((Wds p).map .str)))) [.dct (dT T)]=some ((T.map (·.1)).map Zu,some (.d 0),[.dct (dT T)]):=by
   unfold Jl;simp[dT]
  rw[WZ Zu (fun y=>∃o,y=[o,some (.int num),some (.ref 0),some (.tup ((Wds p).map .str))]) (fun k=>decide (k.2=Wds p)) (fun k=>.bl (decide ((vl T k).getD 0<=num))) er U ⟨none,rfl⟩ (by
   rintro k J y ⟨o,rfl⟩
   refine⟨[some (Zu k),some (.int num),some (.ref 0),some (.tup ((Wds p).map .str))],rfl,⟨_,rfl⟩,?_,fun _=>?_⟩
   ·simp[Zu,eqT]
   ·obtain⟨c,hc⟩:=XZ J;have t:=Qga (k:=k) (h:=[.dct (dT T)]) (n:=0) rfl hc
    simp[t,hc]) (by rw[Nu];exact Nr (szB (Nr (Nh u (by decide)))))]
  rw[ES];rfl
 have a1:((List.range out.length).map fun n=>(vl T (n,Wds p)).isSome).all id=S1 out.length (Wds p) T:=by unfold S1;rw[Iz];rfl
 have a2:(((T.map (·.1)).filter fun k=>decide (k.2=Wds p)).map fun k=>decide ((vl T k).getD 0<=num)).all id=S2 (Wds p) T num:=by unfold S2;rw[Iz];rfl
 have ec:=QeX A hQ (M:=M) (D:=T) (h:=[.dct (dT T),.dic (dJ p out M Q)]) (a:=1) (b:=0) rfl rfl (by decide) rfl (fun k J=>Nn (kl k J) (by decide));have ei:Qo (Qb 3) (sS p M num T none none none none) [.dct []]=some (T.map QM,none,[.dct []]):=rfl;have eu:JS [.lst ((Wds p).map .str)] [.dct (dT T)]=some (.tup ((Wds p).map .str),[.dct (dT T)]):=rfl;have R:∀B,WS B []=some (.ref 0,[.dct []]):=fun _=>rfl;have f:=Qe4 (l:=(List.range out.length).map fun n=>(vl T (n,Wds p)).isSome) (h:=[.dct (dT T)]);have i:=Qe4 (l:=((T.map (·.1)).filter fun k=>decide (k.2=Wds p)).map fun k=>decide ((vl T k).getD 0<=num)) (h:=[.dct (dT T)]);rw[a1]at f;rw[a2]at i;rw[show([.dct (dT [])]:MH)=[.dct []]from rfl]at N;generalize((List.range out.length).map fun n=>(vl T (n,Wds p)).isSome).map W.bl=v1 at P f;generalize(((T.map (·.1)).filter fun k=>decide (k.2=Wds p)).map fun k=>decide ((vl T k).getD 0<=num)).map W.bl=v2 at c2 i;generalize hz:((T.map (·.1)).all fun k=>psK T k&&clK p out M T k)=z at ec;refine Qr (g:=if S1 out.length (Wds p) T=true/\S2 (Wds p) T num=true then[.dct (dT T),.dic (dJ p out M Q)]else[.dct (dT T)]) (by simp) ?_ rfl;have Z:=Qbb X E;cases G:S1 out.length (Wds p) T with
 |false=>rw[G]at f;simp[ZK,Qz,Zm,R,ei,N,Z,eu,P,f]
 |true=>
  rw[G]at f;cases F:S2 (Wds p) T num with
  |false=>rw[F]at i;simp[ZK,Qz,Zm,R,ei,N,Z,eu,P,f,c2,i]
  |true=>rw[F]at i;simp[ZK,Qz,Zm,R,ei,N,Z,eu,P,f,c2,i,eQ,ec]
end
theorem Qgi(a:ZZ ws=true)(e:m ws []=some (.ref j,g))(c:g[j]?=some o)(b:Qba o=true):box frR m ws h=some (.ref h.length,h++[o]):=by
 unfold box;rw[X3 a,Ni];unfold Qdb;rw[if_pos Ea];simp only[Zl,Ni,e];rw[if_pos ⟨by simp[frR],by simp[frR]⟩];simp[frR,th,res,Xn,Zl,Qu,c,Qbc _ o b]
theorem QgR(a:ZZ ws=true)(e:m ws []=some (.non,g)):box frR m ws h=some (.non,h):=by
 unfold box;rw[X3 a,Ni];unfold Qdb;rw[if_pos Ea];simp only[Zl,Ni,e];rw[if_pos ⟨by simp[frR],by simp[frR]⟩];simp[frR,th,Zl,Qu]
theorem QbH:JV [.int i] h=some (.bl true,h):=by
 refine Qr (g:=[]) (by simp) ?_ rfl;have b:X2 "int" "int"=true:=by decide
 have a:X2 "int" "bool"=false:=by decide
 simp[VL,Qz,QnL,Qn2,b,a]
noncomputable def B0(T:Tb):Bool:=T.all fun e=>decide (0<=e.2)
abbrev eS(T:Tb)(N:Nat)(x3:Option W):MSt:=[some (.lst (T.map QM)),some (.int N),some (.ref 0),x3]
section
variable{N:Nat}{Wd:List Str}{T:Tb}
theorem QkP(d:TbOk N Wd T)(c:T[j]?=some e):e.1∉(T.take j).map (·.1)/\T.take (j+1)=T.take j++[e]:=by
 have b:T.take (j+1)=T.take j++[e]:=by rw[Dq,c];simp
 refine⟨fun z=>?_,b⟩;have a:=d.nd.sublist ((Lk (j+1) T).map (·.1));rw[b,N6,Ek]at a;exact a.2.2 _ z e.1 (by simp) rfl
theorem Gg(r:TbOk N Wd T)(x:Wd.length<=5)(hN:N<=280010)(t:T[j]?=some e) :
  Zz (eS T N (some (QM e))) [.dct (dT (T.take j))]=if 0<=e.2 then some (.nx (eS T N (some (QM e))) [.dct (dT (T.take (j+1)))])else some (.rt .non [.dct (dT (T.take j))]):=by
 obtain⟨f,y⟩:=QkP r t;have l:=r.len x hN;have q:e.1∈T.map (·.1):=Ee (NC.mpr ⟨j,t⟩);have i:=r.lt _ q;have w:(T.take j).length<sizeLine:=szB (by rw[Ei];exact Nr (Nh (Nn (E7 _ _) l) (by decide)));have m:=Qkv (g:=false) (D:=T.take j) (k:=e.1) (h:=[.dct (dT (T.take j))]) (n:=0) rfl;rw[U8 f]at m;have p:=Qes (D:=T.take j) (k:=e.1) (v:=e.2) (h:=[.dct (dT (T.take j))]) (n:=0) rfl w;rw[Qfb f]at p;unfold Zu at m p;have s:X2 "tuple" "tuple"=true:=by decide
 have u:∀a b c:W,Ux [a,b,c] none (some 2)=[a,b]:=fun _ _ _=>rfl
 by_cases o:0<=e.2
 ·have d:¬e.2<0:=by exact Lv.mpr o
  rw[if_pos o,y];simp[QM,s,QaB,QbH,m,p,u,i,d,KB]
 ·have d:e.2<0:=by exact DF.mp o
  rw[if_neg o];simp[QM,s,QaB,QbH,m,u,i,d]
theorem Qcx(x:TbOk N Wd T)(y:Wd.length<=5)(hN:N<=280010)(h:MH):Vd [.lst (T.map QM),.int N] h=if B0 T=true then some (.ref h.length,h++[.dct (dT T)])else some (.non,h):=by
 have ei:Qo (Qb 0) (eS T N none) [.dct []]=some (T.map QM,none,[.dct []]):=rfl;have A:∀d,WS d []=some (.ref 0,[.dct []]):=fun _=>rfl
 by_cases f:B0 T=true
 ·rw[if_pos f];unfold B0 at f;rw[Eh]at f
  have a:=Q3 (items:=T.map QM) (b:=Q2 3) (body:=Zz) (fun n d h=>∃o,d=eS T N o/\h=[.dct (dT (T.take n))]) (T.map QM) 0 (eS T N none) [.dct (dT [])] ⟨none,rfl,rfl⟩ (by
   rintro j w l d h ⟨o,rfl,rfl⟩
   rw[Np]at l;obtain⟨e,c,rfl⟩:=Nd.mp l;rw[NI]at *;have:=Gg x y hN c;rw[if_pos (by simpa using f e (NC.mpr ⟨j,c⟩))]at this
   exact⟨_,rfl,_,_,.inl this,_,rfl,rfl⟩)
  obtain⟨D,G,C,o,rfl,rfl⟩:=a;rw[Nu,NI,Ew,show([.dct (dT [])]:MH)=[.dct []]from rfl]at C;refine Qgi (j:=0) (g:=[.dct (dT T)]) (by simp) ?_ rfl QjM;simp[ZT,Qz,Zm,A,ei,C]
 ·rw [if_neg f]
  have E:∃e∈T,decide (e.2<0)=true:=by
   unfold B0 at f;rw[Eh]at f
   by_cases q:∃e∈T,decide (e.2<0)=true
   ·exact q
   ·exact absurd (fun e c=>by
     by_cases z:e.2<0
     ·exact absurd ⟨e,c,by simpa using z⟩ q
     ·simpa using z) f
  have t:=List.findIdx_lt_length_of_exists E;have s:=List.findIdx_getElem (w:=t);generalize v:T.findIdx (fun e=>decide (e.2<0))=m at t s
  have a:=GJ (items:=T.map QM) (b:=Q2 3) (body:=Zz) (fun n d h=>∃o,d=eS T N o/\h=[.dct (dT (T.take n))]) .non [.dct (dT (T.take m))] (T.map QM) 0 m (eS T N none) [.dct (dT [])] ⟨none,rfl,rfl⟩ (by simpa using t) (by
   rintro j w u l d h ⟨o,rfl,rfl⟩
   rw[Np]at l;obtain⟨e,c,rfl⟩:=Nd.mp l;rw[NI]at *;have:=Gg x y hN c;have B:=List.not_of_lt_findIdx (xs:=T) (p:=fun e=>decide (e.2<0)) (i:=j) (Nk u (Nt v.symm));have r:T[j]'(N4 u t)=e:=(Nf.mp c).2;rw[r]at B;rw[if_pos (by simpa using B)]at this;exact⟨_,rfl,_,_,this,_,rfl,rfl⟩) (by
   rintro w l d h ⟨o,rfl,rfl⟩
   rw[Np]at l;obtain⟨e,c,rfl⟩:=Nd.mp l;rw[NI]at *;have:=Gg x y hN c;have r:T[m]'t=e:=(Nf.mp c).2;rw[r]at s;rw[if_neg (by simpa using s)]at this
   exact⟨_,rfl,this⟩)
  rw[show([.dct (dT [])]:MH)=[.dct []]from rfl]at a;refine QgR (g:=[.dct (dT (T.take m))]) (by simp) ?_;simp[ZT,Qz,Zm,A,ei,a]
end
section
variable{bs ws:List Str}{p:List Pt}{out:List Spt}{M:List Mn}
def lsA(p:List Pt)(out:List Spt):W:=.lst ((List.range out.length).map fun m=>.lst ((wa (Eg p out out.length) m).map KC))
theorem QpJ(h:m<out.length):atI ((List.range out.length).map fun m=>W.lst ((wa (Eg p out out.length) m).map KC)) (m:Int)=some (.lst ((wa (Eg p out out.length) m).map KC)):=by rw[QO,Np,Em h];rfl
def b1(Wd:List Str)(T:Tb)(num:Int)(n:Nat):Bool:=match vl T (n,Wd)with
 |none=>false
 |some c=>decide (c<=num)
abbrev zS(p:List Pt)(out:List Spt)(M:List Mn)(T:Tb)(num:Int)(x8 x9 x10 x11 x12 c b a:Option W):MSt:=[some (Q6 p),some (ZH p),some (.lst (M.map Jt)),some (.lst (T.map QM)),some (.int num),some (.lst (out.map Ql)),some (.tup ((Wds p).map .str)),some (.ref 0),x8,x9,x10,x11,x12,c,b,a]
theorem Qlc(A:Al p out)(h:q∈wa (Eg p out out.length) m):q<out.length:=by
 unfold wa at h;obtain⟨e,a,rfl⟩:=NL.mp h;exact(QkI A (Nz _) e (Ft.mp a).1).1
theorem Qeg(E:GoodP 300 bs ws p)(G:M.length<=100000)(A:Al p out){T:Tb}{num:Int}{k:Ky}{c:Int}(F:vl T k=some c)(s:k.2.length<=1000){q:Nat}(C:q<out.length)(x12 j i f:Option W) :
  ∃σ2,(okA T c (ask p out M k q)=true->σ2=zS p out M T num (some (.int k.1)) (some (lsA p out)) (some (.tup (k.2.map .str))) (some (.int q)) (some (.lst ((gn M (sq out q)).map .str))) (some (.tup ((lf k.2 (gn M (sq out q))).map .str))) (some (.int (moI (mdS p (sq out q)) k.2))) (some (.int c))) /\
  Vj (zS p out M T num (some (.int k.1)) (some (lsA p out)) (some (.tup (k.2.map .str))) (some (.int q)) x12 j i f) [.dct (dT T)]=if okA T c (ask p out M k q)=true then some (.nx σ2 [.dct (dT T)])else some (.rt (.bl false) [.dct (dT T)]):=by
 refine⟨_,fun _=>rfl,?_⟩;have B:∀h,Zc [.lst (M.map Jt),Ql (sq out q)] h=some (.lst ((gn M (sq out q)).map .str),h):=fun h=>Qbq G;have z:∀h,Zn [Q6 p,Ql (sq out q)] h=some (Y4 (mdS p (sq out q)),h):=fun h=>Qew E (A.rc _ (WR C)).v;have u:=WV (l:=k.2) (g:=gn M (sq out q)) (mi:=Qo (Qb 10)) (σ:=zS p out M T num (some (.int k.1)) (some (lsA p out)) (some (.tup (k.2.map .str))) (some (.int q)) (some (.lst ((gn M (sq out q)).map .str))) j i f) (h:=[.dct (dT T)]) (c:=12) rfl rfl s;have y:=QmV C;have m:=Qga (k:=k) (h:=[.dct (dT T)]) (n:=0) rfl F;have e:=Qkv (g:=true) (D:=T) (k:=(q,lf k.2 (gn M (sq out q)))) (h:=[.dct (dT T)]) (n:=0) rfl;have x:(if inO (mdS p (sq out q)) k.2=true then(1:Int)else 0)=moI (mdS p (sq out q)) k.2:=rfl;have r:okA T c (ask p out M k q)=match vl T (q,lf k.2 (gn M (sq out q)))with|none=>false|some d=>decide (d+moI (mdS p (sq out q)) k.2<=c):=rfl
 have t:∀(b:Bool) h,Qkr [.bl b] h=some (.int (if b=true then 1 else 0),h):=fun b h=>rfl;rw[r];cases o:vl T (q,lf k.2 (gn M (sq out q)))with
 |none=>
  rw[o]at e;unfold Zu at m e;simp[B,z,u,y,inT,t,x,m,e]
 | some d=>
  rw[o]at e;have w:=Qga (k:=(q,lf k.2 (gn M (sq out q)))) (h:=[.dct (dT T)]) (n:=0) rfl o;unfold Zu at m e w
  by_cases hd:d+moI (mdS p (sq out q)) k.2<=c
  ·have a:¬c<d+moI (mdS p (sq out q)) k.2:=by exact Lv.mpr hd
   simp[B,z,u,y,inT,t,x,m,e,w,hd,a]
  ·have a:c<d+moI (mdS p (sq out q)) k.2:=by exact DF.mp hd
   simp[B,z,u,y,inT,t,x,m,e,w,hd,a]
theorem QgJ(hg:GoodP 300 bs ws p)(N:ws.length<=5)(A:Al p out)(hM:M.length<=100000)(hT:TbOk out.length (Wds p) T)(num:Int)(h:MH) :
  Xe [Q6 p,ZH p,.lst (M.map Jt),.lst (T.map QM),.int num] h=some (.bl (B0 T&&((List.range out.length).all (b1 (Wds p) T num)&&(T.map (·.1)).all (clK p out M T))),h):=by
 have R:=A.few;obtain⟨_,w5,wn,wr⟩:=YW hg N;have kl:∀k∈T.map (·.1),k.2.length<=5:=fun k Q=>Nn (hT.sub k Q).length_le w5;have X:=Y9 hg N;have Y:∀h,JS [.lst ((Wds p).map .str)] h=some (.tup ((Wds p).map .str),h):=fun _=>rfl;have z:=Qcx hT w5 R [];have Z:=A.a;cases hb:B0 T with
 |false=>
  rw[hb]at z;refine Qr (g:=[]) (by simp) ?_ rfl;simp at z;simp[Zg,Qz,Z,X,Y,z]
 | true=>
  rw[hb]at z;simp only[if_true,Fv,DX]at z
  have L:=Yu (items:=(List.range out.length).map KC) (src:=none) (b:=Q2 8) (body:=Xz) (v:=.bl false) (h:=[.dct (dT T)]) KC (b1 (Wds p) T num) (QA _ _) (fun x=>∃y,x=zS p out M T num y none none none none none none none) (List.range out.length) (zS p out M T num none none none none none none none none) ⟨_,rfl⟩ (by
   rintro n hn x ⟨y,rfl⟩
   refine⟨zS p out M T num (some (.int n)) none none none none none none none,rfl,?_⟩;have F:=Qkv (g:=true) (D:=T) (k:=(n,Wds p)) (h:=[.dct (dT T)]) (n:=0) rfl;cases G:vl T (n,Wds p)with
   |none=>
    rw[G]at F;unfold Zu at F;refine .inr ⟨by unfold b1;rw[G],?_⟩;simp[F]
   | some c=>
    have i2:=Qga (k:=(n,Wds p)) (h:=[.dct (dT T)]) (n:=0) rfl G;rw[G]at F;unfold Zu at F i2
    by_cases hd:c<=num
    ·have w:¬num<c:=by exact Lv.mpr hd
     refine .inl ⟨by unfold b1;rw[G];simpa using hd,zS p out M T num (some (.int n)) none none none none none none none,?_,⟨_,rfl⟩⟩;simp[F,i2,w]
    ·have w:num<c:=by exact DF.mp hd
     refine .inr ⟨by unfold b1;rw[G];simpa using w,?_⟩
     simp[F,i2,w])
  have er:Wi (Qa (mFn JB (Qa (Qb 5) Qc)) Qc) (zS p out M T num none none none none none none none none) [.dct (dT T)]=some ((List.range out.length).map KC,none,[.dct (dT T)]):=by
   rw[VP (j:=out.length) (h':=[.dct (dT T)]) (by simp) (Nh R (by decide))];unfold Qt KC;simp
  have E:KS (.ref 0)=false:=rfl
  rcases L with⟨r1,H,U,y,rfl⟩|⟨r1,U⟩
  ·rw [r1];generalize u:T.map (·.1)=Ks;rw[u]at kl;have P:=hT.lt;rw[u]at P
   have ab:live (some (.d 0)) (Ks.map Zu) [.dct (dT T)]:=by
    intro n hn;cases hn;exact⟨dT T,rfl,by rw[<-u];simp[dT]⟩
   have C:=Yu (items:=Ks.map Zu) (src:=some (.d 0)) (b:=Zb [8,10]) (body:=X1) (v:=.bl false) (h:=[.dct (dT T)]) Zu (clK p out M T) ab (fun x=>∃y I m l i f e,x=zS p out M T num y (some (lsA p out)) I m l i f e) Ks (zS p out M T num y (some (lsA p out)) none none none none none none) ⟨_,_,_,_,_,_,_,rfl⟩ (by
    rintro k Q x ⟨y,I,m,l,i,f,e,rfl⟩
    refine⟨zS p out M T num (some (.int k.1)) (some (lsA p out)) (some (.tup (k.2.map .str))) m l i f e,rfl,?_⟩;obtain⟨c,hc⟩:=XZ (u▸Q)
    have e2:clK p out M T k=(wa (Eg p out out.length) k.1).all fun q=>okA T c (ask p out M k q):=by
     unfold clK Qi4;rw[hc];simp only[Iz];rfl
    rw[e2];have S:=QpJ (p:=p) (P k Q);have O:∀q∈wa (Eg p out out.length) k.1,q<out.length:=fun q hq=>Qlc A hq;generalize wa (Eg p out out.length) k.1=qs at S O
    have inner:=Yu (items:=qs.map KC) (src:=none) (b:=Q2 11) (body:=Vj) (v:=.bl false) (h:=[.dct (dT T)]) KC (fun q=>okA T c (ask p out M k q)) (QA _ _) (fun x=>∃m l i f e,x=zS p out M T num (some (.int k.1)) (some (lsA p out)) (some (.tup (k.2.map .str))) m l i f e) qs (zS p out M T num (some (.int k.1)) (some (lsA p out)) (some (.tup (k.2.map .str))) m l i f e) ⟨_,_,_,_,_,rfl⟩ (by
     rintro q hq x ⟨B,t,s,r,o,rfl⟩
     refine⟨zS p out M T num (some (.int k.1)) (some (lsA p out)) (some (.tup (k.2.map .str))) (some (.int q)) t s r o,rfl,?_⟩;obtain⟨aa,f1,f2⟩:=Qeg (num:=num) hg hM A hc (Nn (kl k Q) (by decide)) (O q hq) t s r o;cases ho:okA T c (ask p out M k q)with
     |true=>
      rw[if_pos ho]at f2;exact .inl ⟨rfl,aa,f2,by rw[f1 ho];exact⟨_,_,_,_,_,rfl⟩⟩
     |false=>
      rw[if_neg (by rw[ho];decide)]at f2
      exact .inr ⟨rfl,f2⟩)
    have ei:Qo (Qe wIx (Qb 9) (Qb 8)) (zS p out M T num (some (.int k.1)) (some (lsA p out)) (some (.tup (k.2.map .str))) m l i f e) [.dct (dT T)]=some (qs.map KC,none,[.dct (dT T)]):=by
     unfold Qo lsA;simp[S];rfl
    rcases inner with⟨q1,H,q2,B,t,s,r,o,rfl⟩|⟨q1,q2⟩
    ·refine .inl ⟨q1,zS p out M T num (some (.int k.1)) (some (lsA p out)) (some (.tup (k.2.map .str))) B t s r o,?_,⟨_,_,_,_,_,_,_,rfl⟩⟩;simp[Zm,ei,q2]
    ·refine .inr ⟨q1,?_⟩
     simp[Zm,ei,q2])
   have ea:∀h,Za [Q6 p,ZH p,.lst (out.map Ql)] h=some (lsA p out,h):=fun h=>Qb8 A h
   have ek:Jl (Qb 7) (zS p out M T num y (some (lsA p out)) none none none none none none) [.dct (dT T)]=some (Ks.map Zu,some (.d 0),[.dct (dT T)]):=by
    unfold Jl;rw[<-u];simp[dT]
   refine Qr (g:=[.dct (dT T)]) (by simp) ?_ rfl
   rcases C with⟨r3,H,r4,y8,ae,B,t,s,r,o,rfl⟩|⟨r3,r4⟩
   ·rw[r3];simp[Zg,Qz,Zm,Z,X,Y,z,E,er,U,ea,ek,r4]
   ·rw[r3];simp[Zg,Qz,Zm,Z,X,Y,z,E,er,U,ea,ek,r4]
  ·rw[r1];refine Qr (g:=[.dct (dT T)]) (by simp) ?_ rfl;simp[Zg,Qz,Zm,Z,X,Y,z,E,er,U]
end
section
variable{bs ws:List Str}{p:List Pt}{out:List Spt}{M:List Mn}
theorem QiC(m:TbOk N Wd T)(num:Int):(S1 N Wd T&&(S2 Wd T num&&(T.map (·.1)).all fun k=>psK T k&&clK p out M T k))=(B0 T&&((List.range N).all (b1 Wd T num)&&(T.map (·.1)).all (clK p out M T))):=by
 have o:(∀k∈T.map (·.1),psK T k=true)↔B0 T=true:=by
  unfold B0;rw[Eh];constructor
  ·intro h e i;have:=h e.1 (Ee i);unfold psK at this;rw[QiW m.nd i]at this;exact this
  ·intro h k f;obtain⟨e,i,rfl⟩:=NL.mp f;unfold psK;rw[QiW m.nd i];exact h e i
 rw[EL];simp only[NJ];rw[<-o]
 have r:S1 N Wd T=true/\S2 Wd T num=true↔(List.range N).all (b1 Wd T num)=true:=by
  unfold S1 S2;simp only[Eh,Ez,Ft,decide_eq_true_eq];constructor
  ·rintro⟨a,b⟩ n j
   obtain⟨c,g⟩:=Ly.mp (a n j);have:=b (n,Wd) ⟨Ee (QhO g),rfl⟩;unfold b1;rw[g]at this ⊢;simpa using this
  ·intro h;constructor
   ·intro n j;have:=h n j;unfold b1 at this;split at this
    ·cases this
    ·rename_i c g;rw[g];rfl
   ·rintro⟨n,l⟩ ⟨f,e⟩
    simp only at e;subst e;have:=h n (m.lt _ f);unfold b1 at this;split at this
    ·cases this
    ·rename_i c g;rw[g];simpa using this
 have q:((T.map (·.1)).all fun k=>psK T k&&clK p out M T k)=true↔(∀k∈T.map (·.1),psK T k=true)/\(T.map (·.1)).all (clK p out M T)=true:=by
  simp only[Eh,NJ];exact⟨fun h=>⟨fun k f=>(h k f).1,fun k f=>(h k f).2⟩,fun h k f=>⟨h.1 k f,h.2 k f⟩⟩
 rw[q,<-r];constructor
 ·rintro⟨a,b,c,d⟩;exact⟨c,⟨a,b⟩,d⟩
 ·rintro⟨c,⟨a,b⟩,d⟩;exact⟨a,b,c,d⟩
theorem Qkc{D:Tb}{k:Ky}{v:Int}:(upT D k v).map (·.1)=if k∈D.map (·.1)then D.map (·.1)else D.map (·.1)++[k]:=by
 by_cases h:k∈D.map (·.1)
 ·obtain⟨c,a⟩:=XZ h;unfold upT;rw[if_pos h,a];simp only[Option.isSome_some,if_true,ES];refine OJ fun e _=>?_;simp only[EZ];split<;>rfl
 ·rw[if_neg h,Qfb h,N6];rfl
structure TI(N:Nat)(Wd:List Str)(K0:List Ky)(D:Tb):Prop where
 ok:TbOk N Wd D
 has:∀k∈K0,k∈D.map (·.1)
theorem TI.up{N:Nat}{Wd:List Str}{g:List Ky}{D:Tb}(I:TI N Wd g D){k:Ky}{v:Int}(j:k.1<N)(h2:k.2.Sublist Wd):TI N Wd (k::g) (upT D k v):=by
 have f:=Qkc (D:=D) (k:=k) (v:=v)
 have c:∀x,x∈(upT D k v).map (·.1)↔x∈D.map (·.1)\/x=k:=by
  intro x;rw[f];split
  ·rename_i z;exact⟨.inl,fun q=>q.elim id fun e=>by rw[e];exact z⟩
  ·rw[NT,NF]
 refine⟨⟨?_,fun x d=>?_,fun x d=>?_⟩,fun x d=>?_⟩
 ·rw[f];split
  ·exact I.ok.nd
  ·rename_i z;rw[Ek];exact⟨I.ok.nd,by simp,fun a i b h=>by rw[NF.mp h];exact fun e=>z (by rw[<-e];exact i)⟩
 ·rcases(c x).mp d with z|rfl
  ·exact I.ok.lt x z
  ·exact j
 ·rcases(c x).mp d with z|rfl
  ·exact I.ok.sub x z
  ·exact h2
 ·rcases NE.mp d with rfl|z
  ·exact(c _).mpr (.inr rfl)
  ·exact(c _).mpr (.inl (I.has x z))
theorem TI.less(I:TI N Wd c D)(h:∀k∈b,k∈c):TI N Wd b D:=⟨I.ok,fun k a=>I.has k (h k a)⟩
def sdT(D:Tb)(k:Ky):Tb:=if k∈D.map (·.1)then D else upT D k 0
theorem TI.sd{N:Nat}{Wd:List Str}{a:List Ky}{D:Tb}(I:TI N Wd a D){k:Ky}(c:k.1<N)(h2:k.2.Sublist Wd):TI N Wd (k::a) (sdT D k):=by
 unfold sdT;split
 ·rename_i z;exact⟨I.ok,fun x b=>by rcases NE.mp b with rfl|q;exact z;exact I.has x q⟩
 ·exact I.up c h2
theorem QqI{D:Tb}{k:Ky}(a:D.length<sizeLine):∃w,QfJ (.ref 0) [Zu k,.int 0] [.dct (dT D)]=some (w,[.dct (dT (sdT D k))]):=by
 have d:Y1 [.dct (dT D)] (.ref 0)=some (dT D):=rfl;unfold QfJ;simp only[d,GT,Ni,Qgw]
 by_cases h:k∈D.map (·.1)
 ·obtain⟨c,b⟩:=XZ h;rw[b];exact⟨_,by unfold sdT;rw[if_pos h];rfl⟩
 ·rw[U8 h];have:=Qes (D:=D) (k:=k) (v:=0) (h:=[.dct (dT D)]) (n:=0) rfl a;exact⟨.int 0,by unfold sdT;rw[if_neg h];simp only[LP,this];rfl⟩
abbrev tQ(p:List Pt)(out:List Spt)(M:List Mn)(x7 x8 x9 x10 x11 x12 a:Option W):MSt:=[some (Q6 p),some (ZH p),some (.lst (M.map Jt)),some (.lst (out.map Ql)),some (lsA p out),some (.tup ((Wds p).map .str)),some (.ref 0),x7,x8,x9,x10,x11,x12,a]
theorem Qhj(O:GoodP 300 bs ws p)(y:ws.length<=5)(X:M.length<=100000)(A:Al p out){H:List Ky}{D:Tb}(I:TI out.length (Wds p) H D){k:Ky}(N:k∈H){q:Nat}(z:q<out.length)(x8 x11 x12 f:Option W) :
  ∃Q s r o,TI out.length (Wds p) H Q/\Ve (tQ p out M (some (.int k.1)) x8 (some (.tup (k.2.map .str))) (some (.int q)) x11 x12 f) [.dct (dT D)]=some (.nx (tQ p out M (some (.int k.1)) x8 (some (.tup (k.2.map .str))) (some (.int q)) s r o) [.dct (dT Q)]):=by
 have t:=(YW O y).2.1;have i:=I.has k N;have e:=I.ok.sub k i;have F:=I.ok.lt k i;have E:k.2.length<=1000:=Nn e.length_le (Nr (Nh t (by decide)));have e1:∀h,Zc [.lst (M.map Jt),Ql (sq out q)] h=some (.lst ((gn M (sq out q)).map .str),h):=fun h=>Qbq X;have e2:∀h,Zn [Q6 p,Ql (sq out q)] h=some (Y4 (mdS p (sq out q)),h):=fun h=>Qew O (A.rc _ (WR z)).v;have P:=WV (l:=k.2) (g:=gn M (sq out q)) (mi:=Qo (Qb 9)) (σ:=tQ p out M (some (.int k.1)) x8 (some (.tup (k.2.map .str))) (some (.int q)) (some (.lst ((gn M (sq out q)).map .str))) x12 f) (h:=[.dct (dT D)]) (c:=11) rfl rfl E;have e3:=QmV z;have Z:(if inO (mdS p (sq out q)) k.2=true then(1:Int)else 0)=moI (mdS p (sq out q)) k.2:=rfl;have Y:∀(b:Bool) h,Qkr [.bl b] h=some (.int (if b=true then 1 else 0),h):=fun b h=>rfl;generalize C:lf k.2 (gn M (sq out q))=a at P;have B:a.Sublist (Wds p):=by rw[<-C];exact lf_sub.trans e
 have S:=I.ok.len t A.few;obtain⟨w,G⟩:=QqI (D:=D) (k:=(q,a)) (szB (Nr (Nh S (by decide))));have I2:=I.sd (k:=(q,a)) z B;generalize sdT D (q,a)=j at G I2;have R:=I2.ok.len t A.few;obtain⟨c,U⟩:=XZ (I2.has k (Ny _ N));obtain⟨d,hd⟩:=XZ (I2.has (q,a) NA);have L:=Qga (k:=k) (h:=[.dct (dT j)]) (n:=0) rfl U;have J:=Qga (k:=(q,a)) (h:=[.dct (dT j)]) (n:=0) rfl hd;have u:=Qes (D:=j) (k:=k) (v:=if d+moI (mdS p (sq out q)) k.2>c then d+moI (mdS p (sq out q)) k.2 else c) (h:=[.dct (dT j)]) (n:=0) rfl (szB (Nr (Nh R (by decide))));have I3:=I2.up (k:=k) (v:=if d+moI (mdS p (sq out q)) k.2>c then d+moI (mdS p (sq out q)) k.2 else c) F e;have em:∀h,QiT [.int c,.int (d+moI (mdS p (sq out q)) k.2)] h=some (.int (if d+moI (mdS p (sq out q)) k.2>c then d+moI (mdS p (sq out q)) k.2 else c),h):=fun _=>rfl;refine⟨_,some (.lst ((gn M (sq out q)).map .str)),some (.tup (a.map .str)),some (.int (moI (mdS p (sq out q)) k.2)),I3.less fun x T=>Ny _ (Ny _ T),?_⟩;unfold Zu at G L J u;generalize(if d+moI (mdS p (sq out q)) k.2>c then d+moI (mdS p (sq out q)) k.2 else c)=m at u em;simp[e1,e2,P,e3,inT,Y,Z,G,L,J,em,u,KB,tyW]
end
section
variable{bs ws:List Str}{p:List Pt}{out:List Spt}{M:List Mn}
noncomputable def K00(N:Nat)(Wd:List Str):List Ky:=(List.range N).map fun n=>(n,Wd)
theorem QfW(hg:GoodP 300 bs ws p)(P:ws.length<=5)(A:Al p out)(hM:M.length<=100000):∃T,TI out.length (Wds p) (K00 out.length (Wds p)) T/\∀h:MH,Xr [Q6 p,ZH p,.lst (M.map Jt)] h=some (.lst (T.map QM),h):=by
 have S:=A.few;obtain⟨_,w5,wn,wr⟩:=YW hg P
 have aa:=Q3 (items:=(List.range out.length).map KC) (b:=Q2 7) (body:=XL) (fun n l h=>∃y D,l=tQ p out M y none none none none none none/\h=[.dct (dT D)]/\TI out.length (Wds p) (K00 n (Wds p)) D)
  ((List.range out.length).map KC) 0 (tQ p out M none none none none none none none) [.dct (dT [])] ⟨none,[],rfl,rfl,⟨⟨Ea,by simp,by simp⟩,by simp[K00]⟩⟩ (by
   rintro j w hj l h ⟨y,D,rfl,rfl,I⟩
   rw[Np]at hj;obtain⟨j',R,rfl⟩:=Nd.mp hj;have Q:=(Nf.mp R).1;rw[EJ]at Q;rw[Em Q]at R;cases R;rw[NI]at *;have l1:=I.ok.len w5 S;have i3:=Qes (D:=D) (k:=(j,Wds p)) (v:=0) (h:=[.dct (dT D)]) (n:=0) rfl (szB (Nr (Nh l1 (by decide))));unfold Zu at i3;refine⟨tQ p out M (some (.int j)) none none none none none none,rfl,tQ p out M (some (.int j)) none none none none none none,[.dct (dT (upT D (j,Wds p) 0))],.inl ?_,_,_,rfl,rfl,(I.up (k:=(j,Wds p)) Q (Yac _)).less fun x hx=>?_⟩
   ·simp[i3,KB]
   ·unfold K00 at hx ⊢;rw[Fx,N6]at hx
    rcases NT.mp hx with z|z
    ·exact Ny _ z
    ·simp at z;rw[z];exact NA)
 obtain⟨ai,h1,e1,y,D,rfl,rfl,I⟩:=aa;rw[Nu,EJ,NI]at I;rw[show([.dct (dT [])]:MH)=[.dct []]from rfl]at e1
 have O:=Kf (items:=Qt 0 12) (b:=Q2 8) (body:=X0) (fun l h=>∃y x8 x9 t s r o D,l=tQ p out M y x8 x9 t s r o/\h=[.dct (dT D)]/\TI out.length (Wds p) (K00 out.length (Wds p)) D) (Qt 0 12) (tQ p out M y none none none none none none) [.dct (dT D)] ⟨_,_,_,_,_,_,_,D,rfl,rfl,I⟩ (by
  rintro w hw l h ⟨y7,y8,y9,N,L,J,H,D,rfl,rfl,I⟩
  generalize B:D.map (·.1)=Ks;have I1:TI out.length (Wds p) Ks D:=⟨I.ok,fun k Y=>B▸Y⟩
  have ae:=I.ok.lt;rw[B]at ae
  have mid:=Kf (items:=Ks.map Zu) (b:=Zb [7,9]) (body:=XF) (fun l h=>∃y x9 t s r o D,l=tQ p out M y (some w) x9 t s r o/\h=[.dct (dT D)]/\TI out.length (Wds p) Ks D) (Ks.map Zu) (tQ p out M y7 (some w) y9 N L J H) [.dct (dT D)] ⟨_,_,_,_,_,_,D,rfl,rfl,I1⟩ (by
   rintro u hu l h ⟨z7,z9,G,F,E,C,D,rfl,rfl,I⟩
   obtain⟨k,Y,rfl⟩:=NL.mp hu;have af:=QpJ (p:=p) (ae k Y);have ab:∀q∈wa (Eg p out out.length) k.1,q<out.length:=fun q hq=>Qlc A hq;generalize wa (Eg p out out.length) k.1=qs at af ab
   have inner:=Kf (items:=qs.map KC) (b:=Q2 10) (body:=Ve) (fun l h=>∃t s r o D,l=tQ p out M (some (.int k.1)) (some w) (some (.tup (k.2.map .str))) t s r o/\h=[.dct (dT D)]/\TI out.length (Wds p) Ks D) (qs.map KC) (tQ p out M (some (.int k.1)) (some w) (some (.tup (k.2.map .str))) G F E C) [.dct (dT D)] ⟨_,_,_,_,D,rfl,rfl,I⟩ (by
    rintro v hv l h ⟨m,i,f,c,D,rfl,rfl,I⟩
    obtain⟨q,hq,rfl⟩:=NL.mp hv;obtain⟨X,al,ak,aj,I2,U⟩:=Qhj hg P hM A I Y (ab q hq) (some w) i f c
    exact⟨_,_,_,rfl,U,_,_,_,_,X,rfl,rfl,I2⟩)
   obtain⟨Z,h2,U,m,i,f,c,X,rfl,rfl,I2⟩:=inner
   have ei:Qo (Qe wIx (Qb 4) (Qb 7)) (tQ p out M (some (.int k.1)) (some w) (some (.tup (k.2.map .str))) G F E C) [.dct (dT D)]=some (qs.map KC,none,[.dct (dT D)]):=by
    unfold Qo;simp[lsA,af];rfl
   refine⟨tQ p out M (some (.int k.1)) (some w) (some (.tup (k.2.map .str))) G F E C,tQ p out M (some (.int k.1)) (some w) (some (.tup (k.2.map .str))) m i f c,[.dct (dT X)],rfl,?_,_,_,_,_,_,_,X,rfl,rfl,I2⟩
   simp[Zm,ei,U])
  obtain⟨Z,h2,U,t7,t9,m,i,f,c,X,rfl,rfl,I2⟩:=mid
  have ek:Qo (mFn Xv (Qa (Qb 6) Qc)) (tQ p out M y7 (some w) y9 N L J H) [.dct (dT D)]=some (Ks.map Zu,none,[.dct (dT D)]):=by
   have:Xv [.ref 0] [.dct (dT D)]=some (.lst (Ks.map Zu),[.dct (dT D)]):=by
    have ed:Y1 [.dct (dT D)] (.ref 0)=some (dT D):=rfl;unfold Xv;simp only[ed,Ef];rw[<-B];simp[dT]
   unfold Qo;simp[this];rfl
  refine⟨tQ p out M y7 (some w) y9 N L J H,tQ p out M t7 (some w) t9 m i f c,[.dct (dT X)],rfl,?_,_,_,_,_,_,_,_,X,rfl,rfl,I2.ok,fun k Y=>I2.has k (B▸I.has k Y)⟩
  simp[Zm,ek,U])
 obtain⟨Z,h2,U,t7,t8,t9,m,i,f,c,T,rfl,rfl,I2⟩:=O;have l2:=I2.ok.len w5 S
 have ek:Jl (Qb 6) (tQ p out M t7 t8 t9 m i f c) [.dct (dT T)]=some (T.map fun e=>Zu e.1,some (.d 0),[.dct (dT T)]):=by
  unfold Jl;simp[dT]
 have ec:=WZ (fin:=Jn) (cp:=[none,none,some 6]) (b:=Zb [0,1]) (mt:=Kl) (me:=mFn QU (Qa (Qb 0) (Qa (Qb 1) (Qa (Qe U2 (Qb 2) (mFn QU (Qa (Qb 0) (Qa (Qb 1) Qc)))) Qc)))) (fun e:Ky×Int=>Zu e.1) (fun τ=>∃a b,τ=[a,b,some (.ref 0)]) (fun _=>true) QM ek (by
  intro n hn;cases hn;exact⟨dT T,rfl,by simp[dT]⟩) ⟨none,none,rfl⟩ (by
  rintro e he τ ⟨a,b,rfl⟩
  refine⟨[some (.int e.1.1),some (.tup (e.1.2.map .str)),some (.ref 0)],rfl,⟨_,_,rfl⟩,rfl,fun _=>?_⟩;have i1:=Qga (k:=e.1) (h:=[.dct (dT T)]) (n:=0) rfl (QiW I2.ok.nd he);unfold Zu at i1
  simp[i1,QM]) (Nr (szB (Nr (Nh l2 (by decide)))))
 rw[Dm.mpr fun _ _=>rfl]at ec;refine⟨T,I2,fun h=>Qr (g:=[.dct (dT T)]) (by simp) ?_ (by simp)⟩;have ea:∀h,Za [Q6 p,ZH p,.lst (out.map Ql)] h=some (lsA p out,h):=fun h=>Qb8 A h;have ew:=Y9 hg P;have eu:∀h,JS [.lst ((Wds p).map .str)] h=some (.tup ((Wds p).map .str),h):=fun _=>rfl;have n1:∀l,WS l []=some (.ref 0,[.dct []]):=fun _=>rfl
 have er:Wi (Qa (mFn JB (Qa (Qb 3) Qc)) Qc) (tQ p out M none none none none none none none) [.dct []]=some ((List.range out.length).map KC,none,[.dct []]):=by
  rw[VP (j:=out.length) (h':=[.dct []]) (by simp) (Nh S (by decide))];unfold Qt KC;simp
 have ah:Wi (Qa (mC (.int 12)) Qc) (tQ p out M y none none none none none none) [.dct (dT D)]=some (Qt 0 12,none,[.dct (dT D)]):=VP (j:=12) (by simp) (by decide);have eA:=A.a;simp only[Jn]at ec;simp[VN,Qz,Zm,eA,ea,ew,eu,n1,er,e1,ah,U,ec]
end
theorem QfQ(f:Fd)(m:Nat)(s:0<m)(r:m<20000000):∃(a:Nat) (t:Fd),a<m/\∀(h:MH) (n:Nat),h[n]?=some (Qv f)->Qf [.ref n,.int m] h=some (.int a,h.set n (Qv t)):=by
 obtain⟨a,b,q⟩:=f;have d:(0:Int)<m:=by lia
 have i:(m:Int)<1073741824:=by lia
 have e:0<m:=s
 by_cases h:0<a
 ·obtain⟨c,p⟩:=Qda (EM a (FA d));have l:=ER a d;refine⟨c,⟨a/m,b,q⟩,by lia,fun g n j=>?_⟩;rw[<-p];refine VT (o:=Qv ⟨a,b,q⟩) (g:=[]) (by simp) j (by simp[Qv]) ?_ rfl ⟨_,rfl,by simp⟩;simp[ZD,Qz,h,d,i,e,Qv]
 ·obtain⟨c,p⟩:=Qda (EM ((b*69621+12345)%2147483647/8191) (FA d));have l:=ER ((b*69621+12345)%2147483647/8191) d;refine⟨c,⟨a,(b*69621+12345)%2147483647,EM _ (by decide),Int.lt_trans (ER _ (by decide)) (by decide)⟩,by omega,fun g n j=>?_⟩;rw[<-p];refine VT (o:=Qv ⟨a,b,q⟩) (g:=[]) (by simp) j (by simp[Qv]) ?_ rfl ⟨_,rfl,by simp⟩;simp[ZD,Qz,h,d,i,e,Qv]
theorem QkY(xs:List a)(k:Nat):Ux xs none (some (k:Int))=xs.take k:=by
 unfold Ux;rw[HT.sIx_nat,HT.sIx_none]
 by_cases h:k<=xs.length
 ·rw[Nat.min_eq_left h];simp
 ·rw[Yao (Nr (DT.mp h)),F6 (by exact Nr (DT.mp h):xs.length<=k)];simp
theorem QqE:eqW (Zu a) (Zu b)=decide (a=b):=by
 obtain⟨n,l⟩:=a;obtain⟨m,r⟩:=b;unfold Zu;simp only[eqW,XG,Gw,Fi];rw[EL];simp only[NJ,beq_iff_eq,decide_eq_true_eq,Yax];constructor
 ·rintro⟨a,b⟩;exact⟨by lia,b⟩
 ·rintro⟨a,b⟩;exact⟨by lia,b⟩
theorem QlX{k:Ky}:pln (Zu k)=true:=by simp[Zu,pln,Yp]
theorem Qk9{k:Ky}:dep (Zu k)<=40:=by
 have:=QjF (l:=k.2);unfold QH at this;simp[Zu,dep,U3]at this ⊢;exact Nr (Nh this (by decide))
theorem Qf5{k:Ky}{Ks:List Ky}{h:MH}:wIn true (Zu k) (.lst (Ks.map Zu)) h=some (.bl (!decide (k∈Ks)),h):=by
 rw[QiU QlX (JE fun _=>QlX) Qk9 (Kc fun _=>Qk9)]
 have:inW (Zu k) (Ks.map Zu)=decide (k∈Ks):=by
  induction Ks with
  |nil=>rfl
  |cons y l a=>
   unfold inW at a ⊢;rw[Nw,E6,a,QqE,EL,De,decide_eq_true_eq,decide_eq_true_eq,decide_eq_true_eq,NE];exact⟨fun z=>z.elim (fun q=>.inl q.symm) .inr,fun z=>z.elim (fun q=>.inl q.symm) .inr⟩
 rw[this];rfl
section
variable{N:Nat}{Wd:List Str}{T:Tb}
theorem TbOk.keys(a:TbOk N Wd T)(h:b.map (·.1)=T.map (·.1)):TbOk N Wd b:=⟨by rw[h];exact a.nd,by rw[h];exact a.lt,by rw[h];exact a.sub⟩
noncomputable abbrev kT(X:List W)(wd:W)(x3 x4 x5 x6 x7:Option W):MSt:=[some (.lst X),some wd,some (.ref 0),x3,x4,x5,x6,x7]
abbrev bt:SM:=(Qm (Zt (Qj (Qe wEq (Qb 7) (mC (.int 0)))) (QR (Qe Zj (mSl (Qb 0) Vk (Ju (Qb 3))) (mSl (Qb 0) (Ju (Qe Zj (Qb 3) (mC (.int 1)))) Vk))) Qw) (Qm (Zt (Qj (Qe wEq (Qb 7) (mC (.int 1)))) (QR (Qe Zj (Qe Zj (mSl (Qb 0) Vk (Ju (Qb 3))) (mFn Vq (Qa (mFn QU (Qa (Qb 4) (Qa (Qb 5) (Qa (mUn KN (mC (.int 1))) Qc)))) Qc))) (mSl (Qb 0) (Ju (Qe Zj (Qb 3) (mC (.int 1)))) Vk))) Qw) (Qm (Zt (Qj (Qe wLt (Qb 7) (mC (.int 4)))) (QR (Qe Zj (Qe Zj (mSl (Qb 0) Vk (Ju (Qb 3))) (mFn Vq (Qa (mFn QU (Qa (Qb 4) (Qa (Qb 5) (Qa (Qe Zj (Qb 6) (Qe wIx (mFn Vq (Qa (mC (.int 1)) (Qa (mUn KN (mC (.int 1))) Qc))) (Qe QbS (Qb 7) (mC (.int 2))))) Qc)))) Qc))) (mSl (Qb 0) (Ju (Qe Zj (Qb 3) (mC (.int 1)))) Vk))) Qw) (Qm (Zt (J4 (Qj (Qe wEq (Qb 7) (mC (.int 4)))) (Qj (Qe (wIn true) (mFn QU (Qa (Qb 4) (Qa (mFn QU Qc) Qc))) (QN Jn (Qo (Qb 0)) [none] (Q2 0) Kl (mSl (Qb 0) Vk (Ju (mC (.int 2)))))))) (QR (Qe Zj (Qb 0) (mFn Vq (Qa (mFn QU (Qa (Qb 4) (Qa (mFn QU Qc) (Qa (Qi 2 Qf (Qa (Qb 2) (Qa (mC (.int 2)) Qc))) Qc)))) Qc)))) Qw) (Qm (Zt (Qj (Qe wEq (Qb 7) (mC (.int 5)))) (QR (QN Jn (Qo (Qb 0)) [none] (Q2 0) Kl (mFn QU (Qa (Qe wIx (Qb 0) (mC (.int 0))) (Qa (Qe wIx (Qb 0) (mC (.int 1))) (Qa (Qe Zj (Qe wIx (Qb 0) (mC (.int 2))) (mC (.int 1))) Qc)))))) Qw) (QR (mFn Qhg (Qa (Qb 0) Qc))))))))
theorem Qf7(l:TbOk N Wd T)(h5:Wd.length<=5)(hN:N<=280010)(h0:0<T.length)(f:Fd)(wd:W):∃R f' w g,TbOk N Wd R/\(w=.lst (R.map QM)\/(w=.ref 1/\g=[.lst (R.map QM)]))/\ZB [.lst (T.map QM),wd,.ref 0] [Qv f]=some (w,Qv f'::g):=by
 have i:=l.len h5 hN;obtain⟨a,f1,L,M⟩:=QfQ f T.length h0 (Nh i (by decide));have M:=M [Qv f] 0 rfl;obtain⟨e,J⟩:∃e,T[a]?=some e:=⟨_,Nl L⟩
 have I:e.1∈T.map (·.1):=Ee (NC.mpr ⟨a,J⟩);have O:atI (T.map QM) (a:Int)=some (QM e):=by rw[QO,Np,J];rfl
 have D:Ux (T.map QM) none (some (a:Int))=(T.take a).map QM:=by rw[QkY,List.map_take]
 have C:Ux (T.map QM) (some ((a:Int)+1)) none=(T.drop (a+1)).map QM:=by
  have:=QbG (T.map QM) (a+1);rw[List.map_drop];exact this
 have r:T=T.take a++e::T.drop (a+1):=by
  have hh:T[a]=e:=(Nf.mp J).2;rw[<-hh,List.getElem_cons_drop,Ob]
 have S:(T.take a).length+(T.drop (a+1)).length+1=T.length:=by rw[Ei,LA];lia
 generalize T.take a=T1 at D r S;generalize T.drop (a+1)=T2 at C r S
 have ad:∀(q F:List W) (h:MH),q.length+F.length<=sizeLine->Zj (.lst q) (.lst F) h=some (.lst (q++F),h):=fun q F h hl=>by
  show(if _ then _ else _)=_;rw[if_pos hl]
 have G:∀(q:List W) (lo U:Option Int) (h:MH),wSl (.lst q) lo U h=some (.lst (Ux q lo U),h):=fun _ _ _ _=>rfl;have big:∀n,n<=10000000->n<=sizeLine:=fun n h=>Nr (szB h);have Q:∀h,Zj (.lst (T1.map QM)) (.lst (T2.map QM)) h=some (.lst (T1.map QM++T2.map QM),h):=fun h=>ad _ _ h (by rw[Nu,Nu];exact big _ (by lia));have v:∀(x:W) h,Zj (.lst (T1.map QM)) (.lst [x]) h=some (.lst (T1.map QM++[x]),h):=fun x h=>ad _ _ h (by rw[Nu,NZ];exact big _ (by lia));have p:∀(x:W) h,Zj (.lst (T1.map QM++[x])) (.lst (T2.map QM)) h=some (.lst (T1.map QM++[x]++T2.map QM),h):=fun x h=>ad _ _ h (by rw[NH,Nu,Nu,NZ];exact big _ (by lia));have P:∀(x:W) h,Zj (.lst (T.map QM)) (.lst [x]) h=some (.lst (T.map QM++[x]),h):=fun x h=>ad _ _ h (by rw[Nu,NZ];exact big _ (Nh i (by decide)));obtain⟨b0,b1⟩:=Wq (f:=f1) (m:=7) (by decide);obtain⟨w,hw⟩:=Qda b0;have hX:(T.map QM).length=T.length:=Nu ..;have same:∀c:Int,TbOk N Wd (T1++[(e.1,c)]++T2):=fun c=>l.keys (by rw[r];simp);have d:∀c:Int,T1.map QM++[.tup [.int e.1.1,.tup (e.1.2.map .str),.int c]]++T2.map QM=(T1++[(e.1,c)]++T2).map QM:=fun c=>by simp[QM]
 have less:TbOk N Wd (T1++T2):=by
  have hs:(T1++T2).Sublist T:=by rw[r];exact List.Sublist.append (Yac _) (List.sublist_cons_self _ _)
  have t:=hs.map (·.1);exact⟨l.nd.sublist t,fun k j=>l.lt k (t.subset j),fun k j=>l.sub k (t.subset j)⟩
 have back:TbOk N Wd T.reverse:=⟨by rw[Ii];exact(List.reverse_perm _).nodup_iff.mpr l.nd,fun k j=>l.lt k (by simpa using j),fun k j=>l.sub k (by simpa using j)⟩
 have more:TbOk N Wd (T.map fun e=>(e.1,e.2+1)):=l.keys (by simp);have A:QM e=.tup [.int e.1.1,.tup (e.1.2.map .str),.int e.2]:=rfl
 have rv:∀f,Qhg [.lst (T.map QM)] [Qv f]=some (.ref 1,[Qv f,.lst (T.reverse.map QM)]):=fun f=>by
  show some (W.ref 1,[Qv f]++[.lst (T.map QM).reverse])=_;rw[Ii];rfl
 have gt:∀(a b c:W) (E:MSt) (h:MH),Zb [4,5,6] (.tup [a,b,c]) E h=some (((E.set 4 (some a)).set 5 (some b)).set 6 (some c)):=fun _ _ _ _ _=>rfl;have aa:w<7:=by lia
 have pre:∀rest:SM,Qm (QK 3 (Qi 2 Qf (Qa (Qb 2) (Qa (mFn JB (Qa (Qb 0) Qc)) Qc)))) (Qm (QkR (Zb [4,5,6]) (Qe wIx (Qb 0) (Qb 3))) (Qm (QK 7 (Qi 2 Qf (Qa (Qb 2) (Qa (mC (.int 7)) Qc)))) rest)) [some (.lst (T.map QM)),some wd,some (.ref 0),none,none,none,none,none] [Qv f]=rest (kT (T.map QM) wd (some (.int a)) (some (.int e.1.1)) (some (.tup (e.1.2.map .str))) (some (.int e.2)) (some (.int w))) [Qv (tf f1 7)]:=fun rest=>by
  simp[hX,M,O,A,gt,hw]
 have Z:ZB [.lst (T.map QM),wd,.ref 0] [Qv f]=Qij (bt (kT (T.map QM) wd (some (.int a)) (some (.int e.1.1)) (some (.tup (e.1.2.map .str))) (some (.int e.2)) (some (.int w))) [Qv (tf f1 7)]):=congrArg Qij (pre bt);rw[Z];clear Z pre
 rcases(by lia:w=0\/w=1\/w=2\/w=3\/w=4\/w=5\/w=6)with rfl|rfl|rfl|rfl|rfl|rfl|rfl
 ·refine⟨_,tf f1 7,_,[],less,.inl rfl,?_⟩;simp[bt,G,D,C,Q]
 ·refine⟨_,tf f1 7,_,[],same (-1),.inl rfl,?_⟩;rw[<-d];simp[bt,G,D,C,v,p]
 ·refine⟨_,tf f1 7,_,[],same (e.2+1),.inl rfl,?_⟩;rw[<-d];simp[bt,G,D,C,v,p]
 ·refine⟨_,tf f1 7,_,[],same (e.2+-1),.inl rfl,?_⟩;rw[<-d];simp[bt,G,D,C,v,p]
 ·have s:=WZ (fin:=Jn) (mi:=Qo (Qb 0)) (cp:=[none]) (b:=Q2 0) (mt:=Kl) (me:=mSl (Qb 0) Vk (Ju (mC (.int 2)))) (σ:=kT (T.map QM) wd (some (.int a)) (some (.int e.1.1)) (some (.tup (e.1.2.map .str))) (some (.int e.2)) (some (.int 4))) (h:=[Qv (tf f1 7)]) (src:=none) (xs:=T) QM (fun y=>∃a,y=[a]) (fun _=>true) (fun e=>Zu e.1) rfl (QA _ _) ⟨none,rfl⟩ (by
   rintro x hx y ⟨o,rfl⟩
   refine⟨[some (QM x)],rfl,⟨_,rfl⟩,rfl,fun _=>?_⟩;have c3:∀a b c:W,Ux [a,b,c] none (some 2)=[a,b]:=fun _ _ _=>rfl
   simp[QM,Zu,c3]) (big _ (Nr (Nh i (by decide))))
  rw[Dm.mpr fun _ _=>rfl,show(T.map fun e=>Zu e.1)=(T.map (·.1)).map Zu by simp]at s;have B:∀h,wIn true (.tup [.int e.1.1,.tup []]) (.lst ((T.map (·.1)).map Zu)) h=some (.bl (!decide ((e.1.1,[])∈T.map (·.1))),h):=fun h=>Qf5 (k:=(e.1.1,[]));simp only[Jn]at s;generalize(T.map (·.1)).map Zu=KK at s B
  by_cases u:((e.1.1,[]):Ky)∈T.map (·.1)
  ·rw[decide_eq_true u]at B;refine⟨_,tf f1 7,_,_,back,.inr ⟨rfl,rfl⟩,?_⟩;simp[bt,s,B,rv]
  ·rw[decide_eq_false u]at B
   have plus:TbOk N Wd (T++[((e.1.1,[]),tk (tf f1 7) 2)]):=by
    refine⟨?_,fun k j=>?_,fun k j=>?_⟩
    ·rw[N6,Ek];exact⟨l.nd,by simp,fun a L b X=>by simp at X;subst X;exact fun z=>u (by rw[<-z];exact L)⟩
    ·rw[N6]at j
     rcases NT.mp j with z|z
     ·exact l.lt k z
     ·simp at z;subst z;exact(l.lt e.1 I:e.1.1<N)
    ·rw[N6]at j
     rcases NT.mp j with z|z
     ·exact l.sub k z
     ·simp at z;subst z;exact List.nil_sublist _
   refine⟨_,tf (tf f1 7) 2,_,[],plus,.inl rfl,?_⟩;rw[N6,show([((e.1.1,[]),tk (tf f1 7) 2)]:Tb).map QM=[W.tup [.int e.1.1,.tup [],.int (tk (tf f1 7) 2)]]from rfl];simp[bt,s,B,P]
 ·have s:∀h,QN Jn (Qo (Qb 0)) [none] (Q2 0) Kl (mFn QU (Qa (Qe wIx (Qb 0) (mC (.int 0))) (Qa (Qe wIx (Qb 0) (mC (.int 1))) (Qa (Qe Zj (Qe wIx (Qb 0) (mC (.int 2))) (mC (.int 1))) Qc)))) (kT (T.map QM) wd (some (.int a)) (some (.int e.1.1)) (some (.tup (e.1.2.map .str))) (some (.int e.2)) (some (.int 5))) h=some (.lst ((T.map fun e=>(e.1,e.2+1)).map QM),h):=fun h=>by
   have:=WZ (fin:=Jn) (mi:=Qo (Qb 0)) (cp:=[none]) (b:=Q2 0) (mt:=Kl) (me:=mFn QU (Qa (Qe wIx (Qb 0) (mC (.int 0))) (Qa (Qe wIx (Qb 0) (mC (.int 1))) (Qa (Qe Zj (Qe wIx (Qb 0) (mC (.int 2))) (mC (.int 1))) Qc)))) (σ:=kT (T.map QM) wd (some (.int a)) (some (.int e.1.1)) (some (.tup (e.1.2.map .str))) (some (.int e.2)) (some (.int 5))) (h:=h) (src:=none) (xs:=T) QM (fun y=>∃a,y=[a]) (fun _=>true) (fun e=>QM (e.1,e.2+1)) rfl (QA _ _) ⟨none,rfl⟩ (by
    rintro x hx y ⟨o,rfl⟩
    refine⟨[some (QM x)],rfl,⟨_,rfl⟩,rfl,fun _=>?_⟩
    simp[QM]) (big _ (Nr (Nh i (by decide))))
   rw[Dm.mpr fun _ _=>rfl]at this;rw[this,ES];rfl
  refine⟨_,tf f1 7,_,[],more,.inl rfl,?_⟩;generalize((T.map fun e=>(e.1,e.2+1)).map QM)=Y at s;simp[bt,s]
 ·refine⟨_,tf f1 7,_,_,back,.inr ⟨rfl,rfl⟩,?_⟩;simp[bt,rv]
end
theorem QnB(b:2<=m)(a:m<=8):Builtin.Range.small 0 m 2=true/\∃n:Nat,(Builtin.Range.rangeSize 0 m 2).toNat=n/\n<=4:=by
 have key:∀n:Fin 9,Builtin.Range.small 0 (n.val:Int) 2=true/\(Builtin.Range.rangeSize 0 (n.val:Int) 2).toNat<=4:=by decide
 obtain⟨n,rfl⟩:=Int.eq_ofNat_of_zero_le (LD (by decide) b);have h:=key ⟨n,Nat.lt_succ_of_le (Int.ofNat_le.mp a)⟩;exact⟨h.1,_,rfl,h.2⟩
theorem QgC(e:ms σ h=some ([.int 0,.int m,.int 2],h'))(f:2<=m)(d:m<=8):∃n:Nat,n<=4/\QhS ms σ h=some (JI 0 2 n,none,h'):=by
 obtain⟨a,n,b,c⟩:=QnB f d;refine⟨n,c,?_⟩;unfold QhS;rw[e,Ni];refine(if_pos ⟨by decide,by decide,a⟩).trans ?_;rw[b]
theorem Qay:∀{ns:List Int},Qc3 (ns.map .int)=some ns
 |[]=>rfl
 |n::ns=>by
  rw[Nw];show(Qc3 (ns.map .int)).map (n::·)=_;rw[Qay];rfl
theorem QgF(a:0<ns.length):Qe2 [.lst (ns.map .int)] h=some (.int (QcJ ns),h):=by
 unfold Qe2;simp only[lsW,Ni,Qay];rw[if_pos a]
theorem Qol:pln (QM e)=true:=by simp[QM,pln,Yp]
theorem Qnw:dep (QM e)<=10:=by
 have:=QjF (l:=e.1.2);unfold QH at this;simp[QM,dep,U3]at this ⊢;exact Nr (Nh this (by decide))
theorem QnP:dep (Jt m)<=10:=by simp[Jt,Zs,dep,U3]
section
variable{bs ws:List Str}{p:List Pt}{out:List Spt}{M:List Mn}
theorem Qel(r:TbOk N Wd T)(s:Wd.length<=5)(hN:N<=280010)(u:0<T.length)(f:Fd)(c:pur wd=true):∃i d,TbOk N Wd i/\∀(h:MH) (n:Nat),h[n]?=some (Qv f)->ZY [.lst (T.map QM),wd,.ref n] h=some (.lst (i.map QM),h.set n (Qv d)):=by
 obtain⟨i,d,w,g,l,hw,e⟩:=Qf7 r s hN u f wd;refine⟨i,d,l,fun h n o=>?_⟩
 have hr:Kn 0 [.lst (T.map QM),wd,.ref n]=some ([.lst (T.map QM),wd,.ref 0],[n]):=by
  have t:pur (.lst (T.map QM))=true:=by simp
  cases wd<;>first|(cases c;done)|(unfold Kn;rw[if_pos t];unfold Kn;rw[if_pos c];rfl)
 rcases hw with rfl|⟨rfl,rfl⟩
 ·have:=QdS (m:=ZB) (h:=h) (os:=[Qv f]) (os':=[Qv d]) (g:=g) hr (by simp) (by simp[Zl,Wk (us:=[.int f.a,.int f.b]) o (by simp),Qv]) e rfl (by simp[Qv]) (by simp);show box frN ZB _ _=_;simpa using this
 ·exact QlO (j:=0) hr o e rfl (by simp)
theorem Qir(d:σ[2]?=some (some (Q6 p)))(c:GoodP 700 bs ws p):QN Jn (Qo (Qb 2)) [none] (Q2 0) Kl (Qi 1 QZ (Qa (Qe wIx (Qb 0) (mC (.int 1))) Qc)) σ h=some (ZH p,h):=by
 have i:=c.len
 have:=WZ (fin:=Jn) (mi:=Qo (Qb 2)) (cp:=[none]) (b:=Q2 0) (mt:=Kl) (me:=Qi 1 QZ (Qa (Qe wIx (Qb 0) (mC (.int 1))) Qc)) (σ:=σ) (h:=h) (src:=none) (xs:=p) Vf (fun f=>∃a,f=[a]) (fun _=>true) (fun x=>Qdc (bk x)) (by unfold Qo Qb;rw[d];rfl) (QA _ _) ⟨none,rfl⟩ (by
  rintro x e f ⟨o,rfl⟩
  refine⟨[some (Vf x)],rfl,⟨_,rfl⟩,rfl,fun _=>?_⟩;have j:∀h,QZ [.tup (x.2.map QH)] h=some (Qdc (bk x),h):=fun h=>Qfg x.2 (c.bal x e) (Qgs c e) (by have:=c.sz x e;exact Nr (Nh this (by decide))) h
  simp[j,Vf]) (Xi (Nr (Nh i (by decide))))
 rw[Dm.mpr fun _ _=>rfl]at this;exact this
abbrev lS(ns:List Int)(k:Nat)(p:List Pt)(m:Nat)(M:List Mn)(Wd:List Str)(pl:W)(best:Int)(x9 x10 x11 x12:Option W):MSt:=[some (.frz (ns.map .int)),some (.int k),some (Q6 p),some (ZH p),some (.ref m),some (.lst (M.map Jt)),some (.tup (Wd.map .str)),some pl,some (.int best),x9,x10,x11,x12]
theorem QgD(u:GoodP 300 bs ws p)(g:ws.length<=5)(A:Al p out)(v:M.length<=100000){T:Tb}(s:TbOk out.length (Wds p) T){ns:List Int}{k m:Nat}{pl:W}{best:Int}{f:Fd}{H:MH}(B:H[m]?=some (Qv f))(x10 x11 x12:Option W) :
  ∃q o l E,UT (lS ns k p m M (Wds p) pl best (some (.lst (T.map QM))) x10 x11 x12) H=some (.nx (lS ns k p m M (Wds p) pl best (some (.lst (T.map QM))) q o l) (H.set m (Qv E))):=by
 obtain⟨J,b1⟩:=Wq (f:=f) (m:=4) (by decide);obtain⟨w,hw⟩:=Qda J;have t:=U6 (f:=f) (m:=4) (h:=H) (n:=m) (by decide) (by decide) B;rw[hw]at t
 obtain⟨c,C⟩:∃c:Int,atI [W.int 0,.int (-1),.int 0,.int 1] (w:Int)=some (.int c):=by
  rcases(by lia:w=0\/w=1\/w=2\/w=3)with rfl|rfl|rfl|rfl
  ·exact⟨0,rfl⟩
  ·exact⟨-1,rfl⟩
  ·exact⟨0,rfl⟩
  ·exact⟨1,rfl⟩
 generalize D:H.set m (Qv (tf f 4))=d at t;have F:=fun num=>Qgv u g A v s num d;have I:=fun num=>QgJ u g A v s num d;have eq:=fun num=>QiC (p:=p) (out:=out) (M:=M) s num
 have r:pln (.lst [.lst (M.map Jt),.lst (T.map QM)])=true:=by
  have y:Yp (T.map QM)=true:=JE fun _=>Qol;simp[pln,Yp,y]
 have hd:dep (.lst [.lst (M.map Jt),.lst (T.map QM)])<=40:=by
  have y:=Kc (xs:=T) (n:=10) fun x=>Qnw (e:=x);have L:=Kc (xs:=M) (n:=10) fun x=>QnP (m:=x);simp[dep,U3];lia
 have en:wNe (.lst [.lst (M.map Jt),.lst (T.map QM)]) (.lst [.lst (M.map Jt),.lst (T.map QM)]) d=some (.bl false,d):=by
  rw[Qrl r r hd hd,UU _ r];rfl
 have z:X2 "bool" "bool"=true:=by decide
 have G:∀(j:List W) h,Qa7 [.lst j] h=some (.lst j,h):=fun _ _=>rfl;have ne:∀b:Bool,wNe (.bl b) (.bl b) d=some (.bl false,d):=fun b=>by cases b<;>rfl
 have i:=F (best+c);have a:=I (best+c);rw[<-eq (best+c)]at a;generalize(S1 out.length (Wds p) T&&(S2 (Wds p) T (best+c)&&(T.map (·.1)).all fun k=>psK T k&&clK p out M T k))=b at i a;refine⟨some (.int (best+c)),some (.lst [.lst (M.map Jt),.lst (T.map QM)]),some (.bl b),tf f 4,?_⟩;rw[D];simp[t,C,G,i,z,en,a,ne]
theorem QgP{ns:List Int}{k:Nat}(hk:k<50):∃y2 y3 y4 y5 y6 y7 y8 C i g d h',U5 [some (.frz (ns.map .int)),some (.int k),x2,x3,x4,x5,x6,x7,x8,x9,x10,x11,x12] h=some (.nx [some (.frz (ns.map .int)),some (.int k),y2,y3,y4,y5,y6,y7,y8,C,i,g,d] h'):=by
 obtain⟨f1,U⟩:=Qdv ns k (N4 hk (by decide));obtain⟨bs,ws,p,Q,hb,hw,q,ea⟩:=Qc6 f1 2 3 3 6 (by decide) (by decide) (by decide) (by decide);obtain⟨f2,S⟩:=Qdv ns (k+1) (by lia);obtain⟨M,P,hM,eM⟩:=Qfe q hw.2 f2;have B:GoodP 700 bs ws p:=Qdm q (by decide);obtain⟨out,A⟩:=QnN B;obtain⟨T,IT,eT⟩:=QfW q hw.2 A hM;obtain⟨_,F,wn,wr⟩:=YW q hw.2
 have l:0<T.length:=by
  have:=IT.has (0,Wds p) (NL.mpr ⟨0,Ez.mpr A.pos,rfl⟩);have:=Dr this;rwa[Nu]at this
 have y:pur (.tup ((Wds p).map .str))=true:=by simp
 obtain⟨T1,f4,N,Y⟩:=Qel IT.ok F A.few l P y;obtain⟨T2,O,L,X⟩:=Qel IT.ok F A.few l f4 y;have z:=IT.ok.len F A.few;have e1:=U h;have D:=ea (h++[Qv f1]) h.length KR;rw[Xx]at D;generalize h++[Qv Q]=H at D;have e3:=S H;push_cast at e3 D;have e4:=eM (H++[Qv f2]) H.length KR;rw[Xx]at e4;have e5:=Y (H++[Qv P]) H.length KR;rw[Xx]at e5;have e6:=X (H++[Qv f4]) H.length KR;rw[Xx]at e6;have ew:=Y9 q hw.2
 have ec:∀(x8 x9 x10 x11 x12:Option W) (h:MH),QN Jn (Qo (Qb 7)) [none,some 6] (Q2 0) (Qj (Qe wEq (Qe wIx (Qb 0) (mC (.int 1))) (Qb 1))) (Qe wIx (Qb 0) (mC (.int 2))) [some (.frz (ns.map .int)),some (.int k),some (Q6 p),some (ZH p),some (.ref H.length),some (.lst (M.map Jt)),some (.tup ((Wds p).map .str)),some (.lst (T.map QM)),x8,x9,x10,x11,x12] h=some (.lst (((T.filter fun e=>decide (e.1.2=Wds p)).map (·.2)).map .int),h):=fun x8 x9 x10 x11 x12 h=>by
  have:=WZ (fin:=Jn) (mi:=Qo (Qb 7)) (cp:=[none,some 6]) (b:=Q2 0) (mt:=Qj (Qe wEq (Qe wIx (Qb 0) (mC (.int 1))) (Qb 1))) (me:=Qe wIx (Qb 0) (mC (.int 2))) (σ:=[some (.frz (ns.map .int)),some (.int k),some (Q6 p),some (ZH p),some (.ref H.length),some (.lst (M.map Jt)),some (.tup ((Wds p).map .str)),some (.lst (T.map QM)),x8,x9,x10,x11,x12]) (h:=h) (src:=none) (xs:=T) QM (fun Z=>∃a,Z=[a,some (.tup ((Wds p).map .str))]) (fun e=>decide (e.1.2=Wds p)) (fun e=>.int e.2) rfl (QA _ _) ⟨none,rfl⟩ (by
   rintro x hx Z ⟨o,rfl⟩
   refine⟨[some (QM x),some (.tup ((Wds p).map .str))],rfl,⟨_,rfl⟩,?_,fun _=>?_⟩
   ·simp[QM,eqT]
   ·simp[QM]) (Nr (szB (Nr (Nh z (by decide)))))
  rw[this,ES];rfl
 have I:0<((T.filter fun e=>decide (e.1.2=Wds p)).map (·.2)).length:=by
  obtain⟨e,he,J⟩:=NL.mp (IT.has (0,Wds p) (NL.mpr ⟨0,Ez.mpr A.pos,rfl⟩));exact Dr (Ee (f:=(·.2)) (Ft.mpr ⟨he,by rw[J];simp⟩))
 have n:=fun h=>QgF (h:=h) I;generalize((T.filter fun e=>decide (e.1.2=Wds p)).map (·.2)).map W.int=VV at ec n;generalize QcJ ((T.filter fun e=>decide (e.1.2=Wds p)).map (·.2))=c at n
 have v:=Q3 (items:=[T,T1,T2].map fun t=>W.lst (t.map QM)) (b:=Q2 9) (body:=UT) (fun _ E h=>∃C i g d f,E=lS ns k p H.length M (Wds p) (.lst (T.map QM)) c C i g d/\h=H++[Qv f]) ([T,T1,T2].map fun t=>W.lst (t.map QM)) 0 (lS ns k p H.length M (Wds p) (.lst (T.map QM)) c x9 x10 x11 x12) (H++[Qv O]) ⟨_,_,_,_,O,rfl,rfl⟩ (by
  rintro j w hj E h ⟨C,i,g,d,f,rfl,rfl⟩
  obtain⟨t,ht,rfl⟩:=NL.mp (NC.mpr ⟨j,hj⟩)
  have G:TbOk out.length (Wds p) t:=by
   simp at ht
   rcases ht with rfl|rfl|rfl
   ·exact IT.ok
   ·exact N
   ·exact L
  obtain⟨u,s,r,f',e⟩:=QgD q hw.2 A hM G (ns:=ns) (k:=k) (pl:=.lst (T.map QM)) (best:=c) (f:=f) (H:=H++[Qv f]) (m:=H.length) KR i g d;rw[Xx]at e
  exact⟨_,rfl,_,_,.inl e,_,_,_,_,f',rfl,rfl⟩)
 obtain⟨aa,h',el,z9,u,s,r,f6,rfl,rfl⟩:=v
 have ei:∀x9 x10 x11 x12,Qo (mFn Vq (Qa (Qb 7) (Qa (Qi 3 ZY (Qa (Qb 7) (Qa (Qb 6) (Qa (Qb 4) Qc)))) (Qa (Qi 3 ZY (Qa (Qb 7) (Qa (Qb 6) (Qa (Qb 4) Qc)))) Qc)))) (lS ns k p H.length M (Wds p) (.lst (T.map QM)) c x9 x10 x11 x12) (H++[Qv P])=some ([T,T1,T2].map fun t=>W.lst (t.map QM),none,H++[Qv O]):=fun x9 x10 x11 x12=>by
  unfold Qo;simp[e5,e6];rfl
 have er:∀(x3 x4 x5 x6 x7 x8 x9 x10 x11 x12:Option W),QN Jn (Qo (Qb 2)) [none] (Q2 0) Kl (Qi 1 QZ (Qa (Qe wIx (Qb 0) (mC (.int 1))) Qc)) [some (.frz (ns.map .int)),some (.int k),some (Q6 p),x3,x4,x5,x6,x7,x8,x9,x10,x11,x12] H=some (ZH p,H):=fun x3 x4 x5 x6 x7 x8 x9 x10 x11 x12=>Qir rfl B;refine⟨some (Q6 p),some (ZH p),some (.ref H.length),some (.lst (M.map Jt)),some (.tup ((Wds p).map .str)),some (.lst (T.map QM)),some (.int c),z9,u,s,r,H++[Qv f6],?_⟩;have R:=ei x9 x10 x11 x12;simp[Zm,e1,D,er,e3,e4,ew,eT,ec,n,R];exact el
theorem main(ns:List Int)(_:ns.length<=63):∃h',Yy [.frz (ns.map W.int)] []=some (.bl true,h'):=by
 obtain⟨m,v⟩:∃m:Int,m=(if(if(ns.length:Int)<4 then(ns.length:Int)else 4)>2 then(if(ns.length:Int)<4 then(ns.length:Int)else 4)else 2):=⟨_,rfl⟩
 have I:2<=m:=by rw[v];split<;>lia
 have H:m<=8:=by rw[v];split<;>split<;>lia
 have O:(Qa (mC (.int 0)) (Qa (mFn QiT (Qa (mC (.int 2)) (Qa (mFn QlK (Qa (mC (.int 4)) (Qa (mFn JB (Qa (Qb 0) Qc)) Qc))) Qc))) (Qa (mC (.int 2)) Qc))) [some (.frz (ns.map .int)),none,none,none,none,none,none,none,none,none,none,none,none] []=some ([.int 0,.int m,.int 2],[]):=by
  rw[v];simp only[Qmr,s_c,Qqp,Ql6,Qn7,Qjr,QkJ,QnW,Qnc,Nu]
 obtain⟨n,hn,L⟩:=QgC O I H
 have f:=Q3 (items:=JI 0 2 n) (b:=Q2 1) (body:=U5) (fun _ x _=>∃u t s r q o l j g d c a,x=[some (.frz (ns.map .int)),u,t,s,r,q,o,l,j,g,d,c,a]) (JI 0 2 n) 0 [some (.frz (ns.map .int)),none,none,none,none,none,none,none,none,none,none,none,none] [] ⟨_,_,_,_,_,_,_,_,_,_,_,_,rfl⟩ (by
  rintro i w G x h ⟨u,t,s,r,q,o,l,j,g,d,c,a,rfl⟩
  obtain⟨F,rfl⟩:=YA G;obtain⟨Y,X,U,T,S,R,Q,P,B,A,z,h',e⟩:=QgP (ns:=ns) (k:=2*i) (x2:=t) (x3:=s) (x4:=r) (x5:=q) (x6:=o) (x7:=l) (x8:=j) (x9:=g) (x10:=d) (x11:=c) (x12:=a) (h:=h) (by lia);have J:(0:Int)+(i:Int)*2=((2*i:Nat):Int):=by lia
  rw[J]
  exact⟨_,rfl,_,h',.inl e,_,_,_,_,_,_,_,_,_,_,_,_,rfl⟩)
 obtain⟨y,h',N,u,t,s,r,q,o,l,j,g,d,c,a,rfl⟩:=f;refine⟨h',?_⟩;simp[Yy,Qz,Zm,L,N]
end
end My
namespace PySem.W.Fast
def tw699912488099470777:=0
def tw9580272249116998686:=0
def tw7445886516325142814:=0
def tw965897777535667830:=0
def tw2673383483922748827:=0
def tw13140932005991518732:=0
def tw9339103808127396967:=0
def tw15029585070156668227:=0
def tw12250081007472306005:=0
def tw1410673701331077013:=0
def tw6299319159006524629:=0
def tw4274960949961858677:=0
def tw8989858466797036243:=0
def tw17228395950063866029:=0
def tw12535690780091650060:=0
def tw4159166791571048972:=0
def tw8080178366505766750:=0
def tw6942055427917165536:=0
def tw12842555337043228812:=0
def tw11859332654478127386:=0
def tw15999865107794903438:=0
def tw13900003236094646340:=0
def tw7455437506339086409:=0
def tw6340723905294083347:=0
def tw6749170713505542918:=0
def tw4615315371312120768:=0
def tw15008333373124807449:=0
def tw10479813230831470320:=0
def tw4614167387346180127:=0
def tw10980846313984407597:=0
def tw15230180688083352923:=0
def tw1163628930171736491:=0
def tw15021761400040886020:=0
def tw13425172664358475891:=0
def tw7408475022655494998:=0
def tw1538576494926430019:=0
def tw4680638068689967454:=0
def tw13892300351724302824:=0
def tw17800677157772331646:=0
def tw6887495491868369383:=0
def tw2329303084219053276:=0
def tw4722525023389359828:=0
def tw8890969109748055239:=0
def tw930405439736526660:=0
def tw2653298586016685266:=0
def tw7895038971558740035:=0
def tw4517783445853636716:=0
def tw1412464115138534389:=0
def tw3506522528491845260:=0
def tw15607125241864071750:=0
def tw4407216980423769042:=0
def tw15518271558590038057:=0
def tw16777757676306078921:=0
def tw14579200838815020053:=0
def tw18137673093119908233:=0
def tw17196458878321348816:=0
def tw7068545396018869821:=0
def tw406605257843352496:=0
def tw16633153149172807506:=0
def tw14048233068280620647:=0
def tw1806229238346023366:=0
def tw3931878438069035056:=0
def tw9990451844424802070:=0
def tw13426940806663967363:=0
def tw13259556033281610182:=0
def tw8555139201372320105:=0
def tw815549082888566809:=0
def tw14459946583695063136:=0
def tw11297853899427551520:=0
def tw4984553743392176193:=0
def tw11916418278051593170:=0
def tw3858891027584778732:=0
def tw11568852085349751337:=0
def tw14350085836993202223:=0
def tw8381292074749813143:=0
def tw9024276198551075436:=0
def tw11513110118926758014:=0
def tw14370478532304328942:=0
def tw3723952811670444586:=0
def tw7875884034694420527:=0
def tw9779897914647642559:=0
def tw12209472534962967546:=0
def tw14543367662029269600:=0
def tw2252381508137954742:=0
def tw6727538284731195203:=0
def tw2521363868743897271:=0
def tw14324699002776355209:=0
def tw3712471149917949733:=0
def tw14293561660026695915:=0
def tw16032151864581056584:=0
def tw8228598128395415255:=0
def tw3871448120643819060:=0
def tw1464587112344437955:=0
def tw13985276386107109028:=0
def tw11350145156274323132:=0
def tw1306628773350608721:=0
def tw6879706377563832915:=0
def tw12333249332127097162:=0
def tw6278404403006031950:=0
def tw14740005045362797270:=0
def tw9786421243817603652:=0
end PySem.W.Fast
open PySem PySem.W PyProof.Rows
local macro_rules | `(tactic| walk_at $s:str) => do
  match s.getString with
  | "~0" => `(tactic| (dsimp only [L2.KOf]; refine' Mi.V6 $(Lean.mkIdent `KX) $(Lean.mkIdent `G) ?a ?l ?c ?k ?b; (case a => k_is); (case l => k_is); (case c => k_is); (case k => k_is); (case b => exact fun _ _ _ _ _ _ => Mi.ar0 rfl)))
  | "~1" => `(tactic| (dsimp only [L2.KOf]; refine' Mi.V6 $(Lean.mkIdent `KX) $(Lean.mkIdent `G) ?a ?l ?c ?k ?b; (case a => k_is); (case l => k_is); (case c => k_is); (case k => k_is); (case b => exact fun _ _ _ _ _ _ => Mi.ar1 (fun _ => rfl))))
  | "~2" => `(tactic| (dsimp only [L2.KOf]; refine' Mi.V6 $(Lean.mkIdent `KX) $(Lean.mkIdent `G) ?a ?l ?c ?k ?b; (case a => k_is); (case l => k_is); (case c => k_is); (case k => k_is); (case b => exact fun _ _ _ _ _ _ => Mi.ar2 (fun _ _ => rfl))))
  | "~3" => `(tactic| (dsimp only [L2.KOf]; refine' Mi.V6 $(Lean.mkIdent `KX) $(Lean.mkIdent `G) ?a ?l ?c ?k ?b; (case a => k_is); (case l => k_is); (case c => k_is); (case k => k_is); (case b => exact fun _ _ _ _ _ _ => Mi.ar3 (fun _ _ _ => rfl))))
  | "~4" => `(tactic| (dsimp only [L2.KOf]; refine' Mi.V6 $(Lean.mkIdent `KX) $(Lean.mkIdent `G) ?a ?l ?c ?k ?b; (case a => k_is); (case l => k_is); (case c => k_is); (case k => k_is); (case b => exact fun _ _ _ _ _ _ => Mi.ar4 (fun _ _ _ _ => rfl))))
  | "~5" => `(tactic| (dsimp only [L2.KOf]; refine' Mi.V6 $(Lean.mkIdent `KX) $(Lean.mkIdent `G) ?a ?l ?c ?k ?b; (case a => k_is); (case l => k_is); (case c => k_is); (case k => k_is); (case b => exact fun _ _ _ _ _ _ => Mi.ar5 (fun _ _ _ _ _ => rfl))))
  | "~6" => `(tactic| (dsimp only [L2.KOf]; refine' Mi.V6 $(Lean.mkIdent `KX) $(Lean.mkIdent `G) ?a ?l ?c ?k ?b; (case a => k_is); (case l => k_is); (case c => k_is); (case k => k_is); (case b => exact fun _ _ _ _ _ _ => Mi.ar6 (fun _ _ _ _ _ _ => rfl))))
  | "~b" => `(tactic| (refine' PySem.W.mg_none_of $(Lean.mkIdent `KX) $(Lean.mkIdent `G) ?a; (case a => k_is)))
  | _ => Lean.Macro.throwUnsupported
set_option maxRecDepth 100000 in
set_option maxHeartbeats 0 in
theorem PySem.Challenge.cw_doneroom_k54_tables_looked_at_holds : PySem.Challenge.rw_doneroom_k54_tables_looked_at.Holds := by
  w_on; o_law; k_head; (case hw => w_witness2)
  k_fill
  refine Mi.Qnv (l := PySem.Challenge.rw_doneroom_k54_tables_looked_at) (st := My.Us) (sem := My.Yy) (k := 10) rfl rfl ⟨rfl, by decide, by decide⟩ rfl (fun w h Y => PySem.W.kIn_of Y) (fun _ _ _ _ _ _ _ _ => .of_eq rfl) ?F My.main
  case F =>
    intro w mg h KX G
    have d__law_take : Mi.DefAt (L2.KOf KX) mg "_law_take" My.VD ["feed", "many"] := by walk_at "~2"
    have d__law_names : Mi.DefAt (L2.KOf KX) mg "_law_names" My.Zw ["feed", "many"] := by walk_at "~2"
    have d__law_step_on : Mi.DefAt (L2.KOf KX) mg "_law_step_on" My.Z6 ["lines", "opened"] := by walk_at "~2"
    have d__law_plain : Mi.DefAt (L2.KOf KX) mg "_law_plain" My.JX ["feed", "boxes", "words"] := by walk_at "~3"
    have d__law_part : Mi.DefAt (L2.KOf KX) mg "_law_part" My.Vy ["feed", "size", "menus", "later", "opens", "dos"] := by walk_at "~6"
    have d__law_program : Mi.DefAt (L2.KOf KX) mg "_law_program" My.Z2 ["feed", "bounds"] := by walk_at "~2"
    have d__law_feed : Mi.DefAt (L2.KOf KX) mg "_law_feed" My.VC ["script", "k"] := by walk_at "~2"
    have d__law_words : Mi.DefAt (L2.KOf KX) mg "_law_words" My.JY ["program"] := by walk_at "~1"
    have d__law_manner : Mi.DefAt (L2.KOf KX) mg "_law_manner" My.ZL ["program", "feed"] := by walk_at "~2"
    have d__law_next : Mi.DefAt (L2.KOf KX) mg "_law_next" My.Vz ["program", "rows", "spot"] := by walk_at "~3"
    have d__law_all : Mi.DefAt (L2.KOf KX) mg "_law_all" My.Xg ["program", "rows"] := by walk_at "~2"
    have d__law_ahead : Mi.DefAt (L2.KOf KX) mg "_law_ahead" My.J1 ["program", "rows", "every"] := by walk_at "~3"
    have d__law_given : Mi.DefAt (L2.KOf KX) mg "_law_given" My.Jf ["manner", "spot"] := by walk_at "~2"
    have d__law_made : Mi.DefAt (L2.KOf KX) mg "_law_made" My.Vr ["program", "spot"] := by walk_at "~2"
    have d__law_table : Mi.DefAt (L2.KOf KX) mg "_law_table" My.Zv ["program", "rows", "manner"] := by walk_at "~3"
    have d__law_blocks : Mi.DefAt (L2.KOf KX) mg "_law_blocks" My.JD ["lines"] := by walk_at "~1"
    have d__law_bent : Mi.DefAt (L2.KOf KX) mg "_law_bent" My.VA ["table", "words", "feed"] := by walk_at "~3"
    have d_asked_of : Mi.DefAt (L2.KOf KX) mg "asked_of" My.Vm ["ahead", "key"] := by walk_at "~2"
    have d_is_closed_table : Mi.DefAt (L2.KOf KX) mg "is_closed_table" My.Zi ["ahead", "numbers"] := by walk_at "~2"
    have d_all_lines : Mi.DefAt (L2.KOf KX) mg "all_lines" My.VF ["program"] := by walk_at "~1"
    have d_words_of : Mi.DefAt (L2.KOf KX) mg "words_of" My.Xt ["program"] := by walk_at "~1"
    have d_first_spot : Mi.DefAt (L2.KOf KX) mg "first_spot" My.J6 [] := by walk_at "~0"
    have d_line_of : Mi.DefAt (L2.KOf KX) mg "line_of" My.Kb ["program", "spot"] := by walk_at "~2"
    have d_at_gap : Mi.DefAt (L2.KOf KX) mg "at_gap" My.Yd ["spot", "k"] := by walk_at "~2"
    have d_at_head : Mi.DefAt (L2.KOf KX) mg "at_head" My.Kk ["spot", "k"] := by walk_at "~2"
    have d_level_change : Mi.DefAt (L2.KOf KX) mg "level_change" My.Je ["line"] := by walk_at "~1"
    have d_head_of : Mi.DefAt (L2.KOf KX) mg "head_of" My.Km ["lines", "k"] := by walk_at "~2"
    have d_found_behind : Mi.DefAt (L2.KOf KX) mg "found_behind" My.Z4 ["lines", "k", "kind"] := by walk_at "~3"
    have d_or_of : Mi.DefAt (L2.KOf KX) mg "or_of" My.Wc ["lines", "k"] := by walk_at "~2"
    have d_end_of : Mi.DefAt (L2.KOf KX) mg "end_of" My.Yg ["lines", "k"] := by walk_at "~2"
    have d_next_in_part : Mi.DefAt (L2.KOf KX) mg "next_in_part" My.Z7 ["lines", "spot"] := by walk_at "~2"
    have d_behind_do : Mi.DefAt (L2.KOf KX) mg "behind_do" My.VE ["spot"] := by walk_at "~1"
    have d_part_number : Mi.DefAt (L2.KOf KX) mg "part_number" My.Jy ["program", "name"] := by walk_at "~2"
    have d_next_spots : Mi.DefAt (L2.KOf KX) mg "next_spots" My.J2 ["program", "spot"] := by walk_at "~2"
    have d_spots : Mi.DefAt (L2.KOf KX) mg "spots" My.Wb ["program"] := by walk_at "~1"
    have d_words_by_place : Mi.DefAt (L2.KOf KX) mg "words_by_place" My.ZE ["manner"] := by walk_at "~1"
    have d_place_of : Mi.DefAt (L2.KOf KX) mg "place_of" My.Xf ["spot"] := by walk_at "~1"
    have d_steps_of : Mi.DefAt (L2.KOf KX) mg "steps_of" My.Xh ["program"] := by walk_at "~1"
    have d_made_word : Mi.DefAt (L2.KOf KX) mg "made_word" My.VB ["line"] := by walk_at "~1"
    have d_steps_to : Mi.DefAt (L2.KOf KX) mg "steps_to" My.Xu ["program", "manner"] := by walk_at "~2"
    have d_is_rising : Mi.DefAt (L2.KOf KX) mg "is_rising" My.Vx ["words"] := by walk_at "~1"
    have d_shows_most : Mi.DefAt (L2.KOf KX) mg "shows_most" My.ZA ["program", "manner", "number", "table"] := by walk_at "~4"
    have d__law_whole : Mi.DefAt (L2.KOf KX) mg "_law_whole" My.J3 ["found"] := by walk_at "~1"
    have d__law_entries : Mi.DefAt (L2.KOf KX) mg "_law_entries" My.Z5 ["table", "many"] := by walk_at "~2"
    have d__law_bears : Mi.DefAt (L2.KOf KX) mg "_law_bears" My.Jk ["program", "rows", "manner", "table", "number"] := by walk_at "~5"
    have d_law : Mi.DefAt (L2.KOf KX) mg "law" My.Us ["script"] := by walk_at "~1"
    have b_all : mg "all" = none := by walk_at "~b"
    have b_bool : mg "bool" = none := by walk_at "~b"
    have b_dict : mg "dict" = none := by walk_at "~b"
    have b_enumerate : mg "enumerate" = none := by walk_at "~b"
    have b_int : mg "int" = none := by walk_at "~b"
    have b_isinstance : mg "isinstance" = none := by walk_at "~b"
    have b_len : mg "len" = none := by walk_at "~b"
    have b_list : mg "list" = none := by walk_at "~b"
    have b_max : mg "max" = none := by walk_at "~b"
    have b_min : mg "min" = none := by walk_at "~b"
    have b_range : mg "range" = none := by walk_at "~b"
    have b_reversed : mg "reversed" = none := by walk_at "~b"
    have b_set : mg "set" = none := by walk_at "~b"
    have b_sorted : mg "sorted" = none := by walk_at "~b"
    have b_tuple : mg "tuple" = none := by walk_at "~b"
    exact ⟨d_law, fun base kb nb => My.Qip d__law_take d__law_names d__law_step_on d__law_plain d__law_part d__law_program d__law_feed d__law_words d__law_manner d__law_next d__law_all d__law_ahead d__law_given d__law_made d__law_table d__law_blocks d__law_bent d_asked_of d_is_closed_table d_all_lines d_words_of d_first_spot d_line_of d_at_gap d_at_head d_level_change d_head_of d_found_behind d_or_of d_end_of d_next_in_part d_behind_do d_part_number d_next_spots d_spots d_words_by_place d_place_of d_steps_of d_made_word d_steps_to d_is_rising d_shows_most d__law_whole d__law_entries d__law_bears d_law b_all b_bool b_dict b_enumerate b_int b_isinstance b_len b_list b_max b_min b_range b_reversed b_set b_sorted b_tuple⟩
