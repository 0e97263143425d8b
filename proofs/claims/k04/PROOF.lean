import PyProof.Rows.All
import Wide.All
import OpenK.AllK
import Wide.FinOn
import Lean
import PyProof.EqAt
import PyProof.EqKinds
import PyProof.TupleCall
import KE.KDictList
import KE.KRevIter
import KE.KTurns
import PyProof.Rows.SetFrom
import PyProof.Rows.SortStr
import PyProof.FactsAll.set
import PyProof.Draws
import PyProof.EnumMake
import PyProof.AttrMissSeq
import KE.KDictOf
import PyProof.Walks
import KE.KSortTup
import KE.KItemsList
import KE.KDictSum
import PyProof.Rows.SortRev
import KE.KDictLaws
import PyProof.DictTruth
import PyProof.MinMaxWalk
import PyProof.WalkInts
import PySem.Challenge.RW_doneroom_k04_programs
set_option Elab.async false
set_option bootstrap.genMatcherCode false
set_option linter.all false
set_option maxRecDepth 100000
noncomputable section
/-! THE HAND LAYER, for ints, bools, texts, own classes, LISTS and tuples (index, slices, in, append, pop ..), calls, loops. Paste it whole ahead of your own text; what your proof does not reach may be deleted. -/
open PySem renaming wpAny_bind->Na,wpAny_pure->Ng,wpAny_setState_of->NO,wpAny_newObj_type->NY,wpAny_mono->NZ,wpAny_holding->N6,wpAny_call_entry->Eb,wpAny_callSpecial?_slot->Ej,wpAny_askSetting->Et,wpAny_setField->Ex,wpAny_Call_Name_kw->EB,wpAny_field->EE,builtinLookup_eq_fast->EM,wpAny_of_eq->ER,wpAny_loadPart'->ET,wpAny_truthy_bool->EU,isSubtype_type->E3,call_meets->E5,sizeLine_eq->Dj,mem_of_lookup->Dr,wpAny_getItem_str_slice->Ds,wpAny_specialOf->Dt,codeAny_builtin->Dw,typeLookup_type->Dx,wpAny_passesOwn->DO,wpAny_binaryOp_repeat_ref->DS,codeAny_mono->DU,wpAny_pyIter_tuple->DX,wpAny_seqItems->D3,typeIs_int->D4,wpAny_rule->D5,wpAny_pyIter_list->Fb,wpAny_storeSet_of->Fc,wpAny_attempt->Fk,wpAny_isInstance->Fl,wpAny_typeOf->Fw,post_val_or_str->FA,wpAny_setEntries_of->FG,entryFor_alias->FN,wpAny_standAt->FT,plainId_quiet->FU,eqIsQuiet_byValue->FY,fits_of_scanBound->F5,wpAny_pyIter_slot->F6,noFill_tuple_add->Ih,wpAny_execs_nil->Iy,wpAny_updateSeq->IB,wpAny_ite_split->IC,wpAny_mkInt->IF,wpAny_pyNext_list_item->IG,wpAny_pyNext_list_end->IP,boot_len->IW,wpAny_loadName_local->IZ,seq_tuple_add->Li,wpAny_handled->Lj,wpAny_loadName_cell->Lm,wpAny_tupleItemsOf->Lx,concat_meets->LA,seqIndex_neg->LC,sub_set_self->LH,wpAny_forIn_array'->LK,wpAny_assign_Name->LP,wpAny_sequenceKey->LU,slot_list_getitem->LV,list_append->LW,wpAny_setEpoch_of->LZ,wpAny_pyIter_enum->L6,seqIndex_of->Oa,wpAny_throw->Oc,seqSlot_of->Om,wpAny_Name->Oq,typeIs_str->Ot,call->Ou,Within->OL
open Option renaming bind_eq_some_iff->Nc,map_eq_some_iff->Nf,bind_some->Nq,isSome_iff_exists->Ig,getD_none->Of,map_some->OA
open PySem.W renaming Frag->Nd,kia_one->Ee,fnOf->Da,keepIn->DB,mg_of->DJ,KeysLit->DQ,nsIn->DY,codeIn->FI,methodObj->FZ,kitx_list->F0,instObj->Iv,cellsFrom_some->IH,lookIn->IQ,findIn->IR,pyHash_slot->Ll,kitx_tuple->Lz,kitx_dict->LR,plainGet->Oe,kitOne->OB,WalkO->OG
open List renaming size_toArray->Nh,getElem?_eq_some_iff->Nj,getElem?_eq_getElem->Nk,mem_map->No,mem_cons_of_mem->Np,mem_cons_self->Nr,getElem?_map->Nu,mem_cons->Nv,length_map->NB,length_append->NC,mem_iff_getElem?->ND,mem_singleton->NE,mem_append_right->NF,mem_append->NI,map_cons->NK,mem_of_getElem?->NN,all_eq_true->NP,not_mem_nil->NQ,length_eq_zero_iff->NT,mem_range->NU,map_append->NW,getElem?_append_left->N5,mem_append_left->N7,lookup_cons->Ec,length_take->Ef,all_eq_false->Eh,nodup_cons->Ek,mem_of_mem_take->El,replicate_succ->Em,take_append_drop->Ep,find?_cons->Er,length_cons->Es,mem_of_mem_drop->Eu,getElem?_append_right->Ew,getElem?_range->Ey,getElem?_eq_none->Ez,length_singleton->EA,toList_toArray->ED,map_map->EG,getD_eq_getElem?_getD->EI,take_length->EK,drop_eq_getElem_cons->EQ,flatten_cons->EV,any_cons->EW,dropLast_concat_getLast->E2,getElem?_set_self->E4,take_of_length_le->E6,length_set->Dc,take_add_one->Dh,getElem?_set_ne->Di,nodup_nil->Dm,filterMap_cons->Dq,append_nil->Du,drop_eq_nil_of_le->Dy,nodup_append->DA,cons_lt_cons_iff->DF,map_drop->DK,length_reverse->DL,mem_map_of_mem->DN,length_nil->DP,getElem?_take_of_lt->DV,length_erase_of_mem->DZ,getElem?_drop->D1,findIdx?_eq_some_iff_getElem->Ff,all_cons->Fj,length_drop->Fo,getElem?_toArray->Fp,map_nil->Fy,mem_erase_of_ne->FD,take_append_of_le_length->FE,map_congr_left->FH,drop_zero->FP,mem_filterMap->FQ,length_eraseIdx_of_lt->FV,ext_getElem?->FX,reverse_cons->F3,length_range->F4,findIdx?_eq_none_iff->F9,getElem?_eq_none_iff->Ia,getElem_mem->Ij,mem_flatMap->Io,eq_of_mem_replicate->Ip,getElem?_replicate->Iq,mem_filter->Iw,of_mem_zip->Iz,foldl_cons->IA,not_lt_nil->IE,range_succ_eq_map->IK,length_pos_of_mem->IL,dropLast_eq_take->IT,contains_iff_mem->IU,getElem?_reverse->IX,length_dropLast->Lc,perm_cons_erase->Ld,getElem?_zipIdx->Lf,map_take->Lk,flatMap_append->Lu,length_zipIdx->LJ,map_replicate->LL,map_id'->LO,any_eq_false->LQ,take_sublist->LS,getElem?_inj->LX,pairwise_map->L7,drop_sublist->L8,flatMap_cons->L9,any_toArray->Oh,filter_cons->Oi,perm_middle->Oj,nodup_range->Ol,range_zero->Ov,le_trans->OH,all_map->OM,map_set->ON
open PySem.Heap renaming get?_push_of_some->Ni,get?_push_size->Ny,lt_size->Nz,get?_update_self->Ea,get?_update_other->EF,size_push->FJ
open Nat renaming lt_of_lt_of_le->Nl,le_trans->Nn,le_refl->Nw,le_of_eq->Nx,lt_of_le_of_lt->NG,le_add_right->NJ,ne_of_lt->NS,zero_add->N1,not_lt->N4,le_of_lt->N8,zero_le->Ei,lt_trans->Eo,lt_irrefl->Ev,lt_succ_self->EJ,add_lt_add_left->EZ,not_lt_zero->Dv,lt_or_ge->DE,not_lt_of_le->DI,sub_lt_left_of_lt_add->DR,ne_of_gt->DT,le_of_lt_succ->Fa,lt_succ_of_lt->Fd,min_le_right->Fm,sub_le->Fv,le_antisymm->Fx,not_le->Fz,succ_pos->FC,add_sub_cancel'->FF,mul_le_mul->FK,mod_lt->Ic,add_sub_cancel_left->Ir,min_eq_left->ID,sub_self->LF,add_right_comm->LG,le_succ->Ob,min_eq_right->Oo,add_assoc->OD
open Array renaming length_toList->NA,getElem?_eq_getElem->NX,getElem?_toList->N3,getD_eq_getD_getElem?->DG,eq_empty_of_size_eq_zero->FB,getElem?_eq_some_iff->FW,getElem?_eq_none->IM,forIn_toList->Ly,toList_push->LY
open Bool renaming and_eq_true->NH,false_ne_true->N9,and_eq_false_iff->EL,and_false->E1,false_eq_true->E8,or_eq_true->Dd,and_true->Lh,not_eq_true'->L3,eq_iff_iff->Oz,not_true->OE,or_false->OF,and_self->OI,false_or->OJ
open Int renaming emod_lt_of_pos->NM,emod_nonneg->NR,natCast_add->N2,toNat_natCast->En,toNat_of_nonneg->DM,not_le->F7,add_zero->LM,zero_add->LN,add_mul->Od
open PySem.Heap.SameBut renaming update->NV,refl->Dg,extBut->Ls
open PyProof.Rows renaming slot_tuple_getitem->N0,callWith_type1->Eg,callWith_builtin1->ES,boot_tuple->EX,boot_list->Fi,subscriptTail_builtinR->II,boot_str->IY,entry_tuple_getitem->Lo,args_tuple_getitem->LB,Subscript_->Os
open Option.some renaming inj->Ed
open PySem.PassesOwn renaming never->EC
open PySem.Paired renaming length->EH,snoc->OP
open PySem.F renaming slot_int_rmul->EN,plainAttrs_list->EY,slot_tuple_mul->E7,slot_tuple_iterator_next->De,called_set->Dn,slot_list_append->DC,slot_list_extend->DD,args_tuple_add_2->DW,args_tuple_mul_2->D2,entry_tuple_add->D6,args_int_rmul_2->D8,entry_tuple_mul->D9,slot_tuple_add->Fe,slot_int_index->Fg,entry_int_rmul->Fh,fills_int_mul->Ft,args_tuple_iterator_next_1->FO,entry_tuple_iterator_next->FR,slot_dict_getitem->F8,type_list_append->Il,type_list_extend->Im,slot_tuple_rmul->Iu,slot_dict_get->IS,args_list_append_2->La,args_list_extend_2->Lb,args_object_init_2->Le,entry_list_append->Lp,entry_list_extend->Lq,plain_extend_loop->Lr,slot_list_pop->LD,plain_set_new->Ox,slot_set_iter->Oy
open Classical renaming byContradiction->EO
open PySem.Calls renaming spliced_cons->E9,spliced_nil->Df,Name_function_global->FS,callWith_builtin->IJ
open PySem.Obj renaming data_mapFields->Db,isFreed_of_fields->Fq,cls_mapFields->L4
open LawfulBEq renaming eq_of_beq->Dk
open Ne renaming symm->Dl
open PySem.Value renaming isStrOf_shape->Dp
open Function renaming comp_def->Dz
open PySem.Around renaming under_plainId->DH
open PyProof.Rows.F renaming plain_set_update_loop->D7,entry_set_update_loop->Is
open PyProof.Rows.StrsAre renaming length->FL
open PySem.Txt renaming slice_le->Ii
open PySem.AutoSeq1 renaming idx_int->Ik
open PySem.Str renaming ofString_eq_toList->IN
open List.Perm renaming refl->IV
open PySem.Challenge renaming pw_doneroom_k04_programs->Lg
open PySem.SeqAt.EqAt renaming int_str->Lv,str_int->Lw
open PySem.Code renaming quiet_builtin->LI
open PySem.WalksT renaming enumerateD->L5
open PySem.IsL renaming update->Og
open PySem.Heap.ExtBut renaming push->On
open PyProof.Rows.IsTup renaming new->OC
open List.cons renaming inj->OK
open Sum.inr renaming inj->OO
open PySem.Heap.IsSliceOf renaming new->OQ
open PySem PySem.Spec PyProof.Rows
namespace L2
noncomputable abbrev Key:=Sum Int Str
noncomputable def QaJ:Key->Value->Bool
 |.inl k,v=>Value.isInt k v
 |.inr x,v=>Value.isStrOf x v
noncomputable def QlG(w:World):Key->Int
 |.inl k=>hashInt k
 |.inr x=>hashStr w x
theorem Zc:∀{k:Key} {v:Value},QaJ k v=true->(∃i t,k=Sum.inl i/\v=Value.int i t)\/(∃x t,k=Sum.inr x/\v=Value.str x t)
 |.inl i,v,h=>by
  obtain⟨t,e⟩:=Value.isInt_shape (k:=i) (v:=v) h;exact .inl ⟨i,t,rfl,e⟩
 |.inr x,v,h=>by
  obtain⟨t,e⟩:=Dp (x:=x) (v:=v) h;exact .inr ⟨x,t,rfl,e⟩
theorem QbI(i:Int)(t:Tok):QaJ (.inl i) (.int i t)=true:=by simp[QaJ,Value.isInt]
theorem QcE(x:Str)(t:Tok):QaJ (.inr x) (.str x t)=true:=by simp[QaJ,Value.isStrOf]
theorem Qif(a b:Int):decide ((Sum.inl a:Key)=Sum.inl b)=(a==b):=by
 by_cases e:a=b
 ·subst e;simp
 ·have h:¬(Sum.inl a:Key)=Sum.inl b:=fun q=>e (Sum.inl.inj q);rw[decide_eq_false h];exact(beq_eq_false_iff_ne.mpr e).symm
theorem Qg8(a b:Str):decide ((Sum.inr a:Key)=Sum.inr b)=decide (a=b):=by
 by_cases e:a=b
 ·subst e;simp
 ·have h:¬(Sum.inr a:Key)=Sum.inr b:=fun q=>e (OO q);rw[decide_eq_false h,decide_eq_false e]
theorem Qh5(a:Int)(b:Str):decide ((Sum.inl a:Key)=Sum.inr b)=false:=decide_eq_false (fun q=>nomatch q)
theorem QhH(a:Str)(b:Int):decide ((Sum.inr a:Key)=Sum.inl b)=false:=decide_eq_false (fun q=>nomatch q)
noncomputable def Vr(prog:Program)(w:World):PySem.KeyKind prog w Key where
 is:=QaJ
 hash:=QlG w
 inj:=fun v a b f d=>by
  rcases Zc f with⟨i,t,rfl,rfl⟩|⟨x,t,rfl,rfl⟩
  ·rcases Zc d with⟨j,u,rfl,e⟩|⟨y,u,rfl,e⟩
   ·injection e with e1 _;rw[e1]
   ·exact nomatch e
  ·rcases Zc d with⟨j,u,rfl,e⟩|⟨y,u,rfl,e⟩
   ·exact nomatch e
   ·injection e with e1 _;rw[e1]
 byValue:=fun k v h=>by
  rcases Zc h with⟨i,t,rfl,rfl⟩|⟨x,t,rfl,rfl⟩<;>rfl
 pyHash:=fun c h=>by
  rcases Zc c with⟨i,t,rfl,rfl⟩|⟨x,t,rfl,rfl⟩
  ·exact wpAny_pyHash_int h
  ·exact wpAny_pyHash_str h
 eqBool:=fun hu c h=>by
  rcases Zc hu with⟨i,t,rfl,rfl⟩|⟨x,t,rfl,rfl⟩
  ·rcases Zc c with⟨j,u,rfl,rfl⟩|⟨y,u,rfl,rfl⟩
   ·rw[Qif]at h;exact wpAny_eqBool_int h
   ·rw[Qh5]at h;exact Lv i t y u _ _ _ _ h
  ·rcases Zc c with⟨j,u,rfl,rfl⟩|⟨y,u,rfl,rfl⟩
   ·rw[QhH]at h;exact Lw x t j u _ _ _ _ h
   ·rw[Qg8]at h;exact wpAny_eqBool_str h
 «strs»:=fun k x t v h=>by
  rcases Zc h with⟨i,u,rfl,e⟩|⟨y,u,rfl,e⟩
  ·exact nomatch e
  ·injection e with e1 _
   subst e1;cases v<;>rfl
theorem US(prog:Program)(w:World)(i:Int)(t:Tok):(Vr prog w).is (.inl i) (.int i t)=true:=QbI i t
theorem Gb(prog:Program)(w:World)(x:Str)(t:Tok):(Vr prog w).is (.inr x) (.str x t)=true:=QcE x t
inductive V where
 |non|bl (b:Bool)|int (i:Int)|str (x:Str)|byt (b:Array UInt8)|flt (b:UInt64)|ref (a:Addr)|ty (n:String)
 deriving DecidableEq
noncomputable def RelV:V->Value->Prop
 |.non,u=>u=Value.none
 |.bl b,u=>u=Value.bool b
 |.int i,u=>∃t,u=Value.int i t
 |.str x,u=>∃t,u=Value.str x t
 |.byt b,u=>∃t,u=Value.bytes b t
 |.flt b,u=>∃t,u=Value.float b t
 |.ref a,u=>u=Value.ref a
 |.ty n,u=>u=Value.type n
noncomputable abbrev Vals:List V->List Value->Prop:=Paired RelV
theorem Vals.length{xs:List V}{us:List Value}(r:Vals xs us):xs.length=us.length:=EH r
theorem Vals.get:∀{xs:List V} {us:List Value} {i:Nat} {x:V},Vals xs us->xs[i]?=some x->∃u,us[i]?=some u/\RelV x u
 |_,_,_,_,.nil,e=>by simp at e
 |_,_,0,_,.cons r _,e=>by simp at e;subst e;exact⟨_,rfl,r⟩
 |_,_,i+1,x,.cons _ t,e=>by
  obtain⟨u,h1,a⟩:=Vals.get (i:=i) (x:=x) t (by simpa using e);exact⟨u,by simpa using h1,a⟩
theorem Vals.set{x:V}{u:Value}(r:RelV x u):∀{xs:List V} {us:List Value} (i:Nat),Vals xs us->Vals (xs.set i x) (us.set i u)
 |_,_,_,.nil=>.nil
 |_,_,0,.cons _ t=>.cons r t
 |_,_,i+1,.cons q t=>.cons q (Vals.set r i t)
theorem Vals.append:∀{xs a:List V} {us ws:List Value},Vals xs us->Vals a ws->Vals (xs++a) (us++ws)
 |_,_,_,_,.nil,s=>s
 |_,_,_,_,.cons r t,s=>.cons r (Vals.append t s)
theorem Vals.take:∀{xs:List V} {us:List Value} (n:Nat),Vals xs us->Vals (xs.take n) (us.take n)
 |_,_,0,_=>.nil
 |_,_,_+1,.nil=>.nil
 |_,_,n+1,.cons r t=>.cons r (Vals.take n t)
theorem Vals.drop:∀{xs:List V} {us:List Value} (n:Nat),Vals xs us->Vals (xs.drop n) (us.drop n)
 |_,_,0,r=>r
 |_,_,_+1,.nil=>.nil
 |_,_,n+1,.cons _ t=>Vals.drop n t
noncomputable def RelO:Option V->Option Value->Prop
 |some v,some u=>RelV v u
 |none,none=>True
 |_,_=>False
noncomputable def KV{κ:Type}:List (κ×V)->List (κ×Value)->Prop:=Paired fun(p:κ×V) (q:κ×Value)=>p.1=q.1/\RelV p.2 q.2
inductive Tr where
 |i (n:Int)
 |s (x:Str)
 |t (ks:List Tr)
noncomputable instance trDec:DecidableEq Tr:=fun _ _=>Classical.propDecidable _
noncomputable def IsT(h:Heap):Nat->Tr->Value->Prop
 |0,_,_=>False
 |_+1,.i k,v=>(∃t,v=.int k t)\/∃b:Bool,v=.bool b/\k=if b then 1 else 0
 |_+1,.s x,v=>∃t,v=.str x t
 |n+1,.t ks,v=>∃a c,v=.ref a/\h.IsTuple a c/\Paired (IsT h n) ks c.toList
theorem Qd8{e d:Type}{F:e->d->Prop}(h:∀x y v,F x v->F y v->x=y){xs c:List e}{f:List d}(p:Paired F xs f)(q:Paired F c f):xs=c:=by
 induction p generalizing c with
 |nil=>cases q;rfl
 |cons a s g=>cases q with|cons b t=>rw[h _ _ _ a b,g t]
theorem Qb0{h:Heap}{n:Nat}{x:Tr}{a:Addr}(d:IsT h n x (.ref a)):∃m ks c,n=m+1/\x=.t ks/\h.IsTuple a c/\Paired (IsT h m) ks c.toList:=by
 cases n with
 |zero=>exact d.elim
 |succ n=>
  cases x with
  |i k=>rcases d with⟨t,e⟩|⟨b,e,_⟩<;>cases e
  |s y=>obtain⟨t,e⟩:=d;cases e
  |t ks=>obtain⟨f,c,e,p,q⟩:=d;cases e;exact⟨n,ks,c,rfl,rfl,p,q⟩
theorem U5{h:Heap}{a:Addr}{x y:Array Value}(e:h.IsTuple a x)(d:h.IsTuple a y):x=y:=by
 obtain⟨o,g,_,n,f⟩:=e;obtain⟨i,c,_,j,b⟩:=d;rw[g]at c;cases c;rw[f]at b;injection b
noncomputable def gT:Value->Tr
 |.int i _=>.i i
 |.bool b=>.i (if b then 1 else 0)
 |.str x _=>.s x
 |_=>.t []
theorem Qii{h:Heap}{n:Nat}{x:Tr}{v:Value}(c:IsT h n x v):(∃a,v=.ref a)\/x=gT v:=by
 cases n with
 |zero=>exact c.elim
 |succ n=>
  cases x with
  |i k=>rcases c with⟨t,rfl⟩|⟨b,rfl,rfl⟩<;>exact .inr rfl
  |s y=>obtain⟨t,rfl⟩:=c;exact .inr rfl
  |t e=>obtain⟨a,d,rfl,_⟩:=c;exact .inl ⟨a,rfl⟩
theorem UJ{h:Heap}:∀{n:Nat} (x y:Tr) (v:Value),IsT h n x v->IsT h n y v->x=y
 |0,_,_,_,b,_=>b.elim
 |n+1,x,y,v,b,d=>by
  by_cases r:∃a,v=.ref a
  ·obtain⟨a,rfl⟩:=r;obtain⟨m,s,i,e,rfl,p,q⟩:=Qb0 b;obtain⟨l,o,c,j,rfl,g,f⟩:=Qb0 d;cases e;cases j;cases U5 p g;rw[Qd8 (fun x y v=>UJ (n:=n) x y v) q f]
  ·rw[(Qii b).resolve_left r,(Qii d).resolve_left r]
theorem Yi{g e:Type}{F G:g->e->Prop}(f:∀a b,F a b->G a b):∀{d:List g} {c:List e},Paired F d c->Paired G d c
 |_,_,.nil=>.nil
 |_,_,.cons r t=>.cons (f _ _ r) (Yi f t)
theorem W2{h h':Heap}{d:Addr}{o:Obj}{es u}(g:h.get? d=some o)(hd:o.data=.dict es u)(l:Heap.SameBut d h h'):∀{n:Nat} (k:Tr) (v:Value),IsT h n k v->IsT h' n k v
 |0,_,_,x=>x.elim
 |n+1,.i k,v,x=>x
 |n+1,.s k,v,x=>x
 | n+1,.t ks,v,⟨a,f,e,⟨p,c,r,m,b⟩,q⟩=>by
  have j:a≠d:=by
   rintro rfl
   rw[c]at g;cases g;rw[hd]at b;exact nomatch b
  exact⟨a,f,e,⟨p,(l.2 a j).trans c,r,m,b⟩,Yi (fun k v=>W2 g hd l k v) q⟩
noncomputable def hN(w:World):Nat->Tr->Int
 |0,_=>0
 |_+1,.i k=>hashInt k
 |_+1,.s x=>hashStr w x
 |n+1,.t ks=>reduceHash (Builtin.Tuple.tupleHashOf (ks.map (hN w n)))
noncomputable def dN:Nat->Tr->Nat
 |0,_=>0
 |_+1,.i _=>1
 |_+1,.s _=>1
 |n+1,.t ks=>(ks.map (dN n)).sum+1
section
variable{prog:Program}{w:World}{E:Value->Shared->Prop}
theorem Uz{n:Nat}{A:Around}(d:∀(k:Tr) (v:Value) (s:Shared) (Q:Int->Shared->Prop),IsT s.heap n k v->Q (hN w n k) { s with toks:=s.toks+dN n k }->wpAny (model prog w) A (pyHash v) Q E s) :
  ∀(ks:List Tr) (c:List Value) (s:Shared) (b:Array Int) (Q:Array Int->Shared->Prop),Paired (IsT s.heap n) ks c ->
  (∀a,a.toList=b.toList++ks.map (hN w n)->Q a { s with toks:=s.toks+(ks.map (dN n)).sum }) ->
  wpAny (model prog w) A (forIn c b fun x r=>do let h <-pyHash x;pure PUnit.unit;pure (ForInStep.yield (r.push h))) Q E s
 |[],_,s,b,Q,x,h=>by cases x;exact Ng (h b (by simp))
 | k::ks,_,s,b,Q,x,h=>by
  cases x with
  |cons f e=>
   rw[List.forIn_cons];refine Na (Na (d k _ s _ f ?_));refine Na (Ng (Ng ?_));refine Uz d ks _ _ _ Q e fun a g=>?_;have:=h a (by simp[g]);simpa[OD]using this
theorem QeF:∀(n:Nat) (A:Around),A.units+n<cLine->∀(k:Tr) (v:Value) (s:Shared) (Q:Int->Shared->Prop),IsT s.heap n k v->Q (hN w n k) { s with toks:=s.toks+dN n k }->wpAny (model prog w) A (pyHash v) Q E s
 |0,_,_,_,_,_,_,x,_=>x.elim
 | n+1,A,hu,.i k,v,s,Q,x,h=>by
  rcases x with⟨t,rfl⟩|⟨b,rfl,rfl⟩
  ·exact wpAny_pyHash_int h
  ·refine Ll (T:="bool") rfl F.slot_bool_hash entry_int_hash (args_int_hash _) (beq_builtin_none _) (.inr (NG (NJ _ _) hu)) ?_;cases b
   ·exact(show wpAny _ _ (do ret (<-mkInt 0)) _ _ s from Na (IF (Ng ⟨_,_,rfl,h⟩)))
   ·exact(show wpAny _ _ (do ret (<-mkInt 1)) _ _ s from Na (IF (Ng ⟨_,_,rfl,h⟩)))
 |n+1,A,hu,.s y,v,s,Q,x,h=>by
  obtain⟨t,rfl⟩:=x;exact wpAny_pyHash_str h
 |n+1,A,hu,.t d,v,s,Q,x,h=>by
  obtain⟨a,e,rfl,⟨o,c,f,m,hd⟩,q⟩:=x;refine Ll (T:="tuple") ⟨_,c,f⟩ F.slot_tuple_hash F.entry_tuple_hash (F.args_tuple_hash_1 _) (beq_builtin_none _) (.inr (NG (NJ _ _) hu)) ?_;show wpAny _ _ (Builtin.Tuple.tupleItemsOf (.ref a)>>=_) _ _ s;refine Na (Lx c hd ?_);refine Na ?_;rw[<-Ly];refine Uz (n:=n) (fun k v s Q=>QeF n A.in1 (by show A.units+1+n<cLine;lia) k v s Q) d _ s #[] _ q fun b g=>?_;show wpAny _ _ (retInt (Builtin.Tuple.tupleHashOf b.toList)) _ _ _;rw[g];refine Na (IF (Ng ⟨_,_,rfl,?_⟩));simpa[hN,dN,OD]using h
theorem Qgf{n:Nat}{h:Heap}{e:Nat->Bool}:∀{ks ls:List Tr} {us d:List Value},Paired (IsT h n) ks us->Paired (IsT h n) ls d->(∀(j:Nat) (x y:Tr),ks[j]?=some x->ls[j]?=some y->e j=decide (x=y)) ->
  ((List.range (min us.length d.length)).all e&&us.length==d.length)=decide (Tr.t ks=Tr.t ls):=by
 intro ks ls us d p q g;have l:=EH p;have i:=EH q;rw[<-l,<-i]
 by_cases c:ks.length=ls.length
 ·by_cases f:ks=ls
  ·subst f;simp only[Nat.min_self,beq_self_eq_true,Lh,decide_true];rw[NP];intro j b;rw[NU]at b;rw[g j ks[j] ks[j] (Nk b) (Nk b)];simp
  ·have:decide (Tr.t ks=Tr.t ls)=false:=decide_eq_false fun z=>f (Tr.t.inj z);rw[this,EL];left;have:∃j,ks[j]?≠ls[j]?:=EO fun z=>f (FX fun j=>EO fun y=>z ⟨j,y⟩);obtain⟨j,b⟩:=this;have a:j<ks.length:=EO fun z=>b (by rw[Ez (N4.mp z),Ez (Nn (Nx c.symm) (N4.mp z))]);rw[Eh];refine⟨j,NU.mpr (by lia),?_⟩;rw[g j ks[j] ls[j] (Nk a) (Nk (Nl a (Nx c)))];intro z;rw[decide_eq_true_eq]at z;exact b (by rw[Nk a,Nk (Nl a (Nx c)),z])
 ·have m:(ks.length==ls.length)=false:=beq_eq_false_iff_ne.mpr c;rw[m,E1];exact(decide_eq_false fun z=>c (by rw[Tr.t.inj z])).symm
theorem XS{c d:Type}{F:c->d->Prop}:∀{b:List c} {a:List d} {j:Nat} {x:c},Paired F b a->b[j]?=some x->∃v,a[j]?=some v/\F x v
 |_,_,0,x,.cons r t,e=>by simp at e;subst e;exact⟨_,rfl,r⟩
 |_,_,j+1,x,.cons r t,e=>by
  obtain⟨v,h1,f⟩:=XS (j:=j) (x:=x) t (by simpa using e);exact⟨v,by simpa using h1,f⟩
open SeqAt in
theorem QkY{s:Shared}:∀(n:Nat) (A:Around),A.units+n<cLine->∀(x y:Tr) (u v:Value),IsT s.heap n x u->IsT s.heap n y v->EqAt A s u v (decide (x=y))
 |0,_,_,_,_,_,_,c,_=>c.elim
 | n+1,A,hu,.i a,.i b,u,v,c,d=>by
  have hd:decide (Tr.i a=Tr.i b)=(a==b):=by
   by_cases z:a=b
   ·subst z;simp
   ·rw[decide_eq_false fun q=>z (Tr.i.inj q)];exact(beq_eq_false_iff_ne.mpr z).symm
  rw[hd]
  rcases c with⟨t,rfl⟩|⟨p,rfl,rfl⟩<;>rcases d with⟨g,rfl⟩|⟨q,rfl,rfl⟩
  ·exact EqAt.int_int a t b g
  ·exact EqAt.int_bool a t q
  ·exact EqAt.bool_int p b g
  ·have:=EqAt.bool_bool (A:=A) (s:=s) p q;cases p<;>cases q<;>exact this
 |n+1,A,hu,.i a,.s b,u,v,c,d=>by
  obtain⟨g,rfl⟩:=d;rw[decide_eq_false (fun z=>nomatch z)]
  rcases c with⟨t,rfl⟩|⟨p,rfl,rfl⟩
  ·exact EqAt.int_str a t b g
  ·exact EqAt.bool_str p b g
 |n+1,A,hu,.i a,.t h,u,v,c,d=>by
  obtain⟨ad,f,rfl,p,_⟩:=d;rw[decide_eq_false (fun z=>nomatch z)]
  rcases c with⟨t,rfl⟩|⟨q,rfl,rfl⟩
  ·exact EqAt.int_tuple a t p (NG (NJ _ _) hu)
  ·exact EqAt.bool_tuple q p (NG (NJ _ _) hu)
 |n+1,A,hu,.s b,.i a,u,v,c,d=>by
  obtain⟨g,rfl⟩:=c;rw[decide_eq_false (fun z=>nomatch z)]
  rcases d with⟨t,rfl⟩|⟨p,rfl,rfl⟩
  ·exact EqAt.str_int b g a t
  ·exact EqAt.str_bool b g p
 | n+1,A,hu,.s a,.s b,u,v,c,d=>by
  obtain⟨t,rfl⟩:=c;obtain⟨g,rfl⟩:=d
  have hd:decide (Tr.s a=Tr.s b)=(a==b):=by
   by_cases z:a=b
   ·subst z;simp
   ·rw[decide_eq_false fun q=>z (Tr.s.inj q)];exact(beq_eq_false_iff_ne.mpr z).symm
  rw[hd];exact EqAt.str_str a t b g
 |n+1,A,hu,.s b,.t h,u,v,c,d=>by
  obtain⟨ad,f,rfl,p,_⟩:=d;obtain⟨t,rfl⟩:=c;rw[decide_eq_false (fun z=>nomatch z)];exact EqAt.str_tuple b t p (NG (NJ _ _) hu)
 |n+1,A,hu,.t h,.i a,u,v,c,d=>by
  obtain⟨ad,f,rfl,p,_⟩:=c;rw[decide_eq_false (fun z=>nomatch z)]
  rcases d with⟨t,rfl⟩|⟨q,rfl,rfl⟩
  ·exact EqAt.tuple_int a t p (NG (NJ _ _) hu)
  ·exact EqAt.tuple_bool q p (NG (NJ _ _) hu)
 |n+1,A,hu,.t h,.s b,u,v,c,d=>by
  obtain⟨ad,f,rfl,p,_⟩:=c;obtain⟨t,rfl⟩:=d;rw[decide_eq_false (fun z=>nomatch z)];exact EqAt.tuple_str b t p (NG (NJ _ _) hu)
 | n+1,A,hu,.t h,.t l,u,v,c,d=>by
  obtain⟨ad,f,rfl,p,q⟩:=id c;obtain⟨Q,m,rfl,J,F⟩:=id d
  by_cases B:ad=Q
  ·subst B;have:=UJ _ _ _ c d;rw[this,decide_eq_true rfl];exact EqAt.same _
  ·refine EqAt.of_refs B ?_;have P:=QkY (s:=s) n A.in1 (by show A.units+1+n<cLine;omega)
   have I:=RcAt.tuples (A:=A) (s:=s) (e:=fun j=>match h[j]?,l[j]? with|some x,some y=>decide (x=y)|_,_=>false) p J (NG (NJ _ _) hu) (fun j D C=>by
    have M:=EH q;have L:=EH F;have O:j<h.length:=by rw[M];exact D
    have N:j<l.length:=by rw[L];exact C
    obtain⟨x,c⟩:∃x,h[j]?=some x:=⟨h[j],Nk O⟩
    obtain⟨y,d⟩:∃y,l[j]?=some y:=⟨l[j],Nk N⟩
    obtain⟨u,o,G⟩:=XS q c;obtain⟨t,r,H⟩:=XS F d;rw[c,d]
    have e1:f[j]=u:=by
     rw[N3,NX D]at o;exact Ed o
    have e2:m[j]=t:=by
     rw[N3,NX C]at r;exact Ed r
    rw[e1,e2]
    exact P x y u t G H)
   have:=Qgf (e:=fun j=>match h[j]?,l[j]? with|some x,some y=>decide (x=y)|_,_=>false) q F (fun j x y D C=>by simp only[D,C]);rw[NA,NA]at this;rw[this]at I;exact I
theorem QcG{A:Around}{s:Shared}:∀(n m:Nat) (k:Tr) (v:Value) (Q:Bool->Shared->Prop),IsT s.heap n k v->n<=m->Q true s->wpAny (model prog w) A (eqIsQuiet m v) Q E s
 |0,_,_,_,_,x,_,_=>x.elim
 |n+1,m,.i k,v,Q,x,_,h=>by
  rcases x with⟨t,rfl⟩|⟨b,rfl,rfl⟩
  ·rw[FY _ rfl];exact Ng h
  ·rw[FY _ rfl];exact Ng h
 |n+1,m,.s k,v,Q,x,_,h=>by
  obtain⟨t,rfl⟩:=x;rw[FY _ rfl];exact Ng h
 |n+1,0,.t f,v,Q,x,z,h=>by lia
 | n+1,m+1,.t f,v,Q,x,z,h=>by
  obtain⟨a,e,rfl,⟨o,g,B,l,hd⟩,q⟩:=x;have j:s.TypeIs (.ref a) "tuple":=⟨o,g,B⟩
  unfold eqIsQuiet;refine Na (Dt j F.slot_tuple_eq.lookup ?_);show wpAny _ _ (isInstance (.ref a) (.type "tuple")>>=_) _ _ s;refine Na (Fl j isSubtype_tuple_tuple ?_);simp only[OE,E8,if_false];refine Na (D3 g hd ?_);refine Na ?_;show wpAny _ _ (forIn e _ _) _ _ s;rw[<-Ly];refine wpAny_forIn_list _ (fun rest r d=>r.1=none/\d=s/\∃c,Paired (IsT s.heap n) c rest) _ ?_ ?_ _ _ ⟨rfl,rfl,f,q⟩
  ·rintro v rest r d ⟨hr,rfl,c,y⟩
   cases y with
   |cons u p=>
    refine Na (QcG n m _ _ _ u (by lia) ?_);simp only[OE,E8,if_false];exact Ng ⟨rfl,rfl,_,p⟩
  ·rintro⟨D,C⟩ d ⟨hr,rfl,_⟩
   simp only at hr;subst hr;exact Ng h
end
noncomputable def Qdk(prog:Program)(w:World):HeapKind prog w Tr where
 is:=fun h k a=>IsT h 8 k (.ref a)
 hash:=hN w 8
 draws:=dN 8
 room:=fun A=>A.units+8<cLine
 inj:=fun c b=>UJ _ _ _ c b
 keeps:=fun x f hd e=>W2 f hd e _ _ x
 pyHash:=fun hu d h=>QeF 8 _ hu _ _ _ _ d h
 eqBool:=fun hu c b h=>QkY 8 _ hu _ _ _ _ c b _ _ _ _ h
 quiet:=fun d h=>QcG 8 8 _ _ _ d (Nw _) h
noncomputable def kV:Key->V
 |.inl i=>.int i
 |.inr x=>.str x
inductive HO where
 /-- a list -/
 |lst (xs:List V)
 /-- a tuple (never changes) -/
 |tup (xs:List V)
 /-- a dict whose keys are ints and texts;one whose keys are tuples of ints and texts (the empty one is both) -/
 |dK (kvs:List (Key×V))|dT (kvs:List (Tr×Addr×V))
 /-- a set of ints: its members,its size -/
 |set (S:Int->Bool) (n:Nat)
 /-- an instance of the class at C,its dict at dx,its attributes -/
 |ins (C dx:Addr) (fs:List (Str×V))
 /-- the dict of the instance at x -/
 |own (x:Addr)
 /-- the dict of an exception -/
 |xd (fs:List (Str×V))
 /-- a bound method,f of x -/
 |met (f x:Addr)
 /-- a range object lo,lo+1,.. below hi -/
 |rng (lo hi:Int)
 /-- a thing that is known to the object (the script;a dict while a loop walks it): read,never written while it is so -/
 |frz (o:Obj) (u:HO)
 /-- a code object's table -/
 |tbl (ps:Array Value)
 /-- any other thing,by what is true of its one object (a def of one's own: SetO a S n:=HO.ext fun h=>..) -/
 |ext (φ:Heap->Prop)
noncomputable abbrev Hp:=Addr->Option HO
noncomputable def upd(H:Hp)(a:Addr)(o:HO):Hp:=fun b=>if b=a then some o else H b
theorem Jm{H:Hp}{a:Addr}{o:HO}:upd H a o a=some o:=by unfold upd;rw[if_pos rfl]
theorem Qy{H:Hp}{a b:Addr}{o:HO}(h:b≠a):upd H a o b=H b:=by unfold upd;rw[if_neg h]
theorem Jv{H:Hp}{a b:Addr}{o:HO}(h:H a=some o)(h':H b=none):a≠b:=by
 intro e;subst e;rw[h]at h';cases h'
section
variable(P:Program)(w:World)
noncomputable def ObjOk(H:Hp)(h:Heap)(a:Addr):HO->Prop
 |.lst xs=>xs.length<=sizeLine/\∃(b:List Value) (n:Nat),Vals xs b/\h.get? a=some { cls:=.type "list",data:=.seq b.toArray n }
 |.tup xs=>xs.length<=sizeLine/\∃b:List Value,Vals xs b/\IsTup h a b.toArray
 |.dK kvs=>kvs.length<=sizeLine/\(a==sysModules)=false/\∃g,KV kvs g/\h.DictOf (Vr P w) a g
 | .dT kvs=>kvs.length<=sizeLine/\(a==sysModules)=false/\∃xs:List (Tr×Addr×Value),
   Paired (fun(p:Tr×Addr×V) (q:Tr×Addr×Value)=>p.1=q.1/\p.2.1=q.2.1/\RelV p.2.2 q.2.2) kvs xs /\
   ∃o es j,h.get? a=some o/\o.ExactDict/\o.data=.dict es j/\es.toList=xs.map (entryOfKey (Qdk P w))/\(xs.map (·.1)).Nodup/\j=es.size
 |.set S n=>h.SetOf (intKind P w) a S n
 | .ins C d fs=>H d=some (.own a)/\fs.length<=1000/\d≠a/\h.get? a=some (Iv C d) /\
   ∃c,h.Ns1 d c/\(∀f,RelO (fs.lookup f) (c f))/\OL c (fs.map (·.1))
 |.own _=>∃o,h.get? a=some o
 |.xd fs=>∃c,h.Ns1 a c/\∀f,RelO (fs.lookup f) (c f)
 |.rng lo l=>∃t u v,h.get? a=some { cls:=.type "range",data:=.fields #[.int lo t,.int l u,.int 1 v] }
 |.frz o u=>h.get? a=some o/\ObjOk H h a u
 |.tbl ps=>h.get? a=some { cls:=.none,data:=.fields ps }
 |.met f x=>h.get? a=some (FZ (.ref f) (.ref x))
 |.ext e=>e h/\(∃o,h.get? a=some o)/\∀h1 i:Heap,e h1->(∀o,h1.get? a=some o->i.get? a=some o)->e i
def HOk(H:Hp)(h:Heap):Prop:=∀a o,H a=some o->ObjOk P w H h a o
end
section
variable{P:Program}{w:World}{H H':Hp}{h h':Heap}{a:Addr}{o:HO}
theorem ObjOk.lt(x:ObjOk P w H h a o):a<h.objs.size:=by
 cases o with
 |lst b=>obtain⟨_,_,_,_,e⟩:=x;exact Nz e
 |tup b=>obtain⟨_,_,_,p⟩:=x;exact p.lt
 |dK kvs=>obtain⟨_,_,_,_,o,_,_,e,_⟩:=x;exact Nz e
 |dT kvs=>obtain⟨_,_,_,_,o,_,_,e,_⟩:=x;exact Nz e
 |set S n=>obtain⟨o,_,_,_,e,_⟩:=x;exact Nz e
 |ins C g fs=>obtain⟨_,_,_,e,_⟩:=x;exact Nz e
 |own y=>obtain⟨_,e⟩:=x;exact Nz e
 |xd fs=>obtain⟨_,⟨_,_,_,e,_⟩,_⟩:=x;exact Nz e
 |rng lo d=>obtain⟨_,_,_,e⟩:=x;exact Nz e
 |frz ob u=>obtain⟨e,_⟩:=x;exact Nz e
 |tbl ps=>exact Nz (show h.get? a=some _ from x)
 |met f y=>exact Nz (show h.get? a=some _ from x)
 |ext c=>obtain⟨_,⟨_,e⟩,_⟩:=x;exact Nz e
theorem Paired.mapP{g e:Type}{F G:g->e->Prop}:∀{d:List g} {c:List e},Paired F d c->(∀a b,F a b->G a b)->Paired G d c
 |_,_,.nil,_=>.nil
 |_,_,.cons r t,f=>.cons (f _ _ r) (Paired.mapP t f)
theorem ObjOk.stay(x:ObjOk P w H h a o)(k:∀b u,(b=a\/H b=some (.own a))->h.get? b=some u->h'.get? b=some u)
  (B:∀b,H b=some (.own a)->H' b=some (.own a)) (E:∀b xs,H b=some (.tup xs)->H' b=some (.tup xs)):ObjOk P w H' h' a o:=by
 induction o with
 |lst xs=>obtain⟨z,j,n,r,e⟩:=x;exact⟨z,j,n,r,k _ _ (.inl rfl) e⟩
 |tup xs=>obtain⟨z,j,r,ob,e,c⟩:=x;exact⟨z,j,r,ob,k _ _ (.inl rfl) e,c⟩
 |dK kvs=>obtain⟨z,y,s,r,ob,g,i,e,c⟩:=x;exact⟨z,y,s,r,ob,g,i,k _ _ (.inl rfl) e,c⟩
 |dT kvs=>
  obtain⟨z,y,xs,r,ob,g,i,e,c⟩:=x;exact⟨z,y,xs,r,ob,g,i,k _ _ (.inl rfl) e,c⟩
 |set S n=>obtain⟨ob,g,i,t,e,c⟩:=x;exact⟨ob,g,i,t,k _ _ (.inl rfl) e,c⟩
 |ins C G fs=>
  obtain⟨d,z,ne,e,m,⟨l,g,i,e2,c⟩,r⟩:=x;exact⟨B _ d,z,ne,k _ _ (.inl rfl) e,m,⟨l,g,i,k _ _ (.inr d) e2,c⟩,r⟩
 |own y=>obtain⟨ob,e⟩:=x;exact⟨ob,k _ _ (.inl rfl) e⟩
 |xd fs=>obtain⟨m,⟨l,g,i,e,c⟩,r⟩:=x;exact⟨m,⟨l,g,i,k _ _ (.inl rfl) e,c⟩,r⟩
 |rng lo F=>obtain⟨t,u,v,e⟩:=x;exact⟨t,u,v,k _ _ (.inl rfl) e⟩
 |frz ob u A=>obtain⟨e,q⟩:=x;exact⟨k _ _ (.inl rfl) e,A q⟩
 |tbl ps=>
  have e:h.get? a=some { cls:=.none,data:=.fields ps }:=x;show h'.get? a=some { cls:=.none,data:=.fields ps };exact k a _ (.inl rfl) e
 |met f y=>
  have e:h.get? a=some (FZ (.ref f) (.ref y)):=x;show h'.get? a=some (FZ (.ref f) (.ref y));exact k a _ (.inl rfl) e
 |ext D=>obtain⟨p,⟨o,e⟩,st⟩:=x;exact⟨st _ _ p fun o q=>k _ _ (.inl rfl) q,⟨o,k _ _ (.inl rfl) e⟩,st⟩
theorem HOk.lt(x:HOk P w H h)(e:H a=some o):a<h.objs.size:=(x a o e).lt
theorem HOk.fresh(x:HOk P w H h)(e:h.objs.size<=a):H a=none:=by
 cases q:H a with
 |none=>rfl
 |some u=>exact absurd (Nl (x.lt q) e) (Ev _)
theorem HOk.kept(x:HOk P w H h)(k:∀b u,h.get? b=some u->h'.get? b=some u):HOk P w H h':=fun a o e=>
 (x a o e).stay (fun b u _ q=>k b u q) (fun _ q=>q) fun _ _ q=>q
theorem HOk.laid(x:HOk P w H h)(k:∀b u,h.get? b=some u->h'.get? b=some u)(g:h.objs.size<=a)(new:ObjOk P w (upd H a o) h' a o):HOk P w (upd H a o) h':=fun b u e=>by
 have d:=x.fresh g
 by_cases f:b=a
 ·subst f;rw[Jm]at e;cases e;exact new
 ·rw[Qy f]at e;exact(x b u e).stay (fun c v _ q=>k c v q) (fun c q=>by rw[Qy (Jv q d)];exact q) fun c i q=>by rw[Qy (Jv q d)];exact q
end
def Rd(H:Hp)(a:Addr)(u:HO):Prop:=H a=some u\/∃o,H a=some (.frz o u)
theorem Rd.ok{P:Program}{w:World}{H:Hp}{h:Heap}{a:Addr}{u:HO}(r:Rd H a u)(x:HOk P w H h):ObjOk P w H h a u:=by
 rcases r with r|⟨o,r⟩
 ·exact x a u r
 ·obtain⟨_,q⟩:=x a _ r;exact q
noncomputable def Mut:Option HO->Prop
 |some (.lst _)=>True
 |some (.dK _)=>True
 |some (.dT _)=>True
 |some (.set _ _)=>True
 |some (.ins _ _ _)=>True
 |some (.ext _)=>True
 |_=>False
section
variable{P:Program}{w:World}{H:Hp}{h h':Heap}{x e:Addr}{o':HO}
theorem HOk.write(ok:HOk P w H h)(i:Mut (H x))(o:e=x\/H e=some (.own x))(k:∀b u,b≠e->h.get? b=some u->h'.get? b=some u)(m:∃u,h'.get? e=some u)
  (new:ObjOk P w (upd H x o') h' x o'):HOk P w (upd H x o') h':=fun b u q=>by
 have d:∀c y,H c=some (.own y)->c≠x:=fun c y r z=>by subst z;rw[r]at i;exact i
 have f:∀c g,H c=some (.tup g)->c≠x:=fun c g r z=>by subst z;rw[r]at i;exact i
 by_cases l:b=x
 ·subst l;rw[Jm]at q;cases q;exact new
 ·rw[Qy l]at q
  by_cases a:b=e
  ·have n:H b=some (.own x):=by
    rcases o with z|z
    ·exact absurd (a.trans z) l
    ·rw[a];exact z
   rw[q]at n;cases n;obtain⟨v,p⟩:=m;exact⟨v,by rw[a];exact p⟩
  ·refine(ok b u q).stay (fun c v j r=>k c v ?_ r) (fun c r=>by rw[Qy (d c b r)];exact r) fun c g r=>by rw[Qy (f c g r)];exact r
   rcases j with rfl|j
   ·exact a
   ·rintro rfl
    rcases o with z|z
    ·exact d c b j z
    ·rw[j]at z;cases z;exact l rfl
end
structure Un(fs ex:List Addr)(H H':Hp)(h h':Heap):Prop where
 keep:∀b o,h.get? b=some o->H b=none->b∉fs->b∉ex->h'.get? b=some o
 slot:∀b o,h.get? b=some o->H b=none->b∈fs->b∉ex->∃sl,h'.get? b=some { o with slots:=sl }
 free:∀b o,h.get? b=some o->H b=none->b∉ex->H' b=none
 there:∀b o,h.get? b=some o->b∉ex->∃o',h'.get? b=some o'
 tups:∀b xs,H b=some (.tup xs)->H' b=some (.tup xs)
 frzs:∀b o u,H b=some (.frz o u)->H' b=some (.frz o u)
 tbls:∀b ps,H b=some (.tbl ps)->∃more,H' b=some (.tbl (ps++more))
section
variable{fs fs' ex ex':List Addr}{H H1 H2:Hp}{h h1 h2 h':Heap}{a x e:Addr}{o:HO}
theorem Un.any(u:Un fs ex H H1 h h1){b:Addr}{ob:Obj}(q:h.get? b=some ob)(n:H b=none)(c:b∉ex):∃f,h1.get? b=some { ob with slots:=f }:=by
 by_cases d:b∈fs
 ·exact u.slot b ob q n d c
 ·exact⟨ob.slots,u.keep b ob q n d c⟩
theorem Un.kept(k:∀b u,h.get? b=some u->h'.get? b=some u):Un fs ex H H h h':=
 ⟨fun b ob q _ _ _=>k b ob q,fun b ob q _ _ _=>⟨ob.slots,k b ob q⟩,fun _ _ _ n _=>n,fun b ob q _=>⟨ob,k b ob q⟩,fun _ _ q=>q,fun _ _ _ q=>q,fun _ ps q=>⟨#[],by rw[q];simp⟩⟩
theorem Un.refl:Un fs ex H H h h:=Un.kept fun _ _ q=>q
theorem Un.laid(k:∀b u,h.get? b=some u->h'.get? b=some u)(f:h.objs.size<=a)(c:H a=none):Un fs ex H (upd H a o) h h' where
 keep:=fun b u q _ _ _=>k b u q
 slot:=fun b u q _ _ _=>⟨u.slots,k b u q⟩
 free:=fun b u q n _=>by rw[Qy (NS (Nl (Nz q) f))];exact n
 there:=fun b u q _=>⟨u,k b u q⟩
 tups:=fun b d q=>by rw[Qy (Jv q c)];exact q
 frzs:=fun b u d q=>by rw[Qy (Jv q c)];exact q
 tbls:=fun b ps q=>⟨#[],by rw[Qy (Jv q c),q];simp⟩
theorem Un.write(d:Mut (H x))(p:e=x\/H e=some (.own x))(k:∀b u,b≠e->h.get? b=some u->h'.get? b=some u)(g:∃u,h'.get? e=some u):Un fs ex H (upd H x o) h h':=by
 have i:∀b,H b=none->b≠x:=fun b n z=>by subst z;rw[n]at d;exact d
 have j:∀b,H b=none->b≠e:=fun b n z=>by
  subst z
  rcases p with r|r
  ·exact i b n r
  ·rw[n]at r;cases r
 have f:∀b u,H b=some u->¬Mut (some u)->b≠x:=fun b u q m z=>by subst z;rw[q]at d;exact m d
 refine⟨fun b u q n _ _=>k b u (j b n) q,fun b u q n _ _=>⟨u.slots,k b u (j b n) q⟩,fun b u q n _=>by rw[Qy (i b n)];exact n,fun b u q _=>?_,
  fun b l q=>by rw[Qy (f b _ q fun z=>z)];exact q,fun b u l q=>by rw[Qy (f b _ q fun z=>z)];exact q,fun b ps q=>⟨#[],by rw[Qy (f b _ q fun z=>z),q];simp⟩⟩
 by_cases c:b=e
 ·subst c;exact g
 ·exact⟨u,k b u c q⟩
end
noncomputable def trk(h:Heap)(H:Hp):List Addr:=(List.range h.objs.size).filter fun a=>(H a).isSome
noncomputable def QdB(h:Heap)(H:Hp):Heap:=PySem.W.hideAll h (trk h H)
theorem QcO(h:Heap)(H:Hp):(QdB h H).objs.size=h.objs.size:=PySem.W.hideAll_size _ _
theorem QdS{h:Heap}{H:Hp}{b:Addr}{o:Obj}(e:h.get? b=some o)(n:H b=none):(QdB h H).get? b=some o:=
 PySem.W.hideAll_get _ e fun a=>by
  have q:(H b).isSome=true:=(Iw.mp a).2;rw[n]at q;simp at q
theorem Qft{h:Heap}{H:Hp}{b:Addr}{o:Obj}(e:(QdB h H).get? b=some o):h.get? b=some o/\H b=none:=by
 have a:h.get? b=some o:=PySem.W.of_hideAll (trk h H) e;refine⟨a,?_⟩;cases q:H b with
 |none=>rfl
 |some x=>
  have c:b∈trk h H:=Iw.mpr ⟨NU.mpr (Nz a),by simp[q]⟩;have z:(QdB h H).get? b=none:=PySem.W.hideAll_none (trk h H) c;rw[z]at e;cases e
structure Mod(K:Nd)(mg:Str->Option Value)(base:Heap):Prop where
 kin:K.In base
 glob:base.Ns mainGlobals mg
 blt:∃mb,base.Ns builtinsNs mb/\∀x:Str,x≠"__name__"->mb x=bootBuiltins x
 nolimit:base.NoLimit
structure Cx where
 prog:Program
 w:World
 K:Nd
 mg:Str->Option Value
 base:Heap
 A:Around
 N:List Str
 s₀:Shared
 H₀:Hp
 env:Env
 outer:List Env
 stack:List Env
 ex:List Addr
 fn:Str->Bool
 calm:Bool
 pn:List (Addr×Obj)
 xe:Value->Shared->Prop
noncomputable def frs(l:List Env):List Addr:=l.filterMap (·.frame)
noncomputable abbrev Cx.fs(X:Cx):List Addr:=frs X.outer
def Vis(a:Scope)(x:Str):Prop:=a.names.lookup x=some .local\/a.names.lookup x=some .cell\/a.names.lookup x=some .free
def Loc(a:Scope)(x:Str):Prop:=a.names.lookup x=some .local\/a.names.lookup x=some .cell
def Qmp(env:Env)(h:Heap)(m:Str->Option Value)(x:Str)(u:Value):Prop:=
 (env.kindOf x=some .local/\m x=some u)\/((env.kindOf x=some .cell\/env.kindOf x=some .free)/\∃c,env.cells.lookup x=some c/\h.IsCell c (some u))
structure Cx.Ok(X:Cx):Prop where
 mod:Mod X.K X.mg X.base
 kind:X.env.scope.kind=.function
 glob:X.env.globals=mainGlobals
 blt:X.env.builtins=builtinsNs
 above:X.s₀.heap.objs.size<=X.env.locals
 inj:∀x y c,X.env.cells.lookup x=some c->X.env.cells.lookup y=some c->x=y
 has:∀x,(X.env.kindOf x=some .cell\/X.env.kindOf x=some .free)->∃c,X.env.cells.lookup x=some c
 cab:∀x c,X.fn x=true->X.env.cells.lookup x=some c->X.s₀.heap.objs.size<=c
 hd:X.calm=true->X.A.handled=none
 frames:X.A.frames=some X.stack
 stk:X.stack=X.outer\/(X.stack=X.env::X.outer/\X.env.frame=some X.env.locals)
 exf:∀b∈X.ex,b≠X.env.locals/\∀x c,X.env.cells.lookup x=some c->c≠b
 bs:∀b o,X.base.get? b=some o->X.s₀.heap.get? b=some o/\X.H₀ b=none
 bsz:X.base.objs.size<=X.s₀.heap.objs.size
 noex:∀b o,X.base.get? b=some o->b∉X.ex
 exfs:∀b∈X.ex,b∉X.fs
 funs:X.s₀.heap.FunFrames X.base X.outer
 frf:∀b∈X.fs,X.H₀ b=none
structure Inv(X:Cx)(pins:List (Addr×Obj))(σ:List (Option V))(H:Hp)(s:Shared):Prop where
 ok:X.Ok
 os:s.os=X.s₀.os
 bare:AllBare s.gens
 base:Un X.fs X.ex X.H₀ H X.s₀.heap s.heap
 loc:∃m,s.heap.Ns X.env.locals m/\∀(i:Nat) (x:Str) (v:V),X.N[i]?=some x->σ[i]?=some (some v)->Vis X.env.scope x->∃u,RelV v u/\Qmp X.env s.heap m x u
 cell:∀x c,X.env.cells.lookup x=some c->∃v,s.heap.IsCell c v
 free:H X.env.locals=none
 freeC:∀x c,X.env.cells.lookup x=some c->H c=none
 pin:∀p∈X.pn++pins,s.heap.get? p.1=some p.2/\H p.1=none/\p.1≠X.env.locals/\p.1∉X.fs/\∀v,p.2.data≠.cell v
 hok:HOk X.prog X.w H s.heap
 len:σ.length=X.N.length
section
variable{X:Cx}{pins:List (Addr×Obj)}{σ:List (Option V)}{H H':Hp}{s:Shared}{h':Heap}
theorem Cx.Ok.nofr(ok:X.Ok){b:Addr}{o:Obj}(e:X.base.get? b=some o):b∉X.fs:=fun a=>by
 have:=(ok.funs.mem a).1;rw[e]at this;cases this
theorem Inv.bs(I:Inv X pins σ H s):∀b o,X.base.get? b=some o->s.heap.get? b=some o/\H b=none:=fun b o e=>
 ⟨I.base.keep b o (I.ok.bs b o e).1 (I.ok.bs b o e).2 (I.ok.nofr e) (I.ok.noex b o e),I.base.free b o (I.ok.bs b o e).1 (I.ok.bs b o e).2 (I.ok.noex b o e)⟩
theorem Inv.bk(I:Inv X pins σ H s):∀b o,X.base.get? b=some o->s.heap.get? b=some o:=fun b o e=>(I.bs b o e).1
theorem Inv.mod(I:Inv X pins σ H s):Mod X.K X.mg X.base:=I.ok.mod
theorem Inv.kIn(I:Inv X pins σ H s):X.K.In s.heap:=I.ok.mod.kin.keeps I.bk
theorem Inv.lt(I:Inv X pins σ H s):X.env.locals<s.heap.objs.size:=let⟨_,a,_⟩:=I.loc;a.lt
theorem Inv.sz(I:Inv X pins σ H s):X.s₀.heap.objs.size<=s.heap.objs.size:=Nn I.ok.above (N8 I.lt)
theorem Inv.nofs(I:Inv X pins σ H s){a:Addr}(h:s.heap.objs.size<=a):a∉X.fs:=fun c=>by
 obtain⟨_,o,b,_⟩:=I.ok.funs.mem c;exact absurd (Nl (Nz b) (Nn I.sz h)) (Ev _)
theorem Inv.cne(I:Inv X pins σ H s):∀x c,X.env.cells.lookup x=some c->c≠X.env.locals:=fun x c e z=>by
 obtain⟨v,o,d,hd⟩:=I.cell x c e;obtain⟨m,⟨f,g,h,a,b,_⟩,_⟩:=I.loc;rw[z,a]at d;cases d;rw[b]at hd;cases hd
theorem Inv.funs(I:Inv X pins σ H s):s.heap.FunFrames X.base X.outer:=by
 have all:∀(l:List Env),(∀b∈frs l,b∈X.fs)->X.s₀.heap.FunFrames X.base l->s.heap.FunFrames X.base l:=by
  intro l
  induction l with
  |nil=>intro _ _;trivial
  |cons n r g=>
   intro f j;obtain⟨m,⟨L,o,a,i,h,hd⟩,hr⟩:=j;have d:L∈X.fs:=f L (by unfold frs;rw[Dq,a];exact Nr);obtain⟨p,e⟩:=I.base.slot L o h (I.ok.frf L d) d fun z=>I.ok.exfs L z d;exact⟨m,⟨L,_,a,i,e,hd⟩,g (fun b c=>f b (by unfold frs;rw[Dq,a];exact Np _ c)) hr⟩
 exact all X.outer (fun _ c=>c) I.ok.funs
theorem Inv.stack(I:Inv X pins σ H s):s.heap.FunFrames X.base X.stack:=by
 rcases I.ok.stk with e|⟨e,b⟩
 ·rw[e];exact I.funs
 ·rw[e];obtain⟨m,a,_⟩:=I.loc;refine .cons (by rw[I.ok.kind];decide) b a ?_ I.funs;exact Heap.get?_none_of_le (Nn I.ok.bsz I.ok.above)
theorem Inv.stkSub(I:Inv X pins σ H s):∀b∈frs X.stack,b∈X.env.locals::X.fs:=fun b a=>by
 rcases I.ok.stk with e|⟨e,c⟩
 ·rw[e]at a;exact Np _ a
 ·rw[e]at a;unfold frs at a;rw[Dq,c]at a;exact a
theorem Inv.stkFree(I:Inv X pins σ H s):∀b∈frs X.stack,H b=none:=fun b a=>by
 rcases Nv.mp (I.stkSub b a)with e|a
 ·rw[e];exact I.free
 ·obtain⟨_,o,c,_⟩:=I.ok.funs.mem a;exact I.base.free b o c (I.ok.frf b a) fun z=>I.ok.exfs b z a
theorem Inv.step{g':Array GenState}{t':Nat}{d':Drawn}{ch:List Addr}(I:Inv X pins σ H s)
  (g:∀b∈ch,(b∈X.ex\/X.s₀.heap.objs.size<=b)/\b≠X.env.locals/\(∀x c,X.env.cells.lookup x=some c->c≠b)/\∀p∈X.pn++pins,p.1≠b)
  (keep:∀b o,b≠X.env.locals->b∉X.fs->b∉ch->s.heap.get? b=some o->H b=none->h'.get? b=some o)
  (slot:∀b o,b≠X.env.locals->b∈X.fs->b∉ch->s.heap.get? b=some o->H b=none->∃G,h'.get? b=some { o with slots:=G }) (free:∀b o,b∉ch->s.heap.get? b=some o->H b=none->H' b=none)
  (there:∀b o,b∉ch->s.heap.get? b=some o->∃C,h'.get? b=some C)
  (A:∀b xs,H b=some (.tup xs)->H' b=some (.tup xs)) (E:∀b o u,H b=some (.frz o u)->H' b=some (.frz o u)) (B:∀b ps,H b=some (.tbl ps)->∃more,H' b=some (.tbl (ps++more)))
  (ns:∀m,s.heap.Ns X.env.locals m->h'.Ns X.env.locals m) (J:HOk X.prog X.w H' h') (S:AllBare g') :
  Inv X pins σ H' { s with heap:=h',gens:=g',drawn:=d',toks:=t' }:=by
 have D:∀b o,X.s₀.heap.get? b=some o->b≠X.env.locals:=fun b o e=>NS (Nl (Nz e) I.ok.above)
 have j:∀b o,X.s₀.heap.get? b=some o->b∉X.ex->b∉ch:=fun b o e a t=>by
  rcases(g b t).1 with z|z
  ·exact a z
  ·exact absurd (Nl (Nz e) z) (Ev _)
 have h:∀x c,X.env.cells.lookup x=some c->∀v,s.heap.IsCell c v->h'.IsCell c v:=fun x c e v ⟨o,y,hd⟩=>by
  have f:c∉ch:=fun z=>(g c z).2.2.1 x c e rfl
  by_cases N:c∈X.fs
  ·obtain⟨G,q⟩:=slot c o (I.cne x c e) N f y (I.freeC x c e);exact⟨_,q,hd⟩
  ·exact⟨o,keep c o (I.cne x c e) N f y (I.freeC x c e),hd⟩
 refine⟨I.ok,I.os,S,⟨fun b o e n t a=>?_,fun b o e n t a=>?_,fun b o e n a=>?_,fun b o e a=>?_,fun b xs e=>A b xs (I.base.tups b xs e),fun b o xs e=>E b o xs (I.base.frzs b o xs e),fun b ps e=>?_⟩,?_,fun x c e=>?_,?_,fun x c e=>?_,fun p M=>?_,J,I.len⟩
 ·exact keep b o (D b o e) t (j b o e a) (I.base.keep b o e n t a) (I.base.free b o e n a)
 ·obtain⟨G,e1⟩:=I.base.slot b o e n t a;obtain⟨F,e2⟩:=slot b _ (D b o e) t (j b o e a) e1 (I.base.free b o e n a);exact⟨F,e2⟩
 ·obtain⟨C,e1⟩:=I.base.there b o e a;exact free b C (j b o e a) e1 (I.base.free b o e n a)
 ·obtain⟨C,e1⟩:=I.base.there b o e a;exact there b C (j b o e a) e1
 ·obtain⟨P,e1⟩:=I.base.tbls b ps e;obtain⟨O,e2⟩:=B b _ e1;exact⟨P++O,by rw[e2,Array.append_assoc]⟩
 ·obtain⟨m,Q,R⟩:=I.loc;refine⟨m,ns m Q,fun i x v e1 e2 T=>?_⟩;obtain⟨u,r,l⟩:=R i x v e1 e2 T;refine⟨u,r,?_⟩
  rcases l with l|⟨k,c,e,z⟩
  ·exact .inl l
  ·exact .inr ⟨k,c,e,h x c e _ z⟩
 ·obtain⟨v,z⟩:=I.cell x c e;exact⟨v,h x c e v z⟩
 ·obtain⟨m,⟨o,_,_,y,_⟩,_⟩:=I.loc;exact free _ o (fun z=>(g _ z).2.1 rfl) y I.free
 ·obtain⟨v,o,y,hd⟩:=I.cell x c e;exact free c o (fun z=>(g c z).2.2.1 x c e rfl) y (I.freeC x c e)
 ·obtain⟨e,n,ne,L,d⟩:=I.pin p M;have f:p.1∉ch:=fun z=>(g p.1 z).2.2.2 p M rfl;exact⟨keep p.1 p.2 ne L f e n,free p.1 p.2 f e n,ne,L,d⟩
theorem Inv.un{t':Nat}(I:Inv X pins σ H s)(u:Un X.fs [] H H' s.heap h')(c:HOk X.prog X.w H' h'):Inv X pins σ H' { s with heap:=h',toks:=t' }:=by
 obtain⟨m,⟨o,x,y,h,r⟩,_⟩:=id I.loc;obtain⟨p,l⟩:=u.any h I.free (by simp)
 exact I.step (g':=s.gens) (d':=s.drawn) (ch:=[]) (fun _ z=>nomatch z) (fun b o _ d _ e n=>u.keep b o e n d (by simp)) (fun b o _ d _ e n=>u.slot b o e n d (by simp)) (fun b o _ e n=>u.free b o e n (by simp)) (fun b o _ e=>u.there b o e (by simp)) u.tups u.frzs u.tbls (fun t j=>by
  obtain⟨q,f,g,a,i⟩:=j;rw[h]at a;cases a
  exact⟨_,f,g,l,i⟩) c I.bare
theorem Inv.call{g':Array GenState}{t':Nat}{d':Drawn}{ch:List Addr}(I:Inv X pins σ H s)(u:Un (frs X.stack) ch H H' s.heap h')(g:HOk X.prog X.w H' h')(v:AllBare g')
  (f:∀b∈ch,(b∈X.ex\/X.s₀.heap.objs.size<=b)/\b≠X.env.locals/\(∀x c,X.env.cells.lookup x=some c->c≠b)/\∀p∈X.pn++pins,p.1≠b) :
  Inv X pins σ H' { s with heap:=h',gens:=g',drawn:=d',toks:=t' }:=by
 obtain⟨m,⟨o,D,E,l,r⟩,_⟩:=id I.loc;obtain⟨A,h⟩:=u.any l I.free fun z=>(f _ z).2.1 rfl
 exact I.step (ch:=ch) f (fun b o h y a e n=>u.keep b o e n (fun z=>(Nv.mp (I.stkSub b z)).elim h y) a) (fun b o _ _ a e n=>u.any e n a) (fun b o a e n=>u.free b o e n a) (fun b o a e=>u.there b o e a) u.tups u.frzs u.tbls (fun C t=>by
  obtain⟨B,i,j,d,q⟩:=t;rw[l]at d;cases d
  exact⟨_,i,j,h,q⟩) g v
theorem Inv.turned{t':Nat}{it:Addr}(I:Inv X pins σ H s)(k:∀b o,b≠it->s.heap.get? b=some o->h'.get? b=some o)(h:H it=none)(f:it≠X.env.locals)
  (h1:it∈X.ex\/X.s₀.heap.objs.size<=it) (t:∀x c,X.env.cells.lookup x=some c->c≠it) (l:∀p∈X.pn++pins,p.1≠it):Inv X pins σ H { s with heap:=h',toks:=t' }:=by
 have d:∀b u,H b=some u->b≠it:=fun b u e z=>by rw[z,h]at e;cases e
 refine I.step (g':=s.gens) (d':=s.drawn) (ch:=[it]) (fun b j=>?_) (fun b o _ _ a e _=>k b o (fun z=>a (by simp[z])) e) (fun b o _ _ a e _=>⟨o.slots,k b o (fun z=>a (by simp[z])) e⟩) (fun _ _ _ _ n=>n)
  (fun b o a e=>⟨o,k b o (fun z=>a (by simp[z])) e⟩) (fun _ _ e=>e) (fun _ _ _ e=>e) (fun b ps e=>⟨#[],by rw[e];simp⟩) (fun m i=>?_) (fun b u e=>?_) I.bare
 ·have e:b=it:=by simpa using j
  subst e;exact⟨h1,f,t,l⟩
 ·obtain⟨o,w,y,g,r⟩:=i;exact⟨o,w,y,k _ o (Dl f) g,r⟩
 ·refine(I.hok b u e).stay (fun c v a q=>k c v ?_ q) (fun _ q=>q) fun _ _ q=>q
  rcases a with z|z
  ·rw[z];exact d b u e
  ·exact d c _ z
theorem Inv.tok(I:Inv X pins σ H s)(t:Nat):Inv X pins σ H { s with toks:=t }:=I.un (h':=s.heap) (t':=t) Un.refl I.hok
theorem Inv.kept{t':Nat}(I:Inv X pins σ H s)(k:∀b u,s.heap.get? b=some u->h'.get? b=some u):Inv X pins σ H { s with heap:=h',toks:=t' }:=I.un (Un.kept k) (I.hok.kept k)
theorem Inv.laid{a:Addr}{o:HO}{t':Nat}(I:Inv X pins σ H s)(k:∀b u,s.heap.get? b=some u->h'.get? b=some u)(c:s.heap.objs.size<=a)(new:ObjOk X.prog X.w (upd H a o) h' a o) :
  Inv X pins σ (upd H a o) { s with heap:=h',toks:=t' }:=I.un (Un.laid k c (I.hok.fresh c)) (I.hok.laid k c new)
theorem Inv.write{x e:Addr}{o:HO}{t':Nat}(I:Inv X pins σ H s)(c:Mut (H x))(d:e=x\/H e=some (.own x))(k:∀b u,b≠e->s.heap.get? b=some u->h'.get? b=some u)(a:∃u,h'.get? e=some u)
  (new:ObjOk X.prog X.w (upd H x o) h' x o):Inv X pins σ (upd H x o) { s with heap:=h',toks:=t' }:=I.un (Un.write c d k a) (I.hok.write c d k a new)
theorem Inv.pins_of{pins':List (Addr×Obj)}(I:Inv X pins σ H s)(h:∀p∈pins',s.heap.get? p.1=some p.2/\H p.1=none/\p.1≠X.env.locals/\p.1∉X.fs/\∀v,p.2.data≠.cell v):Inv X pins' σ H s:=
 ⟨I.ok,I.os,I.bare,I.base,I.loc,I.cell,I.free,I.freeC,fun p a=>(NI.mp a).elim (fun z=>I.pin p (N7 _ z)) (h p),I.hok,I.len⟩
theorem G8{N:List Str}(hN:N.Nodup){i j:Nat}{x:Str}(a:N[i]?=some x)(b:N[j]?=some x):i=j:=by
 obtain⟨d,e1⟩:=Nj.mp a;obtain⟨c,e2⟩:=Nj.mp b;exact(List.getElem_inj hN).mp (e1.trans e2.symm)
theorem Ux{M:Model}{A:Around}{E:Value->Shared->Prop}{i:Nat}{x:Str}{v:V}{u:Value}{Q:Unit->Shared->Prop}(I:Inv X pins σ H s)(hN:X.N.Nodup)(P:X.N[i]?=some x)(t:Loc X.env.scope x)(r:RelV v u)
  (h:∀s',Inv X pins (σ.set i (some v)) H s'->(∃a,Heap.SameBut a s.heap s'.heap/\(a=X.env.locals\/X.env.cells.lookup x=some a))->Q () s') (hf:X.fn x=true\/X.env.scope.names.lookup x=some .local:=by first|exact .inl rfl|exact .inr rfl|assumption):wpAny M A (storeName X.env x u) Q E s:=by
 obtain⟨m,hn,hl⟩:=id I.loc;have R:(X.env.scope.kind==.class ||(X.env.scope.kind==.module&&X.env.locals != X.env.globals))=false:=by rw[I.ok.kind];rfl
 have D:i<σ.length:=by rw[I.len];exact(Nj.mp P).1
 have cne:=I.cne
 have g:∀{a:Addr} {h':Heap},(∃o,s.heap.get? a=some o/\H a=none)->Heap.SameBut a s.heap h'->HOk X.prog X.w H h':=fun {a h'} ha f b ob e=>by
  obtain⟨_,_,B⟩:=ha;refine(I.hok b ob e).stay (fun c U l q=>(f.2 c ?_).trans q) (fun _ q=>q) fun _ _ q=>q
  rintro rfl
  rcases l with rfl|l
  ·rw[B]at e;cases e
  ·rw[B]at l;cases l
 rcases t with C|C
 ·refine wpAny_storeName_local C hn (fun h' ab f=>?_) R;obtain⟨oL,_,_,aa,_⟩:=id hn;refine h _ ⟨I.ok,I.os,I.bare,⟨fun b o e n J t=>?_,fun b o e n J t=>?_,I.base.free,fun b o e t=>?_,I.base.tups,I.base.frzs,I.base.tbls⟩,⟨_,ab,fun j y Z e1 e2 e3=>?_⟩,fun y c e=>?_,I.free,I.freeC,fun p hp=>?_,g ⟨oL,aa,I.free⟩ f,by simpa using I.len⟩ ⟨_,f,.inl rfl⟩
  ·exact(f.2 b (NS (Nl (Nz e) I.ok.above))).trans (I.base.keep b o e n J t)
  ·obtain⟨sl,e1⟩:=I.base.slot b o e n J t;exact⟨sl,(f.2 b (NS (Nl (Nz e) I.ok.above))).trans e1⟩
  ·obtain⟨o',e1⟩:=I.base.there b o e t;exact⟨o',(f.2 b (NS (Nl (Nz e) I.ok.above))).trans e1⟩
  ·by_cases F:j=i
   ·subst F;rw[P]at e1;cases e1;rw[E4 D]at e2;cases e2;exact⟨u,r,.inl ⟨C,by simp⟩⟩
   ·rw[Di (Dl F)]at e2;obtain⟨u',r',q⟩:=hl j y Z e1 e2 e3;refine⟨u',r',?_⟩
    rcases q with⟨k,e⟩|⟨k,c,e,z⟩
    ·refine .inl ⟨k,?_⟩;have:y≠x:=fun e=>F (G8 hN e1 (e▸P));simp[this,e]
    ·exact .inr ⟨k,c,e,z.sameBut f (cne y c e)⟩
  ·obtain⟨U,z⟩:=I.cell y c e;exact⟨U,z.sameBut f (cne y c e)⟩
  ·obtain⟨e,n,ne,nf,d⟩:=I.pin p hp;exact⟨(f.2 p.1 ne).trans e,n,ne,nf,d⟩
 ·have G:X.fn x=true:=by
   rcases hf with z|z
   ·exact z
   ·rw[z]at C;cases C
  obtain⟨c,l⟩:=I.ok.has x (.inl C);obtain⟨U,z⟩:=I.cell x c l;refine wpAny_storeName_cell I.ok.kind C l z (fun h' T f=>?_);obtain⟨oc,O,L⟩:=id z;refine h { s with heap:=h' } ⟨I.ok,I.os,I.bare,⟨fun b o e n J t=>?_,fun b o e n J t=>?_,I.base.free,fun b o e t=>?_,I.base.tups,I.base.frzs,I.base.tbls⟩,⟨m,hn.sameBut f (Dl (cne x c l)),fun j y Z e1 e2 e3=>?_⟩,fun y Y e=>?_,I.free,I.freeC,fun p hp=>?_,g ⟨oc,O,I.freeC x c l⟩ f,by simpa using I.len⟩ ⟨c,f,.inr l⟩
  ·exact(f.2 b (NS (Nl (Nz e) (I.ok.cab x c G l)))).trans (I.base.keep b o e n J t)
  ·obtain⟨sl,e1⟩:=I.base.slot b o e n J t;exact⟨sl,(f.2 b (NS (Nl (Nz e) (I.ok.cab x c G l)))).trans e1⟩
  ·obtain⟨o',e1⟩:=I.base.there b o e t;exact⟨o',(f.2 b (NS (Nl (Nz e) (I.ok.cab x c G l)))).trans e1⟩
  ·by_cases F:j=i
   ·subst F;rw[P]at e1;cases e1;rw[E4 D]at e2;cases e2;exact⟨u,r,.inr ⟨.inl C,c,l,T⟩⟩
   ·rw[Di (Dl F)]at e2;obtain⟨u',r',q⟩:=hl j y Z e1 e2 e3;refine⟨u',r',?_⟩
    rcases q with q|⟨k,Y,e,z'⟩
    ·exact .inl q
    ·refine .inr ⟨k,Y,e,z'.sameBut f ?_⟩
     rintro rfl
     exact F (G8 hN e1 (I.ok.inj _ _ _ e l▸P))
  ·by_cases S:Y=c
   ·subst S;exact⟨_,T⟩
   ·obtain⟨w2,z2⟩:=I.cell y Y e;exact⟨w2,z2.sameBut f S⟩
  ·obtain⟨e,n,ne,nf,d⟩:=I.pin p hp;refine⟨(f.2 p.1 ?_).trans e,n,ne,nf,d⟩;intro q;rw[q,O]at e;have q':oc=p.2:=Ed e;exact d U (by rw[<-q'];exact L)
theorem Wu{M:Model}{A:Around}{E:Value->Shared->Prop}{i:Nat}{x:Str}{v:V}{u:Value}{Q:Unit->Shared->Prop}(I:Inv X pins σ H s)(hN:X.N.Nodup)(c:X.N[i]?=some x)(b:Loc X.env.scope x)(r:RelV v u)
  (h:∀a,Inv X pins (σ.set i (some v)) H a->Q () a) (d:X.fn x=true\/X.env.scope.names.lookup x=some .local:=by first|exact .inl rfl|exact .inr rfl|assumption):wpAny M A (storeName X.env x u) Q E s:=
 Ux I hN c b r (fun a e _=>h a e) d
theorem Inv.call'{a:Shared}{ch:List Addr}(I:Inv X pins σ H s)(l:a.os=s.os)(u:Un (frs X.stack) ch H H' s.heap a.heap)(d:HOk X.prog X.w H' a.heap)(m:AllBare a.gens)
  (f:∀b∈ch,(b∈X.ex\/X.s₀.heap.objs.size<=b)/\b≠X.env.locals/\(∀x c,X.env.cells.lookup x=some c->c≠b)/\∀p∈X.pn++pins,p.1≠b):Inv X pins σ H' a:=by
 obtain⟨h',h,i,g,j⟩:=a;have e:j=s.os:=l;subst e;exact I.call (g':=h) (t':=g) (d':=i) u d m f
end
noncomputable abbrev XK:=Value->Option Addr->Hp->Prop
noncomputable abbrev St:=List (Option V)
noncomputable abbrev VK:=V->Hp->Prop
noncomputable abbrev TE:=St->Hp->VK->Prop
noncomputable abbrev TT:=St->Hp->(Bool->Hp->Prop)->Prop
noncomputable abbrev TA:=St->Hp->(List V->Hp->Prop)->Prop
structure Ends where
 nx:St->Hp->Prop
 rt:VK
 bk:St->Hp->Prop:=fun _ _=>False
 ct:St->Hp->Prop:=fun _ _=>False
noncomputable abbrev TS:=Ends->St->Hp->Prop
def EP(X:Cx)(a:List (Addr×Obj))(σ:St)(Q:VK)(u:Value)(c:Shared):Prop:=∃v b,Inv X a σ b c/\RelV v u/\Q v b
def TP(X:Cx)(a:List (Addr×Obj))(σ:St)(Q:Bool->Hp->Prop)(b:Bool)(d:Shared):Prop:=∃c,Inv X a σ c d/\Q b c
def AP(X:Cx)(a:List (Addr×Obj))(σ:St)(Q:List V->Hp->Prop)(us:List Value)(d:Shared):Prop:=∃b c,Inv X a σ c d/\Vals b us/\Q b c
def SP(X:Cx)(b:List (Addr×Obj))(D:Ends)(f:Flow)(d:Shared):Prop:=
 match f with
 |.next=>∃a c,Inv X b a c d/\D.nx a c
 |.brk=>∃a c,Inv X b a c d/\D.bk a c
 |.cont=>∃a c,Inv X b a c d/\D.ct a c
 |.ret u=>∃v a c,Inv X b a c d/\RelV v u/\D.rt v c
def PE(X:Cx)(e:Expr)(t:TE):Prop:=
 ∀(a:List (Addr×Obj)) (s:Shared) (b:St) (H:Hp) (Q:VK),Inv X a b H s->t b H Q->wpAny (model X.prog X.w) X.A (eval e X.env) (EP X a b Q) X.xe s
def PT(X:Cx)(e:Expr)(t:TT):Prop:=
 ∀(a:List (Addr×Obj)) (s:Shared) (b:St) (H:Hp) (Q:Bool->Hp->Prop),Inv X a b H s->t b H Q->wpAny (model X.prog X.w) X.A (isTrue e X.env (eval e X.env)) (TP X a b Q) X.xe s
def PW(X:Cx)(e:Expr)(t:TT):Prop:=
 ∀(whole:Sem Value) (a:List (Addr×Obj)) (s:Shared) (b:St) (H:Hp) (Q:Bool->Hp->Prop),Inv X a b H s->t b H Q->wpAny (model X.prog X.w) X.A (isTrue e X.env whole) (TP X a b Q) X.xe s
theorem PW.pt{X:Cx}{e:Expr}{t:TT}(h:PW X e t):PT X e t:=h _
def PA(X:Cx)(es:List Expr)(t:TA):Prop:=
 ∀(pos:Pos) (a:List (Addr×Obj)) (s:Shared) (b:St) (H:Hp) (Q:List V->Hp->Prop),Inv X a b H s->t b H Q->wpAny (model X.prog X.w) X.A (spliced (backTo pos (starEach es X.env))) (AP X a b Q) X.xe s
def PS(X:Cx)(st:Stmt)(t:TS):Prop:=
 ∀(a:List (Addr×Obj)) (s:Shared) (b:St) (H:Hp) (D:Ends),Inv X a b H s->t D b H->wpAny (model X.prog X.w) X.A (exec st X.env) (SP X a D) X.xe s
def PSs(X:Cx)(st:List Stmt)(t:TS):Prop:=
 ∀(a:List (Addr×Obj)) (s:Shared) (b:St) (H:Hp) (D:Ends),Inv X a b H s->t D b H->wpAny (model X.prog X.w) X.A (execs st X.env) (SP X a D) X.xe s
theorem thn{b:Type}{t:Sem b}{Q Q':b->Shared->Prop}{M:Model}{A:Around}{E:Value->Shared->Prop}{s:Shared}(h:wpAny M A t Q E s)(c:∀a s,Q a s->Q' a s):wpAny M A t Q' E s:=NZ h c fun _ _ x=>x
section
variable{X:Cx}
theorem bin{a b:Expr}{n m:TE}(C:PE X a n)(B:PE X b m){c:List (Addr×Obj)}{s:Shared}{σ:St}{H:Hp}{R:V->V->Hp->Prop}(I:Inv X c σ H s)(h:n σ H fun x j=>m σ j fun y d=>R x y d)
  {l:Type} {Q:l->Shared->Prop} {f:Value->Value->Sem l}
  (z:∀v u i x y d,Inv X c σ d i->RelV x v->RelV y u->R x y d->wpAny (model X.prog X.w) X.A (f v u) Q X.xe i) :
  wpAny (model X.prog X.w) X.A (eval a X.env) (fun v g=>wpAny (model X.prog X.w) X.A (eval b X.env) (fun u e=>wpAny (model X.prog X.w) X.A (f v u) Q X.xe e) X.xe g) X.xe s:=by
 refine thn (C c s σ H _ I h) fun v o ⟨x,j,I1,q,t⟩=>?_;refine thn (B c o σ j _ I1 t) fun u i ⟨y,d,I2,p,r⟩=>?_;exact z v u i x y d I2 q p r
noncomputable def QlM(i:Nat):TE:=fun a H Q=>∃v,a[i]?=some (some v)/\Q v H
noncomputable def tC(v:V):TE:=fun _ H Q=>Q v H
theorem Qg6{i:Nat}{x:Str}{pos:Pos}(hN:X.N[i]?=some x)(n:Vis X.env.scope x)(hd:(x==("__debug__":Str))=false:=by decide)(f:(x==("__classdict__":Str))=false:=by decide):PE X (.Name x pos) (QlM i):=by
 intro d s j H Q I h;obtain⟨v,e,h⟩:=h;obtain⟨m,o,q⟩:=I.loc;obtain⟨u,r,l⟩:=q i x v hN e n;have fin:EP X d j Q u s:=⟨v,H,I,r,h⟩
 rcases l with⟨b,p⟩|⟨b,c,g,a⟩
 ·exact Oq (IZ I.ok.kind b o p fin) hd
 ·rcases b with b|b
  ·exact Oq (Lm I.ok.kind b g a fin) hd
  ·exact Oq (wpAny_loadName_free I.ok.kind b g a fin f) hd
theorem QhJ{i j pos}:PE X (.Constant (.int i) j pos) (tC (.int i)):=fun _ _ _ H _ I h=>wpAny_Constant_int ⟨.int i,H,I.tok _,⟨_,rfl⟩,h⟩
theorem QjM{b j pos}:PE X (.Constant (.bool b) j pos) (tC (.bl b)):=fun _ _ _ H _ I h=>Constant_bool ⟨.bl b,H,I,rfl,h⟩
theorem Qih{j pos}:PE X (.Constant .none j pos) (tC .non):=fun _ _ _ H _ I h=>Constant_none ⟨.non,H,I,rfl,h⟩
theorem Qid{x j pos}:PE X (.Constant (.str x) j pos) (tC (.str x)):=fun _ _ _ H _ I h=>Calls.Constant_str ⟨.str x,H,I.tok _,⟨_,rfl⟩,h⟩
def Gl(X:Cx)(x:Str):Prop:=X.env.kindOf x=some .globalImplicit
theorem Qbt{E:Value->Shared->Prop}{a:List (Addr×Obj)}{s:Shared}{σ:St}{H:Hp}{x:Str}{u:Value}{pos:Pos}{Q:Value->Shared->Prop}(I:Inv X a σ H s)(c:Gl X x)(b:X.mg x=some u)(h:Q u s)
  (hd:(x==("__debug__":Str))=false:=by decide):wpAny (model X.prog X.w) X.A (eval (.Name x pos) X.env) Q E s:=
 FS I.ok.kind c (Calls.loadGlobal_global (by rw[I.ok.glob];exact I.mod.glob.keeps I.bk) b h) hd
theorem VA{E:Value->Shared->Prop}{a:List (Addr×Obj)}{s:Shared}{σ:St}{H:Hp}{x:Str}{u:Value}{pos:Pos}{Q:Value->Shared->Prop}(I:Inv X a σ H s)(e:Gl X x)(d:X.mg x=none)(b:bootBuiltins x=some u)(h:Q u s)
  (c:x≠"__name__":=by decide) (hd:(x==("__debug__":Str))=false:=by decide):wpAny (model X.prog X.w) X.A (eval (.Name x pos) X.env) Q E s:=by
 obtain⟨i,g,f⟩:=I.mod.blt;exact FS I.ok.kind e (Calls.loadGlobal_builtin (by rw[I.ok.glob];exact I.mod.glob.keeps I.bk) d (by rw[I.ok.blt];exact g.keeps I.bk) ((f x c).trans b) h) hd
theorem UY{x:Str}{v:V}{u:Value}{pos:Pos}(b:Gl X x)(a:X.mg x=some u)(r:RelV v u)(hd:(x==("__debug__":Str))=false:=by decide):PE X (.Name x pos) (tC v):=
 fun _ _ _ H _ I h=>Qbt I b a ⟨v,H,I,r,h⟩ hd
theorem QfD{x:Str}{v:V}{u:Value}{pos:Pos}(d:Gl X x)(c:X.mg x=none)(a:bootBuiltins x=some u)(r:RelV v u)(b:x≠"__name__":=by decide)(hd:(x==("__debug__":Str))=false:=by decide):PE X (.Name x pos) (tC v):=
 fun _ _ _ H _ I h=>VA I d c a ⟨v,H,I,r,h⟩ b hd
variable{a b:Expr}{ta tb:TE}{pos:Pos}
variable{tA tB':TT}{rest:List Expr}
noncomputable def QkE(t u:TT):TT:=fun d H Q=>t d H fun c e=>if c=true then u d e Q else Q false e
noncomputable def tOr(t u:TT):TT:=fun d H Q=>t d H fun c e=>if c=true then Q true e else u d e Q
noncomputable def QlX(t:TT):TT:=fun d H Q=>t d H fun c e=>Q (!c) e
theorem QgK(g:PT X a tA):PW X (.BoolOp .And [a] pos) tA:=by
 intro i d s f H Q I h;refine isTrue_and (thn (g d s f H Q I h) fun c j e=>?_);cases c with
 |true=>exact isTrue_and_nil e
 |false=>exact e
theorem Qhx(g:PT X a tA):PW X (.BoolOp .Or [a] pos) tA:=by
 intro i d s f H Q I h;refine isTrue_or (thn (g d s f H Q I h) fun c j e=>?_);cases c with
 |false=>exact isTrue_or_nil e
 |true=>exact e
theorem Qhf(m:PT X a tA)(l:PW X (.BoolOp .And (b::rest) pos) tB'):PW X (.BoolOp .And (a::b::rest) pos) (QkE tA tB'):=by
 intro i d s e H Q I h;refine isTrue_and (thn (m d s e H _ I h) fun c j ⟨g,I1,f⟩=>?_);cases c with
 |true=>exact l i d j e g Q I1 f
 |false=>exact⟨g,I1,f⟩
theorem QjA(m:PT X a tA)(l:PW X (.BoolOp .Or (b::rest) pos) tB'):PW X (.BoolOp .Or (a::b::rest) pos) (tOr tA tB'):=by
 intro i d s e H Q I h;refine isTrue_or (thn (m d s e H _ I h) fun c j ⟨g,I1,f⟩=>?_);cases c with
 |true=>exact⟨g,I1,f⟩
 |false=>exact l i d j e g Q I1 f
theorem Qiq(f:PT X a tA):PT X (.UnaryOp .Not a pos) (QlX tA):=by
 intro d s e H Q I h;exact isTrue_not (f d s e H (fun c g=>Q (!c) g) I h)
noncomputable def Qju(ta tb:TE):TE:=fun d H Q=>ta d H fun x e=>∃c,x=.bl c/\if c=true then tb d e Q else Q (.bl false) e
theorem Qh0{op}{t:TE}(h:PE X a t):PE X (.BoolOp op [a] pos) t:=fun c s d H Q I hw=>BoolOp_one (h c s d H Q I hw)
theorem Qh8(m:PE X a ta)(l:PE X (.BoolOp .And (b::rest) pos) tb):PE X (.BoolOp .And (a::b::rest) pos) (Qju ta tb):=by
 intro d s f H Q I h;refine BoolOp_and (thn (m d s f H _ I h) fun v i ⟨x,g,I1,j,e⟩=>?_);obtain⟨c,rfl,e⟩:=e;cases j;refine EU ?_;cases c with
 |true=>exact l d i f g Q I1 e
 |false=>exact⟨.bl false,g,I1,rfl,e⟩
noncomputable def tIf(t:TT)(ta tb:TE):TE:=fun d H Q=>t d H fun c e=>if c=true then ta d e Q else tb d e Q
theorem Qdz{c:Expr}(l:PT X c tA)(n:PE X a ta)(m:PE X b tb):PE X (.IfExp c a b pos) (tIf tA ta tb):=by
 intro e s f H Q I h;refine wpAny_IfExp (thn (l e s f H _ I h) fun d g ⟨j,I1,i⟩=>?_);cases d with
 |true=>exact n e g f j Q I1 i
 |false=>exact m e g f j Q I1 i
end
def SqL(K:Nd)(H:Hp)(a:Addr)(xs:List V):Prop:=
 Rd H a (.lst xs) \/
  ∃(o:Obj) (b:Array Value) (n:Nat),K.lookup a=some o/\o.cls=.type "list"/\o.dict=none/\o.data=.seq b n/\b.size<=sizeLine/\Vals xs b.toList
def SqT(K:Nd)(H:Hp)(a:Addr)(xs:List V):Prop:=
 Rd H a (.tup xs) \/
  ∃(o:Obj) (b:Array Value) (n:Nat),K.lookup a=some o/\o.cls=.type "tuple"/\o.data=.seq b n/\b.size<=sizeLine/\Vals xs b.toList
noncomputable def Qmq:Value->Option V
 |.none=>some .non
 |.bool b=>some (.bl b)
 |.int i _=>some (.int i)
 |.str x _=>some (.str x)
 |.bytes b _=>some (.byt b)
 |.float b _=>some (.flt b)
 |.ref a=>some (.ref a)
 |.type n=>some (.ty n)
 |_=>none
theorem RelV.abs{x:V}{u:Value}(r:RelV x u):Qmq u=some x:=by
 cases x with
 |non=>cases r;rfl
 |bl _=>cases r;rfl
 |int _=>obtain⟨t,rfl⟩:=r;rfl
 |str _=>obtain⟨t,rfl⟩:=r;rfl
 |byt _=>obtain⟨t,rfl⟩:=r;rfl
 |flt _=>obtain⟨t,rfl⟩:=r;rfl
 |ref _=>cases r;rfl
 |ty _=>cases r;rfl
theorem RelV.inj{x y:V}{u:Value}(r:RelV x u)(q:RelV y u):x=y:=Ed (r.abs.symm.trans q.abs)
theorem Vals.inj:∀{xs a:List V} {us:List Value},Vals xs us->Vals a us->xs=a
 |_,_,_,.nil,.nil=>rfl
 |_,_,_,.cons r t,.cons b t'=>by rw[r.inj b,Vals.inj t t']
section
variable{X:Cx}{pins:List (Addr×Obj)}{σ:St}{H:Hp}{s:Shared}{a:Addr}{xs ys:List V}
theorem SqL.of{K:Nd}(h:H a=some (.lst xs)):SqL K H a xs:=.inl (.inl h)
theorem SqT.of{K:Nd}(h:H a=some (.tup xs)):SqT K H a xs:=.inl (.inl h)
theorem Inv.list(I:Inv X pins σ H s)(h:SqL X.K H a xs):∃b:List Value,Vals xs b/\PlainL s.heap a b.toArray/\xs.length<=sizeLine:=by
 rcases h with h|⟨o,b,n,f,g,hd,d,c,r⟩
 ·obtain⟨z,b,n,r,e⟩:=h.ok I.hok;exact⟨b,r,⟨_,n,e,rfl,rfl,rfl⟩,z⟩
 ·refine⟨b.toList,r,⟨o,n,I.kIn a o f,g,hd,by simpa using d⟩,?_⟩;have e:=r.length;simp only[NA]at e;exact Nn (Nx e) c
theorem Inv.tuple(I:Inv X pins σ H s)(h:SqT X.K H a xs):∃b:List Value,Vals xs b/\IsTup s.heap a b.toArray/\xs.length<=sizeLine:=by
 rcases h with h|⟨o,b,n,f,g,d,c,r⟩
 ·obtain⟨z,b,r,p⟩:=h.ok I.hok;exact⟨b,r,p,z⟩
 ·refine⟨b.toList,r,⟨o,I.kIn a o f,g,n,by simpa using d⟩,?_⟩;have e:=r.length;simp only[NA]at e;exact Nn (Nx e) c
theorem Inv.list_inj(I:Inv X pins σ H s)(h:SqL X.K H a xs)(h':SqL X.K H a ys):xs=ys:=by
 obtain⟨c,r,⟨o,n,e,_,_,d⟩,_⟩:=I.list h;obtain⟨b,i,⟨l,m,f,_,_,g⟩,_⟩:=I.list h';rw[e]at f;cases f;rw[d]at g;injection g with j _
 have:c=b:=by simpa using congrArg Array.toList j
 subst this;exact r.inj i
theorem Inv.tuple_inj(I:Inv X pins σ H s)(h:SqT X.K H a xs)(h':SqT X.K H a ys):xs=ys:=by
 obtain⟨c,r,⟨o,e,_,n,d⟩,_⟩:=I.tuple h;obtain⟨b,i,⟨l,f,_,m,g⟩,_⟩:=I.tuple h';rw[e]at f;cases f;rw[d]at g;injection g with j _
 have:c=b:=by simpa using congrArg Array.toList j
 subst this;exact r.inj i
end
noncomputable abbrev Cx.wish(X:Cx)(E:Value->Shared->Prop):Cx:={ X with xe:=E }
noncomputable abbrev Cx.nox(X:Cx):Cx:=X.wish fun _ _=>False
theorem Cx.Ok.wish{X:Cx}(ok:X.Ok)(E:Value->Shared->Prop):(X.wish E).Ok:=
 ⟨ok.mod,ok.kind,ok.glob,ok.blt,ok.above,ok.inj,ok.has,ok.cab,ok.hd,ok.frames,ok.stk,ok.exf,ok.bs,ok.bsz,ok.noex,ok.exfs,ok.funs,ok.frf⟩
theorem Cx.Ok.unwish{X:Cx}{E:Value->Shared->Prop}(ok:(X.wish E).Ok):X.Ok:=
 ⟨ok.mod,ok.kind,ok.glob,ok.blt,ok.above,ok.inj,ok.has,ok.cab,ok.hd,ok.frames,ok.stk,ok.exf,ok.bs,ok.bsz,ok.noex,ok.exfs,ok.funs,ok.frf⟩
section
variable{X:Cx}{pins:List (Addr×Obj)}{σ:St}{H:Hp}{s:Shared}{E:Value->Shared->Prop}
theorem Inv.wish(I:Inv X pins σ H s)(E:Value->Shared->Prop):Inv (X.wish E) pins σ H s:=⟨I.ok.wish E,I.os,I.bare,I.base,I.loc,I.cell,I.free,I.freeC,I.pin,I.hok,I.len⟩
theorem Inv.unwish(I:Inv (X.wish E) pins σ H s):Inv X pins σ H s:=⟨I.ok.unwish,I.os,I.bare,I.base,I.loc,I.cell,I.free,I.freeC,I.pin,I.hok,I.len⟩
theorem SP.unwish{D:Ends}{f:Flow}{c:Shared}(h:SP (X.wish E) pins D f c):SP X pins D f c:=by
 cases f with
 |next=>obtain⟨a,b,I,q⟩:=h;exact⟨a,b,I.unwish,q⟩
 |brk=>obtain⟨a,b,I,q⟩:=h;exact⟨a,b,I.unwish,q⟩
 |cont=>obtain⟨a,b,I,q⟩:=h;exact⟨a,b,I.unwish,q⟩
 |ret u=>obtain⟨v,a,b,I,r,q⟩:=h;exact⟨v,a,b,I.unwish,r,q⟩
theorem PSs.nox{st:List Stmt}{t:TS}(h:PSs X.nox st t):PSs X st t:=fun pins s σ H D I hw=>
 NZ (h pins s σ H D (I.wish _) hw) (fun _ _ q=>q.unwish) fun _ _ z=>False.elim z
end
section
variable{X:Cx}{st:Stmt}{rest:List Stmt}{t u:TS}{e:Expr}{te:TE}{pos:Pos}
noncomputable def QjI:TS:=fun D a H=>D.nx a H
noncomputable def Qlf(t u:TS):TS:=fun D a H=>t { D with nx:=u D } a H
theorem Qfj:PSs X [] QjI:=fun _ _ a H _ I h=>Iy ⟨a,H,I,h⟩
theorem Qdm(h1:PS X st t)(g:PSs X rest u):PSs X (st::rest) (Qlf t u):=by
 intro a s c H D I h;refine wpAny_execs_cons (thn (h1 a s c H { D with nx:=u D } I h) fun f d q=>?_);cases f with
 |next=>
  obtain⟨b,j,i,q⟩:=q;exact g a d b j D i q
 |ret v=>exact q
 |brk=>exact q
 |cont=>exact q
theorem Qfs(h1:PS X st t):PSs X [st] t:=by
 intro a s b H D I h;refine wpAny_execs_cons (thn (h1 a s b H D I h) fun f c q=>?_);cases f with
 |next=>exact Iy q
 |ret v=>exact q
 |brk=>exact q
 |cont=>exact q
theorem Inv.quiet{a:List (Addr×Obj)}{σ:St}{H:Hp}{s:Shared}(I:Inv X a σ H s):interactive X.env=false:=by simp[interactive,I.ok.kind]
noncomputable def Qkf(te:TE):TS:=fun D a H=>te a H fun _ b=>D.nx a b
theorem QeM(f:PE X e te)(d:swapsWith e none pos.line X.env=pure false:=by rfl):PS X (.Expr e pos) (Qkf te):=by
 intro a s b H D I h;exact wpAny_Expr_any (thn (f a s b H _ I h) fun v i ⟨x,g,I1,j,c⟩=>⟨b,g,I1,c⟩) I.quiet d
noncomputable def Qme(te:TE):TS:=fun D a H=>te a H D.rt
theorem Qha(f:PE X e te):PS X (.Return (some e) pos) (Qme te):=by
 intro a s b H D I h;exact wpAny_Return_some (thn (f a s b H _ I h) fun v i ⟨x,g,I1,c,d⟩=>⟨x,b,g,I1,c,d⟩)
noncomputable def Ql1(c:TT)(t u:TS):TS:=fun D a H=>c a H fun b d=>if b=true then t D a d else u D a d
theorem QjF{c:Expr}{a b:List Stmt}{i:TT}(n:PT X c i)(p:PSs X a t)(o:PSs X b u):PS X (.If c a b pos) (Ql1 i t u):=by
 intro f s g H D I h;refine wpAny_If (thn (n f s g H _ I h) fun d j ⟨m,I1,l⟩=>?_);cases d with
 |true=>exact p f j g m D I1 l
 |false=>exact o f j g m D I1 l
end
noncomputable abbrev TG:=V->St->Hp->(St->Hp->Prop)->Prop
noncomputable abbrev TGs:=List V->St->Hp->(St->Hp->Prop)->Prop
def PG(X:Cx)(target:Expr)(t:TG):Prop:=
 ∀(a:List (Addr×Obj)) (s:Shared) (c:St) (H:Hp) (v:V) (u:Value) (Q:St->Hp->Prop),Inv X a c H s->RelV v u->t v c H Q ->
  wpAny (model X.prog X.w) X.A (assign target X.env u) (fun _ e=>∃b d,Inv X a b d e/\Q b d) X.xe s
def PGs(X:Cx)(g:List Expr)(t:TGs):Prop:=
 ∀(a:List (Addr×Obj)) (s:Shared) (c:St) (H:Hp) (d:List V) (e:List Value) (Q:St->Hp->Prop),Inv X a c H s->Vals d e->t d c H Q ->
  wpAny (model X.prog X.w) X.A (assignInOrder ((assignEach g X.env).map (·.2)) e) (fun _ h=>∃b f,Inv X a b f h/\Q b f) X.xe s
noncomputable abbrev QjZ:=V->V->V->Hp->(Hp->Prop)->Prop
def QkA(X:Cx)(t:QjZ):Prop:=
 ∀(a:List (Addr×Obj)) (s:Shared) (b:St) (H:Hp) (o i v:V) (c d u:Value) (Q:Hp->Prop),Inv X a b H s->RelV o c->RelV i d->RelV v u->t o i v H Q ->
  wpAny (model X.prog X.w) X.A (setItem c d u) (fun _ f=>∃e,Inv X a b e f/\Q e) X.xe s
noncomputable abbrev TIp:=V->V->Hp->VK->Prop
def PIp(X:Cx)(op:Operator)(t:TIp):Prop:=
 ∀(a:List (Addr×Obj)) (s:Shared) (b:St) (H:Hp) (x y:V) (v u:Value) (Q:VK),Inv X a b H s->RelV x v->RelV y u->t x y H Q ->
  wpAny (model X.prog X.w) X.A (inplaceOp op v u) (EP X a b Q) X.xe s
section
variable{X:Cx}{pos:Pos}
noncomputable def QcM(i:Nat):TG:=fun v a H Q=>Q (a.set i (some v)) H
theorem QaP{i:Nat}{x:Str}(hN:X.N.Nodup)(c:X.N[i]?=some x)(b:Loc X.env.scope x)(d:X.fn x=true\/X.env.scope.names.lookup x=some .local:=by first|exact .inl rfl|exact .inr rfl|assumption):PG X (.Name x pos) (QcM i):=by
 intro a s f H v u Q I r h;exact LP (Wu I hN c b r (fun g e=>⟨_,H,e,h⟩) d)
noncomputable def QkW:TGs:=fun b a H Q=>b=[]/\Q a H
noncomputable def Qhb(t:TG)(u:TGs):TGs:=fun c b H Q=>∃v r,c=v::r/\t v b H fun a d=>u r a d Q
theorem QfY:PGs X [] QkW:=by
 intro a s b H c d Q I r h;obtain⟨e,h⟩:=h;subst e;cases r;exact assignInOrder_nil ⟨b,H,I,h⟩
theorem QdL{e:Expr}{es:List Expr}{t:TG}{u:TGs}(h1:PG X e t)(j:PGs X es u)
  (i:(assignEach (e::es) X.env).map (·.2)=assign e X.env::(assignEach es X.env).map (·.2):=by rfl):PGs X (e::es) (Qhb t u):=by
 intro a s c H m o Q I r h;obtain⟨v,n,e1,h⟩:=h;subst e1;cases r with
 |cons r f=>
  rw[i];refine assignInOrder_cons (thn (h1 a s c H _ _ _ I r h) fun _ d ⟨b,l,I1,g⟩=>?_);exact j a d b l _ _ Q I1 f g
noncomputable def Qmu(K:Nd)(n:Nat)(t:TGs):TG:=fun v c H Q=>∃a b,v=.ref a/\SqT K H a b/\b.length=n/\t b c H Q
theorem QgU{es:List Expr}{k:Nat}{t:TGs}{n:Nat}(x:X.calm=true)(h:PGs X es t)
  (q:(assignEach es X.env).length=n:=by rfl) (d:(assignEach es X.env).findIdx? (·.1)=none:=by rfl):PG X (.Tuple es k pos) (Qmu X.K n t):=by
 intro c s f H v u Q I r hw;obtain⟨a,i,e1,p,w,hw⟩:=hw;subst e1;cases r;obtain⟨j,g,m,A⟩:=I.tuple p;refine assign_Tuple_tuple (I.ok.hd x) m (by simp[q,<-w,g.length]) d fun y l=>?_;have I1:Inv X c f H { s with heap:=y }:=I.kept (t':=s.toks) fun b o e=>l b o (NS (Nz e)) e;exact h c _ f H i _ Q I1 (by simpa using g) hw
noncomputable def Qk8(b c:TE)(t:QjZ):TG:=fun v a H Q=>b a H fun o f=>c a f fun i e=>t o i v e fun d=>Q a d
theorem Qip{o i:Expr}{e f:TE}{t:QjZ}(z:PE X o e)(A:PE X i f)(w:QkA X t)
  (B:∀v,assign (.Subscript o i pos) X.env v=(do
   let b <-holding [v] (eval o X.env)
   let c <-holding [v,b] (eval i X.env)
   standAt pos
   holding [v,b,c] (setItem b c v)
   release [v,b,c] []):=by intro _;rfl):PG X (.Subscript o i pos) (Qk8 e f t):=by
 intro a s d H v u Q I r h;rw[B];refine Na (N6 (thn (z a s d H _ I h) fun b j ⟨x,E,I1,m,q⟩=>?_));refine Na (N6 (thn (A a j d E _ I1 q) fun c g ⟨y,D,I2,l,p⟩=>?_));refine Na (FT (Na (N6 (thn (w a g d D x y v b c u _ I2 m l r p) fun _ F ⟨C,I3,n⟩=>?_))));exact wpAny_release ⟨d,C,I3,n⟩
noncomputable def QiT(te:TE)(g:TG):TS:=fun D a H=>te a H fun x b=>g x a b D.nx
theorem Qep{b e:Expr}{te:TE}{g:TG}(m:PE X e te)(l:PG X b g)(j:swapsWithSole [b] e pos.line X.env=pure false:=by rfl)(hw:swappedStores [b] e X.env=pure none:=by rfl)
  (h1:(assignEach [b] X.env).map (·.2)=[assign b X.env]:=by rfl):PS X (.Assign [b] e pos) (QiT te g):=by
 intro a s c H D I h;refine wpAny_Assign_stores (thn (m a s c H _ I h) fun v d ⟨x,n,I1,f,i⟩=>?_) j hw;rw[h1];exact thn (l a d c n x v _ I1 f i) fun _ o q=>q
theorem QhY{i:Nat}{x:Str}{e:Expr}{te:TE}{a:Pos}(hN:X.N.Nodup)(l:X.N[i]?=some x)(g:Loc X.env.scope x)(n:PE X e te)(j:swapsWith e (some (.Name x a)) pos.line X.env=pure false:=by rfl)(m:X.fn x=true\/X.env.scope.names.lookup x=some .local:=by first|exact .inl rfl|exact .inr rfl|assumption) :
  PS X (.Assign [.Name x a] e pos) (QiT te (QcM i)):=by
 intro b s c H D I h;refine wpAny_Assign_Name (thn (n b s c H _ I h) fun v q ⟨y,o,I1,d,f⟩=>?_) j;exact Wu I1 hN l g d (fun p I2=>⟨_,o,I2,f⟩) m
noncomputable def Qlx(i:Nat)(te:TE)(b:TIp):TS:=fun D a H=>∃x,a[i]?=some (some x)/\te a H fun y d=>b x y d fun z c=>D.nx (a.set i (some z)) c
theorem Qh9{i:Nat}{x:Str}{e:Expr}{te:TE}{op:Operator}{q:TIp}{j:Pos}(hN:X.N.Nodup)(t:X.N[i]?=some x)(o:Loc X.env.scope x)(Q:PE X e te)(J:PIp X op q)(P:X.fn x=true\/X.env.scope.names.lookup x=some .local:=by first|exact .inl rfl|exact .inr rfl|assumption) :
  PS X (.AugAssign (.Name x j) op e pos) (Qlx i te q):=by
 intro a s p H D I h;obtain⟨v,e1,h⟩:=h;obtain⟨m,L,O⟩:=I.loc;have n:Vis X.env.scope x:=by rcases o with k|k;exact .inl k;exact .inr (.inl k)
 obtain⟨u,r,l⟩:=O i x v t e1 n;refine wpAny_AugAssign_Name ?_
 have go:wpAny (model X.prog X.w) X.A (eval e X.env) (fun w g=>wpAny (model X.prog X.w) X.A (inplaceOp op u w) (fun r f=>wpAny (model X.prog X.w) X.A (storeName X.env x r) (fun _=>SP X a D .next) X.xe f) X.xe g) X.xe s:=by
  refine thn (Q a s p H _ I h) fun w B ⟨y,T,I1,E,G⟩=>?_;refine thn (J a B p T v y u w _ I1 r E G) fun z Z ⟨U,S,I2,C,F⟩=>?_;exact Wu I2 hN t o C (fun Y I3=>⟨_,S,I3,F⟩) P
 rcases l with⟨b,M⟩|⟨b,c,R,d⟩
 ·exact IZ I.ok.kind b L M go
 ·rcases b with b|b
  ·exact Lm I.ok.kind b R d go
  ·rcases o with k|k
   ·have:X.env.scope.names.lookup x=some .free:=b;rw[k]at this;cases this
   ·have:X.env.scope.names.lookup x=some .free:=b;rw[k]at this;cases this
end
structure It where
 go:Nat->Hp->Prop
 yld:Nat->Hp->V->Hp->Prop
 stop:Nat->Hp->Prop
def QaN(X:Cx)(a:List (Addr×Obj))(H:Hp)(b:Addr):Prop:=
 H b=none/\b≠X.env.locals/\b∉X.fs/\(b∈X.ex\/X.s₀.heap.objs.size<=b)/\(∀x c,X.env.cells.lookup x=some c->c≠b)/\∀p∈X.pn++a,p.1≠b
theorem Inv.fpOk{X:Cx}{a:List (Addr×Obj)}{σ:St}{H f:Hp}{s:Shared}{b:Addr}(I:Inv X a σ H s)(d:s.heap.objs.size<=b)(h:f b=none):QaN X a f b:=by
 refine⟨h,DT (Nl I.lt d),I.nofs d,.inr (Nn I.sz d),fun x c e z=>?_,fun p g z=>?_⟩
 ·obtain⟨v,q⟩:=I.cell x c e;exact absurd (Nl q.lt (by rw[z];exact d)) (Ev _)
 ·exact absurd (Nl (Nz (I.pin p g).1) (by rw[z];exact d)) (Ev _)
structure Turn(P:Program)(w:World)(K:Nd)(tg:Expr)(J:It)(fp:List Addr)(it:Addr)(tn:Nat->Heap->Prop):Prop where
 mem:it∈fp
 obj:∀i h,tn i h->∀b∈fp,∃o,h.get? b=some o/\∀v,o.data≠.cell v
 keep:∀i h h',tn i h->(∀b∈fp,∀o,h.get? b=some o->h'.get? b=some o)->tn i h'
 item:∀(X:Cx),X.prog=P->X.w=w->X.K=K->X.calm=true->∀(i:Nat) (pins:List (Addr×Obj)) (s:Shared) (σ:St) (H:Hp) (E:Value->Shared->Prop),Inv X pins σ H s->(∀b∈fp,QaN X pins H b)->tn i s.heap->J.go i H ->
  wpAny (model P w) X.A (pyNext (.ref it)) (fun r s1=>∃u,r=some u /\
   wpAny (model P w) X.A (letOwnedTupleGo tg (.ref it) u) (fun _ s2=>∃x H',Inv X pins σ H' s2/\RelV x u/\J.yld i H x H'/\tn (i+1) s2.heap/\∀b∈fp,H' b=none) E s1) E s
 done:∀(X:Cx),X.prog=P->X.w=w->X.K=K->X.calm=true->∀(i:Nat) (pins:List (Addr×Obj)) (s:Shared) (σ:St) (H:Hp) (E:Value->Shared->Prop),Inv X pins σ H s->(∀b∈fp,QaN X pins H b)->tn i s.heap->J.stop i H ->
  wpAny (model P w) X.A (pyNext (.ref it)) (fun r s1=>r=none/\Inv X pins σ H s1) E s
 self:∀(A:Around) (i:Nat) (s:Shared) (Q:Value->Shared->Prop) (E:Value->Shared->Prop),tn i s.heap->Q (.ref it) s->wpAny (model P w) A (pyIter (.ref it)) Q E s
noncomputable abbrev TI:=St->Hp->(It->Hp->Prop)->Prop
def PIE(X:Cx)(a:List (Addr×Obj))(σ:St)(i:Expr)(R:It->Hp->Prop)(c:Value)(f:Shared):Prop:=
 ∃(g:Addr) (h:List Addr) (e:Nat->Heap->Prop) (J:It) (d:Hp),c=.ref g/\Inv X a σ d f/\Turn X.prog X.w X.K i J h g e/\e 0 f.heap/\(∀b∈h,QaN X a d b)/\R J d
def PI(X:Cx)(d iter:Expr)(c:TI):Prop:=
 ∀(a:List (Addr×Obj)) (s:Shared) (b:St) (H:Hp) (R:It->Hp->Prop),Inv X a b H s->c b H R ->
  wpAny (model X.prog X.w) X.A (eval iter X.env) (fun v e=>wpAny (model X.prog X.w) X.A (pyIter v) (PIE X a b d R) X.xe e) X.xe s
theorem QbM {M:Model} {A:Around} {E:Value->Shared->Prop} {s:Shared} {c:Expr} {it:Addr} {u:Value} {o:Obj} {n:String} {b:Array Value} {Q:Unit->Shared->Prop} (d:s.heap.get? it=some o) (f:o.cls=.type n) (hd:o.data=.fields b)
    (e:["enumerate","zip","dict_itemiterator","dict_reverseitemiterator","odict_iterator","itertools.zip_longest","itertools.pairwise"].contains n=false) (a:Q () s):wpAny M A (letOwnedTupleGo c (.ref it) u) Q E s:=by
  unfold letOwnedTupleGo
  cases c<;>first
    |exact Ng a
    |(cases u<;>first
        |exact Ng a
        | (refine Na (wpAny_load d ?_)
           rw[f,hd];show wpAny M A (if(["enumerate","zip","dict_itemiterator","dict_reverseitemiterator","odict_iterator","itertools.zip_longest","itertools.pairwise"].contains n&&b[0]?==some (rawInt _))=true then _ else _) Q E s;rw[if_neg (by intro h;rw[e,Bool.false_and]at h;cases h)]
           exact Ng a))
noncomputable def Itl(K:Nd)(a:Addr):It:=
 ⟨fun i H=>∃b x,SqL K H a b/\b[i]?=some x,fun i H x c=>c=H/\∀b,SqL K H a b->b[i]?=some x,fun i H=>∃b,SqL K H a b/\b.length<=i⟩
noncomputable def Itt(K:Nd)(a:Addr):It:=
 ⟨fun i H=>∃b x,SqT K H a b/\b[i]?=some x,fun i H x c=>c=H/\∀b,SqT K H a b->b[i]?=some x,fun i H=>∃b,SqT K H a b/\b.length<=i⟩
noncomputable def Itr(lo:Int)(n:Nat):It:=⟨fun i _=>i<n,fun i H x a=>a=H/\x=.int (lo+i),fun i _=>n<=i⟩
theorem Qbg{P:Program}{w:World}{K:Nd}{N:Expr}(a it:Addr):Turn P w K N (Itl K a) [it] it (fun i h=>h.IsListIter it a i) where
 mem:=by simp
 obj:=fun i h st b g=>by
  have e:b=it:=by simpa using g
  subst e;obtain⟨o,e,c,d⟩:=st;exact⟨o,e,fun v z=>by rw[d]at z;cases z⟩
 keep:=fun i h q st k=>st.at fun o e=>k it (by simp) o e
 item:=by
  intro X A hw B L i f s J H E I n st y;subst A hw B;obtain⟨M,x,m,l⟩:=y;obtain⟨t,r,p,S⟩:=I.list m;obtain⟨u,hu,R⟩:=r.get l;obtain⟨G,f1,f2,F,D,C⟩:=n it (by simp);refine IG st p.isList (x:=u) (by simpa using hu) fun q j Q=>?_;have I1:Inv X f J H { s with heap:=q }:=I.turned (t':=s.toks) (fun b o g e=>(Q.2 b g).trans e) G f1 F D C;obtain⟨o,e,c,d⟩:=id j;exact⟨u,rfl,QbM (s:={ s with heap:=q }) e c d (by decide) ⟨x,H,I1,R,⟨rfl,fun Z T=>by rw[I.list_inj T m];exact l⟩,j,fun b g=>(n b g).1⟩⟩
 done:=by
  intro X A hw B L i f s J H E I n st y;subst A hw B;obtain⟨M,m,l⟩:=y;obtain⟨t,r,p,S⟩:=I.list m;obtain⟨G,f1,f2,F,D,C⟩:=n it (by simp);have U:=r.length;exact IP (I.ok.hd L) st p.isList (by simp;exact Nn (Nx U.symm) l) fun q Y=>⟨rfl,I.turned (t':=s.toks) (fun b o g e=>Y b o g e) G f1 F D C⟩
 self:=fun _ _ _ _ _ st h=>wpAny_pyIter_listiter st h
theorem Qam{P:Program}{w:World}{K:Nd}{N:Expr}(a it:Addr):Turn P w K N (Itt K a) [it] it (fun i h=>h.IsTupleIter it a i) where
 mem:=by simp
 obj:=fun i h st b j=>by
  have e:b=it:=by simpa using j
  subst e;obtain⟨o,e,c,d⟩:=st;exact⟨o,e,fun v z=>by rw[d]at z;cases z⟩
 keep:=fun i h r st k=>st.at fun o e=>k it (by simp) o e
 item:=by
  intro X A hw B L i f s J H E I q st y;subst A hw B;obtain⟨M,x,n,m⟩:=y;obtain⟨g,t,p,S⟩:=I.tuple n;obtain⟨u,hu,R⟩:=t.get m;obtain⟨G,f1,f2,F,D,C⟩:=q it (by simp);refine wpAny_pyNext_tuple_item st (show s.heap.IsTuple a g.toArray from p) (x:=u) (by simpa using hu) fun r l Q=>?_;have I1:Inv X f J H { s with heap:=r }:=I.turned (t':=s.toks) (fun b o j e=>(Q.2 b j).trans e) G f1 F D C;obtain⟨o,e,c,d⟩:=id l;exact⟨u,rfl,QbM (s:={ s with heap:=r }) e c d (by decide) ⟨x,H,I1,R,⟨rfl,fun Z T=>by rw[I.tuple_inj T n];exact m⟩,l,fun b j=>(q b j).1⟩⟩
 done:=by
  intro X A hw B L i f s J H E I q st y;subst A hw B;obtain⟨M,n,m⟩:=y;obtain⟨g,t,p,S⟩:=I.tuple n;obtain⟨G,f1,f2,F,D,C⟩:=q it (by simp);have U:=t.length;exact wpAny_pyNext_tuple_end (I.ok.hd L) st (show s.heap.IsTuple a g.toArray from p) (by simp;exact Nn (Nx U.symm) m) fun r Y=>⟨rfl,I.turned (t':=s.toks) (fun b o j e=>Y b o j e) G f1 F D C⟩
 self:=fun _ _ _ _ _ st h=>wpAny_pyIter_tupleiter st h
theorem Qai{P:Program}{w:World}{K:Nd}{D:Expr}(it:Addr)(lo:Int)(n:Nat):Turn P w K D (Itr lo n) [it] it (fun i h=>IsRangeIter h it (lo+(i:Nat)*1) ((n:Int)-(i:Nat)) 1) where
 mem:=by simp
 obj:=fun i h st b c=>by
  have e:b=it:=by simpa using c
  subst e
  exact⟨_,st,fun v z=>by
   have C:Data.fields _=Data.cell v:=z
   cases C⟩
 keep:=fun i h g st k=>k it (by simp) _ st
 item:=by
  intro X m hw p l i a s y H E I f st j;subst m hw p;obtain⟨x,f1,f2,u,r,q⟩:=f it (by simp);have W:=Walks.range (prog:=X.prog) (w:=X.w) (I.ok.hd l) it lo 1 n;refine W.item i s _ _ j st fun v g A G d F=>?_;obtain⟨t,rfl⟩:=G;have I1:Inv X a y H { s with heap:=g,toks:=A }:=I.turned (fun b o c e=>F b o (by simpa using c) e) x f1 u r q;refine⟨_,rfl,QbM (s:={ s with heap:=g,toks:=A }) (n:="range_iterator") d rfl rfl (by decide) ⟨.int (lo+i),H,I1,⟨t,?_⟩,⟨rfl,rfl⟩,d,fun b c=>(f b c).1⟩⟩;rw[Int.mul_one]
 done:=by
  intro X m hw p l i a s y H E I f st j;subst m hw p;obtain⟨x,f1,f2,u,r,q⟩:=f it (by simp);exact wpAny_pyNext_range_end (I.ok.hd l) st (by have:n<=i:=j;lia) fun g J=>⟨rfl,I.turned (t':=s.toks) (fun b o c e=>J b o c e) x f1 u r q⟩
 self:=fun _ _ _ _ _ st h=>wpAny_pyIter_rangeiter st h
section
variable{X:Cx}{tg:Expr}
theorem GB{c:List (Addr×Obj)}{σ:St}{H:Hp}{s:Shared}{R:It->Hp->Prop}{E:Value->Shared->Prop}{lo a:Int}{t u v:Tok}{tk:Nat}(I:Inv X c σ H s)(h1:-(2^62)<=lo)(h:lo<2^62)(g:-(2^62)<=a)(f:a<2^62)
  (q:R (Itr lo (a-lo).toNat) H):wpAny (model X.prog X.w) X.A (pyIter (.ref s.heap.objs.size)) (PIE X c σ tg R) E { s with heap:=s.heap.push { cls:=.type "range",data:=.fields #[.int lo t,.int a u,.int 1 v] },toks:=tk }:=by
 refine wpAny_pyIter_range (IsRange.new ..) (small_one h1 h g f) ?_;have I1:Inv X c σ H { s with heap:=s.heap.push { cls:=.type "range",data:=.fields #[.int lo t,.int a u,.int 1 v] },toks:=tk }:=I.kept fun b o e=>Ni _ e
 refine⟨(s.heap.push { cls:=.type "range",data:=.fields #[.int lo t,.int a u,.int 1 v] }).objs.size,[(s.heap.push { cls:=.type "range",data:=.fields #[.int lo t,.int a u,.int 1 v] }).objs.size],_,_,H,rfl,
  I1.kept (t':=tk) fun b o e=>Ni _ e,Qai _ lo (a-lo).toNat,?_,fun b d=>?_,q⟩
 ·have e1:lo+((0:Nat):Int)*1=lo:=by simp
  have e2:(((a-lo).toNat:Nat):Int)-((0:Nat):Int)=Builtin.Range.rangeSize lo a 1:=by rw[rangeSize_one];split<;>lia
  show IsRangeIter _ _ (lo+((0:Nat):Int)*1) ((((a-lo).toNat:Nat):Int)-((0:Nat):Int)) 1;rw[e1,e2];exact Ny _ rfl
 ·have e:b=(s.heap.push { cls:=.type "range",data:=.fields #[.int lo t,.int a u,.int 1 v] }).objs.size:=by simpa using d
  subst e;exact I1.fpOk (Nw _) (I1.hok.fresh (Nw _))
noncomputable def QjE(c:TA):TI:=fun a H R=>c a H fun b d=>∃j:Int,b=[.int j]/\-(2^62)<=j/\j<2^62/\R (Itr 0 j.toNat) d
noncomputable def QjB(c:TA):TI:=fun a H R=>c a H fun b d=>∃i j:Int,b=[.int i,.int j]/\(-(2^62)<=i/\i<2^62/\-(2^62)<=j/\j<2^62)/\R (Itr i (j-i).toNat) d
theorem QcH{a:Expr}{d:TA}{p pos:Pos}(o:Gl X "range")(n:X.mg "range"=none)(u:PA X [a] d)(m:starEach [a] X.env=[(false,eval a X.env)]:=by rfl):PI X tg (.Call (.Name "range" p) [a] [] pos) (QjE d):=by
 intro b s f H R I h;refine Call_ (VA I o n boot_range (Eg (thn (u pos b s f H _ I h) fun w x ⟨v,y,I1,i,c⟩=>?_) m rfl));obtain⟨j,e,c,l,q⟩:=c;subst e;cases i with
 |cons r g=>
  cases g;obtain⟨t,rfl⟩:=r;exact call_range_1 (GB I1 (by decide) (by decide) c l (by simpa using q))
theorem QbS{a b:Expr}{l:TA}{p pos:Pos}(z:Gl X "range")(y:X.mg "range"=none)(A:PA X [a,b] l)(x:starEach [a,b] X.env=[(false,eval a X.env),(false,eval b X.env)]:=by rfl)(d:starEach [b] X.env=[(false,eval b X.env)]:=by rfl) :
  PI X tg (.Call (.Name "range" p) [a,b] [] pos) (QjB l):=by
 intro c s m H R I h;refine Call_ (VA I z y boot_range (Eg (thn (A pos c s m H _ I h) fun C E ⟨B,F,I1,n,g⟩=>?_) (by rw[x,d]) (by rw[d];rfl)));obtain⟨i,j,e,⟨g,w,v,u⟩,q⟩:=g;subst e;cases n with
 | cons r f=>
  cases f with
  |cons o f=>
   cases f;obtain⟨t,rfl⟩:=r;obtain⟨D,rfl⟩:=o;exact call_range_2 (GB I1 g w v u q)
noncomputable def QkT(f:TI)(g:TG)(h:TS):TS:=fun D a H=>f a H fun J l=>∃W:Nat->Nat->St->Hp->Prop,(∃m,W 0 m a l)/\∀i m a H,W i m a H ->
 (J.stop i H/\D.nx a H)\/(J.go i H/\∃N:St->Hp->Prop,(∀b c,N b c->∃e,e<m/\W (i+1) e b c)/\∀x c,J.yld i H x c->g x a c fun d j=>h { D with nx:=N,ct:=N,bk:=D.nx } d j)
noncomputable def Ua(a:List Addr)(h:Heap):List (Addr×Obj):=a.filterMap fun b=>(h.get? b).map fun o=>(b,o)
theorem VU{a:List Addr}{h:Heap}{b:Addr}{o:Obj}(c:b∈a)(e:h.get? b=some o):(b,o)∈Ua a h:=FQ.mpr ⟨b,c,by rw[e];rfl⟩
theorem QaY{a:List Addr}{h:Heap}{p:Addr×Obj}(c:p∈Ua a h):p.1∈a/\h.get? p.1=some p.2:=by
 obtain⟨b,d,e⟩:=FQ.mp c;cases q:h.get? b with
 |none=>rw[q]at e;cases e
 |some o=>
  rw[q]at e;have f:(b,o)=p:=Ed e;subst f;exact⟨d,q⟩
theorem Inv.pinned{a:List (Addr×Obj)}{σ:St}{H:Hp}{s:Shared}{c:List Addr}(I:Inv X a σ H s)(j:∀b∈c,QaN X a H b)(i:∀b∈c,∃o,s.heap.get? b=some o/\∀v,o.data≠.cell v):Inv X (a++Ua c s.heap) σ H s:=
 I.pins_of fun p h=>(NI.mp h).elim (fun z=>I.pin p (NF _ z)) fun z=>by
  obtain⟨f,e⟩:=QaY z;obtain⟨l,f1,f2,_⟩:=j p.1 f;obtain⟨o,g,d⟩:=i p.1 f;rw[e]at g;cases g;exact⟨e,l,f1,f2,d⟩
theorem Inv.unpinned{a b:List (Addr×Obj)}{σ:St}{H:Hp}{s:Shared}(I:Inv X (a++b) σ H s):Inv X a σ H s:=I.pins_of fun p c=>I.pin p (NF _ (N7 _ c))
theorem QhE{iter:Expr}{body:List Stmt}{Z:TI}{g:TG}{tb:TS}{pos:Pos}(G:PassesOwn (model X.prog X.w) X.A X.env X.xe)(hc:X.calm=true)(hi:PI X tg iter Z)(hg:PG X tg g)(q:PSs X body tb)
  (hs:∀x,foldedSetIterable iter X.env x=pure x:=by intro _;rfl):PS X (.For tg iter body [] pos) (QkT Z g tb):=by
 intro c s Y H D I h;refine wpAny_For (thn (hi c s Y H _ I h) fun v s1 h1=>thn h1 fun aa s2 h2=>?_) hs;obtain⟨it,M,tn,J,H2,e,I2,T,Q,f2,W,⟨m0,w0⟩,C⟩:=h2;subst e;have p:∀{y:Hp},(∀b∈M,y b=none)->∀b∈M,QaN X c y b:=fun hn b q=>⟨hn b q,(f2 b q).2⟩
 refine codeAny_forLoop_any (fun n s'=>∃i l y,Inv X c l y s'/\tn i s'.heap/\(∀b∈M,y b=none)/\W i n l y) ?_ m0 ⟨0,Y,H2,I2,Q,fun b q=>(f2 b q).1,w0⟩
 rintro n s3 ⟨i,j,O,I3,E,L,w3⟩
 rcases C i n j O w3 with⟨stop,qn⟩|⟨go,N,hN,step⟩
 ·refine DO G (thn (T.done X rfl rfl rfl hc i c s3 j O X.xe I3 (p L) E stop) fun r s4 ⟨hr,I4⟩=>?_);subst hr;exact Iy ⟨j,O,I4,qn⟩
 ·refine DO G (thn (T.item X rfl rfl rfl hc i c s3 j O X.xe I3 (p L) E go) fun r s4 ⟨u,hr,h4⟩=>?_);subst hr;refine DO G (thn h4 fun _ s5 ⟨x,H5,I5,r5,y5,B,S⟩=>?_);have U:=I5.pinned (p S) (T.obj _ _ B);refine DO G (thn (hg _ s5 j H5 x u _ U r5 (step x H5 y5)) fun _ s6 ⟨P,H6,I6,q6⟩=>?_);refine DO G (thn (q _ s6 P H6 _ I6 q6) fun f R z=>?_)
  have again:∀{a:St} {t:Hp},Inv X (c++Ua M s5.heap) a t R->N a t->∃m,m<n/\∃i l y,Inv X c l y R/\tn i R.heap/\(∀b∈M,y b=none)/\W i m l y:=fun {a t} I7 F=>by
   obtain⟨m',hm,w7⟩:=hN a t F;refine⟨m',hm,i+1,a,t,I7.unpinned,T.keep _ _ _ B fun b q o e=>(I7.pin (b,o) (NF _ (NF _ (VU q e)))).1,fun b q=>?_,w7⟩;obtain⟨o,e,d⟩:=T.obj _ _ B b q;exact(I7.pin (b,o) (NF _ (NF _ (VU q e)))).2.1
  cases f with
  |next=>obtain⟨a,t,I7,F⟩:=z;exact again I7 F
  |cont=>obtain⟨a,t,I7,F⟩:=z;exact again I7 F
  |brk=>obtain⟨a,t,I7,z⟩:=z;exact⟨a,t,I7.unpinned,z⟩
  |ret v=>obtain⟨x7,a,t,I7,r7,z⟩:=z;exact⟨x7,a,t,I7.unpinned,r7,z⟩
end
noncomputable abbrev R2:=V->V->Hp->VK->Prop
def OpR(X:Cx)(f:Value->Value->Sem Value)(r:R2):Prop:=
 ∀(a:List (Addr×Obj)) (s:Shared) (b:St) (H:Hp) (x y:V) (v u:Value) (Q:VK),Inv X a b H s->RelV x v->RelV y u->r x y H Q ->
  wpAny (model X.prog X.w) X.A (f v u) (EP X a b Q) X.xe s
def UnR(X:Cx)(f:Value->Sem Value)(r:V->Hp->VK->Prop):Prop:=
 ∀(a:List (Addr×Obj)) (s:Shared) (b:St) (H:Hp) (x:V) (v:Value) (Q:VK),Inv X a b H s->RelV x v->r x H Q ->
  wpAny (model X.prog X.w) X.A (f v) (EP X a b Q) X.xe s
def CallR(X:Cx)(f:Value)(r:List V->Hp->VK->Prop):Prop:=
 ∀(a:List (Addr×Obj)) (s:Shared) (b:St) (H:Hp) (c:List V) (d:List Value) (Q:VK),Inv X a b H s->Vals c d->r c H Q ->
  wpAny (model X.prog X.w) X.A (call f d) (EP X a b Q) X.xe s
def Qly(X:Cx)(r:V->Hp->(Bool->Hp->Prop)->Prop):Prop:=
 ∀(a:List (Addr×Obj)) (s:Shared) (b:St) (H:Hp) (x:V) (v:Value) (Q:Bool->Hp->Prop),Inv X a b H s->RelV x v->r x H Q ->
  wpAny (model X.prog X.w) X.A (truthy v) (TP X a b Q) X.xe s
noncomputable def tOp(r:R2)(c b:TE):TE:=fun a H Q=>c a H fun x e=>b a e fun y d=>r x y d Q
noncomputable def tUn(r:V->Hp->VK->Prop)(b:TE):TE:=fun a H Q=>b a H fun x c=>r x c Q
noncomputable def rI(C:Int->Int->Prop)(g:Int->Int->V):R2:=fun x y H Q=>∃i j,x=.int i/\y=.int j/\C i j/\Q (g i j) H
noncomputable def rI0(g:Int->Int->V):R2:=fun x y H Q=>∃i j,x=.int i/\y=.int j/\Q (g i j) H
noncomputable def rU(g:Int->V):V->Hp->VK->Prop:=fun x H Q=>∃i,x=.int i/\Q (g i) H
section
variable{X:Cx}{a b c:Expr}{ta tb tc:TE}{pos:Pos}
theorem Qjx(z:PE X a ta)(t:PE X b tb){d:List (Addr×Obj)}{s:Shared}{σ:St}{H:Hp}{R:V->V->Hp->Prop}(I:Inv X d σ H s)
  (h:ta σ H fun x l=>tb σ l fun y e=>R x y e) {Q:Value->Shared->Prop} {f:Value->Value->Sem Value}
  (r:∀v u j x y e,Inv X d σ e j->RelV x v->RelV y u->R x y e->wpAny (model X.prog X.w) X.A (f v u) Q X.xe j) :
  wpAny (model X.prog X.w) X.A (eval a X.env) (fun v i=>wpAny (model X.prog X.w) X.A (eval b X.env) (fun u g=>wpAny (model X.prog X.w) X.A (f v u) Q X.xe g) X.xe i) X.xe s:=by
 refine thn (z d s σ H _ I h) fun v m ⟨x,l,I1,o,q⟩=>?_;refine thn (t d m σ l _ I1 q) fun u j ⟨y,e,I2,n,p⟩=>?_;exact r v u j x y e I2 o n p
theorem Qjt{op:Operator}{r:R2}(j:OpR X (binaryOp op) r)(m:PE X a ta)(l:PE X b tb):PE X (.BinOp a op b pos) (tOp r ta tb):=by
 intro d s e H Q I h;exact wpAny_BinOp (Qjx m l I h fun v u f x y n I2 i g q=>j d f e n x y v u Q I2 i g q)
theorem Qki{op:UnaryOp}{r:V->Hp->VK->Prop}(j:UnR X (unaryOp op) r)(l:PE X a ta):PE X (.UnaryOp op a pos) (tUn r ta):=by
 intro d s e H Q I h;exact UnaryOp_ (thn (l d s e H _ I h) fun v f ⟨x,m,I1,g,i⟩=>j d f e m x v Q I1 g i)
theorem opI{f:Value->Value->Sem Value}{C:Int->Int->Prop}{g:Int->Int->Int}
  (rule:∀(i j:Int) (t u:Tok) (s:Shared) (Q:Value->Shared->Prop) (E:Value->Shared->Prop),C i j->Q (.int (g i j) s.toks) { s with toks:=s.toks+1 }->wpAny (model X.prog X.w) X.A (f (.int i t) (.int j u)) Q E s) :
  OpR X f (rI C fun i j=>.int (g i j)):=by
 intro d s o H x y v u Q I m l h;obtain⟨i,j,rfl,rfl,n,q⟩:=h;obtain⟨t,rfl⟩:=m;obtain⟨e,rfl⟩:=l;exact rule i j t e s _ _ n ⟨.int (g i j),H,I.tok _,⟨_,rfl⟩,q⟩
theorem Qkb{f:Value->Value->Sem Value}{g:Int->Int->Int}
  (rule:∀(i j:Int) (t u:Tok) (s:Shared) (Q:Value->Shared->Prop) (E:Value->Shared->Prop),Q (.int (g i j) s.toks) { s with toks:=s.toks+1 }->wpAny (model X.prog X.w) X.A (f (.int i t) (.int j u)) Q E s) :
  OpR X f (rI0 fun i j=>.int (g i j)):=by
 intro d s n H x y v u Q I m l h;obtain⟨i,j,rfl,rfl,q⟩:=h;obtain⟨t,rfl⟩:=m;obtain⟨e,rfl⟩:=l;exact rule i j t e s _ _ ⟨.int (g i j),H,I.tok _,⟨_,rfl⟩,q⟩
theorem Qjr{f:Value->Value->Sem Value}{g:Int->Int->Bool}
  (rule:∀(i j:Int) (t u:Tok) (s:Shared) (Q:Value->Shared->Prop) (E:Value->Shared->Prop),Q (.bool (g i j)) s->wpAny (model X.prog X.w) X.A (f (.int i t) (.int j u)) Q E s) :
  OpR X f (rI0 fun i j=>.bl (g i j)):=by
 intro d s n H x y v u Q I m l h;obtain⟨i,j,rfl,rfl,q⟩:=h;obtain⟨t,rfl⟩:=m;obtain⟨e,rfl⟩:=l;exact rule i j t e s _ _ ⟨.bl (g i j),H,I,rfl,q⟩
def QlR(i j:Int):Prop:=0<j/\j<1073741824
def Ql3(i j:Int):Prop:=0<=j/\j<=1000000/\i.natAbs<2^64
def CMul(i j:Int):Prop:=(-(2^64)<i/\i<2^64)\/(-(2^64)<j/\j<2^64)
theorem CMul.ok{i j:Int}(h:CMul i j):IntMulOk i j:=by
 rcases h with⟨e,d⟩|⟨e,d⟩
 ·exact .of_left (intBits_le_64 e d)
 ·exact .of_right (intBits_le_64 e d)
theorem op_add:OpR X (binaryOp .Add) (rI0 fun i j=>.int (i+j)):=Qkb fun _ _ _ _ _ _ _ q=>add_int q
theorem Qhr:OpR X (binaryOp .Sub) (rI0 fun i j=>.int (i-j)):=Qkb fun _ _ _ _ _ _ _ q=>sub_int q
theorem QhK:OpR X (binaryOp .Mult) (rI CMul fun i j=>.int (i*j)):=opI fun _ _ _ _ _ _ _ d q=>mul_int q d.ok
theorem QeR:OpR X (binaryOp .FloorDiv) (rI QlR fun i j=>.int (i/j)):=opI fun i j _ _ _ _ _ d q=>by
 have e:(0:Int)<j:=d.1;have f:j<1073741824:=d.2;exact floordiv_int (Int.ne_of_gt e) (by rw[Int.fdiv_eq_ediv_of_nonneg i (Int.le_of_lt e)];exact q) (.inl (PyProof.noPylong_small (by omega)))
theorem QhU:OpR X (binaryOp .Mod) (rI (fun _ j=>0<j) fun i j=>.int (i%j)):=opI fun i j _ _ _ _ _ d q=>by
 have e:(0:Int)<j:=d;exact mod_int' (Int.ne_of_gt d) (by rw[Int.fmod_eq_emod_of_nonneg i (Int.le_of_lt d)];exact q)
theorem Qg3:OpR X (binaryOp .Pow) (rI Ql3 fun i j=>.int (i^j.toNat)):=opI fun _ _ _ _ _ _ _ d q=>pow_int_small d.1 d.2.1 d.2.2 q
theorem QfH:OpR X (inplaceOp .Add) (rI0 fun i j=>.int (i+j)):=Qkb fun _ _ _ _ _ _ _ q=>iadd_int q
theorem unI{f:Value->Sem Value}{g:Int->Int}
  (rule:∀(i:Int) (t:Tok) (s:Shared) (Q:Value->Shared->Prop) (E:Value->Shared->Prop),Q (.int (g i) s.toks) { s with toks:=s.toks+1 }->wpAny (model X.prog X.w) X.A (f (.int i t)) Q E s) :
  UnR X f (rU fun i=>.int (g i)):=by
 intro d s j H x v Q I e h;obtain⟨i,rfl,q⟩:=h;obtain⟨t,rfl⟩:=e;exact rule i t s _ _ ⟨.int (g i),H,I.tok _,⟨_,rfl⟩,q⟩
theorem Qhj:UnR X (unaryOp .USub) (rU fun i=>.int (-i)):=unI fun _ _ _ _ _ q=>neg_int q
end
section
variable{X:Cx}{a b c:Expr}{ta tb tc:TE}{pos:Pos}
theorem Qhg{d:List (Addr×Obj)}{σ:St}{H:Hp}{s:Shared}{Q:VK}{k f:Bool}(I:Inv X d σ H s)(q:Q (.bl k) H)(e:k=f):EP X d σ Q (.bool f) s:=by
 subst e;exact⟨.bl k,H,I,rfl,q⟩
theorem op_lt:OpR X (compareOp .Lt) (rI0 fun i j=>.bl (decide (i<j))):=Qjr fun _ _ _ _ _ _ _ q=>lt_int q
theorem op_le:OpR X (compareOp .LtE) (rI0 fun i j=>.bl (decide (i<=j))):=Qjr fun _ _ _ _ _ _ _ q=>le_int q
theorem QjK:OpR X (compareOp .Gt) (rI0 fun i j=>.bl (decide (j<i))):=Qjr fun _ _ _ _ _ _ _ q=>gt_int q
theorem Qcp:OpR X (compareOp .Lt) (fun x y H Q=>∃i j,x=.str i/\y=.str j/\Q (.bl (decide (i.cps.toList<j.cps.toList))) H):=by
 intro d s g H x y v u Q I f e h;obtain⟨i,j,rfl,rfl,q⟩:=h;obtain⟨t,rfl⟩:=f;obtain⟨l,rfl⟩:=e;exact lt_str (Qhg I q rfl)
theorem OpR.or{f:Value->Value->Sem Value}{r j:R2}(h:OpR X f r)(h':OpR X f j):OpR X f (fun x y H Q=>r x y H Q\/j x y H Q):=by
 intro d s e H x y v u Q I i g q
 rcases q with q|q
 ·exact h d s e H x y v u Q I i g q
 ·exact h' d s e H x y v u Q I i g q
theorem QeT{op:CmpOp}{r:R2}(j:OpR X (compareOp op) r)(n:PE X a ta)(m:PE X b tb)(l:behindInMarks op b=false):PE X (.Compare a [op] [b] pos) (tOp r ta tb):=by
 intro d s e H Q I h;exact wpAny_Compare1 (Qjx n m I h fun v u f x y o I2 i g q=>j d f e o x y v u Q I2 i g q) l
noncomputable def QhP(t:TE):TT:=fun d H Q=>t d H fun x e=>∃k,x=.bl k/\Q k e
theorem QaQ{op:CmpOp}{r:R2}(q:OpR X (compareOp op) r)(A:PE X a ta)(w:PE X b tb)(t:behindInMarks op b=false):PT X (.Compare a [op] [b] pos) (QhP (tOp r ta tb)):=by
 intro d s f H Q I h
 refine wpAny_isTrue_Compare1 (thn (A d s f H _ I h) fun v i ⟨x,D,I1,m,p⟩=>thn (w d i f D _ I1 p) fun u g ⟨y,C,I2,l,o⟩=>
  thn (q d g f C x y v u _ I2 m l o) fun c E ⟨z,B,I3,j,k,e,n⟩=>?_) t
 subst e;cases j;exact EU ⟨B,I3,n⟩
noncomputable def Qcu(r g:R2)(ta tb tc:TE):TE:=fun d H Q=>ta d H fun x j=>tb d j fun y i=>r x y i fun z e=>∃k,z=.bl k /\
 (if k=true then tc d e fun f h=>g y f h Q else Q (.bl false) e)
theorem QcW{op g:CmpOp}{r m:R2}(L:OpR X (compareOp op) r)(j:OpR X (compareOp g) m)(P:PE X a ta)(O:PE X b tb)(N:PE X c tc)
  (M:lastMarks [op,g] [b,c]=false:=by with_unfolding_all rfl):PE X (.Compare a [op,g] [b,c] pos) (Qcu r m ta tb tc):=by
 intro f s i H Q I h
 refine Compare_chain (thn (P f s i H _ I h) fun v B ⟨x,T,I1,E,J⟩=>chain_link (thn (O f B i T _ I1 J) fun u A ⟨y,S,I2,l,G⟩=>
  thn (L f A i S x y v u _ I2 E l G) fun d w ⟨z,o,I3,D,k,e,n⟩=>?_)) M
 subst e;cases D;refine EU ?_;cases k with
 |false=>exact ite_ff ⟨.bl false,o,I3,rfl,n⟩
 |true=>exact ite_tt (chain_last (thn (N f w i o _ I3 n) fun q t ⟨p,R,I4,C,F⟩=>j f t i R y p u q Q I4 l C F))
theorem Qds{op g:CmpOp}{r m:R2}(O:OpR X (compareOp op) r)(j:OpR X (compareOp g) m)(T:PE X a ta)(S:PE X b tb)(R:PE X c tc)
  (P:lastMarks [op,g] [b,c]=false:=by with_unfolding_all rfl):PT X (.Compare a [op,g] [b,c] pos) (QhP (Qcu r m ta tb tc)):=by
 intro f s i H Q I h
 refine isTrue_chain (thn (T f s i H _ I h) fun v B ⟨x,H1,I1,F,M⟩=>test_link (thn (S f B i H1 _ I1 M) fun u A ⟨y,H2,I2,l,L⟩=>
  thn (O f A i H2 x y v u _ I2 F l L) fun d w ⟨z,o,I3,E,k,e,n⟩=>?_)) P
 subst e;cases E;refine EU ?_;cases k with
 |false=>
  obtain⟨k',U,N⟩:=n;cases U;exact ite_ff ⟨o,I3,N⟩
 |true=>
  refine ite_tt (test_last (thn (R f w i o _ I3 n) fun q t ⟨p,Z,I4,D,J⟩=>thn (j f t i Z y p u q _ I4 l D J) fun d' s5 ⟨z2,Y,I5,C,k2,e2,G⟩=>?_));subst e2;cases C;exact EU ⟨Y,I5,G⟩
def Qkm(K:Nd)(x:V)(H:Hp)(k:Bool):Prop:=
 match x with
 |.non=>k=false
 |.bl b=>k=b
 |.int i=>k=(i != 0)
 |.str y=>y.length<=sizeLine/\k=((y.length:Int) != 0)
 |.byt y=>y.size<=sizeLine/\k=((y.size:Int) != 0)
 |.ref p=>(∃d,SqL K H p d/\k=!d.isEmpty)\/(∃d,SqT K H p d/\k=!d.isEmpty)\/∃kvs,H p=some (.dK kvs)/\k=!kvs.isEmpty
 |_=>False
theorem QaG{κ:Type}{kvs:List (κ×V)}{d:List (κ×Value)}(r:KV kvs d):(!d.isEmpty)=!kvs.isEmpty:=by
 cases r<;>rfl
theorem YD{xs:List V}{d:List Value}(r:Vals xs d):(!d.toArray.isEmpty)=!xs.isEmpty:=by
 cases r<;>simp
theorem K3:(sizeLine:Nat)<2^63:=by rw[Dj];decide
theorem Qhd:Qly X (fun x H Q=>∃k,Qkm X.K x H k/\Q k H):=by
 intro z s E H x v Q I j h;obtain⟨k,e,q⟩:=h;have F:=K3;have C:sizeLine=16777216:=Dj;cases x with
 |non=>
  cases j;have d:k=false:=e;subst d;exact truthy_none ⟨H,I,q⟩
 |bl b=>
  cases j;have d:k=b:=e;subst d;exact EU ⟨H,I,q⟩
 |int i=>
  obtain⟨t,rfl⟩:=j;have d:k=(i != 0):=e;subst d;exact PySem.P.truthy_int ⟨H,I,q⟩
 |str y=>
  obtain⟨t,rfl⟩:=j;obtain⟨B,d⟩:y.length<=sizeLine/\k=((y.length:Int) != 0):=e;subst d;exact PySem.P.truthy_str (by lia) ⟨H,I.tok _,q⟩
 |byt y=>
  obtain⟨t,rfl⟩:=j;obtain⟨B,d⟩:y.size<=sizeLine/\k=((y.size:Int) != 0):=e;subst d;exact PySem.W.truthy_bytes (N8 (NG (Nn B (Nx C)) (by decide))) ⟨H,I.tok _,q⟩
 |ref p=>
  cases j;have d:(∃g,SqL X.K H p g/\k=!g.isEmpty)\/(∃g,SqT X.K H p g/\k=!g.isEmpty)\/∃kvs,H p=some (.dK kvs)/\k=!kvs.isEmpty:=e
  rcases d with⟨g,l,d⟩|⟨g,l,d⟩|⟨kvs,l,d⟩
  ·subst d;obtain⟨u,r,o,A⟩:=I.list l;have f:=r.length;exact wpAny_truthy_list o.isList (by simp only[Nh];lia) ⟨H,I.tok _,by rw[YD r];exact q⟩
  ·subst d;obtain⟨u,r,o,A⟩:=I.tuple l;have f:=r.length;exact truthy_tuple o (by simp only[Nh];omega) ⟨H,I.tok _,by rw[YD r];exact q⟩
  ·subst d;obtain⟨A,D,n,r,m⟩:kvs.length<=sizeLine/\(p==sysModules)=false/\∃n,KV kvs n/\s.heap.DictOf (Vr X.prog X.w) p n:=I.hok p _ l;have f:kvs.length=n.length:=EH r;exact wpAny_truthy_dict D m (by lia) ⟨H,I.tok _,by rw[QaG r];exact q⟩
 |_=>exact(show False from e).elim
theorem Qc9(l:PE X a ta)(j:∀whole,isTrue a X.env whole=(do let v <-whole;standAt a.pos;holding [v] (truthy v))) :
  PT X a (fun σ H Q=>ta σ H fun x e=>∃k,Qkm X.K x e k/\Q k e):=by
 intro d s σ H Q I h;exact isTrue_plain (thn (l d s σ H _ I h) fun v f ⟨x,m,I1,g,i⟩=>Qhd d f σ m x v Q I1 g i) (j _)
theorem op_add_str:OpR X (binaryOp .Add) (fun x y H Q=>∃i j,x=.str i/\y=.str j/\i.length+j.length<=sizeLine/\Q (.str (i++j)) H):=by
 intro d s m H x y v u Q I g f h;obtain⟨i,j,rfl,rfl,l,q⟩:=h;obtain⟨t,rfl⟩:=g;obtain⟨e,rfl⟩:=f;exact add_str (fun e n=>⟨.str (i++j),H,I.tok _,⟨_,rfl⟩,q⟩) l
theorem UN{x:V}{us:List Value}(r:Vals [x] us):∃u,us=[u]/\RelV x u:=by
 cases r with
 |cons e d=>cases d;exact⟨_,rfl,e⟩
theorem QfX{x y:V}{us:List Value}(r:Vals [x,y] us):∃u d,us=[u,d]/\RelV x u/\RelV y d:=by
 cases r with
 |cons h g=>
  cases g with
  |cons f e=>cases e;exact⟨_,_,rfl,h,f⟩
theorem QbH(f:X.calm=true):CallR X (.builtin "max") (fun xs H Q=>∃i j,xs=[.int i,.int j]/\Q (.int (if j>i then j else i)) H):=by
 intro e s g H xs m Q I r h;obtain⟨i,j,rfl,q⟩:=h;obtain⟨u,l,rfl,⟨t,rfl⟩,⟨o,rfl⟩⟩:=QfX r;refine max_two_ints (I.ok.hd f) fun p n k=>⟨_,H,I.kept k,?_,q⟩
 by_cases d:j>i
 ·rw[if_pos d,if_pos d];exact⟨_,rfl⟩
 ·rw[if_neg d,if_neg d];exact⟨_,rfl⟩
end
structure ObjM(h:Heap)(x dx C:Addr)(mA:Str->Option Value):Prop where
 obj:h.get? x=some (Iv C dx)
 ns:h.Ns1 dx mA
 ne:dx≠x
theorem Qck{h:Heap}{g:Addr}{d:Str->Option Value}(n:h.Ns1 g d):∃c,h.get? g=some c/\∀name,IQ name c=some (d name):=by
 obtain⟨o,f,r,j,hd,m,_,l⟩:=n;refine⟨o,j,fun name=>?_⟩;have e:=l name;unfold nsFind findBy at e;rw[<-Array.find?_toList]at e;unfold IQ;rw[hd];dsimp only;split
 ·rename_i y q;rw[q]at e;exact congrArg some e
 ·rename_i q;rw[q]at e
  have a:f.toList.any (·.refKey)=false:=by
   rw[LQ];intro y i;obtain⟨z,t,b⟩:=m y (Array.mem_toList_iff.mp i);simp[DictEntry.refKey,b]
  have p:¬f.toList.any (·.refKey)=true:=by rw[a];exact N9
  rw[if_neg p];exact congrArg some e
theorem ObjM.look{h:Heap}{x c C:Addr}{b:Str->Option Value}(I:ObjM h x c C b):∃a,PySem.W.InstAt h x (Iv C c) C (some a)/\∀name,IQ name a=some (b name):=
 let⟨a,d,e⟩:=Qck I.ns
 ⟨a,⟨I.obj,rfl,rfl,d⟩,e⟩
theorem RelO.some_of{v:V}{o:Option Value}(r:RelO (some v) o):∃u,o=some u/\RelV v u:=by
 cases o with
 |none=>exact(show False from r).elim
 |some u=>exact⟨u,rfl,r⟩
section
variable{P:Program}{w:World}{H H':Hp}{h h':Heap}{a C dx:Addr}{fs fs':List (Str×V)}
theorem Qgw(c:HOk P w H h)(e:H a=some (.ins C dx fs)):∃b,ObjM h a dx C b/\(∀f,RelO (fs.lookup f) (b f))/\OL b (fs.map (·.1))/\fs.length<=1000/\H dx=some (.own a):=by
 obtain⟨d,z,ne,ob,b,n,r,q⟩:=(show ObjOk P w H h a (.ins C dx fs)from c a _ e)
 exact⟨b,⟨ob,n,ne⟩,r,q,z,d⟩
end
structure Cls(K:Nd)(C:Addr):Prop where
 pg:Oe K C Str.empty=true
 hd:PySem.W.hasDictIn K C=true
 po:PySem.W.plainOver K C=true
 sa:IR K (.ref C) "__setattr__"=some (some (.builtin "object.__setattr__"))
theorem Cls.get{K:Nd}{C:Addr}(c:Cls K C)(f:Str):Oe K C f=true:=c.pg
def Qkz(K:Nd)(C:Addr)(f:Str):Prop:=IR K (.ref C) f=some none
section
variable{X:Cx}{pins:List (Addr×Obj)}{σ:St}{H:Hp}{s:Shared}{A:Around}{E:Value->Shared->Prop}{Q:Value->Shared->Prop}{c:Value}{b:Bool}
inductive TyOf(K:Nd)(H:Hp):V->Value->Prop where
 |non:TyOf K H .non (.type "NoneType")
 |bl (x:Bool):TyOf K H (.bl x) (.type "bool")
 |int (i:Int):TyOf K H (.int i) (.type "int")
 |str (x:Str):TyOf K H (.str x) (.type "str")
 |flt (x:UInt64):TyOf K H (.flt x) (.type "float")
 |lst {a:Addr} {xs:List V} (e:H a=some (.lst xs)):TyOf K H (.ref a) (.type "list")
 |frz {a:Addr} {o:Obj} {xs:List V} (e:H a=some (.frz o (.lst xs))):TyOf K H (.ref a) (.type "list")
 |tup {a:Addr} {xs:List V} (e:H a=some (.tup xs)):TyOf K H (.ref a) (.type "tuple")
 |dK {a:Addr} {kvs:List (Key×V)} (e:H a=some (.dK kvs)):TyOf K H (.ref a) (.type "dict")
 |dT {a:Addr} {kvs:List (Tr×Addr×V)} (e:H a=some (.dT kvs)):TyOf K H (.ref a) (.type "dict")
 | ins {a C dx:Addr} {fs:List (Str×V)} (e:H a=some (.ins C dx fs)) (cl:Cls K C) (ha:IR K (.ref C) "__class__"=some (some (.builtin "object.__class__")))
   (hn:PySem.W.specialIn K (.builtin "object.__class__") "__get__"=some (some (.builtin "getset_descriptor.__get__"))) (htk:PySem.W.takesIn K (.builtin "object.__class__")=some true)
   (hm:PySem.W.mroIn K C (.type "object")=some true):TyOf K H (.ref a) (.ref C)
theorem QbW{x:V}{u t:Value}(I:Inv X pins σ H s)(d:RelV x u)(ty:TyOf X.K H x t)(e:OB X.K t c=some b)(h:∀tk,Q (.bool b) { s with toks:=tk }) :
  wpAny (model X.prog X.w) A (call (.builtin "isinstance") [u,c]) Q E s:=by
 cases ty with
 |non=>cases(show u=Value.none from d);exact Ee PySem.W.kitx_none I.kIn True.intro e (fun z=>nomatch z) h
 |bl y=>cases(show u=Value.bool y from d);exact Ee PySem.W.kitx_bool I.kIn True.intro e (fun z=>nomatch z) h
 |int i=>obtain⟨t,q⟩:=(show∃t,u=Value.int i t from d);cases q;exact Ee PySem.W.kitx_int I.kIn True.intro e (fun z=>nomatch z) h
 |str y=>obtain⟨t,q⟩:=(show∃t,u=Value.str y t from d);cases q;exact Ee PySem.W.kitx_str I.kIn True.intro e (fun z=>nomatch z) h
 |flt y=>obtain⟨t,q⟩:=(show∃t,u=Value.float y t from d);cases q;exact Ee PySem.W.kitx_float I.kIn True.intro e (fun z=>nomatch z) h
 |@lst a j f=>
  cases(show u=Value.ref a from d);obtain⟨_,_,n,_,g⟩:=(show ObjOk X.prog X.w H s.heap a (.lst j)from I.hok a _ f)
  exact Ee F0 I.kIn ⟨_,g,rfl⟩ e (fun z=>nomatch z) h
 |@frz a ob j f=>
  cases(show u=Value.ref a from d);obtain⟨_,_,_,n,_,g⟩:=(show ObjOk X.prog X.w H s.heap a (.frz ob (.lst j))from I.hok a _ f)
  exact Ee F0 I.kIn ⟨_,g,rfl⟩ e (fun z=>nomatch z) h
 |@tup a j f=>
  cases(show u=Value.ref a from d);obtain⟨_,_,_,p⟩:=(show ObjOk X.prog X.w H s.heap a (.tup j)from I.hok a _ f)
  obtain⟨o,g,l,_⟩:=p;exact Ee Lz I.kIn ⟨o,g,l⟩ e (fun z=>nomatch z) h
 |@dK a kvs f=>
  cases(show u=Value.ref a from d);obtain⟨_,_,L,_,p⟩:=(show ObjOk X.prog X.w H s.heap a (.dK kvs)from I.hok a _ f)
  obtain⟨o,F,G,g,l,_⟩:=p;exact Ee LR I.kIn ⟨o,g,l.1⟩ e (fun z=>nomatch z) h
 |@dT a kvs f=>
  cases(show u=Value.ref a from d);obtain⟨_,_,j,_,o,F,G,g,l,_⟩:=(show ObjOk X.prog X.w H s.heap a (.dT kvs)from I.hok a _ f)
  exact Ee LR I.kIn ⟨o,g,l.1⟩ e (fun z=>nomatch z) h
 |@ins a C P fs f r D v m B=>
  cases(show u=Value.ref a from d);obtain⟨N,O,_⟩:=Qgw I.hok f;obtain⟨M,J,_⟩:=O.look;exact Ee (PySem.W.kitx_own (r.get _) r.hd D v m B) I.kIn J e (fun z=>nomatch z) h
end
structure Room(k:Nat)(A:Around):Prop where
 hd:A.handled=none
 dp:A.depth+3*k+5<recursionLimit
 un:A.units+16*k+200<cLine
theorem Room.mono{j k:Nat}{A:Around}(r:Room k A)(h:j<=k):Room j A:=⟨r.hd,by have:=r.dp;lia,by have:=r.un;lia⟩
theorem Room.deeper{k:Nat}{A:Around}(r:Room (k+1) A)(env:Env):Room k (A.deeper env):=
 ⟨r.hd,by have:=r.dp;show A.depth+1+3*k+5<_;lia,by have:=r.un;show A.units+3+16*k+200<_;lia⟩
theorem Room.depth{k:Nat}{A:Around}(r:Room k A):A.depth<recursionLimit:=by have:=r.dp;exact NG (Nn (NJ _ _) (NJ _ _)) this
theorem Room.units{k:Nat}{A:Around}(r:Room k A):A.units+64<cLine:=by have:=r.un;lia
noncomputable def QlL:TA:=fun _ H Q=>Q [] H
noncomputable def QjG(d:TE)(c:TA):TA:=fun a H Q=>d a H fun x f=>c a f fun b e=>Q (x::b) e
section
variable{X:Cx}{e:Expr}{es:List Expr}{te:TE}{t:TA}{pos:Pos}
theorem QhB:PA X [] QlL:=fun _ _ _ _ H Q I h=>Df ⟨[],H,I,.nil,h⟩
theorem QeY(m:PE X e te)(hr:PA X es t)(l:starEach (e::es) X.env=(false,eval e X.env)::starEach es X.env:=by rfl):PA X (e::es) (QjG te t):=by
 intro pos a s b H Q I h;rw[l];show wpAny _ _ (spliced ((false,eval e X.env)::backTo pos (starEach es X.env))) _ _ s;refine E9 (thn (m a s b H _ I h) fun u d ⟨x,o,I1,g,j⟩=>?_);exact thn (hr pos a d b o _ I1 j) fun p q ⟨c,n,I2,f,i⟩=>⟨x::c,n,I2,.cons g f,i⟩
noncomputable def QmG(t:TA):TE:=fun c H Q=>t c H fun a b=>a.length<=sizeLine/\∀p,b p=none->Q (.ref p) (upd b p (.tup a))
noncomputable def Qmw(t:TA):TE:=fun c H Q=>t c H fun a b=>a.length<=sizeLine/\∀p,b p=none->Q (.ref p) (upd b p (.lst a))
theorem QhC{i}(h:PA X es t):PE X (.Tuple es i pos) (QmG t):=by
 intro a s f H Q I l;refine wpAny_Tuple_spliced (thn (h pos a s f H _ I l) fun j c ⟨g,d,I1,r,z,q⟩=>⟨by rw[<-r.length];exact z,?_⟩);have m:d c.heap.objs.size=none:=I1.hok.fresh (Nw _);refine⟨.ref c.heap.objs.size,upd d c.heap.objs.size (.tup g),I1.laid (t':=c.toks) (fun b u e=>Ni _ e) (Nw _) ?_,rfl,q _ m⟩;exact⟨z,j,r,⟨_,Ny _ rfl,rfl,_,rfl⟩⟩
theorem Qeo(h:PA X es t):PE X (.List es pos) (Qmw t):=by
 intro a s f H Q I j;refine wpAny_List_spliced (thn (h pos a s f H _ I j) fun i c ⟨g,d,I1,r,z,q⟩=>⟨by rw[<-r.length];exact z,?_⟩);have l:d c.heap.objs.size=none:=I1.hok.fresh (Nw _);refine⟨.ref c.heap.objs.size,upd d c.heap.objs.size (.lst g),I1.laid (t':=c.toks) (fun b u e=>Ni _ e) (Nw _) ?_,rfl,q _ l⟩;exact⟨z,i,0,r,Ny _ rfl⟩
end
noncomputable abbrev Sp:=List V->Hp->VK->XK->Prop
noncomputable abbrev CXT:=List Env->Hp->Shared->XK->Value->Shared->Prop
structure Env0(P:Program)(w:World)(K:Nd)(mg:Str->Option Value)(base:Heap)(A:Around)(outer:List Env)(s:Shared)(H:Hp):Prop where
 frames:A.frames=some outer
 mod:Mod K mg base
 bs:∀b o,base.get? b=some o->s.heap.get? b=some o/\H b=none
 bsz:base.objs.size<=s.heap.objs.size
 funs:s.heap.FunFrames base outer
 frf:∀b∈frs outer,H b=none
 hok:HOk P w H s.heap
 bare:AllBare s.gens
def CE(a:List Env)(P:Program)(w:World)(H:Hp)(s:Shared)(Q:VK)(u:Value)(b:Shared):Prop:=
 ∃v c,b.os=s.os/\AllBare b.gens/\Un (frs a) [] H c s.heap b.heap/\HOk P w c b.heap/\RelV v u/\Q v c
def CR(CX:CXT)(a:List Env)(P:Program)(w:World)(H:Hp)(s:Shared)(Q:VK)(E:XK)(r:Result)(b:Shared):Prop:=
 match r with
 |.ok (.ret u)=>CE a P w H s Q u b
 |.ok _=>False
 |.error e=>CX a H s E e b
structure FnOk(P:Program)(w:World)(K:Nd)(mg:Str->Option Value)(base:Heap)(CX:CXT)(k:Nat)(f:Addr)(fd:FuncData)(ps:List Str)(sp:Sp):Prop where
 len:∀vs H Q E,sp vs H Q E->vs.length=ps.length
 run:∀(A:Around) (outer:List Env) (s:Shared) (H:Hp) (args:Args) (us:List Value) (vs:List V) (Q:VK) (E:XK),Room k A->Env0 P w K mg base A outer s H->BindsTo s fd args (ps.zip us)->Vals vs us->sp vs H Q E ->
  codeAny (model P w) A (.call (.ref f) args) (CR CX outer P w H s Q E) s
theorem FnOk.imp{P:Program}{w:World}{K:Nd}{d:Str->Option Value}{base:Heap}{CX:CXT}{k:Nat}{f:Addr}{fd:FuncData}{ps:List Str}{sp c:Sp}(F:FnOk P w K d base CX k f fd ps sp)
  (h:∀b H Q E,c b H Q E->sp b H Q E):FnOk P w K d base CX k f fd ps c:=
 ⟨fun b H Q E q=>F.len b H Q E (h _ _ _ _ q),fun A a s H args e b Q E hr j l g i=>F.run A a s H args e b Q E hr j l g (h _ _ _ _ i)⟩
section
variable{X:Cx}{pins:List (Addr×Obj)}{σ:St}{H:Hp}{s s':Shared}
theorem Inv.env0(I:Inv X pins σ H s):Env0 X.prog X.w X.K X.mg X.base X.A X.stack s H:=
 ⟨I.ok.frames,I.ok.mod,I.bs,Nn I.ok.bsz I.sz,I.stack,I.stkFree,I.hok,I.bare⟩
theorem Inv.after{Q:VK}{u:Value}(I:Inv X pins σ H s)(h:CE X.stack X.prog X.w H s Q u s'):EP X pins σ Q u s':=by
 obtain⟨v,f,os,bare,un,c,r,q⟩:=h;obtain⟨e,g,d,t,a⟩:=s';obtain rfl:a=s.os:=os;exact⟨v,f,I.call (h':=e) (g':=g) (d':=d) (t':=t) (ch:=[]) un c bare (fun b z=>absurd z (by simp)),r,q⟩
end
noncomputable def QgV(sp:Sp)(a:List V)(E:XK)(t:TA):TE:=fun b H Q=>t b H fun c d=>sp (c++a) d Q E
def Binds(K:Nd)(fd:FuncData)(ps:List Str)(b:List Value):Prop:=
 ∀(s:Shared) (a:List Value),K.In s.heap->(a++b).length=ps.length->BindsTo s fd ⟨a,[]⟩ (ps.zip (a++b))
theorem Binds.all{K:Nd}{fd:FuncData}{ps:List Str}(h:∀us:List Value,us.length=ps.length->bindArgs fd ⟨us,[]⟩=pure (ps.zip us)):Binds K fd ps []:=fun s us _ a=>by
 rw[Du]at a ⊢;exact .of_eq (h us a)
def GV(CX:CXT)(X:Cx)(E:XK):Prop:=∀(a:List (Addr×Obj)) (c:St) (H:Hp) (s:Shared) (e:Value) (b:Shared),Inv X a c H s->CX X.stack H s E e b->X.xe e b
section
variable{X:Cx}{CX:CXT}{k:Nat}{f C:Addr}{fd:FuncData}{ps:List Str}{sp:Sp}{dvs:List V}{ds:List Value}{E:XK}{x m:Str}{p pos apos:Pos}{e o:Expr}{es:List Expr}{ta:TE}{t:TA}
theorem Qiz{a:List (Addr×Obj)}{σ:St}{H:Hp}{s:Shared}{Q:VK}{us:List Value}{c:List V}(F:FnOk X.prog X.w X.K X.mg X.base CX k f fd ps sp)(hr:Room k X.A)(l:Binds X.K fd ps ds)(hd:Vals dvs ds)(i:GV CX X E)
  (I:Inv X a σ H s) (r:Vals c us) (h:sp (c++dvs) H Q E):wpAny (model X.prog X.w) X.A (call (.ref f) us) (EP X a σ Q) X.xe s:=by
 have d:Vals (c++dvs) (us++ds):=r.append hd;have j:(us++ds).length=ps.length:=by rw[<-d.length];exact F.len _ _ _ _ h
 refine wpAny_call (DU (F.run X.A X.stack s H ⟨us,[]⟩ (us++ds) (c++dvs) Q E hr I.env0 (l s us I.kIn j) d h) fun r g b=>?_);cases r with
 |error e=>exact i a σ H s e g I b
 |ok n=>
  cases n with
  |ret u=>exact I.after b
  |next=>exact False.elim b
  |brk=>exact False.elim b
  |cont=>exact False.elim b
theorem QgE(F:FnOk X.prog X.w X.K X.mg X.base CX k f fd ps sp)(hr:Room k X.A)(n:Gl X x)(j:X.mg x=some (.ref f))(l:DB X.K (.ref f)=true)(v:Binds X.K fd ps ds)(hd:Vals dvs ds)(i:GV CX X E)
  (y:PA X (e::es) t) (c:(x==("__debug__":Str))=false:=by decide) (u:starEach (e::es) X.env=(false,eval e X.env)::starEach es X.env:=by rfl) (b:(backTo pos (starEach es X.env)).any (·.1)=false:=by rfl) :
  PE X (.Call (.Name x p) (e::es) [] pos) (QgV sp dvs E t):=by
 intro a s g H Q I h;refine EB (Qbt I n j ?_ c);refine PySem.W.callWith_K (h₀:=X.base) I.ok.mod.kin l (thn (y pos a s g H _ I h) fun B D ⟨z,G,I1,r,q⟩=>⟨I1.kIn,?_⟩) u b;exact Qiz F hr v hd i I1 r q
end
structure FnScope(N P:List Str)(sc:Scope):Prop where
 kind:sc.kind=.function
 co:sc.isCoroutine=false
 gen:sc.isGenerator=false
 nd:N.Nodup
 pre:N.take P.length=P
 par:∀x∈P,sc.names.lookup x=some .local\/sc.names.lookup x=some .cell
 nofree:∀y∈sc.names,y.2≠.free
theorem Uv{kindOf:Str->Option NameKind}{x:Str}:∀{binds:List (Str×Value)} {m:Str->Option Value},(∀v,(x,v)∉binds)->bindL kindOf binds m x=m x
 |[],_,_=>rfl
 | (n,v)::r,m,h=>by
  unfold bindL;rw[Uv fun w hw=>h w (Np _ hw)];split
  ·have:x≠n:=by rintro rfl;exact h v Nr
   simp[this]
  ·rfl
theorem W3{kindOf:Str->Option NameKind}{x:Str}:∀{binds:List (Str×Value)} {m:Str->Option Value},(∀v,(x,v)∉binds)->bindC kindOf binds m x=m x
 |[],_,_=>rfl
 | (n,v)::r,m,h=>by
  unfold bindC;rw[W3 fun w hw=>h w (Np _ hw)];split
  ·rfl
  ·have:x≠n:=by rintro rfl;exact h v Nr
   simp[this]
theorem Ul{kindOf:Str->Option NameKind}{x:Str}{v:Value}:∀{P:List Str} {a:List Value} {i:Nat} {m:Str->Option Value},P.Nodup->P[i]?=some x->a[i]?=some v->kindOf x=some .local ->
  bindL kindOf (P.zip a) m x=some v
 |[],_,_,_,_,h,_,_=>by simp at h
 |_::_,[],_,_,_,_,h,_=>by simp at h
 |p::P,w::a,0,m,c,h1,b,d=>by
  simp at h1 b;subst h1;subst b;show bindL kindOf ((p,w)::P.zip a) m p=_;unfold bindL;rw[Uv fun v e=>(Ek.mp c).1 (Iz e).1,if_pos d];simp
 |p::P,w::a,i+1,m,c,h1,b,d=>by
  show bindL kindOf ((p,w)::P.zip a) m x=_;unfold bindL;exact Ul (i:=i) (Ek.mp c).2 (by simpa using h1) (by simpa using b) d
theorem W9{kindOf:Str->Option NameKind}{x:Str}{v:Value}:∀{P:List Str} {a:List Value} {i:Nat} {m:Str->Option Value},P.Nodup->P[i]?=some x->a[i]?=some v->kindOf x≠some .local ->
  bindC kindOf (P.zip a) m x=some v
 |[],_,_,_,_,h,_,_=>by simp at h
 |_::_,[],_,_,_,_,h,_=>by simp at h
 |p::P,w::a,0,m,c,h1,b,d=>by
  simp at h1 b;subst h1;subst b;show bindC kindOf ((p,w)::P.zip a) m p=_;unfold bindC;rw[W3 fun v e=>(Ek.mp c).1 (Iz e).1,if_neg d];simp
 |p::P,w::a,i+1,m,c,h1,b,d=>by
  show bindC kindOf ((p,w)::P.zip a) m x=_;unfold bindC;exact W9 (i:=i) (Ek.mp c).2 (by simpa using h1) (by simpa using b) d
noncomputable def start(N:List Str)(a:List V):St:=a.map some++List.replicate (N.length-a.length) none
noncomputable def Qeu(CX:CXT)(P:Program)(w:World)(K:Nd)(mg:Str->Option Value)(base:Heap)(N:List Str)(b:Str)(a:Scope)(f:Addr)(cd:Value)(A:Around)(outer:List Env)(s:Shared)(H:Hp)(E:XK):Cx where
 prog:=P
 w:=w
 K:=K
 mg:=mg
 base:=base
 A:=A.deeper (envOfC b a s.heap.objs.size f cd)
 N:=N
 s₀:=s
 H₀:=H
 env:=envOfC b a s.heap.objs.size f cd
 outer:=outer
 stack:=envOfC b a s.heap.objs.size f cd::outer
 ex:=[]
 calm:=true
 fn:=fun _=>true
 pn:=[]
 xe:=fun e d=>wpAny (model P w) (A.deeper (envOfC b a s.heap.objs.size f cd)) (leaving (envOfC b a s.heap.objs.size f cd) e) (fun _ c=>CX outer H s E e c) (fun g c=>CX outer H s E g c) d
theorem Gh{a:Scope}{n:Nat}{x:Str}(h:a.names.lookup x=some .cell):∃c,(cellsFrom n a.names []).lookup x=some c:=by
 have q:=IH a.names n [] (.inl h);exact Ig.mp q
theorem Qb6{CX:CXT}{P:Program}{w:World}{K:Nd}{I:Str->Option Value}{base:Heap}{N ps:List Str}{j:Str}{d:Scope}{f:Addr}{cd:Value}{A:Around}{g:List Env}{s J:Shared}{H:Hp}{E:XK}{us:List Value}{o:List V}
  (S:FnScope N ps d) (hd:A.handled=none) (m:Env0 P w K I base A g s H) (Q:o.length=ps.length) (r:Vals o us)
  (x:InCallC s s.heap.objs.size (bindL (envOfC j d s.heap.objs.size f cd).kindOf (ps.zip us) fun _=>none) (cellsFrom (s.heap.objs.size+1) d.names []) (bindC (envOfC j d s.heap.objs.size f cd).kindOf (ps.zip us) fun _=>none) J) :
  Inv (Qeu CX P w K I base N j d f cd A g s H E) [] (start N o) H J:=by
 have O:ps.length<=N.length:=by have:=congrArg List.length S.pre;rw[Ef]at this;exact Nn (Nx this.symm) (Fm _ _)
 obtain⟨G,T,rfl,L⟩:=x.done;have t:∀b:Addr,b∉(Qeu CX P w K I base N j d f cd A g s H E).ex:=fun b z=>absurd (show b∈([]:List Addr)from z) (by simp)
 refine⟨⟨m.mod,S.kind,rfl,rfl,Nw _,fun y z c G l=>?_,fun y B=>?_,fun y c _ h=>?_,fun _=>hd,Around.frames_deeper m.frames,.inr ⟨rfl,rfl⟩,fun b z=>absurd z (t b),m.bs,m.bsz,fun b _ _=>t b,fun b z=>absurd z (t b),m.funs,m.frf⟩,
  rfl,m.bare,Un.kept L,⟨_,x.toInCall.ns,fun i y v G l U=>?_⟩,fun y c h=>⟨_,x.cell y c h⟩,m.hok.fresh (Nw _),fun y c h=>?_,fun p D=>absurd (show p∈([]:List (Addr×Obj))from D) (by simp),m.hok.kept L,?_⟩
 ·exact name_of_addr x.apart (Dr G) (Dr l)
 ·have B:d.names.lookup y=some .cell\/d.names.lookup y=some .free:=B
  rcases B with B|B
  ·exact Gh B
  ·exact absurd rfl (S.nofree _ (Dr B))
 ·exact N8 (x.above y c (Dr h))
 ·have F:i<o.length:=by
   unfold start at l
   by_cases F:i<o.length
   ·exact F
   ·rw[Ew (by simpa using F)]at l;rw[Iq]at l;split at l<;>cases l
  have R:o[i]?=some v:=by
   unfold start at l;rw[N5 (by simpa using F),Nu]at l;cases e:o[i]? with
   |none=>rw[e]at l;cases l
   |some a=>rw[e]at l;cases l;rfl
  obtain⟨u,hu,M⟩:=r.get R
  have D:ps[i]?=some y:=by
   rw[<-S.pre,DV (Nl F (Nx Q))];exact G
  have C:ps.Nodup:=by rw[<-S.pre];exact S.nd.sublist (LS _ _)
  refine⟨u,M,?_⟩
  rcases S.par y (NN D)with k|k
  ·exact .inl ⟨k,Ul C D hu k⟩
  ·obtain⟨c,e⟩:=Gh (n:=s.heap.objs.size+1) k;refine .inr ⟨.inl k,c,e,?_⟩;have q:=x.cell y c e;rw[W9 C D hu (by show d.names.lookup y≠_;rw[k];decide)]at q;exact q
 ·exact m.hok.fresh (N8 (x.above y c (Dr h)))
 ·unfold start;show _=N.length;rw[NC,NB,List.length_replicate];lia
theorem QjN{CX:CXT}{P:Program}{w:World}{K:Nd}{F:Str->Option Value}{base:Heap}{k:Nat}{f:Addr}{name d:Str}{h:Arguments}{body:List Stmt}{a:Scope}{U kV D pm g ct oc:Value}{X od:Option Addr}
  {M:Array (Option Value)} {N ps:List Str} {sp:Sp} (lk:K.lookup f=some ⟨oc,od,.func (Da name d h body a U kV D pm X g ct),M⟩) (R:FI K g d=true) (S:FnScope N ps a)
  (len:∀j H Q E,sp j H Q E->j.length=ps.length)
  (p:∀(A:Around) (c:List Env) (s:Shared) (H:Hp) (j:List V) (Q:VK) (E:XK),Room k (A.deeper (envOfC d a s.heap.objs.size f g))->sp j H Q E ->
   ∃t,PSs (Qeu CX P w K F base N d a f g A c s H E) body t/\t { nx:=fun _ l=>Q .non l,rt:=Q } (start N j) H) :
  FnOk P w K F base CX (k+1) f (Da name d h body a U kV D pm X g ct) ps sp:=by
 refine⟨len,fun A c s H args Z j Q E hr C hb r B=>?_⟩;have hl:=len _ _ _ _ B;have Y:K.In s.heap:=C.mod.kin.keeps fun b o e=>(C.bs b o e).1;have O:s.heap.NoLimit:=C.mod.nolimit.keeps fun b o e=>(C.bs b o e).1
 have m:∀y∈ps.zip Z,a.names.lookup y.1=some .local\/(a.names.lookup y.1=some .cell/\((cellsFrom (s.heap.objs.size+1) a.names []).lookup y.1).isSome=true):=fun⟨n,v⟩ hy=>by
  rcases S.par n (Iz hy).1 with q|q
  ·exact .inl q
  ·exact .inr ⟨q,IH _ _ _ (.inl q)⟩
 refine codeAny_call_function hr.depth (Y _ _ lk) rfl S.co S.gen rfl (PySem.W.codeRec_of Y R) (hb _ _ _ _ ?_);refine wpAny_newFunctionEnv_cells S.kind m fun aa he T x=>?_;subst he;refine⟨O.keeps x.toInCall.keep,codeAny_func ?_⟩;obtain⟨t,ht,hq⟩:=p A c s H j Q E (hr.deeper _) B;have I:Inv (Qeu CX P w K F base N d a f g A c s H E) [] (start N j) H T:=Qb6 S hr.hd C hl r x;refine NZ (ht [] T (start N j) H _ I hq) (fun fl G z=>?_) fun e G z=>z
 have fin:∀{i:St} {l:Hp} {v:V} {u:Value},Inv (Qeu CX P w K F base N d a f g A c s H E) [] i l G->RelV v u->Q v l->CE c P w H s Q u G:=
  fun {i l v u} J L q=>⟨v,l,J.os,J.bare,J.base,J.hok,L,q⟩
 cases fl with
 |ret u=>
  obtain⟨v,i,l,J,L,q⟩:=z;exact fin J L q
 |next=>
  obtain⟨i,l,J,q⟩:=z;exact fin (v:=V.non) (u:=Value.none) J rfl q
 |brk=>
  obtain⟨_,_,_,q⟩:=z;exact False.elim q
 |cont=>
  obtain⟨_,_,_,q⟩:=z;exact False.elim q
section
variable{X:Cx}{x:Str}{p pos:Pos}{e:Expr}{es:List Expr}{t:TA}{id T:String}{r:List V->Hp->VK->Prop}
noncomputable def tCB(r:List V->Hp->VK->Prop)(t:TA):TE:=fun a H Q=>t a H fun b c=>r b c Q
theorem Qdo(v:CallR X (.builtin id) r)(q:Gl X x)(o:X.mg x=none)(m:bootBuiltins x=some (.builtin id))(w:PA X (e::es) t)(n:x≠"__name__":=by decide)(c:(x==("__debug__":Str))=false:=by decide)
  (u:starEach (e::es) X.env=(false,eval e X.env)::starEach es X.env:=by rfl) (b:(backTo pos (starEach es X.env)).any (·.1)=false:=by rfl):PE X (.Call (.Name x p) (e::es) [] pos) (tCB r t):=by
 intro a s d H Q I h;refine EB (VA I q o m ?_ n c);exact ES (thn (w pos a s d H _ I h) fun g i ⟨f,y,I1,j,l⟩=>v a i d y f g Q I1 j l) u b
theorem QbB(v:CallR X (.type T) r)(q:Gl X x)(o:X.mg x=none)(m:bootBuiltins x=some (.type T))(w:PA X (e::es) t)(n:x≠"__name__":=by decide)(c:(x==("__debug__":Str))=false:=by decide)
  (u:starEach (e::es) X.env=(false,eval e X.env)::starEach es X.env:=by rfl) (b:(backTo pos (starEach es X.env)).any (·.1)=false:=by rfl):PE X (.Call (.Name x p) (e::es) [] pos) (tCB r t):=by
 intro a s d H Q I h;refine EB (VA I q o m ?_ n c);exact Eg (thn (w pos a s d H _ I h) fun g i ⟨f,y,I1,j,l⟩=>v a i d y f g Q I1 j l) u b
end
end L2
namespace HT
open PySem PyProof.Rows
section
variable{prog:Program}{w:World}{A:Around}{E:Value->Shared->Prop}{s:Shared}
theorem cat_tup{t b:Addr}{c ws:List Value}{Q:Value->Shared->Prop}(r:IsTup s.heap t c.toArray)(u:IsTup s.heap b ws.toArray)(m:c≠[])
  (h1:ws=[]->Q (.ref t) s) (v:ws≠[]->Q (.ref s.heap.objs.size) { s with heap:=s.heap.push { cls:=.type "tuple",data:=.seq (c++ws).toArray } })
  (hsz:c.length+ws.length<=sizeLine):wpAny (model prog w) A (binaryOp .Add (.ref t) (.ref b)) Q E s:=by
 obtain⟨⟨cls,p,data,j⟩,i,o,n,hd⟩:=id r;obtain⟨⟨q,h,data2,d⟩,a,g,l,f⟩:=id u;simp only at o hd g f;subst o hd g f;have e:c.toArray++ws.toArray=(c++ws).toArray:=by simp
 by_cases hw:ws=[]
 ·exact LA ⟨_,i,rfl⟩ ⟨_,a,rfl⟩ Ih Li Fe D6 (DW _ _)
   (tuple_addW1 t b c.toArray ws.toArray n l p h j d (by simpa using m) (by simp[hw])) ⟨i,a,h1 hw⟩
 ·refine LA ⟨_,i,rfl⟩ ⟨_,a,rfl⟩ Ih Li Fe D6 (DW _ _)
   (tuple_addW2 t b c.toArray ws.toArray n l p h j d (by simpa using m) (by simpa using hw) (by rw[Nh,Nh];exact hsz)) ⟨i,a,?_⟩
  rw[e];exact v hw
noncomputable def sIx(n d:Nat):Option Int->Nat
 |none=>d
 |some v=>if v<0 then(v+(n:Int)).toNat else min v.toNat n
theorem sIx_none(n d:Nat):sIx n d none=d:=rfl
theorem sIx_nat(n d k:Nat):sIx n d (some (k:Int))=min k n:=by
 show(if(k:Int)<0 then((k:Int)+(n:Int)).toNat else min (k:Int).toNat n)=min k n;rw[if_neg (by lia),En]
theorem Qhc(n d:Nat)(hd:d<=n)(o:Option Int):sIx n d o<=n:=by
 cases o with
 |none=>exact hd
 |some v=>
  show(if v<0 then(v+(n:Int)).toNat else min v.toNat n)<=n
  by_cases a:v<0
  ·rw[if_pos a];lia
  ·rw[if_neg a];exact Fm _ _
theorem Qbu(v:Int)(n d:Nat):(if v<0 then max (v+(n:Int)) 0 else min v (n:Int))=((sIx n d (some v):Nat):Int):=by
 show(if v<0 then max (v+(n:Int)) 0 else min v (n:Int))=(((if v<0 then(v+(n:Int)).toNat else min v.toNat n):Nat):Int)
 by_cases a:v<0
 ·simp only[if_pos a];lia
 ·simp only[if_neg a];lia
theorem Qan(lo a:Option Int)(n:Nat):Builtin.Slice.sliceAdjust lo a 1 (n:Int)=(((sIx n 0 lo:Nat):Int),((sIx n n a:Nat):Int)):=by
 have b:¬((1:Int)<0):=by exact by decide
 unfold Builtin.Slice.sliceAdjust;simp only[b,if_false];refine Prod.ext ?_ ?_
 ·cases lo with
  |none=>rfl
  |some v=>exact Qbu v n 0
 ·cases a with
  |none=>rfl
  |some v=>exact Qbu v n n
theorem Qap(i j:Nat):Builtin.Slice.slicePlaces (i:Int) (j:Int) 1=j-i:=by
 unfold Builtin.Slice.slicePlaces;have a:(1:Int)>0:=by exact by decide
 simp only[a,if_true,Int.ediv_one];split<;>lia
theorem YA{v:Value}{o:Option Int}{Q:Option Int->Shared->Prop}(p:IsPart v o)(h:Q o s):wpAny (model prog w) A (Builtin.Slice.slicePartIndex v) Q E s:=by
 cases p with
 |none=>exact slicePart_none h
 |int i t=>exact slicePart_int h
theorem sliceApplied_gen{f:Addr}{e d:Value}{lo b:Option Int}{n:Nat}{Q:Int×Int×Nat->Shared->Prop}(j:s.heap.IsSliceOf f e d .none)(i:IsPart e lo)(g:IsPart d b)
  (h:Q (((sIx n 0 lo:Nat):Int),1,sIx n n b-sIx n 0 lo) s):wpAny (model prog w) A (Builtin.Slice.sliceApplied (.ref f) (pure (n:Int))) Q E s:=by
 obtain⟨os,a,l,c⟩:=id j;unfold Builtin.Slice.sliceApplied Builtin.Slice.sliceFields;refine Na (Na (EE a c (x:=e) rfl (Na (EE a c (x:=d) rfl (Na (EE a c (x:=.none) rfl (Ng ?_)))))));refine Na (slicePart_none ?_);show wpAny _ _ (if((1:Int)==0)=true then _ else _) _ _ s;rw[if_neg (by decide)];refine Na (YA i (Na (YA g (Na (Ng ?_)))));show wpAny _ _ (match Builtin.Slice.sliceAdjust lo b 1 (n:Int)with|(lo,b)=>pure (lo,(1:Int),Builtin.Slice.slicePlaces lo b 1)) _ _ s;rw[Qan lo b n];show wpAny _ _ (pure (((sIx n 0 lo:Nat):Int),(1:Int),Builtin.Slice.slicePlaces ((sIx n 0 lo:Nat):Int) ((sIx n n b:Nat):Int) 1)) _ _ s;rw[Qap];exact Ng h
theorem Qdi(xs:Array Value)(i k:Nat):((List.range k).filterMap fun(m:Nat)=>xs[((i:Int)+(m:Int)*1).toNat]?).toArray=((xs.toList.drop i).take k).toArray:=by
 have e:(fun(m:Nat)=>xs[((i:Int)+(m:Int)*1).toNat]?)=fun m=>xs[i+m]?:=by
  funext m;have:((i:Int)+(m:Int)*1).toNat=i+m:=by lia
  rw[this]
 rw[e];have:=pick_run xs i k;rw[List.filterMap_map]at this;have e2:((fun x=>xs[x]?)∘fun x=>i+x)=fun m=>xs[i+m]?:=rfl;rw[e2]at this;rw[this]
theorem getItem_tuple_cut{t d:Addr}{items:Array Value}{l j:Value}{lo b:Option Int}{Q:Value->Shared->Prop}(c:IsTup s.heap t items)(n:s.heap.IsSliceOf d l j .none)(r:IsPart l lo)(p:IsPart j b)
  (hw:¬(sIx items.size 0 lo=0/\sIx items.size items.size b=items.size))
  (h:Q (.ref s.heap.objs.size) { s with heap:=s.heap.push { cls:=.type "tuple",data:=.seq ((items.toList.drop (sIx items.size 0 lo)).take (sIx items.size items.size b-sIx items.size 0 lo)).toArray } })
  (hsz:items.size<=sizeLine):wpAny (model prog w) A (getItem (.ref t) (.ref d)) Q E s:=by
 have a:sizeOk (.seq ((items.toList.drop (sIx items.size 0 lo)).take (sIx items.size items.size b-sIx items.size 0 lo)).toArray):=by
  show((items.toList.drop (sIx items.size 0 lo)).take (sIx items.size items.size b-sIx items.size 0 lo)).toArray.size<=sizeLine;rw[Nh,Ef,Fo,NA];exact Nn (Nn (Fm _ _) (Fv _ _)) hsz
 have u:sIx items.size items.size b<=items.size:=Qhc _ _ (Nw _) b;obtain⟨os,e,g,v⟩:=id n;have i:s.TypeIs (.ref d) "slice":=⟨os,e,g⟩
 unfold getItem
 try with_reducible refine N6 ?_
 first|refine Na (Ng ?_)|skip
 refine Na (LU c.typeIs (by decide) ?_)
 refine Na (Ej (name:=Str.ofString "__getitem__") c.typeIs N0
  (Eb N0 c.typeIs Lo ?_ (LB _ _)))
 show wpAny _ _ (Builtin.Tuple.tupleItemsOf (.ref t)>>=_) _ _ s;refine Na (tupleItemsOf_ c ?_);refine Na (Fw i ?_);rw[if_pos (by decide)];refine Na (sliceApplied_gen n r p ?_)
 have f:¬((((sIx items.size 0 lo:Nat):Int)==0&&(1:Int)==1&&(sIx items.size items.size b-sIx items.size 0 lo)==items.size)=true):=by
  intro q;rw[NH,NH]at q;have x:((sIx items.size 0 lo:Nat):Int)=0:=Dk q.1.1;have o:sIx items.size items.size b-sIx items.size 0 lo=items.size:=Dk q.2;exact hw ⟨by lia,by exact Fx u (Nn (Nx o.symm) (Fv _ _))⟩
 show wpAny _ _ (if(((sIx items.size 0 lo:Nat):Int)==0&&(1:Int)==1&&(sIx items.size items.size b-sIx items.size 0 lo)==items.size)=true then _ else _) _ _ s;rw[if_neg f,Qdi]
 first
  |exact Na (m:=Builtin.Tuple.tupleExact _) (NY (Ng ⟨_,rfl,Ng h⟩) a)
  |exact Na (m:=Builtin.Tuple.tupleExact _) (NY (Na (Ng (Ng ⟨_,rfl,Ng h⟩))) a)
  |exact Na (Na (m:=Builtin.Tuple.tupleExact _) (NY (Ng (Ng ⟨_,rfl,Ng h⟩)) a))
  |exact Na (Na (m:=Builtin.Tuple.tupleExact _) (NY (Ng ⟨_,rfl,Ng h⟩) a))
end
end HT
namespace L2
noncomputable abbrev TO:=St->Hp->(Option Int->Hp->Prop)->Prop
def PO(X:Cx)(e:Option Expr)(t:TO):Prop:=
 ∀(a:List (Addr×Obj)) (s:Shared) (b:St) (H:Hp) (Q:Option Int->Hp->Prop),Inv X a b H s->t b H Q ->
  wpAny (model X.prog X.w) X.A (evalPart e X.env) (fun u d=>∃o c,Inv X a b c d/\IsPart u o/\Q o c) X.xe s
noncomputable def QgG:TO:=fun _ H Q=>Q none H
noncomputable def Qkk(t:TE):TO:=fun a H Q=>t a H fun x b=>∃i,x=.int i/\Q (some i) b
section
variable{X:Cx}{e:Expr}{te:TE}{lo hi:Option Expr}{tl th:TO}{pos p2:Pos}
theorem Qgs:PO X none QgG:=by
 intro a s b H Q I h;rw[evalPart_none];exact Ng ⟨none,H,I,.none,h⟩
theorem QeP(h:PE X e te):PO X (some e) (Qkk te):=by
 intro a s b H Q I hw;rw[evalPart_some];refine thn (h a s b H _ I hw) fun u g ⟨x,f,I1,c,d⟩=>?_;obtain⟨i,rfl,q⟩:=d;obtain⟨t,rfl⟩:=c;exact⟨some i,f,I1,.int i t,q⟩
def SlR(X:Cx)(r:V->Option Int->Option Int->Hp->VK->Prop):Prop:=
 ∀(a:List (Addr×Obj)) (s:Shared) (b:St) (H:Hp) (x:V) (v d c:Value) (lo hi:Option Int) (f:Addr) (Q:VK),Inv X a b H s->RelV x v->s.heap.IsSliceOf f d c .none->IsPart d lo->IsPart c hi->r x lo hi H Q ->
  ∃T id,typeLookup (.type T) "__getitem__"=pure (some (.builtin id))/\s.TypeIs v T/\wpAny (model X.prog X.w) X.A (getItem v (.ref f)) (EP X a b Q) X.xe s
theorem SlR.or{r i:V->Option Int->Option Int->Hp->VK->Prop}(h:SlR X r)(h':SlR X i):SlR X (fun x lo hi H Q=>r x lo hi H Q\/i x lo hi H Q):=by
 intro a s b H x v d c lo hi f Q I g m l j q
 rcases q with q|q
 ·exact h a s b H x v d c lo hi f Q I g m l j q
 ·exact h' a s b H x v d c lo hi f Q I g m l j q
noncomputable def tSl(r:V->Option Int->Option Int->Hp->VK->Prop)(te:TE)(tl th:TO):TE:=fun a H Q=>te a H fun x d=>tl a d fun l c=>th a c fun u b=>r x l u b Q
theorem Qc6{r:V->Option Int->Option Int->Hp->VK->Prop}(hr:SlR X r)(E:PE X e te)(C:PO X lo tl)(hu:PO X hi th):PE X (.Subscript e (.Slice lo hi none p2) pos) (tSl r te tl th):=by
 intro a s d H Q I h;refine Os (thn (E a s d H _ I h) fun v j ⟨x,J,I1,m,p⟩=>?_);refine wpAny_Slice (thn (C a j d J _ I1 p) fun f i ⟨l,G,I2,y,o⟩=>thn (hu a i d G _ I2 o) fun vu c ⟨u,g,I3,t,n⟩=>?_);rw[evalPart_none];refine Ng ?_;have I4:Inv X a d g { c with heap:=c.heap.push { cls:=.type "slice",data:=.fields #[f,vu,.none] } }:=I3.kept (t':=c.toks) fun b ob q=>Ni _ q;obtain⟨T,id,F,B,D⟩:=hr a { c with heap:=c.heap.push { cls:=.type "slice",data:=.fields #[f,vu,.none] } } d g x v f vu l u c.heap.objs.size Q I4 m (OQ ..) y t n;show wpAny (model X.prog X.w) X.A (subscriptTail e (.Slice lo hi none p2) v (.ref c.heap.objs.size)) (EP X a d Q) X.xe { c with heap:=c.heap.push { cls:=.type "slice",data:=.fields #[f,vu,.none] } };exact tail_any (ops:=[.ref c.heap.objs.size,v]) B F D (by with_unfolding_all rfl)
noncomputable def Qc2(xs:List V)(lo hi:Option Int):List V:=(xs.drop (HT.sIx xs.length 0 lo)).take (HT.sIx xs.length xs.length hi-HT.sIx xs.length 0 lo)
theorem KC(xs:List V)(lo hi:Option Int):(Qc2 xs lo hi).length<=xs.length:=by
 unfold Qc2;rw[Ef,Fo];exact Nn (Fm _ _) (Fv _ _)
noncomputable def Qmk(K:Nd):V->Option Int->Option Int->Hp->VK->Prop:=fun x lo hi H Q=>∃a b,x=.ref a/\SqT K H a b /\
 ¬(HT.sIx b.length 0 lo=0/\HT.sIx b.length b.length hi=b.length)/\∀p,H p=none->Q (.ref p) (upd H p (.tup (Qc2 b lo hi)))
theorem QiA:SlR X (Qmk X.K):=by
 intro g s u H x v y w lo hi A Q I l t n m h;obtain⟨a,d,rfl,p,hw,q⟩:=h;cases l;obtain⟨f,r,j,i⟩:=I.tuple p;have c:f.toArray.size=d.length:=by rw[Nh];exact r.length.symm
 refine⟨"tuple",_,N0.lookup,j.typeIs,?_⟩;refine HT.getItem_tuple_cut j t n m (by rw[c];exact hw) ?_ (by rw[c];exact i);rw[c];refine⟨.ref s.heap.objs.size,_,I.laid (t':=s.toks) (o:=.tup (Qc2 d lo hi)) (fun b ob q=>Ni _ q) (Nw _) ?_,rfl,q _ (I.hok.fresh (Nw _))⟩;exact⟨Nn (KC d lo hi) i,_,(r.drop (HT.sIx d.length 0 lo)).take (HT.sIx d.length d.length hi-HT.sIx d.length 0 lo),OC _ _⟩
noncomputable def Qjk(K:Nd):R2:=fun x y H Q=>∃a b d c,x=.ref a/\y=.ref b/\SqT K H a d/\SqT K H b c/\d≠[]/\d.length+c.length<=sizeLine /\
 (c=[]->Q (.ref a) H)/\(c≠[]->∀p,H p=none->Q (.ref p) (upd H p (.tup (d++c))))
theorem Vals.nil_iff{xs:List V}{us:List Value}(r:Vals xs us):us=[]↔xs=[]:=by
 cases r with
 |nil=>simp
 |cons _ _=>simp
theorem QgI:OpR X (binaryOp .Add) (Qjk X.K):=by
 intro f s E H x y v u Q I n m h;obtain⟨a,b,l,j,rfl,rfl,D,C,B,i,r,p⟩:=h;cases n;cases m;obtain⟨A,d,t,_⟩:=I.tuple D;obtain⟨g,c,p2,_⟩:=I.tuple C;refine HT.cat_tup t p2 (fun z=>B (d.nil_iff.mp z)) (fun z=>⟨.ref a,H,I,rfl,r (c.nil_iff.mp z)⟩) (fun z=>?_) (by rw[<-d.length,<-c.length];exact i);refine⟨.ref s.heap.objs.size,_,I.laid (t':=s.toks) (o:=.tup (l++j)) (fun b ob q=>Ni _ q) (Nw _) ?_,rfl,p (fun w=>z (c.nil_iff.mpr w)) _ (I.hok.fresh (Nw _))⟩;exact⟨by rw[NC];exact i,_,d.append c,OC _ _⟩
end
noncomputable def ixN(n:Nat)(i:Int):Option Nat:=if 0<=i then(if i<n then some i.toNat else none)else if -(n:Int)<=i then some (i+n).toNat else none
noncomputable def atI{a:Type}(xs:List a)(i:Int):Option a:=(ixN xs.length i).bind fun j=>xs[j]?
theorem Qa7{n:Nat}{i:Int}{j:Nat}(h:ixN n i=some j):seqIndex? i n=some j/\j<n/\-(n:Int)<=i/\i<n:=by
 unfold ixN at h
 by_cases b:0<=i
 ·rw[if_pos b]at h
  by_cases a:i<n
  ·rw[if_pos a]at h;have e:i.toNat=j:=Ed h;exact⟨by rw[Oa b a,e],by lia,by lia,a⟩
  ·rw[if_neg a]at h;cases h
 ·rw[if_neg b]at h
  by_cases a:-(n:Int)<=i
  ·rw[if_pos a]at h;have e:(i+n).toNat=j:=Ed h;exact⟨by rw[LC (F7.mp b) a,e],by lia,a,by lia⟩
  ·rw[if_neg a]at h;cases h
theorem Gc{a:Type}{xs:List a}{i:Int}{v:a}(h:atI xs i=some v):∃j,seqIndex? i xs.length=some j/\xs[j]?=some v/\j<xs.length/\-(xs.length:Int)<=i/\i<xs.length:=by
 unfold atI at h;cases e:ixN xs.length i with
 |none=>rw[e]at h;cases h
 |some j=>
  rw[e]at h;obtain⟨f,d,c,b⟩:=Qa7 e;exact⟨j,f,h,d,c,b⟩
theorem Qfc{a:Type}{xs:List a}{j:Nat}{v:a}(h:xs[j]?=some v):atI xs (j:Int)=some v:=by
 have b:j<xs.length:=(Nj.mp h).1
 have e:ixN xs.length (j:Int)=some j:=by
  unfold ixN;rw[if_pos (by lia),if_pos (by lia)];simp
 unfold atI;rw[e];exact h
def Wv(b:Expr):Prop:=∀o i,subscripted b false o i=operate [o,i] (getItem o i)
def IxR(X:Cx)(r:R2):Prop:=
 ∀(value slice:Expr) (a:List (Addr×Obj)) (s:Shared) (b:St) (H:Hp) (x y:V) (v u:Value) (Q:VK),Inv X a b H s->RelV x v->RelV y u->r x y H Q ->
  subscripted slice false v u=operate [v,u] (getItem v u)->wpAny (model X.prog X.w) X.A (subscriptTail value slice v u) (EP X a b Q) X.xe s
def MtR(X:Cx)(id:String)(r:V->List V->Hp->VK->Prop):Prop:=
 ∀(a:List (Addr×Obj)) (s:Shared) (b:St) (H:Hp) (x:V) (c:List V) (v:Value) (d:List Value) (Q:VK),Inv X a b H s->RelV x v->Vals c d->r x c H Q ->
  wpAny (model X.prog X.w) X.A (call (.builtin id) (v::d)) (EP X a b Q) X.xe s
section
variable{X:Cx}{a b:Expr}{ta tb:TE}{pos:Pos}
theorem IxR.or{r g:R2}(h:IxR X r)(h':IxR X g):IxR X (fun x y H Q=>r x y H Q\/g x y H Q):=by
 intro value slice c s d H x y v u Q I f e q i
 rcases q with q|q
 ·exact h value slice c s d H x y v u Q I f e q i
 ·exact h' value slice c s d H x y v u Q I f e q i
theorem QiF{r:R2}(hr:IxR X r)(l:PE X a ta)(j:PE X b tb)(i:Wv b):PE X (.Subscript a b pos) (tOp r ta tb):=by
 intro c s d H Q I h;exact Os (Qjx l j I h fun v u e x y m I2 g f q=>hr a b c e d m x y v u Q I2 g f q (i _ _))
noncomputable def Qkv(K:Nd):R2:=fun x y H Q=>∃p c i v,x=.ref p/\y=.int i/\SqL K H p c/\atI c i=some v/\Q v H
noncomputable def Qkr(K:Nd):R2:=fun x y H Q=>∃p c i v,x=.ref p/\y=.int i/\SqT K H p c/\atI c i=some v/\Q v H
noncomputable def Qla:R2:=fun x y H Q=>∃z i c,x=.str z/\y=.int i/\z.length<=sizeLine/\atI z.cps.toList i=some c/\Q (.str ⟨#[c]⟩) H
theorem ix_list:IxR X (Qkv X.K):=by
 intro value slice c s n H x y v u Q I D C h o;obtain⟨p,N,i,z,rfl,rfl,E,G,q⟩:=h;cases D;obtain⟨t,rfl⟩:=C;obtain⟨l,r,g,O⟩:=I.list E;obtain⟨j,d,M,R,L,J⟩:=Gc G;obtain⟨w,A,f⟩:=r.get M;have F:=r.length;have P:=K3;have fin:EP X c n Q w s:=⟨z,H,I,f,q⟩
 by_cases e:0<=i
 ·have m:i.toNat=j:=by
   rw[Oa e J]at d;exact Ed d
  exact item_listR g.isList e (by lia) (by rw[m];simpa using A) fin o
 ·have m:(i+(l.toArray.size:Int)).toNat=j:=by
   rw[LC (F7.mp e) L]at d;rw[Nh,<-F];exact Ed d
  exact II (x:=w) g.isList.typeIs LV.lookup
   (wpAny_getItem_list_neg (Q:=fun r B=>r=w/\EP X c n Q r B) g.isList (F7.mp e) (by rw[Nh]<;>lia) (by lia) (by rw[m];simpa using A) ⟨rfl,fin⟩) o
theorem ix_tup:IxR X (Qkr X.K):=by
 intro value slice c s e H x y v u Q I m l h o;obtain⟨p,G,i,z,rfl,rfl,A,C,q⟩:=h;cases m;obtain⟨t,rfl⟩:=l;obtain⟨n,r,f,J⟩:=I.tuple A;obtain⟨j,E,D,O,N,M⟩:=Gc C;obtain⟨w,F,d⟩:=r.get D;have B:=r.length;have L:=K3;have fin:EP X c e Q w s:=⟨z,H,I,d,q⟩
 exact II (x:=w) f.typeIs N0.lookup
  (getItem_tuple (j:=j) (Q:=fun r g=>r=w/\EP X c e Q r g) f (by lia) (by lia) (by rw[Nh,<-B];exact E) (by simpa using F) ⟨rfl,fin⟩) o
theorem QhS:IxR X Qla:=by
 intro value slice d s w H x y v u Q I g f h l;obtain⟨z,i,c,rfl,rfl,B,n,q⟩:=h;obtain⟨t,rfl⟩:=g;obtain⟨A,rfl⟩:=f;obtain⟨j,e,r,D,p,o⟩:=Gc n;have m:z.cps.toList.length=z.length:=by simp[Str.length]
 rw[m]at e p o;have C:=K3
 exact tail_any (Ot s z t) slot_str_getitem.lookup (getItem_str (c:=c) (by
  have e1:decide (i < -(2^63:Int))=false:=decide_eq_false (by lia);have e2:decide (i >= 2^63)=false:=decide_eq_false (by lia)
  rw[e1,e2,OF]) (by rw[e];simpa using r) ⟨.str ⟨#[c]⟩,H,I.tok _,⟨_,rfl⟩,q⟩) l
noncomputable def rIx(K:Nd):R2:=fun x y H Q=>Qkv K x y H Q\/Qkr K x y H Q\/Qla x y H Q
theorem QiD:IxR X (rIx X.K):=ix_list.or (ix_tup.or QhS)
theorem QaH(c:List Value)(n j:Nat)(u:Value):Obj.mapSeq (·.setIfInBounds j u) { cls:=.type "list",data:=.seq c.toArray n }={ cls:=.type "list",data:=.seq (c.set j u).toArray n }:=by
 simp[Obj.mapSeq]
theorem Inv.lst{d:List (Addr×Obj)}{σ:St}{H:Hp}{s:Shared}{p:Addr}{xs:List V}(I:Inv X d σ H s)(h:H p=some (.lst xs)) :
  ∃(c:List Value) (n:Nat),Vals xs c/\s.heap.get? p=some { cls:=.type "list",data:=.seq c.toArray n }/\xs.length<=sizeLine:=by
 obtain⟨z,c,n,r,e⟩:=I.hok p _ h;exact⟨c,n,r,e,z⟩
theorem Inv.lstUpd{c:List (Addr×Obj)}{σ:St}{H:Hp}{s:Shared}{p:Addr}{xs g:List V}{d its':List Value}{n i:Nat}{f:Obj->Obj}(I:Inv X c σ H s)(h:H p=some (.lst xs))
  (l:s.heap.get? p=some { cls:=.type "list",data:=.seq d.toArray n }) (j:f { cls:=.type "list",data:=.seq d.toArray n }={ cls:=.type "list",data:=.seq its'.toArray i }) (r:Vals g its') (hz:g.length<=sizeLine) (t:Nat) :
  Inv X c σ (upd H p (.lst g)) { s with heap:=s.heap.update p f,toks:=t }:=by
 have e:(s.heap.update p f).get? p=some { cls:=.type "list",data:=.seq its'.toArray i }:=by
  rw[Ea f l (by rw[j]<;>rfl),j]
 refine I.write (x:=p) (e:=p) (by rw[h];trivial) (.inl rfl) (fun b u m q=>(EF _ _ (Dl m)).trans q) ⟨_,e⟩ ?_;exact⟨hz,its',i,r,e⟩
noncomputable def Qh7:V->V->V->Hp->(Hp->Prop)->Prop:=fun o i v H Q=>∃p c k j,o=.ref p/\i=.int k/\H p=some (.lst c)/\ixN c.length k=some j/\Q (upd H p (.lst (c.set j v)))
theorem set_list:QkA X Qh7:=by
 intro c s A H o i v J L u Q I D E C h;obtain⟨p,B,k,j,rfl,rfl,w,G,q⟩:=h;cases D;obtain⟨t,rfl⟩:=E;obtain⟨d,n,r,g,F⟩:=I.lst w;obtain⟨e,N,y,x⟩:=Qa7 G;have l:=r.length;have M:=K3
 have z:Inv X c A (upd H p (.lst (B.set j v))) { s with heap:=s.heap.update p (Obj.mapSeq (·.setIfInBounds j u)) }:=
  I.lstUpd w g (QaH d n j u) (r.set C j) (by rw[Dc];exact F) s.toks
 by_cases f:0<=k
 ·have m:k.toNat=j:=by
   rw[Oa f x]at e;exact Ed e
  exact PySem.W.ki_setAt g f (by lia) (by rw[Nh,<-l];exact x) (by rw[m];exact⟨_,z,q⟩)
 ·have m:(k+(d.toArray.size:Int)).toNat=j:=by
   rw[LC (F7.mp f) y]at e;rw[Nh,<-l];exact Ed e
  exact PySem.W.ki_setBack g (F7.mp f) (by rw[Nh,<-l];exact y) (by lia) (by rw[m];exact⟨_,z,q⟩)
theorem WN(lo c:Option Int)(n:Nat):(sliceBounds lo c none n).1=((HT.sIx n 0 lo:Nat):Int)/\(sliceBounds lo c none n).2.1=((HT.sIx n n c:Nat):Int)/\(sliceBounds lo c none n).2.2=1:=by
 refine⟨?_,?_,rfl⟩
 ·cases lo with
  |none=>simp[sliceBounds,HT.sIx]
  |some i=>
   simp only[sliceBounds,HT.sIx,Of,show(1:Int)>0 by decide,if_true]
   by_cases h:i<0
   ·simp only[h,if_true]<;>lia
   ·simp only[h,if_false]<;>lia
 ·cases c with
  |none=>simp[sliceBounds,HT.sIx]
  |some i=>
   simp only[sliceBounds,HT.sIx,Of,show(1:Int)>0 by decide,if_true]
   by_cases h:i<0
   ·simp only[h,if_true]<;>omega
   ·simp only[h,if_false]<;>omega
theorem Y1(c:List Value)(lo d:Option Int):slicePick c.toArray lo d none=((c.drop (HT.sIx c.length 0 lo)).take (HT.sIx c.length c.length d-HT.sIx c.length 0 lo)).toArray:=by
 obtain⟨g,f,e⟩:=WN lo d c.toArray.size;unfold slicePick;rw[g,f,e];simp only[sliceRange_one,pick_run,Nh]<;>rfl
noncomputable def Ql9(K:Nd):V->Option Int->Option Int->Hp->VK->Prop:=fun x lo d H Q=>∃a c,x=.ref a/\SqL K H a c/\∀p,H p=none->Q (.ref p) (upd H p (.lst (Qc2 c lo d)))
theorem sl_list:SlR X (Ql9 X.K):=by
 intro f s u H x v y w lo e A Q I j t m l h;obtain⟨a,d,rfl,p,q⟩:=h;cases j;obtain⟨n,r,i,g⟩:=I.list p;have c:=r.length;refine⟨"list",_,LV.lookup,i.isList.typeIs,?_⟩;refine wpAny_getItem_list_slice i.isList t m l .none (by simp) ?_ (by rw[Nh]<;>exact Nn (Nx c.symm) g);rw[Y1,<-c];refine⟨.ref s.heap.objs.size,_,I.laid (t':=s.toks) (o:=.lst (Qc2 d lo e)) (fun b ob q=>Ni _ q) (Nw _) ?_,rfl,q _ (I.hok.fresh (Nw _))⟩;exact⟨Nn (KC d lo e) g,_,0,(r.drop (HT.sIx d.length 0 lo)).take (HT.sIx d.length d.length e-HT.sIx d.length 0 lo),Ny _ rfl⟩
noncomputable def Qe6:V->Bool
 |.non=>true
 |.bl _=>true
 |.int _=>true
 |.str _=>true
 |_=>false
noncomputable def eqV:V->V->Bool
 |.non,.non=>true
 |.bl a,.bl b=>a==b
 |.bl a,.int b=>(if a then 1 else 0)==b
 |.int a,.bl b=>a==(if b then 1 else 0)
 |.int a,.int b=>a==b
 |.str a,.str b=>a==b
 |_,_=>false
theorem Qio{A:Around}{s:Shared}{y x:V}{u v:Value}(e:RelV y u)(c:RelV x v)(g:Qe6 y=true)(f:Qe6 x=true):SeqAt.EqAt A s u v (eqV y x):=by
 cases y with
 |non=>
  cases e;cases x with
  |non=>cases c;exact SeqAt.EqAt.same _
  |bl b=>cases c;exact SeqAt.EqAt.none_bool b
  |int b=>obtain⟨t,rfl⟩:=c;exact SeqAt.EqAt.none_int b t
  |str b=>obtain⟨t,rfl⟩:=c;exact SeqAt.EqAt.none_str b t
  |_=>exact absurd (show false=true from f) N9
 |bl a=>
  cases e;cases x with
  |non=>cases c;exact SeqAt.EqAt.bool_none a
  |bl b=>cases c;exact SeqAt.EqAt.bool_bool a b
  |int b=>obtain⟨t,rfl⟩:=c;exact SeqAt.EqAt.bool_int a b t
  |str b=>obtain⟨t,rfl⟩:=c;exact SeqAt.EqAt.bool_str a b t
  |_=>exact absurd (show false=true from f) N9
 |int a=>
  obtain⟨d,rfl⟩:=e;cases x with
  |non=>cases c;exact SeqAt.EqAt.int_none a d
  |bl b=>cases c;exact SeqAt.EqAt.int_bool a d b
  |int b=>obtain⟨t,rfl⟩:=c;exact SeqAt.EqAt.int_int a d b t
  |str b=>obtain⟨t,rfl⟩:=c;exact Lv a d b t
  |_=>exact absurd (show false=true from f) N9
 |str a=>
  obtain⟨d,rfl⟩:=e;cases x with
  |non=>cases c;exact SeqAt.EqAt.str_none a d
  |bl b=>cases c;exact SeqAt.EqAt.str_bool a d b
  |int b=>obtain⟨t,rfl⟩:=c;exact Lw a d b t
  |str b=>obtain⟨t,rfl⟩:=c;exact SeqAt.EqAt.str_str a d b t
  |_=>exact absurd (show false=true from f) N9
 |_=>exact absurd (show false=true from g) N9
theorem call_len_seq:CallR X (.builtin "len") (fun xs H Q=>∃p d,xs=[.ref p]/\(SqL X.K H p d\/SqT X.K H p d)/\Q (.int d.length) H):=by
 intro j s n H xs o Q I r h;obtain⟨p,d,rfl,e,q⟩:=h;obtain⟨u,rfl,l⟩:=UN r;cases l;have t:=K3
 rcases e with e|e
 ·obtain⟨i,f,g,m⟩:=I.list e;have c:=f.length;exact Calls.call_len_list g.isList (by simp only[Nh]<;>lia) ⟨.int d.length,H,I.tok _,⟨s.toks+1,by rw[Nh,c]⟩,q⟩
 ·obtain⟨i,f,g,m⟩:=I.tuple e;have c:=f.length;exact len_tuple g (by simp only[Nh]<;>omega) ⟨.int d.length,H,I.tok _,⟨s.toks+1,by rw[Nh,c]⟩,q⟩
theorem WY:CallR X (.builtin "len") (fun xs H Q=>∃z,xs=[.str z]/\z.length<=sizeLine/\Q (.int z.length) H):=by
 intro c s d H xs e Q I r h;obtain⟨z,rfl,f,q⟩:=h;obtain⟨u,rfl,t,rfl⟩:=UN r;have g:=K3;exact len_str (by lia) ⟨.int z.length,H,I.tok _,⟨_,rfl⟩,q⟩
theorem CallR.or{f:Value}{r i:List V->Hp->VK->Prop}(h:CallR X f r)(h':CallR X f i):CallR X f (fun xs H Q=>r xs H Q\/i xs H Q):=by
 intro c s d H xs e Q I g q
 rcases q with q|q
 ·exact h c s d H xs e Q I g q
 ·exact h' c s d H xs e Q I g q
theorem Uc:CallR X (.type "list") (fun xs H Q=>∃p g,xs=[.ref p]/\(SqL X.K H p g\/SqT X.K H p g)/\∀l,H l=none->Q (.ref l) (upd H l (.lst g))):=by
 intro t s C H xs E Q I r h;obtain⟨p,g,rfl,x,q⟩:=h;obtain⟨u,rfl,D⟩:=UN r;cases D
 have fin:∀(c:List Value),Vals g c->g.length<=sizeLine->∀(f:Heap) (m:Nat),(∀b B,s.heap.get? b=some B->f.get? b=some B) ->
   f.get? s.heap.objs.size=some { cls:=.type "list",dict:=none,data:=.seq c.toArray m,slots:=#[] }->EP X t C Q (.ref s.heap.objs.size) { s with heap:=f }:=fun c i j f m v e=>
  ⟨.ref s.heap.objs.size,_,I.laid (t':=s.toks) v (Nw _) (show ObjOk X.prog X.w _ f _ (.lst g)from⟨j,c,m,i,e⟩),rfl,q _ (I.hok.fresh (Nw _))⟩
 rcases x with x|x
 ·obtain⟨c,i,y,j⟩:=I.list x;have d:=i.length;obtain⟨o,z,A,n,hd⟩:=y.isList;exact call_list_seq p (.inl rfl) z A hd (fun f m v e=>fin c i j f m v e) (by simp only[Nh]<;>exact Nn (Nx d.symm) j)
 ·obtain⟨c,i,y,j⟩:=I.tuple x;have d:=i.length;obtain⟨o,z,A,n,hd⟩:=y;exact call_list_seq p (.inr rfl) z A hd (fun f m v e=>fin c i j f m v e) (by simp only[Nh]<;>exact Nn (Nx d.symm) j)
theorem YT:CallR X (.type "tuple") (fun xs H Q=>∃p f,xs=[.ref p]/\((SqL X.K H p f/\∀l,H l=none->Q (.ref l) (upd H l (.tup f)))\/(SqT X.K H p f/\Q (.ref p) H))):=by
 intro c s v H xs A Q I r h;obtain⟨p,f,rfl,h⟩:=h;obtain⟨u,rfl,y⟩:=UN r;cases y
 rcases h with⟨t,q⟩|⟨t,q⟩
 ·obtain⟨d,j,m,n⟩:=I.list t;have g:=j.length;refine call_tuple_list m.isList (fun i z=>?_) (by simp only[Nh]<;>exact Nn (Nx g.symm) n);have I1:Inv X c v H { s with heap:=i }:=I.kept (t':=s.toks) z
  have I2:Inv X c v (upd H i.objs.size (.tup f)) { s with heap:=i.push { cls:=.type "tuple",data:=.seq d.toArray } }:=
   I1.laid (t':=s.toks) (fun b o e=>Ni _ e) (Nw _) (show ObjOk X.prog X.w _ _ _ (.tup f)from⟨n,d,j,OC _ _⟩)
  exact⟨.ref i.objs.size,_,I2,rfl,q _ (I1.hok.fresh (Nw _))⟩
 ·obtain⟨d,j,m,n⟩:=I.tuple t;exact call_tuple_same m ⟨.ref p,H,I,rfl,q⟩
def tyV(K:Nd)(T:String)(x:V)(H:Hp):Prop:=match x with
 |.str _=>T="str"
 |.int _=>T="int"
 | .ref p=>(T="list"/\∃c,SqL K H p c)\/(T="tuple"/\∃o,K.lookup p=some o/\o.cls=.type "tuple"/\o.dict=none) \/
   (T="dict"/\((∃kvs,H p=some (.dK kvs))\/∃kvs,H p=some (.dT kvs)))\/(T="set"/\∃S n,H p=some (.set S n))
 |_=>False
theorem Qem{g:List (Addr×Obj)}{σ:St}{H:Hp}{s:Shared}{T:String}{x:V}{v:Value}(I:Inv X g σ H s)(r:RelV x v)(ty:tyV X.K T x H) :
  s.TypeIs v T/\∀a,v=.ref a->∃ob,s.heap.get? a=some ob/\ob.dict=none:=by
 cases x with
 |str z=>
  obtain⟨t,rfl⟩:=r;cases(show T="str"from ty);exact⟨Ot s z t,fun _ e=>nomatch e⟩
 |int i=>
  obtain⟨t,rfl⟩:=r;cases(show T="int"from ty);exact⟨D4 s i t,fun _ e=>nomatch e⟩
 | ref p=>
  cases r
  rcases ty with⟨rfl,q,l⟩|⟨rfl,o,d,m,hd⟩|⟨rfl,d⟩|⟨rfl,S,n,d⟩
  ·obtain⟨j,_,h,_⟩:=I.list l;refine⟨h.isList.typeIs,fun a e=>?_⟩;cases e;obtain⟨o,n,e,c,hd,_⟩:=h;exact⟨o,e,hd⟩
  ·refine⟨⟨o,I.kIn p o d,m⟩,fun a e=>?_⟩;cases e;exact⟨o,I.kIn _ o d,hd⟩
  ·have z:∃o,s.heap.get? p=some o/\o.ExactDict:=by
    rcases d with⟨kvs,d⟩|⟨kvs,d⟩
    ·obtain⟨_,_,_,_,o,_,_,e,f,_⟩:=I.hok p _ d;exact⟨o,e,f⟩
    ·obtain⟨_,_,_,_,o,_,_,e,f,_⟩:=I.hok p _ d;exact⟨o,e,f⟩
   obtain⟨o,e,f⟩:=z;refine⟨⟨o,e,f.1⟩,fun a e2=>?_⟩;cases e2;exact⟨o,e,f.2.1⟩
  ·obtain⟨o,_,_,_,e,f,_⟩:=I.hok p _ d;refine⟨⟨o,e,f.1⟩,fun a e2=>?_⟩;cases e2;exact⟨o,e,f.2.1⟩
 |_=>exact False.elim ty
noncomputable def QmA(K:Nd)(T:String)(r:V->List V->Hp->VK->Prop)(e:TE):TE:=fun d H Q=>e d H fun x c=>tyV K T x c/\r x [] c Q
noncomputable def tBM(K:Nd)(T:String)(r:V->List V->Hp->VK->Prop)(f:TE)(t:TA):TE:=fun c H Q=>f c H fun x d=>tyV K T x d/\t c d fun e g=>r x e g Q
variable{o e:Expr}{es:List Expr}{to:TE}{t:TA}{name:Str}{apos cpos:Pos}{T id:String}{r:V->List V->Hp->VK->Prop}
theorem Qil(n:PlainAttrs T)(slot:Slot T name id)(g:typeOf (.builtin id)=pure (.type "method_descriptor"))(q:MtR X id r)(p:PE X o to)
  (f:attributeBase o name X.env (eval o X.env)=eval o X.env:=by rfl) (d:(apos.endLine==cpos.line)=true:=by rfl):PE X (.Call (.Attribute o name apos) [] [] cpos) (QmA X.K T r to):=by
 intro c s i H Q I h;refine wpAny_Call_method0_late f d (thn (p c s i H _ I h) fun v l ⟨x,y,I1,j,ty,m⟩=>?_);obtain⟨w,u⟩:=Qem I1 j ty;exact⟨T,id,n,slot,g,w,u,IJ rfl (PySem.evalArgs_none (q c l i y x [] v [] Q I1 j .nil m))⟩
theorem Qjg(B:PlainAttrs T)(slot:Slot T name id)(l:typeOf (.builtin id)=pure (.type "method_descriptor"))(E:MtR X id r)(D:PE X o to)(F:PA X (e::es) t)
  (g:attributeBase o name X.env (eval o X.env)=eval o X.env:=by rfl)
  (i:((backTo cpos (starEach (e::es) X.env)).all (fun x=>!x.1)&&(backToKw cpos (keywordEach [] X.env)).all (fun x=>x.1.isSome)
   && decide ((e::es).length+([]:List Keyword).length+(if([]:List Keyword).isEmpty then 0 else 1)<30))=true:=by rfl)
  (f:(apos.endLine==cpos.line)=true:=by rfl) (C:starEach (e::es) X.env=(false,eval e X.env)::starEach es X.env:=by rfl) (d:(backTo cpos (starEach es X.env)).any (·.1)=false:=by rfl) :
  PE X (.Call (.Attribute o name apos) (e::es) [] cpos) (tBM X.K T r to t):=by
 intro c s j H Q I h;refine wpAny_Call_method_late g i f rfl (thn (D c s j H _ I h) fun v w ⟨x,M,I1,m,ty,A⟩=>?_);obtain⟨J,G⟩:=Qem I1 m ty;refine⟨T,id,B,slot,l,J,G,?_⟩;have n:=F cpos c w j M _ I1 A;rw[C]at n ⊢;refine IJ (by show(false ||(backTo cpos (starEach es X.env)).any (·.1))=false;rw[d]<;>rfl) (Calls.evalArgs_plain ?_);exact thn n fun q u ⟨p,L,I2,y,z⟩=>E c u j L x p v q Q I2 m y z
end
def MtM(X:Cx)(id:String)(r:V->List V->Hp->VK->Prop):Prop:=
 ∀(a:List (Addr×Obj)) (s:Shared) (b:St) (H:Hp) (x:V) (c:List V) (v:Value) (d:List Value) (Q:VK),Inv X a b H s->RelV x v->Vals c d->r x c H Q ->
  wpAny (model X.prog X.w) X.A (call (.builtin id) (v::d)) (EP X a b Q) X.xe s
theorem Vals.one:∀{x:V} {us:List Value},Vals [x] us->∃u,us=[u]/\RelV x u
 |_,_,.cons r .nil=>⟨_,rfl,r⟩
theorem Vals.zero:∀{us:List Value},Vals [] us->us=[]
 |_,.nil=>rfl
theorem Vals.dropLast{xs:List V}{us:List Value}(h:Vals xs us):Vals xs.dropLast us.dropLast:=by
 induction h with
 |nil=>exact .nil
 |cons r t a=>
  cases t with
  |nil=>exact .nil
  |cons q b=>exact .cons r a
theorem Vals.eraseIdx:∀{xs:List V} {us:List Value} (i:Nat),Vals xs us->Vals (xs.eraseIdx i) (us.eraseIdx i)
 |_,_,_,.nil=>.nil
 |_,_,0,.cons _ t=>t
 |_,_,i+1,.cons r t=>.cons r (Vals.eraseIdx i t)
theorem Vals.reverse{xs:List V}{us:List Value}(h:Vals xs us):Vals xs.reverse us.reverse:=by
 induction h with
 |nil=>exact .nil
 |cons r t a=>rw[F3,F3];exact Vals.append a (.cons r .nil)
theorem Qar{c:Type}(l:List c):l.eraseIdx (l.length-1)=l.dropLast:=by
 induction l with
 |nil=>rfl
 | cons a r d=>
  cases r with
  |nil=>rfl
  | cons b r=>
   have e:(a::b::r).length-1=((b::r).length-1)+1:=by
    have g:(a::b::r).length=r.length+2:=rfl;have f:(b::r).length=r.length+1:=rfl;exact rfl
   rw[e,List.eraseIdx_cons_succ,d]
   all_goals rfl
section
variable{X:Cx}{pins:List (Addr×Obj)}{σ:St}{H:Hp}{s:Shared}{l b:Addr}{xs ys zs:List V}
theorem Inv.lset{a its':List Value}{n:Nat}{f:Array Value->Array Value}{t':Nat}(I:Inv X pins σ H s)(h:H l=some (.lst xs))
  (e:s.heap.get? l=some { cls:=.type "list",data:=.seq a.toArray n }) (d:f a.toArray=its'.toArray) (c:Vals ys its') (hz:ys.length<=sizeLine) :
  Inv X pins σ (upd H l (.lst ys)) { s with heap:=s.heap.update l (Obj.mapSeq f),toks:=t' }:=by
 have q:=Og e f;rw[d]at q;refine I.write (x:=l) (e:=l) (by rw[h];exact trivial) (.inl rfl) (fun i u g hu=>(EF s.heap (Obj.mapSeq f) (Dl g)).trans hu) ⟨_,q⟩ ?_;exact⟨hz,its',_,c,q⟩
theorem Inv.lnew{a:List Value}{t':Nat}(I:Inv X pins σ H s)(c:Vals ys a)(hz:ys.length<=sizeLine) :
  Inv X pins σ (upd H s.heap.objs.size (.lst ys)) { s with heap:=s.heap.push { cls:=.type "list",data:=.seq a.toArray },toks:=t' }:=
 I.laid (fun _ _ q=>Ni _ q) (Nw _) ⟨hz,a,0,c,Ny _ rfl⟩
theorem Inv.fresh(I:Inv X pins σ H s):H s.heap.objs.size=none:=I.hok.fresh (Nw _)
theorem Inv.lstM(I:Inv X pins σ H s)(c:H l=some (.lst xs)):xs.length<=sizeLine/\∃(a:List Value) (n:Nat),Vals xs a/\xs.length=a.length/\s.heap.get? l=some { cls:=.type "list",data:=.seq a.toArray n }:=by
 obtain⟨z,a,n,r,e⟩:=I.hok l _ c;exact⟨z,a,n,r,r.length,e⟩
theorem Gw{n:Nat}(h:n<=sizeLine):Builtin.List.listTooLong n=false:=by
 unfold Builtin.List.listTooLong;exact decide_eq_false (N4.mpr h)
end
section
variable{X:Cx}
noncomputable def Qe9:V->List V->Hp->VK->Prop:=fun x b H Q=>∃l a y,x=.ref l/\b=[y]/\H l=some (.lst a)/\a.length<sizeLine/\Q .non (upd H l (.lst (a++[y])))
theorem QbE:MtM X "list.append" Qe9:=by
 intro b s o H x t v w Q I g i h;obtain⟨l,p,y,rfl,rfl,f,d,q⟩:=h;cases g;obtain⟨u,rfl,j⟩:=i.one;obtain⟨z,a,n,r,m,e⟩:=I.lstM f;refine E5 DC ⟨_,e,rfl⟩ Lp (La _ _) (LW l a.toArray n u (by rw[Nh];exact N8 (NG (Nx m.symm) d))) ⟨e,?_⟩;refine⟨.non,_,I.lset (its':=a++[u]) f e (by simp) (r.append (.cons j .nil)) ?_,rfl,q⟩;rw[NC,EA];exact d
noncomputable def Qga:V->List V->Hp->VK->Prop:=fun x d H Q=>∃l b c a,x=.ref l/\d=[.ref b]/\H l=some (.lst c)/\H b=some (.lst a)/\c.length+a.length<=sizeLine/\Q .non (upd H l (.lst (c++a)))
theorem QaS:MtM X "list.extend" Qga:=by
 intro g s D H x J v L Q I m o h;obtain⟨l,b,G,E,rfl,rfl,j,C,y,q⟩:=h;cases m;obtain⟨u,rfl,p⟩:=o.one;cases p;obtain⟨z,c,n,r,B,e⟩:=I.lstM j;obtain⟨F,a,w,t,A,e2⟩:=I.lstM C;have f:c.toArray.size+a.toArray.size<=sizeLine:=by rw[Nh,Nh];lia
 have d:¬(!c.toArray.isEmpty&&Builtin.List.listTooLong (c.toArray.size+a.toArray.size))=true:=by
  rw[Gw f,E1];exact N9
 refine E5 DD ⟨_,e,rfl⟩ Lq (Lb _ _)
  (AutoSeq1.list_extend_list_list_0 l c.toArray n b a.toArray w d (by rw[Nh];exact Nn (Nx B.symm) z) (Nn f (NJ _ _))) ⟨e,e2,?_⟩
 refine⟨.non,_,I.lset (its':=c++a) j e (by simp) (r.append t) ?_,rfl,q⟩;rw[NC];exact y
noncomputable def QlP:V->List V->Hp->VK->Prop:=fun x b H Q=>∃l a y,x=.ref l/\b=[]/\H l=some (.lst a)/\a[a.length-1]?=some y/\Q y (upd H l (.lst a.dropLast))
theorem Qiy:MtM X "list.pop" QlP:=by
 intro d s t H x A v B Q I j m h;obtain⟨l,w,y,rfl,rfl,i,p,q⟩:=h;cases j;have c:=m.zero;subst c;obtain⟨z,a,n,r,g,e⟩:=I.lstM i;obtain⟨u,hu,o⟩:=r.get p
 have b:a.toArray[a.toArray.size-1]?=some u:=by
  show a.toArray[a.length-1]?=some u;rw[<-N3,<-g];exact hu
 refine E5 LD ⟨_,e,rfl⟩ F.entry_list_pop (F.args_list_pop_1 _) (MeetsSeq.list_pop_last l a.toArray n u b (by rw[Nh];exact Nn (Nx g.symm) z)) ⟨e,?_⟩;refine⟨y,_,I.lset (its':=a.dropLast) i e ?_ r.dropLast ?_,o,q⟩
 ·show a.toArray.eraseIdxIfInBounds (a.toArray.size-1)=a.dropLast.toArray;rw[Nh,List.eraseIdxIfInBounds_toArray,Qar]
 ·rw[Lc];exact Nn (Fv _ _) z
noncomputable def Qmr:R2:=fun x y H Q=>∃l b c a,x=.ref l/\y=.ref b/\H l=some (.lst c)/\H b=some (.lst a)/\c.length+a.length<=sizeLine/\∀p,H p=none->Q (.ref p) (upd H p (.lst (c++a)))
theorem QiH:OpR X (binaryOp .Add) Qmr:=by
 intro d s w H x y v u Q I g f h;obtain⟨l,b,C,A,rfl,rfl,o,p,j,q⟩:=h;cases g;cases f;obtain⟨z,c,n,r,F,e⟩:=I.lstM o;obtain⟨B,a,E,i,m,e2⟩:=I.lstM p;refine PySem.P.add_list e e2 ?_ (by rw[Nh,Nh];omega);have t:c.toArray++a.toArray=(c++a).toArray:=by simp
 rw[t];exact⟨.ref _,_,I.lnew (t':=s.toks) (r.append i) (by rw[NC];exact j),rfl,q _ I.fresh⟩
end
end L2
namespace Att
open PySem PySem.W PySem.Calls PyProof.Rows
theorem K6{P:Params}{h:Heap}:∀(ns:List Int) (c:List Value),WellAll P h c (ns.map WData.int)->IntsAre c ns:=by
 intro ns
 induction ns with
 |nil=>
  intro c w;rw[Fy]at w;cases w;exact .nil
 | cons n ns d=>
  intro c w;rw[NK]at w;cases w with
  |cons a b=>
   cases a;exact .cons _ _ (d _ b)
theorem Qcx{l:OpenLaw}{n:Nat}(v:l.most=some n){P:Params}{h:Heap}{args:List WData}{vals:List Value}
  (b:l.row.toRowW.claim.pre args=true) (i:WellAll P h vals args) :
  ∃a m ns,vals=[Value.ref a]/\args=[WData.list (ns.map WData.int)]/\h.get? a=some { cls:=.type "list",data:=.seq m.toArray }/\IntsAre m ns/\ns.length<=n:=by
 have j:WShape.hasAll [] args [.list .int]=true:=(pre_splitW b).1;have o:l.pre.holds [] { args:=args }=true:=(pre_splitW b).2;obtain⟨d,r,rfl,y,x⟩:=hasAllW_cons j;obtain rfl:=hasAllW_nil x;obtain⟨z,rfl,w⟩:=hasW_list y;obtain⟨ns,rfl⟩:=items_int w
 have c:ns.length<=n:=by
  unfold OpenLaw.pre at o
  have g:(WTm.not (.lt (.lit (.int (n:Int))) (.len (.arg 0)))).holds [] { args:=[.list (ns.map .int)] }=true:=by
   have g:=(holds_andW o).1;rw[v]at g;exact g
  have f:=condW_of g (w_not (w_lt w_lit (w_len_list (w_arg rfl))));rw[NB]at f;refine Nat.le_of_not_lt fun q=>?_;have t:(n:Int)<((ns.length:Nat):Int):=by omega
  first
   |(rw[decide_eq_true t]at f;exact absurd f (by decide))
   |(simp at f;omega)
 cases i with
 |cons s p=>
  cases p;cases s with
  |list u e=>exact⟨_,_,ns,rfl,rfl,u,K6 ns _ e,c⟩
theorem Qbl(l:OpenLaw)(args:List WData):l.row.toRowW.claim.post args (.bool true) args=true:=
 postW_of (r:=l.row.toRowW) (X:=(true==true))
  (show WShape.has [] (.bool true) .bool=true by first|rfl|decide|simp[WShape.has,WShape.arms,WShape.armsAll])
  (show(WTm.eq .res (.lit (.bool true))).value [] { args:=args,res:=some (.bool true),after:=args }=some (.bool (true==true))from w_eq_bool (w_res rfl) w_lit) rfl
theorem attach_call{l:OpenLaw}{n:Nat}{q:Program}{e:List Str}{E:(Str->Option Value)->Heap->Prop}{D:World->Heap->Prop}{d:DefRec}
  (J:l.most=some n) (z:d.params.defaults=[])
  (call:∀(w:World) (c b:Shared) (u v:Str->Option Value) (s:Addr) (o:Obj) (pm cd h:Value) (a:Addr) (i:List Value) (ns:List Int),
   Ground q e [] E w c u v b.heap->D w b.heap ->
   b.heap.get? s=some o->o.data=.func (docDef d.name d.params d.body d.scope pm cd h)->b.heap.CodeRec cd d.name->u d.name=some (.ref s) ->
   b.heap.get? a=some { cls:=.type "list",data:=.seq i.toArray }->IntsAre i ns->ns.length<=n->b.gens=#[] ->
   codeAny (model l.prog w) callerA (.call (.ref s) ⟨[.ref a],[]⟩) (fun r t=>r=.ok (.ret (.bool true))/\OldK b.heap t.heap/\t.os=b.os/\AllBare t.gens) b) :
  WalkO q e E D l.row.toRowW d [] (fun f i=>Ou f i):=by
 intro w c b u v G Y s o pm cd h R kV I hd A C y N args vals as j B F x M;obtain rfl:R=.none:=Dflts.none C z;obtain rfl:kV=.none:=Dflts.noKw C;obtain⟨a,i,ns,rfl,rfl,m,g,p⟩:=Qcx J j x;refine enter_call (DU (call w c b u v s o pm cd h a i ns G Y I (fd_plain hd) A y m g p N) fun r t H=>?_);obtain⟨rfl,Q,P,O⟩:=H;exact⟨.inl ⟨.bool true,.bool true,[],rfl,fun _=>rfl,.bool true,Qbl l _,fun _=>⟨List.Pairwise.nil,fun _ L=>(nomatch L)⟩⟩,Q,P,O⟩
end Att
namespace L2
theorem Ud:∀{a:List Value} {ns:List Int},IntsAre a ns->Vals (ns.map V.int) a
 |_,_,.nil=>.nil
 |_,_,.cons n t h=>.cons ⟨t,rfl⟩ (Ud h)
def Qkl(H:Hp):Prop:=∀b,H b=none\/∃o a,H b=some (.frz o (.lst a))
theorem Qdt{P:Program}{w:World}{K:Nd}{y N:Str->Option Value}{CX:CXT}{k:Nat}{T a:Addr}{fd:FuncData}{x:Str}{sp:Sp}{c:Shared}{l:List Value}{ns:List Int}
  (KX:K.In c.heap) (D:c.heap.Ns mainGlobals y) (g:c.heap.Ns builtinsNs N) (R:∀x:Str,x≠"__name__"->N x=bootBuiltins x) (E:c.heap.NoLimit) (hg:c.gens=#[])
  (L:c.heap.get? a=some { cls:=.type "list",data:=.seq l.toArray }) (Z:IntsAre l ns) (Y:ns.length<=sizeLine) (hr:Room k callerA)
  (F:∀base:Heap,K.In base->base.Ns mainGlobals y->FnOk P w K y base CX k T fd [x] sp) (p:∀(s:Shared) (u:Value),BindsTo s fd ⟨[u],[]⟩ [(x,u)])
  (O:∀H:Hp,Qkl H->SqL K H a (ns.map V.int)->sp [.ref a] H (fun v _=>v=.bl true) fun _ _ _=>False)
  (S:∀H e i,CX [] H c (fun _ _ _=>False) e i->False) :
  codeAny (model P w) callerA (.call (.ref T) ⟨[.ref a],[]⟩) (fun r i=>r=.ok (.ret (.bool true))/\OldK c.heap i.heap/\i.os=c.os/\AllBare i.gens) c:=by
 have X:=Ud Z;have A:=Z.length
 have core:∀H:Hp,Qkl H->SqL K H a (ns.map V.int)->HOk P w H c.heap->(∀b,H b≠none->b=a)->(H a≠none->K.lookup a=none) ->
   codeAny (model P w) callerA (.call (.ref T) ⟨[.ref a],[]⟩) (fun r i=>r=.ok (.ret (.bool true))/\OldK c.heap i.heap/\i.os=c.os/\AllBare i.gens) c:=by
  intro H hO hS C hA hK;have f:∀{b:Addr} {o:Obj},c.heap.get? b=some o->H b=none->(QdB c.heap H).get? b=some o:=fun e n=>QdS e n
  have M:∀{b:Addr} {o:Obj} {I:Array DictEntry} {J:Nat},c.heap.get? b=some o->o.data=.dict I J->H b=none:=fun {b o I J} e d=>by
   cases q:H b with
   |none=>rfl
   |some u=>
    have U:b=a:=hA b (by rw[q];simp);subst U;rw[L]at e;cases e;have d':Data.seq l.toArray _=Data.dict I J:=d;cases d'
  have j:∀{b:Addr} {m:Str->Option Value},c.heap.Ns b m->(QdB c.heap H).Ns b m:=fun {b m} ⟨o,I,J,e,d,r⟩=>⟨o,I,J,f e (M e d),d,r⟩
  have G:K.In (QdB c.heap H):=fun b o e=>f (KX b o e) (by
   cases q:H b with
   |none=>rfl
   |some u=>
    have U:b=a:=hA b (by rw[q];simp);subst U
    rw[hK (by rw[q];simp)]at e;cases e)
  have hM:Mod K y (QdB c.heap H):=⟨G,j D,⟨N,j g,R⟩,let⟨mc,h1,h2⟩:=E;⟨mc,j h1,h2⟩⟩
  have e0:Env0 P w K y (QdB c.heap H) callerA [] c H:=⟨rfl,hM,fun b o e=>Qft e,Nx (QcO _ _),trivial,fun b g=>absurd (show b∈([]:List Addr)from g) (by simp),C,.of_eq hg⟩
  refine DU ((F _ G (j D)).run callerA [] c H ⟨[.ref a],[]⟩ [.ref a] [.ref a] _ _ hr e0 (p c (.ref a)) (.cons rfl .nil) (O H hO hS)) fun r i h=>?_;cases r with
  |error e=>exact(S H e i h).elim
  | ok fl=>
   cases fl with
   |next=>exact False.elim h
   |brk=>exact False.elim h
   |cont=>exact False.elim h
   | ret u=>
    obtain⟨v,H',os,bare,un,B,r',q⟩:=h;have q':v=.bl true:=q;subst q';obtain rfl:u=Value.bool true:=r';refine⟨rfl,OldK.of_keep fun b o e=>?_,os,bare⟩;cases q:H b with
    |none=>exact un.keep b o e q (by intro z;exact absurd (show b∈([]:List Addr)from z) (by simp)) (by simp)
    |some u=>
     rcases hO b with z|⟨ob,xs,z⟩
     ·rw[q]at z;cases z
     ·have z2:=un.frzs b ob _ z;obtain⟨e1,_⟩:=C b _ z;obtain⟨e2,_⟩:=B b _ z2;rw[e]at e1;cases e1;exact e2
 cases Q:K.lookup a with
 |some o=>
  have e:=KX a o Q;rw[L]at e;cases e;refine core (fun _=>none) (fun _=>.inl rfl) (.inr ⟨_,l.toArray,_,Q,rfl,rfl,rfl,by rw[Nh,A];exact Y,by simpa using X⟩) (fun b u z=>by have t:(none:Option HO)=some u:=z;cases t) (fun b z=>absurd rfl z) fun z=>absurd rfl z
 | none=>
  refine core (fun b=>if b=a then some (.frz { cls:=.type "list",data:=.seq l.toArray } (.lst (ns.map V.int)))else none) (fun b=>?_) (.inl (.inr ⟨{ cls:=.type "list",data:=.seq l.toArray },if_pos rfl⟩)) (fun b u z=>?_) (fun b z=>?_) fun _=>Q
  ·by_cases g:b=a
   ·exact .inr ⟨_,_,if_pos g⟩
   ·exact .inl (if_neg g)
  ·by_cases g:b=a
   ·have t:=(if_pos g).symm.trans z;cases t;subst g;exact⟨L,by rw[NB];exact Y,l,_,X,L⟩
   ·have t:=(if_neg g).symm.trans z;cases t
  ·by_cases g:b=a
   ·exact g
   ·exact absurd (if_neg g) z
noncomputable abbrev KOf{K:Nd}{h:Heap}(_:K.In h):Nd:=K
theorem QfB{l:PySem.W.OpenLaw}{n k:Nat}{q:Program}{i:List Str}{Z:(Str->Option Value)->Heap->Prop}{J:World->Heap->Prop}{d:DefRec}{K:Params->Nd}{CX:World->CXT}{sp:World->Sp}{x:Str}
  (M:l.most=some n) (A:n<=sizeLine) (C:d.params.defaults=[]) (hr:Room k callerA)
  (Q:∀(w:World) (h:Heap),J w h->(K w.params).In h)
  (F:∀(w:World) (m:Str->Option Value) (t:Addr) (h:Heap),(K w.params).In h->h.Ns mainGlobals m->m d.name=some (.ref t) ->
   ∃fd:FuncData,(∀(s:Shared) (u:Value),BindsTo s fd ⟨[u],[]⟩ [(x,u)]) /\
    ∀base:Heap,(K w.params).In base->base.Ns mainGlobals m->FnOk l.prog w (K w.params) m base (CX w) k t fd [x] (sp w))
  (z:∀(w:World) (H:Hp) (a:Addr) (ns:List Int),ns.length<=n->Qkl H->SqL (K w.params) H a (ns.map V.int)->sp w [.ref a] H (fun v _=>v=.bl true) fun _ _ _=>False)
  (D:∀(w:World) (H:Hp) (s:Shared) (e:Value) (y:Shared),CX w [] H s (fun _ _ _=>False) e y->False) :
  OG q i Z J l.row.toRowW d [] (fun f E=>Ou f E):=by
 refine Att.attach_call M C fun w I p m mb t o pm cd X a E ns G Y ho hd O B r j c N=>?_;have L:=Q w _ Y;obtain⟨fd,P,U⟩:=F w m t _ L G.T.g B;exact Qdt L G.T.g G.T.b G.T.builtins G.T.nolimit N r j (Nn c A) hr U P (fun H S R=>z w H a ns c S R) fun H e y=>D w H p e y
noncomputable def Xi(s:Stmt):Arguments:=match s with
 |.FunctionDef _ a _ _ _ _ _ _ _ _=>a
 |_=>{ posonlyargs:=[],args:=[],vararg:=none,kwonlyargs:=[],kw_defaults:=[],kwarg:=none,defaults:=[] }
noncomputable def Va(s:Stmt):List Stmt:=match s with
 |.FunctionDef _ _ b _ _ _ _ _ _ _=>b
 |_=>[]
noncomputable def Qf(s:Stmt):Scope:=match s with
 |.FunctionDef _ _ _ _ _ _ a _ _ _=>a
 |_=>{ kind:=.function,names:=[],isGenerator:=false,isCoroutine:=false }
noncomputable abbrev CX0:CXT:=fun _ _ _ _ _ _=>False
noncomputable abbrev E0:XK:=fun _ _ _=>False
theorem Qj6{X:Cx}:GV CX0 X E0:=fun _ _ _ _ _ _ _ h=>h.elim
structure Fun(K:Nd)(x qual:Str)(st:Stmt)(f:Addr)(fd:FuncData):Prop where
 ex:∃(oc:Value) (od:Option Addr) (kV doc pm:Value) (an:Option Addr) (cdv ct:Value) (osl:Array (Option Value)),
  fd=Da x qual (Xi st) (Va st) (Qf st) .none kV doc pm an cdv ct/\K.lookup f=some ⟨oc,od,.func fd,osl⟩/\FI K cdv qual=true
 kp:DB K (.ref f)=true
section
variable{P:Program}{w:World}{K:Nd}{mg:Str->Option Value}{base:Heap}
theorem Fun.ok{x b:Str}{st:Stmt}{f:Addr}{fd:FuncData}{N ps:List Str}{k:Nat}{sp:Sp}(F:Fun K x b st f fd)(S:FnScope N ps (Qf st))(len:∀d H Q E,sp d H Q E->d.length=ps.length)
  (e:∀(c:Value) (A:Around) (a:List Env) (s:Shared) (H:Hp) (d:List V) (Q:VK) (E:XK),Room k (A.deeper (envOfC b (Qf st) s.heap.objs.size f c))->sp d H Q E ->
   ∃t,PSs (Qeu CX0 P w K mg base N b (Qf st) f c A a s H E).nox (Va st) t/\t { nx:=fun _ m=>Q .non m,rt:=Q } (start N d) H):FnOk P w K mg base CX0 (k+1) f fd ps sp:=by
 obtain⟨o,n,kV,l,pm,p,c,ct,j,rfl,lk,i⟩:=F.ex;refine QjN lk i S len fun A a s H d Q E hr g=>?_;obtain⟨t,h,q⟩:=e c A a s H d Q E hr g;exact⟨t,h.nox,q⟩
theorem Fun.binds{x a:Str}{st:Stmt}{f:Addr}{fd:FuncData}{ps:List Str}(F:Fun K x a st f fd)
  (h:∀(kV b pm:Value) (d:Option Addr) (c ct:Value) (us:List Value),us.length=ps.length->bindArgs (Da x a (Xi st) (Va st) (Qf st) .none kV b pm d c ct) ⟨us,[]⟩=pure (ps.zip us)):Binds K fd ps []:=by
 obtain⟨j,i,kV,b,pm,d,c,ct,e,rfl,lk,g⟩:=F.ex;exact .all (h kV b pm d c ct)
theorem Qek{x a:Str}{st:Stmt}{f:Addr}{i:Value}{h g:Option Addr}{e:Array (Option Value)}{kV d pm b ct:Value}(l:K.lookup f=some ⟨i,h,.func (Da x a (Xi st) (Va st) (Qf st) .none kV d pm g b ct),e⟩)
  (c:FI K b a=true) (k:DB K (.ref f)=true):Fun K x a st f (Da x a (Xi st) (Va st) (Qf st) .none kV d pm g b ct):=⟨⟨i,h,kV,d,pm,g,b,ct,e,rfl,l,c⟩,k⟩
end
theorem QfF{A B:Prop}(h:B):if false=true then A else B:=by
 rw[if_neg N9];exact h
theorem QeN{A B:Prop}(h:A):if true=true then A else B:=by
 rw[if_pos rfl];exact h
section
variable{κ:Type}[DecidableEq κ]
noncomputable def GN(kvs:List (κ×V))(k:κ):Option V:=(kvs.find? fun a=>decide (a.1=k)).map (·.2)
noncomputable def Qd5(kvs:List (κ×V))(k:κ)(v:V):List (κ×V):=
 if(kvs.any fun a=>decide (a.1=k))=true then kvs.map (fun a=>if a.1=k then(a.1,v)else a)else kvs++[(k,v)]
theorem QdP{p:κ×V}{r:List (κ×V)}{k:κ}(e:p.1=k):GN (p::r) k=some p.2:=by simp[GN,Er,e]
theorem Qd6{p:κ×V}{r:List (κ×V)}{k:κ}(e:¬p.1=k):GN (p::r) k=GN r k:=by simp[GN,Er,e]
theorem U0(kvs:List (κ×V))(k:κ)(v:V):(Qd5 kvs k v).length<=kvs.length+1:=by
 unfold Qd5;split
 ·rw[NB];exact NJ _ _
 ·rw[NC,Es,DP];lia
theorem RelO.getD{o:Option V}{u:Option Value}{d:V}{d':Value}(r:RelO o u)(a:RelV d d'):RelV (o.getD d) (u.getD d'):=by
 cases o with
 |none=>cases u with
  |none=>exact a
  |some _=>exact(show False from r).elim
 |some _=>cases u with
  |none=>exact(show False from r).elim
  |some _=>exact r
theorem KV.val{kvs:List (κ×V)}{d:List (κ×Value)}(r:KV kvs d)(k:κ):RelO (GN kvs k) (valueAt d k):=by
 unfold KV at r
 induction r with
 |nil=>exact True.intro
 | @cons p q ps a h t g=>
  obtain⟨f,i⟩:=h
  by_cases e:p.1=k
  ·have c:q.1=k:=f.symm.trans e;have b:valueAt (q::a) k=some q.2:=by simp[valueAt,Er,c]
   rw[QdP e,b];exact i
  ·have c:¬q.1=k:=fun z=>e (f.trans z);have b:valueAt (q::a) k=valueAt a k:=by simp[valueAt,Er,c]
   rw[Qd6 e,b];exact g
theorem KV.any{kvs:List (κ×V)}{b:List (κ×Value)}(r:KV kvs b)(k:κ):(kvs.any fun a=>decide (a.1=k))=b.any fun a=>decide (a.1=k):=by
 unfold KV at r
 induction r with
 |nil=>rfl
 |cons h t c=>rw[EW,EW,c,h.1]
theorem KV.repl{kvs:List (κ×V)}{c:List (κ×Value)}(r:KV kvs c)(k:κ){y:V}{u:Value}(d:RelV y u) :
  KV (kvs.map fun a=>if a.1=k then(a.1,y)else a) (c.map fun a=>if a.1=k then(a.1,u)else a):=by
 unfold KV at r ⊢
 induction r with
 |nil=>exact .nil
 |@cons p q ps i h t f=>
  rw[NK,NK];refine .cons ?_ f;obtain⟨b,g⟩:=h
  by_cases e:p.1=k
  ·rw[if_pos e,if_pos (b.symm.trans e)];exact⟨b,d⟩
  ·rw[if_neg e,if_neg (fun z=>e (b.trans z))];exact⟨b,g⟩
theorem KV.put{kvs:List (κ×V)}{a:List (κ×Value)}(r:KV kvs a)(k:κ){y:V}{u:Value}(b:RelV y u):KV (Qd5 kvs k y) (stored a k u):=by
 unfold Qd5 stored;rw[r.any k]
 by_cases e:(a.any fun c=>decide (c.1=k))=true
 ·rw[if_pos e,if_pos e];exact r.repl k b
 ·rw[if_neg e,if_neg e];exact OP r ⟨rfl,b⟩
theorem KV.length{kvs:List (κ×V)}{a:List (κ×Value)}(r:KV kvs a):kvs.length=a.length:=EH r
end
theorem QeL{P:Program}{w:World}{k:Key}{u:Value}(r:RelV (kV k) u):(Vr P w).is k u=true:=by
 cases k with
 |inl i=>obtain⟨t,e⟩:=(show∃t,u=Value.int i t from r);subst e;exact US P w i t
 |inr x=>obtain⟨t,e⟩:=(show∃t,u=Value.str x t from r);subst e;exact Gb P w x t
section
variable{P:Program}{w:World}{H:Hp}{h:Heap}{a:Addr}
theorem QjL{u:HO}(ok:HOk P w H h)(e:Rd H a u):ObjOk P w H h a u:=e.ok ok
theorem QdD{kvs:List (Key×V)}(ok:HOk P w H h)(e:Rd H a (.dK kvs)):kvs.length<=sizeLine/\(a==sysModules)=false/\∃b,KV kvs b/\h.DictOf (Vr P w) a b:=
 show ObjOk P w H h a (.dK kvs)from QjL ok e
theorem Qjz{kvs:List (Key×V)}(ok:HOk P w H h)(e:H a=some (.dK kvs)):kvs.length<=sizeLine/\(a==sysModules)=false/\∃b,KV kvs b/\h.DictOf (Vr P w) a b:=QdD ok (.inl e)
end
def DGet(H:Hp)(a:Addr)(y:V)(r:Option V):Prop:=∃kvs k,Rd H a (.dK kvs)/\y=kV k/\r=GN kvs k
def DPut(H:Hp)(a:Addr)(y v:V)(b:Hp):Prop:=∃kvs k,H a=some (.dK kvs)/\y=kV k/\kvs.length<sizeLine/\b=upd H a (.dK (Qd5 kvs k v))
theorem DGet.k{H:Hp}{a:Addr}{kvs:List (Key×V)}{k:Key}(e:H a=some (.dK kvs)):DGet H a (kV k) (GN kvs k):=⟨kvs,k,.inl e,rfl,rfl⟩
theorem DPut.k{H:Hp}{a:Addr}{kvs:List (Key×V)}{k:Key}{v:V}(e:H a=some (.dK kvs))(b:kvs.length<sizeLine):DPut H a (kV k) v (upd H a (.dK (Qd5 kvs k v))):=⟨kvs,k,e,rfl,b,rfl⟩
section
variable{X:Cx}{pins:List (Addr×Obj)}{σ:St}{H:Hp}{s:Shared}{a:Addr}{y v:V}{u r:Value}{o:Option V}{A:Around}{E:Value->Shared->Prop}
theorem Inv.big(I:Inv X pins σ H s):sysModules<s.heap.objs.size:=by
 have h:mainGlobals<s.heap.objs.size:=(I.mod.glob.keeps I.bk).lt;exact Eo (by decide) h
theorem QaU{Q:Value->Shared->Prop}(hu:A.units+1<cLine)(I:Inv X pins σ H s)(g:DGet H a y (some v))(i:RelV y u)(h:∀b d,Inv X pins σ H d->RelV v b->Q b d) :
  wpAny (model X.prog X.w) A (getItem (.ref a) u) Q E s:=by
 obtain⟨kvs,k,e,j,l⟩:=g;subst j;obtain⟨z,hd,f,rel,m⟩:=QdD I.hok e;obtain⟨b,hw,c⟩:=RelO.some_of (v:=v) (o:=valueAt f k) (by rw[l];exact rel.val k);exact wpAny_getItem_of (QeL i) m.mapOf hw (h b _ (I.tok _) c)
theorem Qgr{h':Heap}{t':Nat}{ob:HO}(I:Inv X pins σ H s)(c:Mut (H a))(d:Heap.SameBut a s.heap h')(f:∃q,h'.get? a=some q)(new:ObjOk X.prog X.w (upd H a ob) h' a ob) :
  Inv X pins σ (upd H a ob) { s with heap:=h',toks:=t' }:=
 I.write (x:=a) (e:=a) c (.inl rfl) (fun b q g z=>(d.2 b g).trans z) f new
theorem Qig{P:Program}{w:World}{d:Hp}{h':Heap}{kvs:List (Key×V)}{b:List (Key×Value)}(z:kvs.length<=sizeLine)(hd:(a==sysModules)=false)(rel:KV kvs b)(c:h'.DictOf (Vr P w) a b) :
  ObjOk P w d h' a (.dK kvs):=⟨z,hd,b,rel,c⟩
theorem QbJ{d:Hp}{Q:Unit->Shared->Prop}(hu:A.units+1<cLine)(I:Inv X pins σ H s)(g:DPut H a y v d)(i:RelV y u)(j:RelV v r)(h:∀c,Inv X pins σ d c->Q () c) :
  wpAny (model X.prog X.w) A (setItem (.ref a) u r) Q E s:=by
 obtain⟨kvs,k,e,D,l,F⟩:=g;subst D F;obtain⟨z,hd,f,rel,G⟩:=Qjz I.hok e;have m:f.length<=sizeLine:=by rw[<-rel.length];exact z
 have x:(Qd5 kvs k v).length<=sizeLine:=by have:=U0 kvs k v;lia
 refine wpAny_setItem_pairs (hsz:=m) (QeL i) G fun C b p=>h _ ?_;have B:∃q,C.get? a=some q:=let⟨q,_,_,t,_⟩:=b;⟨q,t⟩
 exact Qgr I (by rw[e];exact True.intro) p B (Qig x hd (rel.put k j) b)
end
def QkL(i:Expr):Prop:=∀a b,subscripted i false a b=operate [a,b] (getItem a b)
theorem Qfz{prog:Program}{w:World}{A:Around}{E:Value->Shared->Prop}{s:Shared}{env:Env}{value slice:Expr}{pos:Pos}{T id:String}{Q:Value->Shared->Prop}
  (l:typeLookup (.type T) "__getitem__"=pure (some (.builtin id))) (j:QkL slice)
  (h:wpAny (model prog w) A (eval value env) (fun o d=>wpAny (model prog w) A (eval slice env) (fun i a=>a.TypeIs o T/\wpAny (model prog w) A (getItem o i) Q E a) E d) E s) :
  wpAny (model prog w) A (eval (.Subscript value slice pos) env) Q E s:=by
 refine Os (NZ h (fun o d f=>NZ f (fun i a b=>?_) fun _ _ x=>x) fun _ _ x=>x);obtain⟨g,b⟩:=b;unfold subscriptTail;refine Na ?_;rw[getitemInPython_of_ne g.not_modules];refine Na (Dt g l ?_)
 have fin:wpAny (model prog w) A (subscripted slice false o i) (fun r c=>wpAny (model prog w) A (letTemporaryGo value o r>>=fun _=>pure r) Q E c) E a:=by
  rw[j o i];exact wpAny_operating (NZ b (fun r c e=>Na (wpAny_letTemporaryGo (Ng e))) fun _ _ x=>x)
 first
  |exact Ng (Na fin)
  |exact Na (Ng (Na fin))
  |exact Na fin
theorem UZ{X:Cx}{b:List (Addr×Obj)}{σ:St}{H:Hp}{s:Shared}{a:Addr}{y:V}{o:Option V}(I:Inv X b σ H s)(g:DGet H a y o):s.TypeIs (.ref a) "dict":=by
 obtain⟨kvs,k,e,_,_⟩:=g;obtain⟨_,_,d,_,c⟩:=QdD I.hok e;exact c.typeIs
noncomputable def Qjv(d ty:TE):TE:=fun b H Q=>d b H fun x e=>ty b e fun y c=>∃a v,x=.ref a/\DGet c a y (some v)/\Q v c
noncomputable def QhV(e ty d:TE):TS:=fun D b H=>d b H fun v h=>e b h fun x g=>ty b g fun y f=>∃a c,x=.ref a/\DPut f a y v c/\D.nx b c
section
variable{X:Cx}{o i e value:Expr}{pos pos' tpos:Pos}{td ty tv:TE}
theorem Qe8(hu:X.A.units+1<cLine)(q:PE X o td)(r:PE X i ty)(p:QkL i):PE X (.Subscript o i pos) (Qjv td ty):=by
 intro b s d H Q I h;refine Qfz F8.lookup p (thn (q b s d H _ I h) fun u f ⟨x,z,I1,l,n⟩=>thn (r b f d z _ I1 n) fun E D ⟨y,w,I2,j,a,v,t,g,m⟩=>?_);subst t;obtain rfl:u=Value.ref a:=l;exact⟨UZ I2 g,QaU hu I2 g j fun B C I3 c=>⟨v,w,I3,c,m⟩⟩
theorem QfE(hu:X.A.units+1<cLine)(z:PE X o td)(B:PE X i ty)(t:PE X value tv)(w:swapsWith value (some (.Subscript o i pos')) pos.line X.env=pure false) :
  PS X (.Assign [.Subscript o i pos'] value pos) (QhV td ty tv):=by
 intro b s c H D I h;refine wpAny_Assign_Subscript (thn (t b s c H _ I h) fun r f ⟨v,G,I1,m,q⟩=>thn (z b f c G _ I1 q) fun u d ⟨x,F,I2,l,p⟩=>thn (B b d c F _ I2 p) fun M L ⟨y,N,I3,j,a,E,C,g,n⟩=>?_) w;subst C;obtain rfl:u=Value.ref a:=l;exact QbJ hu I3 g j m fun J I4=>⟨c,E,I4,n⟩
end
theorem QdR{P:Program}{w:World}{H:Hp}(h:Heap)(a:sysModules<h.objs.size):ObjOk P w H (h.push { cls:=.type "dict",data:=.dict #[] }) h.objs.size (.dK []):=
 ⟨Ei _,beq_eq_false_iff_ne.mpr (Dl (NS a)),[],.nil,Heap.DictOf.new h⟩
noncomputable def QiC:TE:=fun _ H Q=>∀p,H p=none->Q (.ref p) (upd H p (.dK []))
section
variable{X:Cx}{pos:Pos}
theorem QdQ:PE X (.Dict [] [] pos) QiC:=fun b s c H Q I h=>
 wpAny_Dict_empty ⟨.ref s.heap.objs.size,_,I.laid (a:=s.heap.objs.size) (o:=.dK []) (t':=s.toks) (fun _ _ q=>Ni _ q) (Nw _) (QdR s.heap I.big),rfl,h _ (I.hok.fresh (Nw _))⟩
end
structure M1(X:Cx)(o:Expr)(m:Str)(apos:Pos)(e:Expr)(cpos:Pos):Prop where
 base:attributeBase o m X.env (eval o X.env)=eval o X.env
 few:((backTo cpos (starEach [e] X.env)).all (fun x=>!x.1)&&(backToKw cpos (keywordEach [] X.env)).all (fun x=>x.1.isSome)
  && decide (([e]:List Expr).length+([]:List Keyword).length+(if([]:List Keyword).isEmpty then 0 else 1)<30))=true
 line:(apos.endLine==cpos.line)=true
 trees:backTo cpos (starEach [e] X.env)=[(false,eval e X.env)]
section
variable{X:Cx}{pins:List (Addr×Obj)}{σ:St}{H:Hp}{s:Shared}{a:Addr}{y d:V}{u r:Value}{o:Option V}{A:Around}{E:Value->Shared->Prop}
theorem Qhy{Q:Value->Shared->Prop}(hu:A.units+1<cLine)(I:Inv X pins σ H s)(g:DGet H a y o)(i:RelV y u)(j:RelV d r)(h:∀b c,Inv X pins σ H c->RelV (o.getD d) b->Q b c) :
  wpAny (model X.prog X.w) A (call (.builtin "dict.get") [.ref a,u,r]) Q E s:=by
 obtain⟨kvs,k,e,m,l⟩:=g;subst m;obtain⟨z,hd,n,rel,f⟩:=QdD I.hok e;refine call_meetsIn IS f.typeIs PySem.F.entry_dict_get (PySem.F.args_dict_get_3 _ _ _) (meets_dict_get_default (Vr X.prog X.w) a (QeL i) hd r) ⟨_,f.mapOf,h _ _ (I.tok _) ?_⟩;rw[l];exact(rel.val k).getD j
end
end L2
namespace Mi
open L2
inductive W where
 |non|bl (b:Bool)|int (i:Int)|str (x:Str)|tup (ws:List W)|lst (ws:List W)|frz (ws:List W)|ref (n:Nat)|ty (n:String)
inductive MO where
 |lst (ws:List W)
 |dic (kvs:List (Key×W))
 |dct (kvs:List (W×W))
 |ins (C:Addr) (fs:List (Str×W))
noncomputable abbrev MH:=List MO
noncomputable abbrev MSt:=List (Option W)
structure Rn where
 ρ:Nat->Addr
 N:Nat
 F:Hp
 G:Hp
structure Ext(R R':Rn):Prop where
 n:R.N<=R'.N
 ρ:∀n,n<R.N->R'.ρ n=R.ρ n
 f:∀a o,R.F a=some o->R'.F a=some o
 g:R'.G=R.G
theorem Ext.refl(R:Rn):Ext R R:=⟨Nw _,fun _ _=>rfl,fun _ _ h=>h,rfl⟩
theorem Ext.trans{R R1 R2:Rn}(a:Ext R R1)(b:Ext R1 R2):Ext R R2:=
 ⟨Nn a.n b.n,fun n h=>(b.ρ n (Nl h a.n)).trans (a.ρ n h),fun x o h=>b.f x o (a.f x o h),b.g.trans a.g⟩
theorem Zj{K:Nd}(e:∀a o,F a=some o->b a=some o)(h:SqT K F a xs):SqT K b a xs:=by
 rcases h with(h|⟨o,h⟩)|h
 ·exact .inl (.inl (e _ _ h))
 ·exact .inl (.inr ⟨o,e _ _ h⟩)
 ·exact .inr h
theorem JJ{K:Nd}(e:∀a o,F a=some o->b a=some o)(h:SqL K F a xs):SqL K b a xs:=by
 rcases h with(h|⟨o,h⟩)|h
 ·exact .inl (.inl (e _ _ h))
 ·exact .inl (.inr ⟨o,e _ _ h⟩)
 ·exact .inr h
section
variable(K:Nd)
mutual
noncomputable def Rw(R:Rn):W->V->Prop
 |.non,v=>v=.non
 |.bl b,v=>v=.bl b
 |.int i,v=>v=.int i
 |.str x,v=>v=.str x
 |.tup ws,v=>∃a xs,v=.ref a/\SqT K R.F a xs/\Rws R ws xs
 |.lst ws,v=>∃a xs,v=.ref a/\R.F a=some (.lst xs)/\Rws R ws xs
 |.frz ws,v=>∃a xs,v=.ref a/\SqL K R.F a xs/\Rws R ws xs
 |.ref n,v=>n<R.N/\v=.ref (R.ρ n)
 |.ty n,v=>v=.ty n
noncomputable def Rws(R:Rn):List W->List V->Prop
 |[],b=>b=[]
 |w::ws,b=>∃v a,b=v::a/\Rw R w v/\Rws R ws a
end
end
section
variable{K:Nd}{R R':Rn}
mutual
theorem Rw.mono(e:Ext R R'):∀(w:W) (v:V),Rw K R w v->Rw K R' w v
 |.non,_,h=>by unfold Rw at h ⊢;exact h
 |.bl _,_,h=>by unfold Rw at h ⊢;exact h
 |.int _,_,h=>by unfold Rw at h ⊢;exact h
 |.str _,_,h=>by unfold Rw at h ⊢;exact h
 |.ty _,_,h=>by unfold Rw at h ⊢;exact h
 |.tup ws,_,h=>by
  unfold Rw at h ⊢;obtain⟨a,xs,e1,e2,b⟩:=h;exact⟨a,xs,e1,Zj e.f e2,Rws.mono e ws xs b⟩
 |.lst ws,_,h=>by
  unfold Rw at h ⊢;obtain⟨a,xs,e1,e2,b⟩:=h;exact⟨a,xs,e1,e.f a _ e2,Rws.mono e ws xs b⟩
 |.frz ws,_,h=>by
  unfold Rw at h ⊢;obtain⟨a,xs,e1,e2,b⟩:=h;exact⟨a,xs,e1,JJ e.f e2,Rws.mono e ws xs b⟩
 |.ref n,_,h=>by
  unfold Rw at h ⊢;obtain⟨e1,e2⟩:=h;exact⟨Nl e1 e.n,by rw[e.ρ n e1];exact e2⟩
theorem Rws.mono(e:Ext R R'):∀(ws:List W) (b:List V),Rws K R ws b->Rws K R' ws b
 |[],_,h=>by unfold Rws at h ⊢;exact h
 |w::ws,_,h=>by
  unfold Rws at h ⊢;obtain⟨v,a,e1,e2,c⟩:=h;exact⟨v,a,e1,Rw.mono e w v e2,Rws.mono e ws a c⟩
end
theorem Rws.nil_iff:Rws K R [] a↔a=[]:=by unfold Rws;exact Iff.rfl
theorem Rws.cons_iff:Rws K R (w::ws) b↔∃v a,b=v::a/\Rw K R w v/\Rws K R ws a:=by
 constructor
 ·intro h;unfold Rws at h;exact h
 ·intro h;unfold Rws;exact h
theorem Rws.nil:Rws K R [] []:=Rws.nil_iff.mpr rfl
theorem Rws.cons(a:Rw K R w v)(b:Rws K R ws c):Rws K R (w::ws) (v::c):=Rws.cons_iff.mpr ⟨v,c,rfl,a,b⟩
theorem Rws.paired:∀{ws:List W} {c:List V},Rws K R ws c->Paired (Rw K R) ws c
 |[],c,h=>by rw[Rws.nil_iff]at h;subst h;exact .nil
 |w::ws,c,h=>by
  rw[Rws.cons_iff]at h;obtain⟨v,d,rfl,a,b⟩:=h;exact .cons a (Rws.paired b)
theorem Rws.of:∀{ws:List W} {c:List V},Paired (Rw K R) ws c->Rws K R ws c
 |_,_,.nil=>Rws.nil
 |_,_,.cons a b=>Rws.cons a (Rws.of b)
theorem Rws.length(h:Rws K R ws a):ws.length=a.length:=EH h.paired
theorem Rws.get:∀{ws:List W} {c:List V} {i:Nat} {w:W},Rws K R ws c->ws[i]?=some w->∃v,c[i]?=some v/\Rw K R w v
 |[],_,_,_,_,e=>by simp at e
 |w::ws,c,0,x,h,e=>by
  rw[Rws.cons_iff]at h;obtain⟨v,d,rfl,a,b⟩:=h;simp at e;subst e;exact⟨v,by simp,a⟩
 |w::ws,c,i+1,x,h,e=>by
  rw[Rws.cons_iff]at h;obtain⟨v,d,rfl,a,b⟩:=h;obtain⟨y,g,f⟩:=Rws.get (i:=i) b (by simpa using e);exact⟨y,by simpa using g,f⟩
theorem Rws.append:∀{ws us:List W} {c xs:List V},Rws K R ws c->Rws K R us xs->Rws K R (ws++us) (c++xs)
 |[],us,c,xs,h,q=>by rw[Rws.nil_iff]at h;subst h;exact q
 |w::ws,us,c,xs,h,q=>by
  rw[Rws.cons_iff]at h;obtain⟨v,d,rfl,a,b⟩:=h;exact Rws.cons a (Rws.append b q)
theorem Rws.take:∀{ws:List W} {c:List V} (n:Nat),Rws K R ws c->Rws K R (ws.take n) (c.take n)
 |_,_,0,_=>by simp;exact Rws.nil
 |[],c,n+1,h=>by rw[Rws.nil_iff]at h;subst h;simp;exact Rws.nil
 |w::ws,c,n+1,h=>by
  rw[Rws.cons_iff]at h;obtain⟨v,d,rfl,a,b⟩:=h;exact Rws.cons a (Rws.take n b)
theorem Rws.drop:∀{ws:List W} {c:List V} (n:Nat),Rws K R ws c->Rws K R (ws.drop n) (c.drop n)
 |_,_,0,h=>by simpa using h
 |[],c,n+1,h=>by rw[Rws.nil_iff]at h;subst h;simp;exact Rws.nil
 |w::ws,c,n+1,h=>by
  rw[Rws.cons_iff]at h;obtain⟨v,d,rfl,a,b⟩:=h;exact Rws.drop n b
theorem Rws.set:∀{ws:List W} {c:List V} {w:W} {v:V} (n:Nat),Rws K R ws c->Rw K R w v->Rws K R (ws.set n w) (c.set n v)
 |[],c,_,_,n,h,_=>by rw[Rws.nil_iff]at h;subst h;simp;exact Rws.nil
 |x::ws,c,w,v,0,h,q=>by
  rw[Rws.cons_iff]at h;obtain⟨y,d,rfl,a,b⟩:=h;exact Rws.cons q b
 |x::ws,c,w,v,n+1,h,q=>by
  rw[Rws.cons_iff]at h;obtain⟨y,d,rfl,a,b⟩:=h;exact Rws.cons a (Rws.set n b q)
end
noncomputable def Qd9:Nat->W->Option Tr
 |0,_=>none
 |_+1,.int i=>some (.i i)
 |_+1,.bl b=>some (.i (if b then 1 else 0))
 |_+1,.str x=>some (.s x)
 |n+1,.tup ws=>(ws.mapM (Qd9 n)).map .t
 |_+1,_=>none
noncomputable def nrm:W->Option Tr
 |.tup ws=>Qd9 8 (.tup ws)
 |_=>none
section
variable(K:Nd)
noncomputable def Ro(R:Rn):MO->Option HO->Prop
 |.lst ws,o=>∃xs,o=some (.lst xs)/\Rws K R ws xs
 |.dic kvs,o=>∃a:List (Key×V),o=some (.dK a)/\Paired (fun p q=>p.1=q.1/\Rw K R p.2 q.2) kvs a
 |.dct kvs,o=>∃a:List (Tr×Addr×V),o=some (.dT a)/\Paired (fun p q=>Rw K R p.1 (.ref q.2.1)/\nrm p.1=some q.1/\Rw K R p.2 q.2.2) kvs a
 |.ins C fs,o=>∃(c:Addr) (b:List (Str×V)),o=some (.ins C c b)/\Paired (fun p q=>p.1=q.1/\Rw K R p.2 q.2) fs b
structure Rh(R:Rn)(h:MH)(H:Hp):Prop where
 len:R.N=h.length
 sub:∀a o,R.F a=some o->H a=some o
 sep:∀n,n<R.N->R.F (R.ρ n)=none
 inj:∀m n,m<R.N->n<R.N->R.ρ m=R.ρ n->m=n
 obj:∀n o,h[n]?=some o->Ro K R o (H (R.ρ n))
 gsub:∀a o,R.G a=some o->H a=some o
 gsep:∀n,n<R.N->R.G (R.ρ n)=none
 gf:∀a o,R.G a=some o->R.F a=none
def Rst(R:Rn)(a:MSt)(σ:L2.St):Prop:=a.length=σ.length/\∀(i:Nat) (w:W),a[i]?=some (some w)->∃v,σ[i]?=some (some v)/\Rw K R w v
end
section
variable{K:Nd}{R R':Rn}{h:MH}{H:Hp}{σi:MSt}{σ:L2.St}
theorem Ro.mono(e:Ext R R')(q:Ro K R o u):Ro K R' o u:=by
 cases o with
 |lst f=>obtain⟨d,e1,e2⟩:=q;exact⟨d,e1,Rws.mono e f d e2⟩
 |dic kvs=>obtain⟨c,e1,e2⟩:=q;exact⟨c,e1,Paired.mapP e2 fun a b z=>⟨z.1,Rw.mono e _ _ z.2⟩⟩
 |dct kvs=>obtain⟨c,e1,e2⟩:=q;exact⟨c,e1,Paired.mapP e2 fun a b z=>⟨Rw.mono e _ _ z.1,z.2.1,Rw.mono e _ _ z.2.2⟩⟩
 |ins C fs=>obtain⟨i,g,e1,e2⟩:=q;exact⟨i,g,e1,Paired.mapP e2 fun a b z=>⟨z.1,Rw.mono e _ _ z.2⟩⟩
theorem Ro.some(q:Ro K R o u):∃x,u=some x:=by
 cases o with
 |lst c=>obtain⟨b,e1,e2⟩:=q;exact⟨_,e1⟩
 |dic kvs=>obtain⟨a,e1,e2⟩:=q;exact⟨_,e1⟩
 |dct kvs=>obtain⟨a,e1,e2⟩:=q;exact⟨_,e1⟩
 |ins C fs=>obtain⟨e,d,e1,e2⟩:=q;exact⟨_,e1⟩
theorem Rst.mono(e:Ext R R')(q:Rst K R σi σ):Rst K R' σi σ:=⟨q.1,fun i w h=>by
 obtain⟨v,b,a⟩:=q.2 i w h
 exact⟨v,b,Rw.mono e _ _ a⟩⟩
theorem Rst.set(q:Rst K R σi σ)(r:Rw K R w v):Rst K R (σi.set i (some w)) (σ.set i (some v)):=by
 refine⟨by rw[Dc,Dc];exact q.1,fun j u e=>?_⟩;rw[List.getElem?_set]at e ⊢
 by_cases a:i=j
 ·subst a;rw[if_pos rfl]at e ⊢
  by_cases b:i<σi.length
  ·rw[if_pos b]at e;rw[if_pos (q.1▸b)];cases e;exact⟨v,rfl,r⟩
  ·rw[if_neg b]at e;cases e
 ·rw[if_neg a]at e ⊢;exact q.2 j u e
theorem Rh.there(q:Rh K R h H)(b:n<R.N):∃o u,h[n]?=some o/\H (R.ρ n)=some u:=by
 have a:n<h.length:=q.len▸b;obtain⟨u,hu⟩:=(q.obj n h[n] (Nk a)).some;exact⟨h[n],u,Nk a,hu⟩
theorem Rh.ne(q:Rh K R h H)(a:H p=none)(b:n<R.N):R.ρ n≠p:=fun e=>by
 obtain⟨o,u,_,hu⟩:=q.there b;rw[e,a]at hu;cases hu
theorem Rh.fix(q:Rh K R h H)(c:H p=none) :
  Ext R { R with F:=upd R.F p o }/\Rh K { R with F:=upd R.F p o } h (upd H p o):=by
 have g:R.F p=none:=by
  cases e:R.F p with
  |none=>rfl
  |some u=>have:=q.sub p u e;rw[c]at this;cases this
 have x:Ext R { R with F:=upd R.F p o }:=⟨Nw _,fun _ _=>rfl,fun a u e=>by
  show upd R.F p o a=some u
  rw[Qy (fun z=>by rw[z,g]at e;cases e)];exact e,rfl⟩
 have f:∀a u,R.G a=some u->a≠p:=fun a u e z=>by have:=q.gsub a u e;rw[z,c]at this;cases this
 refine⟨x,q.len,fun a u e=>?_,fun n d=>?_,q.inj,fun n u e=>?_,fun a u e=>?_,q.gsep,fun a u e=>?_⟩
 rotate_right 2
 ·rw[Qy (f a u e)];exact q.gsub a u e
 ·show upd R.F p o a=none;rw[Qy (f a u e)];exact q.gf a u e
 ·by_cases z:a=p
  ·subst z;have b:upd R.F a o a=some u:=e;rw[Jm]at b ⊢;exact b
  ·have b:upd R.F p o a=some u:=e;rw[Qy z]at b ⊢;exact q.sub a u b
 ·show upd R.F p o (R.ρ n)=none;rw[Qy (q.ne c d)];exact q.sep n d
 ·have d:n<R.N:=by rw[q.len];exact(Nj.mp e).1
  show Ro K _ u (upd H p o (R.ρ n));rw[Qy (q.ne c d)];exact(q.obj n u e).mono x
theorem Rh.tup(q:Rh K R h H)(a:H p=none)(r:Rws K R ws xs) :
  ∃R',Ext R R'/\Rh K R' h (upd H p (.tup xs))/\Rw K R' (.tup ws) (.ref p):=by
 obtain⟨x,y⟩:=q.fix (o:=.tup xs) a;refine⟨_,x,y,?_⟩;unfold Rw;exact⟨p,xs,rfl,SqT.of Jm,Rws.mono x _ _ r⟩
theorem Rh.lstI(q:Rh K R h H)(a:H p=none)(r:Rws K R ws xs) :
  ∃R',Ext R R'/\Rh K R' h (upd H p (.lst xs))/\Rw K R' (.lst ws) (.ref p):=by
 obtain⟨x,y⟩:=q.fix (o:=.lst xs) a;refine⟨_,x,y,?_⟩;unfold Rw;exact⟨p,xs,rfl,Jm,Rws.mono x _ _ r⟩
theorem Rh.new(q:Rh K R h H)(f:H p=none)(r:∀R',Ext R R'->Ro K R' mo (some o)) :
  ∃R',Ext R R'/\Rh K R' (h++[mo]) (upd H p o)/\Rw K R' (.ref h.length) (.ref p):=by
 let R':Rn:={ ρ:=fun n=>if n=R.N then p else R.ρ n,N:=R.N+1,F:=R.F,G:=R.G }
 have hr:∀n,n<R.N->R'.ρ n=R.ρ n:=fun n b=>if_neg (NS b);have d:R'.ρ R.N=p:=if_pos rfl;have x:Ext R R':=⟨Ob _,hr,fun _ _ e=>e,rfl⟩
 have i:∀a u,R.G a=some u->a≠p:=fun a u e z=>by have:=q.gsub a u e;rw[z,f]at this;cases this
 have j:R.F p=none:=by
  cases e:R.F p with
  |none=>rfl
  |some u=>have:=q.sub p u e;rw[f]at this;cases this
 have below:∀n,n<R.N+1->n<R.N\/n=R.N:=fun n b=>Nat.lt_or_eq_of_le (Fa b)
 have g:∀n,n<R.N+1->R.G (R'.ρ n)=none:=fun n b=>by
  rcases below n b with b|b
  ·rw[hr n b];exact q.gsep n b
  ·subst b;rw[d];cases e:R.G p with
   |none=>rfl
   |some u=>exact absurd rfl (i p u e)
 refine⟨R',x,⟨?_,fun a u e=>?_,fun n b=>?_,fun m n c b e=>?_,fun n u e=>?_,fun a u e=>by rw[Qy (i a u e)];exact q.gsub a u e,g,q.gf⟩,?_⟩
 ·show R.N+1=_;rw[NC,q.len];rfl
 ·have z:a≠p:=fun z=>by have l:R.F a=some u:=e;rw[z,j]at l;cases l
  rw[Qy z];exact q.sub a u e
 ·rcases below n b with b|b
  ·rw[hr n b];exact q.sep n b
  ·subst b;rw[d];exact j
 ·rcases below m c with c|c<;>rcases below n b with b|b
  ·rw[hr m c,hr n b]at e;exact q.inj m n c b e
  ·subst b;rw[hr m c,d]at e;exact absurd e (q.ne f c)
  ·subst c;rw[hr n b,d]at e;exact absurd e.symm (q.ne f b)
  ·rw[c,b]
 ·have b:n<R.N+1:=by
   have:=(Nj.mp e).1;rw[NC,<-q.len]at this;exact this
  rcases below n b with b|b
  ·rw[hr n b,Qy (q.ne f b)];rw[N5 (by rw[<-q.len];exact b)]at e;exact(q.obj n u e).mono x
  ·subst b;rw[d,Jm];rw[Ew (by rw[q.len];exact Nw _),q.len,LF]at e;cases e;exact r R' x
 ·unfold Rw;refine⟨by rw[<-q.len];exact EJ _,?_⟩;rw[<-q.len,d]
theorem Rh.put(q:Rh K R h H)(b:n<R.N)(r:Ro K R mo (some o)):Rh K R (h.set n mo) (upd H (R.ρ n) o):=by
 refine⟨by rw[Dc];exact q.len,fun a u e=>?_,q.sep,q.inj,fun m u e=>?_,fun a u e=>?_,q.gsep,q.gf⟩
 rotate_right
 ·have z:a≠R.ρ n:=fun z=>by rw[z,q.gsep n b]at e;cases e
  rw[Qy z];exact q.gsub a u e
 ·have z:a≠R.ρ n:=fun z=>by rw[z,q.sep n b]at e;cases e
  rw[Qy z];exact q.sub a u e
 ·by_cases z:n=m
  ·subst z;rw[Jm];rw[E4 (by rw[<-q.len];exact b)]at e;cases e;exact r
  ·have c:m<R.N:=by
    have:=(Nj.mp e).1;rw[Dc,<-q.len]at this;exact this
   rw[Di z]at e;rw[Qy (fun w=>z (q.inj m n c b w).symm)];exact q.obj m u e
theorem Rh.tupAt(q:Rh K R h H)(r:Rw K R (.tup ws) v):∃a xs,v=.ref a/\SqT K H a xs/\Rws K R ws xs:=by
 unfold Rw at r;obtain⟨a,xs,e1,e2,b⟩:=r;exact⟨a,xs,e1,Zj q.sub e2,b⟩
theorem Rh.lstAt(q:Rh K R h H)(r:Rw K R (.lst ws) v):∃a xs,v=.ref a/\H a=some (.lst xs)/\Rws K R ws xs:=by
 unfold Rw at r;obtain⟨a,xs,e1,e2,b⟩:=r;exact⟨a,xs,e1,q.sub a _ e2,b⟩
theorem Rh.frzAt(q:Rh K R h H)(r:Rw K R (.frz ws) v):∃a xs,v=.ref a/\SqL K H a xs/\Rws K R ws xs:=by
 unfold Rw at r;obtain⟨a,xs,e1,e2,b⟩:=r;exact⟨a,xs,e1,JJ q.sub e2,b⟩
noncomputable def lsW(h:MH):W->Option (List W)
 |.lst ws=>some ws
 |.frz ws=>some ws
 |.ref n=>match h[n]? with|some (.lst ws)=>some ws|_=>none
 |_=>none
noncomputable def loW(h:MH):W->Option (List W)
 |.lst ws=>some ws
 |.ref n=>match h[n]? with|some (.lst ws)=>some ws|_=>none
 |_=>none
theorem Rh.loAt(q:Rh K R h H)(r:Rw K R w v)(e:loW h w=some ws):∃a xs,v=.ref a/\H a=some (.lst xs)/\Rws K R ws xs:=by
 cases w with
 |lst b=>cases e;exact q.lstAt r
 |ref n=>
  simp only[loW]at e;split at e
  ·rename_i b c;cases e;unfold Rw at r;obtain⟨xs,f,d⟩:=q.obj n _ c;exact⟨_,xs,r.2,f,d⟩
  ·cases e
 |_=>cases e
theorem Rh.lsAt(q:Rh K R h H)(r:Rw K R w v)(e:lsW h w=some ws):∃a xs,v=.ref a/\SqL K H a xs/\Rws K R ws xs:=by
 cases w with
 |lst b=>cases e;obtain⟨a,xs,e1,e2,g⟩:=q.lstAt r;exact⟨a,xs,e1,SqL.of e2,g⟩
 |frz b=>cases e;exact q.frzAt r
 |ref n=>
  simp only[lsW]at e;split at e
  ·rename_i b c;cases e;unfold Rw at r;obtain⟨xs,f,d⟩:=q.obj n _ c;exact⟨_,xs,r.2,SqL.of f,d⟩
  ·cases e
 |_=>cases e
theorem Rh.refAt(q:Rh K R h H)(r:Rw K R (.ref n) v)(e:h[n]?=some (.lst ws)) :
  n<R.N/\v=.ref (R.ρ n)/\∃xs,H (R.ρ n)=some (.lst xs)/\Rws K R ws xs:=by
 unfold Rw at r;exact⟨r.1,r.2,q.obj n _ e⟩
end
theorem Rw.non_eq{K:Nd}(r:Rw K R .non v):v=.non:=by unfold Rw at r;exact r
theorem Rw.bl_eq{K:Nd}(r:Rw K R (.bl b) v):v=.bl b:=by unfold Rw at r;exact r
theorem Rw.int_eq{K:Nd}(r:Rw K R (.int i) v):v=.int i:=by unfold Rw at r;exact r
theorem Rw.str_eq{K:Nd}(r:Rw K R (.str x) v):v=.str x:=by unfold Rw at r;exact r
theorem Rw.ty_eq{K:Nd}(r:Rw K R (.ty n) v):v=.ty n:=by unfold Rw at r;exact r
theorem Rw.ty{K:Nd}(n:String):Rw K R (.ty n) (.ty n):=by unfold Rw;rfl
theorem Rw.non{K:Nd}:Rw K R .non .non:=by unfold Rw;rfl
theorem Rw.bl{K:Nd}(b:Bool):Rw K R (.bl b) (.bl b):=by unfold Rw;rfl
theorem Rw.int{K:Nd}(i:Int):Rw K R (.int i) (.int i):=by unfold Rw;rfl
theorem Rw.str{K:Nd}(x:Str):Rw K R (.str x) (.str x):=by unfold Rw;rfl
end Mi
namespace Mi
open L2
noncomputable abbrev ME:=MSt->MH->Option (W×MH)
noncomputable abbrev MT:=MSt->MH->Option (Bool×MH)
noncomputable abbrev MA:=MSt->MH->Option (List W×MH)
inductive MF where
 |nx (σ:MSt) (h:MH)|rt (w:W) (h:MH)|bk (σ:MSt) (h:MH)|ct (σ:MSt) (h:MH)
noncomputable abbrev SM:=MSt->MH->Option MF
noncomputable abbrev FM:=List W->MH->Option (W×MH)
section
variable(K:Nd)
def After(R:Rn)(w:W)(h':MH)(Q:VK):Prop:=∀a b v,Ext R a->Rh K a h' b->Rw K a w v->Q v b
noncomputable def tI(m:ME):TE:=fun c H Q=>∃R a h w b,Rh K R h H/\Rst K R a c/\m a h=some (w,b)/\After K R w b Q
noncomputable def tIT(m:MT):TT:=fun f H Q=>∃R a h b c,Rh K R h H/\Rst K R a f/\m a h=some (b,c)/\∀d e,Ext R d->Rh K d c e->Q b e
noncomputable def tIA(m:MA):TA:=fun g H Q=>∃R a h c e,Rh K R h H/\Rst K R a g/\m a h=some (c,e)/\∀b f d,Ext R b->Rh K b e f->Rws K b c d->Q d f
noncomputable def Ends(R:Rn)(D:L2.Ends):MF->Prop
 |.nx a h=>∀R' b σ,Ext R R'->Rh K R' h b->Rst K R' a σ->D.nx σ b
 |.bk a h=>∀R' b σ,Ext R R'->Rh K R' h b->Rst K R' a σ->D.bk σ b
 |.ct a h=>∀R' b σ,Ext R R'->Rh K R' h b->Rst K R' a σ->D.ct σ b
 |.rt w h=>After K R w h D.rt
noncomputable def tS(m:SM):TS:=fun D b H=>∃R a h r,Rh K R h H/\Rst K R a b/\m a h=some r/\Ends K R D r
noncomputable def spM(n:Nat)(m:FM):Sp:=fun c H Q _=>∃R a h w b,a.length=n/\Rh K R h H/\Rws K R a c/\m a h=some (w,b)/\After K R w b Q
end
def PM(X:Cx)(e:Expr)(m:ME):Prop:=PE X e (tI X.K m)
def PMT(X:Cx)(e:Expr)(m:MT):Prop:=PT X e (tIT X.K m)
def PMA(X:Cx)(es:List Expr)(m:MA):Prop:=PA X es (tIA X.K m)
def PMS(X:Cx)(st:Stmt)(m:SM):Prop:=PS X st (tS X.K m)
def QdA(X:Cx)(st:List Stmt)(m:SM):Prop:=PSs X st (tS X.K m)
section
variable{K:Nd}{R R1 R2:Rn}
theorem After.ext(a:After K R w h' Q)(x:Ext R R1):After K R1 w h' Q:=fun b c v e=>a b c v (x.trans e)
theorem Ends.ext(a:Ends K R D r)(x:Ext R R1):Ends K R1 D r:=by
 cases r with
 |nx d h=>exact fun b c v e=>a b c v (x.trans e)
 |bk d h=>exact fun b c v e=>a b c v (x.trans e)
 |ct d h=>exact fun b c v e=>a b c v (x.trans e)
 |rt w h=>exact After.ext a x
end
theorem Q2(h:PE X e t)(i:∀σ H Q,t' σ H Q->t σ H Q):PE X e t':=fun a s σ H Q I q=>h a s σ H Q I (i _ _ _ q)
theorem Uf(h:PT X e t)(i:∀σ H Q,t' σ H Q->t σ H Q):PT X e t':=fun a s σ H Q I q=>h a s σ H Q I (i _ _ _ q)
theorem Qet(h:PW X e t)(i:∀σ H Q,t' σ H Q->t σ H Q):PW X e t':=fun b a s σ H Q I q=>h b a s σ H Q I (i _ _ _ q)
theorem QeB(h:PA X es t)(i:∀σ H Q,t' σ H Q->t σ H Q):PA X es t':=fun pos a s σ H Q I q=>h pos a s σ H Q I (i _ _ _ q)
theorem VS{st:Stmt}(h:PS X st t)(i:∀D σ H,t' D σ H->t D σ H):PS X st t':=fun a s σ H D I q=>h a s σ H D I (i _ _ _ q)
theorem Qcg{st:List Stmt}(h:PSs X st t)(i:∀D σ H,t' D σ H->t D σ H):PSs X st t':=fun a s σ H D I q=>h a s σ H D I (i _ _ _ q)
noncomputable def Qb(i:Nat):ME:=fun a h=>match a[i]? with|some (some w)=>some (w,h)|_=>none
noncomputable def mC(w:W):ME:=fun _ h=>some (w,h)
section
variable{X:Cx}
theorem Qh3(i:Nat)(hN:X.N[i]?=some x:=by rfl)(d:Vis X.env.scope x:=by first|exact Or.inl rfl|exact Or.inr (Or.inl rfl)|exact Or.inr (Or.inr rfl))(hd:(x==("__debug__":Str))=false:=by decide)
  (a:(x==("__classdict__":Str))=false:=by decide):PM X (.Name x pos) (Qb i):=Q2 (Qg6 hN d hd a) <|by
 rintro l H Q ⟨R,b,h,w,n,c,st,e,k⟩
 unfold Qb at e;split at e
 ·rename_i m j;cases e;obtain⟨v,g,f⟩:=st.2 i _ j;exact⟨v,g,k R H v (Ext.refl _) c f⟩
 ·cases e
theorem QaE(r:∀R,Rw X.K R w v)(q:tI X.K (mC w) σ H Q):tC v σ H Q:=by
 obtain⟨R,a,h,c,d,b,st,e,k⟩:=q;cases e;exact k R H v (Ext.refl _) b (r R)
theorem Qib{i j pos}:PM X (.Constant (.int i) j pos) (mC (.int i)):=Q2 QhJ fun _ _ _=>QaE fun _=>Rw.int _
theorem QjW{b j pos}:PM X (.Constant (.bool b) j pos) (mC (.bl b)):=Q2 QjM fun _ _ _=>QaE fun _=>Rw.bl _
theorem G9{j pos}:PM X (.Constant .none j pos) (mC .non):=Q2 Qih fun _ _ _=>QaE fun _=>Rw.non
theorem QfZ(d:Gl X x)(c:X.mg x=none)(a:bootBuiltins x=some u)(r:RelV v u)(rw:∀R,Rw X.K R w v)(b:x≠"__name__":=by decide)(hd:(x==("__debug__":Str))=false:=by decide):PM X (.Name x pos) (mC w):=
 Q2 (QfD d c a r b hd) fun _ _ _=>QaE rw
theorem Qhv{x j pos}:PM X (.Constant (.str x) j pos) (mC (.str x)):=Q2 Qid fun _ _ _=>QaE fun _=>Rw.str _
theorem QfU(b:Gl X x)(a:X.mg x=some u)(r:RelV v u)(rw:∀R,Rw X.K R w v)(hd:(x==("__debug__":Str))=false:=by decide):PM X (.Name x pos) (mC w):=
 Q2 (UY b a r hd) fun _ _ _=>QaE rw
end
noncomputable def Qc(f:W->W->MH->Option (W×MH))(c b:ME):ME:=fun a h=>(c a h).bind fun p=>(b a p.2).bind fun q=>f p.1 q.1 q.2
def F1(K:Nd)(f:W->MH->Option (W×MH))(x:V)(H:Hp)(Q:VK):Prop:=∃R h a w b,Rh K R h H/\Rw K R a x/\f a h=some (w,b)/\After K R w b Q
def F2(K:Nd)(f:W->W->MH->Option (W×MH))(x y:V)(H:Hp)(Q:VK):Prop:=∃R h a b w c,Rh K R h H/\Rw K R a x/\Rw K R b y/\f a b h=some (w,c)/\After K R w c Q
def Fs(K:Nd)(f:List W->MH->Option (W×MH))(xs:List V)(H:Hp)(Q:VK):Prop:=∃R h a w b,Rh K R h H/\Rws K R a xs/\f a h=some (w,b)/\After K R w b Q
noncomputable def mUn(f:W->MH->Option (W×MH))(b:ME):ME:=fun a h=>(b a h).bind fun p=>f p.1 p.2
noncomputable def mFn(f:List W->MH->Option (W×MH))(b:MA):ME:=fun a h=>(b a h).bind fun p=>f p.1 p.2
section
variable{K:Nd}{σ:L2.St}{H:Hp}{Q:VK}
theorem un1(q:tI K (mUn f m) σ H Q):tI K m σ H fun x g=>F1 K f x g Q:=by
 obtain⟨R,b,h,w,n,l,st,e,k⟩:=q;obtain⟨⟨a,d⟩,o,e2⟩:=Nc.mp e;exact⟨R,b,h,a,d,l,st,o,fun R1 g x i c j=>⟨R1,d,a,w,n,c,j,e2,k.ext i⟩⟩
theorem Qg4(q:tI K (Qc f u t) σ H Q):tI K u σ H fun x o=>tI K t σ o fun y n=>F2 K f x y n Q:=by
 obtain⟨R,c,h,w,v,s,st,e,k⟩:=q;obtain⟨⟨a,m⟩,A,e2⟩:=Nc.mp e;obtain⟨⟨b,l⟩,z,B⟩:=Nc.mp e2
 exact⟨R,c,h,a,m,s,st,A,fun R1 o x j g r=>⟨R1,c,m,b,l,g,st.mono j,z,fun R2 n y i d p=>
  ⟨R2,l,a,b,w,v,d,Rw.mono i _ _ r,p,B,k.ext (j.trans i)⟩⟩⟩
theorem Qaj(q:tI K (mFn f m) σ H Q):tIA K m σ H fun xs g=>Fs K f xs g Q:=by
 obtain⟨R,b,h,w,n,l,st,e,k⟩:=q;obtain⟨⟨a,d⟩,o,e2⟩:=Nc.mp e;exact⟨R,b,h,a,d,l,st,o,fun R1 g x i c j=>⟨R1,d,a,w,n,c,j,e2,k.ext i⟩⟩
end
noncomputable def Jw:Expr->Bool
 |.Starred ..=>true
 |_=>false
noncomputable def V3(es:List Expr):Bool:=es.all fun e=>!Jw e
theorem QP(h:Jw e=false):starEach (e::es) env=(false,eval e env)::starEach es env:=by
 cases e<;>first|rfl|cases h
theorem Z8(h:V3 es=true):(backTo pos (starEach es env)).any (·.1)=false:=by
 induction es with
 |nil=>rfl
 |cons e es a=>
  unfold V3 at h a;rw[Fj,NH]at h;have b:Jw e=false:=by simpa using h.1
  rw[QP b];have:=a h.2;unfold backTo at this ⊢;rw[NK,EW,this];rfl
theorem QdU(h:V3 es=true):(backTo pos (starEach es env)).all (fun x=>!x.1)=true:=by
 have:=Z8 (env:=env) (pos:=pos) h;rw[List.all_eq_not_any_not];simp only[Bool.not_not];rw[this];rfl
noncomputable def Qd:MA:=fun _ h=>some ([],h)
noncomputable def Qa(c:ME)(b:MA):MA:=fun a h=>(c a h).bind fun p=>(b a p.2).bind fun q=>some (p.1::q.1,q.2)
section
variable{X:Cx}{e:Expr}{es:List Expr}{m:ME}{ms:MA}{pos:Pos}
theorem Qfv:PMA X [] Qd:=QeB QhB <|by
 rintro c H Q ⟨R,a,h,d,f,b,st,e,k⟩
 cases e;exact k R H [] (Ext.refl _) b Rws.nil
theorem Qdr(s:PM X e m)(hr:PMA X es ms)(r:Jw e=false:=by rfl):PMA X (e::es) (Qa m ms):=
 QeB (QeY s hr (QP r)) fun z H Q l=>by
  obtain⟨R,c,h,A,B,q,st,e,k⟩:=l;obtain⟨⟨a,j⟩,v,e2⟩:=Nc.mp e;obtain⟨⟨b,t⟩,u,w⟩:=Nc.mp e2;cases w
  exact⟨R,c,h,a,j,q,st,v,fun R1 C x i f p=>⟨R1,c,j,b,t,f,st.mono i,u,fun R2 y n g d o=>
   k R2 y (x::n) (i.trans g) d (Rws.cons (Rw.mono g _ _ p) o)⟩⟩
noncomputable def Qm(ws:List W)(h:MH):Option (W×MH):=if ws.length<=sizeLine then some (.tup ws,h)else none
noncomputable def UE(ws:List W)(h:MH):Option (W×MH):=if ws.length<=sizeLine then some (.lst ws,h)else none
noncomputable def Qen(ws:List W)(h:MH):Option (W×MH):=if ws.length<=sizeLine then some (.ref h.length,h++[.lst ws])else none
theorem QiG{c}(h:PMA X es ms):PM X (.Tuple es c pos) (mFn Qm ms):=Q2 (QhC h) fun A H Q q=>by
 obtain⟨R,b,x,n,v,s,st,e,k⟩:=Qaj q;refine⟨R,b,x,n,v,s,st,e,fun R1 z o c i r=>?_⟩;obtain⟨R2,C,l,w,B,g,a,e2,k2⟩:=k R1 z o c i r;unfold Qm at e2;split at e2
 ·rename_i u;cases e2;refine⟨by rw[<-a.length];exact u,fun p t=>?_⟩;obtain⟨y,j,f,d⟩:=g.tup t a;exact k2 y _ _ j f d
 ·cases e2
theorem Vg(h:PMA X es ms):PM X (.List es pos) (mFn UE ms):=Q2 (Qeo h) fun A H Q q=>by
 obtain⟨R,b,x,n,v,s,st,e,k⟩:=Qaj q;refine⟨R,b,x,n,v,s,st,e,fun R1 z o j g r=>?_⟩;obtain⟨R2,C,l,w,B,f,a,e2,k2⟩:=k R1 z o j g r;unfold UE at e2;split at e2
 ·rename_i u;cases e2;refine⟨by rw[<-a.length];exact u,fun p t=>?_⟩;obtain⟨y,i,d,c⟩:=f.lstI t a;exact k2 y _ _ i d c
 ·cases e2
theorem Uq(h:PMA X es ms):PM X (.List es pos) (mFn Qen ms):=Q2 (Qeo h) fun C H Q q=>by
 obtain⟨R,b,z,s,y,u,st,e,k⟩:=Qaj q;refine⟨R,b,z,s,y,u,st,e,fun R1 B d n j t=>?_⟩;obtain⟨R2,F,c,w,E,i,a,e2,k2⟩:=k R1 B d n j t;unfold Qen at e2;split at e2
 ·rename_i x;cases e2;refine⟨by rw[<-a.length];exact x,fun p v=>?_⟩;obtain⟨A,l,g,f⟩:=i.new (mo:=.lst c) (o:=.lst d) v fun G r=>⟨d,rfl,Rws.mono r _ _ a⟩
  exact k2 A _ _ l g f
 ·cases e2
end
def OpM(K:Nd)(r:R2)(f:W->W->MH->Option (W×MH)):Prop:=∀x y H Q,F2 K f x y H Q->r x y H Q
def QfP(K:Nd)(r:List V->Hp->VK->Prop)(f:List W->MH->Option (W×MH)):Prop:=∀a H Q,Fs K f a H Q->r a H Q
section
variable{X:Cx}{a b c:Expr}{ma mb mc:ME}{pos:Pos}
theorem ZS{K:Nd}(h:tI K m σ H Q)(i:∀v H,Q v H->Q' v H):tI K m σ H Q':=by
 obtain⟨R,d,h,w,g,f,st,e,k⟩:=h;exact⟨R,d,h,w,g,f,st,e,fun j l v a b c=>i _ _ (k j l v a b c)⟩
theorem Wy{K:Nd}(h:tIA K m σ H Q)(i:∀v H,Q v H->Q' v H):tIA K m σ H Q':=by
 obtain⟨R,d,h,w,g,f,st,e,k⟩:=h;exact⟨R,d,h,w,g,f,st,e,fun j l v a b c=>i _ _ (k j l v a b c)⟩
theorem XN(g:OpR X (binaryOp op) r)(h:OpM X.K r f)(j:PM X a ma)(i:PM X b mb):PM X (.BinOp a op b pos) (Qc f ma mb):=
 Q2 (Qjt g j i) fun _ _ _ q=>ZS (Qg4 q) fun _ _ e=>ZS e fun _ _ d=>h _ _ _ _ d
theorem KY(g:OpR X (compareOp op) r)(i:OpM X.K r f)(l:PM X a ma)(j:PM X b mb)(h:behindInMarks op b=false:=by rfl):PM X (.Compare a [op] [b] pos) (Qc f ma mb):=
 Q2 (QeT g l j h) fun _ _ _ q=>ZS (Qg4 q) fun _ _ e=>ZS e fun _ _ d=>i _ _ _ _ d
noncomputable def Qr(m:ME):MT:=fun d h=>(m d h).bind fun p=>match p.1 with|.bl b=>some (b,p.2)|_=>none
theorem YI{K:Nd}(q:tIT K (Qr m) σ H Q):tI K m σ H fun x g=>∃k,x=.bl k/\Q k g:=by
 obtain⟨R,d,h,b,p,j,st,e,k⟩:=q;obtain⟨⟨w,o⟩,l,e2⟩:=Nc.mp e;cases w<;>simp only at e2<;>first|(cases e2;exact⟨R,d,h,_,_,j,st,l,fun n g v x f i=>⟨_,i.bl_eq,k n g x f⟩⟩)|(cases e2)
theorem Jf(g:OpR X (compareOp op) r)(i:OpM X.K r f)(l:PM X a ma)(j:PM X b mb)(h:behindInMarks op b=false:=by rfl):PMT X (.Compare a [op] [b] pos) (Qr (Qc f ma mb)):=
 Uf (QaQ g l j h) fun _ _ _ q=>ZS (Qg4 (YI q)) fun _ _ e=>ZS e fun _ _ d=>i _ _ _ _ d
noncomputable def Jz(f e:W->W->MH->Option (W×MH))(ma mb mc:ME):ME:=fun d h=>(ma d h).bind fun p=>(mb d p.2).bind fun q=>(f p.1 q.1 q.2).bind fun z=>match z.1 with
 |.bl true=>(mc d z.2).bind fun y=>e q.1 y.1 y.2
 |.bl false=>some (.bl false,z.2)
 |_=>none
theorem Go{K:Nd}(N:OpM K r f)(u:OpM K M P)(q:tI K (Jz f P ma mb mc) σ H Q):Qcu r M (tI K ma) (tI K mb) (tI K mc) σ H Q:=by
 obtain⟨R,g,h,w,O,L,st,e,k⟩:=q;obtain⟨⟨a,F⟩,Y,e2⟩:=Nc.mp e;obtain⟨⟨b,E⟩,U,e3⟩:=Nc.mp e2;obtain⟨⟨z,D⟩,S,d⟩:=Nc.mp e3;refine⟨R,g,h,a,F,L,st,Y,fun R1 H1 x m s I=>⟨R1,g,F,b,E,s,st.mono m,U,fun R2 H2 y l p B=>?_⟩⟩;refine N _ _ _ _ ⟨R2,E,a,b,z,D,p,Rw.mono l _ _ I,B,S,fun G H3 v j i J=>?_⟩;cases z with
 | bl t=>
  refine⟨t,J.bl_eq,?_⟩;cases t with
  |true=>
   obtain⟨⟨c,C⟩,T,Z⟩:=Nc.mp d;refine QeN ⟨G,g,D,c,C,i,st.mono (m.trans (l.trans j)),T,fun R4 H4 y' A o n=>?_⟩;exact u _ _ _ _ ⟨R4,C,b,c,w,O,o,Rw.mono (j.trans A) _ _ B,n,Z,k.ext (m.trans (l.trans (j.trans A)))⟩
  |false=>
   cases d;exact QfF (k G H3 _ (m.trans (l.trans j)) i (Rw.bl _))
 |non=>cases d
 |int _=>cases d
 |str _=>cases d
 |tup _=>cases d
 |lst _=>cases d
 |frz _=>cases d
 |ref _=>cases d
 |ty _=>cases d
theorem QcV(i:OpR X (compareOp op) r)(l:OpM X.K r f)(e:OpR X (compareOp d) h)(g:OpM X.K h p)(o:PM X a ma)(n:PM X b mb)(m:PM X c mc)
  (j:lastMarks [op,d] [b,c]=false:=by with_unfolding_all rfl):PM X (.Compare a [op,d] [b,c] pos) (Jz f p ma mb mc):=Q2 (QcW i e o n m j) fun _ _ _ q=>Go l g q
theorem WO(i:OpR X (compareOp op) r)(l:OpM X.K r f)(e:OpR X (compareOp d) h)(g:OpM X.K h p)(o:PM X a ma)(n:PM X b mb)(m:PM X c mc)
  (j:lastMarks [op,d] [b,c]=false:=by with_unfolding_all rfl):PMT X (.Compare a [op,d] [b,c] pos) (Qr (Jz f p ma mb mc)):=Uf (Qds i e o n m j) fun _ _ _ q=>Go l g (YI q)
noncomputable def QcX(ma mb:ME):ME:=fun d h=>(ma d h).bind fun p=>match p.1 with|.bl true=>mb d p.2|.bl false=>some (.bl false,p.2)|_=>none
noncomputable def QaC(ma mb:MT):MT:=fun d h=>(ma d h).bind fun p=>match p.1 with|true=>mb d p.2|false=>some (false,p.2)
noncomputable def GS(ma mb:MT):MT:=fun d h=>(ma d h).bind fun p=>match p.1 with|true=>some (true,p.2)|false=>mb d p.2
noncomputable def J6(ma:MT):MT:=fun d h=>(ma d h).bind fun p=>some (!p.1,p.2)
noncomputable def mIf(t:MT)(ma mb:ME):ME:=fun d h=>(t d h).bind fun p=>match p.1 with|true=>ma d p.2|false=>mb d p.2
variable{rest:List Expr}{ta tb:MT}
theorem Yy{op}(h:PM X a ma):PM X (.BoolOp op [a] pos) ma:=Qh0 h
theorem Kz(n:PM X a ma)(m:PM X (.BoolOp .And (b::rest) pos) mb):PM X (.BoolOp .And (a::b::rest) pos) (QcX ma mb):=Q2 (Qh8 n m) <|by
 rintro r H Q ⟨R,d,h,w,o,l,st,e,k⟩
 obtain⟨⟨a,i⟩,p,e2⟩:=Nc.mp e;refine⟨R,d,h,a,i,l,st,p,fun R1 q x g f j=>?_⟩;cases a with
 |bl t=>
  refine⟨t,j.bl_eq,?_⟩;cases t with
  |true=>exact QeN ⟨R1,d,i,w,o,f,st.mono g,e2,k.ext g⟩
  |false=>cases e2;exact QfF (k R1 q _ g f (Rw.bl _))
 |non=>cases e2
 |int _=>cases e2
 |str _=>cases e2
 |tup _=>cases e2
 |lst _=>cases e2
 |frz _=>cases e2
 |ref _=>cases e2
 |ty _=>cases e2
def PMW(X:Cx)(e:Expr)(m:MT):Prop:=PW X e (tIT X.K m)
theorem PMW.pt(h:PMW X e m):PMT X e m:=PW.pt h
theorem Qf1{K:Nd}(q:tIT K (QaC ta tb) σ H Q):QkE (tIT K ta) (tIT K tb) σ H Q:=by
 obtain⟨R,d,h,w,m,l,st,e,k⟩:=q;obtain⟨⟨a,i⟩,n,e2⟩:=Nc.mp e;refine⟨R,d,h,a,i,l,st,n,fun R1 p g f=>?_⟩;cases a with
 |true=>exact QeN ⟨R1,d,i,w,m,f,st.mono g,e2,fun R2 o j=>k R2 o (g.trans j)⟩
 |false=>cases e2;exact QfF (k R1 p g f)
theorem Qia{K:Nd}(q:tIT K (GS ta tb) σ H Q):tOr (tIT K ta) (tIT K tb) σ H Q:=by
 obtain⟨R,d,h,w,m,l,st,e,k⟩:=q;obtain⟨⟨a,i⟩,n,e2⟩:=Nc.mp e;refine⟨R,d,h,a,i,l,st,n,fun R1 p g f=>?_⟩;cases a with
 |true=>cases e2;exact QeN (k R1 p g f)
 |false=>exact QfF ⟨R1,d,i,w,m,f,st.mono g,e2,fun R2 o j=>k R2 o (g.trans j)⟩
theorem QdJ(d:PMT X a ta):PMW X (.BoolOp .And [a] pos) ta:=QgK d
theorem J4(d:PMT X a ta):PMW X (.BoolOp .Or [a] pos) ta:=Qhx d
theorem Qfu(e:PMT X a ta)(d:PMW X (.BoolOp .And (b::rest) pos) tb):PMW X (.BoolOp .And (a::b::rest) pos) (QaC ta tb):=Qet (Qhf e d) fun _ _ _=>Qf1
theorem V6(e:PMT X a ta)(d:PMW X (.BoolOp .Or (b::rest) pos) tb):PMW X (.BoolOp .Or (a::b::rest) pos) (GS ta tb):=Qet (QjA e d) fun _ _ _=>Qia
theorem Qe7(j:PMT X a ta):PMT X (.UnaryOp .Not a pos) (J6 ta):=Uf (Qiq j) <|by
 rintro o H Q ⟨R,d,h,w,p,i,st,e,k⟩
 obtain⟨⟨a,l⟩,m,e2⟩:=Nc.mp e;cases e2;exact⟨R,d,h,a,l,i,st,m,fun R1 n g f=>k R1 n g f⟩
theorem Qin(m:PMT X c ta)(o:PM X a ma)(n:PM X b mb):PM X (.IfExp c a b pos) (mIf ta ma mb):=Q2 (Qdz m o n) <|by
 rintro q H Q ⟨R,d,h,w,j,l,st,e,k⟩
 obtain⟨⟨t,i⟩,p,e2⟩:=Nc.mp e;refine⟨R,d,h,t,i,l,st,p,fun R1 r g f=>?_⟩;cases t with
 |true=>exact QeN ⟨R1,d,i,w,j,f,st.mono g,e2,k.ext g⟩
 |false=>exact QfF ⟨R1,d,i,w,j,f,st.mono g,e2,k.ext g⟩
noncomputable def Qfy(h:MH):W->Option Bool
 |.non=>some false
 |.bl b=>some b
 |.int i=>some (i != 0)
 |.str x=>if x.length<=sizeLine then some ((x.length:Int) != 0)else none
 |.tup ws=>some (!ws.isEmpty)
 |.lst ws=>some (!ws.isEmpty)
 |.frz ws=>some (!ws.isEmpty)
 |.ref n=>match h[n]? with|some (.lst ws)=>some (!ws.isEmpty)|some (.dic kvs)=>some (!kvs.isEmpty)|_=>none
 |.ty _=>none
noncomputable def Wn(m:ME):MT:=fun d h=>(m d h).bind fun p=>(Qfy p.2 p.1).map fun b=>(b,p.2)
theorem Rws.isEmpty{K:Nd}(r:Rws K R ws d):ws.isEmpty=d.isEmpty:=by
 have:=r.length;cases ws<;>cases d<;>simp at this ⊢
theorem QgY{K:Nd}{v:V}{b:Bool}(j:Rh K R h H)(r:Rw K R w v)(e:Qfy h w=some b):Qkm K v H b:=by
 cases w with
 |non=>rw[r.non_eq];cases e;rfl
 |bl b=>rw[r.bl_eq];cases e;rfl
 |int i=>rw[r.int_eq];cases e;rfl
 |str x=>
  rw[r.str_eq];simp only[Qfy]at e;split at e
  ·rename_i p;cases e;exact⟨p,rfl⟩
  ·cases e
 |tup l=>
  obtain⟨a,g,rfl,f,d⟩:=j.tupAt r;cases e;exact .inr (.inl ⟨g,f,by rw[d.isEmpty]⟩)
 |lst l=>
  obtain⟨a,g,rfl,f,d⟩:=j.lstAt r;cases e;exact .inl ⟨g,SqL.of f,by rw[d.isEmpty]⟩
 |frz l=>
  obtain⟨a,g,rfl,f,d⟩:=j.frzAt r;cases e;exact .inl ⟨g,f,by rw[d.isEmpty]⟩
 |ref n=>
  simp only[Qfy]at e;split at e
  ·rename_i l m;cases e;obtain⟨_,rfl,g,f,d⟩:=j.refAt r m;exact .inl ⟨g,SqL.of f,by rw[d.isEmpty]⟩
  ·rename_i kvs m;cases e;unfold Rw at r;obtain⟨o,f,d⟩:=j.obj n _ m;rw[r.2];refine .inr (.inr ⟨o,f,?_⟩);have:=EH d;cases kvs<;>cases o<;>simp at this ⊢
  ·cases e
 |ty _=>cases e
theorem Qfw(n:PM X a ma)(m:∀whole,isTrue a X.env whole=(do let v <-whole;standAt a.pos;holding [v] (truthy v)):=by intro _;rfl):PMT X a (Wn ma):=
 Uf (Qc9 n m) fun s H Q g=>by
  obtain⟨R,f,h,w,u,l,st,e,k⟩:=g;obtain⟨⟨a,t⟩,p,e2⟩:=Nc.mp e;obtain⟨b,o,q⟩:=Nf.mp e2;cases q;exact⟨R,f,h,a,_,l,st,p,fun R1 r x i d j=>⟨_,QgY d j o,k R1 r i d⟩⟩
end
noncomputable def UB:Expr->Bool
 |.ListComp ..=>true
 |.SetComp ..=>true
 |.DictComp ..=>true
 |_=>false
theorem Ks(h:UB e=false):swapsWith e t l env=pure false:=by
 cases e<;>first|rfl|cases h
noncomputable def QF:SM:=fun a h=>some (.nx a h)
noncomputable def QA(a b:SM):SM:=fun d h=>(a d h).bind fun r=>match r with|.nx c e=>b c e|r=>some r
noncomputable def Q8(m:ME):SM:=fun a h=>(m a h).map fun p=>.rt p.1 p.2
noncomputable def ZZ(t:MT)(a b:SM):SM:=fun c h=>(t c h).bind fun p=>match p.1 with|true=>a c p.2|false=>b c p.2
noncomputable def W6(m:ME):SM:=fun a h=>(m a h).map fun p=>.nx a p.2
noncomputable def Zx(i:Nat)(m:ME):SM:=fun a h=>(m a h).map fun p=>.nx (a.set i (some p.1)) p.2
noncomputable def Qey(i:Nat)(f:W->W->MH->Option (W×MH))(m:ME):SM:=fun a h=>match a[i]? with
 |some (some x)=>(m a h).bind fun p=>(f x p.1 p.2).map fun q=>.nx (a.set i (some q.1)) q.2
 |_=>none
section
variable{X:Cx}{st:Stmt}{rest:List Stmt}{a b:SM}{e:Expr}{m:ME}{pos:Pos}
theorem Qf2:QdA X [] QF:=Qcg Qfj <|by
 rintro D d H ⟨R,c,h,r,f,s,e,k⟩
 cases e;exact k R H d (Ext.refl _) f s
theorem QhN{K:Nd}(q:tS K (QA a b) D σ H):Qlf (tS K a) (tS K b) D σ H:=by
 obtain⟨R,f,h,r,o,s,e,k⟩:=q;obtain⟨i,e1,e2⟩:=Nc.mp e;refine⟨R,f,h,i,o,s,e1,?_⟩;cases i with
 |nx c d=>exact fun R1 p j l g n=>⟨R1,c,d,r,g,n,e2,Ends.ext k l⟩
 |rt w d=>cases e2;exact k
 |bk c d=>cases e2;exact k
 |ct c d=>cases e2;exact k
theorem Qdj(h1:PMS X st a)(c:QdA X rest b):QdA X (st::rest) (QA a b):=Qcg (Qdm h1 c) fun _ _ _=>QhN
theorem QeU(h1:PMS X st a):QdA X [st] a:=Qfs h1
theorem Xp(l:PM X e m)(j:UB e=false:=by rfl):PMS X (.Expr e pos) (W6 m):=VS (QeM l (Ks j)) <|by
 rintro D g H ⟨R,c,h,r,i,s,e,k⟩
 obtain⟨⟨w,n⟩,e1,e2⟩:=Nf.mp e;cases e2;exact⟨R,c,h,w,n,i,s,e1,fun R1 o v f d _=>k R1 o g f d (s.mono f)⟩
theorem QfW(f:PM X e m):PMS X (.Return (some e) pos) (Q8 m):=VS (Qha f) <|by
 rintro D i H ⟨R,c,h,r,d,s,e,k⟩
 obtain⟨⟨w,g⟩,e1,e2⟩:=Nf.mp e;cases e2;exact⟨R,c,h,w,g,d,s,e1,k⟩
theorem Qhl(o:PMT X c t)(q:QdA X l a)(p:QdA X j b):PMS X (.If c l j pos) (ZZ t a b):=VS (QjF o q p) <|by
 rintro D u H ⟨R,d,h,r,n,s,e,k⟩
 obtain⟨⟨z,i⟩,e1,e2⟩:=Nc.mp e;refine⟨R,d,h,z,i,n,s,e1,fun R1 v g f=>?_⟩;cases z with
 |true=>exact QeN ⟨R1,d,i,r,f,s.mono g,e2,Ends.ext k g⟩
 |false=>exact QfF ⟨R1,d,i,r,f,s.mono g,e2,Ends.ext k g⟩
theorem Qf9(hN:X.N.Nodup)(p:X.N[i]?=some x)(n:Loc X.env.scope x)(t:PM X e m)(o:UB e=false:=by rfl)(q:X.fn x=true\/X.env.scope.names.lookup x=some .local:=by first|exact .inl rfl|exact .inr rfl|assumption) :
  PMS X (.Assign [.Name x g] e pos) (Zx i m):=VS (QhY hN p n t (Ks o) q) <|by
 rintro D z H ⟨R,c,h,r,l,s,e,k⟩
 obtain⟨⟨w,u⟩,e1,e2⟩:=Nf.mp e;cases e2;exact⟨R,c,h,w,u,l,s,e1,fun R1 y v f d j=>k R1 y _ f d ((s.mono f).set j)⟩
theorem Qhp(c:OpR X (inplaceOp op) r):PIp X op r:=c
theorem YS(hN:X.N.Nodup)(J:X.N[i]?=some x)(G:Loc X.env.scope x)(I:OpR X (inplaceOp op) r)(L:OpM X.K r f)(M:PM X e m)
  (p:X.fn x=true\/X.env.scope.names.lookup x=some .local:=by first|exact .inl rfl|exact .inr rfl|assumption):PMS X (.AugAssign (.Name x t) op e pos) (Qey i f m):=
 VS (Qh9 hN J G M (Qhp I) p) fun D T H A=>by
  obtain⟨R,c,h,r,F,s,e,k⟩:=A;unfold Qey at e;split at e
  ·rename_i B n;obtain⟨⟨w,u⟩,e1,e2⟩:=Nc.mp e;obtain⟨⟨z,O⟩,Q,P⟩:=Nf.mp e2;cases P;obtain⟨v0,o,g⟩:=s.2 i _ n;refine⟨v0,o,R,c,h,w,u,F,s,e1,fun R1 U v d l E=>?_⟩;exact L _ _ _ _ ⟨R1,u,B,w,z,O,l,Rw.mono d _ _ g,E,Q,fun R2 S y q j C=>k R2 S _ (d.trans q) j ((s.mono (d.trans q)).set C)⟩
  ·cases e
end
noncomputable def Qka(r:Option MF):Option (W×MH):=match r with|some (.rt w h)=>some (w,h)|some (.nx _ h)=>some (.non,h)|_=>none
noncomputable def Qw(more:Nat)(m:SM):FM:=fun a h=>Qka (m (a.map some++List.replicate more none) h)
theorem Rst.start{K:Nd}(r:Rws K R ws d)(k:Nat)(f:N.length=ws.length+k):Rst K R (ws.map some++List.replicate k none) (start N d):=by
 have c:=r.length;unfold L2.start;refine⟨by simp[f,c],fun i w e=>?_⟩
 by_cases b:i<ws.length
 ·rw[N5 (by simpa using b)]at e;rw[N5 (by simpa[<-c]using b)];rw[Nu]at e ⊢;obtain⟨l,a,j⟩:=Nf.mp e;cases j;obtain⟨v,h,g⟩:=r.get a;exact⟨v,by rw[h];rfl,g⟩
 ·rw[Ew (by simpa using b)]at e;rw[Iq]at e;split at e<;>cases e
section
variable{P:Program}{w:World}{K:Nd}{mg:Str->Option Value}{base:Heap}
theorem Qjn{st:Stmt}{N ps:List Str}{m:SM}(F:Fun K x c st f fd)(S:FnScope N ps (Qf st))(hN:N.length=ps.length+more)
  (g:∀(b:Value) (A:Around) (a:List Env) (s:Shared) (H:Hp) (E:XK),Room k (A.deeper (envOfC c (Qf st) s.heap.objs.size f b))->QdA (Qeu CX0 P w K mg base N c (Qf st) f b A a s H E).nox (Va st) m) :
  FnOk P w K mg base CX0 (k+1) f fd ps (spM K ps.length (Qw more m)):=by
 refine F.ok S (fun u H Q E q=>?_) (fun b A a s H u Q E hr q=>?_)
 ·obtain⟨R,t,h,w,y,l,j,d,_⟩:=q;rw[<-d.length];exact l
 ·refine⟨_,g b A a s H E hr,?_⟩;obtain⟨R,t,h,w,y,l,j,d,e,n⟩:=q;have st:=Rst.start (N:=N) d more (by rw[hN,l]);unfold Qw Qka at e;split at e
  ·rename_i B v e1;cases e;exact⟨R,_,h,_,j,st,e1,n⟩
  ·rename_i o v e1;cases e;exact⟨R,_,h,_,j,st,e1,fun R1 z p r i _=>n R1 z .non r i Rw.non⟩
  ·cases e
end
section
variable{X:Cx}{CX:CXT}{k:Nat}{f:Addr}{fd:FuncData}{ps:List Str}{g:FM}{E:XK}{x:Str}{p pos:Pos}{e:Expr}{es:List Expr}{ms:MA}
noncomputable def Qk(n:Nat)(g:FM)(ms:MA):ME:=mFn (fun a h=>if a.length=n then g a h else none) ms
theorem QgJ{K:Nd}(q:tI K (Qk n g ms) σ H Q):QgV (spM K n g) [] E (tIA K ms) σ H Q:=by
 refine Wy (Qaj q) fun l m b=>?_;obtain⟨R,h,c,w,j,d,a,e,k⟩:=b;dsimp only at e;split at e
 ·rename_i i;exact⟨R,c,h,w,j,i,d,by rw[Du];exact a,e,k⟩
 ·cases e
theorem Qe4(F:FnOk X.prog X.w X.K X.mg X.base CX k f fd ps (spM X.K ps.length g))(hr:Room k X.A)(i:Gl X x)(d:X.mg x=some (.ref f))(h:DB X.K (.ref f)=true)(l:Binds X.K fd ps [])(c:GV CX X E)
  (m:PMA X (e::es) ms) (b:(x==("__debug__":Str))=false:=by decide) (j:Jw e=false:=by rfl) (a:V3 es=true:=by rfl) :
  PM X (.Call (.Name x p) (e::es) [] pos) (Qk ps.length g ms):=Q2 (QgE F hr i d h l .nil c m b (QP j) (Z8 a)) fun _ _ _=>QgJ
end
section
variable{X:Cx}{x:Str}{p pos:Pos}{e:Expr}{es:List Expr}{ms:MA}{id T:String}{r:List V->Hp->VK->Prop}{f:List W->MH->Option (W×MH)}
theorem Kq(m:CallR X (.builtin id) r)(j:QfP X.K r f)(i:Gl X x)(h:X.mg x=none)(d:bootBuiltins x=some (.builtin id))(n:PMA X (e::es) ms)(g:x≠"__name__":=by decide)(b:(x==("__debug__":Str))=false:=by decide)
  (l:Jw e=false:=by rfl) (a:V3 es=true:=by rfl):PM X (.Call (.Name x p) (e::es) [] pos) (mFn f ms):=
 Q2 (Qdo m i h d n g b (QP l) (Z8 a)) fun _ _ _ q=>Wy (Qaj q) fun _ _ c=>j _ _ _ c
theorem Xv(m:CallR X (.type T) r)(j:QfP X.K r f)(i:Gl X x)(h:X.mg x=none)(d:bootBuiltins x=some (.type T))(n:PMA X (e::es) ms)(g:x≠"__name__":=by decide)(b:(x==("__debug__":Str))=false:=by decide)
  (l:Jw e=false:=by rfl) (a:V3 es=true:=by rfl):PM X (.Call (.Name x p) (e::es) [] pos) (mFn f ms):=
 Q2 (QbB m i h d n g b (QP l) (Z8 a)) fun _ _ _ q=>Wy (Qaj q) fun _ _ c=>j _ _ _ c
end
inductive Src where
 |l (n:Nat)
 |d (n:Nat)
 |r (n:Nat)
 |v (n:Nat)
 |i (n:Nat)
 |z (n m a b:Nat)
noncomputable def Src.ok(items:List W)(h:MH):Src->Prop
 |.l n=>h[n]?=some (.lst items)
 |.d n=>∃kvs,h[n]?=some (.dct kvs)/\kvs.map (·.1)=items
 |.r n=>h[n]?=some (.lst items.reverse)
 |.v n=>∃kvs,h[n]?=some (.dct kvs)/\kvs.map (·.2)=items
 |.i n=>∃kvs,h[n]?=some (.dct kvs)/\kvs.map (fun p=>.tup [p.1,p.2])=items
 |.z n m a b=>∃as bs,h[n]?=some (.lst as)/\h[m]?=some (.lst bs)/\(as.zip bs).map (fun q=>.tup [q.1,q.2])=items/\as.length=a/\bs.length=b
def live(a:Option Src)(items:List W)(h:MH):Prop:=∀n,a=some n->n.ok items h
noncomputable abbrev MI:=MSt->MH->Option (List W×Option Src×MH)
structure ItOk(K:Nd)(R:Rn)(J:It)(items:List W)(src:Option Src):Prop where
 go:∀i w R' h H,Ext R R'->Rh K R' h H->live src items h->items[i]?=some w->J.go i H
 yld:∀i w R' h H x H',Ext R R'->Rh K R' h H->live src items h->items[i]?=some w->J.yld i H x H'->∃R'',Ext R' R''/\Rh K R'' h H'/\Rw K R'' w x
 stop:∀i R' h H,Ext R R'->Rh K R' h H->live src items h->items.length<=i->J.stop i H
noncomputable def tII(K:Nd)(m:MI):TI:=fun f H C=>∃R a h items b d,Rh K R h H/\Rst K R a f/\m a h=some (items,b,d)/\∀c e J,Ext R c->Rh K c d e->ItOk K c J items b->C J e
def PMI(X:Cx)(a iter:Expr)(m:MI):Prop:=PI X a iter (tII X.K m)
theorem Gr(h:PI X b iter t)(i:∀σ H C,t' σ H C->t σ H C):PI X b iter t':=fun a s σ H C I q=>h a s σ H C I (i _ _ _ q)
noncomputable abbrev MG:=W->MSt->MH->Option MSt
noncomputable def tIG(K:Nd)(b:MG):TG:=fun v g H C=>∃R a h w c,Rh K R h H/\Rst K R a g/\Rw K R w v/\b w a h=some c/\∀e f d,Ext R e->Rh K e h f->Rst K e c d->C d f
def PMG(X:Cx)(a:Expr)(b:MG):Prop:=PG X a (tIG X.K b)
theorem Qby(h:PG X b t)(i:∀v σ H C,t' v σ H C->t v σ H C):PG X b t':=fun a s σ H v u C I r q=>h a s σ H v u C I r (i _ _ _ _ q)
noncomputable def Z0(i:Nat):MG:=fun w a _=>some (a.set i (some w))
theorem JZ(hN:X.N.Nodup)(f:X.N[i]?=some x)(d:Loc X.env.scope x)(g:X.fn x=true\/X.env.scope.names.lookup x=some .local:=by first|exact .inl rfl|exact .inr rfl|assumption) :
  PMG X (.Name x pos) (Z0 i):=Qby (QaP hN f d g) <|by
 rintro v j H C ⟨R,a,h,w,b,c,st,rw,e,k⟩
 cases e;exact k R H _ (Ext.refl _) c (st.set rw)
open Classical in
noncomputable def Xx(items:List W)(c:Option Src)(b:MG)(body:SM):List W->SM
 |[],σ,h=>if live c items h then some (.nx σ h)else none
 | w::r,σ,h=>if live c items h then(b w σ h).bind fun σ1=>(body σ1 h).bind fun z=>match z with
   |.nx a d=>Xx items c b body r a d
   |.ct a d=>Xx items c b body r a d
   |.bk a d=>some (.nx a d)
   |.rt v d=>some (.rt v d)
  else none
noncomputable def VO(mi:MI)(b:MG)(body:SM):SM:=fun a h=>(mi a h).bind fun p=>Xx p.1 p.2.1 b body p.1 a p.2.2
section
variable{X:Cx}{tg iter:Expr}{body:List Stmt}{mi:MI}{b:MG}{m:SM}{pos:Pos}
theorem QhW{K:Nd}(q:tS K (VO mi b m) D σ H):QkT (tII K mi) (tIG K b) (tS K m) D σ H:=by
 obtain⟨R,A,h,r,rh,s,e,k⟩:=q;obtain⟨⟨items,t,h1⟩,e1,e2⟩:=Nc.mp e;refine⟨R,A,h,items,t,h1,rh,s,e1,fun R1 H1 J x1 Z it=>?_⟩;refine⟨fun i n σ H=>i+n=items.length/\∃R2 g l,Ext R1 R2/\Rh K R2 l H/\Rst K R2 g σ/\∃r,Xx items t b m (items.drop i) g l=some r/\Ends K R2 D r,⟨items.length,by simp,R1,A,h1,Ext.refl _,Z,s.mono x1,r,by simpa using e2,Ends.ext k x1⟩,?_⟩
 rintro i n E Q ⟨ab,R2,g,l,G,j,s2,r2,d,k2⟩
 by_cases L:i<items.length
 ·obtain⟨w,hw⟩:∃w,items[i]?=some w:=⟨items[i],Nk L⟩
  have hd:items.drop i=w::items.drop (i+1):=by
   rw[EQ L];rw[Nk L]at hw;cases hw;rfl
  rw[hd]at d;unfold Xx at d;split at d
  ·rename_i O;obtain⟨C,e4,e5⟩:=Nc.mp d;obtain⟨z,e6,P⟩:=Nc.mp e5;refine .inr ⟨it.go i w R2 l Q G j O hw,fun F S=>∃y B h4,Ext R1 y/\Rh K y h4 S/\Rst K y B F/\∃r,Xx items t b m (items.drop (i+1)) B h4=some r/\Ends K y D r,fun F S hn=>⟨n-1,by omega,by omega,hn⟩,fun x S hy=>?_⟩;obtain⟨y,p,Y,T⟩:=it.yld i w R2 l Q x S G j O hw hy;refine⟨y,g,l,w,C,Y,s2.mono p,T,e4,fun R4 H4 aa u U s4=>?_⟩;refine⟨R4,C,l,z,U,s4,e6,?_⟩;cases z with
   |nx f M=>exact fun N H5 a o c I=>⟨N,f,M,G.trans (p.trans (u.trans o)),c,I,r2,P,Ends.ext k2 (p.trans (u.trans o))⟩
   |ct f M=>exact fun N H5 a o c I=>⟨N,f,M,G.trans (p.trans (u.trans o)),c,I,r2,P,Ends.ext k2 (p.trans (u.trans o))⟩
   |bk f M=>cases P;exact fun N H5 a o c I=>k2 N H5 a (p.trans (u.trans o)) c I
   |rt v M=>cases P;exact After.ext k2 (p.trans u)
  ·cases d
 ·have hd:items.drop i=[]:=Dy (N4.mp L);rw[hd]at d;unfold Xx at d;split at d
  ·rename_i O;cases d;exact .inl ⟨it.stop i R2 l Q G j O (N4.mp L),k2 R2 Q E (Ext.refl _) j s2⟩
  ·cases d
theorem QfL(c:PassesOwn (model X.prog X.w) X.A X.env X.xe)(f:X.calm=true)(d:PMI X tg iter mi)(e:PMG X tg b)(g:QdA X body m)
  (a:∀x,foldedSetIterable iter X.env x=pure x:=by intro _;rfl):PMS X (.For tg iter body [] pos) (VO mi b m):=VS (QhE c f d e g a) fun _ _ _=>QhW
end
section
variable{prog:Program}{w:World}{A:Around}{E:Value->Shared->Prop}{R:Result->Shared->Prop}{s:Shared}
theorem UK(I:Nat->Shared->Prop)
  (q:∀n s,I n s->wpAny (model prog w) A (pyNext it) (fun r d=>match r with
   |none=>R (.ok .next) d
   | some v=>wpAny (model prog w) A (letOwnedTupleGo target it v) (fun _ b=>wpAny (model prog w) A (assign target env v) (fun _ i=>
     wpAny (model prog w) A (forIn t true fun c r=>if r=true then do let ok <-isTrue c env (eval c env);pure (ForInStep.yield ok)else pure (ForInStep.yield r)) (fun ok a=>
      if ok=true then wpAny (model prog w) A (eval B env) (fun x g=>
       wpAny (model prog w) A (call (.builtin "list.append") [C,x]) (fun _ f=>∃m,m<n/\I m f) (fun _ _=>False) g) (fun _ _=>False) a
      else∃m,m<n/\I m a) (fun _ _=>False) i) (fun _ _=>False) b) (fun _ _=>False) d) (fun _ _=>False) s)
  (n:Nat) (h:I n s) :
  codeAny (model prog w) A (.compLoop (.ListComp B [⟨target,iter,t,0⟩] o pos) 0 it C env) R s:=by
 refine codeAny_loop rfl I (fun n s D=>?_) n h;show wpAny _ A ((compTurn (.ListComp B [⟨target,iter,t,0⟩] o pos) 0 it C env).onRaise (fun x=>do noteFrame x env;theTreesLotGoes x)) _ _ s;refine wpAny_noted ?_;rw[compTurn_list];refine Na (FT (Na (NZ (q n s D) (fun r d l=>?_) fun _ _ e=>e.elim)));cases r with
 |none=>exact Ng l
 | some v=>
  refine Na (NZ l (fun _ b p=>?_) fun _ _ e=>e.elim);refine Na (NZ p (fun _ i z=>Na (NZ z (fun ok a j=>?_) fun _ _ e=>e.elim)) fun _ _ e=>e.elim);cases ok with
  |false=>exact Ng ⟨rfl,j⟩
  |true=>
   exact Na (Na (NZ j (fun x g y=>Na (NZ y (fun _ f u=>Ng (Ng ⟨rfl,u⟩)) fun _ _ e=>e.elim)) fun _ _ e=>e.elim))
end
theorem sz{h:Heap}(e:h.get? b=some o)(a:h.objs.size<=n):¬b=n:=fun z=>by
 have c:@LT.lt Nat instLTNat b h.objs.size:=Nz e;subst z;exact Ev _ (Nl c a)
noncomputable abbrev blk(X:Cx)(a:Scope)(b:List (Str×Addr))(Nb:List Str)(s₀:Shared)(H₀:Hp)(C:Addr)(ex:List Addr)(pn:List (Addr×Obj)):Cx:=
 { X with N:=Nb,s₀:=s₀,H₀:=H₀,env:=compEnvC a b C X.env,outer:=X.stack,stack:=X.stack,ex:=ex,fn:=fun _=>false,pn:=pn,xe:=fun _ _=>False }
structure BlkOk(X:Cx)(scope:Scope)(cl:List (Str×Addr))(Nb:List Str)(cp:List (Option Nat)):Prop where
 clos:closureFor scope X.env=pure cl
 cell:∀y∈scope.names,y.2≠.cell
 kind:scope.kind=.function
 names:∀y∈scope.names,y.2=.local->scope.names.lookup y.1=some .local
 sub:∀x c,cl.lookup x=some c->X.env.cells.lookup x=some c
 has:∀x,((relabel scope X.env).names.lookup x=some .cell\/(relabel scope X.env).names.lookup x=some .free)->∃c,cl.lookup x=some c
 len:cp.length=Nb.length
 cap:∀(i j:Nat) (x:Str),cp[i]?=some (some j)->Nb[i]?=some x->X.N[j]?=some x/\Vis X.env.scope x/\(X.env.kindOf x=some .cell\/X.env.kindOf x=some .free)/\((relabel scope X.env).names.lookup x=some .cell\/(relabel scope X.env).names.lookup x=some .free)
noncomputable def Uj(cp:List (Option Nat))(σ:L2.St):L2.St:=cp.map fun o=>match o with|none=>none|some j=>match σ[j]? with|some v=>v|none=>none
noncomputable def QdY(l:TI)(cp:List (Option Nat))(g:TG)(tt:TT)(te:TE):TE:=fun f H Q=>l f H fun J p=>∃W:Nat->Nat->List V->L2.St->Hp->Prop,(∃m,W 0 m [] (Uj cp f) p)/\∀i m a e H,W i m a e H ->
 (J.stop i H/\∀D,H D=none->Q (.ref D) (upd H D (.lst a))) \/
 (J.go i H/\∀x j,J.yld i H x j->g x e j fun c o=>tt c o fun b h=>if b=true then te c h fun v n=>a.length<sizeLine/\∃d,d<m/\W (i+1) d (a++[v]) c n else∃d,d<m/\W (i+1) d a c h)
theorem Inv.track(I:Inv X d σ H s)(g:H D=none)(m:X.s₀.heap.objs.size<=D)(l:X.env.locals≠D)(j:∀x c,X.env.cells.lookup x=some c->c≠D)
  (i:∀p∈X.pn++d,p.1≠D) (ob:ObjOk X.prog X.w (upd H D o) s.heap D o):Inv X d σ (upd H D o) s where
 ok:=I.ok
 os:=I.os
 bare:=I.bare
 base:={
  keep:=I.base.keep
  slot:=I.base.slot
  free:=fun b q e n nx=>by
   have:b≠D:=sz e m;rw[Qy this];exact I.base.free b q e n nx
  there:=I.base.there
  tups:=fun b h e=>by
   have q:=I.base.tups b h e;rw[Qy (fun z=>by rw[z,g]at q;cases q)];exact q
  frzs:=fun b q u e=>by
   have z:=I.base.frzs b q u e;rw[Qy (fun y=>by rw[y,g]at z;cases z)];exact z
  tbls:=fun b ps e=>by
   obtain⟨more,q⟩:=I.base.tbls b ps e
   exact⟨more,by rw[Qy (fun z=>by rw[z,g]at q;cases q)];exact q⟩ }
 loc:=I.loc
 cell:=I.cell
 free:=by rw[Qy l];exact I.free
 freeC:=fun x c e=>by rw[Qy (j x c e)];exact I.freeC x c e
 pin:=fun p f=>by
  obtain⟨a,b,c⟩:=I.pin p f;exact⟨a,by rw[Qy (i p f)];exact b,c⟩
 hok:=fun a u e=>by
  by_cases z:a=D
  ·subst z;rw[Jm]at e;cases e;exact ob
  ·rw[Qy z]at e;refine(I.hok a u e).stay (fun _ _ _ q=>q) (fun b q=>?_) (fun b h q=>?_)
   ·rw[Qy (fun y=>by rw[y,g]at q;cases q)];exact q
   ·rw[Qy (fun y=>by rw[y,g]at q;cases q)];exact q
 len:=I.len
section
variable{X:Cx}{elt tg iter:Expr}{ifs:List Expr}{scope:Scope}{pos:Pos}{cl:List (Str×Addr)}{Nb:List Str}{cp:List (Option Nat)}{wi:TI}{g:TG}{tt:TT}{te:TE}
theorem Cx.Ok.blk(B:BlkOk X scope cl Nb cp)(I:Inv X d σ H s)(f:∀b∈l,QaN X d H b)(i:∀b∈l,b<s.heap.objs.size)(j:s.heap.objs.size<=C) :
  (blk X scope cl Nb s H C l p).Ok where
 mod:=I.ok.mod
 kind:=B.kind
 glob:=I.ok.glob
 blt:=I.ok.blt
 above:=j
 inj:=fun x y c n m=>I.ok.inj x y c (B.sub x c n) (B.sub y c m)
 has:=fun x h=>B.has x h
 cab:=fun x c h=>absurd h (by simp)
 hd:=I.ok.hd
 frames:=I.ok.frames
 stk:=.inl rfl
 exf:=fun b a=>⟨fun z=>by have:=i b a;rw[z]at this;exact absurd j (Fz.mpr this),fun x c e=>(f b a).2.2.2.2.1 x c (B.sub x c e)⟩
 bs:=I.bs
 bsz:=Nn I.ok.bsz I.sz
 noex:=fun b o e a=>by
  rcases(f b a).2.2.2.1 with z|z
  ·exact I.ok.noex b o e z
  ·exact sz e (Nn I.ok.bsz z) rfl
 exfs:=fun b a z=>by
  have:=I.stkSub b z
  rcases Nv.mp this with q|q
  ·exact(f b a).2.1 q
  ·exact(f b a).2.2.1 q
 funs:=I.stack
 frf:=fun b a=>I.stkFree b a
theorem QcC{cp:List (Option Nat)}{σ:L2.St}{i:Nat}{v:V}(e:(Uj cp σ)[i]?=some (some v)):∃j,cp[i]?=some (some j)/\σ[j]?=some (some v):=by
 unfold Uj at e;rw[Nu]at e;obtain⟨o,b,a⟩:=Nf.mp e;cases o with
 |none=>cases a
 |some j=>
  refine⟨j,b,?_⟩;simp only at a;split at a
  ·rename_i u hu;rw[hu,a]
  ·cases a
theorem Inv.blk{H:Hp}{C:Addr}{M:List Addr}{tk:Nat}(B:BlkOk X scope cl Nb cp)(I:Inv X f σ H s)(O:∀b∈M,QaN X f H b)(F:∀b∈M,b<s.heap.objs.size)
  (G:s.heap.objs.size<=C) (D:h'.Ns C m) (y:∀b o,s.heap.get? b=some o->h'.get? b=some o):Inv (Mi.blk X scope cl Nb s H C M (X.pn++f)) [] (Uj cp σ) H { s with heap:=h',toks:=tk } where
 ok:=Cx.Ok.blk B I O F G
 os:=rfl
 bare:=I.bare
 base:=Un.kept y
 loc:=by
  refine⟨m,D,fun i x v hN e Z=>?_⟩;obtain⟨j,S,R⟩:=QcC e;obtain⟨Q,t,E,w⟩:=B.cap i j x S hN;obtain⟨Y,U,lk⟩:=I.loc;obtain⟨u,r,l⟩:=lk j x v Q R t;refine⟨u,r,?_⟩
  rcases l with⟨h,_⟩|⟨_,c,P,n⟩
  ·rcases E with z|z<;>rw[z]at h<;>cases h
  ·refine .inr ⟨w,?_⟩;obtain⟨T,A⟩:=B.has x w;have:=B.sub x T A;rw[P]at this;cases this
   exact⟨c,A,by
    obtain⟨o,L,J⟩:=n
    exact⟨o,y _ _ L,J⟩⟩
 cell:=fun x c e=>by
  obtain⟨v,o,L,J⟩:=I.cell x c (B.sub x c e);exact⟨v,o,y _ _ L,J⟩
 free:=I.hok.fresh G
 freeC:=fun x c e=>I.freeC x c (B.sub x c e)
 pin:=fun p N=>by
  rw[Du]at N;obtain⟨a,b,c,d,e⟩:=I.pin p N;refine⟨y _ _ a,b,fun z=>?_,fun z=>?_,e⟩
  ·have:=Nz a;rw[z]at this;exact absurd G (Fz.mpr this)
  ·rcases Nv.mp (I.stkSub _ z)with q|q
   ·exact c q
   ·exact d q
 hok:=I.hok.kept y
 len:=by unfold Uj;rw[NB];exact B.len
def QjO(X:Cx)(a:List (Addr×Obj))(σ:L2.St)(use:Option (Value->Sem Unit))(Q:VK)(Q':Value->Shared->Prop):Prop:=
 ∀(D C:Addr) (d:Hp) (b:Shared) (m:Str->Option Value),Inv X a σ d b->b.heap.Ns C m->d C=none->¬C=X.env.locals->X.s₀.heap.objs.size<=C->(∀x c,X.env.cells.lookup x=some c->c≠C)->(∀p∈X.pn++a,p.1≠C)->Q (.ref D) d ->
  compPost (model X.prog X.w) X.A X.xe use Q' (.ref D) C (.ok .next) b
theorem GM(hc:X.calm=true)(B:BlkOk X scope cl Nb cp)(hi:PI X tg iter wi)(hg:∀O R C ex pn,PG (Mi.blk X scope cl Nb O R C ex pn) tg g)
  (ht:∀O R C ex pn,∀(j:List (Addr×Obj)) (s:Shared) (Z:L2.St) (H:Hp) (Q:Bool->Hp->Prop),Inv (Mi.blk X scope cl Nb O R C ex pn) j Z H s->tt Z H Q ->
   wpAny (model X.prog X.w) X.A (forIn ifs true fun c r=>if r=true then do let ok <-isTrue c (compEnvC scope cl C X.env) (eval c (compEnvC scope cl C X.env));pure (ForInStep.yield ok)else pure (ForInStep.yield r)) (TP (Mi.blk X scope cl Nb O R C ex pn) j Z Q) (fun _ _=>False) s)
  (he:∀O R C ex pn,PE (Mi.blk X scope cl Nb O R C ex pn) elt te) (hs:∀x,foldedSetIterable iter X.env x=pure x)
  (I:Inv X j σ H s) (h:QdY wi cp g tt te σ H Q) (a4:QjO X j σ use Q Q') :
  wpAny (model X.prog X.w) X.A (comprehension (.ListComp elt [⟨tg,iter,ifs,0⟩] scope pos) scope X.env bn (newList []) false (eval iter X.env) use) Q' X.xe s:=by
 refine wpAny_comprehension_free (use:=use) rfl hs B.clos B.kind B.names (NZ (hi j s σ H _ I h) (fun xv bm U=>NZ U (fun bo f a1=>?_) fun _ _ e=>e) fun _ _ e=>e);obtain⟨it,fp,tn,J,Y,rfl,I2,T,ar,f2,W,⟨m0,w0⟩,ay⟩:=a1
 have au:∀b∈fp,b<f.heap.objs.size:=fun b E=>by
  obtain⟨o,e,_⟩:=T.obj _ _ ar b E;exact Nz e
 refine NY (wpAny_newFunctionEnv B.cell (by intro y hy;simp at hy) (fun U M F=>?_) B.kind);dsimp only at M F ⊢;generalize av:f.heap.push { cls:=.type "list",dict:=none,data:=.seq ([]:List Value).toArray }=G2 at M F ⊢;have al:G2.objs.size=f.heap.objs.size+1:=by rw[<-av,FJ]
 generalize be:G2.objs.size=C at M F ⊢;rw[be]at al;have ab:f.heap.objs.size<=C:=by exact Nn (NJ _ _) (Nx al.symm)
 have ai:f.heap.objs.size≠C:=by exact NS (Nl (EJ _) (Nx al.symm))
 have old:∀b o,f.heap.get? b=some o->U.get? b=some o:=fun b o e=>F.extBut b o (sz e ab) (Ni _ (av▸Ni _ e));have an:U.get? f.heap.objs.size=some { cls:=.type "list",data:=.seq ([]:List Value).toArray }:=F.extBut _ _ ai (Ni _ (av▸Ny _ rfl));generalize hD:f.heap.objs.size=D at an ai ab al ⊢;have m:f.heap.objs.size<=D:=Nx hD;have N:f.heap.objs.size<=C:=Nn m ab;have I3:=Inv.blk (tk:=f.toks+([]:List (Str×Value)).length) B I2 f2 au (C:=C) (Nn (Nx hD) ab) M old;have ao:D∉fp:=fun z=>Ev _ (Nl (au D z) m);have a5:C∉fp:=fun z=>Ev _ (Nl (au C z) N)
 have ax:∀x c,cl.lookup x=some c->c≠D:=fun x c e z=>by
  obtain⟨v,o,h3,_⟩:=I2.cell x c (B.sub x c e);exact sz h3 m z
 have ap:∀p∈X.pn++j,p.1≠D:=fun p P z=>sz (I2.pin p P).1 m z;have a7:∀p∈X.pn++j,p.1≠C:=fun p P z=>sz (I2.pin p P).1 N z
 have bg:D∉frs X.stack:=fun z=>by
  rcases Nv.mp (I2.stkSub _ z)with q|q
  ·exact Ev _ (Nl (q▸I2.lt:D<f.heap.objs.size) m)
  ·exact I2.nofs m q
 have aj:∀{t:Hp} {pl:List (Addr×Obj)},(∀b∈fp,t b=none)->(∀p∈pl,p.1=D)->∀b∈fp,QaN (Mi.blk X scope cl Nb f Y C fp (X.pn++j)) pl t b:=fun {t pl} hn bb b E=>
  ⟨hn b E,fun(z:b=C)=>a5 (z▸E),fun z=>by
   rcases Nv.mp (I2.stkSub _ z)with q|q
   ·exact(f2 b E).2.1 q
   ·exact(f2 b E).2.2.1 q,.inl E,fun x c e=>(f2 b E).2.2.2.2.1 x c (B.sub x c e),fun p P z=>by
   rcases NI.mp P with q|q
   ·exact(f2 b E).2.2.2.2.2 p q z
   ·rw[bb p q]at z;exact ao (z▸E)⟩
 have bp:∀{t:Hp},(∀b∈fp,t b=none)->∀b∈fp,QaN X j t b:=fun hn b E=>⟨hn b E,(f2 b E).2⟩
 have fin:∀{Z:L2.St} {t:Hp} {L:Shared} {G:List V} {l:List Value} {n:Nat} {mC:Str->Option Value},Inv (Mi.blk X scope cl Nb f Y C fp (X.pn++j)) [] Z t L->t D=none->L.heap.get? D=some { cls:=.type "list",data:=.seq l.toArray n }->Vals G l->G.length<=sizeLine->L.heap.Ns C mC ->
   (∀D,t D=none->Q (.ref D) (upd t D (.lst G)))->compPost (model X.prog X.w) X.A X.xe use Q' (.ref D) C (.ok .next) L:=by
  intro Z t L G l n mC Ib ak aw r hz bc q;have Ie:Inv X j σ t L:=I2.call' (ch:=fp) (Ib.os) Ib.base Ib.hok Ib.bare fun b E=>⟨(f2 b E).2.2.2.1,(f2 b E).2.1,(f2 b E).2.2.2.2.1,(f2 b E).2.2.2.2.2⟩
  have a2:X.s₀.heap.objs.size<=f.heap.objs.size:=I2.sz
  have It:Inv X j σ (upd t D (.lst G)) L:=Inv.track Ie ak (Nn a2 m) (fun z=>Ev _ (Nl (z▸I2.lt:D<f.heap.objs.size) m)) (fun x c e z=>by
   obtain⟨v,o,h3,_⟩:=I2.cell x c e
   exact sz h3 m z) ap ⟨hz,l,n,r,aw⟩
  exact a4 D C _ L mC It bc (by rw[Qy (Dl ai)];exact Ib.free) (fun z=>Ev _ (Nl (z▸I2.lt:C<f.heap.objs.size) N)) (Nn a2 N) (fun x c e z=>by
   obtain⟨v,o,h3,_⟩:=I2.cell x c e
   exact sz h3 N z) a7 (q D ak)
 have am:∀af:Shared,af={ f with heap:=U,toks:=f.toks+([]:List (Str×Value)).length } ->
   codeAny (model X.prog X.w) X.A (.compLoop (.ListComp elt [⟨tg,iter,ifs,0⟩] scope pos) 0 (.ref it) (.ref D) (compEnvC scope cl C X.env))
    (compPost (model X.prog X.w) X.A X.xe use Q' (.ref D) C) af:=by
  rintro af rfl
  refine UK (fun n L=>∃i Z t G l k,Inv (Mi.blk X scope cl Nb f Y C fp (X.pn++j)) [] Z t L/\tn i L.heap/\(∀b∈fp,t b=none)/\t D=none/\L.heap.get? D=some { cls:=.type "list",data:=.seq (l:List Value).toArray k }/\Vals G l/\G.length<=sizeLine/\W i n G Z t) ?_ m0
   ⟨0,Uj cp σ,Y,[],[],_,I3,T.keep _ _ _ ar (fun b E o e=>old b o e),fun b E=>(f2 b E).1,I2.hok.fresh m,an,.nil,Ei _,w0⟩
  rintro n s3 ⟨i,Z,H3,G,l,k,Ib,az,a6,ak,aw,r3,as,w3⟩
  have a0:∀{S:L2.St} {t:Hp} {L:Shared},Inv (Mi.blk X scope cl Nb f Y C fp (X.pn++j)) [] S t L->t D=none->L.heap.get? D=some { cls:=.type "list",data:=.seq l.toArray k } ->
    Inv (Mi.blk X scope cl Nb f Y C fp (X.pn++j)) [(D,{ cls:=.type "list",data:=.seq l.toArray k })] S t L:=fun {S t L} I' hn ho=>I'.pins_of fun p P=>by
   rw[NE]at P;subst P;exact⟨ho,hn,ai,bg,by intro v;simp⟩
  have a8:=a0 Ib ak aw;have aa:∀p∈[(D,({ cls:=.type "list",data:=.seq l.toArray k }:Obj))],p.1=D:=fun p P=>by rw[NE]at P;subst P;rfl
  have a9:∀{S:L2.St} {t:Hp} {L:Shared},Inv (Mi.blk X scope cl Nb f Y C fp (X.pn++j)) [(D,{ cls:=.type "list",data:=.seq l.toArray k })] S t L->L.heap.get? D=some { cls:=.type "list",data:=.seq l.toArray k }/\t D=none:=fun I'=>by
   obtain⟨a,b,_⟩:=I'.pin (D,_) (NF _ (NE.mpr rfl));exact⟨a,b⟩
  rcases ay i n G Z H3 w3 with⟨stop,qn⟩|⟨go,step⟩
  ·refine NZ (T.done (Mi.blk X scope cl Nb f Y C fp (X.pn++j)) rfl rfl rfl hc i _ s3 Z H3 (fun _ _=>False) a8 (aj a6 aa) az stop) (fun r s4 ⟨hr,I4⟩=>?_) fun _ _ z=>z.elim;subst hr;obtain⟨o4,n4⟩:=a9 I4;obtain⟨m4,ba,_⟩:=I4.loc;have bj:Inv (Mi.blk X scope cl Nb f Y C fp (X.pn++j)) [] Z H3 s4:=I4.pins_of fun p P=>by cases P
   exact fin bj n4 o4 r3 as ba qn
  ·refine NZ (T.item (Mi.blk X scope cl Nb f Y C fp (X.pn++j)) rfl rfl rfl hc i _ s3 Z H3 (fun _ _=>False) a8 (aj a6 aa) az go) (fun r s4 ⟨u,hr,h4⟩=>?_) fun _ _ z=>z.elim;subst hr;refine NZ h4 (fun _ s5 z1=>?_) fun _ _ z=>z.elim;obtain⟨x,H5,I5,r5,y5,aq,bf⟩:=z1;have bi:=I5.pinned (aj bf aa) (T.obj _ _ aq);refine NZ (hg f Y C fp (X.pn++j) _ s5 Z H5 x u _ bi r5 (step x H5 y5)) (fun _ s6 ⟨ae,H6,I6,q6⟩=>?_) fun _ _ z=>z.elim;refine NZ (ht f Y C fp (X.pn++j) _ s6 ae H6 _ I6 q6) (fun ok s7 ⟨H7,I7,q7⟩=>?_) fun _ _ z=>z.elim
   have ah:∀{S:L2.St} {t:Hp} {L:Shared},Inv (Mi.blk X scope cl Nb f Y C fp (X.pn++j)) ([(D,{ cls:=.type "list",data:=.seq l.toArray k })]++Ua fp s5.heap) S t L->tn (i+1) L.heap/\(∀b∈fp,t b=none)/\L.heap.get? D=some { cls:=.type "list",data:=.seq l.toArray k }/\t D=none:=fun {S t L} I'=>by
    refine⟨T.keep _ _ _ aq fun b E o e=>(I'.pin (b,o) (NF _ (NF _ (VU E e)))).1,fun b E=>?_,?_⟩
    ·obtain⟨o,e,d⟩:=T.obj _ _ aq b E;exact(I'.pin (b,o) (NF _ (NF _ (VU E e)))).2.1
    ·obtain⟨a,b,_⟩:=I'.pin (D,{ cls:=.type "list",data:=.seq l.toArray k }) (NF _ (N7 _ (NE.mpr rfl)));exact⟨a,b⟩
   cases ok with
   |false=>
    rw[if_neg N9]at q7 ⊢;obtain⟨m',hm,w7⟩:=q7;obtain⟨t7,f7,o7,n7⟩:=ah I7;exact⟨m',hm,i+1,ae,H7,G,l,k,I7.pins_of (fun p P=>by cases P),t7,f7,n7,o7,r3,as,w7⟩
   | true=>
    rw[if_pos rfl]at q7 ⊢;refine NZ (he f Y C fp (X.pn++j) _ s7 ae H7 _ I7 q7) (fun y s8 z1=>?_) fun _ _ z=>z.elim;obtain⟨v8,H8,I8,r8,bd,m',hm,w8⟩:=z1;obtain⟨t8,f8,o8,n8⟩:=ah I8;have a3:=r3.length;refine E5 DC ⟨_,o8,rfl⟩ Lp (La _ _) (LW D l.toArray k y (by rw[Nh];exact Nn (Nx a3.symm) as)) ⟨o8,?_⟩;have q:=Og o8 (·.push y);have hf:l.toArray.push y=(l++[y]).toArray:=by simp
    rw[hf]at q;have bh:Inv (Mi.blk X scope cl Nb f Y C fp (X.pn++j)) [] ae H8 s8:=I8.pins_of fun p P=>by cases P
    have I9:Inv (Mi.blk X scope cl Nb f Y C fp (X.pn++j)) [] ae H8 { s8 with heap:=s8.heap.update D (Obj.mapSeq (·.push y)),toks:=s8.toks }:=
     bh.turned (it:=D) (fun b o E e=>(EF s8.heap (Obj.mapSeq (·.push y)) (Dl E)).trans e) n8 ai (.inr m) (fun x c e=>ax x c e) fun p P=>by
      rw[Du]at P;exact ap p P
    refine⟨m',hm,i+1,ae,H8,G++[v8],l++[y],_,I9,T.keep _ _ _ t8 (fun b E o e=>(EF s8.heap (Obj.mapSeq (·.push y)) (fun(z:D=b)=>ao (z▸E))).trans e),f8,n8,q,r3.append (.cons r8 .nil),by rw[NC,EA];exact bd,w8⟩
 exact codeAny_compStart_list (am _ rfl) (T.self _ 0 _ _ _ (T.keep _ _ _ ar (fun b E o e=>old b o e)) (am _ rfl))
theorem Qbc(L:X.calm=true)(B:BlkOk X scope cl Nb cp)(F:PI X tg iter wi)(G:∀a d C l j,PG (Mi.blk X scope cl Nb a d C l j) tg g)
  (v:∀a d C l j,∀(f:List (Addr×Obj)) (s:Shared) (n:L2.St) (H:Hp) (Q:Bool->Hp->Prop),Inv (Mi.blk X scope cl Nb a d C l j) f n H s->tt n H Q ->
   wpAny (model X.prog X.w) X.A (forIn ifs true fun c r=>if r=true then do let ok <-isTrue c (compEnvC scope cl C X.env) (eval c (compEnvC scope cl C X.env));pure (ForInStep.yield ok)else pure (ForInStep.yield r)) (TP (Mi.blk X scope cl Nb a d C l j) f n Q) (fun _ _=>False) s)
  (J:∀a d C l j,PE (Mi.blk X scope cl Nb a d C l j) elt te) (y:∀x,foldedSetIterable iter X.env x=pure x:=by intro _;rfl) :
  PE X (.ListComp elt [⟨tg,iter,ifs,0⟩] scope pos) (QdY wi cp g tt te):=by
 intro f s T H Q I h;rw[eval_ListComp];refine GM L B F G v J y I h fun D C S u m R p E N O i z q=>⟨m,p,fun P t=>?_⟩
 exact⟨.ref D,S,R.turned (t':=u.toks) (it:=C) (fun b o M e=>t.extBut b o M e) E N (.inr O) i z,rfl,q⟩
theorem QbC(hN:X.N.Nodup)(O:X.N[i]?=some x)(U:Loc X.env.scope x)(hf:X.fn x=true\/X.env.scope.names.lookup x=some .local)(J:swapsWith (.ListComp elt [⟨tg,iter,ifs,0⟩] scope pos) (some (.Name x j)) u.line X.env=pure true)
  (hc:X.calm=true) (B:BlkOk X scope cl Nb cp) (hi:PI X tg iter wi) (hg:∀d f C t p,PG (Mi.blk X scope cl Nb d f C t p) tg g)
  (Y:∀d f C t p,∀(l:List (Addr×Obj)) (s:Shared) (F:L2.St) (H:Hp) (Q:Bool->Hp->Prop),Inv (Mi.blk X scope cl Nb d f C t p) l F H s->tt F H Q ->
   wpAny (model X.prog X.w) X.A (forIn ifs true fun c r=>if r=true then do let ok <-isTrue c (compEnvC scope cl C X.env) (eval c (compEnvC scope cl C X.env));pure (ForInStep.yield ok)else pure (ForInStep.yield r)) (TP (Mi.blk X scope cl Nb d f C t p) l F Q) (fun _ _=>False) s)
  (he:∀d f C t p,PE (Mi.blk X scope cl Nb d f C t p) elt te) (Z:∀x,foldedSetIterable iter X.env x=pure x:=by intro _;rfl) :
  PS X (.Assign [.Name x j] (.ListComp elt [⟨tg,iter,ifs,0⟩] scope pos) u) (QiT (QdY wi cp g tt te) (QcM i)):=by
 intro l s σ H D I h;rw[exec_Assign_Name_used _ _ _ _ J];refine Na (FT (Na ?_));show wpAny _ X.A (do let _ <-comprehension (.ListComp elt [⟨tg,iter,ifs,0⟩] scope pos) scope X.env _ (newList []) false (eval iter X.env) (some (assign (.Name x j) X.env))) _ _ s;refine Na (NZ (GM (use:=some (assign (.Name x j) X.env)) (Q':=fun _ E=>SP X l D .next E) hc B hi hg Y he Z I h fun R C H' E m I' L hn P h0 n hp q=>?_) (fun _ E hq=>Ng (Ng hq)) fun _ _ e=>e);show wpAny _ X.A (assign (.Name x j) X.env (.ref R)) _ _ E;refine LP (Ux (v:=.ref R) I' hN O U rfl (fun T I5 ⟨a,S,y⟩=>?_) hf)
 have M:C≠a:=fun z=>by
  rcases y with y|y
  ·exact P (z.trans y)
  ·exact n x a y z.symm
 exact⟨m,L.sameBut S M,fun aa G=>⟨_,H',I5.turned (t':=T.toks) (it:=C) (fun b o hb e=>G.extBut b o hb e) hn P (.inr h0) n hp,q⟩⟩
end
def IterR(X:Cx)(c:Expr)(r:V->Hp->(It->Hp->Prop)->Prop):Prop:=
 ∀(a:List (Addr×Obj)) (s:Shared) (b:L2.St) (H:Hp) (x:V) (v:Value) (C:It->Hp->Prop),Inv X a b H s->RelV x v->r x H C->wpAny (model X.prog X.w) X.A (pyIter v) (PIE X a b c C) X.xe s
section
variable{X:Cx}{tg:Expr}
theorem IterR.or(h:IterR X tg r)(h':IterR X tg d):IterR X tg (fun x H C=>r x H C\/d x H C):=fun a s b H x v C I c q=>by
 rcases q with q|q
 ·exact h a s b H x v C I c q
 ·exact h' a s b H x v C I c q
theorem it_list:IterR X tg (fun x H C=>∃a,x=.ref a/\(∃xs,SqL X.K H a xs)/\C (Itl X.K a) H):=by
 intro d c m l x v C I1 f g;obtain⟨a,e,⟨xs,i⟩,q⟩:=g;subst e;cases f;obtain⟨h,r,p,s⟩:=I1.list i;refine Fb p.isList ?_;refine⟨c.heap.objs.size,[c.heap.objs.size],_,_,l,rfl,I1.kept (t':=c.toks) fun b o e=>Ni _ e,Qbg a _,⟨_,Ny _ rfl,rfl,rfl⟩,fun b j=>?_,q⟩;have e:b=c.heap.objs.size:=by simpa using j
 subst e;exact I1.fpOk (Nw _) (I1.hok.fresh (Nw _))
theorem QhI:IterR X tg (fun x H C=>∃a,x=.ref a/\(∃xs,SqT X.K H a xs)/\C (Itt X.K a) H):=by
 intro f c m l x v C I1 g h;obtain⟨a,e,⟨xs,i⟩,q⟩:=h;subst e;cases g;obtain⟨d,r,p,s⟩:=I1.tuple i;refine DX (show c.heap.IsTuple a d.toArray from p) ?_;refine⟨c.heap.objs.size,[c.heap.objs.size],_,_,l,rfl,I1.kept (t':=c.toks) fun b o e=>Ni _ e,Qam a _,⟨_,Ny _ rfl,rfl,rfl⟩,fun b j=>?_,q⟩;have e:b=c.heap.objs.size:=by simpa using j
 subst e;exact I1.fpOk (Nw _) (I1.hok.fresh (Nw _))
noncomputable def Its(x:Str):It:=⟨fun i _=>i<x.cps.size,fun i H v a=>a=H/\∃c,x.cps[i]?=some c/\v=.str ⟨#[c]⟩,fun i _=>x.cps.size<=i⟩
noncomputable def JO(x:Str):List W:=x.cps.toList.map fun c=>.str ⟨#[c]⟩
theorem Qd7{P:Program}{w:World}{K:Nd}{tg:Expr}(it:Addr)(x:Str)(ty:String)(t:Tok)(f:ty="str_ascii_iterator"\/ty="str_iterator") :
  Turn P w K tg (Its x) [it] it (fun i h=>i<=x.cps.size/\h.IsStrIter it ty x t i) where
 mem:=by simp
 obj:=fun i h st b j=>by
  have e:b=it:=by simpa using j
  subst e;obtain⟨_,o,e,c,d⟩:=st;exact⟨o,e,fun v z=>by rw[d]at z;cases z⟩
 keep:=fun i h l st k=>⟨st.1,let⟨o,T,r⟩:=st.2;⟨o,k it (by simp) o T,r⟩⟩
 item:=by
  intro X L hw M J i a s G H E I q st p;subst L hw M;obtain⟨U,st⟩:=st;obtain⟨F,f1,f2,D,C,B⟩:=q it (by simp);have g:i<x.cps.size:=p;have m:x.cps[i]?=some (x.cps[i]'g):=NX g
  have fin:∀l:Heap,l.IsStrIter it ty x t (i+1)->Heap.SameBut it s.heap l->∃u,some (Value.str ⟨#[x.cps[i]'g]⟩ s.toks)=some u/\wpAny (model X.prog X.w) X.A (letOwnedTupleGo tg (.ref it) u) (fun _ Q=>∃y O,Inv X a G O Q/\RelV y u/\(Its x).yld i H y O/\(i+1<=x.cps.size/\Q.heap.IsStrIter it ty x t (i+1))/\∀b∈[it],O b=none) E { s with heap:=l,toks:=s.toks+1 }:=fun l n S=>by
   have I1:Inv X a G H { s with heap:=l,toks:=s.toks+1 }:=I.turned (fun b o j e=>(S.2 b j).trans e) F f1 D C B;obtain⟨o,e,c,d⟩:=id n;refine⟨_,rfl,QbM (s:={ s with heap:=l,toks:=s.toks+1 }) e c d (by rcases f with z|z<;>rw[z]<;>decide) ⟨.str ⟨#[x.cps[i]'g]⟩,H,I1,⟨_,rfl⟩,⟨rfl,_,m,rfl⟩,⟨p,n⟩,fun b j=>(q b j).1⟩⟩
  rcases f with z|z
  ·subst z;exact wpAny_pyNext_ascii_item st m fin
  ·subst z;exact wpAny_pyNext_wide_item st m fin
 done:=by
  intro X L hw M J i a s G H E I q st p;subst L hw M;obtain⟨U,st⟩:=st;obtain⟨F,f1,f2,D,C,B⟩:=q it (by simp);have m:x.cps[i]?=none:=by have:x.cps.size<=i:=p;simp;exact this
  rcases f with z|z
  ·subst z;exact wpAny_pyNext_ascii_end (I.ok.hd J) st m fun l N=>⟨rfl,I.turned (t':=s.toks) (fun b o j e=>N b o j e) F f1 D C B⟩
  ·subst z;exact wpAny_pyNext_wide_end (I.ok.hd J) st m fun l N=>⟨rfl,I.turned (t':=s.toks) (fun b o j e=>N b o j e) F f1 D C B⟩
 self:=fun _ _ _ _ _ st h=>by
  rcases f with z|z
  ·subst z;exact wpAny_pyIter_striter_ascii st.2 h
  ·subst z;exact wpAny_pyIter_striter_wide st.2 h
theorem QiE:IterR X tg (fun x H C=>∃y,x=.str y/\C (Its y) H):=by
 intro c a g l x v C I1 h i;obtain⟨y,rfl,q⟩:=i;obtain⟨t,rfl⟩:=h
 have fin:∀ty,(ty="str_ascii_iterator"\/ty="str_iterator")->PIE X c g tg C (.ref a.heap.objs.size) { a with heap:=a.heap.push { cls:=.type ty,data:=.fields #[.str y t,.int 0 0] } }:=fun ty d=>by
  refine⟨a.heap.objs.size,[a.heap.objs.size],_,_,l,rfl,I1.kept (t':=a.toks) fun b o e=>Ni _ e,Qd7 _ y ty t d,⟨Ei _,_,Ny _ rfl,rfl,rfl⟩,fun b j=>?_,q⟩;have e:b=a.heap.objs.size:=by simpa using j
  subst e;exact I1.fpOk (Nw _) (I1.hok.fresh (Nw _))
 cases f:y.cps.all (·<128)
 ·exact wpAny_pyIter_wide f (fin _ (.inr rfl))
 ·exact wpAny_pyIter_ascii f (fin _ (.inl rfl))
end
noncomputable def Qee(h:MH):W->Option (List W×Option Src)
 |.tup ws=>some (ws,none)
 |.lst ws=>some (ws,none)
 |.frz ws=>some (ws,none)
 |.str x=>some (JO x,none)
 |.ref n=>match h[n]? with|some (.lst ws)=>some (ws,some (.l n))|_=>none
 |_=>none
noncomputable def QC(m:ME):MI:=fun a h=>(m a h).bind fun p=>(Qee p.2 p.1).map fun q=>(q.1,q.2,p.2)
section
variable{K:Nd}{R:Rn}
theorem Um(d:SqL K R.F a xs)(r:Rws K R ws xs):ItOk K R (Itl K a) ws none where
 go:=fun i w j h H x c _ e=>by
  obtain⟨v,g,_⟩:=r.get e;exact⟨xs,v,JJ (fun b o z=>c.sub b o (x.f b o z)) d,g⟩
 yld:=fun i w j h H x s e c _ q l=>by
  obtain⟨rfl,m⟩:=l;obtain⟨v,g,p⟩:=r.get q;have:=m xs (JJ (fun b o z=>c.sub b o (e.f b o z)) d);rw[g]at this;cases this;exact⟨j,Ext.refl _,c,Rw.mono e _ _ p⟩
 stop:=fun i j h H x c _ n=>⟨xs,JJ (fun b o z=>c.sub b o (x.f b o z)) d,by rw[<-r.length];exact n⟩
theorem Qdl(d:SqT K R.F a xs)(r:Rws K R ws xs):ItOk K R (Itt K a) ws none where
 go:=fun i w j h H x c _ e=>by
  obtain⟨v,g,_⟩:=r.get e;exact⟨xs,v,Zj (fun b o z=>c.sub b o (x.f b o z)) d,g⟩
 yld:=fun i w j h H x s e c _ q l=>by
  obtain⟨rfl,m⟩:=l;obtain⟨v,g,p⟩:=r.get q;have:=m xs (Zj (fun b o z=>c.sub b o (e.f b o z)) d);rw[g]at this;cases this;exact⟨j,Ext.refl _,c,Rw.mono e _ _ p⟩
 stop:=fun i j h H x c _ n=>⟨xs,Zj (fun b o z=>c.sub b o (x.f b o z)) d,by rw[<-r.length];exact n⟩
theorem Qc4(g:n<R.N):ItOk K R (Itl K (R.ρ n)) ws (some (.l n)) where
 go:=fun i w o h H x b d e=>by
  obtain⟨c,a,f⟩:=b.obj n _ (d (.l n) rfl);obtain⟨v,m,_⟩:=f.get e;rw[x.ρ n g]at a;exact⟨c,v,SqL.of a,m⟩
 yld:=fun i w o h H x t e b d s p=>by
  obtain⟨rfl,q⟩:=p;obtain⟨c,a,f⟩:=b.obj n _ (d (.l n) rfl);obtain⟨v,m,r⟩:=f.get s;rw[e.ρ n g]at a;have:=q c (SqL.of a);rw[m]at this;cases this;exact⟨o,Ext.refl _,b,r⟩
 stop:=fun i o h H x b d j=>by
  obtain⟨c,a,f⟩:=b.obj n _ (d (.l n) rfl);rw[x.ρ n g]at a;exact⟨c,SqL.of a,by rw[<-f.length];exact j⟩
theorem Qdv:ItOk K R (Its x) (JO x) none where
 go:=fun i w b h H _ _ _ e=>by
  have:=(Nj.mp e).1;show i<x.cps.size;simpa[JO]using this
 yld:=fun i w b h H v l e d _ a f=>by
  obtain⟨rfl,c,j,rfl⟩:=f;unfold JO at a;rw[Nu,N3,j]at a;cases a;exact⟨b,Ext.refl _,d,Rw.str _⟩
 stop:=fun i b h H _ _ _ g=>by
  show x.cps.size<=i;simpa[JO]using g
theorem Yl{lo:Int}:ItOk K R (Itr lo n) ((List.range n).map fun(i:Nat)=>W.int (lo+(i:Int))) none where
 go:=fun i w b h H _ _ _ e=>by
  have:=(Nj.mp e).1;show i<n;simpa using this
 yld:=fun i w b h H v l e d _ c f=>by
  obtain⟨rfl,rfl⟩:=f;rw[Nu]at c;obtain⟨j,a,e2⟩:=Nf.mp c;rw[Ey (by have:=(Nj.mp a).1;simpa using this)]at a;cases a;cases e2;exact⟨b,Ext.refl _,d,Rw.int _⟩
 stop:=fun i b h H _ _ _ g=>by
  show n<=i;simpa using g
end
section
variable{X:Cx}{tg a b c:Expr}{ma:ME}{ms:MA}{pos p:Pos}
theorem QeX(P:PM X a ma):PMI X tg a (QC ma):=by
 intro j s E H C I q;obtain⟨R,u,h,items,F,Z,J,st,e,k⟩:=q;obtain⟨⟨w,S⟩,e1,e2⟩:=Nc.mp e;obtain⟨⟨N,Y⟩,i,U⟩:=Nf.mp e2;cases U;refine thn (P j s E H _ I ⟨R,u,h,w,S,J,st,e1,fun R1 m v o d g=>?_⟩) fun v G ⟨x,m,I1,L,M⟩=>((it_list.or QhI).or QiE) j G E m x v C I1 L M;cases w with
 |tup A=>
  cases i;obtain⟨ad,z,rfl,D,Q⟩:=d.tupAt g;unfold Rw at g;obtain⟨t,f,T,l,r⟩:=g;cases T;exact .inl (.inr ⟨_,rfl,⟨z,D⟩,k R1 m _ o d (Qdl l r)⟩)
 |lst A=>
  cases i;unfold Rw at g;obtain⟨t,f,rfl,l,r⟩:=g;exact .inl (.inl ⟨_,rfl,⟨f,SqL.of (d.sub _ _ l)⟩,k R1 m _ o d (Um (SqL.of l) r)⟩)
 |frz A=>
  cases i;unfold Rw at g;obtain⟨t,f,rfl,l,r⟩:=g;exact .inl (.inl ⟨_,rfl,⟨f,JJ d.sub l⟩,k R1 m _ o d (Um l r)⟩)
 |str y=>
  cases i;rw[g.str_eq];exact .inr ⟨y,rfl,k R1 m _ o d Qdv⟩
 |ref n=>
  simp only[Qee]at i;split at i
  ·rename_i A O;cases i;obtain⟨B,rfl,z,D,Q⟩:=d.refAt g O;exact .inl (.inl ⟨_,rfl,⟨z,SqL.of D⟩,k R1 m _ o d (Qc4 B)⟩)
  ·cases i
 |_=>cases i
noncomputable def QO(lo:Int)(n:Nat):List W:=(List.range n).map fun(i:Nat)=>W.int (lo+(i:Int))
noncomputable def Kc(ms:MA):MI:=fun d h=>(ms d h).bind fun p=>match p.1 with
 |[.int j]=>if -(2^62)<=j/\j<2^62 then some (QO 0 j.toNat,none,p.2)else none
 |_=>none
noncomputable def QgW(ms:MA):MI:=fun d h=>(ms d h).bind fun p=>match p.1 with
 |[.int i,.int j]=>if -(2^62)<=i/\i<2^62/\-(2^62)<=j/\j<2^62 then some (QO i (j-i).toNat,none,p.2)else none
 |_=>none
theorem Xr(y:Gl X "range")(x:X.mg "range"=none)(z:PMA X [a] ms)(w:starEach [a] X.env=[(false,eval a X.env)]:=by rfl):PMI X tg (.Call (.Name "range" p) [a] [] pos) (Kc ms):=
 Gr (QcH y x z w) fun D H C n=>by
  obtain⟨R,d,h,items,s,F,t,st,e,k⟩:=n;obtain⟨⟨q,A⟩,e1,e2⟩:=Nc.mp e;refine⟨R,d,h,q,A,t,st,e1,fun R1 B E o f g=>?_⟩;split at e2
  ·rename_i j l;simp only at l;subst l;split at e2
   ·rename_i m;cases e2;rw[Rws.cons_iff]at g;obtain⟨v,r,rfl,u,i⟩:=g;rw[Rws.nil_iff]at i;subst i;rw[u.int_eq];exact⟨j,rfl,m.1,m.2,k R1 B _ o f Yl⟩
   ·cases e2
  ·cases e2
theorem Qir(D:Gl X "range")(B:X.mg "range"=none)(F:PMA X [a,b] ms)(A:starEach [a,b] X.env=[(false,eval a X.env),(false,eval b X.env)]:=by rfl)(g:starEach [b] X.env=[(false,eval b X.env)]:=by rfl):PMI X tg (.Call (.Name "range" p) [a,b] [] pos) (QgW ms):=
 Gr (QbS D B F A g) fun J H C q=>by
  obtain⟨R,d,h,items,w,N,x,st,e,k⟩:=q;obtain⟨⟨s,G⟩,e1,e2⟩:=Nc.mp e;refine⟨R,d,h,s,G,x,st,e1,fun R1 I L r f l=>?_⟩;split at e2
  ·rename_i i j o;simp only at o;subst o;split at e2
   ·rename_i E;cases e2;rw[Rws.cons_iff]at l;obtain⟨v,u,rfl,z,n⟩:=l;rw[Rws.cons_iff]at n;obtain⟨M,t,rfl,y,m⟩:=n;rw[Rws.nil_iff]at m;subst m;rw[z.int_eq,y.int_eq];exact⟨i,j,rfl,E,k R1 I _ r f Yl⟩
   ·cases e2
  ·cases e2
end
noncomputable def Qed(cp:List (Option Nat))(σ:MSt):MSt:=cp.map fun o=>match o with|none=>none|some j=>match σ[j]? with|some v=>v|none=>none
theorem Rst.cap{K:Nd}(s:Rst K R b σ)(cp:List (Option Nat)):Rst K R (Qed cp b) (Uj cp σ):=by
 unfold Qed Uj;refine⟨by simp,fun i w e=>?_⟩;rw[Nu]at e ⊢;obtain⟨o,f,a⟩:=Nf.mp e;rw[f];cases o with
 |none=>cases a
 |some j=>
  simp only at a;split at a
  ·rename_i u hu;subst a;obtain⟨v,d,c⟩:=s.2 j w hu;exact⟨v,by simp[d],c⟩
  ·cases a
open Classical in
noncomputable def VB(fin:List W->MH->Option (W×MH))(items:List W)(d:Option Src)(b:MG)(mt:MT)(me:ME):List W->List W->MSt->MH->Option (W×MH)
 |[],a,_,h=>if live d items h then fin a h else none
 | w::r,a,e,h=>if live d items h then(b w e h).bind fun c=>(mt c h).bind fun q=>match q.1 with
   |true=>(me c q.2).bind fun v=>if a.length<sizeLine then VB fin items d b mt me r (a++[v.1]) c v.2 else none
   |false=>VB fin items d b mt me r a c q.2
  else none
noncomputable def Zg(fin:List W->MH->Option (W×MH))(mi:MI)(cp:List (Option Nat))(b:MG)(mt:MT)(me:ME):ME:=fun a h=>(mi a h).bind fun p=>VB fin p.1 p.2.1 b mt me p.1 [] (Qed cp a) p.2.2
noncomputable def XI:MT:=fun _ h=>some (true,h)
noncomputable def ZH(a:List W)(h:MH):Option (W×MH):=some (.lst a,h)
def Qax(K:Nd)(fin:List W->MH->Option (W×MH)):Prop:=∀R h H b a w d D,Rh K R h H->Rws K R b a->fin b h=some (w,d)->H D=none->∃c,Ext R c/\Rh K c d (upd H D (.lst a))/\Rw K c w (.ref D)
theorem ZU{K:Nd}:Qax K ZH:=fun R h H d a w f D b r e c=>by
 cases e;exact b.lstI c r
section
variable{X:Cx}{elt tg iter c:Expr}{scope:Scope}{pos:Pos}{cl:List (Str×Addr)}{Nb:List Str}{cp:List (Option Nat)}{mi:MI}{b:MG}{mt:MT}{me:ME}{fin:List W->MH->Option (W×MH)}
theorem We{K:Nd}(hf:Qax K fin)(q:tI K (Zg fin mi cp b mt me) σ H Q):QdY (tII K mi) cp (tIG K b) (tIT K mt) (tI K me) σ H Q:=by
 obtain⟨R,B,h,w,h',rh,s,e,k⟩:=q;obtain⟨⟨items,E,h1⟩,e1,e2⟩:=Nc.mp e;refine⟨R,B,h,items,E,h1,rh,s,e1,fun R1 H1 J x1 Y Z=>?_⟩;refine⟨fun i n z τ H=>i+n=items.length/\∃R2 g o a,Ext R1 R2/\Rh K R2 o H/\Rst K R2 g τ/\Rws K R2 a z/\VB fin items E b mt me (items.drop i) a g o=some (w,h')/\After K R2 w h' Q,⟨items.length,by simp,R1,Qed cp B,h1,[],Ext.refl _,Y,(s.mono x1).cap cp,Rws.nil,by simpa using e2,k.ext x1⟩,?_⟩
 rintro i n z τ S ⟨ae,R2,g,o,a,C,m,s2,M,f,k2⟩
 by_cases G:i<items.length
 ·obtain⟨y,N⟩:∃y,items[i]?=some y:=⟨items[i],Nk G⟩
  have hd:items.drop i=y::items.drop (i+1):=by
   rw[EQ G];rw[Nk G]at N;cases N;rfl
  rw[hd]at f;unfold VB at f;split at f
  ·rename_i O;obtain⟨d,e4,e5⟩:=Nc.mp f;obtain⟨⟨t,h3⟩,e6,e7⟩:=Nc.mp e5;refine .inr ⟨Z.go i y R2 o S C m O N,fun x H' aa=>?_⟩;obtain⟨R3,l,r,p⟩:=Z.yld i y R2 o S x H' C m O N aa;refine⟨R3,g,o,y,d,r,s2.mono l,p,e4,fun R4 H4 ab A U L=>?_⟩;refine⟨R4,d,o,t,h3,U,L,e6,fun R5 H5 j F=>?_⟩;cases t with
   |true=>
    obtain⟨⟨v,h4⟩,e8,P⟩:=Nc.mp e7;dsimp only at P;split at P
    ·rename_i hz;refine QeN ⟨R5,d,h3,v,h4,F,L.mono j,e8,fun R6 H6 u I T rv=>⟨by rw[<-M.length];exact hz,n-1,by lia,by lia,R6,d,h4,a++[v],C.trans (l.trans (A.trans (j.trans I))),T,L.mono (j.trans I),?_,P,k2.ext (l.trans (A.trans (j.trans I)))⟩⟩;exact Rws.append (Rws.mono (l.trans (A.trans (j.trans I))) _ _ M) (Rws.cons rv Rws.nil)
    ·cases P
   |false=>
    exact QfF ⟨n-1,by lia,by lia,R5,d,h3,a,C.trans (l.trans (A.trans j)),F,L.mono j,Rws.mono (l.trans (A.trans j)) _ _ M,e7,k2.ext (l.trans (A.trans j))⟩
  ·cases f
 ·have hd:items.drop i=[]:=Dy (N4.mp G);rw[hd]at f;unfold VB at f;split at f
  ·rename_i O;refine .inl ⟨Z.stop i R2 o S C m O (N4.mp G),fun D hD=>?_⟩;obtain⟨R3,l,r,p⟩:=hf R2 o S a z w h' D m M f hD;exact k2 R3 _ _ l r p
  ·cases f
theorem Jk(r:Qax X.K fin)(v:X.calm=true)(B:BlkOk X scope cl Nb cp)(o:PMI X tg iter mi)(p:∀a d C i f,PMG (Mi.blk X scope cl Nb a d C i f) tg b)
  (u:∀a d C i f,PM (Mi.blk X scope cl Nb a d C i f) elt me) (n:∀x,foldedSetIterable iter X.env x=pure x:=by intro _;rfl) :
  PM X (.ListComp elt [⟨tg,iter,[],0⟩] scope pos) (Zg fin mi cp b XI me):=
 Q2 (Qbc (g:=tIG X.K b) (te:=tI X.K me) (tt:=tIT X.K XI) v B o p (fun a d C i f j s w H Q I q=>wpAny_tests_nil (by
  obtain⟨R,l,h,t,A,m,st,e,k⟩:=q;cases e
  exact⟨H,I,k R H (Ext.refl _) m⟩)) u n) fun _ _ _ q=>We r q
theorem GI(o:Qax X.K fin)(r:X.calm=true)(B:BlkOk X scope cl Nb cp)(m:PMI X tg iter mi)(n:∀a d C f e,PMG (Mi.blk X scope cl Nb a d C f e) tg b)
  (j:∀a d C f e,PMT (Mi.blk X scope cl Nb a d C f e) c mt)
  (p:∀a d C f e,PM (Mi.blk X scope cl Nb a d C f e) elt me) (l:∀x,foldedSetIterable iter X.env x=pure x:=by intro _;rfl) :
  PM X (.ListComp elt [⟨tg,iter,[c],0⟩] scope pos) (Zg fin mi cp b mt me):=
 Q2 (Qbc (g:=tIG X.K b) (te:=tI X.K me) (tt:=tIT X.K mt) r B m n (fun a d C f e h s i H Q I q=>wpAny_tests_one (j a d C f e h s i H Q I q)) p l) fun _ _ _ q=>We o q
end
open PySem.SeqAt
mutual
noncomputable def eqW:W->W->Bool
 |.non,.non=>true
 |.bl a,.bl b=>a==b
 |.bl a,.int b=>(if a then 1 else 0)==b
 |.int a,.bl b=>a==(if b then 1 else 0)
 |.int a,.int b=>a==b
 |.str a,.str b=>a==b
 |.tup a,.tup b=>Yu a b
 |.lst a,.lst b=>Yu a b
 |_,_=>false
noncomputable def Yu:List W->List W->Bool
 |[],[]=>true
 |x::xs,y::a=>eqW x y&&Yu xs a
 |_,_=>false
end
noncomputable def Vc(f:b->Option a):List b->Option (List a)
 |[]=>some []
 |x::xs=>(f x).bind fun y=>(Vc f xs).map (y::·)
noncomputable def drf(h:MH):Nat->W->Option W
 |0,_=>none
 |n+1,w=>match w with
  |.tup ws=>(Vc (drf h n) ws).map .tup
  |.lst ws=>(Vc (drf h n) ws).map .lst
  |.frz ws=>(Vc (drf h n) ws).map .lst
  |.ref k=>match h[k]? with|some (.lst ws)=>(Vc (drf h n) ws).map .lst|_=>none
  |.ty _=>none
  |.non=>some .non
  |.bl b=>some (.bl b)
  |.int i=>some (.int i)
  |.str x=>some (.str x)
theorem QL:∀{xs:List o} {a:List n},Vc f xs=some a->xs.length=a.length/\∀(i:Nat) x,xs[i]?=some x->∃y,a[i]?=some y/\f x=some y
 |[],a,e=>by cases e;exact⟨rfl,fun i x h=>by simp at h⟩
 |x::xs,a,e=>by
  obtain⟨y,h1,m⟩:=Nc.mp e;obtain⟨p,j,g⟩:=Nf.mp m;subst g;obtain⟨l,q⟩:=QL j;refine⟨by simp[l],fun i z b=>?_⟩;cases i with
  |zero=>simp at b;subst b;exact⟨y,by simp,h1⟩
  |succ i=>simp at b;obtain⟨u,d,c⟩:=q i z b;exact⟨u,by simp[d],c⟩
theorem XD:∀{a b:List W},a.length≠b.length->Yu a b=false
 |[],[],h=>absurd rfl h
 |[],_::_,_=>by unfold Yu;rfl
 |_::_,[],_=>by unfold Yu;rfl
 |x::xs,y::c,h=>by
  unfold Yu;rw[XD (a:=xs) (b:=c) (fun z=>h (by simp[z])),E1]
theorem XF:∀{a b:List W},a.length=b.length->Yu a b=(List.range a.length).all fun j=>match a[j]?,b[j]? with|some x,some y=>eqW x y|_,_=>false
 |[],[],_=>by unfold Yu;rfl
 |x::xs,y::c,h=>by
  have d:=XF (a:=xs) (b:=c) (by simpa using h);unfold Yu;rw[d,Es,IK,Fj,OM];simp[Dz]
inductive Kd(K:Nd)(R:Rn)(h:MH)(H:Hp)(n:Nat)(v:V):W->Prop where
 |flat {a:W} (f:Qe6 v=true) (e:(v=.non/\a=.non)\/(∃b,v=.bl b/\a=.bl b)\/(∃i,v=.int i/\a=.int i)\/∃x,v=.str x/\a=.str x):Kd K R h H n v a
 |lst {ad:Addr} {xs:List V} {ws as:List W} (e:v=.ref ad) (q:SqL K H ad xs) (r:Rws K R ws xs) (m:Vc (drf h n) ws=some as):Kd K R h H n v (.lst as)
 |tup {ad:Addr} {xs:List V} {ws as:List W} (e:v=.ref ad) (q:SqT K H ad xs) (r:Rws K R ws xs) (m:Vc (drf h n) ws=some as):Kd K R h H n v (.tup as)
theorem V1{K:Nd}{v:V}(d:Rh K R h H)(r:Rw K R w v)(e:drf h (n+1) w=some a):Kd K R h H n v a:=by
 cases w with
 |non=>rw[r.non_eq];cases e;exact .flat rfl (.inl ⟨rfl,rfl⟩)
 |bl b=>rw[r.bl_eq];cases e;exact .flat rfl (.inr (.inl ⟨b,rfl,rfl⟩))
 |int i=>rw[r.int_eq];cases e;exact .flat rfl (.inr (.inr (.inl ⟨i,rfl,rfl⟩)))
 |str x=>rw[r.str_eq];cases e;exact .flat rfl (.inr (.inr (.inr ⟨x,rfl,rfl⟩)))
 |tup g=>
  obtain⟨ad,f,e1,q,c⟩:=d.tupAt r;obtain⟨as,m,e2⟩:=Nf.mp e;subst e2;exact .tup e1 q c m
 |lst g=>
  obtain⟨ad,f,e1,q,c⟩:=d.lstAt r;obtain⟨as,m,e2⟩:=Nf.mp e;subst e2;exact .lst e1 (SqL.of q) c m
 |frz g=>
  obtain⟨ad,f,e1,q,c⟩:=d.frzAt r;obtain⟨as,m,e2⟩:=Nf.mp e;subst e2;exact .lst e1 q c m
 |ref k=>
  simp only[drf]at e;split at e
  ·rename_i g j;obtain⟨as,m,e2⟩:=Nf.mp e;subst e2;obtain⟨_,e1,f,q,c⟩:=d.refAt r j;exact .lst e1 (SqL.of q) c m
  ·cases e
 |ty _=>cases e
section
variable{X:Cx}{pins:List (Addr×Obj)}{σ:L2.St}{H:Hp}{s:Shared}{R:Rn}{h:MH}
theorem KU{K:Nd}(r:∀q p v a b,Rw K R q v->Rw K R p v->drf h n q=some a->drf h n p=some b->a=b) :
  ∀{d c:List W} {xs:List V} {a b:List W},Rws K R d xs->Rws K R c xs->Vc (drf h n) d=some a->Vc (drf h n) c=some b->a=b
 |[],c,xs,a,b,f,e,i,g=>by
  rw[Rws.nil_iff]at f;subst f;cases c with
  |nil=>cases i;cases g;rfl
  |cons w ws=>rw[Rws.cons_iff]at e;obtain⟨_,_,z,_⟩:=e;cases z
 | w::d,c,xs,a,b,f,e,i,g=>by
  rw[Rws.cons_iff]at f;obtain⟨v,x,rfl,E,D⟩:=f;cases c with
  |nil=>rw[Rws.nil_iff]at e;cases e
  |cons A c=>
   rw[Rws.cons_iff]at e;obtain⟨_,_,z,C,B⟩:=e;cases z;obtain⟨y,J,I⟩:=Nc.mp i;obtain⟨L,G,F⟩:=Nf.mp I;obtain⟨u,o,m⟩:=Nc.mp g;obtain⟨t,l,j⟩:=Nf.mp m;subst F j;rw[r w A v y u E C J o,KU r D B G l]
theorem X9(I:Inv X pins σ H s)(q:SqL X.K H a xs)(e:SqT X.K H a l):False:=by
 obtain⟨g,_,p,_⟩:=I.list q;obtain⟨d,_,f,_⟩:=I.tuple e;obtain⟨o,n,j,i,_⟩:=p;obtain⟨m,c,b,_⟩:=f;rw[j]at c;cases c;rw[i]at b;exact absurd b (by simp)
theorem Kr(I:Inv X pins σ H s)(g:Rh X.K R h H):∀(n:Nat) (l j:W) (v:V) (a b:W),Rw X.K R l v->Rw X.K R j v->drf h n l=some a->drf h n j=some b->a=b
 |0,_,_,_,_,_,_,_,e,_=>by cases e
 | n+1,l,j,v,a,b,x,o,e1,e2=>by
  have u:=Kr I g n;cases V1 g x e1 with
  | flat f z=>
   cases V1 g o e2 with
   |flat y w=>
    rcases z with⟨rfl,rfl⟩|⟨_,rfl,rfl⟩|⟨_,rfl,rfl⟩|⟨_,rfl,rfl⟩<;>rcases w with⟨i,rfl⟩|⟨_,i,rfl⟩|⟨_,i,rfl⟩|⟨_,i,rfl⟩<;>cases i<;>rfl
   |lst e=>subst e;cases f
   |tup e=>subst e;cases f
  |lst e q r m=>
   subst e;cases V1 g o e2 with
   |flat f=>cases f
   |lst d c p t=>cases d;have:=I.list_inj q c;subst this;rw[KU u r p m t]
   |tup d c=>cases d;exact(X9 I q c).elim
  |tup e q r m=>
   subst e;cases V1 g o e2 with
   |flat f=>cases f
   |lst d c=>cases d;exact(X9 I c q).elim
   |tup d c p t=>cases d;have:=I.tuple_inj q c;subst this;rw[KU u r p m t]
mutual
theorem Wk:∀(n:Nat) (w a:W),drf h n w=some a->eqW a a=true
 |0,_,_,e=>by cases e
 | n+1,w,a,e=>by
  cases w with
  |non=>cases e;unfold eqW;rfl
  |bl b=>cases e;unfold eqW;simp
  |int i=>cases e;unfold eqW;simp
  |str x=>cases e;unfold eqW;simp
  |tup ws=>obtain⟨as,m,e2⟩:=Nf.mp e;subst e2;unfold eqW;exact VL n ws as m
  |lst ws=>obtain⟨as,m,e2⟩:=Nf.mp e;subst e2;unfold eqW;exact VL n ws as m
  |frz ws=>obtain⟨as,m,e2⟩:=Nf.mp e;subst e2;unfold eqW;exact VL n ws as m
  |ref k=>
   simp only[drf]at e;split at e
   ·rename_i ws c;obtain⟨as,m,e2⟩:=Nf.mp e;subst e2;unfold eqW;exact VL n ws as m
   ·cases e
  |ty _=>cases e
theorem VL:∀(n:Nat) (ws as:List W),Vc (drf h n) ws=some as->Yu as as=true
 |n,[],_,m=>by cases m;unfold Yu;rfl
 |n,w::ws,_,m=>by
  obtain⟨y,h1,d⟩:=Nc.mp m;obtain⟨a,c,b⟩:=Nf.mp d;subst b;unfold Yu;rw[Wk n w y h1,VL n ws a c];rfl
end
theorem VY(M:∀i g v1 l r q a b,Rw X.K R i v1->Rw X.K R g l->RelV v1 r->RelV l q->drf h n i=some a->drf h n g=some b->EqAt A s r q (eqW a b))
  (z:Rws X.K R e xs) (v:Rws X.K R d B) (v1:Vals xs f) (l:Vals B c) (G:Vc (drf h n) e=some as) (F:Vc (drf h n) d=some bs)
  (j:Nat) (h1:j<f.toArray.size) (p:j<c.toArray.size):EqAt A s f.toArray[j] c.toArray[j] (match as[j]?,bs[j]? with|some x,some y=>eqW x y|_,_=>false):=by
 have L:=z.length;have J:=v1.length;have I:=v.length;have H:=l.length;rw[Nh]at h1 p;obtain⟨i,o⟩:∃w,e[j]?=some w:=⟨e[j]'(Nl (Nl h1 (Nx J.symm)) (Nx L.symm)),Nk _⟩
 obtain⟨g,m⟩:∃w,d[j]?=some w:=⟨d[j]'(Nl (Nl p (Nx H.symm)) (Nx I.symm)),Nk _⟩
 obtain⟨x,O,D⟩:=z.get o;obtain⟨y,N,C⟩:=v.get m;obtain⟨u,hu,E⟩:=v1.get O;obtain⟨t,P,rt⟩:=l.get N;obtain⟨a,S,U⟩:=(QL G).2 j i o;obtain⟨b,Q,T⟩:=(QL F).2 j g m;rw[S,Q]
 have e1:f.toArray[j]=u:=by
  have:=hu;rw[Nk h1]at this;simpa using this
 have e2:c.toArray[j]=t:=by
  have:=P;rw[Nk p]at this;simpa using this
 rw[e1,e2];exact M i g x y u t a b D C E rt U T
theorem Gs(I:Inv X q σ H s)(hu:A.units<cLine)(D:∀i g v1 c m l a b,Rw X.K R i v1->Rw X.K R g c->RelV v1 m->RelV c l->drf h n i=some a->drf h n g=some b->EqAt A.in1 s m l (eqW a b))
  {ad y:Addr} (C:SqL X.K H ad xs) (B:SqL X.K H y z) (p:Rws X.K R e xs) (o:Rws X.K R d z) (v:Vc (drf h n) e=some as) (u:Vc (drf h n) d=some bs):RcAt A s (.ref ad) (.ref y) (Yu as bs):=by
 obtain⟨f,v1,t,_⟩:=I.list C;obtain⟨w,c,r,_⟩:=I.list B;have O:=p.length;have N:=v1.length;have M:=o.length;have L:=c.length;have J:=(QL v).1;have G:=(QL u).1
 by_cases x:as.length=bs.length
 ·rw[XF x];have:=RcAt.lists (A:=A) t.isList r.isList (by rw[Nh,Nh];lia) hu (fun j F E=>VY D p o v1 c v u j F E);rw[Nh]at this;rw[show as.length=f.length by lia];exact this
 ·rw[XD x];exact RcAt.lists_lengths t.isList r.isList (by rw[Nh,Nh];simp;lia) hu
theorem QaZ(I:Inv X t σ H s)(hu:A.units<cLine)(D:∀m l v1 e p o a b,Rw X.K R m v1->Rw X.K R l e->RelV v1 p->RelV e o->drf h n m=some a->drf h n l=some b->EqAt A.in1 s p o (eqW a b))
  {ad i:Addr} (z:SqT X.K H ad xs) (y:SqT X.K H i x) (r:Rws X.K R g xs) (q:Rws X.K R f x) (v:Vc (drf h n) g=some as) (u:Vc (drf h n) f=some bs):RcAt A s (.ref ad) (.ref i) (Yu as bs):=by
 obtain⟨d,v1,C,_⟩:=I.tuple z;obtain⟨c,e,B,_⟩:=I.tuple y;have O:=r.length;have N:=v1.length;have M:=q.length;have L:=e.length;have J:=(QL v).1;have G:=(QL u).1;have:=RcAt.tuples (A:=A) (show s.heap.IsTuple ad d.toArray from C) (show s.heap.IsTuple i c.toArray from B) hu (fun j F E=>VY D r q v1 e v u j F E);rw[Nh,Nh]at this
 by_cases w:as.length=bs.length
 ·rw[XF w];rw[show min d.length c.length=as.length by lia,show(d.length==c.length)=true by simp;omega,Lh]at this;exact this
 ·rw[XD w];rw[show(d.length==c.length)=false by simp;omega,E1]at this;exact this
theorem GF(I:Inv X T σ H s)(o:Rh X.K R h H):∀(n:Nat) (A:Around),A.units+n<cLine->∀(D l:W) (v1 J:V) (M L:Value) (a b:W),Rw X.K R D v1->Rw X.K R l J->RelV v1 M->RelV J L->drf h n D=some a->drf h n l=some b->EqAt A s M L (eqW a b)
 |0,_,_,_,_,_,_,_,_,_,_,_,_,_,_,e,_=>by cases e
 | n+1,A,hu,D,l,v1,J,M,L,a,b,N,E,i,g,e1,e2=>by
  have c:A.units<cLine:=by exact NG (NJ _ _) hu
  have U:=GF I o n A.in1 (by show A.units+1+n<cLine;lia)
  have w:∀{ad:Addr} {G:List V},SqL X.K H ad G->∃d:Array Value,s.heap.IsList ad d:=fun q=>by
   obtain⟨d,_,p,_⟩:=I.list q;exact⟨_,p.isList⟩
  have v:∀{ad:Addr} {G:List V},SqT X.K H ad G->∃d:Array Value,s.heap.IsTuple ad d:=fun q=>by
   obtain⟨d,_,p,_⟩:=I.tuple q;exact⟨_,p⟩
  cases V1 o N e1 with
  | flat f z=>
   cases V1 o E e2 with
   |flat S C=>
    have:=Qio (A:=A) (s:=s) i g f S
    rcases z with⟨rfl,rfl⟩|⟨_,rfl,rfl⟩|⟨_,rfl,rfl⟩|⟨_,rfl,rfl⟩<;>rcases C with⟨rfl,rfl⟩|⟨_,rfl,rfl⟩|⟨_,rfl,rfl⟩|⟨_,rfl,rfl⟩<;>(unfold eqW;exact this)
   |lst e q=>
    subst e;cases g;obtain⟨d,p⟩:=w q
    rcases z with⟨rfl,rfl⟩|⟨_,rfl,rfl⟩|⟨_,rfl,rfl⟩|⟨_,rfl,rfl⟩
    ·cases i;unfold eqW;exact EqAt.none_list p c
    ·cases i;unfold eqW;exact EqAt.bool_list _ p c
    ·obtain⟨t,rfl⟩:=i;unfold eqW;exact EqAt.int_list _ t p c
    ·obtain⟨t,rfl⟩:=i;unfold eqW;exact EqAt.str_list _ t p c
   |tup e q=>
    subst e;cases g;obtain⟨d,p⟩:=v q
    rcases z with⟨rfl,rfl⟩|⟨_,rfl,rfl⟩|⟨_,rfl,rfl⟩|⟨_,rfl,rfl⟩
    ·cases i;unfold eqW;exact EqAt.none_tuple p c
    ·cases i;unfold eqW;exact EqAt.bool_tuple _ p c
    ·obtain⟨t,rfl⟩:=i;unfold eqW;exact EqAt.int_tuple _ t p c
    ·obtain⟨t,rfl⟩:=i;unfold eqW;exact EqAt.str_tuple _ t p c
  | @lst B _ _ _ e q r m=>
   subst e;cases i;obtain⟨d,p⟩:=w q;have k2:=V1 o E e2;cases k2 with
   |flat S C=>
    rcases C with⟨rfl,rfl⟩|⟨_,rfl,rfl⟩|⟨_,rfl,rfl⟩|⟨_,rfl,rfl⟩
    ·cases g;unfold eqW;exact EqAt.list_none p c
    ·cases g;unfold eqW;exact EqAt.list_bool _ p c
    ·obtain⟨t,rfl⟩:=g;unfold eqW;exact EqAt.list_int _ t p c
    ·obtain⟨t,rfl⟩:=g;unfold eqW;exact EqAt.list_str _ t p c
   |@lst y _ _ _ x u O Q=>
    subst x;cases g
    by_cases j:B=y
    ·subst j;have:=Kr I o (n+1) D l _ _ _ N E e1 e2;rw[this,Wk (n+1) l _ e2];exact EqAt.same _
    ·unfold eqW;exact EqAt.of_refs j (Gs I c U q u r O m Q)
   |tup x u=>
    subst x;cases g;obtain⟨F,P⟩:=v u;unfold eqW;exact EqAt.list_tuple p P c
  | @tup B _ _ _ e q r m=>
   subst e;cases i;obtain⟨d,p⟩:=v q;have k2:=V1 o E e2;cases k2 with
   |flat S C=>
    rcases C with⟨rfl,rfl⟩|⟨_,rfl,rfl⟩|⟨_,rfl,rfl⟩|⟨_,rfl,rfl⟩
    ·cases g;unfold eqW;exact EqAt.tuple_none p c
    ·cases g;unfold eqW;exact EqAt.tuple_bool _ p c
    ·obtain⟨t,rfl⟩:=g;unfold eqW;exact EqAt.tuple_int _ t p c
    ·obtain⟨t,rfl⟩:=g;unfold eqW;exact EqAt.tuple_str _ t p c
   |lst x u=>
    subst x;cases g;obtain⟨F,P⟩:=w u;unfold eqW;exact EqAt.tuple_list p P c
   |@tup y _ _ _ x u O Q=>
    subst x;cases g
    by_cases j:B=y
    ·subst j;have:=Kr I o (n+1) D l _ _ _ N E e1 e2;rw[this,Wk (n+1) l _ e2];exact EqAt.same _
    ·unfold eqW;exact EqAt.of_refs j (QaZ I c U q u r O m Q)
end
end Mi
namespace Mi
open L2 PySem.SeqAt
section
variable{X:Cx}{pins:List (Addr×Obj)}{σ:L2.St}{H:Hp}{s:Shared}{R:Rn}{h:MH}
theorem Qak(I:Inv X pins σ H s)(hu:A.units<cLine)(C:∀i g v1 c m l a b,Rw X.K R i v1->Rw X.K R g c->RelV v1 m->RelV c l->drf h n i=some a->drf h n g=some b->EqAt A.in1 s m l (eqW a b))
  {ad x:Addr} (B:SqL X.K H ad xs) (z:SqL X.K H x y) (p:Rws X.K R e xs) (o:Rws X.K R d y) (u:Vc (drf h n) e=some as) (t:Vc (drf h n) d=some bs):RcNeAt A s (.ref ad) (.ref x) (!Yu as bs):=by
 obtain⟨f,v1,r,_⟩:=I.list B;obtain⟨v,c,q,_⟩:=I.list z;have N:=p.length;have M:=v1.length;have L:=o.length;have J:=c.length;have G:=(QL u).1;have F:=(QL t).1
 by_cases w:as.length=bs.length
 ·rw[XF w];have:=RcNeAt.lists (A:=A) r.isList q.isList (by rw[Nh,Nh];lia) hu (fun j E D=>VY C p o v1 c u t j E D);rw[Nh]at this;rw[show as.length=f.length by lia];exact this
 ·rw[XD w];exact RcNeAt.lists_lengths r.isList q.isList (by rw[Nh,Nh];simp;lia) hu
theorem QcA(I:Inv X pins σ H s)(hu:A.units<cLine)(C:∀m l v1 e p o a b,Rw X.K R m v1->Rw X.K R l e->RelV v1 p->RelV e o->drf h n m=some a->drf h n l=some b->EqAt A.in1 s p o (eqW a b))
  {ad i:Addr} (y:SqT X.K H ad xs) (x:SqT X.K H i w) (r:Rws X.K R g xs) (q:Rws X.K R f w) (u:Vc (drf h n) g=some as) (t:Vc (drf h n) f=some bs):RcNeAt A s (.ref ad) (.ref i) (!Yu as bs):=by
 obtain⟨d,v1,B,_⟩:=I.tuple y;obtain⟨c,e,z,_⟩:=I.tuple x;have N:=r.length;have M:=v1.length;have L:=q.length;have J:=e.length;have G:=(QL u).1;have F:=(QL t).1;have:=RcNeAt.tuples (A:=A) (show s.heap.IsTuple ad d.toArray from B) (show s.heap.IsTuple i c.toArray from z) hu (fun j E D=>VY C r q v1 e u t j E D);rw[Nh,Nh]at this
 by_cases v:as.length=bs.length
 ·rw[XF v];rw[show min d.length c.length=as.length by lia,show(d.length==c.length)=true by simp;omega,Lh]at this;exact this
 ·rw[XD v];rw[show(d.length==c.length)=false by simp;omega,E1]at this;exact this
theorem Qg7(I:Inv X pins σ H s)(x:Rh X.K R h H)(n:Nat)(A:Around)(hu:A.units+n<cLine)(L J:W)(v1 M:V)(O N:Value)(a b:W)(T:Rw X.K R L v1)(C:Rw X.K R J M)(j:RelV v1 O)(c:RelV M N)(e1:drf h n L=some a)(e2:drf h n J=some b):RcAt A s O N (eqW a b):=by
 cases n with
 |zero=>cases e1
 | succ n=>
  have d:A.units<cLine:=by exact NG (NJ _ _) hu
  have P:=GF I x n A.in1 (by show A.units+1+n<cLine;lia)
  have u:∀{ad:Addr} {B:List V},SqL X.K H ad B->∃i:Array Value,s.heap.IsList ad i:=fun q=>by
   obtain⟨i,_,p,_⟩:=I.list q;exact⟨_,p.isList⟩
  have o:∀{ad:Addr} {B:List V},SqT X.K H ad B->∃i:Array Value,s.heap.IsTuple ad i:=fun q=>by
   obtain⟨i,_,p,_⟩:=I.tuple q;exact⟨_,p⟩
  cases V1 x T e1 with
  | flat f z=>
   cases V1 x C e2 with
   | flat Q w=>
    rcases z with⟨rfl,rfl⟩|⟨_,rfl,rfl⟩|⟨_,rfl,rfl⟩|⟨_,rfl,rfl⟩<;>rcases w with⟨rfl,rfl⟩|⟨_,rfl,rfl⟩|⟨_,rfl,rfl⟩|⟨_,rfl,rfl⟩<;>first|(obtain⟨S,rfl⟩:=j)|cases j
    ·first|(obtain⟨g,rfl⟩:=c)|cases c
     unfold eqW;exact RcAt.none_none
    ·first|(obtain⟨g,rfl⟩:=c)|cases c
     unfold eqW;exact RcAt.none_bool _
    ·first|(obtain⟨g,rfl⟩:=c)|cases c
     unfold eqW;exact RcAt.none_int _ _
    ·first|(obtain⟨g,rfl⟩:=c)|cases c
     unfold eqW;exact RcAt.none_str _ _
    ·first|(obtain⟨g,rfl⟩:=c)|cases c
     unfold eqW;exact RcAt.bool_none _
    ·first|(obtain⟨g,rfl⟩:=c)|cases c
     unfold eqW;exact RcAt.bool_bool _ _
    ·first|(obtain⟨g,rfl⟩:=c)|cases c
     unfold eqW;exact RcAt.bool_int _ _ _
    ·first|(obtain⟨g,rfl⟩:=c)|cases c
     unfold eqW;exact RcAt.bool_str _ _ _
    ·first|(obtain⟨g,rfl⟩:=c)|cases c
     unfold eqW;exact RcAt.int_none _ _
    ·first|(obtain⟨g,rfl⟩:=c)|cases c
     unfold eqW;exact RcAt.int_bool _ _ _
    ·first|(obtain⟨g,rfl⟩:=c)|cases c
     unfold eqW;exact RcAt.int_int _ _ _ _
    ·first|(obtain⟨g,rfl⟩:=c)|cases c
     unfold eqW;exact RcAt.int_str _ _ _ _
    ·first|(obtain⟨g,rfl⟩:=c)|cases c
     unfold eqW;exact RcAt.str_none _ _
    ·first|(obtain⟨g,rfl⟩:=c)|cases c
     unfold eqW;exact RcAt.str_bool _ _ _
    ·first|(obtain⟨g,rfl⟩:=c)|cases c
     unfold eqW;exact RcAt.str_int _ _ _ _
    ·first|(obtain⟨g,rfl⟩:=c)|cases c
     unfold eqW;exact RcAt.str_str _ _ _ _
   |lst e q=>
    subst e;cases c;obtain⟨i,p⟩:=u q
    rcases z with⟨rfl,rfl⟩|⟨_,rfl,rfl⟩|⟨_,rfl,rfl⟩|⟨_,rfl,rfl⟩
    ·cases j;unfold eqW;exact RcAt.none_list p d
    ·cases j;unfold eqW;exact RcAt.bool_list _ p d
    ·obtain⟨t,rfl⟩:=j;unfold eqW;exact RcAt.int_list _ t p d
    ·obtain⟨t,rfl⟩:=j;unfold eqW;exact RcAt.str_list _ t p d
   |tup e q=>
    subst e;cases c;obtain⟨i,p⟩:=o q
    rcases z with⟨rfl,rfl⟩|⟨_,rfl,rfl⟩|⟨_,rfl,rfl⟩|⟨_,rfl,rfl⟩
    ·cases j;unfold eqW;exact RcAt.none_tuple p d
    ·cases j;unfold eqW;exact RcAt.bool_tuple _ p d
    ·obtain⟨t,rfl⟩:=j;unfold eqW;exact RcAt.int_tuple _ t p d
    ·obtain⟨t,rfl⟩:=j;unfold eqW;exact RcAt.str_tuple _ t p d
  | @lst G _ _ _ e q r m=>
   subst e;cases j;obtain⟨i,p⟩:=u q;have k2:=V1 x C e2;cases k2 with
   |flat Q w=>
    rcases w with⟨rfl,rfl⟩|⟨_,rfl,rfl⟩|⟨_,rfl,rfl⟩|⟨_,rfl,rfl⟩
    ·cases c;unfold eqW;exact RcAt.list_none p d
    ·cases c;unfold eqW;exact RcAt.list_bool _ p d
    ·obtain⟨t,rfl⟩:=c;unfold eqW;exact RcAt.list_int _ t p d
    ·obtain⟨t,rfl⟩:=c;unfold eqW;exact RcAt.list_str _ t p d
   |tup v l=>
    subst v;cases c;obtain⟨y,E⟩:=o l;unfold eqW;exact RcAt.list_tuple p E d
   |lst v l D F=>
    subst v;cases c;unfold eqW;exact Gs I d P q l r D m F
  | @tup G _ _ _ e q r m=>
   subst e;cases j;obtain⟨i,p⟩:=o q;have k2:=V1 x C e2;cases k2 with
   |flat Q w=>
    rcases w with⟨rfl,rfl⟩|⟨_,rfl,rfl⟩|⟨_,rfl,rfl⟩|⟨_,rfl,rfl⟩
    ·cases c;unfold eqW;exact RcAt.tuple_none p d
    ·cases c;unfold eqW;exact RcAt.tuple_bool _ p d
    ·obtain⟨t,rfl⟩:=c;unfold eqW;exact RcAt.tuple_int _ t p d
    ·obtain⟨t,rfl⟩:=c;unfold eqW;exact RcAt.tuple_str _ t p d
   |lst v l=>
    subst v;cases c;obtain⟨y,E⟩:=u l;unfold eqW;exact RcAt.tuple_list p E d
   |tup v l D F=>
    subst v;cases c;unfold eqW;exact QaZ I d P q l r D m F
theorem Qc7(I:Inv X pins σ H s)(x:Rh X.K R h H)(n:Nat)(A:Around)(hu:A.units+n<cLine)(L J:W)(v1 M:V)(O N:Value)(a b:W)(T:Rw X.K R L v1)(C:Rw X.K R J M)(j:RelV v1 O)(c:RelV M N)(e1:drf h n L=some a)(e2:drf h n J=some b):RcNeAt A s O N (!eqW a b):=by
 cases n with
 |zero=>cases e1
 | succ n=>
  have d:A.units<cLine:=by exact NG (NJ _ _) hu
  have P:=GF I x n A.in1 (by show A.units+1+n<cLine;omega)
  have u:∀{ad:Addr} {B:List V},SqL X.K H ad B->∃i:Array Value,s.heap.IsList ad i:=fun q=>by
   obtain⟨i,_,p,_⟩:=I.list q;exact⟨_,p.isList⟩
  have o:∀{ad:Addr} {B:List V},SqT X.K H ad B->∃i:Array Value,s.heap.IsTuple ad i:=fun q=>by
   obtain⟨i,_,p,_⟩:=I.tuple q;exact⟨_,p⟩
  cases V1 x T e1 with
  | flat f z=>
   cases V1 x C e2 with
   | flat Q w=>
    rcases z with⟨rfl,rfl⟩|⟨_,rfl,rfl⟩|⟨_,rfl,rfl⟩|⟨_,rfl,rfl⟩<;>rcases w with⟨rfl,rfl⟩|⟨_,rfl,rfl⟩|⟨_,rfl,rfl⟩|⟨_,rfl,rfl⟩<;>first|(obtain⟨S,rfl⟩:=j)|cases j
    ·first|(obtain⟨g,rfl⟩:=c)|cases c
     unfold eqW;exact RcNeAt.none_none
    ·first|(obtain⟨g,rfl⟩:=c)|cases c
     unfold eqW;exact RcNeAt.none_bool _
    ·first|(obtain⟨g,rfl⟩:=c)|cases c
     unfold eqW;exact RcNeAt.none_int _ _
    ·first|(obtain⟨g,rfl⟩:=c)|cases c
     unfold eqW;exact RcNeAt.none_str _ _
    ·first|(obtain⟨g,rfl⟩:=c)|cases c
     unfold eqW;exact RcNeAt.bool_none _
    ·first|(obtain⟨g,rfl⟩:=c)|cases c
     unfold eqW;exact RcNeAt.bool_bool _ _
    ·first|(obtain⟨g,rfl⟩:=c)|cases c
     unfold eqW;exact RcNeAt.bool_int _ _ _
    ·first|(obtain⟨g,rfl⟩:=c)|cases c
     unfold eqW;exact RcNeAt.bool_str _ _ _
    ·first|(obtain⟨g,rfl⟩:=c)|cases c
     unfold eqW;exact RcNeAt.int_none _ _
    ·first|(obtain⟨g,rfl⟩:=c)|cases c
     unfold eqW;exact RcNeAt.int_bool _ _ _
    ·first|(obtain⟨g,rfl⟩:=c)|cases c
     unfold eqW;exact RcNeAt.int_int _ _ _ _
    ·first|(obtain⟨g,rfl⟩:=c)|cases c
     unfold eqW;exact RcNeAt.int_str _ _ _ _
    ·first|(obtain⟨g,rfl⟩:=c)|cases c
     unfold eqW;exact RcNeAt.str_none _ _
    ·first|(obtain⟨g,rfl⟩:=c)|cases c
     unfold eqW;exact RcNeAt.str_bool _ _ _
    ·first|(obtain⟨g,rfl⟩:=c)|cases c
     unfold eqW;exact RcNeAt.str_int _ _ _ _
    ·first|(obtain⟨g,rfl⟩:=c)|cases c
     unfold eqW;exact RcNeAt.str_str _ _ _ _
   |lst e q=>
    subst e;cases c;obtain⟨i,p⟩:=u q
    rcases z with⟨rfl,rfl⟩|⟨_,rfl,rfl⟩|⟨_,rfl,rfl⟩|⟨_,rfl,rfl⟩
    ·cases j;unfold eqW;exact RcNeAt.none_list p d
    ·cases j;unfold eqW;exact RcNeAt.bool_list _ p d
    ·obtain⟨t,rfl⟩:=j;unfold eqW;exact RcNeAt.int_list _ t p d
    ·obtain⟨t,rfl⟩:=j;unfold eqW;exact RcNeAt.str_list _ t p d
   |tup e q=>
    subst e;cases c;obtain⟨i,p⟩:=o q
    rcases z with⟨rfl,rfl⟩|⟨_,rfl,rfl⟩|⟨_,rfl,rfl⟩|⟨_,rfl,rfl⟩
    ·cases j;unfold eqW;exact RcNeAt.none_tuple p d
    ·cases j;unfold eqW;exact RcNeAt.bool_tuple _ p d
    ·obtain⟨t,rfl⟩:=j;unfold eqW;exact RcNeAt.int_tuple _ t p d
    ·obtain⟨t,rfl⟩:=j;unfold eqW;exact RcNeAt.str_tuple _ t p d
  | @lst G _ _ _ e q r m=>
   subst e;cases j;obtain⟨i,p⟩:=u q;have k2:=V1 x C e2;cases k2 with
   |flat Q w=>
    rcases w with⟨rfl,rfl⟩|⟨_,rfl,rfl⟩|⟨_,rfl,rfl⟩|⟨_,rfl,rfl⟩
    ·cases c;unfold eqW;exact RcNeAt.list_none p d
    ·cases c;unfold eqW;exact RcNeAt.list_bool _ p d
    ·obtain⟨t,rfl⟩:=c;unfold eqW;exact RcNeAt.list_int _ t p d
    ·obtain⟨t,rfl⟩:=c;unfold eqW;exact RcNeAt.list_str _ t p d
   |tup v l=>
    subst v;cases c;obtain⟨y,E⟩:=o l;unfold eqW;exact RcNeAt.list_tuple p E d
   |lst v l D F=>
    subst v;cases c;unfold eqW;exact Qak I d P q l r D m F
  | @tup G _ _ _ e q r m=>
   subst e;cases j;obtain⟨i,p⟩:=o q;have k2:=V1 x C e2;cases k2 with
   |flat Q w=>
    rcases w with⟨rfl,rfl⟩|⟨_,rfl,rfl⟩|⟨_,rfl,rfl⟩|⟨_,rfl,rfl⟩
    ·cases c;unfold eqW;exact RcNeAt.tuple_none p d
    ·cases c;unfold eqW;exact RcNeAt.tuple_bool _ p d
    ·obtain⟨t,rfl⟩:=c;unfold eqW;exact RcNeAt.tuple_int _ t p d
    ·obtain⟨t,rfl⟩:=c;unfold eqW;exact RcNeAt.tuple_str _ t p d
   |lst v l=>
    subst v;cases c;obtain⟨y,E⟩:=u l;unfold eqW;exact RcNeAt.tuple_list p E d
   |tup v l D F=>
    subst v;cases c;unfold eqW;exact QcA I d P q l r D m F
end
noncomputable def wEq(a b:W)(h:MH):Option (W×MH):=(drf h 40 a).bind fun x=>(drf h 40 b).map fun y=>(.bl (eqW x y),h)
noncomputable def wNe(a b:W)(h:MH):Option (W×MH):=(drf h 40 a).bind fun x=>(drf h 40 b).map fun y=>(.bl (!eqW x y),h)
theorem Qv{K:Nd}:OpM K (F2 K f) f:=fun _ _ _ _ q=>q
section
variable{X:Cx}
theorem Qa2(hu:X.A.units+64<cLine):OpR X (compareOp .Eq) (F2 X.K wEq):=by
 intro d s p H x y v u Q I g f q;obtain⟨R,h,a,b,w,r,c,j,i,e,k⟩:=q;obtain⟨o,e1,e2⟩:=Nc.mp e;obtain⟨n,m,l⟩:=Nf.mp e2;cases l;exact Qg7 I c 40 X.A (Eo (EZ (by decide) _) hu) a b x y v u o n j i g f e1 m _ _ _ _ ⟨.bl _,H,I,rfl,k R H _ (Ext.refl _) c (Rw.bl _)⟩
theorem GZ(hu:X.A.units+64<cLine):OpR X (compareOp .NotEq) (F2 X.K wNe):=by
 intro d s p H x y v u Q I g f q;obtain⟨R,h,a,b,w,r,c,j,i,e,k⟩:=q;obtain⟨o,e1,e2⟩:=Nc.mp e;obtain⟨n,m,l⟩:=Nf.mp e2;cases l;exact Qc7 I c 40 X.A (Eo (EZ (by decide) _) hu) a b x y v u o n j i g f e1 m _ _ _ _ ⟨.bl _,H,I,rfl,k R H _ (Ext.refl _) c (Rw.bl _)⟩
noncomputable def inW(x:W)(xs:List W):Bool:=xs.any fun y=>eqW y x
noncomputable def wIn(neg:Bool)(a b:W)(h:MH):Option (W×MH):=match b with
 |.tup d=>(drf h 40 a).bind fun x=>(Vc (drf h 40) d).map fun c=>(.bl (if neg then !inW x c else inW x c),h)
 |b=>(lsW h b).bind fun d=>(drf h 40 a).bind fun x=>(Vc (drf h 40) d).map fun c=>(.bl (if neg then !inW x c else inW x c),h)
open Classical in
noncomputable def QcQ(K:Nd)(R:Rn)(h:MH)(x:W)(u:Value):Bool:=decide (∃w v a,Rw K R w v/\RelV v u/\drf h 40 w=some a/\eqW a x=true)
open Classical in
theorem Qcy(I:Inv X c σ H s)(i:Rh X.K R h H)(r:Rw X.K R w v)(t:RelV v u)(e:drf h 40 w=some a):QcQ X.K R h x u=eqW a x:=by
 unfold QcQ
 by_cases q:eqW a x=true
 ·rw[q];exact decide_eq_true ⟨w,v,a,r,t,e,q⟩
 ·have b:eqW a x=false:=by simpa using q
  rw[b];refine decide_eq_false fun d=>?_;obtain⟨f,n,m,j,g,l,z⟩:=d;have:=t.inj g;subst this;rw[Kr I i 40 w f v a m r j e l,z]at b;cases b
theorem U3(I:Inv X b σ H s)(a:Rh X.K R h H):∀{ws as:List W} {xs:List V} {us:List Value},Rws X.K R ws xs->Vals xs us->Vc (drf h 40) ws=some as->us.any (QcQ X.K R h x)=inW x as
 |[],_,_,_,r,t,m=>by
  rw[Rws.nil_iff]at r;subst r;cases t;cases m;rfl
 | w::ws,_,_,_,r,t,m=>by
  rw[Rws.cons_iff]at r;obtain⟨v,d,rfl,i,g⟩:=r;cases t with
  |cons f e=>
   obtain⟨y,o,n⟩:=Nc.mp m;obtain⟨p,l,j⟩:=Nf.mp n;subst j;have c:=U3 I a (x:=x) g e l;unfold inW at c ⊢;rw[EW,EW,Qcy I a i f o,c]
theorem Kw(I:Inv X j σ H s)(g:Rh X.K R h H)(hu:A.units+40<cLine)(q:Rw X.K R a v)(p:RelV v u)(E:drf h 40 a=some x) 
  (r:Rws X.K R ws xs) (t:Vals xs us) (m:Vc (drf h 40) ws=some as):∀y∈us,EqAt A s y u (QcQ X.K R h x y):=by
 intro y C;obtain⟨i,l,e⟩:=List.mem_iff_getElem.mp C;have B:=r.length;have z:=t.length;obtain⟨w,hw⟩:∃w,ws[i]?=some w:=⟨ws[i]'(Nl (Nl l (Nx z.symm)) (Nx B.symm)),Nk _⟩
 obtain⟨o,D,d⟩:=r.get hw;obtain⟨F,c,f⟩:=t.get D;rw[Nk l,e]at c;cases c;obtain⟨b,G,n⟩:=(QL m).2 i w hw;rw[Qcy I g d f n];exact GF I g 40 A hu w a o v y u b x d q f p n E
theorem Qex(hu:X.A.units+64<cLine):OpR X (compareOp .In) (F2 X.K (wIn false)):=by
 intro o s P H x y v u Q I M L q;obtain⟨R,h,a,b,w,J,j,O,N,e,k⟩:=q;have p:X.A.in1.units+40<cLine:=by show X.A.units+1+40<cLine;lia
 have main:∀g,((drf h 40 a).bind fun x=>(Vc (drf h 40) g).map fun c=>((W.bl (if false then !inW x c else inW x c),h):W×MH))=some (w,J)->∃d c,drf h 40 a=some d/\Vc (drf h 40) g=some c/\w=.bl (inW d c)/\J=h:=fun g e=>by
  obtain⟨d,e1,e2⟩:=Nc.mp e;obtain⟨c,i,S⟩:=Nf.mp e2;cases S;exact⟨d,c,e1,i,rfl,rfl⟩
 have fin:∀{d:W} {c D:List W} {l:List V} {f:List Value},Rws X.K R D l->Vals l f->drf h 40 a=some d->Vc (drf h 40) D=some c->w=.bl (inW d c)->J=h->EP X o P Q (.bool (f.toArray.any (QcQ X.K R h d))) s:=fun {d c D l f} r t U em B C=>by
  subst B C;rw[Oh,U3 I j r t em];exact⟨.bl _,H,I,rfl,k R H _ (Ext.refl _) j (Rw.bl _)⟩
 unfold wIn at e;split at e
 ·rename_i g;obtain⟨d,c,e1,i,B,C⟩:=main g e;obtain⟨ad,l,rfl,E,n⟩:=j.tupAt N;cases L;obtain⟨f,m,F,_⟩:=I.tuple E;exact in_tupleAt (QcQ X.K R h d) (show s.heap.IsTuple ad f.toArray from F) (fun z G=>Kw I j p O M e1 n m i z (by simpa using G)) (fin n m e1 i B C)
 ·obtain⟨g,T,e⟩:=Nc.mp e;obtain⟨d,c,e1,i,B,C⟩:=main g e;obtain⟨ad,l,rfl,E,n⟩:=j.lsAt N T;cases L;obtain⟨f,m,F,_⟩:=I.list E;exact in_listAt (QcQ X.K R h d) F.isList (fun z G=>Kw I j p O M e1 n m i z (by simpa using G)) (fin n m e1 i B C)
theorem Qbd(hu:X.A.units+64<cLine):OpR X (compareOp .NotIn) (F2 X.K (wIn true)):=by
 intro o s P H x y v u Q I M L q;obtain⟨R,h,a,b,w,J,j,O,N,e,k⟩:=q;have p:X.A.in1.units+40<cLine:=by show X.A.units+1+40<cLine;omega
 have main:∀g,((drf h 40 a).bind fun x=>(Vc (drf h 40) g).map fun c=>((W.bl (if true then !inW x c else inW x c),h):W×MH))=some (w,J)->∃d c,drf h 40 a=some d/\Vc (drf h 40) g=some c/\w=.bl (!inW d c)/\J=h:=fun g e=>by
  obtain⟨d,e1,e2⟩:=Nc.mp e;obtain⟨c,i,S⟩:=Nf.mp e2;cases S;exact⟨d,c,e1,i,rfl,rfl⟩
 have fin:∀{d:W} {c D:List W} {l:List V} {f:List Value},Rws X.K R D l->Vals l f->drf h 40 a=some d->Vc (drf h 40) D=some c->w=.bl (!inW d c)->J=h->EP X o P Q (.bool (!f.toArray.any (QcQ X.K R h d))) s:=fun {d c D l f} r t U em B C=>by
  subst B C;rw[Oh,U3 I j r t em];exact⟨.bl _,H,I,rfl,k R H _ (Ext.refl _) j (Rw.bl _)⟩
 unfold wIn at e;split at e
 ·rename_i g;obtain⟨d,c,e1,i,B,C⟩:=main g e;obtain⟨ad,l,rfl,E,n⟩:=j.tupAt N;cases L;obtain⟨f,m,F,_⟩:=I.tuple E;exact notIn_tupleAt (QcQ X.K R h d) (show s.heap.IsTuple ad f.toArray from F) (fun z G=>Kw I j p O M e1 n m i z (by simpa using G)) (fin n m e1 i B C)
 ·obtain⟨g,T,e⟩:=Nc.mp e;obtain⟨d,c,e1,i,B,C⟩:=main g e;obtain⟨ad,l,rfl,E,n⟩:=j.lsAt N T;cases L;obtain⟨f,m,F,_⟩:=I.list E;exact notIn_listAt (QcQ X.K R h d) F.isList (fun z G=>Kw I j p O M e1 n m i z (by simpa using G)) (fin n m e1 i B C)
end
noncomputable def QW(a b:W)(h:MH):Option (W×MH):=match a,b with
 |.int i,.int j=>some (.int (i+j),h)
 |.str x,.str y=>if x.length+y.length<=sizeLine then some (.str (x++y),h)else none
 |.tup d,.tup c=>if d.length+c.length<=sizeLine then some (.tup (d++c),h)else none
 |a,b=>(loW h a).bind fun d=>(loW h b).bind fun c=>if d.length+c.length<=sizeLine then some (.lst (d++c),h)else none
noncomputable def UO(a b:W)(h:MH):Option (W×MH):=match a,b with|.int i,.int j=>some (.int (i-j),h)|_,_=>none
noncomputable def QgT(a b:W)(h:MH):Option (W×MH):=match a,b with|.int i,.int j=>if(-(2^64)<i/\i<2^64)\/(-(2^64)<j/\j<2^64)then some (.int (i*j),h)else none|_,_=>none
noncomputable def JP(a b:W)(h:MH):Option (W×MH):=match a,b with|.int i,.int j=>if 0<j/\j<1073741824 then some (.int (i/j),h)else none|_,_=>none
noncomputable def Zy(a b:W)(h:MH):Option (W×MH):=match a,b with|.int i,.int j=>if 0<j then some (.int (i%j),h)else none|_,_=>none
noncomputable def QgQ(a b:W)(h:MH):Option (W×MH):=match a,b with|.int i,.int j=>if 0<=j/\j<=1000000/\i.natAbs<2^64 then some (.int (i^j.toNat),h)else none|_,_=>none
noncomputable def wLt(a b:W)(h:MH):Option (W×MH):=match a,b with|.int i,.int j=>some (.bl (decide (i<j)),h)|.str x,.str y=>some (.bl (decide (x.cps.toList<y.cps.toList)),h)|_,_=>none
noncomputable def wLe(a b:W)(h:MH):Option (W×MH):=match a,b with|.int i,.int j=>some (.bl (decide (i<=j)),h)|.str x,.str y=>some (.bl (!decide (y.cps.toList<x.cps.toList)),h)|_,_=>none
noncomputable def wGt(a b:W)(h:MH):Option (W×MH):=match a,b with|.int i,.int j=>some (.bl (decide (j<i)),h)|_,_=>none
noncomputable def Qhm:W->Bool
 |.non=>true
 |_=>false
noncomputable def wIs(a b:W)(h:MH):Option (W×MH):=match b with
 |.non=>some (.bl (Qhm a),h)
 |.bl y=>match a with|.bl x=>some (.bl (x==y),h)|_=>none
 |_=>none
section
variable{X:Cx}
noncomputable def QjJ(K:Nd):R2:=fun x y H Q=>∃a b c d,x=.ref a/\y=.ref b/\SqT K H a c/\SqT K H b d/\c.length+d.length<=sizeLine /\
 (c=[]->Q (.ref b) H)/\(c≠[]->d=[]->Q (.ref a) H)/\(c≠[]->d≠[]->∀p,H p=none->Q (.ref p) (upd H p (.tup (c++d))))
theorem op_catA:OpR X (binaryOp .Add) (QjJ X.K):=by
 intro c s A H x y v u Q I p o h;obtain⟨a,b,m,B,rfl,rfl,w,t,O,G,F,E⟩:=h
 by_cases i:m=[]
 ·subst i;cases p;cases o;obtain⟨N,D,L,_⟩:=I.tuple w;obtain⟨d,R,J,_⟩:=I.tuple t;cases D;obtain⟨⟨cls,P,data,C⟩,q,r,n,hd⟩:=id L;obtain⟨⟨z,l,data2,j⟩,e,g,M,f⟩:=id J;simp only at r hd g f;subst r hd g f
  exact LA ⟨_,q,rfl⟩ ⟨_,e,rfl⟩ Ih Li Fe D6 (DW _ _)
   (tuple_addW0 a b #[] d.toArray n M P l C j (by simp)) ⟨q,e,⟨.ref b,H,I,rfl,G rfl⟩⟩
 ·exact QgI c s A H _ _ v u Q I p o ⟨a,b,m,B,rfl,rfl,w,t,i,O,F i,E i⟩
theorem Qbx:OpR X (compareOp .LtE) (fun x y H Q=>∃i j,x=.str i/\y=.str j/\Q (.bl (!decide (j.cps.toList<i.cps.toList))) H):=by
 intro a s d H x y v u Q I c b h;obtain⟨i,j,rfl,rfl,q⟩:=h;obtain⟨t,rfl⟩:=c;obtain⟨e,rfl⟩:=b;exact PySem.P.le_str ⟨.bl _,H,I,rfl,q⟩
theorem Qf8:OpR X (binaryOp .Add) (F2 X.K QW):=by
 intro m s M H x y v u Q I O N q;refine(op_add.or (op_add_str.or (op_catA.or QiH))) m s M H x y v u Q I O N ?_;obtain⟨R,h,a,b,w,P,c,i,g,e,k⟩:=q;unfold QW at e;split at e
 ·cases e;exact .inl ⟨_,_,i.int_eq,g.int_eq,k R H _ (Ext.refl _) c (Rw.int _)⟩
 ·split at e
  ·rename_i C;cases e;exact .inr (.inl ⟨_,_,i.str_eq,g.str_eq,C,k R H _ (Ext.refl _) c (Rw.str _)⟩)
  ·cases e
 ·split at e
  ·rename_i G F C;cases e;obtain⟨ad,o,e1,A,l⟩:=c.tupAt i;obtain⟨D,n,e2,t,j⟩:=c.tupAt g;have L:=l.length;have J:=j.length;refine .inr (.inr (.inl ⟨ad,D,o,n,e1,e2,A,t,by lia,fun z=>?_,fun _ z=>?_,fun _ _ p B=>?_⟩))
   ·subst z;have:G=[]:=NT.mp L;subst this;exact k R H _ (Ext.refl _) c (e2▸g)
   ·subst z;have:F=[]:=NT.mp J;subst this;rw[Du]at k;exact k R H _ (Ext.refl _) c (e1▸i)
   ·obtain⟨E,r,f,d⟩:=c.tup B (Rws.append l j);exact k E _ _ r f d
  ·cases e
 ·obtain⟨G,e1,e⟩:=Nc.mp e;obtain⟨F,e2,e⟩:=Nc.mp e;split at e
  ·rename_i C;cases e;obtain⟨ad,o,f1,A,l⟩:=c.loAt i e1;obtain⟨D,n,f2,t,j⟩:=c.loAt g e2;have L:=l.length;have J:=j.length;refine .inr (.inr (.inr ⟨ad,D,o,n,f1,f2,A,t,by omega,fun p B=>?_⟩));obtain⟨E,r,f,d⟩:=c.lstI B (Rws.append l j);exact k E _ _ r f d
  ·cases e
theorem Qfi:OpR X (binaryOp .Sub) (F2 X.K UO):=by
 intro c s d H x y v u Q I g f q;refine Qhr c s d H x y v u Q I g f ?_;obtain⟨R,h,a,b,w,m,i,l,j,e,k⟩:=q;unfold UO at e;split at e
 ·cases e;exact⟨_,_,l.int_eq,j.int_eq,k R H _ (Ext.refl _) i (Rw.int _)⟩
 ·cases e
theorem Qgj:OpR X (binaryOp .Mult) (F2 X.K QgT):=by
 intro c s d H x y v u Q I g f q;refine QhK c s d H x y v u Q I g f ?_;obtain⟨R,h,a,b,w,n,i,l,j,e,k⟩:=q;unfold QgT at e;split at e
 ·split at e
  ·rename_i m;cases e;exact⟨_,_,l.int_eq,j.int_eq,m,k R H _ (Ext.refl _) i (Rw.int _)⟩
  ·cases e
 ·cases e
theorem Qfn:OpR X (binaryOp .FloorDiv) (F2 X.K JP):=by
 intro c s d H x y v u Q I g f q;refine QeR c s d H x y v u Q I g f ?_;obtain⟨R,h,a,b,w,n,i,l,j,e,k⟩:=q;unfold JP at e;split at e
 ·split at e
  ·rename_i m;cases e;exact⟨_,_,l.int_eq,j.int_eq,m,k R H _ (Ext.refl _) i (Rw.int _)⟩
  ·cases e
 ·cases e
theorem Qfd:OpR X (binaryOp .Mod) (F2 X.K Zy):=by
 intro c s d H x y v u Q I g f q;refine QhU c s d H x y v u Q I g f ?_;obtain⟨R,h,a,b,w,n,i,l,j,e,k⟩:=q;unfold Zy at e;split at e
 ·split at e
  ·rename_i m;cases e;exact⟨_,_,l.int_eq,j.int_eq,m,k R H _ (Ext.refl _) i (Rw.int _)⟩
  ·cases e
 ·cases e
theorem Qgv:OpR X (binaryOp .Pow) (F2 X.K QgQ):=by
 intro c s d H x y v u Q I g f q;refine Qg3 c s d H x y v u Q I g f ?_;obtain⟨R,h,a,b,w,n,i,l,j,e,k⟩:=q;unfold QgQ at e;split at e
 ·split at e
  ·rename_i m;cases e;exact⟨_,_,l.int_eq,j.int_eq,m,k R H _ (Ext.refl _) i (Rw.int _)⟩
  ·cases e
 ·cases e
theorem Qeg:OpR X (compareOp .Lt) (F2 X.K wLt):=by
 intro c s i H x y v u Q I l j q;refine(op_lt.or Qcp) c s i H x y v u Q I l j ?_;obtain⟨R,h,a,b,w,m,d,g,f,e,k⟩:=q;unfold wLt at e;split at e
 ·cases e;exact .inl ⟨_,_,g.int_eq,f.int_eq,k R H _ (Ext.refl _) d (Rw.bl _)⟩
 ·cases e;exact .inr ⟨_,_,g.str_eq,f.str_eq,k R H _ (Ext.refl _) d (Rw.bl _)⟩
 ·cases e
theorem Xt:OpR X (compareOp .LtE) (F2 X.K wLe):=by
 intro c s i H x y v u Q I l j q;refine(op_le.or Qbx) c s i H x y v u Q I l j ?_;obtain⟨R,h,a,b,w,m,d,g,f,e,k⟩:=q;unfold wLe at e;split at e
 ·cases e;exact .inl ⟨_,_,g.int_eq,f.int_eq,k R H _ (Ext.refl _) d (Rw.bl _)⟩
 ·cases e;exact .inr ⟨_,_,g.str_eq,f.str_eq,k R H _ (Ext.refl _) d (Rw.bl _)⟩
 ·cases e
theorem Qac:OpR X (compareOp .Gt) (F2 X.K wGt):=by
 intro c s d H x y v u Q I g f q;refine QjK c s d H x y v u Q I g f ?_;obtain⟨R,h,a,b,w,m,i,l,j,e,k⟩:=q;unfold wGt at e;split at e
 ·cases e;exact⟨_,_,l.int_eq,j.int_eq,k R H _ (Ext.refl _) i (Rw.bl _)⟩
 ·cases e
noncomputable def QfG(a:W)(h:MH):Option (W×MH):=match a with|.int i=>some (.int (-i),h)|_=>none
theorem GU(f:PM X a d):PM X (.UnaryOp .USub a pos) (mUn QfG d):=Q2 (Qki Qhj f) fun i H Q q=>ZS (un1 q) <|by
 rintro x g ⟨R,h,a,w,j,b,c,e,k⟩
 unfold QfG at e;split at e
 ·cases e;exact⟨_,c.int_eq,k R g _ (Ext.refl _) b (Rw.int _)⟩
 ·cases e
noncomputable def wIx(a b:W)(h:MH):Option (W×MH):=match b with
 |.int i=>match a with
  |.tup d=>(atI d i).map fun w=>(w,h)
  |.str x=>if x.length<=sizeLine then(atI x.cps.toList i).map fun c=>(.str ⟨#[c]⟩,h)else none
  |a=>(lsW h a).bind fun d=>(atI d i).map fun w=>(w,h)
 |_=>none
theorem QbK{K:Nd}(r:Rws K R ws xs)(e:atI ws i=some w):∃v,atI xs i=some v/\Rw K R w v:=by
 unfold atI at e ⊢;rw[<-r.length];obtain⟨j,e1,e2⟩:=Nc.mp e;obtain⟨v,b,a⟩:=r.get e2;exact⟨v,by rw[e1];exact b,a⟩
theorem Qff:IxR X (F2 X.K wIx):=by
 intro value slice f s r H x y v u Q I B A q C;refine QiD value slice f s r H x y v u Q I B A ?_ C;obtain⟨R,h,a,b,w,F,d,l,j,e,k⟩:=q;unfold wIx at e;split at e
 ·rename_i i;split at e
  ·rename_i t;obtain⟨z,e1,e2⟩:=Nf.mp e;cases e2;obtain⟨ad,g,rfl,o,n⟩:=d.tupAt l;obtain⟨v1,p,m⟩:=QbK n e1;exact .inr (.inl ⟨ad,g,i,v1,rfl,j.int_eq,o,p,k R H _ (Ext.refl _) d m⟩)
  ·split at e
   ·rename_i D;obtain⟨c,e1,e2⟩:=Nf.mp e;cases e2;exact .inr (.inr ⟨_,i,c,l.str_eq,j.int_eq,D,e1,k R H _ (Ext.refl _) d (Rw.str _)⟩)
   ·cases e
  ·obtain⟨t,E,e⟩:=Nc.mp e;obtain⟨z,e1,e2⟩:=Nf.mp e;cases e2;obtain⟨ad,g,rfl,o,n⟩:=d.lsAt l E;obtain⟨v1,p,m⟩:=QbK n e1;exact .inl ⟨ad,g,i,v1,rfl,j.int_eq,o,p,k R H _ (Ext.refl _) d m⟩
 ·cases e
theorem Qj1(i:PM X a f)(h:PM X b e)(g:Wv b:=by intro _ _;rfl):PM X (.Subscript a b pos) (Qc wIx f e):=
 Q2 (QiF Qff i h g) fun _ _ _ q=>ZS (Qg4 q) fun _ _ d=>ZS d fun _ _ c=>c
noncomputable def VX(ws:List W)(h:MH):Option (W×MH):=match ws with
 |[.str x]=>if x.length<=sizeLine then some (.int x.length,h)else none
 |[.tup ws]=>some (.int ws.length,h)
 |[a]=>(lsW h a).map fun ws=>(.int ws.length,h)
 |_=>none
theorem JQ{K:Nd}:QfP K (Fs K f) f:=fun _ _ _ q=>q
theorem GW{K:Nd}(r:Rws K R [a] xs):∃v,xs=[v]/\Rw K R a v:=by
 rw[Rws.cons_iff]at r;obtain⟨v,d,rfl,c,b⟩:=r;rw[Rws.nil_iff]at b;subst b;exact⟨v,rfl,c⟩
theorem Qjy{K:Nd}(r:Rws K R [a,b] xs):∃v u,xs=[v,u]/\Rw K R a v/\Rw K R b u:=by
 rw[Rws.cons_iff]at r;obtain⟨v,f,rfl,e,d⟩:=r;obtain⟨u,rfl,c⟩:=GW d;exact⟨v,u,rfl,e,c⟩
theorem Qbf:CallR X (.builtin "len") (Fs X.K VX):=by
 intro d s i H a j Q I r q;refine(call_len_seq.or WY) d s i H a j Q I r ?_;obtain⟨R,h,n,w,o,b,rw,e,k⟩:=q;unfold VX at e;split at e
 ·split at e
  ·rename_i l;cases e;obtain⟨v,rfl,c⟩:=GW rw;exact .inr ⟨_,by rw[c.str_eq],l,k R H _ (Ext.refl _) b (Rw.int _)⟩
  ·cases e
 ·cases e;obtain⟨v,rfl,c⟩:=GW rw;obtain⟨ad,a,rfl,g,f⟩:=b.tupAt c;exact .inl ⟨ad,a,rfl,.inr g,by rw[<-f.length];exact k R H _ (Ext.refl _) b (Rw.int _)⟩
 ·obtain⟨m,e1,e2⟩:=Nf.mp e;cases e2;obtain⟨v,rfl,c⟩:=GW rw;obtain⟨ad,a,rfl,g,f⟩:=b.lsAt c e1;exact .inl ⟨ad,a,rfl,.inl g,by rw[<-f.length];exact k R H _ (Ext.refl _) b (Rw.int _)⟩
 ·cases e
noncomputable def Vf(ws:List W)(h:MH):Option (W×MH):=match ws with
 |[.tup ws]=>some (.tup ws,h)
 |[a]=>(lsW h a).map fun ws=>(.tup ws,h)
 |_=>none
noncomputable def Uu(ws:List W)(h:MH):Option (W×MH):=match ws with
 |[.tup ws]=>some (.lst ws,h)
 |[a]=>(lsW h a).map fun ws=>(.lst ws,h)
 |_=>none
theorem UX:CallR X (.type "tuple") (Fs X.K Vf):=by
 intro b s l H a n Q I r q;refine YT b s l H a n Q I r ?_;obtain⟨R,h,x,w,y,c,rw,e,k⟩:=q;unfold Vf at e;split at e
 ·cases e;obtain⟨v,rfl,d⟩:=GW rw;obtain⟨ad,a,rfl,i,j⟩:=c.tupAt d;exact⟨ad,a,rfl,.inr ⟨i,k R H _ (Ext.refl _) c d⟩⟩
 ·obtain⟨u,e1,e2⟩:=Nf.mp e;cases e2;obtain⟨v,rfl,d⟩:=GW rw;obtain⟨ad,a,rfl,i,j⟩:=c.lsAt d e1;refine⟨ad,a,rfl,.inl ⟨i,fun p o=>?_⟩⟩;obtain⟨t,m,g,f⟩:=c.tup o j;exact k t _ _ m g f
 ·cases e
theorem XO:CallR X (.type "list") (Fs X.K Uu):=by
 intro d s o H c t Q I r q;refine Uc d s o H c t Q I r ?_;obtain⟨R,h,x,w,y,f,rw,e,k⟩:=q;unfold Uu at e;split at e
 ·cases e;obtain⟨v,rfl,j⟩:=GW rw;obtain⟨ad,c,rfl,l,i⟩:=f.tupAt j;refine⟨ad,c,rfl,.inr l,fun p m=>?_⟩;obtain⟨n,g,b,a⟩:=f.lstI m i;exact k n _ _ g b a
 ·obtain⟨u,e1,e2⟩:=Nf.mp e;cases e2;obtain⟨v,rfl,j⟩:=GW rw;obtain⟨ad,c,rfl,l,i⟩:=f.lsAt j e1;refine⟨ad,c,rfl,.inl l,fun p m=>?_⟩;obtain⟨n,g,b,a⟩:=f.lstI m i;exact k n _ _ g b a
 ·cases e
noncomputable def Qer:List W->Option (List Bool)
 |[]=>some []
 |.bl b::r=>(Qer r).map (b::·)
 |_=>none
noncomputable def Yn(ws:List W)(h:MH):Option (W×MH):=match ws with
 |[a]=>(lsW h a).bind fun ws=>(Qer ws).map fun bs=>(.bl (bs.all id),h)
 |_=>none
theorem QbQ{K:Nd}:∀{ws:List W} {xs:List V} {bs:List Bool},Rws K R ws xs->Qer ws=some bs->xs=bs.map V.bl
 |[],xs,bs,r,e=>by rw[Rws.nil_iff]at r;subst r;cases e;rfl
 |w::ws,xs,bs,r,e=>by
  rw[Rws.cons_iff]at r;obtain⟨v,c,rfl,b,a⟩:=r;cases w<;>simp only[Qer]at e<;>first|cases e|skip
  obtain⟨d,e1,e2⟩:=Nf.mp e;subst e2;rw[b.bl_eq,QbQ a e1];rfl
theorem Gm:∀{bs:List Bool} {us:List Value},Vals (bs.map V.bl) us->us=bs.map Value.bool
 |[],us,r=>by cases r;rfl
 |b::bs,us,r=>by
  cases r with
  |cons c a=>cases c;rw[Gm a];rfl
theorem Gg:∀bs:List Bool,(List.range bs.length).all (fun i=>bs.getD i false)=bs.all id
 |[]=>rfl
 |b::bs=>by rw[Es,IK,Fj,OM,Fj,<-Gg bs];rfl
theorem Qa3(U:X.calm=true):CallR X (.builtin "all") (Fs X.K Yn):=by
 intro y s σ H B us Q I r q;obtain⟨R,h,ws,w,g,t,rw,e,k⟩:=q;unfold Yn at e;split at e
 ·rename_i a;obtain⟨ys,e1,e⟩:=Nc.mp e;obtain⟨bs,e2,m⟩:=Nf.mp e;cases m;obtain⟨v,rfl,J⟩:=GW rw;obtain⟨ad,B,rfl,L,G⟩:=t.lsAt J e1;obtain⟨u,rfl,F⟩:=UN r;cases F;obtain⟨M,D,j,hz⟩:=I.list L;have f:=QbQ G e2;subst f;have T:=Gm D;subst T;refine call_all_walk (Fb j.isList ?_)
  have l:ad≠s.heap.objs.size:=fun z=>by
   obtain⟨o,n,Z,_⟩:=j;exact sz Z (Nw _) z
  refine⟨s.heap.objs.size,_,_,_,_,_,fun i=>bs.getD i false,rfl,Walks.list (A:=X.A.in1) (show X.A.in1.handled=none from I.ok.hd U) _ ad l (bs.map Value.bool).toArray,?_,?_,fun g C S=>?_⟩
  ·exact⟨⟨_,Ny _ rfl,rfl,rfl⟩,j.isList.at fun o e=>Ni _ e⟩
  ·intro i v s' Q' E' N O;have d:(bs.map Value.bool)[i]?=some v:=by simpa using N
   rw[Nu]at d;obtain⟨b,f,rfl⟩:=Nf.mp d;refine EU ?_;have:bs.getD i false=b:=by rw[EI,f];rfl
   exact this▸O
  ·have m:(List.range (bs.map Value.bool).toArray.size).all (fun i=>bs.getD i false)=bs.all id:=by
    rw[Nh,NB];exact Gg bs
   rw[m];have I0:=I.kept (t':=s.toks) (h':=s.heap.push { cls:=.type "list_iterator",data:=.fields #[.ref ad,.int 0 0] }) fun b o e=>Ni _ e
   have I':=I0.turned (t':=C) (h':=g) (it:=s.heap.objs.size) (fun b o f e=>S b o (by simpa using f) e) (I.hok.fresh (Nw _)) (fun z=>Ev _ (z▸I.lt:s.heap.objs.size<s.heap.objs.size)) (.inr I.sz) (fun x c e z=>by
    obtain⟨v,o,Y,_⟩:=I.cell x c e
    exact sz Y (Nw _) z) fun p P z=>sz (I.pin p P).1 (Nw _) z
   exact⟨.bl _,H,I',rfl,k R H _ (Ext.refl _) t (Rw.bl _)⟩
 ·cases e
end
section
variable{prog:Program}{w:World}{A:Around}{E:Value->Shared->Prop}{s:Shared}
theorem Xf{lo b:Option Int}(a:IsTup s.heap t items)(i:s.heap.IsSliceOf g l j .none)(o:IsPart l lo)(n:IsPart j b)
  (hw:HT.sIx items.size 0 lo=0/\HT.sIx items.size items.size b=items.size) (h:Q (.ref t) s):wpAny (model prog w) A (getItem (.ref t) (.ref g)) Q E s:=by
 obtain⟨os,c,e,p⟩:=id i;have f:s.TypeIs (.ref g) "slice":=⟨os,c,e⟩
 unfold getItem
 try with_reducible refine N6 ?_
 first|refine Na (Ng ?_)|skip
 refine Na (LU a.typeIs (by decide) ?_)
 refine Na (Ej (name:=Str.ofString "__getitem__") a.typeIs N0
  (Eb N0 a.typeIs Lo ?_ (LB _ _)))
 show wpAny _ _ (Builtin.Tuple.tupleItemsOf (.ref t)>>=_) _ _ s;refine Na (tupleItemsOf_ a ?_);refine Na (Fw f ?_);rw[if_pos (by decide)];refine Na (HT.sliceApplied_gen i o n ?_)
 have d:((((HT.sIx items.size 0 lo:Nat):Int)==0&&(1:Int)==1&&(HT.sIx items.size items.size b-HT.sIx items.size 0 lo)==items.size)=true):=by
  rw[hw.1,hw.2];simp
 show wpAny _ _ (if(((HT.sIx items.size 0 lo:Nat):Int)==0&&(1:Int)==1&&(HT.sIx items.size items.size b-HT.sIx items.size 0 lo)==items.size)=true then _ else _) _ _ s;rw[if_pos d];refine Na (m:=Builtin.Tuple.tupleIsExact _) ?_;unfold Builtin.Tuple.tupleIsExact;refine Na (Fw a.typeIs (Ng ?_));rw[if_pos (by decide)];exact Na (D5 (Ng ⟨_,rfl,Ng h⟩))
end
noncomputable def W4(xs:List a)(lo b:Option Int):List a:=(xs.drop (HT.sIx xs.length 0 lo)).take (HT.sIx xs.length xs.length b-HT.sIx xs.length 0 lo)
noncomputable def wSl(a:W)(lo c:Option Int)(h:MH):Option (W×MH):=match a with
 |.tup b=>some (.tup (W4 b lo c),h)
 |.str x=>if x.length<=sizeLine then some (.str (Txt.slice x lo c),h)else none
 |a=>(lsW h a).map fun b=>(.lst (W4 b lo c),h)
theorem QbU{K:Nd}{ws:List W}(r:Rws K R ws xs)(lo a:Option Int):Rws K R (W4 ws lo a) (Qc2 xs lo a):=by
 unfold W4 Qc2;rw[r.length];exact(r.drop _).take _
theorem Qao{xs:List b}{lo a:Option Int}(h:HT.sIx xs.length 0 lo=0/\HT.sIx xs.length xs.length a=xs.length):W4 xs lo a=xs:=by
 unfold W4;rw[h.1,h.2];simp
noncomputable abbrev MOp:=MSt->MH->Option (Option Int×MH)
noncomputable def tIO(K:Nd)(m:MOp):TO:=fun e H Q=>∃R a h o b,Rh K R h H/\Rst K R a e/\m a h=some (o,b)/\∀c d,Ext R c->Rh K c b d->Q o d
def PMO(X:Cx)(e:Option Expr)(m:MOp):Prop:=PO X e (tIO X.K m)
noncomputable def Jp:MOp:=fun _ h=>some (none,h)
noncomputable def Ju(m:ME):MOp:=fun a h=>(m a h).bind fun p=>match p.1 with|.int i=>some (some i,p.2)|_=>none
noncomputable def mSl(d:ME)(b c:MOp):ME:=fun a h=>(d a h).bind fun p=>(b a p.2).bind fun q=>(c a q.2).bind fun r=>wSl p.1 q.1 r.1 r.2
section
variable{X:Cx}
theorem sl_tupA:SlR X (fun x lo b H Q=>∃a xs,x=.ref a/\SqT X.K H a xs/\((HT.sIx xs.length 0 lo=0/\HT.sIx xs.length xs.length b=xs.length)->Q (.ref a) H) /\
  (¬(HT.sIx xs.length 0 lo=0/\HT.sIx xs.length xs.length b=xs.length)->∀p,H p=none->Q (.ref p) (upd H p (.tup (Qc2 xs lo b))))):=by
 intro c s n H x v q o lo b t Q I f m i g h;obtain⟨a,xs,rfl,j,w,u⟩:=h
 by_cases hw:HT.sIx xs.length 0 lo=0/\HT.sIx xs.length xs.length b=xs.length
 ·cases f;obtain⟨e,r,l,y⟩:=I.tuple j;have d:e.toArray.size=xs.length:=by rw[Nh];exact r.length.symm
  refine⟨"tuple",_,N0.lookup,l.typeIs,?_⟩;exact Xf l m i g (by rw[d];exact hw) ⟨.ref a,H,I,rfl,w hw⟩
 ·exact QiA c s n H (.ref a) v q o lo b t Q I f m i g ⟨a,xs,rfl,j,hw,u hw⟩
theorem Qic:SlR X (fun x lo f H Q=>∃z,x=.str z/\z.length<=sizeLine/\Q (.str (Txt.slice z lo f)) H):=by
 intro a s n H x v w r lo f y Q I o c p m h;obtain⟨z,rfl,b,q⟩:=h;obtain⟨t,rfl⟩:=o;refine⟨"str",_,PySem.F.slot_str_getitem.lookup,Ot _ _ _,?_⟩;have fin:∀(e:Tok) (k:Nat),EP X a n Q (.str (Txt.slice z lo f) e) { s with toks:=k }:=fun e k=>⟨.str _,H,I.tok _,⟨e,rfl⟩,q⟩
 cases p with
 |none=>
  cases m with
  |none=>exact Ds (l:=none) (u:=none) (st:=none) c rfl (FA ⟨Nn (Ii z _ _) b,fin⟩)
  |int j d=>exact Ds (l:=none) (u:=some (j,d)) (st:=none) c rfl (FA ⟨Nn (Ii z _ _) b,fin⟩)
 |int i g=>
  cases m with
  |none=>exact Ds (l:=some (i,g)) (u:=none) (st:=none) c rfl (FA ⟨Nn (Ii z _ _) b,fin⟩)
  |int j d=>exact Ds (l:=some (i,g)) (u:=some (j,d)) (st:=none) c rfl (FA ⟨Nn (Ii z _ _) b,fin⟩)
theorem ZM:PMO X none Jp:=fun a s c H Q I d=>by
 obtain⟨R,b,h,o,g,f,st,e,k⟩:=d;cases e;exact Qgs a s c H Q I (k R H (Ext.refl _) f)
theorem ZL(n:PM X e m):PMO X (some e) (Ju m):=fun a s f H Q I g=>by
 obtain⟨R,b,h,o,r,l,st,e1,k⟩:=g;refine QeP n a s f H Q I ?_;obtain⟨⟨w,p⟩,e2,d⟩:=Nc.mp e1;refine⟨R,b,h,w,p,l,st,e2,fun R1 q v i c j=>?_⟩;cases w<;>simp only at d<;>first|(cases d;exact⟨_,j.int_eq,k R1 q i c⟩)|cases d
theorem Qc8{lo A:Option Expr}{pos J:Pos}(T:PM X a N)(P:PMO X lo L)(S:PMO X A M):PM X (.Subscript a (.Slice lo A none J) pos) (mSl N L M):=
 Q2 (Qc6 (sl_list.or (sl_tupA.or Qic)) T P S) fun σ H Q F=>by
  obtain⟨R,f,h,w,h',I,st,e,k⟩:=F;obtain⟨⟨a,C⟩,ea,e2⟩:=Nc.mp e;obtain⟨⟨l,B⟩,Z,e3⟩:=Nc.mp e2;obtain⟨⟨u,U⟩,Y,d⟩:=Nc.mp e3;refine⟨R,f,h,a,C,I,st,ea,fun R1 H1 x q s G=>⟨R1,f,C,l,B,s,st.mono q,Z,fun R2 H2 o r=>⟨R2,f,B,u,U,r,st.mono (q.trans o),Y,fun D E z b=>?_⟩⟩⟩;have c:=Rw.mono (o.trans z) _ _ G;have k3:=k.ext (q.trans (o.trans z));dsimp only at d;unfold wSl at d;split at d
  ·cases d;obtain⟨ad,m,rfl,t,j⟩:=b.tupAt c;refine .inr (.inl ⟨ad,m,rfl,t,fun hw=>?_,fun _ p v=>?_⟩)
   ·rw[Qao (by rw[j.length];exact hw)]at k3;exact k3 D E _ (Ext.refl _) b c
   ·obtain⟨y,n,i,g⟩:=b.tup v (QbU j l u);exact k3 y _ _ n i g
  ·split at d
   ·rename_i O;cases d;exact .inr (.inr ⟨_,c.str_eq,O,k3 D E _ (Ext.refl _) b (Rw.str _)⟩)
   ·cases d
  ·obtain⟨ys,e5,e6⟩:=Nf.mp d;cases e6;obtain⟨ad,m,rfl,t,j⟩:=b.lsAt c e5;refine .inl ⟨ad,m,rfl,t,fun p v=>?_⟩;obtain⟨y,n,i,g⟩:=b.lstI v (QbU j l u);exact k3 y _ _ n i g
end
def Qfo(X:Cx)(id:String)(f:W->List W->MH->Option (W×MH)):Prop:=
 MtR X id (fun x d H Q=>∃R h a b w c,Rh X.K R h H/\Rw X.K R a x/\Rws X.K R b d/\f a b h=some (w,c)/\After X.K R w c Q)
noncomputable def tyW(h:MH)(T:String):W->Bool
 |.str _=>T=="str"
 |.int _=>T=="int"
 |.lst _=>T=="list"
 |.frz _=>T=="list"
 |.ref n=>match h[n]? with|some (.lst _)=>T=="list"|some (.dic _)=>T=="dict"|some (.dct _)=>T=="dict"|_=>false
 |_=>false
noncomputable def mMt(T:String)(f:W->List W->MH->Option (W×MH))(mo:ME)(b:MA):ME:=fun a h=>(mo a h).bind fun p=>if tyW p.2 T p.1=true then(b a p.2).bind fun q=>f p.1 q.1 q.2 else none
theorem QeD{K:Nd}{x:V}(c:Rh K R h H)(r:Rw K R a x)(e:tyW h T a=true):tyV K T x H:=by
 cases a with
 |str _=>rw[r.str_eq];exact Dk e
 |int _=>rw[r.int_eq];exact Dk e
 |lst _=>
  obtain⟨ad,b,rfl,q,_⟩:=c.lstAt r;exact .inl ⟨Dk e,b,SqL.of q⟩
 |frz _=>
  obtain⟨ad,b,rfl,q,_⟩:=c.frzAt r;exact .inl ⟨Dk e,b,q⟩
 |ref n=>
  simp only[tyW]at e;split at e
  ·rename_i i d;obtain⟨_,rfl,b,f,_⟩:=c.refAt r d;exact .inl ⟨Dk e,b,SqL.of f⟩
  ·rename_i kvs d;unfold Rw at r;obtain⟨g,f,_⟩:=c.obj n _ d;rw[r.2];exact .inr (.inr (.inl ⟨Dk e,.inl ⟨g,f⟩⟩))
  ·rename_i kvs d;unfold Rw at r;obtain⟨g,f,_⟩:=c.obj n _ d;rw[r.2];exact .inr (.inr (.inl ⟨Dk e,.inr ⟨g,f⟩⟩))
  ·cases e
 |_=>cases e
section
variable{X:Cx}{o e:Expr}{es:List Expr}{mo:ME}{ms:MA}{name:Str}{apos cpos:Pos}{T id:String}{f:W->List W->MH->Option (W×MH)}
theorem Qh4{X:Cx}{e:Expr}{es:List Expr}{cpos:Pos}(a:decide ((e::es).length<30)=true)(c:Jw e=false)(b:V3 es=true) :
  ((backTo cpos (starEach (e::es) X.env)).all (fun x=>!x.1)&&(backToKw cpos (keywordEach [] X.env)).all (fun x=>x.1.isSome)
   && decide ((e::es).length+([]:List Keyword).length+(if([]:List Keyword).isEmpty then 0 else 1)<30))=true:=by
 rw[QdU (by unfold V3 at b ⊢;rw[Fj,c,b];rfl)];exact a
theorem QaV(A:PlainAttrs T)(slot:Slot T name id)(n:typeOf (.builtin id)=pure (.type "method_descriptor"))(D:Qfo X id f)(C:PM X o mo)(E:PMA X (e::es) ms)
  (d:attributeBase o name X.env (eval o X.env)=eval o X.env:=by rfl) (j:decide ((e::es).length<30)=true:=by rfl)
  (c:(apos.endLine==cpos.line)=true:=by rfl) (t:Jw e=false:=by rfl) (b:V3 es=true:=by rfl) :
  PM X (.Call (.Attribute o name apos) (e::es) [] cpos) (mMt T f mo ms):=
 Q2 (Qjg A slot n D C E d (Qh4 j t b) c (QP t) (Z8 b)) fun J H Q y=>by
  obtain⟨R,g,h,w,F,z,st,e,k⟩:=y;obtain⟨⟨a,v⟩,G,e2⟩:=Nc.mp e;dsimp only at e2;split at e2
  ·rename_i B;obtain⟨⟨r,u⟩,es,I⟩:=Nc.mp e2;exact⟨R,g,h,a,v,z,st,G,fun R1 N x q i s=>⟨QeD i s B,R1,g,v,r,u,i,st.mono q,es,fun R2 M L p m l=>⟨R2,u,a,r,w,F,m,Rw.mono p _ _ s,l,I,k.ext (q.trans p)⟩⟩⟩
  ·cases e2
theorem Qij(q:PlainAttrs T)(slot:Slot T name id)(i:typeOf (.builtin id)=pure (.type "method_descriptor"))(t:Qfo X id f)(s:PM X o mo)
  (c:attributeBase o name X.env (eval o X.env)=eval o X.env:=by rfl) (b:(apos.endLine==cpos.line)=true:=by rfl):PM X (.Call (.Attribute o name apos) [] [] cpos) (mMt T f mo Qd):=
 Q2 (Qil q slot i t s c b) fun z H Q m=>by
  obtain⟨R,g,h,w,u,p,st,e,k⟩:=m;obtain⟨⟨a,l⟩,v,e2⟩:=Nc.mp e;dsimp only at e2;split at e2
  ·rename_i r;obtain⟨⟨A,B⟩,es,y⟩:=Nc.mp e2;cases es;exact⟨R,g,h,a,l,p,st,v,fun R1 C x n d j=>⟨QeD d j r,R1,l,a,[],w,u,d,j,Rws.nil,y,k.ext n⟩⟩
  ·cases e2
end
noncomputable def XM(a:W)(ws:List W)(h:MH):Option (W×MH):=match a,ws with
 |.ref n,[w]=>match h[n]? with|some (.lst b)=>if b.length<sizeLine then some (.non,h.set n (.lst (b++[w])))else none|_=>none
 |_,_=>none
noncomputable def Wp(a:W)(ws:List W)(h:MH):Option (W×MH):=match a,ws with
 |.ref n,[w]=>match h[n]? with|some (.lst c)=>(loW h w).bind fun b=>if c.length+b.length<=sizeLine then some (.non,h.set n (.lst (c++b)))else none|_=>none
 |_,_=>none
noncomputable def QiY(a:W)(ws:List W)(h:MH):Option (W×MH):=match a,ws with
 |.ref n,[]=>match h[n]? with|some (.lst b)=>(b[b.length-1]?).map fun w=>(w,h.set n (.lst b.dropLast))|_=>none
 |_,_=>none
section
variable{X:Cx}
theorem Rws.dropLast{K:Nd}(r:Rws K R ws a):Rws K R ws.dropLast a.dropLast:=by
 rw[IT,IT,r.length];exact r.take _
theorem Yk:Qfo X "list.append" XM:=by
 intro b s i H x l v m Q I p r q;refine QbE b s i H x l v m Q I p r ?_;obtain⟨R,h,a,C,w,E,f,t,c,e,k⟩:=q;unfold XM at e;split at e
 ·rename_i n D;split at e
  ·rename_i B u;split at e
   ·rename_i z;cases e;obtain⟨d,rfl,j,A,g⟩:=f.refAt t u;obtain⟨y,rfl,o⟩:=GW c;refine⟨_,j,y,rfl,rfl,A,by rw[<-g.length];exact z,?_⟩;exact k R _ _ (Ext.refl _) (f.put d ⟨_,rfl,Rws.append g (Rws.cons o Rws.nil)⟩) Rw.non
   ·cases e
  ·cases e
 ·cases e
theorem Qah:Qfo X "list.extend" Wp:=by
 intro b s j H x o v p Q I t u q;refine QaS b s j H x o v p Q I t u ?_;obtain⟨R,h,a,J,w,M,d,z,c,e,k⟩:=q;unfold Wp at e;split at e
 ·rename_i n L;split at e
  ·rename_i G A;obtain⟨F,e1,e⟩:=Nc.mp e;split at e
   ·rename_i B;cases e;obtain⟨f,rfl,m,D,i⟩:=d.refAt z A;obtain⟨y,rfl,r⟩:=GW c;obtain⟨E,l,rfl,C,g⟩:=d.loAt r e1;refine⟨_,E,m,l,rfl,rfl,D,C,by rw[<-i.length,<-g.length];exact B,?_⟩;exact k R _ _ (Ext.refl _) (d.put f ⟨_,rfl,Rws.append i g⟩) Rw.non
   ·cases e
  ·cases e
 ·cases e
theorem QeS:Qfo X "list.pop" QiY:=by
 intro c s i H x l v m Q I p r q;refine Qiy c s i H x l v m Q I p r ?_;obtain⟨R,h,a,C,w,E,g,t,b,e,k⟩:=q;unfold QiY at e;split at e
 ·rename_i n;split at e
  ·rename_i B u;obtain⟨D,e1,e2⟩:=Nf.mp e;cases e2;obtain⟨f,rfl,j,z,d⟩:=g.refAt t u;rw[Rws.nil_iff]at b;subst b;obtain⟨y,A,o⟩:=d.get e1;refine⟨_,j,y,rfl,rfl,z,by rw[<-d.length];exact A,?_⟩;exact k R _ _ (Ext.refl _) (g.put f ⟨_,rfl,d.dropLast⟩) o
  ·cases e
 ·cases e
end
noncomputable def Wh(h:MH):W->Option String
 |.non=>some "NoneType"
 |.bl _=>some "bool"
 |.int _=>some "int"
 |.str _=>some "str"
 |.tup _=>some "tuple"
 |.lst _=>some "list"
 |.frz _=>some "list"
 |.ref n=>match h[n]? with|some (.lst _)=>some "list"|some (.dic _)=>some "dict"|some (.dct _)=>some "dict"|_=>none
 |.ty _=>none
noncomputable def QR(k T:String):Bool:=k==T ||(k=="bool"&&T=="int")
noncomputable def KB(T:String):Bool:=T=="str" ||T=="int" ||T=="bool" ||T=="list" ||T=="tuple" ||T=="dict"
noncomputable def UD(ws:List W)(h:MH):Option (W×MH):=match ws with
 |[a,.ty T]=>if KB T=true then(Wh h a).map fun k=>(.bl (QR k T),h)else none
 |_=>none
theorem KF{K:Nd}(c:k="NoneType"\/k="bool"\/k="int"\/k="str"\/k="tuple"\/k="list"\/k="dict")(b:KB T=true):OB K (.type k) (.type T)=some (QR k T):=by
 have a:T="str"\/T="int"\/T="bool"\/T="list"\/T="tuple"\/T="dict":=by
  unfold KB at b;simp only[Dd,beq_iff_eq]at b
  rcases b with((((h|h)|h)|h)|h)|h<;>simp[h]
 rcases c with rfl|rfl|rfl|rfl|rfl|rfl|rfl<;>rcases a with rfl|rfl|rfl|rfl|rfl|rfl<;>first|rfl|decide +kernel
section
variable{X:Cx}
theorem QbL:CallR X (.builtin "isinstance") (Fs X.K UD):=by
 intro f s J H U Z Q I r q;obtain⟨R,h,Y,w,h',g,C,e,k⟩:=q;unfold UD at e;split at e
 ·rename_i a T;split at e
  ·rename_i F;obtain⟨M,e1,e2⟩:=Nf.mp e;cases e2;obtain⟨x,y,rfl,c,N⟩:=Qjy C;obtain⟨u,u2,rfl,D,j⟩:=QfX r;rw[N.ty_eq]at j;cases j;have fin:∀L,EP X f J Q (.bool (QR M T)) { s with toks:=L }:=fun L=>⟨.bl _,H,I.tok _,rfl,k R H _ (Ext.refl _) g (Rw.bl _)⟩
   have one:∀{t:String},TyOf X.K H x (.type t)->M=t->(t="NoneType"\/t="bool"\/t="int"\/t="str"\/t="tuple"\/t="list"\/t="dict")->wpAny (model X.prog X.w) X.A (call (.builtin "isinstance") [u,.type T]) (EP X f J Q) X.xe s:=fun {t} ty S P=>by
    subst S;exact QbW I D ty (KF P F) fin
   cases a with
   |non=>cases e1;rw[c.non_eq]at one;exact one .non rfl (by simp)
   |bl b=>cases e1;rw[c.bl_eq]at one;exact one (.bl b) rfl (by simp)
   |int i=>cases e1;rw[c.int_eq]at one;exact one (.int i) rfl (by simp)
   |str z=>cases e1;rw[c.str_eq]at one;exact one (.str z) rfl (by simp)
   |tup B=>
    cases e1;obtain⟨ad,v,rfl,l,_⟩:=g.tupAt c;cases D;obtain⟨E,_,p,_⟩:=I.tuple l;obtain⟨o,d,G,_⟩:=p;exact Ee Lz I.kIn ⟨o,d,G⟩ (KF (by simp) F) (fun z=>nomatch z) fin
   |lst B=>
    cases e1;obtain⟨ad,v,rfl,l,_⟩:=g.lstAt c;exact one (.lst l) rfl (by simp)
   |frz B=>
    cases e1;obtain⟨ad,v,rfl,l,_⟩:=g.frzAt c;cases D;obtain⟨E,_,p,_⟩:=I.list l;obtain⟨o,n,d,G,_⟩:=p;exact Ee F0 I.kIn ⟨o,d,G⟩ (KF (by simp) F) (fun z=>nomatch z) fin
   |ref n=>
    simp only[Wh]at e1;split at e1
    ·rename_i B m;cases e1;obtain⟨_,rfl,v,d,_⟩:=g.refAt c m;exact one (.lst d) rfl (by simp)
    ·rename_i kvs m;cases e1;unfold Rw at c;obtain⟨O,d,_⟩:=g.obj n _ m;rw[c.2]at one;exact one (.dK d) rfl (by simp)
    ·rename_i kvs m;cases e1;unfold Rw at c;obtain⟨O,d,_⟩:=g.obj n _ m;rw[c.2]at one;exact one (.dT d) rfl (by simp)
    ·cases e1
   |ty _=>cases e1
  ·cases e
 ·cases e
end
structure Cal(P:Program)(w:World)(K:Nd)(mg:Str->Option Value)(base:Heap)(k:Nat)(x:Str)(ps:List Str)(g:FM):Prop where
 ex:∃(f:Addr) (fd:FuncData),FnOk P w K mg base CX0 k f fd ps (spM K ps.length g)/\mg x=some (.ref f)/\DB K (.ref f)=true/\Binds K fd ps []/\∃(oc:Value) (od:Option Addr) (osl:Array (Option Value)),K.lookup f=some ⟨oc,od,.func fd,osl⟩
structure DefAt(K:Nd)(mg:Str->Option Value)(x:Str)(st:Stmt)(ps:List Str):Prop where
 ex:∃(f:Addr) (fd:FuncData),Fun K x x st f fd/\mg x=some (.ref f)/\Binds K fd ps []
theorem YQ{K:Nd}{h:Heap}{x:Str}{st:Stmt}{f:Addr}{i:Value}{kV d pm cd ct:Value}(X:K.In h)(G:h.Ns mainGlobals j)
  (a:DY K mainGlobals x=some (some (.ref f))) (l:K.lookup f=some ⟨i,n,.func (Da x x (Xi st) (Va st) (Qf st) .none kV d pm g cd ct),m⟩) (c:FI K cd x=true) (k:DB K (.ref f)=true)
  (b:∀(kV d pm:Value) (g:Option Addr) (e ct:Value) (us:List Value),us.length=ps.length->bindArgs (Da x x (Xi st) (Va st) (Qf st) .none kV d pm g e ct) ⟨us,[]⟩=pure (ps.zip us)):DefAt K j x st ps:=
 ⟨f,_,Qek l c k,DJ X G a,(Qek l c k).binds b⟩
structure Glob(K:Nd)(mg:Str->Option Value)(x:Str)(w:W):Prop where
 ex:∃(v:V) (u:Value),mg x=some u/\RelV v u/\∀R,Rw K R w v
theorem JH{K:Nd}(X:K.In h)(G:h.Ns mainGlobals b)(a:DY K mainGlobals x=some (some (.int i t))):Glob K b x (.int i):=
 ⟨.int i,_,DJ X G a,⟨t,rfl⟩,fun _=>Rw.int i⟩
noncomputable def Qbm:List Str->List W:=List.map W.str
theorem GY{K:Nd}:∀(a:List Str),Rws K R (Qbm a) (a.map V.str)
 |[]=>Rws.nil
 |y::a=>Rws.cons (Rw.str y) (GY a)
theorem Uk:∀{a:List Value} {b:List Str},StrsAre a b->Vals (b.map V.str) a
 |_,_,.nil=>.nil
 |_,_,.cons y t r=>.cons ⟨t,rfl⟩ (Uk r)
theorem QbY{K:Nd}{h:Heap}{x:Str}{c:Addr}{n:Nat}(X:K.In h)(G:h.Ns mainGlobals e)(a:DY K mainGlobals x=some (some (.ref c)))
  (l:K.lookup c=some ⟨.type "tuple",i,.seq b n,g⟩) (hz:b.size<=sizeLine) (f:StrsAre b.toList d):Glob K e x (.tup (Qbm d)):=
 ⟨.ref c,_,DJ X G a,rfl,fun R=>by
  unfold Rw
  exact⟨c,_,rfl,.inr ⟨_,b,n,l,rfl,rfl,hz,Uk f⟩,GY d⟩⟩
section
variable{X:Cx}{k n:Nat}{g:FM}{x:Str}{ps:List Str}{p pos:Pos}{e:Expr}{es:List Expr}{ms:MA}
theorem Qc5(C:Cal X.prog X.w X.K X.mg X.base k x ps g)(hr:Room k X.A)(i:Gl X x)(m:PMA X (e::es) ms)(c:ps.length=n:=by rfl)
  (b:(x==("__debug__":Str))=false:=by decide) (j:Jw e=false:=by rfl) (a:V3 es=true:=by rfl) :
  PM X (.Call (.Name x p) (e::es) [] pos) (Qk n g ms):=by
 obtain⟨f,fd,F,d,h,l,_⟩:=C.ex;subst c;exact Qe4 F hr i d h l Qj6 m b j a
theorem Z7(C:Glob X.K X.mg x w)(b:Gl X x)(hd:(x==("__debug__":Str))=false:=by decide):PM X (.Name x pos) (mC w):=by
 obtain⟨v,u,a,r,rw⟩:=C.ex;exact QfU b a r rw hd
theorem U1(d:Gl X x)(c:X.mg x=none)(a:bootBuiltins x=some (.type T))(b:x≠"__name__":=by decide)(hd:(x==("__debug__":Str))=false:=by decide):PM X (.Name x pos) (mC (.ty T)):=
 QfZ d c a (v:=.ty T) rfl (fun _=>Rw.ty _) b hd
end
section
variable{P:Program}{w:World}{K:Nd}{mg:Str->Option Value}{base:Heap}
theorem QK{st:Stmt}(d:DefAt K mg x st ps)(S:FnScope N ps (Qf st))(hN:N.length=ps.length+more)
  (c:∀(f:Addr) (b:Value) (A:Around) (a:List Env) (s:Shared) (H:Hp) (E:XK),Room k (A.deeper (envOfC x (Qf st) s.heap.objs.size f b))->QdA (Qeu CX0 P w K mg base N x (Qf st) f b A a s H E).nox (Va st) m) :
  Cal P w K mg base (k+1) x ps (Qw more m):=by
 obtain⟨f,fd,F,j,n⟩:=d.ex;obtain⟨i,h,kV,o,pm,p,b,ct,g,e,lk,l⟩:=F.ex;exact⟨f,fd,Qjn F S hN (fun b A a s H E hr=>c f b A a s H E hr),j,F.kp,n,i,h,g,lk⟩
theorem Cal.imp(C:Cal P w K mg base k x ps g)(h:∀a H Q E,spM K ps.length g' a H Q E->spM K ps.length g a H Q E):Cal P w K mg base k x ps g':=by
 obtain⟨f,fd,F,r⟩:=C.ex;exact⟨f,fd,F.imp h,r⟩
theorem Cal.eq(C:Cal P w K mg base k x ps g)(h:∀ws a r,ws.length=ps.length->g' ws a=some r->g ws a=some r):Cal P w K mg base k x ps g':=
 C.imp fun _ _ _ _ z=>by
  obtain⟨R,ws,a,w,f,c,d,b,e,k⟩:=z;exact⟨R,ws,a,w,f,c,d,b,h ws a _ c e,k⟩
end
theorem YL{K:Nd}:∀(ns:List Int),Rws K R (ns.map W.int) (ns.map V.int)
 |[]=>Rws.nil
 |n::ns=>Rws.cons (Rw.int n) (YL ns)
theorem Qkh{l:PySem.W.OpenLaw}{d:DefRec}{K:Params->Nd}{st:Stmt}{sem:FM}{k:Nat}(y:l.most=some 63)(B:d.params.defaults=[])(hr:Room k callerA)(A:d.name="law")
  (T:∀(w:World) (h:Heap),Y w h->(K w.params).In h)
  (S:∀(kV c pm:Value) (C:Option Addr) (g ct:Value) (s:Shared) (u:Value),BindsTo s (Da "law" "law" (Xi st) (Va st) (Qf st) .none kV c pm C g ct) ⟨[u],[]⟩ [("script",u)])
  (F:∀(w:World) (i:Str->Option Value) (h:Heap),(K w.params).In h->h.Ns mainGlobals i ->
   DefAt (K w.params) i "law" st ["script"]/\∀base:Heap,(K w.params).In base->base.Ns mainGlobals i->Cal l.prog w (K w.params) i base k "law" ["script"] sem)
  (main:∀ns:List Int,ns.length<=63->∃h',sem [.frz (ns.map W.int)] []=some (.bl true,h')) :
  OG q t XP Y l.row.toRowW d [] (fun f I=>Ou f I):=by
 refine L2.QfB (n:=63) (k:=k) (x:="script") (CX:=fun _=>CX0) (sp:=fun w=>spM (K w.params) 1 sem) y (by decide) B hr T ?_ ?_ fun _ _ _ _ _ z=>z
 ·intro w i fa h Z G b;obtain⟨D,Fn⟩:=F w i h Z G;obtain⟨f,fd,Fu,r,_⟩:=D.ex;rw[A]at b;rw[r]at b;cases b;obtain⟨oc,od,kV,c,pm,C,g,ct,L,e,lk,R⟩:=Fu.ex;refine⟨fd,fun s u=>?_,fun base P O=>?_⟩
  rotate_left
  ·obtain⟨f',X,F',p,_,_,N,M,E,j⟩:=(Fn base P O).ex;rw[r]at p;cases p;rw[lk]at j;cases j;exact F'
  rw[e];exact S kV c pm C g ct s u
 ·intro w H a ns Q hO U;obtain⟨h',e⟩:=main ns Q;refine⟨⟨fun _=>0,0,H,fun _=>none⟩,[.frz (ns.map W.int)],[],.bl true,h',rfl,⟨rfl,fun _ _ z=>z,fun n y=>absurd y (Dv _),fun m n r=>absurd r (Dv _),(fun n o z=>by simp at z),(fun _ _ z=>by cases z),(fun _ _=>rfl),(fun _ _ z=>by cases z)⟩,?_,e,fun R' H' v _ _ J=>J.bl_eq⟩;refine Rws.cons ?_ Rws.nil;unfold Rw;exact⟨a,_,rfl,U,YL ns⟩
noncomputable def QcL(a:Scope):Bool:=a.names.all fun y=>y.2 != .cell&&(y.2 != .local ||a.names.lookup y.1==some .local)
noncomputable def QjD(N:List Str)(xs a:Scope)(cp:List (Option Nat))(Nb:List Str):Bool:=(cp.zip Nb).all fun p=>match p.1 with
 |none=>true
 |some j=>N[j]?==some p.2&&(xs.names.lookup p.2==some .cell ||xs.names.lookup p.2==some .free)&&a.names.lookup p.2==some .free
noncomputable def Qev(a:Scope)(ks:List Str):Bool:=a.names.all fun y=>y.2 != .free ||ks.contains y.1
theorem Jx{env:Env}:∀{a:List (Str×NameKind)} {x:Str},a.lookup x=some .free ->
  (a.map fun(n,k)=>if(k==NameKind.free&&env.scope.kind==.function&&env.kindOf n==some .cell)then(n,NameKind.cell)else(n,k)).lookup x=some .cell \/
  (a.map fun(n,k)=>if(k==NameKind.free&&env.scope.kind==.function&&env.kindOf n==some .cell)then(n,NameKind.cell)else(n,k)).lookup x=some .free
 |[],_,h=>by simp at h
 | (n,k)::r,x,h=>by
  have d:=@Jx env r x;rw[NK];dsimp only;cases b:x==n with
  |true=>
   simp only[Ec,b]at h;cases h
   by_cases c:(NameKind.free==NameKind.free&&env.scope.kind==.function&&env.kindOf n==some .cell)=true
   ·rw[if_pos c];exact .inl (by simp[Ec,b])
   ·rw[if_neg c];exact .inr (by simp[Ec,b])
  |false=>
   simp only[Ec,b]at h
   by_cases c:(k==NameKind.free&&env.scope.kind==.function&&env.kindOf n==some .cell)=true
   ·rw[if_pos c];simp only[Ec,b];exact d h
   ·rw[if_neg c];simp only[Ec,b];exact d h
theorem ZJ{env:Env}:∀{a:List (Str×NameKind)} {x:Str} {c:NameKind},(∀y∈a,y.2≠.cell)->(c=.cell\/c=.free) ->
  (a.map fun(n,k)=>if(k==NameKind.free&&env.scope.kind==.function&&env.kindOf n==some .cell)then(n,NameKind.cell)else(n,k)).lookup x=some c->(x,NameKind.free)∈a
 |[],_,_,_,_,h=>by simp at h
 | (n,k)::r,x,c,e,f,h=>by
  rw[NK]at h;dsimp only at h;have g:=@ZJ env r x c (fun y i=>e y (Np _ i)) f;cases d:x==n with
  | true=>
   have:x=n:=Dk d;subst this
   by_cases b:(k==NameKind.free&&env.scope.kind==.function&&env.kindOf x==some .cell)=true
   ·have:k=.free:=by
     simp only[NH,beq_iff_eq]at b;exact b.1.1
    subst this;exact Nr
   ·rw[if_neg b]at h;simp[Ec]at h;subst h
    rcases f with z|z
    ·exact absurd z (e (x,k) Nr)
    ·subst z;exact Nr
  |false=>
   refine Np _ (g ?_)
   by_cases b:(k==NameKind.free&&env.scope.kind==.function&&env.kindOf n==some .cell)=true
   ·rw[if_pos b]at h;simpa only[Ec,d]using h
   ·rw[if_neg b]at h;simpa only[Ec,d]using h
theorem Qaz{d:List (Str×Addr)}(h:d.lookup x=some c):(x,c)∈d:=by
 induction d with
 |nil=>simp at h
 | cons p r e=>
  obtain⟨n,a⟩:=p;cases b:x==n with
  |true=>
   simp only[Ec,b]at h;cases h;rw[Dk b];exact Nr
  |false=>
   simp only[Ec,b]at h;exact Np _ (e h)
theorem Wg{d:List (Str×Addr)}(h:x∈d.map (·.1)):∃c,d.lookup x=some c:=by
 induction d with
 |nil=>simp at h
 | cons p r e=>
  obtain⟨n,a⟩:=p;cases b:x==n with
  |true=>exact⟨a,by simp only[Ec,b]⟩
  |false=>
   rcases Nv.mp h with z|z
   ·dsimp only at z;rw[z,beq_self_eq_true]at b;cases b
   ·obtain⟨c,f⟩:=e z;exact⟨c,by simp only[Ec,b];exact f⟩
theorem Qab(g:closureFor d X.env=pure o)(kind:d.kind=.function)(r:QcL d=true)(u:o.map (·.1)=ks)(n:Qev d ks=true)
  (f:∀p∈o,X.env.cells.lookup p.1=some p.2) (hN:X.N=N) (q:X.env.scope=xs) (m:cp.length=Nb.length) (v:QjD N xs d cp Nb=true):BlkOk X d o Nb cp:=by
 have e:∀y∈d.names,y.2≠.cell:=fun y l=>by
  have:=NP.mp r y l;simp only[NH,bne_iff_ne]at this;exact this.1
 refine⟨g,e,kind,fun y l m=>?_,fun x c h=>f _ (Qaz h),fun x h=>?_,m,fun i j x A w=>?_⟩
 ·have:=NP.mp r y l;simp only[NH,Dd,bne_iff_ne,beq_iff_eq]at this
  rcases this.2 with z|z
  ·exact absurd m z
  ·exact z
 ·have t:(x,NameKind.free)∈d.names:=by
   rcases h with h|h
   ·exact ZJ e (.inl rfl) h
   ·exact ZJ e (.inr rfl) h
  have:=NP.mp n _ t;simp only[Dd,bne_iff_ne,ne_eq,not_true_eq_false,false_or,IU]at this;exact Wg (by rw[u];exact this)
 ·have s:(cp.zip Nb)[i]?=some (some j,x):=by rw[List.getElem?_zip_eq_some];exact⟨A,w⟩
  have:=NP.mp v _ (NN s);simp only[NH,Dd,beq_iff_eq]at this;obtain⟨⟨a,b⟩,c⟩:=this;refine⟨by rw[hN];exact a,?_,?_,Jx c⟩
  ·rw[q]
   rcases b with b|b
   ·exact .inr (.inl b)
   ·exact .inr (.inr b)
  ·unfold Env.kindOf;rw[q];exact b
theorem ZK(kind:a.kind=.function)(l:QcL a=true)(g:Qev a []=true)(f:cp.length=Nb.length)(n:cp.all (·.isNone)=true):BlkOk X a [] Nb cp:=by
 have d:∀y∈a.names,y.2≠.free:=fun y e z=>by
  have:=NP.mp g y e;simp[z]at this
 have b:∀y∈a.names,y.2≠.cell:=fun y e=>by
  have:=NP.mp l y e;simp only[NH,bne_iff_ne]at this;exact this.1
 refine⟨closureFor_none d,b,kind,fun y e f=>?_,fun x c h=>by simp at h,fun x h=>?_,f,fun i j x o p=>?_⟩
 ·have:=NP.mp l y e;simp only[NH,Dd,bne_iff_ne,beq_iff_eq]at this
  rcases this.2 with z|z
  ·exact absurd f z
  ·exact z
 ·have m:(x,NameKind.free)∈a.names:=by
   rcases h with h|h
   ·exact ZJ b (.inl rfl) h
   ·exact ZJ b (.inr rfl) h
  exact absurd rfl (d _ m)
 ·have:=NP.mp n _ (NN o);simp at this
theorem Jc(items:List W)(h:MH):live none items h:=fun _ z=>by cases z
theorem VV{mt:MT}{me:ME}{h:MH}:∀(rest a:List W) (o:Option W),
  (∀w∈rest,mt (some w::caps) h=some (p w,h))->(∀w∈rest,p w=true->me (some w::caps) h=some (f w,h))->a.length+rest.length<=sizeLine ->
  VB fin items none (Z0 0) mt me rest a (o::caps) h=fin (a++(rest.filter p).map f) h
 |[],a,o,_,_,_=>by
  unfold VB;rw[if_pos (Jc _ _)];simp
 | w::rest,a,o,d,e,i=>by
  unfold VB;rw[if_pos (Jc _ _)];have h1:Z0 0 w (o::caps) h=some (some w::caps):=rfl;rw[h1,Nq,d w Nr,Nq];have g:a.length+(rest.length+1)<=sizeLine:=by simpa using i
  cases c:p w with
  |true=>
   simp only[c];rw[e w Nr c,Nq,if_pos (by lia)];rw[VV rest (a++[f w]) (some w) (fun x b=>d x (Np _ b)) (fun x b=>e x (Np _ b)) (by simp;lia)];simp[Oi,c]
  |false=>
   simp only[c];rw[VV rest a (some w) (fun x b=>d x (Np _ b)) (fun x b=>e x (Np _ b)) (by lia)];simp[Oi,c]
theorem U9(g:a->Bool):∀xs:List a,Qer (xs.map fun x=>W.bl (g x))=some (xs.map g)
 |[]=>rfl
 |x::xs=>by simp[Qer,U9 g xs]
theorem Qdc:Xx items none b body [] σ h=some (.nx σ h):=by
 rw[Xx,if_pos (Jc _ _)]
section
variable{σ σ1:MSt}{h h1 h2 h3:MH}{a b c w:W}{ws:List W}{ma mb mc:ME}{ms:MA}{mt mu:MT}{s1 s2:SM}{f f':W->W->MH->Option (W×MH)}{g:List W->MH->Option (W×MH)}{z:MF}
theorem KM(e1:ma σ h=some (a,h))(e2:mb σ h=some (b,h))(i:f a b h=some (.bl t,h))(e:mc σ h=some (c,h))(d:f' b c h=some (.bl u,h)):Jz f f' ma mb mc σ h=some (.bl (t&&u),h):=by
 unfold Jz;rw[e1,Nq,e2,Nq];simp only;rw[i,Nq];cases t<;>simp[e,d]
theorem Xc(e1:s1 σ h=some (.nx σ1 h1))(e2:s2 σ1 h1=r):QA s1 s2 σ h=r:=by unfold QA;rw[e1];exact e2
theorem QgF(e1:s1 (ws.map some++List.replicate more none) h=some (.rt w h1)):Qw more s1 ws h=some (w,h1):=by unfold Qw;rw[e1];rfl
end
theorem Qcs(c:(-(2^64)<i/\i<2^64)\/(-(2^64)<j/\j<2^64)):QgT (.int i) (.int j) h=some (.int (i*j),h):=by unfold QgT;exact if_pos c
theorem Qb3(c:0<j/\j<1073741824):JP (.int i) (.int j) h=some (.int (i/j),h):=by unfold JP;exact if_pos c
theorem KW(c:0<j):Zy (.int i) (.int j) h=some (.int (i%j),h):=by unfold Zy;exact if_pos c
theorem Qf3(c:0<=j/\j<=1000000/\i.natAbs<2^64):QgQ (.int i) (.int j) h=some (.int (i^j.toNat),h):=by unfold QgQ;exact if_pos c
theorem QcD(a:x.length<=sizeLine)(e:atI x.cps.toList i=some d):wIx (.str x) (.int i) h=some (.str ⟨#[d]⟩,h):=by
 unfold wIx;simp only;rw[if_pos a,e];rfl
noncomputable def QgM(mo mi c:ME):SM:=fun a h=>(c a h).bind fun v=>(mo a v.2).bind fun o=>(mi a o.2).bind fun i=>match o.1,i.1 with
 |.ref n,.int k=>match i.2[n]? with
  |some (.lst b)=>(ixN b.length k).map fun j=>.nx a (i.2.set n (.lst (b.set j v.1)))
  |_=>none
 |_,_=>none
section
variable{X:Cx}{o i e:Expr}{mo mi mv:ME}{pos pos':Pos}
theorem Qg5{K:Nd}(q:tS K (QgM mo mi mv) D σ H):QiT (tI K mv) (Qk8 (tI K mo) (tI K mi) Qh7) D σ H:=by
 obtain⟨R,a,h,r,F,s,e,k⟩:=q;obtain⟨⟨v,w⟩,e1,e2⟩:=Nc.mp e;obtain⟨⟨ob,u⟩,T,S⟩:=Nc.mp e2;obtain⟨⟨I,M⟩,Q,b⟩:=Nc.mp S;refine⟨R,a,h,v,w,F,s,e1,fun R1 H1 x g m E=>⟨R1,a,w,ob,u,m,s.mono g,T,fun R2 H2 y f l C=>⟨R2,a,u,I,M,l,s.mono (g.trans f),Q,fun U Z z d c B=>?_⟩⟩⟩;dsimp only at b;split at b
 ·rename_i n G;split at b
  ·rename_i Y J;obtain⟨j,P,O⟩:=Nf.mp b;cases O;obtain⟨p,N,A,L,t⟩:=c.refAt (Rw.mono d _ _ C) J;refine⟨_,A,G,j,N,B.int_eq,L,by rw[<-t.length];exact P,?_⟩;exact k U _ σ (g.trans (f.trans d)) (c.put p ⟨_,rfl,t.set j (Rw.mono (f.trans d) _ _ E)⟩) (s.mono (g.trans (f.trans d)))
  ·cases b
 ·cases b
theorem Qbh(d:PM X o mo)(f:PM X i mi)(g:PM X e mv)
  (h:∀v,assign (.Subscript o i pos') X.env v=(do
   let a <-holding [v] (eval o X.env)
   let b <-holding [v,a] (eval i X.env)
   standAt pos'
   holding [v,a,b] (setItem a b v)
   release [v,a,b] []):=by intro _;rfl)
  (c:UB e=false:=by rfl) (hw:swappedStores [.Subscript o i pos'] e X.env=pure none:=by rfl):PMS X (.Assign [.Subscript o i pos'] e pos) (QgM mo mi mv):=
 VS (Qep g (Qip d f set_list h) (show swapsWith e (some (.Subscript o i pos')) pos.line X.env=pure false from Ks c) hw rfl) fun _ _ _=>Qg5
end
noncomputable def UR(a b:W)(h:MH):Option (W×MH):=match a,b with|.int i,.int j=>some (.int (i+j),h)|_,_=>none
section
variable{X:Cx}{o i e:Expr}{mo mi mv:ME}{pos pos':Pos}
theorem Kn:OpR X (inplaceOp .Add) (F2 X.K UR):=by
 intro c s d H x y v u Q I g f q;refine QfH c s d H x y v u Q I g f ?_;obtain⟨R,h,a,b,w,n,j,m,l,e,k⟩:=q;unfold UR at e;split at e
 ·cases e;exact⟨_,_,m.int_eq,l.int_eq,k R H _ (Ext.refl _) j (Rw.int _)⟩
 ·cases e
end
inductive TabIs:List DictEntry->List (Str×Int)->Prop where
 |nil:TabIs [] []
 |cons {e:DictEntry} {x:Str} {i:Int} {t t':Tok} {es:List DictEntry} {tab:List (Str×Int)} (hk:e.key=.str x t) (hv:e.val=.int i t') (r:TabIs es tab):TabIs (e::es) ((x,i)::tab)
noncomputable def XX(tab:List (Str×Int))(k:Str):Option Int:=(tab.find? fun p=>p.1==k).map (·.2)
noncomputable def Qjq:Option Int->Option Value->Prop
 |none,u=>u=none
 |some i,u=>∃t,u=some (.int i t)
theorem Gp:∀{es:List DictEntry} {tab:List (Str×Int)} (k:Str),TabIs es tab->Qjq (XX tab k) ((es.find? fun e=>Value.isStrOf k e.key).map (·.val))
 |_,_,k,.nil=>rfl
 | _,_,k,.cons (x:=x) (i:=i) (t':=t') c b r=>by
  have a:=Gp k r;unfold XX at a ⊢;rw[Er,Er,c];simp only[Value.isStrOf]
  by_cases e:(x==k)=true
  ·rw[e];exact⟨t',by simp[b]⟩
  ·have d:(x==k)=false:=by simpa using e
   rw[d];exact a
structure GTab(w:World)(K:Nd)(mg:Str->Option Value)(x:Str)(tab:List (Str×Int)):Prop where
 ex:∃(a:Addr) (es:List DictEntry) (n:Nat),mg x=some (.ref a)/\K.lookup a=some ⟨.type "dict",none,.dict es.toArray n,#[]⟩/\DQ w.params es/\(a==sysModules)=false/\TabIs es tab
theorem QeO{K:Nd}{x:Str}{c:Addr}{n:Nat}(X:K.In h)(G:h.Ns mainGlobals b)(a:DY K mainGlobals x=some (some (.ref c)))
  (l:K.lookup c=some ⟨.type "dict",none,.dict es.toArray n,#[]⟩) (k:DQ w.params es) (s:(c==sysModules)=false) (t:TabIs es tab):GTab w K b x tab:=
 ⟨c,es,n,DJ X G a,l,k,s,t⟩
noncomputable def QcP(neg:Bool)(tab:List (Str×Int))(a:W)(h:MH):Option (W×MH):=match a with
 |.str x=>some (.bl (if neg then !(XX tab x).isSome else(XX tab x).isSome),h)
 |_=>none
noncomputable def QdI(tab:List (Str×Int))(a:W)(h:MH):Option (W×MH):=match a with
 |.str x=>(XX tab x).map fun i=>(.int i,h)
 |_=>none
theorem Qb7(r:Qjq o u):u.isSome=o.isSome:=by
 cases o with
 |none=>rw[show u=none from r];rfl
 |some i=>obtain⟨t,rfl⟩:=(show∃t,u=some (.int i t)from r);rfl
section
variable{X:Cx}{c:Addr}{es:List DictEntry}{n:Nat}{tab:List (Str×Int)}
theorem QcI(b:X.K.lookup c=some ⟨.type "dict",none,.dict es.toArray n,#[]⟩)(d:DQ X.w.params es)(I:Inv X a σ H s):s.heap.MapOf (strKind X.prog X.w) c (fun k=>findBy Value.isStrOf es.toArray k):=
 PySem.W.mapOf_K I.kIn b (by simpa using d)
theorem QbF(a:TabIs es tab)(k:Str):Qjq (XX tab k) (findBy Value.isStrOf es.toArray k):=by
 have:=Gp k a;unfold findBy;rw[List.find?_toArray];exact this
theorem QbA(g:X.K.lookup c=some ⟨.type "dict",none,.dict es.toArray n,#[]⟩)(i:DQ X.w.params es)(f:(c==sysModules)=false)(e:TabIs es tab) :
  OpR X (compareOp .NotIn) (fun x y H Q=>∃k,x=.str k/\y=.ref c/\Q (.bl (!(XX tab k).isSome)) H):=by
 intro a s j H x y v u Q I d b h;obtain⟨k,rfl,rfl,q⟩:=h;obtain⟨t,rfl⟩:=d;cases b;refine wpAny_notIn_of (strKind_is X.prog X.w k t) f (QcI g i I) ?_;rw[Qb7 (QbF e k)];exact⟨.bl _,H,I.tok _,rfl,q⟩
theorem QlQ(o:X.K.lookup c=some ⟨.type "dict",none,.dict es.toArray n,#[]⟩)(p:DQ X.w.params es)(l:TabIs es tab) :
  IxR X (fun x y H Q=>∃k i,x=.ref c/\y=.str k/\XX tab k=some i/\Q (.int i) H):=by
 intro value slice b s z H x y v u Q I j g h m;obtain⟨k,i,rfl,rfl,e,q⟩:=h;obtain⟨t,rfl⟩:=g;cases j;have d:=QcI o p I;have r:=QbF l k;rw[e]at r;obtain⟨f,a⟩:=(show∃t,findBy Value.isStrOf es.toArray k=some (.int i t)from r)
 exact tail_any d.typeIs F8.lookup (wpAny_getItem_of (strKind_is X.prog X.w k t) d a ⟨.int i,H,I.tok _,⟨f,rfl⟩,q⟩) m
variable{a:Expr}{ma:ME}{x:Str}{pos pos':Pos}
theorem Qho{K:Nd}(q:tI K (mUn (QcP neg tab) ma) σ H Q):tI K ma σ H fun v b=>∃k,v=.str k/\Q (.bl (if neg then !(XX tab k).isSome else(XX tab k).isSome)) b:=
 ZS (un1 q) fun v b d=>by
  obtain⟨R,h,w,i,j,g,f,e,k⟩:=d;unfold QcP at e;split at e
  ·cases e;exact⟨_,f.str_eq,k R b _ (Ext.refl _) g (Rw.bl _)⟩
  ·cases e
theorem QaI(G:GTab X.w X.K X.mg x tab)(l:Gl X x)(m:PM X a ma)(hd:(x==("__debug__":Str))=false:=by decide)(h:behindInMarks .NotIn (.Name x pos')=false:=by rfl):PMT X (.Compare a [.NotIn] [.Name x pos'] pos) (Qr (mUn (QcP true tab) ma)):=by
 obtain⟨c,es,n,b,i,j,g,f⟩:=G.ex;exact Uf (QaQ (QbA i j g f) m (UY (v:=.ref c) l b rfl hd) h) fun o H Q q=>ZS (Qho (YI q)) fun v p ⟨k,e,d⟩=>⟨k,e,rfl,d⟩
theorem Qht(G:GTab X.w X.K X.mg x tab)(p:Gl X x)(r:PM X a ma)(hd:(x==("__debug__":Str))=false:=by decide)(l:Wv a:=by intro _ _;rfl):PM X (.Subscript (.Name x pos') a pos) (mUn (QdI tab) ma):=by
 obtain⟨c,es,n,b,m,o,_,j⟩:=G.ex;refine Q2 (QiF (QlQ m o j) (UY (v:=.ref c) p b rfl hd) r l) fun t H Q q=>?_
 exact ZS (un1 q) fun v s d=>by
  obtain⟨R,h,w,u,y,g,f,e,k⟩:=d;unfold QdI at e;split at e
  ·obtain⟨i,e1,e2⟩:=Nf.mp e;cases e2;exact⟨_,i,rfl,f.str_eq,e1,k R s _ (Ext.refl _) g (Rw.int _)⟩
  ·cases e
end
theorem Qf7(a b:Int)(h:MH):wEq (.int a) (.int b) h=some (.bl (a==b),h):=by unfold wEq;simp[drf,eqW]
theorem Qgp(a b:Int)(h:MH):wNe (.int a) (.int b) h=some (.bl (!(a==b)),h):=by unfold wNe;simp[drf,eqW]
theorem Qe5(a b:Str)(h:MH):wEq (.str a) (.str b) h=some (.bl (a==b),h):=by unfold wEq;simp[drf,eqW]
noncomputable def QaO(kvs:List (Key×W))(k:Key):Option W:=(kvs.find? fun a=>decide (a.1=k)).map (·.2)
noncomputable def QgC(kvs:List (Key×W))(k:Key)(v:W):List (Key×W):=
 if(kvs.any fun a=>decide (a.1=k))=true then kvs.map (fun a=>if a.1=k then(a.1,v)else a)else kvs++[(k,v)]
noncomputable def QgP:W->Option Key
 |.int i=>some (.inl i)
 |.str x=>some (.inr x)
 |_=>none
section
variable{K:Nd}{R:Rn}
noncomputable abbrev DicR(K:Nd)(R:Rn):List (Key×W)->List (Key×V)->Prop:=Paired fun p q=>p.1=q.1/\Rw K R p.2 q.2
theorem Wl(r:Rw K R w v)(e:QgP w=some k):v=kV k:=by
 cases w with
 |int i=>cases e;exact r.int_eq
 |str x=>cases e;exact r.str_eq
 |_=>cases e
theorem UH:∀{kvs:List (Key×W)} {a:List (Key×V)},DicR K R kvs a->(QaO kvs k=none/\GN a k=none)\/∃w v,QaO kvs k=some w/\GN a k=some v/\Rw K R w v
 |_,_,.nil=>.inl ⟨rfl,rfl⟩
 | p::ps,q::c,.cons h t=>by
  by_cases e:p.1=k
  ·have b:q.1=k:=h.1▸e;exact .inr ⟨p.2,q.2,by simp[QaO,Er,e],by simp[GN,Er,b],h.2⟩
  ·have b:¬q.1=k:=h.1▸e;have f:QaO (p::ps) k=QaO ps k:=by simp only[QaO,Er,e,decide_false]
   have d:GN (q::c) k=GN c k:=by simp only[GN,Er,b,decide_false]
   rcases UH (k:=k) t with z|⟨w,v,j,i,g⟩
   ·exact .inl ⟨f.trans z.1,d.trans z.2⟩
   ·exact .inr ⟨w,v,f.trans j,d.trans i,g⟩
theorem Qa4:∀{kvs:List (Key×W)} {d:List (Key×V)},DicR K R kvs d->(kvs.any fun c=>decide (c.1=k))=d.any fun c=>decide (c.1=k)
 |_,_,.nil=>rfl
 |_,_,.cons (a:=p) (b:=q) h t=>by
  rw[EW,EW,Qa4 t,h.1]
theorem GE(r:Rw K R w v):∀{kvs:List (Key×W)} {d:List (Key×V)},DicR K R kvs d->DicR K R (kvs.map (fun c=>if c.1=k then(c.1,w)else c)) (d.map (fun c=>if c.1=k then(c.1,v)else c))
 |_,_,.nil=>.nil
 |_,_,.cons (a:=p) (b:=q) h t=>by
  rw[NK,NK];refine .cons ?_ (GE r t)
  by_cases e:p.1=k
  ·rw[if_pos e,if_pos (h.1▸e)];exact⟨h.1,r⟩
  ·rw[if_neg e,if_neg (h.1▸e)];exact h
theorem QfA(d:DicR K R kvs a)(r:Rw K R w v):DicR K R (QgC kvs k w) (Qd5 a k v):=by
 unfold QgC Qd5;rw[Qa4 d];split
 ·exact GE r d
 ·exact OP d ⟨rfl,r⟩
theorem Rh.dicAt(q:Rh K R h H)(r:Rw K R (.ref n) v)(e:h[n]?=some (.dic kvs)) :
  n<R.N/\v=.ref (R.ρ n)/\∃a,H (R.ρ n)=some (.dK a)/\DicR K R kvs a:=by
 unfold Rw at r;exact⟨r.1,r.2,q.obj n _ e⟩
end
noncomputable def QdX:ME:=fun _ h=>some (.ref h.length,h++[.dic []])
noncomputable def QfT(h:MH):W->Option (List (Key×W))
 |.ref n=>match h[n]? with|some (.dic kvs)=>some kvs|_=>none
 |_=>none
theorem Gi(e:QfT h a=some kvs):∃n,a=.ref n/\h[n]?=some (.dic kvs):=by
 cases a with
 |ref n=>
  simp only[QfT]at e;split at e
  ·rename_i c b;cases e;exact⟨n,rfl,b⟩
  ·cases e
 |_=>cases e
noncomputable def QiQ(a b:W)(h:MH):Option (W×MH):=(QfT h a).bind fun kvs=>(QgP b).bind fun k=>(QaO kvs k).map fun v=>(v,h)
noncomputable def QbP(mo mi b:ME):SM:=fun a h=>(b a h).bind fun v=>(mo a v.2).bind fun o=>(mi a o.2).bind fun i=>(QgP i.1).bind fun k=>match o.1 with
 |.ref n=>match i.2[n]? with
  |some (.dic kvs)=>if kvs.length<sizeLine then some (.nx a (i.2.set n (.dic (QgC kvs k v.1))))else none
  |_=>none
 |_=>none
section
variable{X:Cx}{o i e a b:Expr}{mo mi mv ma mb:ME}{pos pos':Pos}
theorem Qco:PM X (.Dict [] [] pos) QdX:=Q2 QdQ fun n H Q q=>by
 obtain⟨R,f,h,w,s,j,st,e,k⟩:=q;cases e;intro p l;obtain⟨m,g,d,c⟩:=j.new (mo:=.dic []) (o:=.dK []) l fun t r=>⟨[],rfl,.nil⟩
 exact k m _ _ g d c
theorem Qhq(hu:X.A.units+64<cLine)(E:PM X a ma)(D:PM X b mb)(B:Wv b:=by intro _ _;rfl):PM X (.Subscript a b pos) (Qc QiQ ma mb):=
 Q2 (Qe8 (Eo (EZ (by decide) _) hu) E D B) fun O H Q q=>ZS (Qg4 q) fun x U s=>ZS s fun y N l=>by
  obtain⟨R,h,a,b,w,T,d,r,p,e,k⟩:=l;unfold QiQ at e;obtain⟨kvs,e1,e2⟩:=Nc.mp e;obtain⟨t,L,J⟩:=Nc.mp e2;obtain⟨v,c,I⟩:=Nf.mp J;cases I;obtain⟨n,rfl,C⟩:=Gi e1;obtain⟨_,F,S,u,M⟩:=d.dicAt r C;have G:=Wl p L;subst G
  rcases UH (k:=t) M with z|⟨P,m,j,g,f⟩
  ·rw[z.1]at c;cases c
  ·rw[j]at c;cases c;exact⟨_,m,F,by rw[<-g];exact DGet.k u,k R N _ (Ext.refl _) d f⟩
theorem Qgh{K:Nd}(q:tS K (QbP mo mi mv) D σ H):QhV (tI K mo) (tI K mi) (tI K mv) D σ H:=by
 obtain⟨R,d,h,r,G,s,e,k⟩:=q;obtain⟨⟨v,B⟩,e1,e2⟩:=Nc.mp e;obtain⟨⟨ob,A⟩,U,T⟩:=Nc.mp e2;obtain⟨⟨I,M⟩,S,Q⟩:=Nc.mp T;obtain⟨kk,P,c⟩:=Nc.mp Q;refine⟨R,d,h,v,B,G,s,e1,fun R1 H1 x m t F=>⟨R1,d,B,ob,A,t,s.mono m,U,fun R2 H2 y l p E=>⟨R2,d,A,I,M,p,s.mono (m.trans l),S,fun Y H3 z j f C=>?_⟩⟩⟩;dsimp only at c;split at c
 ·rename_i n;split at c
  ·rename_i kvs J;split at c
   ·rename_i g;cases c;obtain⟨u,O,Z,L,w⟩:=f.dicAt (Rw.mono j _ _ E) J;have N:=Wl C P;subst N;refine⟨_,_,O,DPut.k L (by rw[<-EH w];exact g),?_⟩;exact k Y _ σ (m.trans (l.trans j)) (f.put u ⟨_,rfl,QfA w (Rw.mono (l.trans j) _ _ F)⟩) (s.mono (m.trans (l.trans j)))
   ·cases c
  ·cases c
 ·cases c
theorem QdG(hu:X.A.units+64<cLine)(d:PM X o mo)(f:PM X i mi)(g:PM X e mv)(c:UB e=false:=by rfl):PMS X (.Assign [.Subscript o i pos'] e pos) (QbP mo mi mv):=
 VS (QfE (Eo (EZ (by decide) _) hu) d f g (show swapsWith e (some (.Subscript o i pos')) pos.line X.env=pure false from Ks c)) fun _ _ _=>Qgh
end
theorem Qdx(xs:List a)(x:a):atI (xs++[x]) (-1)=some x:=by
 unfold atI ixN;rw[if_neg (by decide),if_pos (by simp;lia),Nq];have:((-1:Int)+((xs++[x]).length:Nat)).toNat=xs.length:=by simp;lia
 rw[this];simp
mutual
noncomputable def pur:W->Bool
 |.tup ws=>QQ ws
 |.lst ws=>QQ ws
 |.frz ws=>QQ ws
 |.ref _=>false
 |_=>true
noncomputable def QQ:List W->Bool
 |[]=>true
 |w::ws=>pur w&&QQ ws
end
noncomputable def QiO:MO->Bool
 |.lst ws=>QQ ws
 |.dic kvs=>QQ (kvs.map (·.2))
 |.dct kvs=>QQ (kvs.map (·.2))
 |.ins _ _=>false
mutual
noncomputable def th(f:Nat->Option W):W->Option W
 |.tup ws=>(ths f ws).map .tup
 |.lst ws=>(ths f ws).map .lst
 |.frz ws=>(ths f ws).map .frz
 |.ref j=>f j
 |w=>some w
noncomputable def ths(f:Nat->Option W):List W->Option (List W)
 |[]=>some []
 |w::ws=>(th f w).bind fun x=>(ths f ws).map (x::·)
end
noncomputable def thO(f:Nat->Option W):MO->Option MO
 |.lst ws=>(ths f ws).map .lst
 |.dic kvs=>(ths f (kvs.map (·.2))).map fun a=>.dic ((kvs.map (·.1)).zip a)
 |.dct kvs=>(ths f (kvs.map (·.2))).map fun a=>.dct ((kvs.map (·.1)).zip a)
 |.ins _ _=>none
noncomputable def res(a:Nat->Option Nat)(g:MH):Nat->Nat->Option W
 |0,j=>(a j).map .ref
 | d+1,j=>match a j with
  |some n=>some (.ref n)
  |none=>match g[j]? with
   |some (.lst ws)=>(ths (res a g d) ws).map .lst
   |_=>none
noncomputable def QcR(ns a:List Nat)(N j:Nat):Option Nat:=match ns[j]? with
 |some n=>some n
 |none=>(a.findIdx? (·==j)).map (N+·)
noncomputable def UG:Nat->List W->Option (List W×List Nat)
 |_,[]=>some ([],[])
 |k,.ref n::ws=>(UG (k+1) ws).map fun p=>(.ref k::p.1,n::p.2)
 |k,w::ws=>if pur w then(UG k ws).map fun p=>(w::p.1,p.2)else none
noncomputable def ZO:List Nat->List MO->MH->MH
 |n::ns,o::os,h=>ZO ns os (h.set n o)
 |_,_,h=>h
noncomputable def Qjc(h:MH)(n:Nat):Option MO:=match h[n]? with|some o=>if QiO o then some o else none|none=>none
noncomputable def QiS(a:W->List Nat)(m:FM)(as:List W)(ns:List Nat)(h:MH):Option (W×MH):=
 if ns.Nodup then(Vc (Qjc h) ns).bind fun c=>(m as c).bind fun p=>
  if(a p.1).Nodup/\(∀j∈a p.1,ns.length<=j)then
   (th (res (QcR ns (a p.1) h.length) p.2 3) p.1).bind fun w=>
   (Vc (fun j=>(p.2[j]?).bind (thO (res (QcR ns (a p.1) h.length) p.2 3))) (List.range ns.length)).bind fun os=>
   (Vc (fun j=>(p.2[j]?).bind (thO (res (QcR ns (a p.1) h.length) p.2 3))) (a p.1)).map fun b=>
   (w,ZO ns os h++b)
  else none
 else none
noncomputable def box(c:W->List Nat)(m:FM):FM:=fun b h=>(UG 0 b).bind fun a=>QiS c m a.1 a.2 h
section
variable{K:Nd}{R R':Rn}
mutual
theorem Rw.pur_mono(b:∀a o,R.F a=some o->R'.F a=some o):∀(w:W) (v:V),pur w=true->Rw K R w v->Rw K R' w v
 |.non,_,_,h=>by unfold Rw at h ⊢;exact h
 |.bl _,_,_,h=>by unfold Rw at h ⊢;exact h
 |.int _,_,_,h=>by unfold Rw at h ⊢;exact h
 |.str _,_,_,h=>by unfold Rw at h ⊢;exact h
 |.ty _,_,_,h=>by unfold Rw at h ⊢;exact h
 |.tup ws,_,p,h=>by
  unfold Rw at h ⊢;obtain⟨a,xs,e1,e2,c⟩:=h;exact⟨a,xs,e1,Zj b e2,Rws.pur_mono b ws xs (by unfold pur at p;exact p) c⟩
 |.lst ws,_,p,h=>by
  unfold Rw at h ⊢;obtain⟨a,xs,e1,e2,c⟩:=h;exact⟨a,xs,e1,b a _ e2,Rws.pur_mono b ws xs (by unfold pur at p;exact p) c⟩
 |.frz ws,_,p,h=>by
  unfold Rw at h ⊢;obtain⟨a,xs,e1,e2,c⟩:=h;exact⟨a,xs,e1,JJ b e2,Rws.pur_mono b ws xs (by unfold pur at p;exact p) c⟩
 |.ref n,_,p,h=>by unfold pur at p;cases p
theorem Rws.pur_mono(d:∀a o,R.F a=some o->R'.F a=some o):∀(ws:List W) (c:List V),QQ ws=true->Rws K R ws c->Rws K R' ws c
 |[],_,_,h=>by unfold Rws at h ⊢;exact h
 |w::ws,_,p,h=>by
  unfold Rws at h ⊢;obtain⟨v,b,e1,e2,e⟩:=h;unfold QQ at p;rw[NH]at p;exact⟨v,b,e1,Rw.pur_mono d w v p.1 e2,Rws.pur_mono d ws b p.2 e⟩
end
mutual
theorem Rw.th_ok(c:∀a o,R.F a=some o->R'.F a=some o)(hr:∀j v w,Rw K R (.ref j) v->f j=some w->Rw K R' w v):∀(w:W) (v:V) (i:W),th f w=some i->Rw K R w v->Rw K R' i v
 |.non,_,_,e,h=>by unfold th at e;cases e;unfold Rw at h ⊢;exact h
 |.bl _,_,_,e,h=>by unfold th at e;cases e;unfold Rw at h ⊢;exact h
 |.int _,_,_,e,h=>by unfold th at e;cases e;unfold Rw at h ⊢;exact h
 |.str _,_,_,e,h=>by unfold th at e;cases e;unfold Rw at h ⊢;exact h
 |.ty _,_,_,e,h=>by unfold th at e;cases e;unfold Rw at h ⊢;exact h
 |.tup ws,_,_,e,h=>by
  unfold th at e;obtain⟨us,h1,d⟩:=Nf.mp e;subst d;unfold Rw at h ⊢;obtain⟨a,b,e1,e2,g⟩:=h;exact⟨a,b,e1,Zj c e2,Rws.th_ok c hr ws b us h1 g⟩
 |.lst ws,_,_,e,h=>by
  unfold th at e;obtain⟨us,h1,d⟩:=Nf.mp e;subst d;unfold Rw at h ⊢;obtain⟨a,b,e1,e2,g⟩:=h;exact⟨a,b,e1,c a _ e2,Rws.th_ok c hr ws b us h1 g⟩
 |.frz ws,_,_,e,h=>by
  unfold th at e;obtain⟨us,h1,d⟩:=Nf.mp e;subst d;unfold Rw at h ⊢;obtain⟨a,b,e1,e2,g⟩:=h;exact⟨a,b,e1,JJ c e2,Rws.th_ok c hr ws b us h1 g⟩
 |.ref n,v,i,e,h=>by unfold th at e;exact hr n v i h e
theorem Rws.th_ok(g:∀a o,R.F a=some o->R'.F a=some o)(hr:∀j v w,Rw K R (.ref j) v->f j=some w->Rw K R' w v):∀(ws:List W) (d:List V) (b:List W),ths f ws=some b->Rws K R ws d->Rws K R' b d
 |[],_,_,e,h=>by unfold ths at e;cases e;unfold Rws at h ⊢;exact h
 |w::ws,_,_,e,h=>by
  unfold ths at e;obtain⟨x,h1,n⟩:=Nc.mp e;obtain⟨i,m,l⟩:=Nf.mp n;subst l;unfold Rws at h;obtain⟨v,c,e1,e2,p⟩:=h;subst e1;exact Rws.cons (Rw.th_ok g hr w v x h1 e2) (Rws.th_ok g hr ws c i m p)
end
theorem DicR.vals:∀{kvs:List (Key×W)} {a:List (Key×V)},Paired (fun p q=>p.1=q.1/\Rw K R p.2 q.2) kvs a->Rws K R (kvs.map (·.2)) (a.map (·.2))/\kvs.map (·.1)=a.map (·.1):=by
 intro kvs a p
 induction p with
 |nil=>exact⟨Rws.nil,rfl⟩
 |cons h t b=>exact⟨Rws.cons h.2 b.1,by rw[NK,NK,b.2,h.1]⟩
theorem DicR.zip:∀{ks:List Key} {a:List (Key×V)} {us:List W},ks=a.map (·.1)->Rws K R us (a.map (·.2))->Paired (fun p q=>p.1=q.1/\Rw K R p.2 q.2) (ks.zip us) a
 |_,[],us,e,h=>by
  subst e;exact .nil
 | _,q::a,us,e,h=>by
  subst e;rw[NK]at h;cases us with
  |nil=>rw[Rws.nil_iff]at h;cases h
  |cons u us=>
   rw[Rws.cons_iff]at h;obtain⟨v,c,e1,e2,b⟩:=h;cases e1;exact .cons ⟨rfl,e2⟩ (DicR.zip rfl b)
theorem GJ:∀(n:Nat) (w:W) (k:Tr),Qd9 n w=some k->pur w=true
 |0,_,_,e=>by simp[Qd9]at e
 | n+1,w,k,e=>by
  cases w with
  | tup ws=>
   simp only[Qd9]at e;obtain⟨ks,e1,c⟩:=Nf.mp e;unfold pur;clear e c
   induction ws generalizing ks with
   |nil=>rfl
   |cons x ws b=>
    rw[List.mapM_cons]at e1;obtain⟨k1,f,e2⟩:=Nc.mp e1;obtain⟨a,d,_⟩:=Nc.mp e2;unfold QQ;rw[GJ n x k1 f,b a d];rfl
  |lst ws=>simp[Qd9]at e
  |frz ws=>simp[Qd9]at e
  |ref j=>simp[Qd9]at e
  |_=>rfl
theorem Qbj(e:nrm w=some k):pur w=true:=by
 cases w with
 |tup a=>exact GJ 8 _ k e
 |_=>cases e
theorem DctR.vals:∀{kvs:List (W×W)} {a:List (Tr×Addr×V)},Paired (fun p q=>Rw K R p.1 (.ref q.2.1)/\nrm p.1=some q.1/\Rw K R p.2 q.2.2) kvs a->Rws K R (kvs.map (·.2)) (a.map (·.2.2))/\Paired (fun p q=>Rw K R p (.ref q.2.1)/\nrm p=some q.1) (kvs.map (·.1)) a:=by
 intro kvs a p
 induction p with
 |nil=>exact⟨Rws.nil,.nil⟩
 |cons h t b=>exact⟨Rws.cons h.2.2 b.1,.cons ⟨h.1,h.2.1⟩ b.2⟩
theorem DctR.zip:∀{ks:List W} {a:List (Tr×Addr×V)} {us:List W},Paired (fun p q=>Rw K R p (.ref q.2.1)/\nrm p=some q.1) ks a->Rws K R us (a.map (·.2.2))->Paired (fun p q=>Rw K R p.1 (.ref q.2.1)/\nrm p.1=some q.1/\Rw K R p.2 q.2.2) (ks.zip us) a
 |_,[],us,.nil,h=>.nil
 | _,q::a,us,.cons e t,h=>by
  rw[NK]at h;cases us with
  |nil=>rw[Rws.nil_iff]at h;cases h
  |cons u us=>
   rw[Rws.cons_iff]at h;obtain⟨v,c,e1,e2,b⟩:=h;cases e1;exact .cons ⟨e.1,e.2,e2⟩ (DctR.zip t b)
theorem Gy(i:∀a o,R.F a=some o->R'.F a=some o)(hr:∀j v w,Rw K R (.ref j) v->f j=some w->Rw K R' w v)(e:thO f o=some r)(h:Ro K R o u):Ro K R' r u:=by
 cases o with
 |lst n=>
  unfold thO at e;obtain⟨c,g,d⟩:=Nf.mp e;subst d;obtain⟨m,e1,e2⟩:=h;exact⟨m,e1,Rws.th_ok i hr n m c g e2⟩
 |dic kvs=>
  unfold thO at e;obtain⟨c,g,d⟩:=Nf.mp e;subst d;obtain⟨l,e1,e2⟩:=h;obtain⟨a,b⟩:=DicR.vals e2;exact⟨l,e1,DicR.zip b (Rws.th_ok i hr _ _ c g a)⟩
 |dct kvs=>
  unfold thO at e;obtain⟨c,g,d⟩:=Nf.mp e;subst d;obtain⟨l,e1,e2⟩:=h;obtain⟨a,b⟩:=DctR.vals e2;exact⟨l,e1,DctR.zip (Paired.mapP b fun p q z=>⟨Rw.pur_mono i _ _ (Qbj z.2) z.1,z.2⟩) (Rws.th_ok i hr _ _ c g a)⟩
 |ins C fs=>cases e
theorem UP(c:∀a o,R.F a=some o->R'.F a=some o)(p:QiO o=true)(h:Ro K R o u):Ro K R' o u:=by
 cases o with
 |lst g=>
  obtain⟨f,e1,e2⟩:=h;exact⟨f,e1,Rws.pur_mono c g f p e2⟩
 | dic kvs=>
  obtain⟨d,e1,e2⟩:=h;refine⟨d,e1,?_⟩;have b:QQ (kvs.map (·.2))=true:=p;clear p e1;revert b
  induction e2 with
  |nil=>exact fun _=>.nil
  |cons h t e=>
   intro b;rw[NK]at b;unfold QQ at b;rw[NH]at b;exact .cons ⟨h.1,Rw.pur_mono c _ _ b.1 h.2⟩ (e b.2)
 | dct kvs=>
  obtain⟨d,e1,e2⟩:=h;refine⟨d,e1,?_⟩;have b:QQ (kvs.map (·.2))=true:=p;clear p e1;revert b
  induction e2 with
  |nil=>exact fun _=>.nil
  |cons h t e=>
   intro b;rw[NK]at b;unfold QQ at b;rw[NH]at b;exact .cons ⟨Rw.pur_mono c _ _ (Qbj h.2.1) h.1,h.2.1,Rw.pur_mono c _ _ b.1 h.2.2⟩ (e b.2)
 |ins C fs=>cases p
theorem UL(g:∀a o,R.F a=some o->R0.F a=some o)(b:∀(i n:Nat),all[i]?=some n->i<R0.N/\R0.ρ i=R.ρ n):∀{ws:List W} {d:List V} {pre:List Nat} {as:List W} {ns:List Nat},UG pre.length ws=some (as,ns)->all=pre++ns->Rws K R ws d->Rws K R0 as d
 |[],d,pre,as,ns,e,f,h=>by
  unfold UG at e;cases e;rw[Rws.nil_iff]at h;subst h;exact Rws.nil
 | w::ws,d,pre,as,ns,e,f,h=>by
  rw[Rws.cons_iff]at h;obtain⟨v,s,rfl,h1,m⟩:=h
  by_cases hw:∃n,w=.ref n
  ·obtain⟨n,rfl⟩:=hw;unfold UG at e;obtain⟨⟨l,c⟩,e1,e2⟩:=Nf.mp e;cases e2;refine Rws.cons ?_ (UL g b (pre:=pre++[n]) (ns:=c) (by rw[NC];exact e1) (by rw[f];simp) m);obtain⟨r,q⟩:=b pre.length n (by rw[f];simp);unfold Rw at h1 ⊢;exact⟨r,by rw[q];exact h1.2⟩
  ·have j:(if pur w then(UG pre.length ws).map fun p=>(w::p.1,p.2)else none)=some (as,ns):=by
    rw[<-e];cases w<;>first|(exact absurd ⟨_,rfl⟩ hw)|(conv=>rhs;unfold UG)
   split at j
   ·rename_i t;obtain⟨⟨l,c⟩,e1,e2⟩:=Nf.mp j;cases e2;exact Rws.cons (Rw.pur_mono g w v t h1) (UL g b e1 f m)
   ·cases j
theorem Z4:∀(ns:List Nat) (os:List MO) (h:MH),(ZO ns os h).length=h.length
 |[],_,h=>by unfold ZO;rfl
 |_::_,[],h=>by unfold ZO;rfl
 |n::ns,o::os,h=>by unfold ZO;rw[Z4 ns os,Dc]
theorem Xg:∀(ns:List Nat) (os:List MO) (h:MH) (n:Nat),n∉ns->(ZO ns os h)[n]?=h[n]?
 |[],_,h,n,_=>by unfold ZO;rfl
 |_::_,[],h,n,_=>by unfold ZO;rfl
 |m::ns,o::os,h,n,a=>by
  unfold ZO;rw[Xg ns os _ n (fun z=>a (Np _ z)),Di (fun z=>a (by rw[z];exact Nr))]
theorem YB:∀(ns:List Nat) (os:List MO) (h:MH) (i n:Nat),ns.Nodup->ns.length=os.length->ns[i]?=some n->n<h.length->(ZO ns os h)[n]?=os[i]?
 |[],_,h,i,n,_,_,e,_=>by simp at e
 |m::ns,[],h,i,n,_,a,_,_=>by simp at a
 |m::ns,o::os,h,0,n,hd,a,e,b=>by
  simp at e;subst e;unfold ZO;rw[Xg ns os _ m (Ek.mp hd).1,E4 b];rfl
 |m::ns,o::os,h,i+1,n,hd,a,e,b=>by
  unfold ZO;rw[YB ns os (h.set m o) i n (Ek.mp hd).2 (by simpa using a) (by simpa using e) (by rw[Dc];exact b)];simp
end
end Mi
namespace Mi
open L2
theorem YR:∀{ws:List W} {k:Nat} {as:List W} {ns:List Nat},UG k ws=some (as,ns)->as.length=ws.length
  |[],k,as,ns,e=>by unfold UG at e;cases e;rfl
  | w::ws,k,as,ns,e=>by
    cases w<;>unfold UG at e<;>first
      | (obtain⟨⟨b,a⟩,e1,e2⟩:=Nf.mp e
         cases e2
         simp[YR e1])
      | (split at e
         · obtain⟨⟨b,a⟩,e1,e2⟩:=Nf.mp e;cases e2;simp[YR e1]
         · cases e)
theorem Uy{a:List Nat}(e:a.findIdx? (·==j)=some i):a[i]?=some j:=by
 rw[Ff]at e;obtain⟨h,b,_⟩:=e;rw[Nk h];simp at b;rw[b]
theorem Ur{js:List Nat}(e:js.findIdx? (·==j)=none):j∉js:=by
 rw[F9]at e;intro z;have:=e j z;simp at this
theorem QcK(e:Qjc h n=some o):h[n]?=some o/\QiO o=true:=by
 unfold Qjc at e;split at e
 ·rename_i c b;split at e
  ·rename_i a;cases e;exact⟨b,a⟩
  ·cases e
 ·cases e
theorem Uw{a:List Nat}(h:a.Nodup){i b j:Nat}(e:a[i]?=some j)(c:a[b]?=some j):i=b:=
 (LX (Nj.mp e).1 h).mp (e.trans c.symm)
section
variable{K:Nd}
open Classical in
theorem Qiw(q:spM K n (box fr m) vs H Q E):spM K n m vs H Q E:=by
 obtain⟨R,ws,h,wx,h2,hl,L,ax,e,k⟩:=q;unfold box at e;obtain⟨⟨as,A⟩,e1,e2⟩:=Nc.mp e;unfold QiS at e2;split at e2
 case isFalse=>cases e2
 rename_i hd;obtain⟨h0,e3,e4⟩:=Nc.mp e2;obtain⟨⟨w,g⟩,e5,e6⟩:=Nc.mp e4;dsimp only at e6;split at e6
 case isFalse=>cases e6
 rename_i hj;obtain⟨a4,a3⟩:=hj;obtain⟨wy,e7,e8⟩:=Nc.mp e6;obtain⟨os,e9,a8⟩:=Nc.mp e8;obtain⟨us,am,a7⟩:=Nf.mp a8;cases a7;generalize a9:fr w=js at *
 have X:∀(i x:Nat),A[i]?=some x->x<R.N/\∃o,h[x]?=some o/\h0[i]?=some o/\QiO o=true:=fun i x l=>by
  obtain⟨o,D,t⟩:=(QL e3).2 i x l;obtain⟨z3,z4⟩:=QcK t;exact⟨by rw[L.len];exact(Nj.mp z3).1,o,z3,D,z4⟩
 have af:∀x,x∈A->∃i:Nat,A[i]?=some x:=fun x l=>ND.mp l
 let R0:Rn:={ ρ:=fun i=>R.ρ (A.getD i 0),N:=A.length,F:=R.F,G:=fun a=>if∃x,x<R.N/\x∉A/\R.ρ x=a then H a else R.G a }
 have T:∀(i x:Nat),A[i]?=some x->i<R0.N/\R0.ρ i=R.ρ x:=fun i x l=>by
  refine⟨(Nj.mp l).1,?_⟩;show R.ρ (A.getD i 0)=_;rw[EI,l];rfl
 have ah:∀i:Nat,i<A.length->∃x,A[i]?=some x:=fun i O=>⟨A[i],Nk O⟩
 have al:∀x,x<R.N->x∉A->R0.G (R.ρ x)=H (R.ρ x):=fun x l hn=>if_pos ⟨x,l,hn,rfl⟩
 have ak:∀a o,R.G a=some o->R0.G a=some o:=fun a o z=>by
  show(if∃x,x<R.N/\x∉A/\R.ρ x=a then H a else R.G a)=some o;split
  ·exact L.gsub a o z
  ·exact z
 have ay:Rh K R0 h0 H:=by
  refine⟨(QL e3).1,L.sub,fun i O=>?_,fun i j O hj ee=>?_,fun i o O=>?_,fun a o ha=>?_,fun i O=>?_,fun a o ha=>?_⟩
  ·obtain⟨x,l⟩:=ah i O;rw[(T i x l).2];exact L.sep x (X i x l).1
  ·obtain⟨x,l⟩:=ah i O;obtain⟨y,U⟩:=ah j hj;rw[(T i x l).2,(T j y U).2]at ee;have:=L.inj x y (X i x l).1 (X j y U).1 ee;subst this;exact Uw hd l U
  ·have a6:i<A.length:=by rw[(QL e3).1];exact(Nj.mp O).1
   obtain⟨x,l⟩:=ah i a6;obtain⟨_,o',D,t,z3⟩:=X i x l;rw[O]at t;cases t;rw[(T i x l).2];exact UP (R:=R) (R':=R0) (fun _ _ z=>z) z3 (L.obj x o D)
  ·have J:(if∃x,x<R.N/\x∉A/\R.ρ x=a then H a else R.G a)=some o:=ha;split at J
   ·exact J
   ·exact L.gsub a o J
  ·obtain⟨x,l⟩:=ah i O;rw[(T i x l).2];show(if∃y,y<R.N/\y∉A/\R.ρ y=R.ρ x then H (R.ρ x)else R.G (R.ρ x))=none;rw[if_neg]
   ·exact L.gsep x (X i x l).1
   ·rintro⟨y,U,az,ey⟩
    have:=L.inj y x U (X i x l).1 ey;subst this;exact az (ND.mpr ⟨i,l⟩)
  ·have J:(if∃x,x<R.N/\x∉A/\R.ρ x=a then H a else R.G a)=some o:=ha;split at J
   ·rename_i l;obtain⟨x,l,_,rfl⟩:=l;exact L.sep x l
   ·exact L.gf a o J
 refine⟨R0,as,h0,w,g,(YR e1).trans hl,ay,UL (R:=R) (R0:=R0) (pre:=[]) (fun _ _ z=>z) T e1 rfl ax,e5,fun R1 H1 v x1 s rv=>?_⟩;have ab:R1.G=R0.G:=x1.g
 have aa:∀(i x:Nat),A[i]?=some x->i<R1.N/\R1.ρ i=R.ρ x:=fun i x l=>by
  obtain⟨D,t⟩:=T i x l;exact⟨Nl D x1.n,(x1.ρ i D).trans t⟩
 have Y:∀(i j:Nat),js[i]?=some j->A.length<=j/\j<R1.N/\∃o u,us[i]?=some u/\g[j]?=some o/\thO (res (QcR A js h.length) g 3) o=some u:=fun i j p=>by
  obtain⟨u,D,t⟩:=(QL am).2 i j p;obtain⟨o,z3,z4⟩:=Nc.mp t;exact⟨a3 j (ND.mpr ⟨i,p⟩),by rw[s.len];exact(Nj.mp z3).1,o,u,D,z3,z4⟩
 have P:∀x,x<R.N->∀j,A.length<=j->j<R1.N->R1.ρ j≠R.ρ x:=fun x l j hj aq ee=>by
  by_cases hm:x∈A
  ·obtain⟨i,O⟩:=af x hm;obtain⟨D,t⟩:=aa i x O;have:=s.inj j i aq D (ee.trans t.symm);have:=(Nj.mp O).1;lia
  ·have z:=s.gsep j aq;rw[ab,ee,al x l hm]at z;obtain⟨_,u,_,hu⟩:=L.there l;rw[hu]at z;cases z
 let R2:Rn:={ ρ:=fun n=>if n<R.N then R.ρ n else R1.ρ (js.getD (n-R.N) 0),N:=R.N+js.length,F:=fun a=>match R1.F a with|some o=>some o|none=>if∃j,A.length<=j/\j<R1.N/\j∉js/\R1.ρ j=a then H1 a else none,G:=R.G }
 have C:∀x,x<R.N->R2.ρ x=R.ρ x:=fun x l=>if_pos l
 have I:∀(i j:Nat),js[i]?=some j->R2.ρ (R.N+i)=R1.ρ j:=fun i j p=>by
  show(if R.N+i<R.N then R.ρ (R.N+i)else R1.ρ (js.getD (R.N+i-R.N) 0))=_;rw[if_neg (N4.mpr (NJ _ _)),Ir,EI,p];rfl
 have f1:∀a o,R1.F a=some o->R2.F a=some o:=fun a o z=>by
  show(match R1.F a with|some o=>some o|none=>if∃j,A.length<=j/\j<R1.N/\j∉js/\R1.ρ j=a then H1 a else none)=some o;rw[z]
 have Z:∀a,R1.F a=none->(¬∃j,A.length<=j/\j<R1.N/\j∉js/\R1.ρ j=a)->R2.F a=none:=fun a D t=>by
  show(match R1.F a with|some o=>some o|none=>if∃j,A.length<=j/\j<R1.N/\j∉js/\R1.ρ j=a then H1 a else none)=none;rw[D];exact if_neg t
 have ar:∀j,A.length<=j->j<R1.N->j∉js->R2.F (R1.ρ j)=H1 (R1.ρ j):=fun j a b c=>by
  show(match R1.F (R1.ρ j)with|some o=>some o|none=>if∃j',A.length<=j'/\j'<R1.N/\j'∉js/\R1.ρ j'=R1.ρ j then H1 (R1.ρ j)else none)=_;rw[s.sep j b];exact if_pos ⟨j,a,b,c,rfl⟩
 have aj:Ext R R2:=⟨NJ _ _,fun x l=>C x l,fun a o z=>f1 a o (x1.f a o z),rfl⟩
 have B:∀x,x<R2.N->x<R.N\/∃i j:Nat,x=R.N+i/\js[i]?=some j:=fun x l=>by
  have ai:x<R.N+js.length:=l
  by_cases z:x<R.N
  ·exact .inl z
  ·exact .inr ⟨x-R.N,js[x-R.N]'(DR (N4.mp z) ai),by lia,Nk (DR (N4.mp z) ai)⟩
 have hr:∀d j v w,Rw K R1 (.ref j) v->res (QcR A js h.length) g d j=some w->Rw K R2 w v:=by
  have ae:∀j v x,Rw K R1 (.ref j) v->QcR A js h.length j=some x->Rw K R2 (.ref x) v:=fun j v x r z=>by
   unfold Rw at r ⊢;unfold QcR at z;split at z
   ·rename_i y U;cases z;obtain⟨D,t⟩:=aa j x U;have an:=(X j x U).1;exact⟨Nl an aj.n,by rw[C x an,<-t];exact r.2⟩
   ·obtain⟨i,D,t⟩:=Nf.mp z;have p:=Uy D;subst t;rw[<-L.len,I i j p];exact⟨EZ (Nj.mp p).1 _,r.2⟩
  intro d
  induction d with
  |zero=>
   intro j v w r z;unfold res at z;obtain⟨x,D,t⟩:=Nf.mp z;subst t;exact ae j v x r D
  | succ d ih=>
   intro j v w r z;unfold res at z;split at z
   ·rename_i x l;cases z;exact ae j v x r l
   ·rename_i M;split at z
    ·rename_i av hg;obtain⟨aw,D,t⟩:=Nf.mp z;subst t;obtain⟨xs,o1,o2⟩:=s.obj j _ hg;have ao:j<R1.N/\v=.ref (R1.ρ j):=by unfold Rw at r;exact r
     unfold QcR at M;split at M
     ·cases M
     ·rename_i a2;have ap:j∉js:=Ur (by simpa using M);unfold Rw;refine⟨R1.ρ j,xs,ao.2,?_,Rws.th_ok f1 ih av xs aw D o2⟩;rw[ar j (Ia.mp a2) ao.1 ap];exact o1
    ·cases z
 refine k R2 H1 v aj ⟨?_,fun a o ha=>?_,fun x l=>?_,fun x y l U ee=>?_,fun x o l=>?_,fun a o ha=>?_,fun x l=>?_,fun a o ha=>?_⟩ (Rw.th_ok f1 (hr 3) w v _ e7 rv)
 ·show R.N+js.length=_;rw[NC,Z4,<-(QL am).1,L.len]
 ·have J:(match R1.F a with|some o=>some o|none=>if∃j,A.length<=j/\j<R1.N/\j∉js/\R1.ρ j=a then H1 a else none)=some o:=ha;split at J
  ·rename_i o' a1;cases J;exact s.sub a _ a1
  ·split at J
   ·exact J
   ·cases J
 ·rcases B x l with l|⟨i,j,rfl,p⟩
  ·rw[C x l];refine Z _ ?_ (fun⟨j,a,b,_,c⟩=>P x l j a b c)
   by_cases hm:x∈A
   ·obtain⟨i,O⟩:=af x hm;obtain⟨D,t⟩:=aa i x O;rw[<-t];exact s.sep i D
   ·obtain⟨_,u,_,hu⟩:=L.there l;exact s.gf _ u (by rw[ab,al x l hm];exact hu)
  ·obtain⟨D,t,_⟩:=Y i j p;rw[I i j p];refine Z _ (s.sep j t) (fun⟨j',a,b,c,d⟩=>?_);have:=s.inj j' j b t d;subst this;exact c (ND.mpr ⟨i,p⟩)
 ·rcases B x l with l|⟨i,j,rfl,p⟩<;>rcases B y U with U|⟨i',j',rfl,S⟩
  ·rw[C x l,C y U]at ee;exact L.inj x y l U ee
  ·rw[C x l,I i' j' S]at ee;obtain⟨D,t,_⟩:=Y i' j' S;exact absurd ee.symm (P x l j' D t)
  ·rw[C y U,I i j p]at ee;obtain⟨D,t,_⟩:=Y i j p;exact absurd ee (P y U j D t)
  ·rw[I i j p,I i' j' S]at ee;obtain⟨_,t,_⟩:=Y i j p;obtain⟨_,au,_⟩:=Y i' j' S;have:=s.inj j j' t au ee;subst this;rw[Uw a4 p S]
 ·have ai:x<R2.N:=by
   have:=(Nj.mp l).1;rw[NC,Z4,<-(QL am).1,<-L.len]at this;exact this
  rcases B x ai with hn|⟨i,j,rfl,p⟩
  ·rw[N5 (by rw[Z4,<-L.len];exact hn)]at l;rw[C x hn]
   by_cases hm:x∈A
   ·obtain⟨i,O⟩:=af x hm;obtain⟨D,t⟩:=aa i x O;have a5:=(Nj.mp O).1;rw[YB A os h i x hd (by rw[<-(QL e9).1,F4]) O (by rw[<-L.len];exact hn)]at l;obtain⟨u,y1,y2⟩:=(QL e9).2 i i (by rw[Ey a5]);rw[l]at y1;cases y1;obtain⟨o',y3,y4⟩:=Nc.mp y2;rw[<-t];exact Gy f1 (hr 3) y4 (s.obj i o' y3)
   ·rw[Xg A os h x hm]at l;obtain⟨_,u,_,hu⟩:=L.there hn;have a0:H1 (R.ρ x)=some u:=s.gsub _ u (by rw[ab,al x hn hm];exact hu);have:=L.obj x o l;rw[hu]at this;rw[a0];exact this.mono aj
  ·obtain⟨D,t,o',u,y1,y2,y3⟩:=Y i j p;rw[Ew (by rw[Z4,<-L.len];exact NJ _ _),Z4,<-L.len,Ir,y1]at l;cases l;rw[I i j p];exact Gy f1 (hr 3) y3 (s.obj j o' y2)
 ·exact s.gsub a o (by rw[ab];exact ak a o ha)
 ·rcases B x l with l|⟨i,j,rfl,p⟩
  ·rw[C x l];exact L.gsep x l
  ·rw[I i j p];obtain⟨_,t,_⟩:=Y i j p;cases z:R2.G (R1.ρ j)with
   |none=>rfl
   |some u=>
    have z3:=s.gsep j t;rw[ab,ak _ u z]at z3;cases z3
 ·have hg:R1.G a=some o:=by rw[ab];exact ak a o ha
  refine Z a (s.gf a o hg) (fun⟨j,_,b,_,d⟩=>?_);have z3:=s.gsep j b;rw[d,hg]at z3;cases z3
theorem Cal.box(b:W->List Nat)(C:Cal P w K a base k x ps g):Cal P w K a base k x ps (Mi.box b g):=
 C.imp fun _ _ _ _ q=>Qiw q
end
noncomputable def frN:W->List Nat:=fun _=>[]
noncomputable def Qaw:List Nat->List W->MSt->Option MSt
 |[],[],σ=>some σ
 |i::is,w::ws,σ=>Qaw is ws (σ.set i (some w))
 |_,_,_=>none
noncomputable def XU(is:List Nat):MG:=fun w a _=>match w with|.tup b=>Qaw is b a|_=>none
noncomputable def Ge:List Nat->TGs
 |[]=>QkW
 |i::is=>Qhb (QcM i) (Ge is)
theorem Ku:PGs X [] (Ge []):=QfY
theorem KO(hN:X.N.Nodup)(b:X.N[i]?=some x)(a:Loc X.env.scope x)(h:PGs X es (Ge is))(c:X.fn x=true\/X.env.scope.names.lookup x=some .local)
  : PGs X (.Name x pos::es) (Ge (i::is)):=QdL (QaP hN b a c) h
theorem YF{K:Nd}:∀{is:List Nat} {ws:List W} {xs:List V} {a σ1:MSt} {σ:L2.St},Qaw is ws a=some σ1->Rws K R ws xs->Rst K R a σ->(∀b,Rst K R σ1 b->C b H)->Ge is xs σ H C
 |[],[],xs,a,σ1,σ,e,r,s,k=>by
  cases e;rw[Rws.nil_iff]at r;exact⟨r,k σ s⟩
 |i::is,w::ws,xs,a,σ1,σ,e,r,s,k=>by
  rw[Rws.cons_iff]at r;obtain⟨v,c,rfl,f,d⟩:=r;exact⟨v,c,rfl,YF (is:=is) e d (s.set f) k⟩
 |[],_::_,_,_,_,_,e,_,_,_=>by cases e
 |_::_,[],_,_,_,_,e,_,_,_=>by cases e
theorem KL:∀{is:List Nat} {ws:List W} {σ σ1:MSt},Qaw is ws σ=some σ1->ws.length=is.length
 |[],[],_,_,_=>rfl
 |i::is,w::ws,σ,σ1,e=>by
  have:=KL (is:=is) (ws:=ws) e;simp[this]
 |[],_::_,_,_,e=>by cases e
 |_::_,[],_,_,e=>by cases e
theorem Wa{is:List Nat}(o:X.calm=true)(h:PGs X es (Ge is))(n:(assignEach es X.env).length=is.length)(m:(assignEach es X.env).findIdx? (·.1)=none):PMG X (.Tuple es k pos) (XU is):=
 Qby (QgU o h n m) fun v p H C g=>by
  obtain⟨R,d,h,w,f,b,st,rw,e,q⟩:=g;unfold XU at e;split at e
  ·rename_i r;obtain⟨ad,i,rfl,l,c⟩:=b.tupAt rw;exact⟨ad,i,rfl,l,by rw[<-c.length];exact KL e,YF e c st fun a j=>q R H a (Ext.refl _) b j⟩
  ·cases e
noncomputable def Qjp(g:MG)(m:ME):SM:=fun b h=>(m b h).bind fun p=>(g p.1 b p.2).map fun a=>.nx a p.2
theorem Qfh(u:PM X e m)(t:PMG X b g)(q:swapsWithSole [b] e pos.line X.env=pure false)(hw:swappedStores [b] e X.env=pure none)(h1:(assignEach [b] X.env).map (·.2)=[assign b X.env]) :
  PMS X (.Assign [b] e pos) (Qjp g m):=VS (Qep u t q hw h1) <|by
 rintro D B H ⟨R,a,h,r,p,s,e,k⟩
 obtain⟨⟨w,h1⟩,e1,e2⟩:=Nc.mp e;obtain⟨c,y,x⟩:=Nf.mp e2;cases x;exact⟨R,a,h,w,h1,p,s,e1,fun R1 C v j f o=>⟨R1,a,h1,w,c,f,s.mono j,o,y,fun z A d l i n=>k z A d (j.trans l) i n⟩⟩
noncomputable def QiW(ws:List W)(h:MH):Option (W×MH):=match ws with
 |[.int i,.int j]=>some (.int (if j>i then j else i),h)
 |_=>none
section
variable{X:Cx}
theorem QbX(j:X.calm=true):CallR X (.builtin "max") (Fs X.K QiW):=by
 intro a s b H c d Q I r q;refine QbH j a s b H c d Q I r ?_;obtain⟨R,h,l,w,m,f,rw,e,k⟩:=q;unfold QiW at e;split at e
 ·cases e;obtain⟨v,u,rfl,i,g⟩:=Qjy rw;exact⟨_,_,by rw[i.int_eq,g.int_eq],k R H _ (Ext.refl _) f (Rw.int _)⟩
 ·cases e
noncomputable def rep(x:Str)(n:Int):Str:=⟨((List.replicate n.toNat x.cps.toList).flatten).toArray⟩
theorem Ub:∀(l:List (Array Nat)) (a:Array Nat),l.foldl (·++·) a=(a.toList++(l.map Array.toList).flatten).toArray
 |[],a=>by simp
 |b::l,a=>by rw[IA,Ub l];simp
theorem QeI(x:Str)(n:Int):(⟨(List.replicate n.toNat x.cps).foldl (·++·) #[]⟩:Str)=rep x n:=by
 unfold rep;rw[Ub];simp
theorem Qdy(x:Str)(h:n<1):Str.empty=rep x n:=by
 unfold rep;rw[show n.toNat=0 by lia];rfl
theorem Qgu(x:Str):x=rep x 1:=by
 unfold rep;simp
theorem Qfe(n:Int)(h:(x.length==0)=true):x=rep x n:=by
 unfold rep
 have:x.cps=#[]:=by
  have:x.cps.size=0:=by simpa[Str.length]using h
  exact FB this
 obtain⟨c⟩:=x;simp at this;subst this;simp
noncomputable def Vh(a b:W)(h:MH):Option (W×MH):=match a,b with
 |.str x,.int n=>if n<1000/\-1000<n/\x.length<1000 then some (.str (rep x n),h)else none
 |a,b=>QgT a b h
theorem Qgt:OpR X (binaryOp .Mult) (fun x y H Q=>∃z n,x=.str z/\y=.int n/\(n<1000/\-1000<n/\z.length<1000)/\Q (.str (rep z n)) H):=by
  intro b s e H x y v u Q I i h ⟨z,n,e1,e2,⟨A,w,r⟩,q⟩;subst e1 e2;obtain⟨t,rfl⟩:=i;obtain⟨p,rfl⟩:=h
  have j:z.length*n.toNat<1000000:=by
    calc z.length*n.toNat<=999*999:=FK (by lia) (by lia)
      _<1000000:=by decide
  refine PySem.P.mul_str (by rw[decide_eq_false (by lia),decide_eq_false (by lia)];rfl) (fun a _=>?_) (fun a _=>?_) ?_
  · have:(2^63-1)/n >= 1000:=by
      rw[ge_iff_le,Int.le_ediv_iff_mul_le (by lia)];lia
    lia
  · unfold Builtin.Str.tooLong
    exact decide_eq_false (by show¬_;have:sizeLine=16777216:=by decide
                              lia)
  · have done:∀(y:Str) (f:Tok) (d:Shared),y=rep z n->Inv X b e H d->EP X b e Q (.str y f) d:=fun y f d m o=>⟨.str y,H,o,⟨_,rfl⟩,by rw[m];exact q⟩
    split
    · rename_i g;exact⟨by decide,done _ _ _ (Qdy z g) (I.tok _)⟩
    · split
      · rename_i g c;rw[Dd]at c;refine done _ _ _ ?_ I
        rcases c with c|c
        · have:n=1:=by simpa using c
          subst this;exact Qgu z
        · exact Qfe n c
      · refine⟨?_,done _ _ _ (QeI z n) (I.tok _)⟩;rw[QeI]
        have l:(rep z n).length=n.toNat*z.length:=by
          unfold rep Str.length;simp
        rw[l,Nat.mul_comm];have:sizeLine=16777216:=by decide
        exact N8 (Nl (Eo j (by decide)) (Nx this.symm))
theorem Vn:OpR X (binaryOp .Mult) (F2 X.K Vh):=by
 intro c s d H x y v u Q I g f q;obtain⟨R,h,a,b,w,n,i,l,j,e,k⟩:=q;unfold Vh at e;split at e
 ·split at e
  ·rename_i m;cases e;exact Qgt c s d H x y v u Q I g f ⟨_,_,l.str_eq,j.int_eq,m,k R H _ (Ext.refl _) i (Rw.str _)⟩
  ·cases e
 ·exact Qgj c s d H x y v u Q I g f ⟨R,h,a,b,w,n,i,l,j,e,k⟩
end
section
variable{X:Cx}{elt tg iter c:Expr}{scope:Scope}{pos pos' spos:Pos}{cl:List (Str×Addr)}{Nb:List Str}{cp:List (Option Nat)}{mi:MI}{b:MG}{mt:MT}{me m:ME}{fin:List W->MH->Option (W×MH)}{i:Nat}{x:Str}{e:Expr}
theorem Qct{K:Nd}(q:tS K (Zx i m) D σ H):tI K m σ H fun v f=>QcM i v σ f D.nx:=by
 obtain⟨R,a,h,r,l,s,e,k⟩:=q;obtain⟨⟨w,n⟩,e1,e2⟩:=Nf.mp e;cases e2;exact⟨R,a,h,w,n,l,s,e1,fun R1 f v g d j=>k R1 f _ g d ((s.mono g).set j)⟩
theorem WU(hN:X.N.Nodup)(n:X.N[i]?=some x)(v:Loc X.env.scope x)(o:X.fn x=true\/X.env.scope.names.lookup x=some .local)(A:Qax X.K fin)(E:X.calm=true)(B:BlkOk X scope cl Nb cp)(y:PMI X tg iter mi)(z:∀a d C j f,PMG (Mi.blk X scope cl Nb a d C j f) tg b)
  (D:∀a d C j f,PM (Mi.blk X scope cl Nb a d C j f) elt me) (w:∀x,foldedSetIterable iter X.env x=pure x) (l:swapsWith (.ListComp elt [⟨tg,iter,[],0⟩] scope pos) (some (.Name x pos')) spos.line X.env=pure true) :
  PMS X (.Assign [.Name x pos'] (.ListComp elt [⟨tg,iter,[],0⟩] scope pos) spos) (Zx i (Zg fin mi cp b XI me)):=
 VS (QbC (g:=tIG X.K b) (te:=tI X.K me) (tt:=tIT X.K XI) hN n v o l E B y z (fun a d C j f p s F H Q I q=>wpAny_tests_nil (by
  obtain⟨R,r,h,t,L,u,st,e,k⟩:=q;cases e
  exact⟨H,I,k R H (Ext.refl _) u⟩)) D w) fun _ _ _ q=>We A (Qct q)
theorem QaX(hN:X.N.Nodup)(n:X.N[i]?=some x)(r:Loc X.env.scope x)(o:X.fn x=true\/X.env.scope.names.lookup x=some .local)(y:Qax X.K fin)(A:X.calm=true)(B:BlkOk X scope cl Nb cp)(v:PMI X tg iter mi)(w:∀a d C h f,PMG (Mi.blk X scope cl Nb a d C h f) tg b)
  (t:∀a d C h f,PMT (Mi.blk X scope cl Nb a d C h f) c mt)
  (z:∀a d C h f,PM (Mi.blk X scope cl Nb a d C h f) elt me) (u:∀x,foldedSetIterable iter X.env x=pure x) (l:swapsWith (.ListComp elt [⟨tg,iter,[c],0⟩] scope pos) (some (.Name x pos')) spos.line X.env=pure true) :
  PMS X (.Assign [.Name x pos'] (.ListComp elt [⟨tg,iter,[c],0⟩] scope pos) spos) (Zx i (Zg fin mi cp b mt me)):=
 VS (QbC (g:=tIG X.K b) (te:=tI X.K me) (tt:=tIT X.K mt) hN n r o l A B v w (fun a d C h f j s p H Q I q=>wpAny_tests_one (t a d C h f j s p H Q I q)) z u) fun _ _ _ q=>We y (Qct q)
end
set_option checkBinderAnnotations false in
noncomputable def ob[f:b->Option a](x:Option b):Option a:=x.bind f
set_option checkBinderAnnotations false in
noncomputable def om[f:b->a](x:Option b):Option a:=x.map f
@[simp]theorem Qko:@ob _ _ f (some a)=f a:=id rfl
@[simp]theorem QjH:@om _ _ f (some a)=some (f a):=id rfl
noncomputable def Qjh(b:SM):MF->Option MF
 |.nx σ h=>b σ h
 |r=>some r
section
variable{σ σ':MSt}{h h':MH}{a b:SM}{m ma mb mc:ME}{t u:MT}{ms:MA}{w x y:W}{ws:List W}
@[simp]theorem Qja:Qjh b (.nx σ h)=b σ h:=id rfl
@[simp]theorem Qjw:Qjh b (.rt w h)=some (.rt w h):=id rfl
@[simp]theorem QmS:QA a b σ h=@ob _ _ (Qjh b) (a σ h):=by
 unfold QA;refine congrArg (fun c=>@ob _ _ c (a σ h)) (funext fun r=>?_);cases r<;>rfl
@[simp]theorem Qk0:QF σ h=some (.nx σ h):=id rfl
@[simp]theorem QlO:Q8 m σ h=@om _ _ (fun p=>.rt p.1 p.2) (m σ h):=id rfl
noncomputable def onB(a b:SM)(σ:MSt)(p:Bool×MH):Option MF:=if p.1=true then a σ p.2 else b σ p.2
@[simp]theorem QjC(c:Bool):onB a b σ (c,h)=if c=true then a σ h else b σ h:=id rfl
@[simp]theorem Qmi:ZZ t a b σ h=@ob _ _ (onB a b σ) (t σ h):=by
 unfold ZZ;refine congrArg (fun d=>@ob _ _ d (t σ h)) (funext fun p=>?_);obtain⟨c,h⟩:=p;cases c<;>rfl
@[simp]theorem Qkp:W6 m σ h=@om _ _ (fun p=>.nx σ p.2) (m σ h):=id rfl
@[simp 500]theorem QmH:Zx i m σ h=@om _ _ (fun p=>.nx (σ.set i (some p.1)) p.2) (m σ h):=id rfl
@[simp]theorem Ql5:Qey i f m σ h=@ob _ _ (fun x=>@ob _ _ (fun p=>@om _ _ (fun q=>.nx (σ.set i (some q.1)) q.2) (f x.1 p.1 p.2)) (m σ h)) (Qb i σ h):=by
 unfold Qey Qb
 rcases σ[i]? with _|_|x<;>rfl
@[simp 1100]theorem QlU{v0 v1 x:Option W}{r:MSt}:List.set (v0::v1::r) 1 x=v0::x::r:=id rfl
@[simp 1100]theorem QmR{v0 v1 c x:Option W}{r:MSt}:List.set (v0::v1::c::r) 2 x=v0::v1::x::r:=id rfl
@[simp 1100]theorem QlK{v0 v1 c d x:Option W}{r:MSt}:List.set (v0::v1::c::d::r) 3 x=v0::v1::c::x::r:=id rfl
@[simp 1100]theorem QlV{v0 v1 d c v4 x:Option W}{r:MSt}:List.set (v0::v1::d::c::v4::r) 4 x=v0::v1::d::c::x::r:=id rfl
@[simp 1100]theorem Qms{v0 v1 d c v4 e x:Option W}{r:MSt}:List.set (v0::v1::d::c::v4::e::r) 5 x=v0::v1::d::c::v4::x::r:=id rfl
@[simp 1100]theorem QmQ{v0 v1 e d v4 c v6 x:Option W}{r:MSt}:List.set (v0::v1::e::d::v4::c::v6::r) 6 x=v0::v1::e::d::v4::c::x::r:=id rfl
@[simp 1100]theorem Qmm{v0 v1 e d v4 c v6 f x:Option W}{r:MSt}:List.set (v0::v1::e::d::v4::c::v6::f::r) 7 x=v0::v1::e::d::v4::c::v6::x::r:=id rfl
@[simp 1100]theorem QlB{v0 v1 f e v4 d v6 c g x:Option W}{r:MSt}:List.set (v0::v1::f::e::v4::d::v6::c::g::r) 8 x=v0::v1::f::e::v4::d::v6::c::x::r:=id rfl
@[simp]theorem QmB:Qjp g m σ h=@ob _ _ (fun p=>@om _ _ (fun σ1=>.nx σ1 p.2) (g p.1 σ p.2)) (m σ h):=id rfl
@[simp]theorem Qlh:Qb 0 (some o::r) h=some (o,h):=id rfl
@[simp]theorem Qkw:Qb 1 (v0::some o::r) h=some (o,h):=id rfl
@[simp]theorem QkC:Qb 2 (v0::v1::some o::r) h=some (o,h):=id rfl
@[simp]theorem Qkx:Qb 3 (v0::v1::c::some o::r) h=some (o,h):=id rfl
@[simp]theorem Qlq:Qb 4 (v0::v1::d::c::some o::r) h=some (o,h):=id rfl
@[simp]theorem QkR:Qb 5 (v0::v1::d::c::v4::some o::r) h=some (o,h):=id rfl
@[simp]theorem QkZ:Qb 6 (v0::v1::e::d::v4::c::some o::r) h=some (o,h):=id rfl
@[simp]theorem QkD:Qb 7 (v0::v1::e::d::v4::c::v6::some o::r) h=some (o,h):=id rfl
@[simp]theorem QkB:Qb 8 (v0::v1::f::e::v4::d::v6::c::some o::r) h=some (o,h):=id rfl
@[simp]theorem s_c:mC w σ h=some (w,h):=id rfl
@[simp 500]theorem Qmc:Qc f ma mb σ h=@ob _ _ (fun p=>@ob _ _ (fun q=>f p.1 q.1 q.2) (mb σ p.2)) (ma σ h):=id rfl
@[simp]theorem QmX:mUn f ma σ h=@ob _ _ (fun p=>f p.1 p.2) (ma σ h):=id rfl
@[simp]theorem QmW:mFn f ms σ h=@ob _ _ (fun p=>f p.1 p.2) (ms σ h):=id rfl
@[simp]theorem Qlp:Qk n g ms σ h=@ob _ _ (fun p=>if p.1.length=n then g p.1 p.2 else none) (ms σ h):=id rfl
@[simp]theorem Qmb:Qd σ h=some ([],h):=id rfl
@[simp 600]theorem Qlw:Qc f ma (mC w) σ h=@ob _ _ (fun p=>f p.1 w p.2) (ma σ h):=id rfl
@[simp 600]theorem Qi9:Qa (mC w) ms σ h=@ob _ _ (fun q=>some (w::q.1,q.2)) (ms σ h):=id rfl
@[simp 610]theorem Qj9:Qa m Qd σ h=@ob _ _ (fun p=>some ([p.1],p.2)) (m σ h):=id rfl
@[simp 620]theorem Qi4:Qa (mC w) Qd σ h=some ([w],h):=id rfl
@[simp 600]theorem Qk9:Zx i (mC w) σ h=some (.nx (σ.set i (some w)) h):=id rfl
@[simp 500]theorem QkX:Qa m ms σ h=@ob _ _ (fun p=>@ob _ _ (fun q=>some (p.1::q.1,q.2)) (ms σ p.2)) (m σ h):=id rfl
noncomputable def asB(p:W×MH):Option (Bool×MH):=match p.1 with|.bl b=>some (b,p.2)|_=>none
@[simp]theorem Qlu(c:Bool):asB (.bl c,h)=some (c,h):=id rfl
@[simp 500]theorem QkV:Qr m σ h=@ob _ _ asB (m σ h):=id rfl
@[simp]theorem Qk7:J6 t σ h=@om _ _ (fun p=>(!p.1,p.2)) (t σ h):=by
 unfold J6
 first|rfl|(cases t σ h<;>rfl)
noncomputable def QhT(u:MT)(σ:MSt)(p:Bool×MH):Option (Bool×MH):=if p.1=true then u σ p.2 else some (false,p.2)
noncomputable def Qlb(u:MT)(σ:MSt)(p:Bool×MH):Option (Bool×MH):=if p.1=true then some (true,p.2)else u σ p.2
@[simp]theorem QhX(c:Bool):QhT u σ (c,h)=if c=true then u σ h else some (false,h):=id rfl
@[simp]theorem Qi3(c:Bool):Qlb u σ (c,h)=if c=true then some (true,h)else u σ h:=id rfl
@[simp 500]theorem Qld:QaC t u σ h=@ob _ _ (QhT u σ) (t σ h):=by
 unfold QaC;refine congrArg (fun d=>@ob _ _ d (t σ h)) (funext fun p=>?_);obtain⟨c,h⟩:=p;cases c<;>rfl
@[simp 500]theorem Ql6:GS t u σ h=@ob _ _ (Qlb u σ) (t σ h):=by
 unfold GS;refine congrArg (fun d=>@ob _ _ d (t σ h)) (funext fun p=>?_);obtain⟨c,h⟩:=p;cases c<;>rfl
noncomputable def Qlg(ma mb:ME)(σ:MSt)(p:Bool×MH):Option (W×MH):=if p.1=true then ma σ p.2 else mb σ p.2
@[simp]theorem Qi7(c:Bool):Qlg ma mb σ (c,h)=if c=true then ma σ h else mb σ h:=id rfl
@[simp]theorem QmV:mIf t ma mb σ h=@ob _ _ (Qlg ma mb σ) (t σ h):=by
 unfold mIf;refine congrArg (fun d=>@ob _ _ d (t σ h)) (funext fun p=>?_);obtain⟨c,h⟩:=p;cases c<;>rfl
@[simp]theorem Qmn:Wn m σ h=@ob _ _ (fun p=>@om _ _ (fun b=>(b,p.2)) (Qfy p.2 p.1)) (m σ h):=by
 unfold Wn;rfl
@[simp]theorem QmY:mMt T f m ms σ h=@ob _ _ (fun p=>if tyW p.2 T p.1=true then@ob _ _ (fun q=>f p.1 q.1 q.2) (ms σ p.2)else none) (m σ h):=id rfl
end
section
variable{h:MH}{i j:Int}{x y:Str}{ws us:List W}{w:W}
@[simp]theorem Ql0:QW (.int i) (.int j) h=some (.int (i+j),h):=id rfl
@[simp]theorem QlJ:UO (.int i) (.int j) h=some (.int (i-j),h):=id rfl
@[simp]theorem QmT:wLt (.int i) (.int j) h=some (.bl (decide (i<j)),h):=id rfl
@[simp]theorem Qm0:wLe (.int i) (.int j) h=some (.bl (decide (i<=j)),h):=id rfl
@[simp]theorem Qm4:wGt (.int i) (.int j) h=some (.bl (decide (j<i)),h):=id rfl
@[simp]theorem QmL:QfG (.int i) h=some (.int (-i),h):=id rfl
@[simp]theorem Qk6:UR (.int i) (.int j) h=some (.int (i+j),h):=id rfl
@[simp]theorem QmP(c:0<j):Zy (.int i) (.int j) h=some (.int (i%j),h):=KW c
@[simp]theorem Qmf(c:0<j)(a:j<1073741824):JP (.int i) (.int j) h=some (.int (i/j),h):=Qb3 ⟨c,a⟩
@[simp]theorem Qkq(c:-18446744073709551616<j)(a:j<18446744073709551616):Vh (.int i) (.int j) h=some (.int (i*j),h):=Qcs (.inr ⟨c,a⟩)
@[simp]theorem Qa5(c:-18446744073709551616<i)(a:i<18446744073709551616):Vh (.int i) (.int j) h=some (.int (i*j),h):=Qcs (.inl ⟨c,a⟩)
@[simp]theorem Qmt(c:0<=j)(b:j<=1000000)(a:i.natAbs<18446744073709551616):QgQ (.int i) (.int j) h=some (.int (i^j.toNat),h):=Qf3 ⟨c,b,a⟩
@[simp]theorem Qmg:QiW [.int i,.int j] h=some (.int (if j>i then j else i),h):=id rfl
@[simp]theorem QmE:Qm ws h=if ws.length<=sizeLine then some (.tup ws,h)else none:=id rfl
@[simp]theorem Qmy:UE ws h=if ws.length<=sizeLine then some (.lst ws,h)else none:=id rfl
@[simp]theorem QmD:Qen ws h=if ws.length<=sizeLine then some (.ref h.length,h++[.lst ws])else none:=id rfl
@[simp]theorem QmF:wIx (.tup ws) (.int i) h=@om _ _ (fun w=>(w,h)) (atI ws i):=id rfl
@[simp]theorem Qmh:wIx (.lst ws) (.int i) h=@om _ _ (fun w=>(w,h)) (atI ws i):=id rfl
@[simp]theorem QlZ:wIx (.frz ws) (.int i) h=@om _ _ (fun w=>(w,h)) (atI ws i):=id rfl
@[simp]theorem QlH:wIx (.ref n) (.int i) h=@ob _ _ (fun(ws:List W)=>@om _ _ (fun w=>(w,h)) (atI ws i)) (match h[n]? with|some (.lst ws)=>some ws|_=>none):=id rfl
@[simp]theorem Qks:VX [.tup ws] h=some (.int ws.length,h):=id rfl
@[simp]theorem Qku:VX [.lst ws] h=some (.int ws.length,h):=id rfl
@[simp]theorem QkH:VX [.frz ws] h=some (.int ws.length,h):=id rfl
@[simp]theorem QkG:VX [.ref n] h=@om _ _ (fun(ws:List W)=>(.int ws.length,h)) (match h[n]? with|some (.lst ws)=>some ws|_=>none):=id rfl
@[simp]theorem Qle:VX [.str x] h=if x.length<=sizeLine then some (.int x.length,h)else none:=id rfl
theorem Zz{xs:List a}{n:Nat}:atI xs (n:Int)=xs[n]?:=by
 cases e:xs[n]? with
 |some x=>exact Qfc e
 |none=>
  unfold atI ixN;have:xs.length<=n:=Ia.mp e;rw[if_pos (by lia)];rw[if_neg (by lia)];rfl
@[simp]theorem QmU:atI xs 0=xs[0]?:=Zz (n:=0)
@[simp]theorem Qna:atI xs 1=xs[1]?:=Zz (n:=1)
@[simp]theorem QkQ{a:Type}{xs:List a}{y:a}:atI (xs++[y]) (-1)=some y:=Qdx xs y
@[simp]theorem Qmd:ixN (n+1) 0=some 0:=by unfold ixN;rw[if_pos (by decide),if_pos (by lia)];rfl
@[simp]theorem QlW:ixN (n+2) 1=some 1:=by unfold ixN;rw[if_pos (by decide),if_pos (by lia)];rfl
@[simp]theorem QlF:ixN (n+3) 2=some 2:=by unfold ixN;rw[if_pos (by decide),if_pos (by lia)];rfl
@[simp]theorem Qk3:ixN (n+1) (-1)=some n:=by unfold ixN;rw[if_neg (by decide),if_pos (by lia)];congr 1;lia
noncomputable def Qit(o i v:W)(σ:MSt)(h:MH):Option MF:=match o,i with
 |.ref n,.int k=>match h[n]? with
  |some (.lst a)=>@om _ _ (fun j=>.nx σ (h.set n (.lst (a.set j v)))) (ixN a.length k)
  |_=>none
 |_,_=>none
@[simp]theorem Qis:QgM mo mi a σ h=@ob _ _ (fun v=>@ob _ _ (fun o=>@ob _ _ (fun i=>Qit o.1 i.1 v.1 σ i.2) (mi σ o.2)) (mo σ v.2)) (a σ h):=id rfl
@[simp]theorem Qkn:Qit (.ref n) (.int i) v σ h=match h[n]? with
  |some (.lst xs)=>@om _ _ (fun j=>.nx σ (h.set n (.lst (xs.set j v)))) (ixN xs.length i)
  |_=>none:=id rfl
@[simp]theorem QkU{w:W}:Qka (some (.rt w h))=some (w,h):=id rfl
@[simp]theorem Qi2{n:Nat}{w:W}:XM (.ref n) [w] h=match h[n]? with|some (.lst xs)=>if xs.length<sizeLine then some (.non,h.set n (.lst (xs++[w])))else none|_=>none:=id rfl
@[simp]theorem QiV{n:Nat}{w:W}:Wp (.ref n) [w] h=match h[n]? with|some (.lst xs)=>@ob _ _ (fun a=>if xs.length+a.length<=sizeLine then some (.non,h.set n (.lst (xs++a)))else none) (loW h w)|_=>none:=id rfl
@[simp]theorem QlY:loW h (.lst ws)=some ws:=id rfl
@[simp]theorem QmK:QiY (.ref n) [] h=match h[n]? with|some (.lst xs)=>@om _ _ (fun w=>(w,h.set n (.lst xs.dropLast))) (xs[xs.length-1]?)|_=>none:=id rfl
@[simp]theorem Qmj:tyW h T (.ref n)=match h[n]? with|some (.lst _)=>T=="list"|some (.dic _)=>T=="dict"|some (.dct _)=>T=="dict"|_=>false:=id rfl
@[simp]theorem QkF:Qfy h (.ref n)=match h[n]? with|some (.lst ws)=>some (!ws.isEmpty)|some (.dic kvs)=>some (!kvs.isEmpty)|_=>none:=id rfl
@[simp]theorem QkO:Qfy h (.bl b)=some b:=id rfl
@[simp]theorem Qm7:mSl c a b σ h=@ob _ _ (fun p=>@ob _ _ (fun q=>@ob _ _ (fun r=>wSl p.1 q.1 r.1 r.2) (b σ q.2)) (a σ p.2)) (c σ h):=id rfl
@[simp]theorem Qm2:Jp σ h=some (none,h):=id rfl
noncomputable def asI(p:W×MH):Option (Option Int×MH):=match p.1 with|.int i=>some (some i,p.2)|_=>none
@[simp]theorem Qjs:asI (.int i,h)=some (some i,h):=id rfl
@[simp]theorem Qm3:Ju m σ h=@ob _ _ asI (m σ h):=id rfl
@[simp]theorem Qkc{lo a:Option Int}:wSl (.tup ws) lo a h=some (.tup (W4 ws lo a),h):=id rfl
@[simp]theorem Qg9{lo a:Option Int}:wSl (.lst ws) lo a h=some (.lst (W4 ws lo a),h):=id rfl
@[simp]theorem Qlt:QW (.tup ws) (.tup us) h=if ws.length+us.length<=sizeLine then some (.tup (ws++us),h)else none:=id rfl
@[simp]theorem Qlj:QW (.str x) (.str y) h=if x.length+y.length<=sizeLine then some (.str (x++y),h)else none:=id rfl
@[simp]theorem Ql8:UD [a,.ty T] h=if KB T=true then@om _ _ (fun k=>(.bl (QR k T),h)) (Wh h a)else none:=id rfl
@[simp]theorem QlD:Wh h .non=some "NoneType":=id rfl
@[simp]theorem Qm5:Wh h (.bl b)=some "bool":=id rfl
@[simp]theorem Ql2:Wh h (.int i)=some "int":=id rfl
@[simp]theorem QlA:Wh h (.str x)=some "str":=id rfl
@[simp]theorem Qma:Wh h (.tup ws)=some "tuple":=id rfl
@[simp]theorem QlT:Wh h (.lst ws)=some "list":=id rfl
@[simp]theorem Qnc:KB "str"=true:=by decide
@[simp]theorem Qm1:KB "bool"=true:=by decide
@[simp]theorem QmZ:KB "tuple"=true:=by decide
end
mutual
noncomputable def pln:W->Bool
 |.tup ws=>WK ws
 |.lst ws=>WK ws
 |.frz _=>false
 |.ref _=>false
 |.ty _=>false
 |_=>true
noncomputable def WK:List W->Bool
 |[]=>true
 |w::ws=>pln w&&WK ws
end
mutual
noncomputable def dep:W->Nat
 |.tup ws=>Qcq ws+1
 |.lst ws=>Qcq ws+1
 |_=>1
noncomputable def Qcq:List W->Nat
 |[]=>0
 |w::ws=>max (dep w) (Qcq ws)
end
mutual
theorem U8(h:MH):∀(w:W) (n:Nat),pln w=true->dep w<=n->drf h n w=some w
 |.non,n+1,_,_=>rfl
 |.bl _,n+1,_,_=>rfl
 |.int _,n+1,_,_=>rfl
 |.str _,n+1,_,_=>rfl
 |.tup ws,n+1,p,d=>by
  unfold pln at p;unfold dep at d;show(Vc (drf h n) ws).map W.tup=_;rw[XH h ws n p (by lia)];rfl
 |.lst ws,n+1,p,d=>by
  unfold pln at p;unfold dep at d;show(Vc (drf h n) ws).map W.lst=_;rw[XH h ws n p (by omega)];rfl
 |.frz _,_,p,_=>by unfold pln at p;cases p
 |.ref _,_,p,_=>by unfold pln at p;cases p
 |.ty _,_,p,_=>by unfold pln at p;cases p
 |.non,0,_,d=>by unfold dep at d;lia
 |.bl _,0,_,d=>by unfold dep at d;omega
 |.int _,0,_,d=>by unfold dep at d;omega
 |.str _,0,_,d=>by unfold dep at d;omega
 |.tup _,0,_,d=>by unfold dep at d;lia
 |.lst _,0,_,d=>by unfold dep at d;omega
theorem XH(h:MH):∀(ws:List W) (n:Nat),WK ws=true->Qcq ws<=n->Vc (drf h n) ws=some ws
 |[],_,_,_=>rfl
 |w::ws,n,p,d=>by
  unfold WK at p;unfold Qcq at d;rw[NH]at p;rw[Vc,U8 h w n p.1 (Nn (Nat.le_max_left _ _) d),Nq,XH h ws n p.2 (Nn (Nat.le_max_right _ _) d)];rfl
end
mutual
theorem QcY:∀(w:W),pln w=true->eqW w w=true
 |.non,_=>by unfold eqW;rfl
 |.bl _,_=>by unfold eqW;simp
 |.int _,_=>by unfold eqW;simp
 |.str _,_=>by unfold eqW;simp
 |.tup ws,p=>by unfold pln at p;unfold eqW;exact KK ws p
 |.lst ws,p=>by unfold pln at p;unfold eqW;exact KK ws p
 |.frz _,p=>by unfold pln at p;cases p
 |.ref _,p=>by unfold pln at p;cases p
 |.ty _,p=>by unfold pln at p;cases p
theorem KK:∀(ws:List W),WK ws=true->Yu ws ws=true
 |[],_=>by unfold Yu;rfl
 |w::ws,p=>by
  unfold WK at p;rw[NH]at p;unfold Yu;rw[QcY w p.1,KK ws p.2];rfl
end
@[simp]theorem QjV:wEq (.int i) (.int j) h=some (.bl (i==j),h):=Qf7 i j h
@[simp]theorem Qkd:wEq (.str x) (.str y) h=some (.bl (x==y),h):=Qe5 x y h
@[simp]theorem Qmo:wNe (.int i) (.int j) h=some (.bl (!(i==j)),h):=Qgp i j h
@[simp]theorem Ql7:wNe (.str x) (.str y) h=some (.bl (!(x==y)),h):=by unfold wNe;simp[drf,eqW]
mutual
theorem Wq:∀(w:W),pln w=true->pur w=true
 |.non,_=>rfl
 |.bl _,_=>rfl
 |.int _,_=>rfl
 |.str _,_=>rfl
 |.tup ws,p=>by unfold pln at p;unfold pur;exact Vd ws p
 |.lst ws,p=>by unfold pln at p;unfold pur;exact Vd ws p
 |.frz _,p=>by unfold pln at p;cases p
 |.ref _,p=>by unfold pln at p;cases p
 |.ty _,p=>by unfold pln at p;cases p
theorem Vd:∀(ws:List W),WK ws=true->QQ ws=true
 |[],_=>rfl
 |w::ws,p=>by
  unfold WK at p;rw[NH]at p;unfold QQ;rw[Wq w p.1,Vd ws p.2];rfl
end
mutual
theorem Qez(f:Nat->Option W):∀(w:W),pur w=true->th f w=some w
 |.non,_=>rfl
 |.bl _,_=>rfl
 |.int _,_=>rfl
 |.str _,_=>rfl
 |.ty _,_=>rfl
 |.tup ws,p=>by unfold pur at p;unfold th;rw[K5 f ws p];rfl
 |.lst ws,p=>by unfold pur at p;unfold th;rw[K5 f ws p];rfl
 |.frz ws,p=>by unfold pur at p;unfold th;rw[K5 f ws p];rfl
 |.ref _,p=>by unfold pur at p;cases p
theorem K5(f:Nat->Option W):∀(ws:List W),QQ ws=true->ths f ws=some ws
 |[],_=>rfl
 |w::ws,p=>by
  unfold QQ at p;rw[NH]at p;unfold ths;rw[Qez f w p.1,K5 f ws p.2];rfl
end
theorem Qe(b:QQ ws=true)(e:m ws []=some (w,g))(hw:pur w=true):box frN m ws h=some (w,h):=by
 have hr:UG 0 ws=some (ws,[]):=by
  generalize 0=k;clear e
  induction ws with
  |nil=>rfl
  |cons a r c=>
   unfold QQ at b;rw[NH]at b;have:=c b.2;cases a<;>first|(unfold pur at b;cases b.1;done)|(unfold UG;rw[if_pos b.1,this];rfl)
 unfold box;rw[hr,Nq];unfold QiS;rw[if_pos Dm];simp only[Vc,Nq,e,frN,DP,Ov];rw[if_pos ⟨Dm,by simp⟩,Qez _ w hw];simp[ZO]
theorem YK(b:QQ ws=true)(e:m ws []=some (.ref j,g))(d:g[j]?=some (.lst us))(hu:QQ us=true):box frN m ws h=some (.lst us,h):=by
 have hr:UG 0 ws=some (ws,[]):=by
  generalize 0=k;clear e
  induction ws with
  |nil=>rfl
  |cons a r c=>
   unfold QQ at b;rw[NH]at b;have:=c b.2;cases a<;>first|(unfold pur at b;cases b.1;done)|(unfold UG;rw[if_pos b.1,this];rfl)
 unfold box;rw[hr,Nq];unfold QiS;rw[if_pos Dm];simp only[Vc,Nq,e,frN,DP,Ov];rw[if_pos ⟨Dm,by simp⟩]
 have:th (res (QcR [] [] h.length) g 3) (.ref j)=some (.lst us):=by
  unfold th res;simp only[QcR,List.getElem?_nil,List.findIdx?_nil,Option.map_none,d];rw[K5 _ us hu];rfl
 rw[this];simp[ZO]
theorem Q3(f:W->W)(c:mi σ h=some (items,none,h))(a:∃o,Qed cp σ=o::caps)(d:∀w∈items,me (some w::caps) h=some (f w,h))(b:items.length<=sizeLine) :
  Zg fin mi cp (Z0 0) XI me σ h=fin (items.map f) h:=by
 obtain⟨o,a⟩:=a;unfold Zg;rw[c,Nq];simp only[a];rw[VV (p:=fun _=>true) (f:=f) items [] o (fun _ _=>rfl) (fun w hw _=>d w hw) (by simpa using b),List.filter_eq_self.mpr (fun _ _=>rfl)];rfl
theorem KR{mt:MT}{me:ME}{h:MH}(f:W->W)(p:W->Bool)(d:mi σ h=some (items,none,h))(a:∃o,Qed cp σ=o::caps)(b:∀w∈items,mt (some w::caps) h=some (p w,h))(e:∀w∈items,p w=true->me (some w::caps) h=some (f w,h))(c:items.length<=sizeLine) :
  Zg fin mi cp (Z0 0) mt me σ h=fin ((items.filter p).map f) h:=by
 obtain⟨o,a⟩:=a;unfold Zg;rw[d,Nq];simp only[a];rw[VV (p:=p) (f:=f) items [] o b e (by simpa using c)];simp
theorem JC(P:Nat->MSt->MH->Prop):∀(r:List W) (n:Nat) (σ:MSt) (h:MH),P n σ h ->
  (∀(j:Nat) (w:W),r[j]?=some w->∀σ h,P (n+j) σ h->∃σ1,b w σ h=some σ1/\∃a e,(body σ1 h=some (.nx a e)\/body σ1 h=some (.ct a e))/\P (n+j+1) a e) ->
  ∃c h',Xx items none b body r σ h=some (.nx c h')/\P (n+r.length) c h'
 |[],n,σ,h,d,_=>⟨σ,h,Qdc,d⟩
 | w::r,n,σ,h,d,f=>by
  obtain⟨σ1,e1,a,e,e2,i⟩:=f 0 w rfl σ h d
  obtain⟨c,h',m,g⟩:=JC (items:=items) (b:=b) (body:=body) P r (n+1) a e i fun j x l σ h d=>by
   have:=f (j+1) x (by simpa using l) σ h (by rw[show n+(j+1)=n+1+j by lia];exact d);rw[show n+(j+1)+1=n+1+j+1 by exact LG _ _ _]at this;exact this
  refine⟨c,h',?_,by rw[Es,show n+(r.length+1)=n+1+r.length by lia];exact g⟩;rw[Xx,if_pos (Jc _ _),e1,Nq]
  rcases e2 with e2|e2<;>rw[e2]<;>exact m
noncomputable def eqS(y:Str)(p:W×MH):Option (Bool×MH):=@ob _ _ asB (wEq p.1 (.str y) p.2)
noncomputable def eqN(j:Int)(p:W×MH):Option (Bool×MH):=@ob _ _ asB (wEq p.1 (.int j) p.2)
@[simp 650]theorem QkI:Qr (Qc wEq a (mC (.str y))) σ h=@ob _ _ (eqS y) (a σ h):=by
 unfold Qr Qc mC eqS ob;cases a σ h<;>rfl
@[simp 650]theorem QkM:Qr (Qc wEq a (mC (.int j))) σ h=@ob _ _ (eqN j) (a σ h):=by
 unfold Qr Qc mC eqN ob;cases a σ h<;>rfl
@[simp]theorem Qjl:eqS y (.str x,h)=some (x==y,h):=by unfold eqS;rw[Qkd];rfl
@[simp]theorem Qje:eqN j (.int i,h)=some (i==j,h):=by unfold eqN;rw[QjV];rfl
end Mi
namespace Mi
open L2
noncomputable def Qln(ws:List W)(h:MH):Option (W×MH):=match ws with
 |[.tup ws]=>some (.ref h.length,h++[.lst ws])
 |[a]=>(lsW h a).map fun ws=>(.ref h.length,h++[.lst ws])
 |_=>none
noncomputable def QmC(a:W)(ws:List W)(h:MH):Option (W×MH):=match a,ws with
 |.ref n,[.int 0]=>match h[n]? with|some (.lst (x::b))=>some (x,h.set n (.lst b))|_=>none
 |_,_=>none
section
open PySem.AutoSeq1
theorem Qag(l:Addr)(c:Array Value)(n:Nat)(b:Addr)(a:Array Value)(r:Nat)(e:Obj)(u:e.cls=.type "tuple")(hd:e.data=.seq a r)(t:¬(!c.isEmpty&&Builtin.List.listTooLong (c.size+a.size))=true)(j:c.size<=sizeLine)(i:c.size+a.size<=sizeLine+1) :
  Meets (Builtin.«list.extend» ⟨[.ref l,.ref b],[]⟩) (fun _ R s=>s.heap.get? l=some { cls:=.type "list",dict:=none,data:=.seq c n,slots:=#[] }/\s.heap.get? b=some e /\
   R (.ok (.ret Value.none)) { s with heap:=s.heap.update l (Obj.mapSeq fun x=>x++a),toks:=s.toks }):=
 .of_wp fun m w A R s h=>by
  obtain⟨H,G,y,q⟩:=e;subst u hd;obtain⟨C,g,d,z,os⟩:=s;obtain⟨o,v,h⟩:=h;have f1:=idx_int;have f2:=AutoSeq1.sub_tuple_tuple;have F:=AutoSeq1.sub_list_list;have E:=AutoSeq1.sub_tuple_list;have D:=AutoSeq1.sub_list_tuple;have f:(c++a).size<=sizeLine+1:=by rw[Array.size_append];exact i
  wp_walk using(IB o rfl (hz:=j) (_hz':=f)),ET o,ET v
  exact⟨_,rfl,h⟩
end
section
variable{X:Cx}
theorem QaM:MtM X "list.extend" (fun x i H Q=>∃l b xs g,x=.ref l/\i=[.ref b]/\H l=some (.lst xs)/\SqT X.K H b g/\xs.length+g.length<=sizeLine/\Q .non (upd H l (.lst (xs++g)))):=by
 intro m s L H x i v M Q I w y h;obtain⟨l,b,xs,g,rfl,rfl,t,J,D,q⟩:=h;cases w;obtain⟨u,rfl,A⟩:=y.one;cases A;obtain⟨z,c,n,r,F,e⟩:=I.lstM t;obtain⟨a,j,⟨B,e2,G,C,hd⟩,E⟩:=I.tuple J;have p:=j.length;have f:c.toArray.size+a.toArray.size<=sizeLine:=by rw[Nh,Nh];lia
 have d:¬(!c.toArray.isEmpty&&Builtin.List.listTooLong (c.toArray.size+a.toArray.size))=true:=by
  rw[Gw f,E1];exact N9
 refine E5 DD ⟨_,e,rfl⟩ Lq (Lb _ _)
  (Qag l c.toArray n b a.toArray C B G hd d (by rw[Nh];exact Nn (Nx F.symm) z) (Nn f (NJ _ _))) ⟨e,e2,?_⟩
 refine⟨.non,_,I.lset (its':=c++a) t e (by simp) (r.append j) ?_,rfl,q⟩;rw[NC];exact D
noncomputable def Kt(a:W)(ws:List W)(h:MH):Option (W×MH):=match a,ws with
 |.ref n,[.tup b]=>match h[n]? with|some (.lst c)=>if c.length+b.length<=sizeLine then some (.non,h.set n (.lst (c++b)))else none|_=>none
 |_,_=>none
theorem UV:Qfo X "list.extend" Kt:=by
 intro b s j H x o v p Q I t u q;refine QaM b s j H x o v p Q I t u ?_;obtain⟨R,h,a,J,w,L,d,z,c,e,k⟩:=q;unfold Kt at e;split at e
 ·rename_i n F;split at e
  ·rename_i G A;split at e
   ·rename_i B;cases e;obtain⟨f,rfl,m,D,i⟩:=d.refAt z A;obtain⟨y,rfl,r⟩:=GW c;obtain⟨E,l,rfl,C,g⟩:=d.tupAt r;refine⟨_,E,m,l,rfl,rfl,D,C,by rw[<-i.length,<-g.length];exact B,?_⟩;exact k R _ _ (Ext.refl _) (d.put f ⟨_,rfl,Rws.append i g⟩) Rw.non
   ·cases e
  ·cases e
 ·cases e
@[simp]theorem Qhw:Kt (.ref n) [.tup a] h=match h[n]? with|some (.lst xs)=>if xs.length+a.length<=sizeLine then some (.non,h.set n (.lst (xs++a)))else none|_=>none:=id rfl
end
end Mi
namespace L2
section
variable{X:Cx}{pins:List (Addr×Obj)}{σ:St}{H:Hp}{s:Shared}{h':Heap}{t':Nat}{ch:List Addr}
theorem Inv.turnedL(I:Inv X pins σ H s)(k:∀b o,b∉ch->s.heap.get? b=some o->h'.get? b=some o)(f:∀b∈ch,QaN X pins H b)(d:∀b u,H b=some u->i b=some u)(x:∀b o,s.heap.get? b=some o->H b=none->i b=none)
  (new:∀b u,H b=none->i b=some u->ObjOk X.prog X.w i h' b u):Inv X pins σ i { s with heap:=h',toks:=t' }:=by
 have g:∀b u,H b=some u->b∉ch:=fun b u e z=>by rw[(f b z).1]at e;cases e
 refine I.step (g':=s.gens) (d':=s.drawn) (ch:=ch) (fun b h=>⟨(f b h).2.2.2.1,(f b h).2.1,(f b h).2.2.2.2.1,(f b h).2.2.2.2.2⟩) (fun b o _ _ a e _=>k b o a e) (fun b o _ _ a e _=>⟨o.slots,k b o a e⟩) (fun b o _ e n=>x b o e n)
  (fun b o a e=>⟨o,k b o a e⟩) (fun b j e=>d b _ e) (fun b o u e=>d b _ e) (fun b ps e=>⟨#[],by rw[d b _ e];simp⟩) (fun m y=>?_) (fun b u e=>?_) I.bare
 ·obtain⟨o,A,B,t,r⟩:=y;exact⟨o,A,B,k _ o (fun z=>(f _ z).2.1 rfl) t,r⟩
 ·cases q:H b with
  |none=>exact new b u q e
  |some l=>
   rw[d b l q]at e;cases e;refine(I.hok b _ q).stay (fun c v a p=>k c v ?_ p) (fun c z=>d c _ z) fun c j z=>d c _ z
   rcases a with z|z
   ·rw[z];exact g b _ q
   ·exact g c _ z
theorem Inv.turnedN(I:Inv X pins σ H s)(k:∀b o,b∉ch->s.heap.get? b=some o->h'.get? b=some o)(d:∀b∈ch,QaN X pins H b)(a:s.heap.objs.size<=T)(new:ObjOk X.prog X.w (upd H T (.tup xs)) h' T (.tup xs)) :
  Inv X pins σ (upd H T (.tup xs)) { s with heap:=h',toks:=t' }:=by
 have c:=I.hok.fresh a;refine I.turnedL k d (fun b u e=>by rw[Qy (Jv e c)];exact e) (fun b o e n=>by rw[Qy (fun z=>by rw[z]at e;exact absurd (Nz e) (N4.mpr a))];exact n) fun b u n e=>?_
 by_cases z:b=T
 ·subst z;rw[Jm]at e;cases e;exact new
 ·rw[Qy z,n]at e;cases e
end
end L2
namespace St
theorem Yf(t:SetTable)(n:Nat):(t.orStandIn n).led=t.led/\(t.plain=false->(t.orStandIn n).plain=false):=by
 unfold SetTable.orStandIn;split
 ·exact⟨rfl,id⟩
 ·exact⟨rfl,fun _=>rfl⟩
theorem U6(t:SetTable)(es:Array (Int×Value))(g:Int)(x:Value):(layNew t es g x).2.1.led=t.led/\(t.plain=false->(layNew t es g x).2.1.plain=false):=by
 unfold layNew;split
 ·exact Yf _ _
 ·exact⟨rfl,fun _=>rfl⟩
theorem QcB(e:SetTable.laid m f v l p a=some r):r.1.led=l/\r.1.plain=p:=by
 unfold SetTable.laid at e;obtain⟨o,_,e2⟩:=Nc.mp e;cases e2;exact⟨rfl,rfl⟩
theorem Y9(t:SetTable)(es:Array (Int×Value))(n:Nat):(relayAll t es n).2.1.led=t.led/\(t.plain=false->(relayAll t es n).2.1.plain=false):=by
 unfold relayAll;split
 ·rename_i c d e;have a:=QcB e;dsimp only;split
  ·exact⟨a.1,fun b=>a.2.trans b⟩
  ·exact⟨rfl,fun _=>rfl⟩
 ·exact⟨rfl,fun _=>rfl⟩
section
variable{prog:Program}{w:World}{A:Around}{E:Value->Shared->Prop}{s:Shared}
def SetL(prog:Program)(w:World)(h:Heap)(a:Addr)(ks:List Str)(led:Bool):Prop:=
 ∃o b c t,h.get? a=some o/\o.ExactSet/\o.data=.set b c t/\ElemsOf (strKind prog w) b.toList/\b.size<scanBound/\t.fits b.size=true/\t.led=led/\(b.size=0\/t.plain=false)/\ks.Nodup/\b.size=ks.length/\∀k,k∈ks↔∃e∈b.toList,(strKind prog w).is k e.2=true
theorem SetL.at{h h':Heap}{a:Addr}{ks:List Str}{led:Bool}(x:SetL prog w h a ks led)(e:∀o,h.get? a=some o->h'.get? a=some o):SetL prog w h' a ks led:=by obtain⟨o,c,d,t,b,r⟩:=x;exact⟨o,c,d,t,e _ b,r⟩
theorem SetL.lt{h:Heap}{a:Addr}{ks:List Str}{led:Bool}(x:SetL prog w h a ks led):a<h.objs.size:=by obtain⟨_,_,_,_,b,_⟩:=x;exact Nz b
theorem SetL.typeIs{a:Addr}{ks:List Str}{led:Bool}(x:SetL prog w s.heap a ks led):s.TypeIs (.ref a) "set":=by obtain⟨o,_,_,_,c,b,_⟩:=x;exact⟨o,c,b.1⟩
theorem stored{h:Heap}{o:Obj}(f:h.get? a=some o)(d:o.ExactSet)(hd:o.data=.set es p t)(h1:ElemsOf (strKind prog w) es'.toList)(n:es'.size<scanBound)(m:t'.fits es'.size=true)(l:es'.size=0\/t'.plain=false)(j:ks.Nodup)(i:es'.size=ks.length)(g:∀k,k∈ks↔∃e∈es'.toList,(strKind prog w).is k e.2=true) :
  (h.update a (Obj.putSet es' t')).get? a=some (Obj.putSet es' t' o)/\(Obj.putSet es' t' o).ExactSet/\(∃b,(Obj.putSet es' t' o).data=.set es' b t')/\SetL prog w (h.update a (Obj.putSet es' t')) a ks t'.led:=by
 have g1:(h.update a (Obj.putSet es' t')).get? a=some (Obj.putSet es' t' o):=Ea _ f (by rw[putSet_of es' t' hd];rfl);have g2:(Obj.putSet es' t' o).ExactSet:=by rw[putSet_of es' t' hd];exact d
 have g3:∃b,(Obj.putSet es' t' o).data=.set es' b t':=by rw[putSet_of es' t' hd];exact⟨_,rfl⟩
 obtain⟨b,c⟩:=g3;exact⟨g1,g2,⟨b,c⟩,_,es',b,t',g1,g2,c,h1,n,m,rfl,l,j,i,g⟩
theorem G4(x:Str)(c:Tok):(strKind prog w).is x (.str x c)=true:=by
 show Value.isStrOf x (.str x c)=true;simp[Value.isStrOf]
theorem Qk1{a:Addr}{ks:List Str}{led:Bool}{x:Str}{c:Tok}{Q:Bool->Shared->Prop}(hS:SetL prog w s.heap a ks led)(room:ks.length+1<scanBound)
  (h:∀b h',Heap.SameBut a s.heap h'->SetL prog w h' a (if x∈ks then ks else ks++[x]) led->Q b { s with heap:=h' }) :
  wpAny (model prog w) A (setAddHashed a (.str x c) ((strKind prog w).hash x)) Q E s:=by
 obtain⟨o,I,ep,t,S,hx,hd,y,hb,hf,m,aa,T,hn,i⟩:=hS;have Z:(strKind prog w).is x (.str x c)=true:=G4 x c;have G:(Value.str x c).scannable=true:=rfl;have quiet:∀(b:Bool) {B:Shared} {D:Unit->Shared->Prop},D () B->wpAny (model prog w) A (match b with|true=>rule "set.scan.the-table-gave-way"|false=>pure ()) D E B:=fun b _ _ q=>by cases b<;>first|exact Ng q|exact D5 q
 unfold setAddHashed setAddHashedIn;refine N6 (Na (NO S hd hf ?_));dsimp only;rw[byScan_of G hb y,if_pos rfl];unfold setAddByScan;refine Na (Na (D5 (Na (wpAny_setScan_of Z S hd hf y ?_))));cases hr:List.findIdx? (fun e=>(strKind prog w).is x e.2) I.toList with
 |some j=>
  obtain⟨hj,pj,_⟩:=Ff.mp hr;have f:x∈ks:=(i x).mpr ⟨I.toList[j],Ij hj,pj⟩;refine Ng (Ng ?_);have q:=h false s.heap (Dg a s.heap) ⟨o,I,ep,t,S,hx,hd,y,hb,hf,m,aa,by rw[if_pos f];exact T,by rw[if_pos f];exact hn,by rw[if_pos f];exact i⟩;exact q
 | none=>
  have f:x∉ks:=fun f=>by
   obtain⟨e,z,p⟩:=(i x).mp f;have:=F9.mp hr e z;rw[p]at this;cases this
  rw[if_neg f]at h;have pm:=layNew_perm t I ((strKind prog w).hash x) (.str x c);have ft:=layNew_fits t I ((strKind prog w).hash x) (.str x c);have Y:=U6 t I ((strKind prog w).hash x) (.str x c);dsimp only;generalize layNew t I ((strKind prog w).hash x) (.str x c)=L at pm ft Y ⊢;obtain⟨d,t1,ab,gv⟩:=L;dsimp only at pm ft Y ⊢;rw[LY]at pm;have X:ElemsOf (strKind prog w) d.toList:=(y.push Z G).perm pm;have F:d.size=(ks++[x]).length:=by rw[<-NA,pm.length_eq,NC,NA,NC,hn];rfl
  have b1:d.size<scanBound:=by rw[F,NC,EA];exact room
  have P:(ks++[x]).Nodup:=by
   rw[DA];exact⟨T,by simp,fun u hu v hv e=>f (by rw[NE.mp hv]at e;rw[<-e];exact hu)⟩
  have C:∀k,k∈ks++[x]↔∃e∈d.toList,(strKind prog w).is k e.2=true:=fun k=>by
   rw[NI,NE,i k];constructor
   ·rintro(⟨e,z,p⟩|rfl)
    ·exact⟨e,pm.mem_iff.mpr (N7 _ z),p⟩
    ·exact⟨_,pm.mem_iff.mpr (NF _ (NE.mpr rfl)),Z⟩
   ·rintro⟨e,z,p⟩
    rcases NI.mp (pm.mem_iff.mp z)with q|q
    ·exact .inl ⟨e,q,p⟩
    ·rw[NE.mp q]at p;exact .inr ((strKind prog w).inj _ _ _ p Z)
  have fin:∀(g:SetTable),g.fits d.size=true->g.led=led->g.plain=false->wpAny (model prog w) A (do
    storeSet a d g
    if(!ab&&g.tooFull)=true then do
      (match (relayAll g d (SetTable.grown d.size)).2.2 with|true=>rule "set.scan.the-table-gave-way"|false=>pure ())
      storeSet a (relayAll g d (SetTable.grown d.size)).1 (relayAll g d (SetTable.grown d.size)).2.1
      pure (some true)
     else pure (some true)) (fun r N=>∃v,r=some v/\∃h',Heap.SameBut a s.heap h'/\SetL prog w h' a (ks++[x]) led/\N={ s with heap:=h' }) E s:=by
   intro g f2 l2 p2;refine Na (Fc S hd ?_ (F5 b1));obtain⟨g1,g2,⟨af,g3⟩,g4⟩:=stored (prog:=prog) (w:=w) S hx hd X b1 f2 (.inr p2) P F C;rw[l2]at g4;have sb:=NV s.heap a (Obj.putSet d g);split
   ·have l:=relayAll_perm g d (SetTable.grown d.size);have H:=relayAll_fits g d (SetTable.grown d.size);have n:=Y9 g d (SetTable.grown d.size);generalize relayAll g d (SetTable.grown d.size)=R at l H n ⊢;obtain⟨U,t3,ae⟩:=R;dsimp only at l H n ⊢;have M:U.size=d.size:=by rw[<-NA,l.length_eq,NA]
    have b2:U.size<scanBound:=by rw[M];exact b1
    refine Na (quiet _ (Na (Fc g1 g3 (Ng ⟨true,rfl,_,sb.trans (NV _ a _),?_,rfl⟩) (F5 b2))));obtain⟨_,_,_,g5⟩:=stored (prog:=prog) (w:=w) (ks:=ks++[x]) g1 g2 g3 (X.perm l) b2 H (.inr (n.2 p2)) P (M.trans F) (fun k=>(C k).trans ⟨fun⟨e,z,q⟩=>⟨e,l.mem_iff.mpr z,q⟩,fun⟨e,z,q⟩=>⟨e,l.mem_iff.mp z,q⟩⟩);rw[n.1,l2]at g5;exact g5
   ·exact Ng ⟨true,rfl,_,sb,g4,rfl⟩
  have O:∀r N,(∃v,r=some v/\∃h',Heap.SameBut a s.heap h'/\SetL prog w h' a (ks++[x]) led/\N={ s with heap:=h' })->wpAny (model prog w) A (match r with|some J=>pure J|none=>setAddHashedIn a (.str x c) ((strKind prog w).hash x) 99999) Q E N:=by
   rintro r N ⟨v,rfl,h',q1,q2,rfl⟩
   exact Ng (h v h' q1 q2)
  refine Na (quiet _ ?_);cases hp:t1.plain with
  |true=>
   rw[if_pos rfl,hashByValue_scannable 8 G];refine Na (Ng ?_);exact NZ (fin { t1 with plain:=false } (SetTable.fits_plain_off ft) (Y.1.trans m) rfl) O fun _ _ q=>q
  |false=>
   rw[if_neg (by simp)];refine Na (Ng ?_);exact NZ (fin t1 ft (Y.1.trans m) hp) O fun _ _ q=>q
end
noncomputable def uniq(l:List Str):List Str:=l.foldl (fun u x=>if x∈u then u else u++[x]) []
theorem uniq_snoc(l:List Str)(x:Str):uniq (l++[x])=if x∈uniq l then uniq l else uniq l++[x]:=by unfold uniq;rw[List.foldl_append];rfl
theorem Ww:∀(n:Nat) (l:List Str),l.length=n->(uniq l).length<=n:=by
 intro n
 induction n with
 |zero=>intro l h;rw[NT.mp h];exact Nw _
 |succ n a=>
  intro l h;obtain⟨u,x,rfl⟩:∃u x,l=u++[x]:=⟨l.dropLast,l.getLast (fun z=>by rw[z]at h;cases h),(E2 _).symm⟩
  rw[uniq_snoc];have:=a u (by simp at h;exact h);split
  ·exact Nn this (NJ _ _)
  ·rw[NC,EA];exact Nat.add_le_add_right this _
theorem uniq_mem:∀(n:Nat) (l:List Str),l.length=n->∀y,y∈uniq l↔y∈l:=by
 intro n
 induction n with
 |zero=>intro l h y;rw[NT.mp h];exact Iff.rfl
 |succ n a=>
  intro l h y;obtain⟨u,x,rfl⟩:∃u x,l=u++[x]:=⟨l.dropLast,l.getLast (fun z=>by rw[z]at h;cases h),(E2 _).symm⟩
  have q:=a u (by simp at h;exact h);rw[uniq_snoc,NI,NE];split
  ·rename_i b;rw[q y];exact⟨.inl,fun z=>z.elim id fun e=>by rw[e];exact(q x).mp b⟩
  ·rw[NI,NE,q y]
section
variable{prog:Program}{w:World}{A:Around}{R:Result->Shared->Prop}{I:Addr}{fp wr:List Addr}{G:Array GenState->Array GenState->Prop}{n:Nat}{P:Nat->Value->Prop}{St':Nat->Shared->Prop}
theorem Qke(W:WalksS prog w A.in1 I fp wr G n P St')(S:Addr)(f:S∉fp)(led:Bool)(l:List Str)(H:l.length=n)(F:∀i v,P i v->∃x c,l[i]?=some x/\v=.str x c)(O:n+1<scanBound) :
  ∀(k i:Nat) (s:Shared),n-i=k->i<=n->St' i s->SetL prog w s.heap S (uniq (l.take i)) led ->
   (∀a,Moved (S::wr) G s a->SetL prog w a.heap S (uniq l) led->R (.ok (.ret .none)) a) ->
   codeAny (model prog w) A (.builtin "set.update.loop" ⟨[.ref S,.ref I],[]⟩) R s:=by
 have C:S∉wr:=fun z=>f (W.sub _ z);have sub:∀b∈wr,b∈S::wr:=fun b z=>Np _ z;intro k
 induction k with
 |zero=>
  intro i s J L st g u;obtain rfl:i=n:=by lia
  refine Dw Is ?_;rw[DH D7 _];show wpAny _ A.in1 (pyNext (.ref I)>>=_) _ _ s;refine Na (W.done s _ _ st fun a d=>Ng (u a (d.mono sub) ?_));rw[E6 (Nx H)]at g;exact g.at fun o e=>d.heap S _ C e
 | succ k D=>
  intro i s J L st g u;have lt:i<n:=by lia
  refine Dw Is ?_;rw[DH D7 _];show wpAny _ A.in1 (pyNext (.ref I)>>=_) _ _ s;refine Na (W.item i s _ _ lt st fun v a M h d=>?_);obtain⟨x,c,E,rfl⟩:=F i v M;have t:SetL prog w a.heap S (uniq (l.take i)) led:=g.at fun o e=>d.heap S _ C e;show wpAny _ A.in1 (holding [Value.str x c] (setAdd S (.str x c))>>=_) _ _ a;refine Na (N6 ?_);unfold setAdd;refine N6 (Na ((strKind prog w).pyHash (k:=x) (G4 x c) ?_))
  have room:(uniq (l.take i)).length+1<scanBound:=by
   have:=Ww _ (l.take i) rfl;rw[Ef]at this;lia
  refine Qk1 (s:={ a with toks:=a.toks+1 }) t room fun b N B r=>?_
  have p:SetL prog w N S (uniq (l.take (i+1))) led:=by
   rw[Dh,E,Option.toList_some,uniq_snoc];exact r
  refine Ng ⟨FU D7 _,D (i+1) _ (by lia) lt (W.frame _ a _ _ h (Ob _) fun b z o e=>?_) p fun j m q=>?_⟩
  ·exact(B.2 b (fun y:b=S=>f (by rw[<-y];exact z))).trans e
  ·refine u j (Moved.trans W.gtrans ((d.mono sub).then_heap (Ob _) fun b o z e=>?_) m) q;exact(B.2 b (fun y:b=S=>z (by rw[y];exact Nr))).trans e
end
section
variable{prog:Program}{w:World}{A:Around}{E:Value->Shared->Prop}{s:Shared}
noncomputable abbrev ledW(w:World):Bool:=!(w.params.followText "set-order")
noncomputable abbrev Qz(b:Bool):Obj:={ cls:=.type "set",dict:=none,data:=.set #[] 0 (.fresh 0 0 b) }
theorem QmJ(a:Value)(h:Q₁ (.ref s.heap.objs.size) { s with heap:=s.heap.push (Qz (ledW w)) }) :
  codeAny (model prog w) A (.call (.builtin "set.__new__") ⟨[.type "set",a],[]⟩) (wants Q₁ E) s:=by
 refine codeAny_of_tree (show wpAny _ A.in1 (do checkBuiltinCall "set.__new__" ⟨[.type "set",a],[]⟩;again (.builtin "set.__new__" ⟨[.type "set",a],[]⟩)) _ _ s from ?_);refine Na (ER (F.newCall_set_1 a) (Ng ⟨FU Ox _,Dw (F.entry_set_new) ?_⟩));rw[DH Ox _];unfold Builtin.«set.__new__» Builtin.Frozenset.newClass;have b:=LH;obtain⟨e,g,d,c,os⟩:=s;dsimp only
 wp_walk
 refine Et (Ng ?_);dsimp only;simp only[newObj];exact Na (wpAny_alloc (Ng (Ng h)))
theorem Yv(e:h.get? a=some (Qz b)):SetL prog w h a [] b:=
 ⟨_,#[],0,_,e,⟨rfl,rfl,rfl⟩,rfl,fun x c=>by simp at c,by decide,rfl,rfl,.inl rfl,Dm,rfl,fun k=>by simp⟩
theorem Qjb{Q:Value->Shared->Prop}(P:A.handled=none)(O:s.heap.IsList l items)(D:StrsAre items.toList ss)(R:items.size+1<scanBound)
  (h:∀(h':Heap) (tk:Nat),SetL prog w h' s.heap.objs.size (uniq ss) (ledW w)->(∀b o,b<s.heap.objs.size->s.heap.get? b=some o->h'.get? b=some o)->Q (.ref s.heap.objs.size) { s with heap:=h',toks:=tk }) :
  wpAny (model prog w) A (Builtin.«set.__init__» ⟨[.ref s.heap.objs.size,.ref l],[]⟩) (fun fin u=>fin=.done (.ret .none)/\Q (.ref s.heap.objs.size) u) E { s with heap:=s.heap.push (Qz (ledW w)) }:=by
 have J:(s.heap.push (Qz (ledW w))).get? s.heap.objs.size=some (Qz (ledW w)):=Ny _ rfl;have hT:Shared.TypeIs { s with heap:=s.heap.push (Qz (ledW w)) } (.ref s.heap.objs.size) "set":=⟨_,J,rfl⟩
 obtain⟨ol,j,q,nl,p⟩:=O;obtain⟨I,f,z,a⟩:=ol;simp only at q p;subst q p;have g:(s.heap.push (Qz (ledW w))).get? l=some { cls:=.type "list",dict:=f,data:=.seq items nl,slots:=a }:=Ni _ j;have n:(s.heap.push (Qz (ledW w))).IsList l items:=⟨_,g,rfl,nl,rfl⟩
 have n1:=F.sub_list_set;have n2:=F.sub_list_frozenset;have Z:(Value.type "list"==Value.type "dict")=false:=by decide
 unfold Builtin.«set.__init__» noKeywords Builtin.Frozenset.updateFrom;generalize H:pyIter=PI
 wp_walk
 subst H;refine Fb n (Na (wpAny_runValue ?_));have m:l<s.heap.objs.size:=Nz j;have d:(s.heap.push (Qz (ledW w))).objs.size=s.heap.objs.size+1:=FJ _ _;have B:l≠(s.heap.push (Qz (ledW w))).objs.size:=by rw[d];exact NS (Fd m)
 have M:s.heap.objs.size∉[(s.heap.push (Qz (ledW w))).objs.size,l]:=by
  rw[d];simp only[Nv,NQ,or_false,not_or];exact⟨NS (EJ _),DT m⟩
 have C:ss.length=items.size:=by have:=FL D;rw[NA]at this;exact this.symm
 have N:∀(i:Nat) (v:Value),items[i]?=some v->∃x c,ss[i]?=some x/\v=.str x c:=fun i v e=>by
  have L:items.toList[i]?=some v:=by rw[N3];exact e
  obtain⟨x,c,rfl⟩:=D.all v (ND.mpr ⟨i,L⟩);refine⟨x,c,?_,rfl⟩;rw[<-D.strs,Nu,L];rfl
 refine Qke ((Walks.list (show A.in1.handled=none by simp[P]) _ l B items).toS) s.heap.objs.size M (ledW w) ss C N R (items.size-0) 0 _ rfl (Ei _) ⟨⟨_,Ny _ rfl,rfl,rfl⟩,n.push _⟩ (Yv (Ni _ J)) fun u r G=>?_;obtain⟨h',S,Y,t,y⟩:=u;have U:S=s.gens:=r.gens;have X:Y=s.drawn:=r.drawn;have T:y=s.os:=r.os;subst U X T;refine Ng (Ng ⟨rfl,h h' t G fun b o lt e=>?_⟩);refine r.heap b o ?_ (Ni _ (Ni _ e));simp only[Nv,NQ,or_false,not_or];exact⟨NS lt,by rw[d];exact NS (Fd lt)⟩
theorem set_list(v:A.handled=none)(t:s.heap.IsList l items)(u:StrsAre items.toList ss)(x:items.size+1<scanBound)
  (h:∀(h':Heap) (tk:Nat),SetL prog w h' s.heap.objs.size (uniq ss) (ledW w)->(∀b o,b<s.heap.objs.size->s.heap.get? b=some o->h'.get? b=some o)->Q (.ref s.heap.objs.size) { s with heap:=h',toks:=tk }) :
  wpAny (model prog w) A (call (.type "set") [.ref l]) Q E s:=by
 have body:∀(j:Around),j.handled=none->wpAny (model prog w) j (Builtin.«set.__init__» ⟨[.ref s.heap.objs.size,.ref l],[]⟩) (fun fin m=>fin=.done (.ret .none)/\Q (.ref s.heap.objs.size) m) E { s with heap:=s.heap.push (Qz (ledW w)) }:=by
  intro j B;exact Qjb B t u x h
 obtain⟨c,D,n⟩:=Dn.mro;have N:=Dn.made;have M:=Dn.sub;refine wpAny_call (codeAny_of_tree (show wpAny _ _ (callAny (.type "set") _) _ _ _ from ?_));refine Ng ⟨LI _ (by decide +kernel),Dw (F.entry_type_call) ?_⟩;rw[Around.under_plain (weight_type_call_type "set" [Value.ref l] []) rfl];have L:=Dn.notType;have J:=Dn.canCreate;have I:=F.typeCall_set_1 (Value.ref l)
 repeat (any_goals (first|assumption|wp_step))
 refine DU (QmJ (Value.ref l) (E:=E) (Q₁:=fun obj f=>obj=.ref s.heap.objs.size/\f={ s with heap:=s.heap.push (Qz (ledW w)) }) ⟨rfl,rfl⟩) fun r f hr=>?_;cases r with
 |error e=>exact hr
 | ok C=>
  cases C with
  | ret obj=>
   obtain⟨rfl,rfl⟩:=hr;have z:(s.heap.push (Qz (ledW w))).get? s.heap.objs.size=some (Qz (ledW w)):=Ny _ rfl;have y:Shared.TypeIs { s with heap:=s.heap.push (Qz (ledW w)) } (.ref s.heap.objs.size) "set":=⟨_,z,rfl⟩
   have H:=Dn.init.lookup;have G:=Dn.init.bind (.ref s.heap.objs.size)
   repeat (any_goals (first|assumption|wp_step))
   refine DU (codeAny_call_builtin (R:=wants (fun r d=>r=.none/\Q (.ref s.heap.objs.size) d) E) Dn.init.plain F.entry_set_init (check_set_init_1 y (NZ (body _ (by simp[v])) (fun fin m q=>?_) fun _ _ q=>q))) fun i d a=>?_
   ·obtain⟨rfl,q⟩:=q;exact⟨rfl,q⟩
   ·cases i with
    |error e=>exact a
    | ok g=>
     cases g with
     |ret r=>
      obtain⟨rfl,q⟩:=a
      repeat (any_goals (first|assumption|wp_step))
     |_=>exact a.elim
  |_=>exact hr.elim
end
theorem slotN:Slot "set_iterator" "__next__" "set_iterator.__next__":=.of (owner:="set_iterator") (n:="__next__") (by rw[Dx,EM];kernel_rfl) (by decide +kernel) (by decide +kernel) (by decide +kernel) (by first|exact .inl (by decide +kernel)|exact .inr (by decide +kernel)) (by rw[E3];kernel_rfl)
theorem QeH:entryFor table "set_iterator.__next__"=some Builtin.«set_iterator.__next__»:=entryFor_of_tree (by kernel_rfl)
theorem QiI(a:Value):argsOk "set_iterator.__next__" ⟨[a],[]⟩:=by unfold argsOk;kernel_rfl
theorem QhD:entryFor table "set.__iter__"=some Builtin.«frozenset.__iter__»:=FN (id':="frozenset.__iter__") (by kernel_rfl) rfl (by decide +kernel) (by kernel_rfl)
theorem Yq(lt:j<l.length):List.Perm (l[j]::l.eraseIdx j) l:=by
 rw[List.eraseIdx_eq_take_drop_succ];have e:l=l.take j++l[j]::l.drop (j+1):=by rw[<-EQ lt,Ep]
 conv=>rhs;rw[e]
 exact Oj.symm
theorem Qbb(nx:Nat->Nat):∀(f k:Nat) (l:List a) (o:Array a),f=l.length->List.Perm (pickOrder.go nx f k l o).toList (o.toList++l)
 |0,k,l,o,h=>by
  rw[NT.mp h.symm,Du];exact .rfl
 |f+1,k,l,o,h=>by
  unfold pickOrder.go;have lt:nx k%l.length<l.length:=Ic _ (Nl (FC _) (Nx h));generalize nx k%l.length=j at lt;rw[Nk lt];refine(Qbb nx f (k+1) (l.eraseIdx j) (o.push l[j]) (by rw[FV lt];lia)).trans ?_;rw[LY,List.append_assoc,List.singleton_append];exact List.Perm.append_left _ (Yq lt)
theorem W5(nx:Nat->Nat)(xs:Array a):List.Perm (pickOrder nx xs).toList xs.toList:=by
 have:=Qbb nx xs.size 0 xs.toList #[] (by simp);simpa[pickOrder]using this
section
variable{prog:Program}{w:World}{A:Around}{E:Value->Shared->Prop}{s:Shared}
theorem Qhh(b:n≠0)(h:∀j d,j<n->Q j { s with drawn:=d }):wpAny M A (choose a n) Q E s:=fun c p _=>by
 show Sem.wp M c (.choose a n fun i=>pure i) _ _ p s;rw[Sem.wp_choose];exact⟨b,h _ _ (Ic _ (Nat.pos_of_ne_zero b))⟩
theorem Yb:∀(n:Nat) (xs:List c) (s:Shared) (Q:List c->Shared->Prop),n=xs.length->(∀b d,List.Perm b xs->Q b { s with drawn:=d })->wpAny (model prog w) A (drawOrder n xs) Q E s
 |0,xs,s,Q,a,h=>by
  have e:=NT.mp a.symm;subst e;exact Ng (h [] s.drawn .rfl)
 |n+1,[],s,Q,a,h=>by cases a
 |n+1,x::xs,s,Q,a,h=>by
  unfold drawOrder;refine Na (Qhh (by simp) fun j f lt=>?_);rw[Nk lt];refine Na (Yb n _ _ _ (by rw[FV lt];simp at a ⊢;exact a) fun b d p=>Ng (h _ d ?_));exact(p.cons _).trans (Yq lt)
end
end St
namespace Sb
open PySem SetTable
noncomputable abbrev At(xs:Array Nat)(i:Nat):Nat:=xs.getD i 0
def Up(xs:Array Nat):Prop:=∀i j,i<j->j<xs.size->At xs i<At xs j
theorem YV(up:Up xs):∀(f lo c:Nat),c-lo<=f->lo<=c->c<=xs.size->(∀i,i<lo->At xs i<j)->(∀i,c<=i->i<xs.size->j<=At xs i) ->
  below.go xs j f lo c<=xs.size/\(∀i,i<below.go xs j f lo c->At xs i<j)/\∀i,below.go xs j f lo c<=i->i<xs.size->j<=At xs i
 |0,lo,c,h1,q,m,l,h=>by
  have:lo=c:=by lia
  subst this;exact⟨m,l,h⟩
 | f+1,lo,c,h1,q,m,l,h=>by
  unfold below.go
  by_cases d:lo<c
  ·rw[if_pos d];have p:(lo+c)/2<xs.size:=by lia
   have e:xs.getD ((lo+c)/2) j=At xs ((lo+c)/2):=by simp[Array.getD,p]
   have rel:∀a b,a<=b->b<xs.size->At xs a<=At xs b:=fun a b o n=>by
    rcases DE a b with z|z
    ·exact N8 (up a b z n)
    ·rw[show a=b by exact Fx o z];exact Nw _
   dsimp only;rw[e]
   by_cases g:At xs ((lo+c)/2)<j
   ·rw[if_pos g];exact YV up f _ c (by omega) (by lia) m (fun i r=>NG (rel i _ (by lia) p) g) h
   ·rw[if_neg g];exact YV up f lo _ (by omega) (by lia) (N8 p) l (fun i o n=>Nn (N4.mp g) (rel _ i o n))
  ·rw[if_neg d];have:lo=c:=by exact Fx q (N4.mp d)
   subst this;exact⟨m,l,h⟩
theorem Kk(up:Up xs)(j:Nat):below xs j<=xs.size/\(∀i,i<below xs j->At xs i<j)/\∀i,below xs j<=i->i<xs.size->j<=At xs i:=
 YV up xs.size 0 xs.size (Fv _ _) (Ei _) (Nw _) (fun i h=>absurd h (Dv _)) (fun i b a=>by omega)
theorem below_next(up:Up xs)(a:i<xs.size):below xs (At xs i+1)=i+1:=by
 obtain⟨d,c,b⟩:=Kk up (At xs i+1)
 rcases Nat.lt_trichotomy (below xs (At xs i+1)) (i+1)with z|z|z
 ·have:=b i (by omega) a;lia
 ·exact z
 ·have:=c (i+1) z;have:=up i (i+1) (EJ _) (Nl z d);omega
theorem below_zero(up:Up xs):below xs 0=0:=by
 obtain⟨c,a,b⟩:=Kk up 0
 rcases Nat.eq_zero_or_pos (below xs 0)with z|z
 ·exact z
 ·exact absurd (a 0 z) (Dv _)
theorem at_get(a:i<xs.size):xs[i]?=some (At xs i):=by simp[Array.getD,a]
noncomputable def adv(m:Nat)(p:Probe):Probe:=
 if p.more>0 then { p with j:=p.j+1,more:=p.more-1 }else
 let(i,perturb):=leap m p.i p.perturb
 { p with j:=i,more:=runEnd m i-i,i,perturb }
noncomputable def sq(m:Nat)(h:Int):Nat->Probe
 |0=>{ j:=bits h%(m+1),more:=runEnd m (bits h%(m+1))-bits h%(m+1),i:=bits h%(m+1),perturb:=bits h,dummy:=none }
 |n+1=>adv m (sq m h n)
noncomputable abbrev sj(m:Nat)(h:Int)(n:Nat):Nat:=(sq m h n).j
noncomputable def bk(m:Nat)(h:Int):Nat->Nat×Nat
 |0=>(bits h%(m+1),bits h)
 |k+1=>leap m (bk m h k).1 (bk m h k).2
noncomputable def ps(m:Nat)(h:Int):Nat->Nat
 |0=>0
 |k+1=>ps m h k+(runEnd m (bk m h k).1-(bk m h k).1)+1
theorem Qch(m:Nat)(h:Int)(n i a:Nat)(e:sq m h n={ j:=i,more:=runEnd m i-i,i:=i,perturb:=a,dummy:=none }):∀c,c<=runEnd m i-i->sq m h (n+c)={ j:=i+c,more:=runEnd m i-i-c,i:=i,perturb:=a,dummy:=none }
 |0,_=>e
 |c+1,b=>by
  rw[show n+(c+1)=(n+c)+1 from rfl];show adv m (sq m h (n+c))=_;rw[Qch m h n i a e c (N8 b)];unfold adv;rw[if_pos (by show runEnd m i-i-c>0;omega)];rfl
theorem QhF(m:Nat)(h:Int):∀k,sq m h (ps m h k)={ j:=(bk m h k).1,more:=runEnd m (bk m h k).1-(bk m h k).1,i:=(bk m h k).1,perturb:=(bk m h k).2,dummy:=none }
 |0=>rfl
 |k+1=>by
  show adv m (sq m h (ps m h k+(runEnd m (bk m h k).1-(bk m h k).1)))=_;rw[Qch m h _ _ _ (QhF m h k) _ (Nw _)];unfold adv;rw[if_neg (by show¬(runEnd m (bk m h k).1-(bk m h k).1-(runEnd m (bk m h k).1-(bk m h k).1)>0);lia)];rfl
theorem Qgc(m:Nat)(h:Int)(k c:Nat)(a:c<=runEnd m (bk m h k).1-(bk m h k).1):sj m h (ps m h k+c)=(bk m h k).1+c:=by
 show(sq m h (ps m h k+c)).j=_;rw[Qch m h _ _ _ (QhF m h k) c a]
theorem Gf(m i:Nat):i<=runEnd m i:=by unfold runEnd;split<;>lia
theorem Qba(a:i<=m):runEnd m i<=m:=by unfold runEnd;split<;>omega
theorem Qgd(m:Nat)(h:Int):∀k,(bk m h k).1<=m
 |0=>Fa (Ic _ (FC _))
 |k+1=>Fa (Ic _ (FC _))
theorem Qg2(m:Nat)(h:Int):∀k,(bk m h k).2=bits h/32^k
 |0=>(Nat.div_one _).symm
 |k+1=>by
  show(bk m h k).2/32=_;rw[Qg2 m h k,Nat.div_div_eq_div_mul,Nat.pow_succ]
theorem Qfb(h:Int):bits h<2^64:=by
 unfold bits;have:=NM h (show(0:Int)<2^64 by decide);have:=NR h (show((2:Int)^64)≠0 by decide);lia
theorem Qhs(m:Nat)(h:Int)(a:13<=k):(bk m h k).2=0:=by
 rw[Qg2];apply Nat.div_eq_of_lt;have:=Qfb h;have c:32^13<=32^k:=Nat.pow_le_pow_right (by decide) a;have b:(2:Nat)^64<=32^13:=by decide
 exact Nl (Nl this b) c
noncomputable def lcg(m:Nat):Nat->Nat->Nat
 |0,i=>i
 |r+1,i=>(lcg m r i*5+1)%(m+1)
theorem Qeq(m:Nat)(h:Int):∀r,(bk m h (12+r)).1=lcg m r (bk m h 12).1
 |0=>rfl
 |r+1=>by
  show((bk m h (12+r)).1*5+1+(bk m h (12+r)).2/32)%(m+1)=_;rw[Qeq m h r];have:(bk m h (12+r)).2/32=0:=Qhs m h (k:=12+r+1) (by lia);rw[this];rfl
theorem Kx(m:Nat)(a i:Nat):∀b,lcg m (a+b) i=lcg m b (lcg m a i)
 |0=>rfl
 |b+1=>by
  show(lcg m (a+b) i*5+1)%(m+1)=_;rw[Kx m a i b];rfl
noncomputable def orb(m:Nat):Nat->Nat->List Nat
 |0,_=>[]
 |r+1,i=>i::orb m r ((i*5+1)%(m+1))
theorem Qgk(m i:Nat):lcg m 1 i=(i*5+1)%(m+1):=rfl
theorem Qcb(m:Nat):∀(r i x:Nat),x∈orb m r i->∃b,b<r/\lcg m b i=x
 |0,_,_,h=>nomatch h
 |r+1,i,x,h=>by
  rcases Nv.mp h with rfl|h
  ·exact⟨0,by exact FC _,rfl⟩
  ·obtain⟨b,a,e⟩:=Qcb m r _ x h;refine⟨1+b,by lia,?_⟩;rw[Kx,Qgk];exact e
def Full(m:Nat):Prop:=(List.range (m+1)).all (fun x=>(orb m (m+1) 0).contains x)=true/\lcg m (m+1) 0=0
theorem full7:Full 7:=by unfold Full;decide +kernel
theorem full31:Full 31:=by unfold Full;decide +kernel
theorem G6(F:Full m)(a:x<=m):∃b,b<m+1/\lcg m b 0=x:=by
 have:=NP.mp F.1 x (NU.mpr (NG a (EJ _)));rw[IU]at this;exact Qcb m _ _ _ this
theorem Qfl(F:Full m)(d:i<=m)(c:x<=m):∃r,r<m+1/\lcg m r i=x:=by
 obtain⟨a,f,rfl⟩:=G6 F d;obtain⟨b,e,rfl⟩:=G6 F c
 by_cases h:a<=b
 ·exact⟨b-a,by exact NG (Fv _ _) e,by rw[<-Kx];congr 1;exact FF h⟩
 ·refine⟨m+1-a+b,by lia,?_⟩;rw[<-Kx,show a+(m+1-a+b)=(m+1)+b by lia,Kx,F.2]
theorem QeW(F:Full m)(h:Int)(a:x<=m):∃k,k<=m+12/\(bk m h k).1=x:=by
 obtain⟨r,hr,e⟩:=Qfl F (Qgd m h 12) a;exact⟨12+r,by lia,(Qeq m h r).trans e⟩
theorem Qa9[BEq b][LawfulBEq b]:∀(l k:List b),l.Nodup->(∀x∈l,x∈k)->l.length<=k.length
 |[],_,_,_=>Ei _
 |x::l,k,a,c=>by
  rw[Ek]at a;have e:=c x Nr;have:=Qa9 l (k.erase x) a.2 fun y d=>(FD (fun z=>a.1 (by rw[<-z];exact d))).mpr (c y (Np _ d));rw[DZ e]at this;have:0<k.length:=IL e;simp only[Es];lia
theorem Qh6{l:List Nat}(b:l.length<=m):∃x,x<=m/\x∉l:=by
 refine EO fun z=>?_;have:=Qa9 (List.range (m+1)) l Ol fun x a=>EO fun y=>z ⟨x,by have:=NU.mp a;lia,y⟩;rw[F4]at this;exact DI b this
end Sb
namespace St
theorem Qef:Slot "set_iterator" "__iter__" "set_iterator.__iter__":=.of (owner:="set_iterator") (n:="__iter__") (by rw[Dx,EM];kernel_rfl) (by decide +kernel) (by decide +kernel) (by decide +kernel) (by first|exact .inl (by decide +kernel)|exact .inr (by decide +kernel)) (by rw[E3];kernel_rfl)
theorem Qgz:entryFor table "set_iterator.__iter__"=some Builtin.«dict_keyiterator.__iter__»:=FN (id':="dict_keyiterator.__iter__") (by kernel_rfl) rfl (by decide +kernel) (by kernel_rfl)
theorem Qg0(a:Value):argsOk "set_iterator.__iter__" ⟨[a],[]⟩:=by unfold argsOk;kernel_rfl
section
variable{prog:Program}{w:World}{A:Around}{E:Value->Shared->Prop}{s:Shared}
noncomputable abbrev Qdd(f:Value)(i:Nat)(S:Addr)(n a:Nat):Obj:={ cls:=.type "set_iterator",data:=.fields #[f,.int i 0,.ref S,.int n 0,.int a 0] }
inductive How(w:World)(S T:Addr)(h:Heap)(es:Array (Int×Value))(ep:Nat)(t:SetTable)(vs:List Value):Nat->Value->Prop where
 |tup {i:Nat} {ps:List Nat} (hT:h.get? T=some { cls:=.type "tuple",data:=.seq (ps.map fun(p:Nat)=>rawInt p).toArray 0 }) (hl:ps.length=vs.length) (hp:∀(j p:Nat),ps[j]?=some p->∃e,es[p]?=some e/\vs[j]?=some e.2):How w S T h es ep t vs i (.ref T)
 |text {i:Nat} (c:Nat) (hb:w.params.followText "set-order"=true) (hv:vs=(pickOrder (w.params.setOrder S ep) es).toList.map (·.2)):How w S T h es ep t vs i (.int c 0)
 |slots {i:Nat} (c:Nat) (hb:w.params.followText "set-order"=false) (hled:t.led=true) (hs:t.plain=true\/es.size<=1) (hv:vs=es.toList.map (·.2)) (hc:SetTable.below t.place c=i):How w S T h es ep t vs i (.int c 0)
def ItT(w:World)(I S T:Addr)(b:List Value)(i:Nat)(h:Heap):Prop:=
 ∃f o a c t,h.get? I=some (Qdd f i S b.length c)/\h.get? S=some o/\o.data=.set a c t/\t.fits a.size=true/\(t.plain=true\/a.size<=1->Sb.Up t.place)/\a.size=b.length/\How w S T h a c t b i f
theorem GR{t:SetTable}(a:t.fits n=true):t.place.size=n:=by
 simp only[SetTable.fits,NH,beq_iff_eq]at a;exact a.1
theorem How.keep(x:How w S T h es p t e i f)(k:∀o,h.get? T=some o->h'.get? T=some o):How w S T h' es p t e i f:=by
 cases x with
 |tup n l j=>exact .tup (k _ n) l j
 |text c d b=>exact .text c d b
 |slots c d a g b m=>exact .slots c d a g b m
theorem Qgl(k:Nat):rawInt (k:Int)=Value.int k 0:=rfl
theorem QmM:(#[f,a,b,c,d]:Array Value).setIfInBounds 0 x=#[x,a,b,c,d]:=by rfl
theorem QlS:(#[f,a,b,c,d]:Array Value).setIfInBounds 1 x=#[f,x,b,c,d]:=by rfl
theorem G5{h:Heap}(e:h.get? I=some (Qdd f i S n a))(k:Nat)(x:Value):(h.update I (Obj.mapFields (·.setIfInBounds k x))).get? I=some { cls:=.type "set_iterator",data:=.fields ((#[f,.int i 0,.ref S,.int n 0,.int a 0]:Array Value).setIfInBounds k x) }:=Ea _ e rfl
theorem QmI{h:Heap}(e:h.get? I=some (Qdd f i S n a)):((h.update I (Obj.mapFields (·.setIfInBounds 0 x))).update I (Obj.mapFields (·.setIfInBounds 1 y))).get? I=some { cls:=.type "set_iterator",data:=.fields #[x,y,.ref S,.int n 0,.int a 0] }:=by
 have g1:=G5 e 0 x;rw[QmM]at g1;exact Ea (Obj.mapFields (·.setIfInBounds 1 y)) g1 rfl
theorem X0(e2:s.heap.get? S=some o)(f:o.data=.set es d t)(b:t.fits es.size=true)(a:w.params.followText "set-order"=true)
  (h:Q (((pickOrder (w.params.setOrder S d) es)[i]?).map fun e=>(e.2,c)) s):wpAny (model prog w) A (setNext S c i d) Q E s:=by
 unfold setNext;refine Na (NO e2 f b ?_);dsimp only;unfold setsByText;refine Na (Na (Et (Ng ?_)));show wpAny _ _ (if(w.params.followText "set-order")=true then _ else _) _ _ _;rw[if_pos a];rw[if_neg (by simp)];refine Na ?_;unfold setWalk;refine Na (NO e2 f b ?_);dsimp only;unfold setsByText;refine Na (Na (Et (Ng ?_)));show wpAny _ _ (if(w.params.followText "set-order")=true then _ else _) _ _ _;rw[if_pos a];refine Na (Et (Ng ?_));exact Ng h
theorem Wm(e2:s.heap.get? S=some o)(d:o.data=.set es c t)(b:t.fits es.size=true)(a:es[p]?=some e)(h:Q e.2 s):wpAny (model prog w) A (setNextDrawn S p c) Q E s:=by
 unfold setNextDrawn;refine Na (NO e2 d b ?_);dsimp only;rw[if_neg (by simp),a];exact Ng h
theorem Xw(e2:s.heap.get? S=some o)(g:o.data=.set es f t)(e:t.fits es.size=true)(d:w.params.followText "set-order"=false)(a:t.led=true)(b:t.plain=true\/es.size<=1)
  (h:Q (match es[SetTable.below t.place c]?,t.place[SetTable.below t.place c]? with|some (_,x),some j=>some (x,j+1)|_,_=>none) s):wpAny (model prog w) A (setNext S c i f) Q E s:=by
 unfold setNext;refine Na (NO e2 g e ?_);dsimp only;unfold setsByText;refine Na (Na (Et (Ng ?_)));show wpAny _ _ (if(w.params.followText "set-order")=true then _ else _) _ _ _;rw[if_neg (by rw[d];simp)];show wpAny _ _ (if(!t.plain&&decide (es.size>1))=true then _ else _) _ _ _
 rw[if_neg (by
  rcases b with z|z
  ·rw[z];simp
  ·have:¬es.size>1:=by exact N4.mpr z
   simp[this])]
 show wpAny _ _ ((if(!t.led&&!es.isEmpty)=true then unsupported "set:maker-not-led"else pure ())>>=_) _ _ _;rw[if_neg (by rw[a];simp)];exact Na (Ng (Ng h))
theorem next_item{i:Nat}(F:S≠I)(D:T≠I)(st:ItT w I S T r i s.heap)(M:i<r.length)
  (X:∀v h',r[i]?=some v->ItT w I S T r (i+1) h'->Heap.SameBut I s.heap h'->Q (some v) { s with heap:=h' }):wpAny (model prog w) A (pyNext (.ref I)) Q E s:=by
 obtain⟨f,o,m,G,t,e1,e2,n,l,up,h,hw⟩:=st;have U:s.TypeIs (.ref I) "set_iterator":=⟨_,e1,rfl⟩
 unfold pyNext;refine Na (Fk (Ej (name:=Str.ofString "__next__") U slotN (Eb slotN U QeH ?_ (QiI _))));unfold Builtin.«set_iterator.__next__»;refine Na (Ng (Na (wpAny_fieldsOf e1 rfl ?_)));dsimp only;refine Na (FG e2 n l ?_);rw[if_neg (by simp[h])];have d:∀(x y:Value),Heap.SameBut I s.heap ((s.heap.update I (Obj.mapFields (·.setIfInBounds 0 x))).update I (Obj.mapFields (·.setIfInBounds 1 y))):=fun x y=>(NV ..).trans (NV ..)
 have O:∀(x:Value) (nx:Nat),r[i]?=some x->How w S T s.heap m G t r (i+1) (.int nx 0)->wpAny (model prog w) A.in1 (do
   setField (Value.ref I) 0 (rawInt (nx:Int))
   setField (Value.ref I) 1 (rawInt ((i:Int)+1))
   ret x) (fun fin H=>∃v,fin=Fin.done (Flow.ret v)/\wpAny (model prog w) A (pure (some v)) Q E H) (fun e H=>wpAny (model prog w) A (do if(<-isInstance e (Value.type "StopIteration"))=true then pure none else throw e) Q E H) s:=by
  intro x nx Z J;refine Na (Ex e1 rfl (by simp) (Na (Ex (G5 e1 0 _) rfl (by simp) (Ng ⟨x,rfl,Ng (X x _ Z ?_ (d _ _))⟩))));refine⟨.int nx 0,o,m,G,t,QmI e1,?_,n,l,up,h,J.keep fun Y e=>?_⟩
  ·rw[(d _ _).2 S F];exact e2
  ·rw[(d _ _).2 T D];exact e
 cases hw with
 |@tup ps C R P=>
  simp only[En];refine Na (D3 C rfl ?_);dsimp only;have j:ps[i]?=some ps[i]:=Nk (Nl M (Nx R.symm));generalize ps[i]=q at j;obtain⟨e,he,u⟩:=P i q j;have:((ps.map fun(p:Nat)=>rawInt p).toArray)[i]?=some (Value.int (q:Int) 0):=by simp[j,Qgl]
  rw[this];dsimp only;refine Na (Wm e2 n l (p:=q) he (Na (Ex e1 rfl (by simp) (Ng ⟨e.2,rfl,Ng (X e.2 _ u ?_ (NV ..))⟩))));have N:Heap.SameBut I s.heap (s.heap.update I (Obj.mapFields (·.setIfInBounds 1 (rawInt ((i:Int)+1))))):=NV ..;refine⟨.ref T,o,m,G,t,?_,by rw[N.2 S F];exact e2,n,l,up,h,How.keep (.tup C R P) fun Y e=>by rw[N.2 T D];exact e⟩;have g:=G5 e1 1 (rawInt ((i:Int)+1));rw[QlS]at g;exact g
 |text c B u=>
  simp only[En];refine Na (X0 e2 n l (i:=i) (c:=c) B ?_);subst u;have a:i<(pickOrder (w.params.setOrder S G) m).size:=by simpa using M
  rw[NX a];exact O _ c (by rw[Nu,N3,NX a];rfl) (.text c B rfl)
 |slots c B b L u hc=>
  simp only[En];refine Na (Xw e2 n l (i:=i) (c:=c) B b L ?_);subst u;have a:i<m.size:=by simpa using M
  have z:i<t.place.size:=by rw[GR l];exact a
  rw[hc,NX a,Sb.at_get z];exact O m[i].2 (Sb.At t.place i+1) (by rw[Nu,N3,NX a];rfl) (.slots _ B b L rfl (Sb.below_next (up L) z))
theorem GO(d:B.handled=none)(f:∀h',(∀b o,s.heap.get? b=some o->h'.get? b=some o)->Q none { s with heap:=h' }) :
  wpAny (model prog w) B (newExc (.type "StopIteration") []>>=raiseNew) (fun(fin:Fin) c=>∃v,fin=Fin.done (Flow.ret v)/\wpAny (model prog w) A (pure (some v)) Q E c) (fun e c=>wpAny (model prog w) A (do if(<-isInstance e (Value.type "StopIteration"))=true then pure none else throw e) Q E c) s:=by
 refine Na ?_;simp only[newExc,newTuple];refine Na (NY ?_ (by size_fits));refine Na (m:=firstArgMember _ _) (ER (a:=Value.none) (by first|rfl|(simp only[firstArgMember];rfl)) (NY ?_ (by size_fits)));simp only[raiseNew];refine Na (Lj ?_);rw[d];refine Na (Ng (Oc ?_));refine Na (Fl (T:="StopIteration") (b:=true) ⟨_,Ny _ rfl,rfl⟩ isSubtype_stop ?_);refine Ng (f _ ?_);exact fun b o e=>Ni _ (Ni _ e)
theorem next_end(D:A.handled=none)(H:S≠I)(G:T≠I)(st:ItT w I S T d d.length s.heap)
  (x:∀h',Heap.ExtBut I s.heap h'->Q none { s with heap:=h' }):wpAny (model prog w) A (pyNext (.ref I)) Q E s:=by
 obtain⟨f,o,z,J,t,e1,e2,q,n,up,g,hw⟩:=st;have u:s.TypeIs (.ref I) "set_iterator":=⟨_,e1,rfl⟩
 unfold pyNext;refine Na (Fk (Ej (name:=Str.ofString "__next__") u slotN (Eb slotN u QeH ?_ (QiI _))));unfold Builtin.«set_iterator.__next__»;refine Na (Ng (Na (wpAny_fieldsOf e1 rfl ?_)));dsimp only;refine Na (FG e2 q n ?_);rw[if_neg (by simp[g])];have y:A.in1.handled=none:=D
 have one:wpAny (model prog w) A.in1 (do
   setField (Value.ref I) 2 Value.none
   raiseNew (<-newExc (Value.type "StopIteration") [])) (fun(fin:Fin) j=>∃v,fin=Fin.done (Flow.ret v)/\wpAny (model prog w) A (pure (some v)) Q E j) (fun e j=>wpAny (model prog w) A (do if(<-isInstance e (Value.type "StopIteration"))=true then pure none else throw e) Q E j) s:=by
  refine Na (Ex e1 rfl (by simp) (GO y fun h' k=>x h' fun b l a e=>k b l ?_));rw[(NV ..).2 b a];exact e
 cases hw with
 |@tup ps m C L=>
  simp only[En];refine Na (D3 m rfl ?_);dsimp only;rw[show((ps.map fun(p:Nat)=>rawInt p).toArray)[d.length]?=none by simp[C]];refine Na (Ex e1 rfl (by simp) (Na (Ex (G5 e1 0 _) rfl (by simp) (GO y fun h' k=>x h' fun b l a e=>k b l ?_))));rw[((NV s.heap I _).trans (NV ..)).2 b a];exact e
 |text c a r=>
  simp only[En];refine Na (X0 e2 q n (i:=d.length) (c:=c) a ?_);rw[show(pickOrder (w.params.setOrder S J) z)[d.length]?=none by rw[r];simp];exact one
 |slots c a h B r F=>
  simp only[En];refine Na (Xw e2 q n (i:=d.length) (c:=c) a h B ?_);rw[F,show z[d.length]?=none from IM (Nx g)];exact one
theorem QjY(st:ItT w I S T b i s.heap)(h:Q (.ref I) s):wpAny (model prog w) A (pyIter (.ref I)) Q E s:=by
 obtain⟨f,o,c,d,t,e1,_⟩:=st;have a:s.TypeIs (.ref I) "set_iterator":=⟨_,e1,rfl⟩
 refine F6 a Qef (Eb Qef a Qgz ?_ (Qg0 _));exact Ng ⟨_,rfl,"set_iterator",_,a,slotN.lookup,h⟩
theorem QeJ(y:A.handled=none)(I S T:Addr)(d:S≠I)(c:T≠I)(j:List Value) :
  Walks prog w A I [I,S,T] [I] j.length (fun i v=>j[i]?=some v) (fun i h=>ItT w I S T j i h) where
 sub:=fun b a=>by simp at a;simp[a]
 frame:=fun i h g z k=>by
  obtain⟨f,o,C,D,t,e1,e2,F,B,up,m,hw⟩:=z;exact⟨f,o,C,D,t,k I (by simp) _ e1,k S (by simp) _ e2,F,B,up,m,hw.keep fun o e=>k T (by simp) o e⟩
 item:=fun i s Q E u st n=>next_item d c st u fun v g r l p=>n v g s.toks r l fun b o a e=>by rw[p.2 b (fun z=>a (by simp[z]))];exact e
 done:=fun s Q E st n=>next_end y d c st fun g x=>n g s.toks fun b o a e=>x b o (fun z=>a (by simp[z])) e
 self:=fun i s Q E st q=>QjY st q
noncomputable abbrev atP(es:Array (Int×Value))(i:Nat):Value:=(es.getD i (0,.none)).2
theorem QaK{ps:List Nat}(p:ps.Perm (List.range es.size)):(ps.map (atP es)).Perm (es.toList.map (·.2))/\∀(j q:Nat),ps[j]?=some q->∃e,es[q]?=some e/\(ps.map (atP es))[j]?=some e.2:=by
 constructor
 ·refine(p.map _).trans ?_
  have:(List.range es.size).map (atP es)=es.toList.map (·.2):=by
   apply FX;intro j;rw[Nu,Nu]
   by_cases lt:j<es.size
   ·simp[atP,Array.getD,lt]
   ·rw[Ez (by simpa using lt),Ez (by simpa using lt)];rfl
  rw[this]
 ·intro j q a;have lt:q<es.size:=NU.mp (p.mem_iff.mp (ND.mpr ⟨j,a⟩));refine⟨es[q],NX lt,?_⟩;rw[Nu,a];simp[atP,Array.getD,lt]
theorem Qj5{es:Array (Int×Value)}(e2:s.heap.get? S=some o)(N:o.ExactSet)(u:o.data=.set es y t)(q:t.fits es.size=true)(up:t.plain=true\/es.size<=1->Sb.Up t.place)(x:t.led=ledW w)(hz:es.size<=sizeLine)
  (h:∀h' d I T (f:List Value),(∀b o,s.heap.get? b=some o->h'.get? b=some o)->s.heap.objs.size<=I->(T=S\/s.heap.objs.size<=T)->S≠I->T≠I->f.Perm (es.toList.map (·.2))->f.length=es.size->ItT w I S T f 0 h'->Q (.ref I) { s with heap:=h',drawn:=d }) :
  wpAny (model prog w) A (pyIter (.ref S)) Q E s:=by
 have G:s.TypeIs (.ref S) "set":=⟨o,e2,N.1⟩
 have l:=Nz e2;refine F6 G Oy (Eb Oy G QhD ?_ (F.args_set_iter_1 _));unfold Builtin.«frozenset.__iter__» Builtin.Frozenset.slot0;refine Na (Na (Ng (Ng ?_)));unfold Builtin.Frozenset.sizeOf;refine Na (Na (FG e2 u q (Ng ?_)));refine Na (Na (NO e2 u q ?_));dsimp only;unfold setsByText;refine Na (Na (Et (Ng (Ng ?_))));show wpAny _ _ (if(!(w.params.followText "set-order")&&(!t.plain&&decide (es.size>1)))=true then _ else _) _ _ _
 have made:∀(c:Int) (f:List Value),c=0->f.Perm (es.toList.map (·.2))->How w S S (s.heap.push (Qdd (.int (0:Nat) 0) 0 S es.size y)) es y t f 0 (.int (0:Nat) 0)->wpAny (model prog w) A.in1 (do
   let first <-pure (rawInt c)
   ret (<-newFields "set_iterator" [first,rawInt 0,Value.ref S,rawInt (es.size:Int),rawInt ((<-setEpoch S):Int)])) (fun fin D=>∃v,fin=Fin.done (Flow.ret v)/\∃H r,D.TypeIs v H/\typeLookup (Value.type H) (Str.ofString "__next__")=pure (some r)/\Q v D) E s:=by
  intro c f P p hw;subst P;refine Na (Ng (Na (LZ e2 u q (Na (NY (Ng ⟨_,rfl,"set_iterator",_,⟨_,Ny _ rfl,rfl⟩,slotN.lookup,?_⟩))))));have a:es.size=f.length:=by rw[p.length_eq,NB,NA]
  refine h _ s.drawn s.heap.objs.size S f (fun b M e=>Ni _ e) (Nw _) (.inl rfl) (NS l) (NS l) p a.symm ?_;exact⟨.int (0:Nat) 0,o,es,y,t,by rw[<-a];exact Ny _ rfl,Ni _ e2,u,q,up,a,hw⟩
 cases n:w.params.followText "set-order"with
 |true=>
  rw[if_neg (by simp)];exact made 0 ((pickOrder (w.params.setOrder S y) es).toList.map (·.2)) rfl ((W5 _ es).map _) (.text 0 n rfl)
 | false=>
  have m:t.led=true:=by rw[x];simp[ledW,n]
  by_cases C:t.plain=false/\es.size>1
  ·rw[if_pos (by simp[C.1,C.2])];refine Na (Yb es.size (List.range es.size) s _ (by simp) fun ps d p=>?_);have B:ps.length=es.size:=by rw[p.length_eq,F4]
   refine Na (wpAny_newTuple ?_ (by rw[NB,B];exact hz));refine Na (LZ (s:={ s with drawn:=d,heap:=s.heap.push { cls:=.type "tuple",data:=.seq (ps.map fun(i:Nat)=>rawInt i).toArray } }) (Ni _ e2) u q ?_);refine Na (NY (Ng ⟨_,rfl,"set_iterator",_,⟨_,Ny _ rfl,rfl⟩,slotN.lookup,?_⟩));obtain⟨L,J⟩:=QaK p;have a:es.size=(ps.map (atP es)).length:=by rw[NB,B]
   have g:(s.heap.push { cls:=.type "tuple",data:=.seq (ps.map fun(i:Nat)=>rawInt i).toArray }).objs.size=s.heap.objs.size+1:=FJ _ _;refine h _ d _ s.heap.objs.size (ps.map (atP es)) (fun b M e=>Ni _ (Ni _ e)) (by show s.heap.objs.size<=(s.heap.push _).objs.size;rw[g];exact NJ _ _) (.inr (Nw _)) (by show S≠(s.heap.push _).objs.size;rw[g];exact NS (Fd l)) (by show s.heap.objs.size≠(s.heap.push _).objs.size;rw[g];exact NS (EJ _)) L a.symm ?_;refine⟨.ref s.heap.objs.size,o,es,y,t,by rw[<-a];exact Ny _ rfl,Ni _ (Ni _ e2),u,q,up,a,.tup (ps:=ps) (Ni _ (Ny _ rfl)) (by rw[<-a,B]) J⟩
  ·have j:t.plain=true\/es.size<=1:=by
    cases O:t.plain with
    |true=>exact .inl rfl
    |false=>
     right
     rcases DE 1 es.size with z|z
     ·exact absurd ⟨O,z⟩ C
     ·exact z
   rw[if_neg (by
    rcases j with z|z
    ·rw[z];simp
    ·have:¬es.size>1:=by exact N4.mpr z
     simp[this])]
   exact made 0 (es.toList.map (·.2)) rfl .rfl (.slots 0 n m j rfl (Sb.below_zero (up j)))
theorem Qjf(d:s.TypeIs (.ref S) "set")(h:Q false s):wpAny (model prog w) A (Builtin.List.listLengthHint (.ref S)) Q E s:=by
 unfold Builtin.List.listLengthHint;refine Na (Dt d F.slot_set_len.lookup ?_);generalize a:("set.__len__":String)=c
 wp_delta
 rw[show splitId c=some ("set","__len__")from by subst a;decide +kernel];subst a;refine Na (Fl (T:="set") (b:=true) d (by rw[E3];kernel_rfl) ?_);refine IC (fun z=>absurd z (by decide)) (fun _=>IC (fun _=>?_) (fun z=>absurd (by decide +kernel) z));exact Na (Fw d (Ng h))
noncomputable abbrev lsO(xs:Array Value)(c:Nat):Obj:={ cls:=.type "list",dict:=none,data:=.seq xs c,slots:=#[] }
theorem Qgy(hh:A.handled=none)(e2:s.heap.get? S=some o)(H:o.ExactSet)(e3:o.data=.set es ep t)(ft:t.fits es.size=true)(up:t.plain=true\/es.size<=1->Sb.Up t.place)(B:t.led=ledW w)(n:N≠S)(res:Value)(l:Nat)(hN:s.heap.get? N=some (lsO #[] l))(hz:es.size<=sizeLine)
  (hR:∀h' d tk (h:List Value) u,h.Perm (es.toList.map (·.2))->(∀b o,b≠N->s.heap.get? b=some o->h'.get? b=some o)->h'.get? N=some (lsO h.toArray u)->R (.ok (.ret res)) { s with heap:=h',drawn:=d,toks:=tk }) :
  wpAny (model prog w) A.in1 (Builtin.List.listExtendWith (.ref N) (.ref S) res) (fun fin m=>match fin with|.done f=>R (.ok f) m|.again u=>u.quiet=true/\codeAny (model prog w) A u R m) (fun e m=>R (.error e) m) s:=by
 unfold Builtin.List.listExtendWith;refine Na (Fw (T:="set") ⟨o,e2,H.1⟩ ?_);have n1:Builtin.List.listSameRef (.ref N) (.ref S)=false:=by simp[Builtin.List.listSameRef,n]
 have n2:(Value.type "set"==Value.type "list")=false:=by decide
 have n3:(Value.type "set"==Value.type "tuple")=false:=by decide
 simp only[n1,n2,n3,OF,E8,if_false];refine Na (Qj5 e2 H e3 ft up B hz fun X d I T h k1 hI L O M str J st=>?_);have p:=k1 _ _ hN;have x:N<s.heap.objs.size:=Nz hN;have Q:N≠I:=fun z=>absurd hI (by rw[<-z];exact Fz.mpr x)
 have P:N≠T:=by
  rcases L with z|z
  ·rw[z];exact n
  ·exact fun e=>absurd z (by rw[<-e];exact Fz.mpr x)
 have Y:N∉[I,S,T]:=by
  simp only[Nv,NQ,or_false,not_or];exact⟨Q,n,P⟩
 have W:=QeJ (prog:=prog) (w:=w) (A:=A.in1.in1) (by simp[hh]) I S T O M h
 have key:∀(D:Heap) (a:Nat),ItT w I S T h 0 D->(∀b o,b≠N->s.heap.get? b=some o->D.get? b=some o)->D.get? N=some (lsO #[] a)->codeAny (model prog w) A (.builtin "list.extend.loop" ⟨[.ref N,.ref I,res],[]⟩) R { s with heap:=D,drawn:=d }:=by
  intro D a G k2 g;refine codeAny_extend_loopS (Walks.of_in1 W).toS (by rw[J];exact hz) N Y res h.length 0 _ #[] a rfl (Ei _) G g (ItemsOf.nil _) fun m r u Z C i=>?_;rw[Moved.eq_with Z]
  have ea:r=h.toArray:=by
   apply Array.ext_getElem?;intro j
   by_cases F:j<r.size
   ·have q:=i.2 j r[j] (NX F);rw[NX F,Fp,q]
   ·rw[IM (N4.mp F),Fp,Ez (by have:=i.1;exact Nn (Nx this.symm) (N4.mp F))]
  rw[ea]at C;refine hR m.heap d m.toks h u str (fun b o c e=>Z.heap b o (fun y=>?_) (k2 b o c e)) C
  rcases Nv.mp y with z|z
  ·exact c z
  ·rw[NE.mp z]at e;exact absurd (Nz e) (N4.mpr hI)
 refine Na (N6 (Qjf ⟨o,k1 _ _ e2,H.1⟩ ?_));refine IC (fun _=>?_) (fun _=>Ng ⟨FU Lr _,key X l st (fun b o _ e=>k1 b o e) p⟩);refine Na (D5 (Na ?_));show wpAny _ _ (updateSeq N (·.push .none)>>=fun _=>updateSeq N (·.pop)) _ _ _;refine Na (IB p rfl ?_);have g:=Ea (Obj.mapSeq (·.push Value.none)) p rfl;refine IB (hz:=by seq_fits) g rfl ?_;have U:=Ea (Obj.mapSeq (·.pop)) g rfl;have v:∀b o,b≠N->X.get? b=some o->((X.update N (Obj.mapSeq (·.push Value.none))).update N (Obj.mapSeq (·.pop))).get? b=some o:=fun b o c e=>(EF _ _ (Dl c)).trans ((EF _ _ (Dl c)).trans e);refine Ng ⟨FU Lr _,key _ _ (W.frame 0 _ _ st fun b c o e=>v b o (fun z=>Y (by rw[<-z];exact c)) e) (fun b o c e=>v b o c (k1 b o e)) U⟩
theorem Qda(u:A.handled=none)(e2:s.heap.get? S=some o)(p:o.ExactSet)(y:o.data=.set es z t)(x:t.fits es.size=true)(up:t.plain=true\/es.size<=1->Sb.Up t.place)(l:t.led=ledW w)(hz:es.size<=sizeLine)
  (h:∀h' d tk (c:List Value),c.Perm (es.toList.map (·.2))->(∀b o,s.heap.get? b=some o->h'.get? b=some o)->s.heap.objs.size<=h'.objs.size->Q c { s with heap:=h',drawn:=d,toks:=tk }):wpAny (model prog w) A (collect (.ref S)) Q E s:=by
 unfold collect;refine Na (wpAny_runValue (Dw entry_proto_collect' (show wpAny _ _ (do again (.builtin "list.__iadd__" ⟨[<-newList [],.ref S],[]⟩)) _ _ s from ?_)));refine Na (wpAny_newList (Ng ⟨LI _ (by decide +kernel),Dw (entry_list_iadd') ?_⟩));have m:=Nz e2;rw[DH F.plain_list_iadd _]
 have fin:∀(r:Result) (g:Shared),(r=.ok (.ret (.ref s.heap.objs.size))/\∃h' d tk,∃c:List Value,∃i,c.Perm (es.toList.map (·.2))/\(∀b o,s.heap.get? b=some o->h'.get? b=some o)/\h'.get? s.heap.objs.size=some (lsO c.toArray i)/\g={ s with heap:=h',drawn:=d,toks:=tk })->(match r with
   | .ok (.ret v)=>wpAny (model prog w) A (match v with
    |.ref a=>do
     match (<-load a).data with
     |.seq n _=>pure n.toList
     |_=>unsupported "internal:collect"
    |_=>unsupported "internal:collect") Q E g
   |.ok _=>False
   |.error e=>E e g):=by
  rintro r g ⟨rfl,h',d,tk,c,i,str,k,hN,rfl⟩
  refine Na (wpAny_load hN ?_);show wpAny _ _ (pure c.toArray.toList) Q E _;rw[ED];exact Ng (h h' d tk c str k (N8 (Nz hN)))
 refine NZ (Qgy (A:=A) (s:={ s with heap:=s.heap.push (lsO #[] 0) }) (R:=fun r g=>r=.ok (.ret (.ref s.heap.objs.size))/\∃h' d tk,∃c:List Value,∃i,c.Perm (es.toList.map (·.2))/\(∀b o,s.heap.get? b=some o->h'.get? b=some o)/\h'.get? s.heap.objs.size=some (lsO c.toArray i)/\g={ s with heap:=h',drawn:=d,toks:=tk }) u (Ni _ e2) p y x up l (DT m) (.ref s.heap.objs.size) 0 (Ny _ rfl) hz fun h' d tk c i str k hN=>⟨rfl,h',d,tk,c,i,str,fun b o e=>k b o (NS (Nz e)) (Ni _ e),hN,rfl⟩) ?_ ?_
 ·intro f g q;cases f with
  |done f=>exact fin _ _ q
  |again i=>exact⟨q.1,DU q.2 fun r j hr=>fin r j hr⟩
 ·intro e g q;exact fin _ _ q
end
theorem Yx:∀(ks a:List Str),ks.Nodup->(∀k∈ks,k∈a)->a.length=ks.length->a.Perm ks
 |[],a,_,_,h=>by rw[NT.mp h]
 |k::r,a,b,c,h=>by
  have e:=c k Nr;rw[Ek]at b;refine(Ld e).trans (List.Perm.cons k (Yx r (a.erase k) b.2 (fun x d=>?_) ?_))
  ·exact(FD (fun z=>b.1 (by rw[<-z];exact d))).mpr (c x (Np _ d))
  ·rw[DZ e,h];rfl
section
variable{prog:Program}{w:World}{A:Around}{E:Value->Shared->Prop}{s:Shared}
theorem Qfr{h:Heap}{a:Addr}{led:Bool}{es:Array (Int×Value)}(h1:ElemsOf (strKind prog w) es.toList)(n:ks.Nodup)(m:es.size=ks.length)(l:∀k,k∈ks↔∃e∈es.toList,(strKind prog w).is k e.2=true)(p:b.Perm (es.toList.map (·.2))):∃ss,StrsAre b ss/\ss.Perm ks:=by
 have d:∀v∈b,∃x c,v=.str x c:=fun v d=>by
  obtain⟨e,i,rfl⟩:=No.mp (p.mem_iff.mp d);obtain⟨⟨k,g,_⟩,_⟩:=h1 e i;obtain⟨c,j⟩:=Dp g;exact⟨k,c,j⟩
 refine⟨b.map strOf,strsAre_map b d,Yx ks _ n (fun k g=>?_) ?_⟩
 ·obtain⟨e,i,f⟩:=(l k).mp g;obtain⟨c,j⟩:=Dp f;exact No.mpr ⟨e.2,p.mem_iff.mpr (No.mpr ⟨e,i,rfl⟩),by rw[j];rfl⟩
 ·rw[NB,p.length_eq,NB,NA,m]
theorem Qeh{t:SetTable}(b:t.fits n=true)(c:n<=1):Sb.Up t.place:=fun i j d a=>by
 rw[GR b]at a;omega
theorem QcZ(q:A.handled=none)(r:SetL prog w s.heap S ks (ledW w))(hz:ks.length<=sizeLine)
  (h:∀h' d tk f,(∃ss,StrsAre f ss/\ss.Perm ks)->(∀b o,s.heap.get? b=some o->h'.get? b=some o)->s.heap.objs.size<=h'.objs.size->Q f { s with heap:=h',drawn:=d,toks:=tk }):wpAny (model prog w) A (collect (.ref S)) Q E s:=by
 obtain⟨o,x,B,t,e2,n,u,j,v,l,e,g,i,m,c⟩:=r;refine Qda q e2 n u l (fun z=>?_) e (by rw[m];exact hz) fun h' d tk f p=>h h' d tk f (Qfr (h:=s.heap) (a:=S) (led:=true) j i m c p)
 rcases z with z|z
 ·rcases g with y|y
  ·exact Qeh l (N8 (NG (Nx y) (by decide)))
  ·rw[z]at y;cases y
 ·exact Qeh l z
theorem sortedS'(t:A.handled=none)(v:SetL prog w s.heap S ks (ledW w))(hz:ks.length<64)
  (h:∀(D:Addr) h' d tk (a:List Value) (ss:List Str) c,StrsAre a ss->ss.Perm ks->sortedS ss=true->(∀b o,s.heap.get? b=some o->h'.get? b=some o)->s.heap.objs.size<=D->h'.get? D=some (lsO a.toArray c)->Q (.ref D) { s with heap:=h',drawn:=d,toks:=tk }) :
  wpAny (model prog w) A (call (.builtin "sorted") [.ref S]) Q E s:=by
 refine Calls.call_function_entry kind_sorted plain_sorted entry_sorted (args_sorted1 _) ?_;unfold Builtin.«sorted»;refine Na (m:=checkCount "sorted" 1 1 _) (Ng (Na (QcZ (by simp[t]) v (by rw[Dj];exact N8 (Eo hz (by decide))) fun n d tk a str k1 l=>?_)));obtain⟨ss,st,pm⟩:=str;have i:a.length<64:=by rw[FL st,pm.length_eq];exact hz
 refine Na (wpAny_newList ?_ (by rw[Dj];exact N8 (Eo i (by decide))));have f:(n.push (seqObj "list" a.toArray 0)).get? n.objs.size=some (seqObj "list" a.toArray 0):=Ny _ rfl;refine Na (N6 (Eb slot_list_sort ⟨_,f,rfl⟩ entry_list_sort (list_sort_treeK (κ:=PyProof.Rows.strKind) strKind_oneLt f st.keysOf (fun q p rest e=>keyKind_strs (by rw[<-e];exact st)) i fun g C B=>⟨_,rfl,?_⟩) (args_list_sort _)));obtain⟨j,z,y,x⟩:=sorted_out_str st C B;obtain⟨c,u⟩:=sortedHeap_at (out:=(arrOf g).map (·.2)) f;refine Ng ⟨_,rfl,h n.objs.size _ d tk ((arrOf g).map (·.2)).toList j c z (y.trans pm) x (fun b o e=>?_) l ?_⟩
 ·have e1:=Ni (seqObj "list" a.toArray 0) (k1 b o e);rw[sortedHeap_old (NS (Nz (k1 b o e))) (Nz e1)];exact e1
 ·rw[Array.toArray_toList];exact u
end
theorem le_of_lt{a b:Str}:ltCps b.cps.toList a.cps.toList=false↔a.cps.toList<=b.cps.toList:=by
 rw[ltCps_eq,decide_eq_false_iff_not];exact Iff.rfl
theorem XJ:∀(x:Str) (r:List Str),risingS x r=true->∀z∈r,x.cps.toList<=z.cps.toList
 |x,[],_,z,hz=>by cases hz
 |x,y::r,h,z,hz=>by
  have h':(!ltCps y.cps.toList x.cps.toList&&risingS y r)=true:=h;rw[NH,L3]at h';have a:=le_of_lt.mp h'.1
  rcases Nv.mp hz with rfl|hz
  ·exact a
  ·exact OH a (XJ y r h'.2 z hz)
theorem K1(h:sortedS (x::r)=true):sortedS r=true:=by
 cases r with
 |nil=>rfl
 |cons y r=>
  have a:(!ltCps y.cps.toList x.cps.toList&&risingS y r)=true:=h;rw[NH]at a;exact a.2
theorem str_eq{a b:Str}(h:a.cps.toList=b.cps.toList):a=b:=by
 obtain⟨a⟩:=a;obtain⟨b⟩:=b;congr 1;exact Array.toList_inj.mp h
theorem Yt:∀(a b:List Str),a.Perm b->sortedS a=true->sortedS b=true->a=b
 |[],b,p,_,_=>(List.nil_perm.mp p).symm
 |x::r,[],p,_,_=>by cases List.perm_nil.mp p
 | x::r,y::t,p,d,c=>by
  have e:x=y:=by
   have g:y∈x::r:=p.mem_iff.mpr Nr;have f:x∈y::t:=p.mem_iff.mp Nr
   rcases Nv.mp g with z|z
   ·exact z.symm
   ·rcases Nv.mp f with q|q
    ·exact q
    ·exact str_eq (List.le_antisymm (XJ x r d y z) (XJ y t c x q))
  subst e;rw[Yt r t (List.Perm.cons_inv p) (K1 d) (K1 c)]
open Classical in
noncomputable def srt(ks:List Str):List Str:=if h:∃a:List Str,a.Perm ks/\sortedS a=true then h.choose else[]
theorem srt_eq(p:ss.Perm ks)(h:sortedS ss=true):srt ks=ss:=by
 have a:∃ss:List Str,ss.Perm ks/\sortedS ss=true:=⟨ss,p,h⟩
 unfold srt;rw[dif_pos a];exact Yt _ _ (a.choose_spec.1.trans p.symm) a.choose_spec.2 h
end St
namespace Mi
open L2
noncomputable def txW:List W->Option (List Str)
 |[]=>some []
 |.str x::r=>(txW r).map (x::·)
 |_=>none
@[simp]theorem K9(l:List Str):txW (l.map .str)=some l:=by
 induction l with
 |nil=>rfl
 |cons x l a=>rw[NK,txW,a];rfl
theorem Qbv:∀{ws:List W} {ss:List Str},txW ws=some ss->ws=ss.map .str
 |[],ss,e=>by cases e;rfl
 |.str x::r,ss,e=>by
  obtain⟨t,e1,e2⟩:=Nf.mp e;subst e2;rw[Qbv e1];rfl
theorem Qcm{K:Nd}:∀{ss:List Str} {xs:List V} {us:List Value},Rws K R (ss.map .str) xs->Vals xs us->StrsAre us ss
 |[],xs,us,r,v=>by
  rw[Fy,Rws.nil_iff]at r;subst r;cases v;exact .nil
 | x::ss,xs,us,r,v=>by
  rw[NK]at r;unfold Rws at r;obtain⟨y,d,rfl,a,b⟩:=r;unfold Rw at a;subst a;cases v with
  |cons h t=>
   obtain⟨c,rfl⟩:=h;exact .cons x c (Qcm b t)
theorem UM{K:Nd}:∀{ss:List Str} {us:List Value},StrsAre us ss->Vals (ss.map V.str) us/\Rws K R (ss.map W.str) (ss.map V.str)
 |[],_,.nil=>⟨.nil,by unfold Rws;rfl⟩
 |_::_,_,.cons x c h=>by
  obtain⟨a,b⟩:=UM (K:=K) (R:=R) h;refine⟨.cons ⟨c,rfl⟩ a,?_⟩;rw[NK,NK];unfold Rws;exact⟨_,_,rfl,by unfold Rw;rfl,b⟩
noncomputable def QlE(ws:List W)(h:MH):Option (W×MH):=match ws with
 |[a]=>(lsW h a).bind fun c=>(txW c).bind fun b=>if b.length<64 then some (.lst ((St.srt b).map .str),h)else none
 |_=>none
noncomputable def VQ(ws:List W)(h:MH):Option (W×MH):=match ws with
 |[a]=>(lsW h a).bind fun c=>(txW c).bind fun b=>if b.length<4000/\(St.uniq b).length<64 then some (.ref h.length,h++[.lst ((St.srt (St.uniq b)).map .str)])else none
 |_=>none
section
variable{X:Cx}
theorem Inv.drew(I:Inv X a σ H s)(d:Drawn):Inv X a σ H { s with drawn:=d }:=⟨I.ok,I.os,I.bare,I.base,I.loc,I.cell,I.free,I.freeC,I.pin,I.hok,I.len⟩
theorem Ke{p1 M l g:Pos}(S:X.calm=true)(hg:Gl X "sorted")(hm:X.mg "sorted"=none)(E:Gl X "set")(A:X.mg "set"=none)(he:PM X e me)(P:Jw e=false:=by rfl) :
  PM X (.Call (.Name "sorted" p1) [.Call (.Name "set" M) [e] [] g] [] l) (mFn VQ (Qa me Qd)):=by
 intro m s σ H Q I ⟨R,p,h,w,h',rh,st,e1,N⟩;obtain⟨⟨as,h2⟩,e2,e3⟩:=Nc.mp e1;obtain⟨⟨a,U⟩,e4,e5⟩:=Nc.mp e2;obtain⟨⟨bs,h3⟩,e6,e7⟩:=Nc.mp e5;cases e6;cases e7;refine EB (VA I hg hm boot_sorted (ES ?_ (QP rfl) (Z8 rfl)) (by decide) (by decide));rw[QP (e:=.Call (.Name "set" M) [e] [] g) rfl];refine E9 (EB (VA I E A boot_set (Eg ?_ (QP P) (Z8 rfl)) (by decide) (by decide)));rw[QP P];refine E9 (thn (he m s σ H (fun v H2=>∃R2,Ext R R2/\Rh X.K R2 U H2/\Rw X.K R2 a v) I ⟨R,p,h,a,U,rh,st,e4,fun R2 H2 v x f z=>⟨R2,x,f,z⟩⟩) fun u J ⟨v,H1,I1,ru,R2,x2,f,z⟩=>Df ?_);obtain⟨ys,e8,e9⟩:=Nc.mp e3;obtain⟨ss,F,j⟩:=Nc.mp e9;split at j
 ·rename_i O;cases j;obtain⟨ad,xs,rfl,q1,L⟩:=f.lsAt z e8;cases ru;rw[Qbv F]at L;obtain⟨aa,rv,pl,hl⟩:=I1.list q1;have T:=Qcm L rv;have B:=FL T;refine St.set_list (I1.ok.hd S) pl.isList (by rw[ED];exact T) (by rw[Nh,B];show ss.length+1<4096;lia) fun g1 r i k1=>Df ?_;refine St.sortedS' (s:={ J with heap:=g1,toks:=r }) (I1.ok.hd S) i O.2 fun D g2 d q vs G c Z Y b3 k2 C hD=>?_;obtain⟨v1,v2⟩:=UM (K:=X.K) (R:=R2) Z;have n:J.heap.objs.size<=D:=Nn (N8 i.lt) C;have hp:=I1.hok.fresh n;have eq:=St.srt_eq Y b3;obtain⟨R3,x3,y,t⟩:=f.new (mo:=.lst (G.map .str)) (o:=.lst (G.map V.str)) hp fun R' x'=>⟨_,rfl,(UM (K:=X.K) (R:=R') Z).2⟩
  rw[eq]at N;refine⟨.ref D,_,Inv.drew (I1.laid (t':=q) (fun b o e=>k2 b o (k1 b o (Nz e) e)) n (show ObjOk X.prog X.w _ _ _ (.lst _)from⟨?_,vs,c,v1,hD⟩)) d,rfl,N R3 _ _ (x2.trans x3) y t⟩;rw[NB,Y.length_eq,Dj];exact N8 (Eo O.2 (by decide))
 ·cases j
end
end Mi
namespace St
open AutoSeq1 (wpAny_loadPart')
theorem Qc1(l:Addr)(items:Array Value)(n:Nat)(dct:Option Addr)(j:Array (Option Value)) :
  Meets (Builtin.«enumerate.__new__» ⟨[.type "enumerate",.ref l],[]⟩) (fun _ R s=>s.heap.get? l=some { cls:=.type "tuple",dict:=dct,data:=.seq items n,slots:=j } /\
   R (.ok (.ret (.ref (s.heap.push { cls:=.type "tuple_iterator",data:=.fields #[.ref l,.int 0 0] }).objs.size)))
    { s with heap:=(s.heap.push { cls:=.type "tuple_iterator",data:=.fields #[.ref l,.int 0 0] }).push { cls:=.type "enumerate",data:=.fields #[.none,.bool false,.ref s.heap.objs.size,rawInt 0,.none,.none] } }):=
 .of_wp fun e w A R s h=>by
  obtain⟨m,g,d,i,os⟩:=s;obtain⟨a,h⟩:=h;have f:=sub_enumerate;have b:Heap.IsTuple (Shared.heap ⟨m,g,d,i,os⟩) l items:=⟨_,a,rfl,n,rfl⟩
  wp_walk using ET a
  refine wpAny_stack_any fun st=>Ng ?_;split
  ·rename_i c _ _ _ _ _;cases(c==Value.type "enumerate")
   ·wp_walk using ET a,DX b
    exact⟨_,rfl,h⟩
   ·wp_walk using ET a,DX b
    exact⟨_,rfl,h⟩
  ·wp_walk using ET a,DX b
   exact⟨_,rfl,h⟩
section
variable{prog:Program}{w:World}{A:Around}{E:Value->Shared->Prop}{s:Shared}
theorem enumT(i:s.heap.IsTuple l items)
  (h:∀h',IsEnum h' (s.heap.objs.size+1) s.heap.objs.size 0 .none->h'.IsTupleIter s.heap.objs.size l 0->(∀b o,s.heap.get? b=some o->h'.get? b=some o)->Q (.ref (s.heap.objs.size+1)) { s with heap:=h' }) :
  wpAny (model prog w) A (call (.type "enumerate") [.ref l]) Q E s:=by
 obtain⟨⟨c,dct,j,f⟩,g,e,n,hd⟩:=i;simp only at e hd;subst e hd;refine callType_new F.called_enumerate (by decide) (F.typeCall_enumerate_1 _) (F.newCall_enumerate_1 _) (fun obj=>Le obj _) F.entry_enumerate_new (Qc1 l items n dct f) ⟨g,?_⟩;have a:(s.heap.push { cls:=.type "tuple_iterator",data:=.fields #[.ref l,.int 0 0] }).objs.size=s.heap.objs.size+1:=FJ ..;show _/\_;rw[a]
 have d:IsEnum ((s.heap.push { cls:=.type "tuple_iterator",data:=.fields #[.ref l,.int 0 0] }).push { cls:=.type "enumerate",data:=.fields #[.none,.bool false,.ref s.heap.objs.size,rawInt 0,.none,.none] }) (s.heap.objs.size+1) s.heap.objs.size 0 .none:=by
  rw[<-a];exact Ny _ rfl
 exact⟨⟨_,d,rfl⟩,h _ d ⟨_,Ni _ (Ny _ rfl),rfl,rfl⟩ fun b o x=>Ni _ (Ni _ x)⟩
theorem Qav(hit:s.heap.IsTupleIter it l i)(e:s.heap.IsTuple l items)(d:items[i]?=some x)
  (g:∀h',h'.IsTupleIter it l (i+1)->Heap.SameBut it s.heap h'->Q x { s with heap:=h' }):wpAny (model prog w) A (Builtin.SmallTypes.nextOf (.ref it)) Q E s:=by
 obtain⟨o,a,f,hd⟩:=id hit;obtain⟨ol,b,_,nl,c⟩:=e;unfold Builtin.SmallTypes.nextOf;refine Na (Ej (name:=Str.ofString "__next__") hit.typeIs De (Eb De hit.typeIs FR ?_ (FO _)));refine(show wpAny _ _ (field (.ref it) 0>>=_) _ _ s from Na (EE a hd (x:=.ref l) rfl (show wpAny _ _ (if(Value.ref l==Value.none)=true then _ else _) _ _ s from ?_)));rw[if_neg (show¬((Value.ref l==Value.none)=true)from N9)];refine(show wpAny _ _ (field (.ref it) 1>>=_) _ _ s from Na (EE a hd (x:=.int i 0) rfl ?_));refine(show wpAny _ _ (seqItems? (.ref l)>>=_) _ _ s from Na (D3 b c ?_));simp only[En,d];refine Na (Ex a hd (by simp) (Ng ⟨x,rfl,Ng (g _ ⟨_,Ea _ a (Fq (Db hd _)),(L4 ..).trans f,by rw[Db hd];simp[rawInt]⟩ (NV ..))⟩))
theorem Qa0(f:A.handled=none)(hit:s.heap.IsTupleIter it l i)(h:s.heap.IsTuple l items)(g:items[i]?=none)
  (j:∀h' e,Heap.ExtBut it s.heap h'->(∃o,h'.get? e=some o/\o.cls=.type "StopIteration")->E (.ref e) { s with heap:=h' }):wpAny (model prog w) A (Builtin.SmallTypes.nextOf (.ref it)) Q E s:=by
 obtain⟨o,c,n,hd⟩:=id hit;obtain⟨ol,b,_,nl,d⟩:=h;unfold Builtin.SmallTypes.nextOf;refine Na (Ej (name:=Str.ofString "__next__") hit.typeIs De (Eb De hit.typeIs FR ?_ (FO _)));refine(show wpAny _ _ (field (.ref it) 0>>=_) _ _ s from Na (EE c hd (x:=.ref l) rfl (show wpAny _ _ (if(Value.ref l==Value.none)=true then _ else _) _ _ s from ?_)));rw[if_neg (show¬((Value.ref l==Value.none)=true)from N9)];refine(show wpAny _ _ (field (.ref it) 1>>=_) _ _ s from Na (EE c hd (x:=.int i 0) rfl ?_));refine(show wpAny _ _ (seqItems? (.ref l)>>=_) _ _ s from Na (D3 b d ?_));simp only[En,g];refine Na (D5 (Na (Ex c hd (by simp) (Na ?_))));simp only[newExc,newTuple];refine Na (NY ?_ (by size_fits));refine Na (m:=firstArgMember _ _) (ER (a:=Value.none) (by first|rfl|(simp only[firstArgMember];rfl)) (NY ?_ (by size_fits)));simp only[raiseNew];refine Na (Lj ?_)
 first|rw[show A.in1.handled=none from f]|rw[f]
 exact Na (Ng (Oc (j _ _ (((NV ..).extBut.push _).push _) ⟨_,Ny _ rfl,rfl⟩)))
theorem tit_at{h h':Heap}(x:h.IsTupleIter a t i)(e:∀o,h.get? a=some o->h'.get? a=some o):h'.IsTupleIter a t i:=by obtain⟨o,b,r⟩:=x;exact⟨o,e _ b,r⟩
theorem Gq{h h':Heap}(x:h.IsTuple a items)(e:∀o,h.get? a=some o->h'.get? a=some o):h'.IsTuple a items:=by obtain⟨o,b,r⟩:=x;exact⟨o,e _ b,r⟩
theorem drawsT(g:A.handled=none)(it l:Addr)(b:l≠it)(items:Array Value):Draws prog w A it [it,l] items.size (fun i v=>items[i]?=some v) (fun i h=>h.IsTupleIter it l i/\h.IsTuple l items) where
 live:=fun _ _ x=>let⟨o,h,_⟩:=x.1;⟨o,h⟩
 frame:=fun _ _ _ st d=>⟨tit_at st.1 fun o e=>d it (by simp) o e,Gq st.2 fun o e=>d l (by simp) o e⟩
 item:=fun i s Q E f st j=>Qav st.1 st.2 (x:=items[i]) (by simp[f]) fun n a c=>j _ n s.toks (by simp[f]) ⟨a,st.2.extBut c.extBut b⟩ c
 done:=fun s Q E st m=>Qa0 g st.1 st.2 (by simp) m
end
end St
namespace L2
noncomputable def Ite(K:Nd)(a:Addr)(n:Nat):It:=
  ⟨fun i H=>i<n/\∃b,SqT K H a b/\b.length=n,
   fun i H v c=>∃T x,v=.ref T/\H T=none/\c=upd H T (.tup [.int i,x])/\∀b,SqT K H a b->b[i]?=some x,
   fun i H=>n<=i/\∃b,SqT K H a b/\b.length=n⟩
theorem QaT{K:Nd}(l e it:Addr)(n:Nat)(c:e≠it)(C:l≠e)(B:l≠it):Turn P w K (.Tuple L kk pos) (Ite K l n) [e,it] e (fun i h=>i<=n/\(∃old,IsEnum h e it i old)/\h.IsTupleIter it l i) where
 mem:=by simp
 obj:=fun i h st b d=>by
  obtain⟨_,⟨old,g⟩,⟨Y,e1,c1,d1⟩⟩:=st;have j:b=e\/b=it:=by simpa using d
  rcases j with rfl|rfl
  ·exact⟨_,g,fun v q=>nomatch q⟩
  ·exact⟨Y,e1,fun v q=>by rw[d1]at q;cases q⟩
 keep:=fun i h h' st k=>by
  obtain⟨m,⟨old,g⟩,h1⟩:=st;exact⟨m,⟨old,k e (by simp) _ g⟩,St.tit_at h1 fun o x=>k it (by simp) o x⟩
 item:=by
  intro X J hw hK hc i z s σ H E I U st hg;subst J hw hK;obtain⟨m,M,R,Z⟩:=hg;obtain⟨a,Q,p,hz⟩:=I.tuple R;have hl:=Q.length;obtain⟨_,N,O⟩:=st;have W:=L5 (prog:=X.prog) (w:=X.w) (St.drawsT (A:=X.A.in1) (I.ok.hd hc) it l B a.toArray) e c (by simp[c,Dl C]) (by simp);refine W.item i s _ _ (by rw[Nh];exact Nl (Nl m (Nx Z.symm)) (Nx hl)) ⟨N,O,p⟩ fun T vals h' tk J hT F f hk=>?_;obtain⟨t,u,hu,rfl⟩:=J;refine⟨.ref T,rfl,W.go L kk pos i T _ _ _ f fun ai G D=>?_⟩;obtain⟨x,hx⟩:∃x,M[i]?=some x:=⟨M[i]'(Nl m (Nx Z.symm)),Nk _⟩
  obtain⟨v,hv,r⟩:=Q.get hx;have e1:v=u:=by have:=hu;rw[Fp,hv]at this;exact Ed this
  subst e1;have ae:=W.apart i T _ f
  have af:IsTup ai T #[.int i t,v]:=by
   obtain⟨o,S,ab,q⟩:=F;exact⟨o,D T o ae S,ab,q⟩
  have ah:=I.hok.fresh hT;refine⟨.ref T,_,I.turnedN (ch:=[e,it]) (t':=tk) (xs:=[.int i,x]) (fun b o d e=>D b o d (hk b o d e)) U hT ⟨by simp[Dj],[.int i t,v],.cons ⟨t,rfl⟩ (.cons r .nil),af⟩,rfl,⟨T,x,rfl,ah,rfl,fun ys hy=>by rw[I.tuple_inj hy R];exact hx⟩,⟨m,G.1,G.2.1⟩,fun b d=>?_⟩;rw[Qy (fun q=>?_)]
  ·exact(U b d).1
  ·obtain⟨o,S,_⟩:∃o,s.heap.get? b=some o/\True:=by
    obtain⟨old,g⟩:=N;obtain⟨Y,e1,_⟩:=O;have j:b=e\/b=it:=by simpa using d
    rcases j with rfl|rfl
    ·exact⟨_,g,trivial⟩
    ·exact⟨Y,e1,trivial⟩
   rw[q]at S;exact absurd (Nz S) (N4.mpr hT)
 done:=by
  intro X J hw hK hc i z s σ H E I U st hg;subst J hw hK;obtain⟨m,M,R,Z⟩:=hg;obtain⟨a,Q,p,hz⟩:=I.tuple R;have hl:=Q.length;obtain⟨aj,N,O⟩:=st;have W:=L5 (prog:=X.prog) (w:=X.w) (St.drawsT (A:=X.A.in1) (I.ok.hd hc) it l B a.toArray) e c (by simp[c,Dl C]) (by simp);have aa:a.toArray.size=i:=by rw[Nh];lia
  refine W.done s _ _ (by rw[aa];exact⟨N,O,p⟩) fun h' tk hk=>⟨rfl,?_⟩
  exact I.turnedL (ch:=[e,it]) (fun b o d e=>hk b o d e) U (fun _ _ e=>e) (fun _ _ _ n=>n) fun b u n e=>by rw[n]at e;cases e
 self:=fun _ _ _ _ _ st h=>let⟨_,g⟩:=st.2.1;L6 g h
noncomputable def Qj7(K:Nd)(f:TA):TI:=fun d H R=>f d H fun e c=>∃a b,e=[.ref a]/\SqT K c a b/\R (Ite K a b.length) c
theorem Qf0{X:Cx}{i:List Expr}(F:Gl X "enumerate")(D:X.mg "enumerate"=none)(G:PA X [a] v)(A:starEach [a] X.env=[(false,eval a X.env)]:=by rfl) :
  PI X (.Tuple i P j) (.Call (.Name "enumerate" p) [a] [] pos) (Qj7 X.K v):=by
 intro d s o H R I h;refine Call_ (VA I F D boot_enumerate (Eg (thn (G pos d s o H _ I h) fun M c r=>?_) A rfl));obtain⟨L,J,I1,x,y⟩:=r;obtain⟨ad,t,e,B,q⟩:=y;subst e;obtain⟨u,rfl,w⟩:=UN x;cases w;obtain⟨z,O,l,Q⟩:=I1.tuple B;have f:ad<c.heap.objs.size:=let⟨_,C,_⟩:=l;Nz C
 refine St.enumT l fun S m hit E=>L6 m ?_;refine⟨c.heap.objs.size+1,[c.heap.objs.size+1,c.heap.objs.size],_,_,J,rfl,I1.kept (t':=c.toks) E,QaT ad _ _ t.length (Nat.succ_ne_self _) (NS (Fd f)) (NS f),⟨Ei _,⟨_,m⟩,hit⟩,fun b n=>?_,q⟩
 have g:c.heap.objs.size<=b:=by
  simp at n
  rcases n with h|h<;>(rw[h];first|exact Nw _|exact NJ _ _)
 exact I1.fpOk g (I1.hok.fresh g)
end L2
namespace Mi
open L2
noncomputable def Xo(ws:List W):List W:=ws.zipIdx.map fun q=>.tup [.int q.2,q.1]
noncomputable def YC(c:MA):MI:=fun a h=>(c a h).bind fun p=>match p.1 with
 |[.tup b]=>some (Xo b,none,p.2)
 |_=>none
section
variable{K:Nd}{R:Rn}
theorem Qa6(l:SqT K R.F a xs)(r:Rws K R ws xs):ItOk K R (Ite K a xs.length) (Xo ws) none where
 go:=fun i w n h H x d _ e=>by
  have c:=(Nj.mp e).1;have g:=r.length;unfold Xo at c;rw[NB,LJ]at c;exact⟨by exact Nl c (Nx g),xs,Zj (fun b o z=>d.sub b o (x.f b o z)) l,rfl⟩
 yld:=fun i w n h H x D e d _ m p=>by
  obtain⟨T,A,rfl,s,rfl,q⟩:=p;unfold Xo at m;rw[Nu,Lf]at m;obtain⟨⟨C,j⟩,y,rfl⟩:=Nf.mp m;obtain⟨B,u,t⟩:=Nf.mp y;cases t;obtain⟨v,g1,g2⟩:=r.get u;have e1:=q xs (Zj (fun b o z=>d.sub b o (e.f b o z)) l);rw[g1]at e1;cases e1;rw[N1];exact d.tup s (Rws.cons (by unfold Rw;rfl) (Rws.cons (Rw.mono e _ _ g2) Rws.nil))
 stop:=fun i n h H x d _ c=>by
  have g:=r.length;unfold Xo at c;rw[NB,LJ]at c;exact⟨by exact Nn (Nx g.symm) c,xs,Zj (fun b o z=>d.sub b o (x.f b o z)) l,rfl⟩
end
section
variable{X:Cx}{tg a:Expr}{ms:MA}{p pos tpos:Pos}{elts:List Expr}{kk:Nat}
theorem QdV(u:Gl X "enumerate")(t:X.mg "enumerate"=none)(w:PMA X [a] ms)(s:starEach [a] X.env=[(false,eval a X.env)]:=by rfl):PMI X (.Tuple elts kk tpos) (.Call (.Name "enumerate" p) [a] [] pos) (YC ms):=
 Gr (Qf0 u t w s) fun z H C i=>by
  obtain⟨R,c,h,items,n,D,r,st,e,k⟩:=i;obtain⟨⟨m,x⟩,e1,e2⟩:=Nc.mp e;refine⟨R,c,h,m,x,r,st,e1,fun R1 y A l b o=>?_⟩;split at e2
  ·rename_i B f;simp only at f;subst f;cases e2;obtain⟨v,rfl,d⟩:=GW o;unfold Rw at d;obtain⟨ad,j,rfl,g,q⟩:=d;exact⟨ad,j,rfl,Zj b.sub g,k R1 y _ l b (Qa6 g q)⟩
  ·cases e2
end
theorem QiZ{K:Nd}(X:K.In h)(G:h.Ns mainGlobals b)(a:DY K mainGlobals x=some (some (.str y t))):Glob K b x (.str y):=
 ⟨.str y,_,DJ X G a,⟨t,rfl⟩,fun _=>Rw.str y⟩
noncomputable def frD:W->List Nat
 |.tup (.ref j::_)=>[j]
 |_=>[]
@[simp]theorem QkP:QfT h (.ref n)=match h[n]? with|some (.dic kvs)=>some kvs|_=>none:=id rfl
@[simp]theorem Qmx:QiQ a (.str x) h=@ob _ _ (fun kvs=>@om _ _ (fun v=>(v,h)) (QaO kvs (.inr x))) (QfT h a):=id rfl
noncomputable def Qb4(o:W)(k:Key)(v:W)(σ:MSt)(h:MH):Option MF:=match o with
 |.ref n=>match h[n]? with
  |some (.dic kvs)=>if kvs.length<sizeLine then some (.nx σ (h.set n (.dic (QgC kvs k v))))else none
  |_=>none
 |_=>none
@[simp]theorem QkK:QbP mo mi a σ h=@ob _ _ (fun v=>@ob _ _ (fun o=>@ob _ _ (fun i=>@ob _ _ (fun k=>Qb4 o.1 k v.1 σ i.2) (QgP i.1)) (mi σ o.2)) (mo σ v.2)) (a σ h):=by
 unfold QbP ob Qb4;rfl
@[simp]theorem Qlv:QgP (.str x)=some (.inr x):=id rfl
@[simp]theorem QiL:Qb4 (.ref n) k v σ h=match h[n]? with
  |some (.dic kvs)=>if kvs.length<sizeLine then some (.nx σ (h.set n (.dic (QgC kvs k v))))else none
  |_=>none:=id rfl
@[simp]theorem Qk4:QdX σ h=some (.ref h.length,h++[.dic []]):=id rfl
noncomputable def Qdu(a:W)(ws:List W)(h:MH):Option (W×MH):=match ws with
 |[b,v]=>(QfT h a).bind fun kvs=>(QgP b).map fun k=>((QaO kvs k).getD v,h)
 |_=>none
section
variable{X:Cx}
theorem QcT(hu:X.A.units+64<cLine):Qfo X "dict.get" Qdu:=by
 intro g s P H x S v us Q I u B q;obtain⟨R,h,a,T,w,h',f,E,d,e,k⟩:=q;unfold Qdu at e;split at e
 ·rename_i b dv;obtain⟨kvs,e1,e2⟩:=Nc.mp e;obtain⟨i,N,M⟩:=Nf.mp e2;cases M;obtain⟨n,rfl,G⟩:=Gi e1;obtain⟨y,z,rfl,D,C⟩:=Qjy d;obtain⟨Z,Y,rfl,t,r⟩:=QfX B;obtain⟨_,J,kx,F,O⟩:=f.dicAt E G;have L:=Wl D N;subst L J;obtain rfl:v=Value.ref (R.ρ n):=u;refine Qhy (Eo (EZ (by decide) _) hu) I (DGet.k (k:=i) F) t r fun p s' j c=>?_
  rcases UH (k:=i) O with z|⟨p,U,o,m,l⟩
  ·rw[z.2]at c;rw[z.1]at k;exact⟨_,H,j,c,k R H _ (Ext.refl _) f C⟩
  ·rw[m]at c;rw[o]at k;exact⟨_,H,j,c,k R H _ (Ext.refl _) f l⟩
 ·cases e
@[simp]theorem Qlk:Qdu a [.str x,v] h=@ob _ _ (fun kvs=>some ((QaO kvs (.inr x)).getD v,h)) (QfT h a):=id rfl
end
end Mi
namespace Sb
open PySem SetTable
noncomputable abbrev pz(t:SetTable)(es:Array (Int×Value)):List (Nat×(Int×Value)):=t.place.toList.zip es.toList
structure Tab(t:SetTable)(es:Array (Int×Value)):Prop where
 up:Up t.place
 dum:t.dummies=#[]
 len:t.place.size=es.size
 le:∀j∈t.place.toList,j<=t.mask
 own:∀q∈pz t es,∃n,sj t.mask q.2.1 n=q.1/\∀k,k<n->sj t.mask q.2.1 k∈t.place.toList
theorem Tab.fill(T:Tab t es):t.fill=es.size:=by
 unfold SetTable.fill;rw[T.dum,T.len];rfl
theorem Tab.fits(T:Tab t es)(h:es.size<=t.mask):t.fits es.size=true:=by
 unfold SetTable.fits;rw[T.fill,T.len];simp[h]
theorem Gn(xs:Array a)(p:Nat)(x:a)(b:p<=xs.size):(insertAt xs p x).toList=xs.toList.take p++x::xs.toList.drop p:=by
 unfold insertAt;simp[E6]
theorem QcJ(x:d)(y:c):∀{l:List d} {k:List c} (_:l.length=k.length) (p:Nat),(l.take p++x::l.drop p).zip (k.take p++y::k.drop p)=(l.zip k).take p++(x,y)::(l.zip k).drop p
 |[],[],_,p=>by simp
 |a::l,b::k,_,0=>rfl
 |a::l,b::k,h,p+1=>by
  have:=QcJ x y (l:=l) (k:=k) (by simpa using h) p;simpa using this
theorem ins_mem{l:List a}:y∈l.take p++x::l.drop p↔y=x\/y∈l:=by
 rw[NI,Nv]
 conv=>rhs;rw[<-Ep p l,NI]
 constructor
 ·rintro(h|h|h)
  ·exact .inr (.inl h)
  ·exact .inl h
  ·exact .inr (.inr h)
 ·rintro(h|h|h)
  ·exact .inr (.inl h)
  ·exact .inl h
  ·exact .inr (.inr h)
theorem up_list:Up xs↔xs.toList.Pairwise (·<·):=by
 rw[List.pairwise_iff_getElem];constructor
 ·intro up i j d c a;have b:j<xs.size:=by rwa[NA]at c
  have:=up i j a b;simpa[At,Array.getD,b,show i<xs.size by exact Eo a b]using this
 ·intro h i j a c;have:=h i j (by rw[NA];exact Eo a c) (by rw[NA];exact c) a;simpa[At,Array.getD,c,show i<xs.size by exact Eo a c]using this
theorem Qae(up:Up xs)(j:Nat):(∀x∈xs.toList.take (below xs j),x<j)/\∀x∈xs.toList.drop (below xs j),j<=x:=by
 obtain⟨e,d,c⟩:=Kk up j;constructor
 ·intro x b;obtain⟨i,a⟩:=ND.mp b;rw[List.getElem?_take]at a;split at a
  ·rename_i lt;rw[N3,at_get (Nl lt e)]at a;cases a;exact d i lt
  ·cases a
 ·intro x b;obtain⟨i,a⟩:=ND.mp b;rw[D1,N3]at a;have lt:below xs j+i<xs.size:=(FW.mp a).1;rw[at_get lt]at a;cases a;exact c _ (NJ _ _) lt
theorem Qad(T:Tab t es)(w:sj t.mask h N<=t.mask)(hN:sj t.mask h N∉t.place.toList)(A:∀n,n<N->sj t.mask h n∈t.place.toList) :
  (t.put (sj t.mask h N)).1.mask=t.mask/\(t.put (sj t.mask h N)).1.led=t.led/\(t.put (sj t.mask h N)).1.moves=t.moves/\Tab (t.put (sj t.mask h N)).1 (insertAt es (t.put (sj t.mask h N)).2 (h,x))/\(insertAt es (t.put (sj t.mask h N)).2 (h,x)).toList.Perm ((h,x)::es.toList):=by
 obtain⟨r,G,F⟩:=Kk T.up (sj t.mask h N);have c:(t.put (sj t.mask h N)).1.place.toList=t.place.toList.take (below t.place (sj t.mask h N))++sj t.mask h N::t.place.toList.drop (below t.place (sj t.mask h N)):=Gn _ _ _ r;have e:(insertAt es (t.put (sj t.mask h N)).2 (h,x)).toList=es.toList.take (below t.place (sj t.mask h N))++(h,x)::es.toList.drop (below t.place (sj t.mask h N)):=Gn _ _ _ (by rw[<-T.len];exact r);have i:t.place.toList.length=es.toList.length:=by rw[NA,NA,T.len]
 refine⟨rfl,rfl,rfl,⟨?_,?_,?_,?_,?_⟩,?_⟩
 ·rw[up_list,c,List.pairwise_append];obtain⟨D,C⟩:=Qae T.up (sj t.mask h N);have o:=up_list.mp T.up
  have hd:∀y∈t.place.toList.drop (below t.place (sj t.mask h N)),sj t.mask h N<y:=fun y p=>by
   have m:=C y p;have E:y≠sj t.mask h N:=fun z=>hN (by rw[<-z];exact Eu p);lia
  refine⟨o.take,?_,?_⟩
  ·rw[List.pairwise_cons];exact⟨hd,o.drop⟩
  ·intro a B b f;have m:=D a B
   rcases Nv.mp f with rfl|f
   ·exact m
   ·have:=hd b f;exact Eo m this
 ·show(if has t.dummies (sj t.mask h N)then _ else t.dummies)=#[];rw[T.dum];rfl
 ·rw[<-NA,<-NA,c,e];simp[T.len]
 ·intro j g;rw[c,ins_mem]at g
  rcases g with rfl|g
  ·exact w
  ·exact T.le j g
 ·intro q v
  have d:q∈(t.place.toList.take (below t.place (sj t.mask h N))++sj t.mask h N::t.place.toList.drop (below t.place (sj t.mask h N))).zip (es.toList.take (below t.place (sj t.mask h N))++(h,x)::es.toList.drop (below t.place (sj t.mask h N))):=by
   rw[<-c,<-e];exact v
  rw[QcJ _ _ i,ins_mem]at d;rw[c]
  rcases d with rfl|d
  ·exact⟨N,rfl,fun k l=>ins_mem.mpr (.inr (A k l))⟩
  ·obtain⟨n,u,s⟩:=T.own q d;exact⟨n,u,fun k l=>ins_mem.mpr (.inr (s k l))⟩
 ·rw[e];refine Oj.trans (List.Perm.cons _ ?_);rw[Ep]
theorem Qf4(m:Nat)(h:Int):∀n,sj m h n<=m/\(sq m h n).j+(sq m h n).more<=m
 |0=>by
  have h1:=Qgd m h 0;have b:=Qba h1;have a:=Gf m (bk m h 0).1;exact⟨h1,show(bk m h 0).1+(runEnd m (bk m h 0).1-(bk m h 0).1)<=m by lia⟩
 |n+1=>by
  obtain⟨h1,b⟩:=Qf4 m h n;show(adv m (sq m h n)).j<=m/\(adv m (sq m h n)).j+(adv m (sq m h n)).more<=m;unfold adv;split
  ·rename_i c;exact⟨by show(sq m h n).j+1<=m;lia,by show(sq m h n).j+1+((sq m h n).more-1)<=m;lia⟩
  ·have a:(leap m (sq m h n).i (sq m h n).perturb).1<=m:=Fa (Ic _ (FC _));have e:=Qba a;have d:=Gf m (leap m (sq m h n).i (sq m h n).perturb).1;exact⟨a,show(leap m (sq m h n).i (sq m h n).perturb).1+(runEnd m (leap m (sq m h n).i (sq m h n).perturb).1-(leap m (sq m h n).i (sq m h n).perturb).1)<=m by lia⟩
noncomputable abbrev Ow(o:Array (Option Nat))(j:Nat):Option Nat:=o.getD j none
structure Lay(m:Nat)(hs:List Int)(o:Array (Option Nat)):Prop where
 size:o.size=m+1
 own:∀j k,Ow o j=some k->∃h,hs[k]?=some h/\∃n,sj m h n=j/\∀i,i<n->(Ow o (sj m h i)).isSome=true
 all:∀k,k<hs.length->∃j,Ow o j=some k
 one:∀j j' k,Ow o j=some k->Ow o j'=some k->j=j'
theorem Qjm(h:Ow o j=some k):j<o.size:=by
 rcases DE j o.size with z|z
 ·exact z
 ·simp[Ow,Array.getD,N4.mpr z]at h
theorem Qf5(L:Lay m a o)(d:a.length<=m):∃x,x<=m/\Ow o x=none:=by
 obtain⟨x,b,c⟩:=Qh6 (m:=m) (l:=(List.range a.length).map fun k=>if h:k<a.length then Classical.choose (L.all k h)else 0) (by simp;exact d);refine⟨x,b,?_⟩;cases e:Ow o x with
 |none=>rfl
 |some k=>
  exfalso;obtain⟨h,f,_⟩:=L.own x k e;have lt:k<a.length:=(Nj.mp f).1;refine c (No.mpr ⟨k,NU.mpr lt,?_⟩);rw[dif_pos lt];exact L.one _ _ k (Classical.choose_spec (L.all k lt)) e
theorem QcN{m:Nat}(h:Int){o:Array (Option Nat)}(r:o.size=m+1){K:Nat}(j:Ow o (bk m h K).1=none):∀(f k:Nat),k<=K->K<k+f->(∀n,n<ps m h k->(Ow o (sj m h n)).isSome=true) ->
  ∃n,layClean.free m o f (bk m h k).1 (bk m h k).2=some (sj m h n)/\Ow o (sj m h n)=none/\∀i,i<n->(Ow o (sj m h i)).isSome=true
 |0,k,h1,t,_=>by omega
 | f+1,k,h1,t,l=>by
  unfold layClean.free
  have g:∀c,c<=runEnd m (bk m h k).1-(bk m h k).1->(bk m h k).1+c<o.size:=fun c a=>by
   have:=Qba (Qgd m h k);have:=Gf m (bk m h k).1;omega
  have get:∀c,c<=runEnd m (bk m h k).1-(bk m h k).1->o.getD ((bk m h k).1+c) (some 0)=Ow o (sj m h (ps m h k+c)):=fun c a=>by
   rw[Qgc m h k c a];simp[Ow,Array.getD,g c a]
  have hr:runEnd m (bk m h k).1+1-(bk m h k).1=runEnd m (bk m h k).1-(bk m h k).1+1:=by
   have:=Gf m (bk m h k).1;lia
  rw[hr];split
  ·rename_i c a;rw[List.find?_range_eq_some]at a;obtain⟨q,v,u⟩:=a;rw[NU]at v;rw[get c (by lia)]at q;refine⟨ps m h k+c,by rw[Qgc m h k c (by omega)],by simpa using q,fun i s=>?_⟩
   rcases DE i (ps m h k)with z|z
   ·exact l i z
   ·have p:=u (i-ps m h k) (DR z s);rw[get _ (by lia),show ps m h k+(i-ps m h k)=i by exact FF z]at p;revert p;cases Ow o (sj m h i)<;>simp
  ·rename_i a
   have b:∀n,n<ps m h (k+1)->(Ow o (sj m h n)).isSome=true:=by
    intro n w
    rcases DE n (ps m h k)with z|z
    ·exact l n z
    ·have e:ps m h (k+1)=ps m h k+(runEnd m (bk m h k).1-(bk m h k).1)+1:=rfl;rw[List.find?_eq_none]at a;have:=a (n-ps m h k) (NU.mpr (by lia));rw[get _ (by lia),show ps m h k+(n-ps m h k)=n by exact FF z]at this;revert this;cases Ow o (sj m h n)<;>simp
   have d:k<K:=by
    rcases DE k K with z|z
    ·exact z
    ·have:k=K:=by exact Fx h1 z
     subst this;have:=b (ps m h k+0) (by show _<ps m h k+_+1;lia);rw[Qgc m h k 0 (Ei _),Nat.add_zero,j]at this;cases this
   exact QcN h r j f (k+1) d (by lia) b
theorem Ys(a:j<o.size):Ow (o.setIfInBounds j (some k)) i=if i=j then some k else Ow o i:=by
 by_cases c:i=j
 ·subst c;simp[Ow,Array.getD,a]
 ·rw[if_neg c];unfold Ow;rw[DG,DG,Array.getElem?_setIfInBounds_ne (Dl c)]
theorem Qe3(F:Full m)(L:Lay m p o)(G:p.length<=m)(h:Int) :
  ∃j,layClean.free m o (turns m) (bits h%(m+1)) (bits h)=some j/\Lay m (p++[h]) (o.setIfInBounds j (some p.length)):=by
 obtain⟨x,E,s⟩:=Qf5 L G;obtain⟨K,H,e⟩:=QeW F h E;obtain⟨n,B,A,y⟩:=QcN h L.size (K:=K) (by rw[e];exact s) (turns m) 0 (Ei _) (by unfold turns;lia) (fun n s=>absurd s (Dv _))
 have f:sj m h n<o.size:=by
  have:=(Qf4 m h n).1;rw[L.size];exact NG this (EJ _)
 refine⟨sj m h n,B,?_,?_,?_,?_⟩
 ·rw[Array.size_setIfInBounds];exact L.size
 ·intro j k d;rw[Ys f]at d;split at d
  ·rename_i z;cases d;refine⟨h,by simp,n,z.symm,fun i t=>?_⟩;rw[Ys f];split
   ·rfl
   ·exact y i t
  ·obtain⟨u,r,C,w,v⟩:=L.own j k d;refine⟨u,?_,C,w,fun i t=>?_⟩
   ·rw[N5 (Nj.mp r).1];exact r
   ·rw[Ys f];split
    ·rfl
    ·exact v i t
 ·intro k d;rw[NC,EA]at d
  rcases DE k p.length with z|z
  ·obtain⟨j,c⟩:=L.all k z;refine⟨j,?_⟩;rw[Ys f,if_neg]
   ·exact c
   ·rintro rfl
    rw[A]at c;cases c
  ·refine⟨sj m h n,?_⟩;rw[Ys f,if_pos rfl];congr 1;lia
 ·have l:∀j,Ow o j≠some p.length:=fun j z=>by
   obtain⟨u,r,_⟩:=L.own j _ z;have:=(Nj.mp r).1;exact DI (N8 this) this
  intro j D k q g;rw[Ys f]at q g;split at q
  ·cases q;split at g
   ·rename_i a b;rw[a,b]
   ·exact absurd g (l _)
  ·split at g
   ·cases g;exact absurd q (l _)
   ·exact L.one j D k q g
theorem GC(F:Full m):∀(rest a:List Int) (o:Array (Option Nat)),Lay m a o->a.length+rest.length<=m ->
  ∃b,(rest.foldl (init:=some (o,a.length)) fun c h=>do
   let(owner,k) <-c
   let j <-layClean.free m owner (turns m) (bits h%(m+1)) (bits h)
   pure (owner.setIfInBounds j (some k),k+1))=some (b,a.length+rest.length)/\Lay m (a++rest) b
 |[],a,o,L,_=>⟨o,by simp,by simpa using L⟩
 | h::rest,a,o,L,d=>by
  rw[Es]at d;obtain⟨j,l,i⟩:=Qe3 F L (Nn (NJ _ _) d) h;obtain⟨b,g,f⟩:=GC F rest (a++[h]) _ i (by rw[NC,EA];lia);refine⟨b,?_,by simpa using f⟩;rw[IA]
  have e:((some (o,a.length):Option (Array (Option Nat)×Nat))>>=fun p=>layClean.free m p.1 (turns m) (bits h%(m+1)) (bits h)>>=fun j=>pure (p.1.setIfInBounds j (some p.2),p.2+1))=some (o.setIfInBounds j (some a.length),(a++[h]).length):=by
   show(layClean.free m o (turns m) (bits h%(m+1)) (bits h)>>=fun j=>pure (o.setIfInBounds j (some a.length),a.length+1))=_;rw[l,NC];rfl
  refine(congrArg (fun z=>List.foldl _ z rest) e).trans (g.trans ?_);simp;exact LG _ _ _
theorem Qgx(m:Nat):Lay m [] (Array.replicate (m+1) none):=by
 have e:∀j,Ow (Array.replicate (m+1) none) j=none:=fun j=>by
  unfold Ow;rw[DG,Array.getElem?_replicate];split<;>rfl
 refine⟨Array.size_replicate,fun j k h=>?_,fun k h=>absurd h (Dv _),fun j a k h=>?_⟩
 ·rw[e]at h;cases h
 ·rw[e]at h;cases h
theorem U2(F:Full m)(a:Array Int)(b:a.size<=m):∃o,layClean m a=some o/\Lay m a.toList o:=by
 obtain⟨o,d,c⟩:=GC F a.toList [] _ (Qgx m) (by simpa using b);refine⟨o,?_,by simpa using c⟩;unfold layClean;rw[<-Array.foldl_toList];exact congrArg (fun z=>Option.map (·.1) z) d
theorem YX(f:c->Option d):∀(l:List c),((l.filterMap fun j=>(f j).map (j,·)).map (·.1)).Sublist l
 |[]=>.slnil
 |a::l=>by
  rw[Dq];cases f a with
  |none=>exact(YX f l).cons a
  |some b=>exact(YX f l).cons_cons a
theorem QdH{f:c->Option m}{l:List c}:p∈(l.filterMap fun j=>(f j).map (j,·))↔p.1∈l/\f p.1=some p.2:=by
 rw[FQ];constructor
 ·rintro⟨a,g,e⟩
  obtain⟨b,d,rfl⟩:=Nf.mp e;exact⟨g,d⟩
 ·rintro⟨i,h⟩
  exact⟨p.1,i,by rw[h];rfl⟩
theorem Qcn(f:b->d)(g:b->c):∀l:List b,(l.map f).zip (l.map g)=l.map fun x=>(f x,g x)
 |[]=>rfl
 |a::l=>by simp[Qcn f g l]
theorem Qea:∀(l:List d),(∀a∈l,f a=some (g a))->l.filterMap f=l.map g
 |[],_=>rfl
 |a::l,h=>by
  rw[Dq,h a Nr,NK,Qea l fun b c=>h b (Np _ c)]
theorem Uo[BEq d][LawfulBEq d]:∀(l k:List d),l.Nodup->k.Nodup->(∀x,x∈l↔x∈k)->l.Perm k
 |[],k,_,_,h=>by
  have:k=[]:=List.eq_nil_iff_forall_not_mem.mpr fun x b=>nomatch (h x).mpr b
  rw[this]
 | a::l,k,c,e,h=>by
  have f:=(h a).mp Nr;rw[Ek]at c;refine(List.Perm.cons a (Uo l (k.erase a) c.2 (e.erase a) fun x=>?_)).trans (Ld f).symm;rw[e.mem_erase_iff];constructor
  ·exact fun b=>⟨fun z=>c.1 (by rw[<-z];exact b),(h x).mp (Np _ b)⟩
  ·rintro⟨z,b⟩
   rcases Nv.mp ((h x).mpr b)with y|y
   ·exact absurd y z
   ·exact y
theorem laid_ok(F:Full m)(es:Array (Int×Value))(O:es.size<=m)(D C:Nat)(led t:Bool) :
  ∃t' u,laid m D C led t (es.map (·.1))=some (t',u)/\t'.mask=m/\t'.led=led/\t'.plain=t/\Tab t' (u.filterMap (es[·]?))/\(u.filterMap (es[·]?)).toList.Perm es.toList:=by
 obtain⟨o,M,L⟩:=U2 F (es.map (·.1)) (by simpa using O);have d:(es.map (·.1)).toList.length=es.size:=by simp
 let live:=(List.range (m+1)).filterMap fun j=>(o.getD j none).map (j,·)
 let g:Nat->Int×Value:=fun k=>es.getD k (0,.none)
 have e:∀p,p∈live↔p.1<m+1/\Ow o p.1=some p.2:=fun p=>by
  show p∈(List.range (m+1)).filterMap (fun j=>(o.getD j none).map (j,·))↔_;rw[QdH (f:=fun j=>o.getD j none),NU]
 have lk:∀p∈live,p.2<es.size:=fun p a=>by
  obtain⟨h,q,_⟩:=L.own p.1 p.2 ((e p).mp a).2;have:=(Nj.mp q).1;rwa[d]at this
 have lt:(live.map (·.1)).Pairwise (·<·):=List.Pairwise.sublist (YX (fun j=>o.getD j none) (List.range (m+1))) List.pairwise_lt_range;have y:∀k,k<es.size->es[k]?=some (g k):=fun k b=>by simp[g,Array.getD,b]
 have A:(((live.map (·.2)).toArray).filterMap (es[·]?)).toList=live.map fun p=>g p.2:=by
  rw[Array.toList_filterMap,ED,Qea (f:=fun k=>es[k]?) (g:=g),EG]
  ·rfl
  ·intro k b;obtain⟨p,a,rfl⟩:=No.mp b;exact y _ (lk p a)
 refine⟨{ mask:=m,place:=(live.map (·.1)).toArray,dummies:=#[],finger:=D,led:=led,moves:=C,plain:=t },(live.map (·.2)).toArray,?_,rfl,rfl,rfl,⟨?_,rfl,?_,?_,?_⟩,?_⟩
 ·unfold laid;rw[M];rfl
 ·rw[up_list];show((live.map (·.1)).toArray).toList.Pairwise _;rw[ED];exact lt
 ·have:=congrArg List.length A;rw[NA,NB]at this;rw[this];simp
 ·intro j s;have x:j∈live.map (·.1):=by simpa using s
  obtain⟨p,a,rfl⟩:=No.mp x;have:=((e p).mp a).1;show p.1<=m;lia
 ·intro q r;unfold pz at r;rw[A]at r;have l:q∈(live.map (·.1)).zip (live.map fun p=>g p.2):=by simpa using r
  rw[Qcn]at l;obtain⟨p,a,rfl⟩:=No.mp l;obtain⟨h,B,n,H,G⟩:=L.own p.1 p.2 ((e p).mp a).2
  have E:(g p.2).1=h:=by
   have e1:=y p.2 (lk p a);rw[N3,Array.getElem?_map,e1]at B;exact Ed B
  refine⟨n,?_,fun k b=>?_⟩
  ·show sj m (g p.2).1 n=p.1;rw[E];exact H
  ·show sj m (g p.2).1 k∈((live.map (·.1)).toArray).toList;rw[E,ED];have:=G k b;obtain⟨N,w⟩:=Ig.mp this;exact No.mpr ⟨(sj m h k,N),(e _).mpr ⟨by have:=(Qf4 m h k).1;show sj m h k<m+1;exact NG this (EJ _),w⟩,rfl⟩
 ·rw[A]
  have J:(live.map (·.2)).Perm (List.range es.size):=by
   refine Uo _ _ ?_ Ol fun k=>?_
   ·unfold List.Nodup;rw[L7];rw[L7]at lt;refine List.Pairwise.imp_of_mem ?_ lt;intro p q a r v z;have:=L.one p.1 q.1 p.2 ((e p).mp a).2 (by rw[z];exact((e q).mp r).2);exact DI (Nx this.symm) v
   ·rw[NU];constructor
    ·intro b;obtain⟨p,a,rfl⟩:=No.mp b;exact lk p a
    ·intro b;obtain⟨j,s⟩:=L.all k (by rw[d];exact b);have:=Qjm s;rw[L.size]at this;exact No.mpr ⟨(j,k),(e _).mpr ⟨this,s⟩,rfl⟩
  have I:(live.map fun p=>g p.2).Perm ((List.range es.size).map g):=by
   have:=J.map g;rwa[EG]at this
  refine I.trans ?_
  have:(List.range es.size).map g=es.toList:=by
   apply FX;intro i;rw[Nu]
   by_cases c:i<es.size
   ·rw[Ey c];exact(y i c).symm.trans (N3 ..).symm
   ·rw[Ez (by simpa using c),Ez (by simpa using c)];rfl
  rw[this]
end Sb
namespace Mi
open L2
theorem Jh:fillsNumberSlot (.type "tuple") "mul"=pure false:=PySem.fillsNumberSlot_seq (id:="tuple.__mul__") (r:=some (.builtin "tuple.__rmul__")) E7.lookup (by decide +kernel) Iu.lookup (by decide +kernel)
theorem VM:seqRepeat? (.type "tuple")=pure (some (.builtin "tuple.__mul__")):=by
 unfold seqRepeat?;rw[Om (T:="tuple") (name:="__mul__") (id:="tuple.__mul__") E7.lookup (by decide +kernel),Om (T:="tuple") (name:="__rmul__") (id:="tuple.__rmul__") Iu.lookup (by decide +kernel)];rfl
theorem GG(items:Array Value)(k:Nat):List.foldl (fun c b=>c++b) #[] (List.replicate k items)=(List.replicate k items.toList).flatten.toArray:=by
 have:∀(k:Nat) (a:Array Value),List.foldl (fun c b=>c++b) a (List.replicate k items)=(a.toList++(List.replicate k items.toList).flatten).toArray:=by
  intro k
  induction k with
  |zero=>intro a;simp
  |succ k d=>intro a;rw[Em,IA,d,Em,EV];simp
 simpa using this k #[]
theorem YE{a:Type}(l:List a):∀k:Nat,(List.replicate k l).flatten.length=l.length*k
 |0=>rfl
 |k+1=>by rw[Em,EV,NC,YE l k,Nat.mul_succ];exact Nat.add_comm _ _
theorem XR(a:Int)(t:Tok)(l:Addr)(items:Array Value)(n:Nat)(e:Option Addr)(c:Array (Option Value)) :
  Meets (Builtin.«int.__rmul__» ⟨[.int a t,.ref l],[]⟩) (fun _ R s=>s.heap.get? l=some { cls:=.type "tuple",dict:=e,data:=.seq items n,slots:=c }/\R (.ok (.ret Value.notImplemented)) s):=
 .of_wp fun b w A R s h=>by obtain⟨i,g,d,f,os⟩:=s;obtain⟨j,h⟩:=h;wp_walk;exact⟨_,rfl,h⟩
theorem Qbe(l:Addr)(items:Array Value)(n:Nat)(p:Option Addr)(i:Array (Option Value))(x:Int)(u:Tok)(b:items.isEmpty=false)(h1:2<=x)(o:x<=1000)(m:items.size<=1000) :
  Meets (Builtin.«tuple.__mul__» ⟨[.ref l,.int x u],[]⟩) (fun _ R s=>s.heap.get? l=some { cls:=.type "tuple",dict:=p,data:=.seq items n,slots:=i } /\
   R (.ok (.ret (.ref s.heap.objs.size))) { s with heap:=s.heap.push { cls:=.type "tuple",data:=.seq ((List.replicate x.toNat items).foldl (·++·) #[]) } }):=
 .of_wp fun a w A R s h=>by
  obtain⟨z,g,d,y,os⟩:=s;obtain⟨j,h⟩:=h;have f1:=Ik
  have v:(decide (x < -(2^63:Int)) ||decide (x >= 2^63))=false:=by
   rw[decide_eq_false (by lia),decide_eq_false (by lia)];rfl
  have t:(items.isEmpty ||x==1)=false:=by
   rw[b];have:(x==1)=false:=beq_eq_false_iff_ne.mpr (by lia);rw[this];rfl
  have r:(decide (x<=0) ||items.isEmpty)=false:=by
   rw[b,decide_eq_false (by lia)];rfl
  have B:(items.size:Int)*x<=1000000:=by
   have:=Int.mul_le_mul (show(items.size:Int)<=1000 by lia) o (by lia) (by decide);exact Int.le_trans this (by decide)
  wp_walk
  rw[if_neg (by rw[v];simp)];refine Na (Lx j rfl ?_);rw[if_neg (by rw[t];simp),if_neg (by rw[r];simp)];rw[if_neg (by lia)]
  have q:¬Builtin.Tuple.tupleTooMany ((items.size:Int)*x)=true:=by
   simp[Builtin.Tuple.tupleTooMany];have:sizeLine=16777216:=by decide
   lia
  rw[if_neg q];unfold Builtin.Tuple.tupleExact;refine Na (NY (Ng ⟨_,rfl,h⟩) ?_);show(List.foldl (fun f c=>f++c) #[] (List.replicate x.toNat items)).size<=sizeLine;rw[GG,Nh,YE];have:items.toList.length*x.toNat<=1000*1000:=FK (by rw[NA];exact m) (by lia);have e:sizeLine=16777216:=by decide
  lia
noncomputable def Qhk(a b:W)(h:MH):Option (W×MH):=match a,b with
 |.tup c,.int n=>if 2<=n/\n<=1000/\0<c.length/\c.length<=1000 then some (.tup (List.replicate n.toNat c).flatten,h)else none
 |_,_=>none
theorem UU{K:Nd}{R:Rn}{ws:List W}{xs:List V}(r:Rws K R ws xs):∀k:Nat,Rws K R (List.replicate k ws).flatten (List.replicate k xs).flatten
 |0=>by unfold Rws;rfl
 |k+1=>by
  rw[Em,Em,EV,EV];exact Rws.append r (UU r k)
theorem Wx{xs:List V}{us:List Value}(r:Vals xs us):∀k:Nat,Vals (List.replicate k xs).flatten (List.replicate k us).flatten
 |0=>.nil
 |k+1=>by
  rw[Em,Em,EV,EV];exact Vals.append r (Wx r k)
theorem Qdn{X:Cx}:OpR X (binaryOp .Mult) (F2 X.K Qhk):=by
 intro E s σ H x y v u Q I O N q;obtain⟨R,h,a,b,w,h',C,S,P,e,k⟩:=q;unfold Qhk at e;split at e
 ·split at e
  ·rename_i ws n f;cases e;obtain⟨ad,J,rfl,Y,D⟩:=C.tupAt S;have eb:=P.int_eq;subst eb;cases O;obtain⟨t,rfl⟩:=N;obtain⟨c,B,⟨⟨cls,G,data,A⟩,d,F,m,hd⟩,hz⟩:=I.tuple Y;simp only at F hd;subst F hd;have l:=D.length;have j:=B.length;have r:c≠[]:=fun z=>by rw[z,DP]at j;exact DI (Nn (Nx l) (Nx j)) f.2.2.1
   have p:c.toArray.size<=1000:=by rw[Nh];exact Nn (Nn (Nx j.symm) (Nx l.symm)) f.2.2.2
   refine DS (T:="tuple") (U:="int") (by decide) ⟨_,d,rfl⟩ (fun M=>D4 M n t) Jh Ft EN VM Fg.lookup
    (E5 EN (D4 s n t) Fh (D8 _ _) (XR n t ad c.toArray m G A)
     ⟨d,rfl,⟨_,d,rfl⟩,E5 E7 ⟨_,d,rfl⟩ D9 (D2 _ _)
      (Qbe ad c.toArray m G A n t (by simp[r]) f.1 f.2.1 p) ⟨d,?_⟩⟩)
   rw[GG,ED];have Z:=I.hok.fresh (Nw s.heap.objs.size);obtain⟨R3,L,i,g⟩:=C.tup Z (UU D n.toNat);refine⟨.ref s.heap.objs.size,_,I.laid (t':=s.toks) (fun b o e=>Ni _ e) (Nw _) (show ObjOk X.prog X.w _ _ _ (.tup _)from⟨?_,_,Wx B n.toNat,_,Ny _ rfl,rfl,0,rfl⟩),rfl,k R3 _ _ L i g⟩;rw[YE];have:J.length*n.toNat<=1000*1000:=FK (Nn (Nx l.symm) f.2.2.2) (by lia);have e:sizeLine=16777216:=by decide
   lia
  ·cases e
 ·cases e
end Mi
namespace St
open SetTable
theorem QgS:Sb.Full 15:=by unfold Sb.Full;decide +kernel
theorem QiB:Sb.Full 63:=by unfold Sb.Full;decide +kernel
theorem Gj(h:n<=62):∃m,sizeAbove n=m+1/\Sb.Full m/\n<=m/\m<=63:=by
 have key:∀k:Fin 63,(sizeAbove k.val=8/\k.val<=7)\/(sizeAbove k.val=16/\k.val<=15)\/(sizeAbove k.val=32/\k.val<=31)\/(sizeAbove k.val=64/\k.val<=63):=by decide
 rcases key ⟨n,Nat.lt_succ_of_le h⟩with z|z|z|z
 ·exact⟨7,z.1,Sb.full7,z.2,by decide⟩
 ·exact⟨15,z.1,QgS,z.2,by decide⟩
 ·exact⟨31,z.1,Sb.full31,z.2,by decide⟩
 ·exact⟨63,z.1,QiB,z.2,by decide⟩
section
variable{prog:Program}{w:World}{A:Around}{E:Value->Shared->Prop}{s:Shared}
theorem Qbi{a:Addr}{ks:List Str}{es es':Array (Int×Value)}{o:Obj}{v:Nat}{t t':SetTable}{i:Array (Int×Value)}{Q:Unit->Shared->Prop}(j:s.heap.get? a=some o)(m:o.ExactSet)(hd:o.data=.set i v t)
  (f:ElemsOf (strKind prog w) es.toList) (l:es.size<scanBound) (pm:es'.toList.Perm es.toList) (q:t'.fits es'.size=true) (c:es.size=0\/t'.plain=false) (d:ks.Nodup) (n:es.size=ks.length) (b:∀k,k∈ks↔∃e∈es.toList,(strKind prog w).is k e.2=true)
  (h:∀h',Heap.SameBut a s.heap h'->SetL prog w h' a ks t'.led->Q () { s with heap:=h' }):wpAny (model prog w) A (storeSet a es' t') Q E s:=by
 have sz:es'.size=es.size:=by rw[<-NA,pm.length_eq,NA]
 obtain⟨g1,g2,⟨u,g3⟩,r⟩:=stored (prog:=prog) (w:=w) (es':=es') (t':=t') (ks:=ks) j m hd (f.perm pm) (by rw[sz];exact l) q (by rw[sz];exact c) d (by rw[sz];exact n) fun k=>by
  rw[b k];exact⟨fun⟨e,g,p⟩=>⟨e,pm.mem_iff.mpr g,p⟩,fun⟨e,g,p⟩=>⟨e,pm.mem_iff.mp g,p⟩⟩
 exact Fc j hd (h _ (NV ..) r) (F5 (by rw[sz];exact l))
theorem Qh2{a:Addr}{ks:List Str}{led:Bool}{c:Nat}{Q:Unit->Shared->Prop}(J:SetL prog w s.heap a ks led)(hw:c<=62)(M:ks.length<=c)
  (h:∀h',Heap.SameBut a s.heap h'->SetL prog w h' a ks led->Q () { s with heap:=h' }):wpAny (model prog w) A (setRelay a c) Q E s:=by
 obtain⟨o,b,O,t,q,D,hd,l,I,H,f,i,j,G,e⟩:=J;obtain⟨m,r,F,N,L⟩:=Gj hw;unfold setRelay;refine Na (NO q hd H ?_);dsimp only;have big:¬sizeAbove c>sizeLine:=by rw[r,Dj];exact N4.mpr (NG L (by decide))
 rw[if_neg big];obtain⟨n,g,C,B,y,x,v,p⟩:=Sb.laid_ok F b (by omega) t.finger (t.movedTo m) t.led t.plain
 have rel:t.relaid (b.map (·.1)) c=some (n,g):=by
  unfold relaid;rw[r];exact C
 rw[rel];refine Na ?_;have d:(g.filterMap (b[·]?)).size=b.size:=by rw[<-NA,p.length_eq,NA]
 show wpAny _ _ (do
  if(g.filterMap (b[·]?)).size != b.size then unsupported "internal:set-table-lost-an-element"
  pure (g.filterMap (b[·]?),n)) _ _ _
 rw[if_neg (by rw[d];simp)];refine Na (Ng (Ng ?_));dsimp only;refine Qbi (ks:=ks) q D hd l I p (v.fits (by rw[d,B];omega)) ?_ j G e fun h' u z=>h h' u (by rw[<-f,<-y];exact z)
 rcases i with z|z
 ·exact .inl z
 ·exact .inr (x.trans z)
end
section
variable{prog:Program}{w:World}{A:Around}{E:Value->Shared->Prop}{s:Shared}
def Emp(h:Heap)(a:Addr)(led:Bool)(n:Nat):Prop:=∃o b t,h.get? a=some o/\o.ExactSet/\o.data=.set #[] b t/\t.fill=0/\t.fits 0=true/\t.led=led/\Sb.Full t.mask/\n<=t.mask
theorem Qj8{r:Addr}{led:Bool}{n:Nat}{Q:Unit->Shared->Prop}(hr:s.heap.get? r=some (Qz led))(u:n<=31)
  (h:∀h',Heap.SameBut r s.heap h'->Emp h' r led n->Q () { s with heap:=h' }):wpAny (model prog w) A (setRoomFor r n) Q E s:=by
 unfold setRoomFor;refine Na (NO hr rfl (show(fresh 0 0 led).fits 0=true from rfl) ?_)
 have q:(fresh 0 0 led).roomFor n=if n*5 >= 21 then some (n*2)else none:=by
  show(if(0+n)*5 >= 7*3 then some ((0+n)*2)else none)=_;rw[N1]
 dsimp only;rw[q]
 by_cases g:n*5 >= 21
 ·rw[if_pos g];dsimp only;obtain⟨m,e,F,v,p⟩:=Gj (n:=n*2) (by omega);unfold setRelay;refine Na (NO hr rfl (show(fresh 0 0 led).fits 0=true from rfl) ?_);dsimp only;have big:¬sizeAbove (n*2)>sizeLine:=by rw[e,Dj];exact N4.mpr (NG p (by decide))
  rw[if_neg big];obtain⟨a,b,o,l,j,t,d,i⟩:=Sb.laid_ok F #[] (Ei _) (fresh 0 0 led).finger ((fresh 0 0 led).movedTo m) (fresh 0 0 led).led (fresh 0 0 led).plain
  have rel:(fresh 0 0 led).relaid ((#[]:Array (Int×Value)).map (·.1)) (n*2)=some (a,b):=by
   unfold relaid;rw[e];exact o
  rw[rel];refine Na ?_;have c:(b.filterMap ((#[]:Array (Int×Value))[·]?)).size=0:=by rw[<-NA,i.length_eq];rfl
  have f:b.filterMap ((#[]:Array (Int×Value))[·]?)=#[]:=FB c
  show wpAny _ _ (do
   if(b.filterMap ((#[]:Array (Int×Value))[·]?)).size != (#[]:Array (Int×Value)).size then unsupported "internal:set-table-lost-an-element"
   pure (b.filterMap ((#[]:Array (Int×Value))[·]?),a)) _ _ _
  rw[if_neg (by rw[c];simp)];refine Na (Ng (Ng ?_));dsimp only;rw[f];rw[f]at d;refine Fc hr rfl (h _ (NV ..) ?_) (by decide);have g1:(s.heap.update r (Obj.putSet #[] a)).get? r=some (Obj.putSet #[] a (Qz led)):=Ea _ hr rfl;exact⟨_,_,a,g1,⟨rfl,rfl,rfl⟩,rfl,d.fill,d.fits (Ei _),j,by rw[l];exact F,by omega⟩
 ·rw[if_neg g];exact Ng (h s.heap (Dg r s.heap) ⟨_,_,_,hr,⟨rfl,rfl,rfl⟩,rfl,rfl,rfl,rfl,Sb.full7,by show n<=7;omega⟩)
theorem Qew{r o:Addr}{ks:List Str}{led:Bool}{y:Sem Unit}{Q:Unit->Shared->Prop}(hr:s.heap.get? r=some (Qz led))(hS:SetL prog w s.heap o ks led)(G:r≠o)(hk:ks.length<=31)
  (h:∀h',Heap.SameBut r s.heap h'->SetL prog w h' r ks led->(ks=[]->h'=s.heap)->Q () { s with heap:=h' }):wpAny (model prog w) A (setMerge r o y) Q E s:=by
 obtain⟨ob,a,ep,t,ho,hx,hd,x,S,R,e,F,q,H,d⟩:=hS;unfold setMerge;rw[if_neg (by simpa using G)];refine Na (NO ho hd R ?_);dsimp only
 by_cases B:a.isEmpty=true
 ·rw[if_pos B];have N:a.size=0:=by simpa[Array.isEmpty]using B
  have I:ks=[]:=NT.mp (by omega);subst I;exact Ng (h s.heap (Dg r s.heap) (Yv hr) fun _=>rfl)
 ·rw [if_neg B];have N:a.size≠0:=by simpa[Array.isEmpty]using B
  have f:ks≠[]:=fun z=>N (by rw[H,z];rfl);refine Na (Qj8 hr (n:=a.size) (by omega) fun M l em=>?_);obtain⟨o1,aa,j,g,m,i,L,J,v,F1,u⟩:=em;have c:t.plain=false:=by rcases F with z|z;exact absurd z N;exact z
  refine Na (NO (s:={ s with heap:=M }) g i J ?_);dsimp only;unfold road;rw[if_neg (by rw[L];decide)];split
  ·rename_i b;split at b
   ·exact Qbi (s:={ s with heap:=M }) (ks:=ks) (es:=a) g m i x S (IV _) R (.inr (by show(j.plain&&t.plain)=false;rw[c,E1])) q H d fun h' C z=>h h' (l.trans C) (by
     have:(j.led&&t.led)=led:=by rw[v,e,OI]
     rw[<-this];exact z) fun z=>absurd z f
   ·cases b
  ·rename_i b;obtain⟨O,D,Z,Y,X,U,T,P⟩:=Sb.laid_ok F1 a u j.finger j.moves (j.led&&t.led) (j.plain&&t.plain);rw[Z];have p:(D.filterMap (a[·]?)).size=a.size:=by rw[<-NA,P.length_eq,NA]
   refine Na ?_
   show wpAny _ _ (do
    if(D.filterMap (a[·]?)).size != a.size then unsupported "internal:set-table-lost-an-element"
    pure (D.filterMap (a[·]?),O)) _ _ _
   rw[if_neg (by rw[p];simp)];refine Na (Ng (Ng ?_));dsimp only
   exact Qbi (s:={ s with heap:=M }) (ks:=ks) (es:=a) g m i x S P (T.fits (by rw[p,Y];exact u)) (.inr (by rw[U,c,E1])) q H d fun h' C z=>h h' (l.trans C) (by
     have:O.led=led:=by rw[X,v,e,OI]
     rw[<-this];exact z) fun z=>absurd z f
  ·rename_i b;split at b<;>cases b
end
section
variable{prog:Program}{w:World}{A:Around}{E:Value->Shared->Prop}{s:Shared}
theorem Qj0{o:Addr}{ob:Obj}{es:Array (Int×Value)}{f:Nat}{t:SetTable}{Q:Array (Int×Value)->Shared->Prop}(c:s.heap.get? o=some ob)(hd:ob.data=.set es f t)(e:t.fits es.size=true)(a:es.size=0\/t.plain=false)
  (h:∀xs d,xs.toList.Perm es.toList->Q xs { s with drawn:=d }):wpAny (model prog w) A (setWalk o) Q E s:=by
 unfold setWalk;refine Na (NO c hd e ?_);dsimp only;unfold setsByText;refine Na (Na (Et (Ng ?_)));dsimp only;split
 ·exact Na (Et (Ng (h _ s.drawn (W5 _ _))))
 ·show wpAny _ _ (if(!t.plain&&decide (es.size>1))=true then(do return(<-drawOrder es.size es.toList).toArray)else do
   (if(!t.led&&decide (es.size>1))=true then unsupported "set:maker-not-led"else pure ())
   return es) _ _ _
  split
  ·exact Na (Yb _ _ _ _ (NA).symm fun g d p=>Ng (h _ d (by simpa using p)))
  ·rename_i b
   have i:¬es.size>1:=fun z=>b (by
    rcases a with q|q
    ·omega
    ·rw[q];simpa using z)
   rw[if_neg (by simp;intro _;omega)];exact Na (Ng (Ng (h _ s.drawn (IV _))))
theorem QgZ{es:List (Int×Value)}(a:ElemsOf (strKind prog w) es):∀e∈es,∃x c,e.2=.str x c:=fun e d=>by
 obtain⟨⟨k,b,_⟩,_⟩:=a e d;obtain⟨c,f⟩:=Dp b;exact⟨k,c,f⟩
end
section
variable{prog:Program}{w:World}{A:Around}{E:Value->Shared->Prop}{s:Shared}
theorem Qay{Q:Bool->Shared->Prop}{d:List Addr}(y:∀a∈d,∃ks led,SetL prog w s.heap a ks led)(h:Q true s):wpAny (model prog w) A (setsQuiet d) Q E s:=by
 unfold setsQuiet;refine Na (wpAny_forIn_list _ (fun l b j=>(∀a∈l,∃ks led,SetL prog w j.heap a ks led)/\b.1=none/\j=s) _ ?_ ?_ d _ ⟨y,rfl,rfl⟩)
 ·rintro a rest b j ⟨q,i,rfl⟩
  obtain⟨ks,led,o,G,I,t,z,H,hd,p,D,B,_⟩:=q a Nr;unfold setEntries;refine Na (Na (NO z hd B (Ng ?_)));dsimp only;refine Na (LK _ (fun l b f=>(∀e∈l,∃x c,e.2=.str x c)/\b.1=none/\f=j) _ ?_ ?_ G _ ⟨QgZ p,rfl,rfl⟩)
  ·rintro e n b f ⟨m,i,rfl⟩
   obtain⟨x,c,r⟩:=m e Nr;obtain⟨g,v⟩:=e;dsimp only at r;subst r;exact Ng ⟨fun e C=>m e (Np _ C),rfl,rfl⟩
  ·rintro⟨b,u⟩ f ⟨_,i,rfl⟩
   dsimp only at i;subst i;exact Ng ⟨fun a F=>q a (Np _ F),rfl,rfl⟩
 ·rintro⟨b,u⟩ j ⟨_,i,rfl⟩
  dsimp only at i;subst i;exact Ng h
theorem Qe0{o r:Addr}{ob:Obj}{es:Array (Int×Value)}{L:Nat}{t:SetTable}{c g:List Str}{led:Bool}{Q:Array (Int×Value)->Shared->Prop}(v:s.heap.get? o=some ob)(hd:ob.data=.set es L t)(y:t.fits es.size=true)(i:es.size=0\/t.plain=false)(f:t.led=led)
  (H:SetL prog w s.heap o g led) (hr:SetL prog w s.heap r c led) (m:c≠[])
  (h:∀xs d,xs.toList.Perm es.toList->Q xs { s with drawn:=d }):wpAny (model prog w) A (setWalkUnseen o [r] (some r)) Q E s:=by
 unfold setWalkUnseen;refine Na (NO v hd y ?_);dsimp only;unfold setsByText;refine Na (Na (Et (Ng ?_)));dsimp only;split
 ·exact Qj0 v hd y i h
 ·refine Na (Qay (fun a u=>?_) ?_)
  ·rcases Nv.mp u with rfl|u
   ·exact⟨_,_,H⟩
   ·rw[NE.mp u];exact⟨_,_,hr⟩
  ·rw[if_neg (by decide)];refine Na (D5 ?_);obtain⟨M,I,J,C,l,D,q,B,G,p,b,e,x,F,n⟩:=hr
   have j:C.plain=false:=by
    rcases e with z|z
    ·exact absurd (NT.mp (by omega)) m
    ·exact z
   refine Na (NO l q p ?_);dsimp only;rw[if_neg (by rw[b,f,j];cases led<;>simp)];exact Ng (h es s.drawn (IV _))
end
section
variable{prog:Program}{w:World}{A:Around}{E:Value->Shared->Prop}{s:Shared}
theorem Qjo{r:Addr}{ks:List Str}{led:Bool}{n:Nat}{Q:Unit->Shared->Prop}(hr:SetL prog w s.heap r ks led)(v:ks.length+n<=31)
  (h:∀h',Heap.SameBut r s.heap h'->SetL prog w h' r ks led->Q () { s with heap:=h' }):wpAny (model prog w) A (setRoomFor r n) Q E s:=by
 have b:=hr;obtain⟨o,p,y,t,j,u,hd,m,x,d,g,i,l,c,f⟩:=hr;unfold setRoomFor;refine Na (NO j hd d ?_)
 have e:t.place.size=p.size:=by
  unfold SetTable.fits at d;simp at d;exact d.1
 dsimp only;unfold roomFor;split
 ·rename_i q a;split at a
  ·cases a;exact Qh2 b (by rw[e,c];omega) (by rw[e,c];omega) h
  ·cases a
 ·exact Ng (h s.heap (Dg r s.heap) b)
theorem QhQ{r o:Addr}{f a:List Str}{led:Bool}{id:String}{Q:Unit->Shared->Prop}(hr:SetL prog w s.heap r f led)(hS:SetL prog w s.heap o a led)(i:r≠o)(h1:f≠[])(hk:f.length+a.length<=31)
  (h:∀h' d us,Heap.SameBut r s.heap h'->SetL prog w h' r us led->(∀k,k∈us↔k∈f\/k∈a)->Q () { s with heap:=h',drawn:=d }):wpAny (model prog w) A (Builtin.Frozenset.merge id r o) Q E s:=by
 have ao:=hS;obtain⟨ob,es,ep,t,S,hx,hd,al,hb,N,M,aa,au,hn,L⟩:=hS;unfold Builtin.Frozenset.merge setEpoch;refine Na (Na (NO S hd N (Ng ?_)));dsimp only;unfold setMerge;rw[if_neg (by simpa using i)];refine Na (NO S hd N ?_);dsimp only
 by_cases X:es.isEmpty=true
 ·rw[if_pos X];have h0:es.size=0:=by simpa[Array.isEmpty]using X
  have ai:a=[]:=NT.mp (by omega);subst ai;exact Ng (h s.heap s.drawn f (Dg r s.heap) hr fun k=>by simp)
 ·rw [if_neg X];refine Na (Qjo hr (n:=es.size) (by omega) fun j v H=>?_);have ab:j.get? o=some ob:=by rw[v.2 o i.symm];exact S
  have an:SetL prog w j o a led:=ao.at fun o' e=>by rw[v.2 o i.symm];exact e
  have u:=H;obtain⟨o1,ax,ay,t1,J,as,am,ar,aw,D,af,ap,aq,av,ae⟩:=H;refine Na (NO (s:={ s with heap:=j }) J am D ?_);dsimp only
  have C:t1.fill≠0:=by
   unfold SetTable.fits at D;simp at D;have:f.length≠0:=fun z=>h1 (NT.mp z);unfold SetTable.fill;omega
  have y:t1.road t=.oneByOne:=by
   unfold road;rw[if_pos (by simpa using C)]
  rw[y];dsimp only;refine Na (Qe0 (s:={ s with heap:=j }) ab hd N aa M an u h1 fun R d pm=>?_)
  have hex:∀e∈R.toList,∃x c,e=((strKind prog w).hash x,Value.str x c):=fun e g=>by
   obtain⟨⟨k,ak,aj⟩,_⟩:=al e (pm.mem_iff.mp g);obtain⟨c,hc⟩:=Dp ak;exact⟨k,c,by rw[<-aj,<-hc]⟩
  have P:∀k,k∈a↔∃e∈R.toList,(strKind prog w).is k e.2=true:=fun k=>by
   rw[L k];exact⟨fun⟨e,g,p⟩=>⟨e,pm.mem_iff.mpr g,p⟩,fun⟨e,g,p⟩=>⟨e,pm.mem_iff.mp g,p⟩⟩
  have Y:R.toList.length=a.length:=by rw[pm.length_eq,NA,hn]
  refine Na (LK _ (fun l _ U=>∃h' us,U={ s with heap:=h',drawn:=d }/\Heap.SameBut r s.heap h'/\SetL prog w h' r us led/\(∀e∈l,∃x c,e=((strKind prog w).hash x,Value.str x c))/\(∀k,(k∈us\/∃e∈l,(strKind prog w).is k e.2=true)↔k∈f\/k∈a)/\us.length+l.length<=62) _ ?_ ?_ R _ ⟨j,f,rfl,v,u,hex,fun k=>by rw[P k],by rw[Y];omega⟩)
  ·rintro e rest b U ⟨h2,us,rfl,m,hu,O,B,ah⟩
   obtain⟨x,c,rfl⟩:=O e Nr;rw[Es]at ah;dsimp only;refine Na (N6 (Qk1 (s:={ s with heap:=h2,drawn:=d }) hu (by have:scanBound=4096:=rfl;omega) fun b' T F Z=>?_));have I:T.get? o=some ob:=by rw[F.2 o i.symm,m.2 o i.symm];exact S
   unfold Builtin.Frozenset.unchanged setEpoch;refine Na (Na (Na (NO (s:={ s with heap:=T,drawn:=d }) I hd N (Ng ?_))));rw[if_neg (by simp)];refine Ng (Na (NO (s:={ s with heap:=T,drawn:=d }) I hd N ?_));rw[if_neg (by simp)];refine Ng ⟨T,_,rfl,m.trans F,Z,fun e g=>O e (Np _ g),fun k=>?_,?_⟩
   ·rw [<-B k];have G:(strKind prog w).is k (Value.str x c)=true↔k=x:=⟨fun z=>(strKind prog w).inj _ _ _ z (G4 x c),fun z=>by rw[z];exact G4 x c⟩
    constructor
    ·rintro(z|⟨e,g,p⟩)
     ·split at z
      ·exact .inl z
      ·rcases NI.mp z with z|z
       ·exact .inl z
       ·exact .inr ⟨_,Nr,G.mpr (NE.mp z)⟩
     ·exact .inr ⟨e,Np _ g,p⟩
    ·rintro(z|⟨e,g,p⟩)
     ·left;split
      ·exact z
      ·exact N7 _ z
     ·rcases Nv.mp g with rfl|g
      ·left;have:=G.mp p;split
       ·rename_i q;rw[this];exact q
       ·rw[this];simp
      ·exact .inr ⟨e,g,p⟩
   ·split
    ·omega
    ·rw[NC,EA];omega
  ·rintro b U ⟨h2,us,rfl,m,hu,_,B,_⟩
   exact Ng (h h2 d us m hu fun k=>by simpa using B k)
end
theorem Qhu:entryFor table "set.__or__"=some Builtin.«frozenset.__or__»:=FN (id':="frozenset.__or__") (by kernel_rfl) rfl (by decide +kernel) (by kernel_rfl)
theorem QjU(a b:Value):argsOk "set.__or__" ⟨[a,b],[]⟩:=by unfold argsOk;kernel_rfl
section
variable{prog:Program}{w:World}{A:Around}{E:Value->Shared->Prop}{s:Shared}
theorem Qj2{S:Addr}{Q:Bool->Shared->Prop}(t:s.TypeIs (.ref S) "set")(h:Q true s):wpAny (model prog w) A (Builtin.Frozenset.isAnySet (.ref S)) Q E s:=by
 obtain⟨o,g,f⟩:=t;obtain⟨d,b,c,a⟩:=o;simp only at f;subst f;have e:=LH;unfold Builtin.Frozenset.isAnySet
 wp_walk
 exact h
end
section
variable{prog:Program}{w:World}{A:Around}{E:Value->Shared->Prop}{s:Shared}
theorem SetL.ty{h:Heap}{a:Addr}{ks:List Str}{led:Bool}(d:SetL prog w h a ks led){s:Shared}(e:s.heap=h):s.TypeIs (.ref a) "set":=by
 subst e;obtain⟨o,f,g,t,c,b,hr⟩:=d;exact⟨o,c,b.1⟩
theorem QmN{r o:Addr}{a b:List Str}{id:String}{Q:Unit->Shared->Prop}(hr:SetL prog w s.heap r a (ledW w))(e:SetL prog w s.heap o b (ledW w))(c:r≠o)(h1:a=[]->s.heap.get? r=some (Qz (ledW w)))(m:a.length+b.length<=31)
  (h:∀h' d us,Heap.SameBut r s.heap h'->SetL prog w h' r us (ledW w)->(∀k,k∈us↔k∈a\/k∈b)->Q () { s with heap:=h',drawn:=d }):wpAny (model prog w) A (Builtin.Frozenset.updateFrom id r (.ref o)) Q E s:=by
 unfold Builtin.Frozenset.updateFrom;refine Na (Qj2 (e.ty rfl) ?_);rw[if_pos rfl];refine Na (Ng ?_)
 by_cases i:a=[]
 ·subst i;unfold Builtin.Frozenset.merge;have g:=e;obtain⟨ob,C,D,t,q,y,hd,x,B,v,l,p,u,z,j⟩:=e;unfold setEpoch;refine Na (Na (NO q hd v (Ng ?_)));exact Qew (h1 rfl) g c (by simpa using m) fun h' n f _=>h h' s.drawn b n f fun k=>by simp
 ·exact QhQ hr e c i m h
theorem unionL{a b:Addr}{g f:List Str}{Q:Value->Shared->Prop}(h1:SetL prog w s.heap a g (ledW w))(H:SetL prog w s.heap b f (ledW w))(B:a≠b)(Z:g.length+f.length<=31)
  (h:∀h' d us,(∀c o,s.heap.get? c=some o->h'.get? c=some o)->SetL prog w h' s.heap.objs.size us (ledW w)->(∀k,k∈us↔k∈g\/k∈f)->Q (.ref s.heap.objs.size) { s with heap:=h',drawn:=d }) :
  wpAny (model prog w) A (binaryOp .BitOr (.ref a) (.ref b)) Q E s:=by
 have I:s.TypeIs (.ref a) "set":=h1.ty rfl;have P:s.TypeIs (.ref b) "set":=H.ty rfl;refine wpAny_binaryOp_same (T:="set") I P F.fills_set_or F.slot_set_or ?_;refine Eb F.slot_set_or I Qhu ?_ (QjU _ _);have t:=h1;have r:=H;obtain⟨⟨c1,d1,q1,S⟩,ab,af,O,X,⟨q,n,l⟩,r1⟩:=h1;obtain⟨⟨c2,d2,q2,R⟩,aa,ae,N,U,⟨p,m,j⟩,r2⟩:=H;simp only at q n l p m j;subst q n l p m j;have L:=LH;unfold Builtin.«frozenset.__or__»
 wp_walk
 refine Et (Ng ?_);dsimp only;simp only[if_true,newObj];have M:(s.heap.push (Qz (ledW w))).get? s.heap.objs.size=some (Qz (ledW w)):=Ny _ rfl;have G:SetL prog w (s.heap.push (Qz (ledW w))) a g (ledW w):=t.at fun o e=>Ni _ e;have v:s.heap.objs.size≠a:=DT t.lt;have i:s.heap.objs.size≠b:=DT r.lt;refine Na (wpAny_alloc (Ng ?_))
 show wpAny _ _ (do
  setMerge s.heap.objs.size a
  pure (Value.ref s.heap.objs.size)) _ _ _
 refine Na (Qew (s:={ s with heap:=s.heap.push (Qz (ledW w)) }) M G v (by omega) fun h' J D he=>Ng ?_);dsimp only;have y:SetL prog w h' b f (ledW w):=r.at fun o e=>by rw[J.2 b i.symm];exact Ni _ e
 have x:((Value.ref b != Value.ref a)=true):=by simp[bne];exact fun z=>B z.symm
 simp only[E8,if_false];rw[if_pos x];refine Na (Ng ?_);refine Na (N6 (QmN (s:={ s with heap:=h' }) D y i (fun z=>by rw[he z];exact M) Z fun h3 d us u C Y=>Ng (Ng ?_)));refine⟨_,rfl,by simp,h h3 d us (fun c o e=>?_) C Y⟩;rw[u.2 c (NS (Nz e)),J.2 c (NS (Nz e))];exact Ni _ e
end
theorem uniq_nd:∀(n:Nat) (l:List PySem.Str),l.length=n->(uniq l).Nodup:=by
 intro n
 induction n with
 |zero=>intro l h;rw[NT.mp h];exact Dm
 |succ n d=>
  intro l h;have c:l≠[]:=fun z=>by rw[z]at h;cases h
  rw[<-E2 c,uniq_snoc];have hd:=d l.dropLast (by rw[Lc,h];rfl);split
  ·exact hd
  ·rename_i q;exact DA.mpr ⟨hd,List.pairwise_singleton _ _,fun a f b e z=>q (by rw[NE.mp e]at z;rw[<-z];exact f)⟩
theorem nd_lenEq{a b:List PySem.Str}(d:a.Nodup)(c:b.Nodup)(h:∀k,k∈a↔k∈b):a.length=b.length:=((List.perm_ext_iff_of_nodup d c).mpr h).length_eq
end St
namespace Mi
open L2
noncomputable def VG(ws:List W)(h:MH):Option (W×MH):=match ws with
 |[a]=>(lsW h a).bind fun c=>(txW c).bind fun b=>if b.length<4000 then some (.int (St.uniq b).length,h)else none
 |_=>none
noncomputable def GD(ws:List W)(h:MH):Option (W×MH):=match ws with
 |[a,b]=>(lsW h a).bind fun f=>(txW f).bind fun d=>(lsW h b).bind fun e=>(txW e).bind fun c=>if d.length<4000/\c.length<4000/\(St.uniq d).length+(St.uniq c).length<=31 then some (.int (St.uniq (d++c)).length,h)else none
 |_=>none
section
variable{X:Cx}
theorem YO{e:Expr}{me:ME}{p2 i:Pos}{c:List (Addr×Obj)}{s:Shared}{σ:L2.St}{H:Hp}{R:Rn}{g:MSt}{h h1:MH}{a:W}{C:List W}{ss:List Str}(hc:X.calm=true)(y:Gl X "set")(q:X.mg "set"=none)(he:PM X e me)(E:Jw e=false)
  (I:Inv X c σ H s) (U:Rh X.K R h H) (st:Rst X.K R g σ) (e4:me g h=some (a,h1)) (e8:lsW h1 a=some C) (B:txW C=some ss) (hz:ss.length<4000) {Q:Value->Shared->Prop}
  (k:∀S o l M R2,Inv X ((S,o)::c) σ M l->St.SetL X.prog X.w l.heap S (St.uniq ss) (St.ledW X.w)->l.heap.get? S=some o->Ext R R2->Rh X.K R2 h1 M->(∀p∈c,p.1≠S)->Q (.ref S) l) :
  wpAny (model X.prog X.w) X.A (eval (.Call (.Name "set" p2) [e] [] i) X.env) Q X.xe s:=by
 refine EB (VA I y q boot_set (Eg ?_ (QP E) (Z8 rfl)) (by decide) (by decide));rw[QP E];refine E9 (thn (he c s σ H (fun v J=>∃R2,Ext R R2/\Rh X.K R2 h1 J/\Rw X.K R2 a v) I ⟨R,g,h,a,h1,U,st,e4,fun R2 J v x d n=>⟨R2,x,d,n⟩⟩) fun u O ⟨v,L,I1,T,R2,N,d,n⟩=>Df ?_);obtain⟨ad,xs,rfl,Y,D⟩:=d.lsAt n e8;cases T;rw[Qbv B]at D;obtain⟨aa,P,Z,hl⟩:=I1.list Y;have G:=Qcm D P;have r:=FL G;refine St.set_list (I1.ok.hd hc) Z.isList (by rw[ED];exact G) (by rw[Nh,r];show ss.length+1<4096;lia) fun g1 m f k1=>?_;obtain⟨o,es,ep,t,F,hx,hd,hr⟩:=id f;have I2:Inv X c σ L { O with heap:=g1,toks:=m }:=I1.kept fun b u e=>k1 b u (Nz e) e;refine k _ o _ L R2 (I2.pins_of fun p j=>?_) f F N d fun p j=>NS (Nz (I1.pin p (NF _ j)).1)
 rcases Nv.mp j with rfl|j
 ·exact⟨F,I1.fresh,DT I1.lt,I1.nofs (Nw _),fun v z=>by rw[hd]at z;cases z⟩
 ·exact I2.pin p (NF _ j)
theorem GT{a pins':List (Addr×Obj)}{s:Shared}{σ:L2.St}{H:Hp}{S:Addr}{us:List Str}(I:Inv X a σ H s)(n:St.SetL X.prog X.w s.heap S us (St.ledW X.w)){Q:Value->Shared->Prop}(k:∀t b,Inv X a σ H b->Q (.int us.length t) b) :
  wpAny (model X.prog X.w) X.A (call (.builtin "len") [.ref S]) Q X.xe s:=by
 obtain⟨o,p,q,t,g,e,hd,l,m,j,d,f,h,i,c⟩:=n;refine call_len_set g e hd j (by have:scanBound=4096:=rfl;rw[this]at m;lia) ?_;rw[i];exact k _ _ (I.tok _)
theorem Qbo{x n d b:Pos}(F:X.calm=true)(D:Gl X "len")(C:X.mg "len"=none)(j:Gl X "set")(i:X.mg "set"=none)(E:PM X e me)(A:Jw e=false:=by rfl) :
  PM X (.Call (.Name "len" x) [.Call (.Name "set" n) [e] [] b] [] d) (mFn VG (Qa me Qd)):=by
 intro m s Y H Q I ⟨R,q,h,w,h',v,st,e1,y⟩;obtain⟨⟨as,h2⟩,e2,T⟩:=Nc.mp e1;obtain⟨⟨a,h1⟩,P,O⟩:=Nc.mp e2;obtain⟨⟨bs,h3⟩,N,M⟩:=Nc.mp O;cases N;cases M;refine EB (VA I D C IW (ES ?_ (QP rfl) (Z8 rfl)) (by decide) (by decide));rw[QP (e:=.Call (.Name "set" n) [e] [] b) rfl];obtain⟨Z,L,J⟩:=Nc.mp T;obtain⟨u,l,c⟩:=Nc.mp J;split at c
 ·rename_i z;cases c;refine E9 (YO F j i E A I v st P L l z fun S o s1 U R2 I1 G ho r f _=>Df (GT (pins':=[]) I1 G fun t s2 I2=>?_));exact⟨.int (St.uniq u).length,U,I2.pins_of fun p B=>I2.pin p (NF _ (Np _ B)),⟨t,rfl⟩,y R2 _ _ r f (by unfold Rw;rfl)⟩
 ·cases c
theorem Qd1{p1 p2 p3 m j f c:Pos}{i:Nat}{e y:Expr}{me:ME}(hc:X.calm=true)(hg:Gl X "len")(J:X.mg "len"=none)(u:Gl X "set")(r:X.mg "set"=none)(he:PM X e me)(L:PM X y (Qb i))(hs:Jw e=false:=by rfl)(E:Jw y=false:=by rfl) :
  PM X (.Call (.Name "len" p1) [.BinOp (.Call (.Name "set" p2) [e] [] j) .BitOr (.Call (.Name "set" p3) [y] [] f) c] [] m) (mFn GD (Qa me (Qa (Qb i) Qd))):=by
 intro n s σ H Q I ⟨R,aa,h,w,h',rh,st,e1,kk⟩;obtain⟨⟨as,h2⟩,e2,e3⟩:=Nc.mp e1;obtain⟨⟨a,h1⟩,e4,e5⟩:=Nc.mp e2;obtain⟨⟨bs,h3⟩,e6,e7⟩:=Nc.mp e5;cases e7;obtain⟨⟨b,h4⟩,v,f5⟩:=Nc.mp e6;cases f5
 have hh:h4=h1:=by
  unfold Qb at v;split at v
  ·cases v;rfl
  ·cases v
 subst hh;obtain⟨ys,e8,e9⟩:=Nc.mp e3;obtain⟨ss,U,P⟩:=Nc.mp e9;obtain⟨zs,f8,f9⟩:=Nc.mp P;obtain⟨tt,O,l⟩:=Nc.mp f9;refine EB (VA I hg J IW (ES ?_ (QP rfl) (Z8 rfl)) (by decide) (by decide));rw[QP (e:=.BinOp (.Call (.Name "set" p2) [e] [] j) .BitOr (.Call (.Name "set" p3) [y] [] f) c) rfl];split at l
 ·rename_i D;cases l;refine E9 (wpAny_BinOp (YO hc u r he hs I rh st e4 e8 U D.1 fun S o s1 H1 R2 I1 hS ho Y B _=>?_));refine YO hc u r L E I1 B (st.mono Y) v f8 O D.2.1 fun T o2 x H2 R3 I2 hT ab x3 A q=>?_;have F:=I2.pin (S,o) (NF _ (Np _ Nr));have N:St.SetL X.prog X.w x.heap S (St.uniq ss) (St.ledW X.w):=hS.at fun o' z=>by rw[ho]at z;cases z;exact F.1
  have M:S≠T:=q _ Nr;refine St.unionL N hT M D.2.2 fun g d Z kp hU J=>Df ?_;have I3:Inv X ((T,o2)::(S,o)::n) σ H2 { x with heap:=g,drawn:=d }:=Inv.drew (s:={ x with heap:=g }) (I2.kept (t':=x.toks) kp) d;refine GT (pins':=[]) I3 hU fun t s3 I4=>?_
  have hl:Z.length=(St.uniq (ss++tt)).length:=by
   obtain⟨_,_,_,_,_,_,_,_,_,_,_,_,G,_⟩:=id hU;refine St.nd_lenEq G (St.uniq_nd _ _ rfl) fun k=>?_;rw[J k,St.uniq_mem _ _ rfl,St.uniq_mem _ _ rfl,St.uniq_mem _ _ rfl,NI]
  rw[<-hl]at kk;exact⟨.int Z.length,H2,I4.pins_of fun p hp=>I4.pin p (NF _ (Np _ (Np _ hp))),⟨t,rfl⟩,kk R3 _ _ (Y.trans x3) A (by unfold Rw;rfl)⟩
 ·cases l
end
theorem Qb1:∀{b:List Value} {a:List Int},IntsAre b a->Vals (a.map V.int) b
 |_,_,.nil=>.nil
 |_,_,.cons _ t h=>.cons ⟨t,rfl⟩ (Qb1 h)
theorem QbG{K:Nd}{h:Heap}{x:Str}{c:Addr}{n:Nat}(X:K.In h)(G:h.Ns mainGlobals e)(a:DY K mainGlobals x=some (some (.ref c)))
  (l:K.lookup c=some ⟨.type "tuple",i,.seq b n,g⟩) (hz:b.size<=sizeLine) (f:IntsAre b.toList d):Glob K e x (.tup (d.map .int)):=
 ⟨.ref c,_,DJ X G a,rfl,fun R=>by
  unfold Rw
  exact⟨c,_,rfl,.inr ⟨_,b,n,l,rfl,rfl,hz,Qb1 f⟩,YL d⟩⟩
end Mi
namespace Rv
theorem slot_rev_next:Slot "reversed" "__next__" "reversed.__next__":=.of (owner:="reversed") (n:="__next__") (by rw[Dx,EM];kernel_rfl) (by decide +kernel) (by decide +kernel) (by decide +kernel) (by first|exact .inl (by decide +kernel)|exact .inr (by decide +kernel)) (by rw[E3];kernel_rfl)
theorem Xm:Slot "reversed" "__iter__" "reversed.__iter__":=.of (owner:="reversed") (n:="__iter__") (by rw[Dx,EM];kernel_rfl) (by decide +kernel) (by decide +kernel) (by decide +kernel) (by first|exact .inl (by decide +kernel)|exact .inr (by decide +kernel)) (by rw[E3];kernel_rfl)
theorem WH:Slot "reversed" "__init__" "object.__init__":=.of (owner:="object") (n:="__init__") (by rw[Dx,EM];kernel_rfl) (by decide +kernel) (by decide +kernel) (by decide +kernel) (by first|exact .inl (by decide +kernel)|exact .inr (by decide +kernel)) (by rw[E3];kernel_rfl)
theorem V2:entryFor table "reversed.__next__"=some Builtin.«reversed.__next__»:=entryFor_of_tree (by kernel_rfl)
theorem Xs(a:Value):argsOk "reversed.__next__" ⟨[a],[]⟩:=by unfold argsOk;kernel_rfl
theorem Y6(a:Value):argsOk "reversed.__iter__" ⟨[a],[]⟩:=by unfold argsOk;kernel_rfl
theorem Yh:entryFor table "reversed.__iter__"=some Builtin.«dict_keyiterator.__iter__»:=
 FN (id':="dict_keyiterator.__iter__") (by kernel_rfl) (by first|rfl|decide +kernel|(unfold String.splitOn;simp +decide [String.splitOnAux])) (by decide +kernel) (by kernel_rfl)
theorem Qaf:TypeCalled "reversed" "reversed.__new__" "object.__init__":=
 ⟨by decide +kernel,by decide +kernel,⟨_,_,F.mro_reversed⟩,F.made_reversed,by decide +kernel,by rw[E3];kernel_rfl,WH⟩
theorem QiJ:typeLookup (.type "tuple") "__reversed__"=pure none:=by rw[Dx,EM];kernel_rfl
section
variable{prog:Program}{w:World}{A:Around}{E:Value->Shared->Prop}{s:Shared}
def IsRev(h:Heap)(a l:Addr)(i:Int):Prop:=∃o,h.get? a=some o/\o.cls=.type "reversed"/\o.data=.fields #[.ref l,rawInt i]
theorem IsRev.typeIs{a l:Addr}{i:Int}(x:IsRev s.heap a l i):s.TypeIs (.ref a) "reversed":=let⟨o,b,c,_⟩:=x;⟨o,b,c⟩
theorem IsRev.at{h h':Heap}{a l:Addr}{i:Int}(x:IsRev h a l i)(e:∀o,h.get? a=some o->h'.get? a=some o):IsRev h' a l i:=let⟨o,b,r⟩:=x;⟨o,e _ b,r⟩
theorem Qcf(l:Addr)(items:Array Value)(hz:(items.size:Int)<2^62):Meets (Builtin.«reversed.__new__» ⟨[.type "reversed",.ref l],[]⟩) (fun _ R s=>IsTup s.heap l items /\
      R (.ok (.ret (.ref s.heap.objs.size))) { s with heap:=s.heap.push { cls:=.type "reversed",data:=.fields #[.ref l,rawInt ((items.size:Int)-1)] },toks:=s.toks+1+1 }):=
  .of_wp fun prog w A R s h=>by
    obtain⟨f,h⟩:=h;have b:=f;obtain⟨⟨c,d,q,j⟩,i,g,n,hd⟩:=f;simp only at g hd;subst g hd;have e:isSubtype (.type "tuple") (.type "dict")=pure false:=by rw[E3];kernel_rfl
    unfold Builtin.«reversed.__new__»;refine Na (ER (newClass_reversed _) ?_)
    try dsimp only
    refine Na (ER (a:=()) (by first|rfl|kernel_rfl) ?_);refine Na (ER (a:=()) (by first|rfl|kernel_rfl) ?_)
    try dsimp only
    refine Na (Dt b.typeIs QiJ ?_)
    try dsimp only
    wp_walk using AutoSeq1.wpAny_loadPart' i
    refine ER (show typeLookup (.type "tuple") (Str.ofString "__getitem__")=pure (some (.builtin "tuple.__getitem__"))from N0.lookup) ?_;dsimp only;rw[if_pos (by decide +kernel)];refine Ng ?_;rw[if_neg (by simp)];refine Na (len_tuple b (by omega) ?_);refine Na (ER (a:=some (items.size:Int)) rfl ?_);dsimp only;refine Na ?_;unfold Builtin.SmallTypes.newRecord;dsimp only;refine NY ?_ (by size_fits);exact Ng ⟨_,rfl,h⟩
theorem call_rev{l:Addr}{items:Array Value}{Q:Value->Shared->Prop}(a:IsTup s.heap l items)(hz:(items.size:Int)<2^62)
  (h:Q (.ref s.heap.objs.size) { s with heap:=s.heap.push { cls:=.type "reversed",data:=.fields #[.ref l,rawInt ((items.size:Int)-1)] },toks:=s.toks+1+1 }):wpAny (model prog w) A (call (.type "reversed") [.ref l]) Q E s:=
 callType_new Qaf (by decide) (F.typeCall_reversed_1 _) (F.newCall_reversed_1 _) (fun obj=>Le obj _) F.entry_reversed_new (Qcf l items hz) ⟨a,⟨_,Ny _ rfl,rfl⟩,h⟩
theorem next_item{it l:Addr}{i:Nat}{items:Array Value}{x:Value}{Q:Option Value->Shared->Prop}(hit:IsRev s.heap it l (i:Int))(d:IsTup s.heap l items)(c:items[i]?=some x)(hz:(items.size:Int)<2^62)
  (f:∀h' tk,IsRev h' it l ((i:Int)-1)->Heap.SameBut it s.heap h'->Q (some x) { s with heap:=h',toks:=tk }):wpAny (model prog w) A (pyNext (.ref it)) Q E s:=by
 obtain⟨o,b,e,hd⟩:=id hit;have g:i<items.size:=(FW.mp c).1;unfold pyNext
 refine Na (Fk (Ej (name:=Str.ofString "__next__") hit.typeIs slot_rev_next
  (Eb slot_rev_next hit.typeIs V2 ?_ (Xs _))))
 unfold Builtin.«reversed.__next__»;refine Na (ER (a:=(Value.ref it,[])) rfl ?_)
 try dsimp only
 refine Na (EE b hd (x:=.ref l) rfl ?_);refine Na (EE b hd (x:=rawInt (i:Int)) rfl ?_);show wpAny _ _ (if(i:Int)<0 then _ else _) _ _ s;rw[if_neg (by omega)];refine Na (Dt d.typeIs N0.lookup ?_);rw[if_neg (by simp)];refine Na (IF ?_);refine Na (Fk (getItem_tuple (s:={ s with toks:=s.toks+1 }) d (by omega) (by omega) (j:=i) (by unfold seqIndex?;simp;omega) c ?_));refine Na (EE (s:={ s with toks:=s.toks+1 }) b hd (x:=rawInt (i:Int)) rfl ?_);refine Na (Ex (s:={ s with toks:=s.toks+1 }) b hd (by simp) ?_);refine Ng ⟨x,rfl,Ng (f _ _ ?_ (NV ..))⟩
 exact⟨_,Ea _ b (Fq (Db hd _)),(L4 ..).trans e,by
  rw[Db hd];simp⟩
theorem next_end{it l:Addr}{Q:Option Value->Shared->Prop}(e:A.handled=none)(hit:IsRev s.heap it l (-1))
  (f:∀h' tk,Heap.ExtBut it s.heap h'->Q none { s with heap:=h',toks:=tk }):wpAny (model prog w) A (pyNext (.ref it)) Q E s:=by
 obtain⟨o,c,g,hd⟩:=id hit;unfold pyNext
 refine Na (Fk (Ej (name:=Str.ofString "__next__") hit.typeIs slot_rev_next
  (Eb slot_rev_next hit.typeIs V2 ?_ (Xs _))))
 unfold Builtin.«reversed.__next__»;refine Na (ER (a:=(Value.ref it,[])) rfl ?_)
 try dsimp only
 refine Na (EE c hd (x:=.ref l) rfl ?_);refine Na (EE c hd (x:=rawInt (-1)) rfl ?_);show wpAny _ _ (if(-1:Int)<0 then _ else _) _ _ s;rw[if_pos (by decide)];refine Na (D5 ?_);refine Na (show wpAny _ _ (setField (.ref it) 1 (rawInt (-1))>>=fun _=>setField (.ref it) 0 .none) _ _ _ from ?_);refine Na (Ex c hd (by simp) ?_);have d:(s.heap.update it (Obj.mapFields fun x=>x.setIfInBounds 1 (rawInt (-1)))).get? it=some (Obj.mapFields (fun x=>x.setIfInBounds 1 (rawInt (-1))) o):=Ea _ c (Fq (Db hd _));refine Ex (s:={ s with heap:=s.heap.update it (Obj.mapFields fun x=>x.setIfInBounds 1 (rawInt (-1))) }) d (Db hd _) (by simp) ?_
 first
 |show wpAny _ _ (newExc (.type "StopIteration") []>>=_) _ _ _
 |(refine Na ?_;show wpAny _ _ (newExc (.type "StopIteration") []>>=_) _ _ _)
 refine Na ?_;simp only[newExc,newTuple];refine Na (NY ?_ (by size_fits));refine Na (m:=firstArgMember _ _) (ER (a:=Value.none) (by first|rfl|(simp only[firstArgMember];rfl)) ?_);refine NY ?_ (by size_fits);simp only[raiseNew];refine Na (Lj ?_)
 first|rw[show A.in1.handled=none from e]|rw[e]
 refine Na (Ng (Oc ?_));refine Na (Fl (T:="StopIteration") (b:=true) ⟨_,Ny _ rfl,rfl⟩ isSubtype_stop ?_);refine Ng (f _ _ ((On (On ?_ _) _)));exact(Ls (NV ..)).trans (Ls (NV ..))
theorem iter_self{it l:Addr}{i:Int}{Q:Value->Shared->Prop}(hit:IsRev s.heap it l i)(h:Q (.ref it) s):wpAny (model prog w) A (pyIter (.ref it)) Q E s:=by
 refine F6 hit.typeIs Xm (Eb Xm hit.typeIs Yh ?_ (Y6 _));show wpAny _ _ (ret (.ref it)) _ _ s;exact Ng ⟨_,rfl,"reversed",_,hit.typeIs,slot_rev_next.lookup,h⟩
end
theorem small{n:Nat}(h:n<=sizeLine):(n:Int)<2^62:=by rw[Dj]at h;omega
theorem Gq{h h':Heap}{a:Addr}{items:Array Value}(x:IsTup h a items)(e:∀o,h.get? a=some o->h'.get? a=some o):IsTup h' a items:=let⟨o,b,r⟩:=x;⟨o,e _ b,r⟩
theorem QeJ{prog:Program}{w:World}{A:Around}(u:A.handled=none)(I l:Addr)(m:l≠I)(items:Array Value)(hz:(items.size:Int)<2^62) :
  Walks prog w A I [I,l] [I] items.size (fun i v=>items[items.size-1-i]?=some v) (fun i h=>i<=items.size/\IsRev h I l ((items.size:Int)-1-(i:Int))/\IsTup h l items) where
 sub:=fun b c=>by simp at c;simp[c]
 frame:=fun _ _ _ x r=>⟨x.1,x.2.1.at fun o e=>r I (by simp) o e,Gq x.2.2 fun o e=>r l (by simp) o e⟩
 item:=fun i s Q E t x f=>by
  have e:(items.size:Int)-1-(i:Int)=((items.size-1-i:Nat):Int):=by omega
  have hit:=x.2.1;rw[e]at hit;have q:items[items.size-1-i]?=some (items[items.size-1-i]'(by omega)):=NX (by omega);refine next_item hit x.2.2 q hz fun p j a d=>?_;have e2:((items.size-1-i:Nat):Int)-1=(items.size:Int)-1-((i+1:Nat):Int):=by omega
  rw[e2]at a;exact f _ p j q ⟨t,a,Gq x.2.2 fun o g=>(d.2 l m).trans g⟩ fun b o c g=>d.extBut b o (fun h=>c (by simp[h])) g
 done:=fun s Q E x f=>by
  have e:(items.size:Int)-1-(items.size:Int)=-1:=by omega
  have hit:=x.2.1;rw[e]at hit;exact next_end u hit fun p j n=>f p j fun b o c g=>n b o (fun h=>c (by simp[h])) g
 self:=fun _ _ _ _ x f=>iter_self x.2.1 f
end Rv
namespace L2
section
variable{X:Cx}
noncomputable def Qjd(K:Nd)(a:Addr)(n:Nat):It:=⟨fun i H=>i<n/\∃b,SqT K H a b/\b.length=n,fun i H x c=>c=H/\∀b,SqT K H a b->b[n-1-i]?=some x,fun i _=>n<=i⟩
theorem Qgn{K:Nd}(a it:Addr)(n:Nat):Turn P w K tg (Qjd K a n) [it] it (fun i h=>i<=n/\Rv.IsRev h it a ((n:Int)-1-(i:Int))) where
 mem:=by simp
 obj:=fun i h st b j=>by
  have e:b=it:=by simpa using j
  subst e;obtain⟨_,o,e,c,d⟩:=st;exact⟨o,e,fun v z=>by rw[d]at z;cases z⟩
 keep:=fun i h q st k=>⟨st.1,st.2.at fun o e=>k it (by simp) o e⟩
 item:=by
  intro X t hw y N i f s F H E I m st r;subst t hw y;obtain⟨Z,G,M,hl⟩:=r;obtain⟨S,J,p,T⟩:=I.tuple M;obtain⟨x,L⟩:∃x,G[n-1-i]?=some x:=⟨G[n-1-i]'(by omega),Nk _⟩
  obtain⟨u,hu,R⟩:=J.get L;obtain⟨D,f1,f2,C,B,A⟩:=m it (by simp);have e:(n:Int)-1-(i:Int)=((n-1-i:Nat):Int):=by omega
  have hit:=st.2;rw[e]at hit;refine Rv.next_item hit p (x:=u) (by simpa using hu) (Rv.small (by rw[Nh,<-J.length];exact T)) fun q l g Q=>?_;have e2:((n-1-i:Nat):Int)-1=(n:Int)-1-((i+1:Nat):Int):=by lia
  rw[e2]at g;have I1:Inv X f F H { s with heap:=q,toks:=l }:=I.turned (t':=l) (fun b o j e=>(Q.2 b j).trans e) D f1 C B A;obtain⟨o,e,c,d⟩:=id g;exact⟨u,rfl,QbM (s:={ s with heap:=q,toks:=l }) e c d (by decide) ⟨x,H,I1,R,⟨rfl,fun ys U=>by rw[I.tuple_inj U M];exact L⟩,⟨Z,g⟩,fun b j=>(m b j).1⟩⟩
 done:=by
  intro X t hw y N i f s F H E I m st r;subst t hw y;obtain⟨D,f1,f2,C,B,A⟩:=m it (by simp);have Y:n<=i:=r;have e:(n:Int)-1-(i:Int)=-1:=by have:=st.1;lia
  have hit:=st.2;rw[e]at hit;exact Rv.next_end (I.ok.hd N) hit fun q l eb=>⟨rfl,I.turned (t':=l) (fun b o j e=>eb b o j e) D f1 C B A⟩
 self:=fun _ _ _ _ _ st h=>Rv.iter_self st.2 h
noncomputable def iRt(K:Nd)(f:TA):TI:=fun d H R=>f d H fun e c=>∃a b,e=[.ref a]/\SqT K c a b/\R (Qjd K a b.length) c
theorem Qjj{r a:Expr}(E:Gl X "reversed")(D:X.mg "reversed"=none)(G:PA X [a] t)(B:starEach [a] X.env=[(false,eval a X.env)]:=by rfl):PI X r (.Call (.Name "reversed" p) [a] [] pos) (iRt X.K t):=by
 intro c s m H R I h;refine Call_ (VA I E D boot_reversed (Eg (thn (G pos c s m H _ I h) fun M f n=>?_) B rfl));obtain⟨L,J,I1,x,y⟩:=n;obtain⟨ad,g,e,C,q⟩:=y;subst e;obtain⟨u,rfl,w⟩:=UN x;cases w;obtain⟨d,v,z,A⟩:=I1.tuple C;have j:=v.length;refine Rv.call_rev z (Rv.small (by rw[Nh,<-j];exact A)) ?_;refine Rv.iter_self (l:=ad) (i:=(d.toArray.size:Int)-1) ⟨_,Ny _ rfl,rfl,rfl⟩ ?_;refine⟨f.heap.objs.size,[f.heap.objs.size],_,_,J,rfl,I1.kept (t':=f.toks+1+1) fun b o e=>Ni _ e,Qgn ad _ g.length,⟨Ei _,?_⟩,fun b F=>?_,q⟩
 ·refine⟨_,Ny _ rfl,rfl,?_⟩;have:((d.toArray.size:Nat):Int)-1=(g.length:Int)-1-((0:Nat):Int):=by rw[Nh,j];simp
  rw[<-this]
 ·have e:b=f.heap.objs.size:=by simpa using F
  subst e;exact I1.fpOk (Nw _) (I1.hok.fresh (Nw _))
end
end L2
namespace Mi
open L2
noncomputable def Qm6(ws:List W)(h:MH):Option (W×MH):=match ws with
 |[.tup ws]=>some (.ref h.length,h++[.lst ws.reverse])
 |_=>none
noncomputable def QiX(c:MA):MI:=fun a h=>(c a h).bind fun p=>match p.1 with
 |[.tup b]=>some (b.reverse,none,p.2)
 |_=>none
section
variable{K:Nd}{R:Rn}
theorem QfS(l:SqT K R.F a xs)(r:Rws K R ws xs):ItOk K R (Qjd K a xs.length) ws.reverse none where
 go:=fun i w j h H x d _ e=>by
  have c:=(Nj.mp e).1;rw[DL,r.length]at c;exact⟨c,xs,Zj (fun b o z=>d.sub b o (x.f b o z)) l,rfl⟩
 yld:=fun i w j h H x s e d _ g m=>by
  obtain⟨rfl,n⟩:=m;have c:=(Nj.mp g).1;rw[DL]at c;rw[IX c]at g;obtain⟨v,q,p⟩:=r.get g;have:=n xs (Zj (fun b o z=>d.sub b o (e.f b o z)) l);rw[<-r.length,q]at this;cases this;exact⟨j,Ext.refl _,d,Rw.mono e _ _ p⟩
 stop:=fun i j h H x d _ c=>by rw[DL,r.length]at c;exact c
end
section
variable{X:Cx}{tg a:Expr}{ms:MA}{p pos:Pos}
theorem Qhi(u:Gl X "reversed")(t:X.mg "reversed"=none)(w:PMA X [a] ms)(s:starEach [a] X.env=[(false,eval a X.env)]:=by rfl):PMI X tg (.Call (.Name "reversed" p) [a] [] pos) (QiX ms):=
 Gr (Qjj u t w s) fun z H C i=>by
  obtain⟨R,c,h,items,n,D,r,st,e,k⟩:=i;obtain⟨⟨m,x⟩,e1,e2⟩:=Nc.mp e;refine⟨R,c,h,m,x,r,st,e1,fun R1 y A l b o=>?_⟩;split at e2
  ·rename_i B f;simp only at f;subst f;cases e2;obtain⟨v,rfl,d⟩:=GW o;unfold Rw at d;obtain⟨ad,j,rfl,g,q⟩:=d;exact⟨ad,j,rfl,Zj b.sub g,k R1 y _ l b (QfS g q)⟩
  ·cases e2
end
end Mi
namespace L2
section
variable{prog:Program}{w:World}{A:Around}{E:Value->Shared->Prop}
theorem Qfx{it l:Addr}{xs:Array Value}(d:l≠it):∀(n i:Nat) (s:Shared) (Q:List Value->Shared->Prop),s.heap.IsListIter it l i->s.heap.IsList l xs->i+n<=xs.size ->
  (∀h',h'.IsListIter it l (i+n)->Heap.SameBut it s.heap h'->Q ((xs.toList.drop i).take n) { s with heap:=h' })->wpAny (model prog w) A (draw (.ref it) n) Q E s:=by
 intro n
 induction n with
 |zero=>
  intro i s Q g _ _ q;refine(show wpAny _ _ (pure []) Q E s from Ng ?_);simpa using q s.heap g (Dg ..)
 |succ n j=>
  intro i s Q g h o q;have b:i<xs.size:=by lia
  refine(show wpAny _ _ (pyNext (.ref it)>>=_) Q E s from Na (IG g h (x:=xs[i]) (by simp[b]) fun p f a=>?_));refine Na (N6 (j (i+1) _ _ f (h.extBut a.extBut d) (by lia) fun m e c=>Ng ?_));have z:=q m (by rw[show i+(n+1)=i+1+n by lia];exact e) (a.trans c);rw[show xs.toList.drop i=xs[i]::xs.toList.drop (i+1) by simp[EQ,b],List.take_succ_cons]at z;exact z
theorem Qbn{s:Shared}{env:Env}{es:List Expr}{k:Nat}{pos:Pos}{l:Addr}{xs:Array Value}{Q:Unit->Shared->Prop}(n:A.handled=none)(d:s.heap.IsList l xs)(m:(assignEach es env).length=xs.size)(f:(assignEach es env).findIdx? (·.1)=none)
  (q:∀h',Heap.ExtBut s.heap.objs.size s.heap h'->wpAny (model prog w) A (assignInOrder ((assignEach es env).map (·.2)) xs.toList) Q E { s with heap:=h' }):wpAny (model prog w) A (assign (.Tuple es k pos) env (.ref l)) Q E s:=by
 have c:l≠s.heap.objs.size:=let⟨o,j,_⟩:=d;NS (Nz j)
 rw[assign_Tuple];refine Na (FT ?_);unfold unpack;rw[m,f];refine Na (N6 ?_);unfold unpackItems notIterableAtAll;refine Na (Na (Dt d.typeIs PySem.slot_list_iter.lookup (Ng ?_)));simp only[E8,if_false];refine Na (N6 (Fb d ?_));refine Na (N6 (Qfx c xs.size 0 _ _ ⟨_,Ny _ rfl,rfl,rfl⟩ (d.push _) (by lia) fun t h a=>?_));rw[show List.take xs.size (List.drop 0 xs.toList)=xs.toList by rw[FP];exact E6 (by simp),if_neg (by simp)];have g:t.IsList l xs:=(d.push _).extBut a.extBut c;refine Na (N6 (IP n h g (by simp) fun r p=>?_));simp only[Option.isSome_none,E8,if_false];exact Ng (q r fun b o i e=>p b o i (a.extBut b o i (Ni _ e)))
end
noncomputable def gLs(K:Nd)(n:Nat)(t:TGs):TG:=fun v c H Q=>∃a b,v=.ref a/\SqL K H a b/\b.length=n/\t b c H Q
theorem Qji{X:Cx}{es:List Expr}{k:Nat}{t:TGs}{n:Nat}{pos:Pos}(x:X.calm=true)(h:PGs X es t)
  (q:(assignEach es X.env).length=n:=by rfl) (d:(assignEach es X.env).findIdx? (·.1)=none:=by rfl):PG X (.Tuple es k pos) (gLs X.K n t):=by
 intro c s g H v u Q I r hw;obtain⟨a,i,e1,p,w,hw⟩:=hw;subst e1;cases r;obtain⟨j,f,m,z⟩:=I.list p;refine Qbn (I.ok.hd x) m.isList (by simp[q,<-w,f.length]) d fun A l=>?_;exact h c _ g H i _ Q (I.kept (t':=s.toks) fun b o e=>l b o (NS (Nz e)) e) (by simpa using f) hw
end L2
namespace Mi
open L2
noncomputable def QgB(is:List Nat):MG:=fun w a h=>(lsW h w).bind fun b=>Qaw is b a
theorem Qc3{X:Cx}{es:List Expr}{k:Nat}{pos:Pos}{is:List Nat}(o:X.calm=true)(h:PGs X es (Ge is))(n:(assignEach es X.env).length=is.length)(m:(assignEach es X.env).findIdx? (·.1)=none):PMG X (.Tuple es k pos) (QgB is):=
 Qby (Qji o h n m) fun v p H C g=>by
  obtain⟨R,d,h,w,f,b,st,rw,e,q⟩:=g;obtain⟨r,e1,e2⟩:=Nc.mp e;obtain⟨ad,i,rfl,l,c⟩:=b.lsAt rw e1;exact⟨ad,i,rfl,l,by rw[<-c.length];exact KL e2,YF e2 c st fun a j=>q R H a (Ext.refl _) b j⟩
theorem QaA(l:Addr)(items:Array Value)(n:Nat)(c:Option Addr)(b:Array (Option Value))(u:Tok) :
  Meets (Builtin.«tuple.__mul__» ⟨[.ref l,.int 1 u],[]⟩) (fun _ R s=>s.heap.get? l=some { cls:=.type "tuple",dict:=c,data:=.seq items n,slots:=b }/\R (.ok (.ret (.ref l))) s):=
 .of_wp fun a w A R s h=>by
  obtain⟨f,g,d,e,os⟩:=s;obtain⟨i,h⟩:=h;have f1:=Ik;have m:(decide ((1:Int) < -(2^63:Int)) ||decide ((1:Int) >= 2^63))=false:=by decide
  have j:(items.isEmpty ||(1:Int)==1)=true:=by simp
  wp_walk
  exact⟨_,rfl,h⟩
theorem Qat(l:Addr)(items:Array Value)(n:Nat)(e:Option Addr)(b:Array (Option Value))(u:Tok)(c:items.isEmpty=false) :
  Meets (Builtin.«tuple.__mul__» ⟨[.ref l,.int 0 u],[]⟩) (fun _ R s=>s.heap.get? l=some { cls:=.type "tuple",dict:=e,data:=.seq items n,slots:=b } /\
   R (.ok (.ret (.ref s.heap.objs.size))) { s with heap:=s.heap.push { cls:=.type "tuple",data:=.seq #[] } }):=
 .of_wp fun a w A R s h=>by
  obtain⟨i,g,d,f,os⟩:=s;obtain⟨j,h⟩:=h;have f1:=Ik;have p:(decide ((0:Int) < -(2^63:Int)) ||decide ((0:Int) >= 2^63))=false:=by decide
  have o:(items.isEmpty ||(0:Int)==1)=false:=by rw[c];rfl
  have m:(decide ((0:Int)<=0) ||items.isEmpty)=true:=by simp
  wp_walk
  exact⟨_,rfl,h⟩
noncomputable def Zh(a b:W)(h:MH):Option (W×MH):=match a,b with
 |.tup c,.int n=>if 0<=n/\n<=1000/\0<c.length/\c.length<=1000 then some (.tup (List.replicate n.toNat c).flatten,h)else none
 |_,_=>none
theorem QdZ {X:Cx}:OpR X (binaryOp .Mult) (F2 X.K Zh):=by
 intro f s O H x y v u Q I E D q;obtain⟨R,h,a,b,w,h',i,A,G,e,k⟩:=q;unfold Zh at e;split at e
 ·split at e
  ·rename_i C n M
   by_cases h2:2<=n
   ·refine Qdn f s O H x y v u Q I E D ⟨R,h,_,_,w,h',i,A,G,?_,k⟩;exact(if_pos ⟨h2,M.2⟩).trans e
   ·cases e;obtain⟨ad,xs,rfl,S,J⟩:=i.tupAt A;have eb:=G.int_eq;subst eb;cases E;obtain⟨t,rfl⟩:=D;obtain⟨c,F,⟨⟨cls,j,data,g⟩,d,N,m,hd⟩,hz⟩:=I.tuple S;simp only at N hd;subst N hd;have Y:=J.length;have L:=F.length;have B:c≠[]:=fun z=>by rw[z,DP]at L;exact DI (Nn (Nx Y) (Nx L)) M.2.2.1
    by_cases h1:n=1
    ·subst h1
     refine DS (T:="tuple") (U:="int") (by decide) ⟨_,d,rfl⟩ (fun l=>D4 l 1 t) Jh Ft EN VM Fg.lookup
      (E5 EN (D4 s 1 t) Fh (D8 _ _) (XR 1 t ad c.toArray m j g)
       ⟨d,rfl,⟨_,d,rfl⟩,E5 E7 ⟨_,d,rfl⟩ D9 (D2 _ _)
        (QaA ad c.toArray m j g t) ⟨d,?_⟩⟩)
     have ew:(List.replicate (1:Int).toNat C).flatten=C:=by simp
     rw[ew]at k;exact⟨.ref ad,_,I,rfl,k R H _ (Ext.refl _) i A⟩
    ·have h0:n=0:=by omega
     subst h0
     refine DS (T:="tuple") (U:="int") (by decide) ⟨_,d,rfl⟩ (fun l=>D4 l 0 t) Jh Ft EN VM Fg.lookup
      (E5 EN (D4 s 0 t) Fh (D8 _ _) (XR 0 t ad c.toArray m j g)
       ⟨d,rfl,⟨_,d,rfl⟩,E5 E7 ⟨_,d,rfl⟩ D9 (D2 _ _)
        (Qat ad c.toArray m j g t (by simp[B])) ⟨d,?_⟩⟩)
     have Z:=I.hok.fresh (Nw s.heap.objs.size);obtain⟨R3,P,r,p⟩:=i.tup Z (UU J 0);refine⟨.ref s.heap.objs.size,_,I.laid (t':=s.toks) (fun b o e=>Ni _ e) (Nw _) (show ObjOk X.prog X.w _ _ _ (.tup _)from⟨?_,_,Wx F 0,_,Ny _ rfl,rfl,0,rfl⟩),rfl,k R3 _ _ P r p⟩;exact Ei _
  ·cases e
 ·cases e
section
variable{p:List Value->Prop}
theorem ar0(h:p [])(us:List Value)(e:us.length=0):p us:=List.eq_nil_of_length_eq_zero e▸h
theorem arS{n:Nat}(h:∀a us,us.length=n->p (a::us)):∀us:List Value,us.length=n+1->p us
 |a::us,e=>h a us (Nat.succ.inj e)
theorem ar1(h:∀a,p [a]):∀us:List Value,us.length=1->p us:=arS fun a=>ar0 (h a)
theorem ar2(h:∀a b,p [a,b]):∀us:List Value,us.length=2->p us:=arS fun a=>ar1 (h a)
theorem ar3(h:∀a b c,p [a,b,c]):∀us:List Value,us.length=3->p us:=arS fun a=>ar2 (h a)
end
end Mi
namespace My
open L2 Mi
set_option maxHeartbeats 4000000
local macro_rules|`(tactic|walk_at $s:str)=>do
 let l:=s.getString.toList
 if l.head? != some '~'then Lean.Macro.throwUnsupported
 let mut r:Array (Lean.TSyntax `tactic):=#[]
 let mut f:=false
 for c in l.tail do
  if c=='!'then f:=true
  else
   r:=r.push (<-match f,c with
    |false,'#'=>`(tactic|refine Qdr ?_ ?_)
    |false,'$'=>`(tactic|exact rfl)
    |false,'%'=>`(tactic|exact Qh3 _)
    |false,'&'=>`(tactic|exact Qfv)
    |false,'('=>`(tactic|exact Qib)
    |false,')'=>`(tactic|refine Qc5 (by assumption) ?_ ?_ ?_ ?_ ?_ ?_ ?_)
    |false,'*'=>`(tactic|first|exact .inl rfl|exact .inr rfl)
    |false,'+'=>`(tactic|refine QiG ?_)
    |false,','=>`(tactic|refine Qdj ?_ ?_)
    |false,'-'=>`(tactic|exact Qhv)
    |false,'.'=>`(tactic|refine XN Qf8 Qv ?_ ?_)
    |false,'/'=>`(tactic|refine QeU ?_)
    |false,'0'=>`(tactic|refine Qf9 ?_ ?_ ?_ ?_ ?_ ?_)
    |false,'1'=>`(tactic|refine Qj1 ?_ ?_)
    |false,'2'=>`(tactic|exact $(Lean.mkIdent `hr.mono) (by decide))
    |false,'3'=>`(tactic|refine XN Qfd Qv ?_ ?_)
    |false,'4'=>`(tactic|refine QfW ?_)
    |false,'5'=>`(tactic|refine Jf (Qa2 ?_) Qv ?_ ?_)
    |false,'6'=>`(tactic|refine Qhl ?_ ?_ ?_)
    |false,'7'=>`(tactic|decide)
    |false,'8'=>`(tactic|exact(Or.inl rfl))
    |false,'9'=>`(tactic|exact JZ (by dsimp only[blk];decide +kernel) rfl (Or.inl rfl))
    |false,':'=>`(tactic|refine XN Qfn Qv ?_ ?_)
    |false,';'=>`(tactic|refine Kq Qbf JQ ?_ ?_ IW ?_ ?_ ?_ ?_ ?_)
    |false,'<'=>`(tactic|refine XN QdZ Qv ?_ ?_)
    |false,'='=>`(tactic|have $(Lean.mkIdent `hu):ident:=$(Lean.mkIdent `hr.units))
    |false,'>'=>`(tactic|exact Qf2)
    |false,'?'=>`(tactic|assumption)
    |false,'@'=>`(tactic|exact $(Lean.mkIdent `nd_))
    |false,'A'=>`(tactic|refine Kq QbL JQ ?_ ?_ PyProof.Rows.boot_isinstance ?_ ?_ ?_ ?_ ?_)
    |false,'B'=>`(tactic|refine Jk ZU ?_ (ZK (Nb:=["k"]) (cp:=[none]) rfl (by decide +kernel) (by decide +kernel) rfl rfl) ?_ (fun _ _ _ _ _=>?_) (fun _ _ _ _ _=>?_))
    |false,'C'=>`(tactic|exact $(Lean.mkIdent `hu))
    |false,'D'=>`(tactic|refine Kq (Qa3 ?_) JQ ?_ ?_ PyProof.Rows.boot_all ?_ ?_ ?_ ?_ ?_)
    |false,'E'=>`(tactic|exact QjW)
    |false,'F'=>`(tactic|refine Qe7 ?_)
    |false,'G'=>`(tactic|refine Xv UX JQ ?_ ?_ EX ?_ ?_ ?_ ?_ ?_)
    |false,'H'=>`(tactic|refine Qfw ?_)
    |false,'I'=>`(tactic|refine Qc8 ?_ ?_ ?_)
    |false,'J'=>`(tactic|refine QfL ?_ ?_ ?_ ?_ ?_ ?_)
    |false,'K'=>`(tactic|refine KO $(Lean.mkIdent `nd_) rfl (Or.inl rfl) ?_ ?_)
    |false,'L'=>`(tactic|exact fun _=>rfl)
    |false,'M'=>`(tactic|refine QeX ?_)
    |false,'N'=>`(tactic|refine XN Qfi Qv ?_ ?_)
    |_,_=>Lean.Macro.throwUnsupported)
   f:=false
 `(tactic|($[$r]*))
noncomputable def top(i:Nat):Stmt:=Lg.main.body.getD i (.Pass ⟨0,0,0,0⟩)
noncomputable abbrev XL:W:=.tup (Qbm ["pair","first","second","none","tell","back","either","or","again","end","do","part"])
noncomputable abbrev Jt:W:=.int 500
noncomputable abbrev Z6:W:=.int 6
noncomputable abbrev Jj:W:=.int 5
noncomputable abbrev QU:W:=.int 8
noncomputable abbrev Jn:W:=.int 48
noncomputable abbrev ZB:W:=.int 5
noncomputable abbrev J1:W:=.int 24
noncomputable abbrev Js:W:=.int 5
noncomputable abbrev Ql:List (Str×Int):=[("pair",4),("first",2),("second",2),("same",2),("none",1),("tell",1),("back",1),("either",0),("or",0),("again",0),("end",0),("do",1)]
noncomputable abbrev ZR:W:=.tup [.int 1,.int 0,.int 0,.int 0]
section
variable{P:Program}{w:World}{K:Nd}{mg:Str->Option Value}{base:Heap}
noncomputable abbrev ZT:Stmt:=top 36
theorem XA:FnScope ["cell","many","letters"] ["cell","many"] (Qf ZT):=⟨rfl,rfl,rfl,by decide +kernel,rfl,by decide +kernel,by decide +kernel⟩
noncomputable def Ja:FM:=Qw 1
  (QA (Zx 2 (mC (.str "abcdefghijklmnopqrstuvwxyz")))
  (QA (ZZ (Qr (Qc wEq (Qc Zy (Qb 0) (mC (.int 2))) (mC (.int 0)))) (Q8 (Zg ZH (Kc (Qa (Qb 1) Qd)) [none,some 2,some 0] (Z0 0) XI (Qc QW (mC (.str "nxq")) (Qc wIx (Qb 1) (Qc Zy (Qc QW (Qc JP (Qb 2) (mC (.int 2))) (Qb 0)) (mC (.int 26))))))) QF)
  (Q8 (Zg ZH (Kc (Qa (Qb 1) Qd)) [none] (Z0 0) XI (mSl (mC (.str "xwvutsrq")) Jp (Ju (Qc QW (mC (.int 1)) (Qb 0))))))))
theorem Yc(d:DefAt K mg "_law_names" ZT ["cell","many"])(b_range:mg "range"=none):Cal P w K mg base 1 "_law_names" ["cell","many"] Ja:=by
 refine QK (k:=0) (more:=1) d XA rfl fun _ _ _ _ _ _ _ hr=>?_;have nd_:=(XA).nd
 walk_at"~=,0@$"
 exact(Or.inr rfl)
 walk_at"~-$*,65C3%((/4"
 refine Jk ZU ?_ (Qab (ks:=["letters","cell"]) (Nb:=["k","letters","cell"]) (cp:=[none,some 2,some 0]) (N:=["cell","many","letters"]) (xs:=(Qf ZT)) rfl rfl (by decide +kernel) rfl (by decide +kernel) (by intro p hp;simp only[Nv,NQ,or_false]at hp;rcases hp with rfl|rfl<;>rfl) rfl rfl rfl (by decide +kernel)) ?_ (fun _ _ _ _ _=>?_) (fun _ _ _ _ _=>?_)
 walk_at"~$"
 refine Xr ?_ ?_ ?_ ?_
 walk_at"~$?#%&$9.-1%3.:%(%(>/4B$"
 refine Xr ?_ ?_ ?_ ?_
 walk_at"~$?#%&$9I-"
 exact ZM;refine ZL ?_
 walk_at"~.(%"
noncomputable def ZX:FM:=box frN Ja
noncomputable abbrev JN:Stmt:=top 35
theorem X7:FnScope ["script","k"] ["script","k"] (Qf JN):=⟨rfl,rfl,rfl,by decide +kernel,rfl,by decide +kernel,by decide +kernel⟩
noncomputable def Jl:FM:=Qw 0
  (QA (ZZ (Qr (Qc wLt (Qb 1) (mFn VX (Qa (Qb 0) Qd)))) (Q8 (Qc Zy (Qc wIx (Qb 0) (Qb 1)) (Qc QgQ (mC (.int 10)) (mC (.int 40))))) QF)
  (Q8 (Qc JP (Qc Vh (Qc Vh (Qc QW (Qb 1) (mC (.int 9))) (mC (.int 32452843))) (Qc QW (Qb 1) (mC (.int 4)))) (mC (.int 7)))))
theorem Y4(d:DefAt K mg "_law_cell" JN ["script","k"])(b_len:mg "len"=none):Cal P w K mg base 1 "_law_cell" ["script","k"] Jl:=by
 refine QK (k:=0) (more:=0) d X7 rfl fun _ _ _ _ _ _ _ hr=>?_;have nd_:=(X7).nd
 walk_at"~=,6"
 refine Jf Qeg Qv ?_ ?_
 walk_at"~%;$?#%&77$$/431%%"
 refine XN Qgv Qv ?_ ?_
 walk_at"~((>/4:"
 refine XN Vn Qv ?_ ?_;refine XN Vn Qv ?_ ?_
 walk_at"~.%((.%(("
noncomputable def Qj:FM:=box frN Jl
noncomputable abbrev Jr:Stmt:=top 38
theorem Xu:FnScope ["cell","inner"] ["cell","inner"] (Qf Jr):=⟨rfl,rfl,rfl,by decide +kernel,rfl,by decide +kernel,by decide +kernel⟩
noncomputable def ZI:FM:=Qw 0
  (QA (ZZ (Qr (Qc wEq (Qc Zy (Qb 0) (mC (.int 2))) (mC (.int 0)))) (Q8 (Qc QW (Qc QW (mFn Qm (Qa (mFn Qm (Qa (mC (.str "again")) Qd)) Qd)) (Qb 1)) (mFn Qm (Qa (mFn Qm (Qa (mC (.str "end")) Qd)) Qd)))) QF)
  (QA (ZZ (Qr (Qc wEq (Qc Zy (Qc JP (Qb 0) (mC (.int 2))) (mC (.int 2))) (mC (.int 0)))) (Q8 (Qc QW (Qc QW (mFn Qm (Qa (mFn Qm (Qa (mC (.str "either")) Qd)) Qd)) (Qb 1)) (mFn Qm (Qa (mFn Qm (Qa (mC (.str "or")) Qd)) (Qa (mFn Qm (Qa (mC (.str "end")) Qd)) Qd))))) QF)
  (Q8 (Qc QW (Qc QW (mFn Qm (Qa (mFn Qm (Qa (mC (.str "either")) Qd)) (Qa (mFn Qm (Qa (mC (.str "or")) Qd)) Qd))) (Qb 1)) (mFn Qm (Qa (mFn Qm (Qa (mC (.str "end")) Qd)) Qd))))))
theorem Yd(d:DefAt K mg "_law_block" Jr ["cell","inner"]):Cal P w K mg base 1 "_law_block" ["cell","inner"] ZI:=by
 refine QK (k:=0) (more:=0) d Xu rfl fun _ _ _ _ _ _ _ hr=>?_;have nd_:=(Xu).nd
 walk_at"~=,65C3%((/4..+#+#-&&%+#+#-&&>,65C3:%(((/4..+#+#-&&%+#+#-&#+#-&&>/4..+#+#-&#+#-&&%+#+#-&&"
noncomputable def ZF:FM:=box frN ZI
noncomputable abbrev Jd:Stmt:=top 37
theorem Kb:FnScope ["cell","boxes","words","x","y","z","some"] ["cell","boxes","words"] (Qf Jd):=⟨rfl,rfl,rfl,by decide +kernel,rfl,by decide +kernel,by decide +kernel⟩
noncomputable def Vy:FM:=Qw 4
  (QA (Qjp (QgB [3,4,5]) (Zg ZH (QC (mFn Qm (Qa (mC (.int 9)) (Qa (mC (.int 45)) (Qa (mC (.int 225)) Qd))))) [none,some 1,some 0] (Z0 0) XI (Qc wIx (Qb 1) (Qc Zy (Qc JP (Qb 2) (Qb 0)) (mFn VX (Qa (Qb 1) Qd))))))
  (QA (Zx 6 (mFn UE (Qa (mFn Qm (Qa (mC (.str "pair")) (Qa (Qb 3) (Qa (Qc wIx (Qb 2) (Qc Zy (Qc JP (Qb 0) (mC (.int 1125))) (mFn VX (Qa (Qb 2) Qd)))) (Qa (Qb 4) (Qa (Qb 5) Qd)))))) (Qa (mFn Qm (Qa (mC (.str "first")) (Qa (Qb 3) (Qa (Qb 4) Qd)))) (Qa (mFn Qm (Qa (mC (.str "second")) (Qa (Qb 3) (Qa (Qb 4) Qd)))) (Qa (mFn Qm (Qa (mC (.str "same")) (Qa (Qb 3) (Qa (Qb 4) Qd)))) Qd))))))
  (Q8 (Qc wIx (Qc QW (Qb 6) (mFn UE (Qa (mFn Qm (Qa (mC (.str "none")) (Qa (Qb 3) Qd))) (Qa (mFn Qm (Qa (mC (.str "tell")) (Qa (Qb 4) Qd))) (Qa (mFn Qm (Qa (mC (.str "back")) (Qa (Qc wIx (Qb 2) (mC (.int 0))) Qd))) (Qa (mFn Qm (Qa (mC (.str "none")) (Qa (Qb 4) Qd))) (Qa (mFn Qm (Qa (mC (.str "first")) (Qa (Qb 3) (Qa (Qb 3) Qd)))) Qd))))))) (Qc Zy (Qb 0) (mC (.int 9)))))))
theorem YW(d:DefAt K mg "_law_line" Jd ["cell","boxes","words"])(b_len:mg "len"=none):Cal P w K mg base 1 "_law_line" ["cell","boxes","words"] Vy:=by
 refine QK (k:=0) (more:=4) d Kb rfl fun _ _ _ _ _ _ _ hr=>?_;have nd_:=(Kb).nd
 walk_at"~=,"
 refine Qfh ?_ ?_ ?_ ?_ ?_;refine Jk ZU ?_ (Qab (ks:=["cell","boxes"]) (Nb:=["by","boxes","cell"]) (cp:=[none,some 1,some 0]) (N:=["cell","boxes","words","x","y","z","some"]) (xs:=(Qf Jd)) rfl rfl (by decide +kernel) rfl (by decide +kernel) (by intro p hp;simp only[Nv,NQ,or_false]at hp;rcases hp with rfl|rfl<;>rfl) rfl rfl rfl (by decide +kernel)) ?_ (fun _ _ _ _ _=>?_) (fun _ _ _ _ _=>?_)
 walk_at"~$M+#(#(#(&91%3:%%;$?#%&77$$"
 refine Qc3 (is:=[3,4,5]) ?_ ?_ ?_ ?_
 walk_at"~$KKK"
 exact Ku
 walk_at"~***$$$$$,0@$8"
 refine Vg ?_
 walk_at"~#+#-#%#1%3:%(;$?#%&77$$#%#%&#+#-#%#%&#+#-#%#%&#+#-#%#%&&$*/41.%"
 refine Vg ?_
 walk_at"~#+#-#%&#+#-#%&#+#-#1%(&#+#-#%&#+#-#%#%&&3%("
noncomputable def Zv:FM:=box frN Vy
noncomputable abbrev Zu:Stmt:=top 39
theorem VR:FnScope ["script","many","names","boxes","words","parts","k","cell","lines"] ["script"] (Qf Zu):=⟨rfl,rfl,rfl,by decide +kernel,rfl,by decide +kernel,by decide +kernel⟩
noncomputable abbrev Q9:SM:=(QA (Zx 7 (Qk 2 Qj (Qa (Qb 0) (Qa (Qc QW (mC (.int 8)) (Qc Vh (mC (.int 4)) (Qb 6))) Qd))))
  (QA (Zx 8 (mFn Vf (Qa (Zg ZH (Kc (Qa (mC (.int 3)) Qd)) [none,some 3,some 4,some 0,some 6] (Z0 0) XI (Qk 3 Zv (Qa (Qk 2 Qj (Qa (Qb 3) (Qa (Qc QW (Qc QW (mC (.int 5)) (Qc Vh (mC (.int 4)) (Qb 4))) (Qb 0)) Qd))) (Qa (Qb 1) (Qa (Qb 2) Qd))))) Qd)))
  (QA (ZZ (QaC (Qr (Qc wLt (Qb 6) (Qc UO (Qb 1) (mC (.int 1))))) (Qr (Qc wGt (Qc Zy (Qb 7) (mC (.int 3))) (mC (.int 0))))) (Zx 8 (Qc QW (Qb 8) (mFn Qm (Qa (mFn Qm (Qa (mC (.str "do")) (Qa (Qc wIx (Qb 2) (Qc QW (Qc QW (Qb 6) (mC (.int 1))) (Qc Zy (Qc JP (Qb 7) (mC (.int 3))) (Qc UO (Qc UO (Qb 1) (mC (.int 1))) (Qb 6))))) Qd))) Qd)))) QF)
  (QA (ZZ (Qr (Qc wEq (Qc Zy (Qc JP (Qb 7) (mC (.int 60))) (mC (.int 2))) (mC (.int 0)))) (Zx 8 (Qk 2 ZF (Qa (Qc JP (Qb 7) (mC (.int 120))) (Qa (Qb 8) Qd)))) QF)
  (W6 (mMt "list" XM (Qb 5) (Qa (mFn Qm (Qa (Qc wIx (Qb 2) (Qb 6)) (Qa (Qb 8) Qd))) Qd)))))))
noncomputable def Jg:FM:=Qw 8
  (QA (Zx 1 (Qc QW (mC (.int 1)) (Qc Zy (Qk 2 Qj (Qa (Qb 0) (Qa (mC (.int 1)) Qd))) (mC (.int 5)))))
  (QA (Zx 2 (Qk 2 ZX (Qa (Qk 2 Qj (Qa (Qb 0) (Qa (mC (.int 2)) Qd))) (Qa (mC (.int 5)) Qd))))
  (QA (Zx 3 (mSl (Qk 2 ZX (Qa (Qk 2 Qj (Qa (Qb 0) (Qa (mC (.int 3)) Qd))) (Qa (mC (.int 5)) Qd))) Jp (Ju (Qc QW (mC (.int 1)) (Qc Zy (Qc JP (Qk 2 Qj (Qa (Qb 0) (Qa (mC (.int 3)) Qd))) (mC (.int 60))) (mC (.int 5)))))))
  (QA (Zx 4 (mSl (Qk 2 ZX (Qa (Qk 2 Qj (Qa (Qb 0) (Qa (mC (.int 4)) Qd))) (Qa (mC (.int 5)) Qd))) Jp (Ju (Qc QW (mC (.int 1)) (Qc Zy (Qc JP (Qk 2 Qj (Qa (Qb 0) (Qa (mC (.int 4)) Qd))) (mC (.int 60))) (mC (.int 5)))))))
  (QA (Zx 5 (mFn Qen Qd))
  (QA (VO (Kc (Qa (Qb 1) Qd)) (Z0 6)
  Q9)
  (Q8 (mFn Vf (Qa (Qb 5) Qd)))))))))
theorem Kj(d:DefAt K mg "_law_program" Zu ["script"])(b_range:mg "range"=none)(b_tuple:mg "tuple"=none)(c__law_block:Cal P w K mg base 1 "_law_block" ["cell","inner"] ZF)(c__law_cell:Cal P w K mg base 1 "_law_cell" ["script","k"] Qj)(c__law_line:Cal P w K mg base 1 "_law_line" ["cell","boxes","words"] Zv)(c__law_names:Cal P w K mg base 1 "_law_names" ["cell","many"] ZX):Cal P w K mg base 2 "_law_program" ["script"] Jg:=by
 refine QK (k:=1) (more:=8) d VR rfl fun _ _ _ _ _ _ _ hr=>?_;have nd_:=(VR).nd
 walk_at"~=,0@$8.(3)2$#%#(&$7$$($*,0@$8)2$#)2$#%#(&$7$$#(&$7$$$*,0@$"
 exact(Or.inr rfl)
 walk_at"~I)2$#)2$#%#(&$7$$#(&$7$$"
 exact ZM;refine ZL ?_
 walk_at"~.(3:)2$#%#(&$7$$(($*,0@$"
 exact(Or.inr rfl)
 walk_at"~I)2$#)2$#%#(&$7$$#(&$7$$"
 exact ZM;refine ZL ?_
 walk_at"~.(3:)2$#%#(&$7$$(($*,0@$8"
 refine Uq ?_
 walk_at"~&$*,J"
 exact EC
 walk_at"~$"
 refine Xr ?_ ?_ ?_ ?_
 walk_at"~$?#%&$"
 exact JZ (i:=6) (x:="k") nd_ rfl (Or.inr rfl)
 walk_at"~,0@$8)2$#%#.("
 refine XN Vn Qv ?_ ?_
 walk_at"~(%&$7$$$*,0@$8G$?#"
 refine Jk ZU ?_ (Qab (ks:=["words","script","k","boxes"]) (Nb:=["j","boxes","words","script","k"]) (cp:=[none,some 3,some 4,some 0,some 6]) (N:=["script","many","names","boxes","words","parts","k","cell","lines"]) (xs:=(Qf Zu)) rfl rfl (by decide +kernel) rfl (by decide +kernel) (by intro p hp;simp only[Nv,NQ,or_false]at hp;rcases hp with rfl|rfl|rfl|rfl<;>rfl) rfl rfl rfl (by decide +kernel)) ?_ (fun _ _ _ _ _=>?_) (fun _ _ _ _ _=>?_)
 walk_at"~$"
 refine Xr ?_ ?_ ?_ ?_
 walk_at"~$?#(&$9)2$#)2$#%#..("
 refine XN Vn Qv ?_ ?_
 walk_at"~(%%&$7$$#%#%&$7$$&77$$$*,6"
 refine PMW.pt ?_;refine Qfu ?_ ?_;refine Jf Qeg Qv ?_ ?_
 walk_at"~%N%("
 refine QdJ ?_;refine Jf Qac Qv ?_ ?_
 walk_at"~3%((/0@$8.%+#+#-#1%..%(3:%(NN%(%&&$*>,65C3:%(((/0@$8)2$#:%(#%&$7$$$*>/"
 refine Xp ?_;refine QaV EY DC Il Yk ?_ ?_
 walk_at"~%#+#1%%#%&&L/4G$?#%&77$$"
noncomputable def Jy:FM:=box frN Jg
noncomputable abbrev Q0:Stmt:=top 29
theorem JR:FnScope ["parts","names","number","part","behind"] ["parts"] (Qf Q0):=⟨rfl,rfl,rfl,by decide +kernel,rfl,by decide +kernel,by decide +kernel⟩
noncomputable abbrev Qu:SM:=(QA (Zx 4 (mSl (Qb 1) (Ju (Qc QW (Qb 2) (mC (.int 1)))) Jp))
  (ZZ (J6 (Wn (mFn Yn (Qa (Zg ZH (QC (Qc wIx (Qb 3) (mC (.int 1)))) [none,some 4] (Z0 0) (Qr (Qc wEq (Qc wIx (Qb 0) (mC (.int 0))) (mC (.str "do")))) (Qc (wIn false) (Qc wIx (Qb 0) (mC (.int 1))) (Qb 1))) Qd)))) (Q8 (mC (.bl false))) QF))
noncomputable def QV:FM:=Qw 4
  (QA (Zx 1 (Zg ZH (QC (Qb 0)) [none] (Z0 0) XI (Qc wIx (Qb 0) (mC (.int 0)))))
  (QA (ZZ (Qr (Qc wNe (mFn VG (Qa (Qb 1) Qd)) (mFn VX (Qa (Qb 1) Qd)))) (Q8 (mC (.bl false))) QF)
  (QA (VO (YC (Qa (Qb 0) Qd)) (XU [2,3])
  Qu)
  (Q8 (mC (.bl true))))))
theorem Xe(d:DefAt K mg "has_right_names" Q0 ["parts"])(b_all:mg "all"=none)(b_enumerate:mg "enumerate"=none)(b_len:mg "len"=none)(b_set:mg "set"=none):Cal P w K mg base 1 "has_right_names" ["parts"] QV:=by
 refine QK (k:=0) (more:=4) d JR rfl fun _ _ _ _ _ _ _ hr=>?_;have nd_:=(JR).nd
 walk_at"~=,"
 refine WU nd_ rfl (Or.inl rfl) ?_ ZU ?_ (ZK (Nb:=["part"]) (cp:=[none]) rfl (by decide +kernel) (by decide +kernel) rfl rfl) ?_ (fun _ _ _ _ _=>?_) (fun _ _ _ _ _=>?_) ?_ ?_
 walk_at"~*$M%91%(L$,6"
 refine Jf (GZ ?_) Qv ?_ ?_
 walk_at"~C"
 refine Qbo ?_ ?_ ?_ ?_ ?_ ?_ ?_
 walk_at"~$$?$?%$;$?#%&77$$/4E>,J"
 exact EC
 walk_at"~$"
 refine QdV ?_ ?_ ?_ ?_
 walk_at"~$?#%&$"
 refine Wa ?_ ?_ ?_ ?_
 walk_at"~$KK"
 exact Ku
 walk_at"~**$$,0@$"
 exact(Or.inr rfl)
 walk_at"~I%"
 refine ZL ?_
 walk_at"~.%("
 exact ZM
 walk_at"~$*/6FHD$$?#"
 refine GI ZU ?_ (Qab (ks:=["behind"]) (Nb:=["line","behind"]) (cp:=[none,some 4]) (N:=["parts","names","number","part","behind"]) (xs:=(Qf Q0)) rfl rfl (by decide +kernel) rfl (by decide +kernel) (by intro p hp;simp only[Nv,NQ,or_false]at hp;rcases hp with rfl<;>rfl) rfl rfl rfl (by decide +kernel)) ?_ (fun _ _ _ _ _=>?_) (fun _ _ _ _ _=>?_) (fun _ _ _ _ _=>?_)
 walk_at"~$M1%(95C1%(-"
 refine KY (Qex ?_) Qv ?_ ?_
 walk_at"~C1%(%&77$$/4E>L/4E"
noncomputable def QB:FM:=box frN QV
noncomputable abbrev ZY:Stmt:=top 2
theorem VF:FnScope ["line"] ["line"] (Qf ZY):=⟨rfl,rfl,rfl,by decide +kernel,rfl,by decide +kernel,by decide +kernel⟩
noncomputable def QM:FM:=Qw 0
  (QA (ZZ (GS (Qr (Qc wEq (Qc wIx (Qb 0) (mC (.int 0))) (mC (.str "either")))) (Qr (Qc wEq (Qc wIx (Qb 0) (mC (.int 0))) (mC (.str "again"))))) (Q8 (mC (.int 1))) QF)
  (Q8 (mIf (Qr (Qc wEq (Qc wIx (Qb 0) (mC (.int 0))) (mC (.str "end")))) (mUn QfG (mC (.int 1))) (mC (.int 0)))))
theorem Ki(d:DefAt K mg "level_change" ZY ["line"]):Cal P w K mg base 1 "level_change" ["line"] QM:=by
 refine QK (k:=0) (more:=0) d VF rfl fun _ _ _ _ _ _ _ hr=>?_;have nd_:=(VF).nd
 walk_at"~=,6"
 refine PMW.pt ?_;refine V6 ?_ ?_
 walk_at"~5C1%(-"
 refine J4 ?_
 walk_at"~5C1%(-/4(>/4"
 refine Qin ?_ ?_ ?_
 walk_at"~5C1%(-"
 refine GU ?_
 walk_at"~(("
noncomputable def JE:FM:=box frN QM
noncomputable abbrev J2:Stmt:=top 16
theorem X4:FnScope ["line","sizes"] ["line","sizes"] (Qf J2):=⟨rfl,rfl,rfl,by decide +kernel,rfl,by decide +kernel,by decide +kernel⟩
noncomputable def QY:FM:=Qw 0
  (QA (ZZ (Qr (Qc wEq (Qc wIx (Qb 0) (mC (.int 0))) (mC (.str "do")))) (Q8 (mMt "dict" Qdu (Qb 1) (Qa (Qc wIx (Qb 0) (mC (.int 1))) (Qa (mC ZR) Qd)))) QF)
  (Q8 (mIf (Qr (Qc wEq (Qc wIx (Qb 0) (mC (.int 0))) (mC (.str "back")))) (mFn Qm (Qa (mC (.int 0)) (Qa (mC (.int 1)) (Qa (mC (.int 0)) (Qa (mC (.int 0)) Qd))))) (mFn Qm (Qa (mC (.int 1)) (Qa (mC (.int 0)) (Qa (mC (.int 0)) (Qa (mC (.int 0)) Qd))))))))
theorem YU(d:DefAt K mg "line_size" J2 ["line","sizes"])(g_UNENTERED_DO:Glob K mg "UNENTERED_DO" ZR):Cal P w K mg base 1 "line_size" ["line","sizes"] QY:=by
 refine QK (k:=0) (more:=0) d X4 rfl fun _ _ _ _ _ _ _ hr=>?_;have nd_:=(X4).nd
 walk_at"~=,65C1%(-/4"
 refine QaV PySem.F.plainAttrs_dict IS PySem.F.type_dict_get (QcT ?_) ?_ ?_
 walk_at"~C%#1%(#"
 exact Z7 g_UNENTERED_DO rfl
 walk_at"~&>/4"
 refine Qin ?_ ?_ ?_
 walk_at"~5C1%(-+#(#(#(#(&+#(#(#(#(&"
noncomputable abbrev J3:Stmt:=top 15
theorem X2:FnScope ["lines","sizes","plain","backs","level","deepest","ways","line","inner"] ["lines","sizes"] (Qf J3):=⟨rfl,rfl,rfl,by decide +kernel,rfl,by decide +kernel,by decide +kernel⟩
noncomputable abbrev J9:SM:=(QA (Qey 4 UR (Qk 1 JE (Qa (Qb 7) Qd)))
  (QA (Zx 8 (Qk 2 QY (Qa (Qb 7) (Qa (Qb 1) Qd))))
  (QA (Qey 2 UR (Qc wIx (Qb 8) (mC (.int 0))))
  (QA (Qey 3 UR (Qc wIx (Qb 8) (mC (.int 1))))
  (QA (Zx 5 (mFn QiW (Qa (Qb 5) (Qa (Qc QW (Qb 4) (Qc wIx (Qb 8) (mC (.int 2)))) Qd))))
  (Qey 6 UR (Qc wIx (Qb 8) (mC (.int 3)))))))))
noncomputable def QE:FM:=Qw 7
  (QA (Zx 2 (mC (.int 0)))
  (QA (Zx 3 (mC (.int 0)))
  (QA (Zx 4 (mC (.int 0)))
  (QA (Zx 5 (mC (.int 0)))
  (QA (Zx 6 (mC (.int 1)))
  (QA (VO (QC (Qb 0)) (Z0 7)
  J9)
  (Q8 (mFn Qm (Qa (Qb 2) (Qa (Qb 3) (Qa (Qb 5) (Qa (Qb 6) Qd))))))))))))
theorem Ws(d:DefAt K mg "size_with" J3 ["lines","sizes"])(b_max:mg "max"=none)(c_level_change:Cal P w K mg base 1 "level_change" ["line"] JE)(c_line_size:Cal P w K mg base 1 "line_size" ["line","sizes"] QY):Cal P w K mg base 2 "size_with" ["lines","sizes"] QE:=by
 refine QK (k:=1) (more:=7) d X2 rfl fun _ _ _ _ _ _ _ hr=>?_;have nd_:=(X2).nd
 walk_at"~=,0@$8($*,0@$8($*,0@$8($*,0@$8($*,0@$8($*,J"
 exact EC
 walk_at"~$M%"
 exact JZ nd_ rfl (Or.inl rfl)
 walk_at"~,"
 refine YS ?_ ?_ ?_ Kn Qv ?_ ?_
 walk_at"~@$8)2$#%&$7$$*,0@$8)2$#%#%&$7$$$*,"
 refine YS ?_ ?_ ?_ Kn Qv ?_ ?_
 walk_at"~@$81%(*,"
 refine YS ?_ ?_ ?_ Kn Qv ?_ ?_
 walk_at"~@$81%(*,0@$8"
 refine Kq (QbX ?_) JQ ?_ ?_ PyProof.Rows.boot_max ?_ ?_ ?_ ?_ ?_
 walk_at"~$$?#%#.%1%(&77$$$*/"
 refine YS ?_ ?_ ?_ Kn Qv ?_ ?_
 walk_at"~@$81%(*L/4+#%#%#%#%&"
noncomputable abbrev JS:Stmt:=top 14
theorem XZ:FnScope ["program","sizes","name","lines"] ["program"] (Qf JS):=⟨rfl,rfl,rfl,by decide +kernel,rfl,by decide +kernel,by decide +kernel⟩
noncomputable abbrev Vb:SM:=(QbP (Qb 1) (Qb 2) (Qk 2 QE (Qa (Qb 3) (Qa (Qb 1) Qd))))
noncomputable def Vj:FM:=Qw 3
  (QA (Zx 1 QdX)
  (QA (VO (QiX (Qa (Qb 0) Qd)) (XU [2,3])
  Vb)
  (Q8 (Qc QiQ (Qb 1) (Qc wIx (Qc wIx (Qb 0) (mC (.int 0))) (mC (.int 0)))))))
theorem YN(d:DefAt K mg "flat_size" JS ["program"])(b_reversed:mg "reversed"=none)(c_size_with:Cal P w K mg base 2 "size_with" ["lines","sizes"] QE):Cal P w K mg base 3 "flat_size" ["program"] Vj:=by
 refine QK (k:=2) (more:=3) d XZ rfl fun _ _ _ _ _ _ _ hr=>?_;have nd_:=(XZ).nd
 walk_at"~=,0@$8"
 exact Qco
 walk_at"~$*,J"
 exact EC
 walk_at"~$"
 refine Qhi ?_ ?_ ?_ ?_
 walk_at"~$?#%&$"
 refine Wa ?_ ?_ ?_ ?_
 walk_at"~$KK"
 exact Ku
 walk_at"~**$$/"
 refine QdG ?_ ?_ ?_ ?_ ?_
 walk_at"~C%%)2$#%#%&$7$$$L/4"
 refine Qhq ?_ ?_ ?_
 walk_at"~C%11%(("
noncomputable def JI:FM:=box frN Vj
noncomputable abbrev Vx:Stmt:=top 31
theorem Ya:FnScope ["size"] ["size"] (Qf Vx):=⟨rfl,rfl,rfl,by decide +kernel,rfl,by decide +kernel,by decide +kernel⟩
noncomputable def Jb:FM:=Qw 0
  (Q8 (QcX (Qc wLe (Qc wIx (Qb 0) (mC (.int 0))) (mC Jn)) (QcX (Qc wLe (Qc wIx (Qb 0) (mC (.int 1))) (mC Jt)) (Qc wLe (Qc wIx (Qb 0) (mC (.int 2))) (mC Z6)))))
theorem Ue(d:DefAt K mg "is_small" Vx ["size"])(g_MOST_BACKS:Glob K mg "MOST_BACKS" Jt)(g_MOST_BLOCKS:Glob K mg "MOST_BLOCKS" Z6)(g_MOST_LINES:Glob K mg "MOST_LINES" Jn):Cal P w K mg base 1 "is_small" ["size"] Jb:=by
 refine QK (k:=0) (more:=0) d Ya rfl fun _ _ _ _ _ _ _ hr=>?_;have nd_:=(Ya).nd
 walk_at"~=/4"
 refine Kz ?_ ?_;refine KY Xt Qv ?_ ?_
 walk_at"~1%("
 exact Z7 g_MOST_LINES rfl;refine Kz ?_ ?_;refine KY Xt Qv ?_ ?_
 walk_at"~1%("
 exact Z7 g_MOST_BACKS rfl;refine Yy ?_;refine KY Xt Qv ?_ ?_
 walk_at"~1%("
 exact Z7 g_MOST_BLOCKS rfl
noncomputable def Z5:FM:=box frN Jb
noncomputable abbrev JX:Stmt:=top 32
theorem X5:FnScope ["program","lines","part"] ["program"] (Qf JX):=⟨rfl,rfl,rfl,by decide +kernel,rfl,by decide +kernel,by decide +kernel⟩
noncomputable abbrev J5:SM:=(W6 (mMt "list" Kt (Qb 1) (Qa (Qc wIx (Qb 2) (mC (.int 1))) Qd)))
noncomputable def Vv:FM:=Qw 2
  (QA (Zx 1 (mFn Qen Qd))
  (QA (VO (QC (Qb 0)) (Z0 2)
  J5)
  (Q8 (Qb 1))))
theorem Wi(d:DefAt K mg "all_lines" JX ["program"]):Cal P w K mg base 1 "all_lines" ["program"] Vv:=by
 refine QK (k:=0) (more:=2) d X5 rfl fun _ _ _ _ _ _ _ hr=>?_;have nd_:=(X5).nd
 walk_at"~=,0@$8"
 refine Uq ?_
 walk_at"~&$*,J"
 exact EC
 walk_at"~$M%"
 exact JZ nd_ rfl (Or.inl rfl)
 walk_at"~/"
 refine Xp ?_;refine QaV EY DD Im UV ?_ ?_
 walk_at"~%#1%(&L/4%"
noncomputable def Qo:FM:=box frN Vv
noncomputable abbrev Vu:Stmt:=top 33
theorem KE:FnScope ["line"] ["line"] (Qf Vu):=⟨rfl,rfl,rfl,by decide +kernel,rfl,by decide +kernel,by decide +kernel⟩
noncomputable def Je:FM:=Qw 0
  (QA (ZZ (Qr (Qc wEq (Qc wIx (Qb 0) (mC (.int 0))) (mC (.str "pair")))) (Q8 (mFn UE (Qa (Qc wIx (Qb 0) (mC (.int 1))) (Qa (Qc wIx (Qb 0) (mC (.int 3))) (Qa (Qc wIx (Qb 0) (mC (.int 4))) Qd))))) QF)
  (QA (ZZ (Qr (Qc (wIn false) (Qc wIx (Qb 0) (mC (.int 0))) (mFn Qm (Qa (mC (.str "first")) (Qa (mC (.str "second")) (Qa (mC (.str "same")) (Qa (mC (.str "none")) (Qa (mC (.str "tell")) Qd)))))))) (Q8 (mFn Uu (Qa (mSl (Qb 0) (Ju (mC (.int 1))) Jp) Qd))) QF)
  (Q8 (mFn UE Qd))))
theorem Ut(d:DefAt K mg "boxes_in" Vu ["line"])(b_list:mg "list"=none):Cal P w K mg base 1 "boxes_in" ["line"] Je:=by
 refine QK (k:=0) (more:=0) d KE rfl fun _ _ _ _ _ _ _ hr=>?_;have nd_:=(KE).nd
 walk_at"~=,65C1%(-/4"
 refine Vg ?_
 walk_at"~#1%(#1%(#1%(&>,6"
 refine Jf (Qex ?_) Qv ?_ ?_
 walk_at"~C1%(+#-#-#-#-#-&/4"
 refine Xv XO JQ ?_ ?_ Fi ?_ ?_ ?_ ?_ ?_
 walk_at"~$?#I%"
 refine ZL ?_
 walk_at"~("
 exact ZM
 walk_at"~&77$$>/4"
 refine Vg ?_
 walk_at"~&"
noncomputable def Z2:FM:=box frN Je
noncomputable abbrev Vm:Stmt:=top 26
theorem KI:FnScope ["program","boxes","line"] ["program"] (Qf Vm):=⟨rfl,rfl,rfl,by decide +kernel,rfl,by decide +kernel,by decide +kernel⟩
noncomputable abbrev Vl:SM:=(W6 (mMt "list" Wp (Qb 1) (Qa (Qk 1 Z2 (Qa (Qb 2) Qd)) Qd)))
noncomputable def VJ:FM:=Qw 2
  (QA (Zx 1 (mFn Qen Qd))
  (QA (VO (QC (Qk 1 Qo (Qa (Qb 0) Qd))) (Z0 2)
  Vl)
  (Q8 (mFn VQ (Qa (Qb 1) Qd)))))
theorem WT(d:DefAt K mg "boxes_of" Vm ["program"])(b_set:mg "set"=none)(b_sorted:mg "sorted"=none)(c_all_lines:Cal P w K mg base 1 "all_lines" ["program"] Qo)(c_boxes_in:Cal P w K mg base 1 "boxes_in" ["line"] Z2):Cal P w K mg base 2 "boxes_of" ["program"] VJ:=by
 refine QK (k:=1) (more:=2) d KI rfl fun _ _ _ _ _ _ _ hr=>?_;have nd_:=(KI).nd
 walk_at"~=,0@$8"
 refine Uq ?_
 walk_at"~&$*,J"
 exact EC
 walk_at"~$M)2$#%&$7$$"
 exact JZ nd_ rfl (Or.inl rfl)
 walk_at"~/"
 refine Xp ?_;refine QaV EY DD Im Qah ?_ ?_
 walk_at"~%#)2$#%&$7$$&L/4"
 refine Ke ?_ ?_ ?_ ?_ ?_ ?_ ?_
 walk_at"~$$?$?%$"
noncomputable def V9:FM:=box frN VJ
noncomputable abbrev Vo:Stmt:=top 27
theorem K8:FnScope ["program"] ["program"] (Qf Vo):=⟨rfl,rfl,rfl,by decide +kernel,rfl,by decide +kernel,by decide +kernel⟩
noncomputable def VH:FM:=Qw 0
  (Q8 (mFn VQ (Qa (Zg ZH (QC (Qk 1 Qo (Qa (Qb 0) Qd))) [none] (Z0 0) (Qr (Qc wEq (Qc wIx (Qb 0) (mC (.int 0))) (mC (.str "pair")))) (Qc wIx (Qb 0) (mC (.int 2)))) Qd)))
theorem WV(d:DefAt K mg "words_of" Vo ["program"])(b_set:mg "set"=none)(b_sorted:mg "sorted"=none)(c_all_lines:Cal P w K mg base 1 "all_lines" ["program"] Qo):Cal P w K mg base 2 "words_of" ["program"] VH:=by
 refine QK (k:=1) (more:=0) d K8 rfl fun _ _ _ _ _ _ _ hr=>?_;have nd_:=(K8).nd
 walk_at"~=/4"
 refine Ke ?_ ?_ ?_ ?_ ?_ ?_ ?_
 walk_at"~$$?$?"
 refine GI ZU ?_ (ZK (Nb:=["line"]) (cp:=[none]) rfl (by decide +kernel) (by decide +kernel) rfl rfl) ?_ (fun _ _ _ _ _=>?_) (fun _ _ _ _ _=>?_) (fun _ _ _ _ _=>?_)
 walk_at"~$M)2$#%&$7$$95C1%(-1%($"
noncomputable def Xj:FM:=box frN VH
noncomputable abbrev Vs:Stmt:=top 13
theorem KD:FnScope ["lines"] ["lines"] (Qf Vs):=⟨rfl,rfl,rfl,by decide +kernel,rfl,by decide +kernel,by decide +kernel⟩
noncomputable def VD:FM:=Qw 0
  (Q8 (Qk 2 QE (Qa (Qb 0) (Qa QdX Qd))))
theorem WZ(d:DefAt K mg "own_size" Vs ["lines"])(c_size_with:Cal P w K mg base 2 "size_with" ["lines","sizes"] QE):Cal P w K mg base 3 "own_size" ["lines"] VD:=by
 refine QK (k:=2) (more:=0) d KD rfl fun _ _ _ _ _ _ _ hr=>?_;have nd_:=(KD).nd
 walk_at"~=/4)2$#%#"
 exact Qco
 walk_at"~&$7$$"
noncomputable def JD:FM:=box frN VD
noncomputable abbrev ZV:Stmt:=top 30
theorem VE:FnScope ["parts","backs","whole"] ["parts"] (Qf ZV):=⟨rfl,rfl,rfl,by decide +kernel,rfl,by decide +kernel,by decide +kernel⟩
noncomputable def QN:FM:=Qw 2
  (QA (ZZ (Qr (Qc wGt (mFn VX (Qa (Qk 1 V9 (Qa (Qb 0) Qd)) Qd)) (mC Jj))) (Q8 (mC (.bl false))) QF)
  (QA (Zx 1 (Zg ZH (QC (Qk 1 Qo (Qa (Qb 0) Qd))) [none] (Z0 0) (Qr (Qc wEq (Qc wIx (Qb 0) (mC (.int 0))) (mC (.str "back")))) (Qc wIx (Qb 0) (mC (.int 1)))))
  (QA (ZZ (Qr (Qc wGt (mFn GD (Qa (Qk 1 Xj (Qa (Qb 0) Qd)) (Qa (Qb 1) Qd))) (mC Js))) (Q8 (mC (.bl false))) QF)
  (QA (Zx 2 (Qk 1 JI (Qa (Qb 0) Qd)))
  (QA (ZZ (Qr (Qc wGt (Qc wIx (Qb 2) (mC (.int 3))) (mC J1))) (Q8 (mC (.bl false))) QF)
  (Q8 (QcX (Qk 1 Z5 (Qa (Qb 2) Qd)) (mFn Yn (Qa (Zg ZH (QC (Qb 0)) [none,none] (XU [0,1]) XI (Qk 1 Z5 (Qa (Qk 1 JD (Qa (Qb 1) Qd)) Qd))) Qd)))))))))
theorem Kh(d:DefAt K mg "keeps_bounds" ZV ["parts"])(g_MOST_BOXES:Glob K mg "MOST_BOXES" Jj)(g_MOST_WAYS:Glob K mg "MOST_WAYS" J1)(g_MOST_WORDS:Glob K mg "MOST_WORDS" Js)(b_all:mg "all"=none)(b_len:mg "len"=none)(b_set:mg "set"=none)(c_all_lines:Cal P w K mg base 1 "all_lines" ["program"] Qo)(c_boxes_of:Cal P w K mg base 2 "boxes_of" ["program"] V9)(c_flat_size:Cal P w K mg base 3 "flat_size" ["program"] JI)(c_is_small:Cal P w K mg base 1 "is_small" ["size"] Z5)(c_own_size:Cal P w K mg base 3 "own_size" ["lines"] JD)(c_words_of:Cal P w K mg base 2 "words_of" ["program"] Xj):Cal P w K mg base 4 "keeps_bounds" ["parts"] QN:=by
 refine QK (k:=3) (more:=2) d VE rfl fun _ _ _ _ _ _ _ hr=>?_;have nd_:=(VE).nd
 walk_at"~=,6"
 refine Jf Qac Qv ?_ ?_
 walk_at"~;$?#)2$#%&$7$$&77$$"
 exact Z7 g_MOST_BOXES rfl
 walk_at"~/4E>,"
 refine QaX nd_ rfl (Or.inl rfl) ?_ ZU ?_ (ZK (Nb:=["line"]) (cp:=[none]) rfl (by decide +kernel) (by decide +kernel) rfl rfl) ?_ (fun _ _ _ _ _=>?_) (fun _ _ _ _ _=>?_) (fun _ _ _ _ _=>?_) ?_ ?_
 walk_at"~*$M)2$#%&$7$$95C1%(-1%(L$,6"
 refine Jf Qac Qv ?_ ?_;refine Qd1 ?_ ?_ ?_ ?_ ?_ ?_ ?_ ?_ ?_
 walk_at"~$$?$?)2$#%&$7$$%$$"
 exact Z7 g_MOST_WORDS rfl
 walk_at"~/4E>,0@$8)2$#%&$7$$$*,6"
 refine Jf Qac Qv ?_ ?_
 walk_at"~1%("
 exact Z7 g_MOST_WAYS rfl
 walk_at"~/4E>/4"
 refine Kz ?_ ?_
 walk_at"~)2$#%&$7$$"
 refine Yy ?_
 walk_at"~D$$?#"
 refine Jk ZU ?_ (ZK (Nb:=["name","lines"]) (cp:=[none,none]) rfl (by decide +kernel) (by decide +kernel) rfl rfl) ?_ (fun _ _ _ _ _=>?_) (fun _ _ _ _ _=>?_)
 walk_at"~$M%"
 refine Wa ?_ ?_ ?_ ?_
 walk_at"~$"
 refine KO (by dsimp only[blk];decide +kernel) rfl (Or.inl rfl) ?_ ?_;refine KO (by dsimp only[blk];decide +kernel) rfl (Or.inl rfl) ?_ ?_;exact Ku
 walk_at"~**$$)2$#)2$#%&$7$$&$7$$&77$$"
noncomputable def ZQ:FM:=box frN QN
noncomputable abbrev JV:Stmt:=top 1
theorem X6:FnScope ["lines","opened","line"] ["lines"] (Qf JV):=⟨rfl,rfl,rfl,by decide +kernel,rfl,by decide +kernel,by decide +kernel⟩
noncomputable abbrev QG:SM:=(ZZ (GS (Qr (Qc wEq (Qc wIx (Qb 2) (mC (.int 0))) (mC (.str "either")))) (Qr (Qc wEq (Qc wIx (Qb 2) (mC (.int 0))) (mC (.str "again"))))) (W6 (mMt "list" XM (Qb 1) (Qa (Qc wIx (Qb 2) (mC (.int 0))) Qd))) (ZZ (Qr (Qc wEq (Qc wIx (Qb 2) (mC (.int 0))) (mC (.str "or")))) (QA (ZZ (GS (J6 (Wn (Qb 1))) (Qr (Qc wNe (Qc wIx (Qb 1) (mUn QfG (mC (.int 1)))) (mC (.str "either"))))) (Q8 (mC (.bl false))) QF)
  (QgM (Qb 1) (mUn QfG (mC (.int 1))) (mC (.str "or")))) (ZZ (Qr (Qc wEq (Qc wIx (Qb 2) (mC (.int 0))) (mC (.str "end")))) (QA (ZZ (GS (J6 (Wn (Qb 1))) (Qr (Qc wEq (Qc wIx (Qb 1) (mUn QfG (mC (.int 1)))) (mC (.str "either"))))) (Q8 (mC (.bl false))) QF)
  (W6 (mMt "list" QiY (Qb 1) Qd))) QF)))
noncomputable def ZA:FM:=Qw 2
  (QA (Zx 1 (mFn Qen Qd))
  (QA (VO (QC (Qb 0)) (Z0 2)
  QG)
  (Q8 (Qc wEq (mFn VX (Qa (Qb 1) Qd)) (mC (.int 0))))))
theorem YY(d:DefAt K mg "is_blocks" JV ["lines"])(b_len:mg "len"=none):Cal P w K mg base 1 "is_blocks" ["lines"] ZA:=by
 refine QK (k:=0) (more:=2) d X6 rfl fun _ _ _ _ _ _ _ hr=>?_;have nd_:=(X6).nd
 walk_at"~=,0@$8"
 refine Uq ?_
 walk_at"~&$*,J"
 exact EC
 walk_at"~$M%"
 exact JZ nd_ rfl (Or.inl rfl)
 walk_at"~/6"
 refine PMW.pt ?_;refine V6 ?_ ?_
 walk_at"~5C1%(-"
 refine J4 ?_
 walk_at"~5C1%(-/"
 refine Xp ?_;refine QaV EY DC Il Yk ?_ ?_
 walk_at"~%#1%(&/65C1%(-,6"
 refine PMW.pt ?_;refine V6 ?_ ?_
 walk_at"~FH%"
 refine J4 ?_;refine Jf (GZ ?_) Qv ?_ ?_
 walk_at"~C1%"
 refine GU ?_
 walk_at"~(-/4E>/"
 refine Qbh ?_ ?_ ?_ ?_ ?_ ?_
 walk_at"~%"
 refine GU ?_
 walk_at"~(-L$$/65C1%(-,6"
 refine PMW.pt ?_;refine V6 ?_ ?_
 walk_at"~FH%"
 refine J4 ?_
 walk_at"~5C1%"
 refine GU ?_
 walk_at"~(-/4E>/"
 refine Xp ?_;refine Qij EY LD PySem.F.type_list_pop QeS ?_
 walk_at"~%>L/4"
 refine KY (Qa2 ?_) Qv ?_ ?_
 walk_at"~C;$?#%&77$$("
noncomputable def QX:FM:=box frN ZA
noncomputable abbrev Zn:Stmt:=top 7
theorem JL:FnScope ["sign"] ["sign"] (Qf Zn):=⟨rfl,rfl,rfl,by decide +kernel,rfl,by decide +kernel,by decide +kernel⟩
noncomputable def Zf:FM:=Qw 0
  (Q8 (Jz wLe wLe (mC (.str "a")) (Qb 0) (mC (.str "z"))))
theorem Xk(d:DefAt K mg "is_small_letter" Zn ["sign"]):Cal P w K mg base 1 "is_small_letter" ["sign"] Zf:=by
 refine QK (k:=0) (more:=0) d JL rfl fun _ _ _ _ _ _ _ hr=>?_;have nd_:=(JL).nd
 walk_at"~=/4"
 refine QcV Xt Qv Xt Qv ?_ ?_ ?_
 walk_at"~-%-"
noncomputable def QJ:FM:=box frN Zf
noncomputable abbrev V0:Stmt:=top 6
theorem Yr:FnScope ["thing"] ["thing"] (Qf V0):=⟨rfl,rfl,rfl,by decide +kernel,rfl,by decide +kernel,by decide +kernel⟩
noncomputable def ZP:FM:=Qw 0
  (QA (ZZ (J6 (Wn (mFn UD (Qa (Qb 0) (Qa (mC (.ty "str")) Qd))))) (Q8 (mC (.bl false))) QF)
  (QA (ZZ (J6 (Qr (Jz wLe wLe (mC (.int 1)) (mFn VX (Qa (Qb 0) Qd)) (mC QU)))) (Q8 (mC (.bl false))) QF)
  (Q8 (QcX (mFn Yn (Qa (Zg ZH (QC (Qb 0)) [none] (Z0 0) XI (Qk 1 QJ (Qa (Qb 0) Qd))) Qd)) (Qc (wIn true) (Qb 0) (mC XL))))))
theorem Gd(d:DefAt K mg "is_name" V0 ["thing"])(g_KEPT:Glob K mg "KEPT" XL)(g_MOST_LETTERS:Glob K mg "MOST_LETTERS" QU)(b_all:mg "all"=none)(b_isinstance:mg "isinstance"=none)(b_len:mg "len"=none)(b_str:mg "str"=none)(c_is_small_letter:Cal P w K mg base 1 "is_small_letter" ["sign"] QJ):Cal P w K mg base 2 "is_name" ["thing"] ZP:=by
 refine QK (k:=1) (more:=0) d Yr rfl fun _ _ _ _ _ _ _ hr=>?_;have nd_:=(Yr).nd
 walk_at"~=,6FHA$?#%#"
 exact U1 rfl b_str IY
 walk_at"~&77$$/4E>,6F"
 refine WO Xt Qv Xt Qv ?_ ?_ ?_
 walk_at"~(;$?#%&77$$"
 exact Z7 g_MOST_LETTERS rfl
 walk_at"~/4E>/4"
 refine Kz ?_ ?_
 walk_at"~D$$?#"
 refine Jk ZU ?_ (ZK (Nb:=["sign"]) (cp:=[none]) rfl (by decide +kernel) (by decide +kernel) rfl rfl) ?_ (fun _ _ _ _ _=>?_) (fun _ _ _ _ _=>?_)
 walk_at"~$M%9)2$#%&$7$$&77$$"
 refine Yy ?_;refine KY (Qbd ?_) Qv ?_ ?_
 walk_at"~C%"
 exact Z7 g_KEPT rfl
noncomputable def Qs:FM:=box frN ZP
noncomputable abbrev VT:Stmt:=top 10
theorem Yz:FnScope ["thing"] ["thing"] (Qf VT):=⟨rfl,rfl,rfl,by decide +kernel,rfl,by decide +kernel,by decide +kernel⟩
noncomputable def Z3:FM:=Qw 0
  (QA (ZZ (GS (J6 (Wn (mFn UD (Qa (Qb 0) (Qa (mC (.ty "tuple")) Qd))))) (Qr (Qc wEq (mFn VX (Qa (Qb 0) Qd)) (mC (.int 0))))) (Q8 (mC (.bl false))) QF)
  (QA (ZZ (GS (J6 (Wn (mFn UD (Qa (Qc wIx (Qb 0) (mC (.int 0))) (Qa (mC (.ty "str")) Qd))))) (Qr (mUn (QcP true Ql) (Qc wIx (Qb 0) (mC (.int 0)))))) (Q8 (mC (.bl false))) QF)
  (QA (ZZ (Qr (Qc wNe (mFn VX (Qa (Qb 0) Qd)) (Qc QW (mC (.int 1)) (mUn (QdI Ql) (Qc wIx (Qb 0) (mC (.int 0))))))) (Q8 (mC (.bl false))) QF)
  (Q8 (mFn Yn (Qa (Zg ZH (QC (mSl (Qb 0) (Ju (mC (.int 1))) Jp)) [none] (Z0 0) XI (Qk 1 Qs (Qa (Qb 0) Qd))) Qd))))))
theorem Ga(d:DefAt K mg "is_line" VT ["thing"])(g_NAMES_BEHIND:GTab w K mg "NAMES_BEHIND" Ql)(b_all:mg "all"=none)(b_isinstance:mg "isinstance"=none)(b_len:mg "len"=none)(b_str:mg "str"=none)(b_tuple:mg "tuple"=none)(c_is_name:Cal P w K mg base 2 "is_name" ["thing"] Qs):Cal P w K mg base 3 "is_line" ["thing"] Z3:=by
 refine QK (k:=2) (more:=0) d Yz rfl fun _ _ _ _ _ _ _ hr=>?_;have nd_:=(Yz).nd
 walk_at"~=,6"
 refine PMW.pt ?_;refine V6 ?_ ?_
 walk_at"~FHA$?#%#"
 exact U1 rfl b_tuple EX
 walk_at"~&77$$"
 refine J4 ?_
 walk_at"~5C;$?#%&77$$(/4E>,6"
 refine PMW.pt ?_;refine V6 ?_ ?_
 walk_at"~FHA$?#1%(#"
 exact U1 rfl b_str IY
 walk_at"~&77$$"
 refine J4 ?_;refine QaI ?_ ?_ ?_;exact g_NAMES_BEHIND
 walk_at"~$1%(/4E>,6"
 refine Jf (GZ ?_) Qv ?_ ?_
 walk_at"~C;$?#%&77$$.("
 refine Qht ?_ ?_ ?_;exact g_NAMES_BEHIND
 walk_at"~$1%(/4E>/4D$$?#"
 refine Jk ZU ?_ (ZK (Nb:=["name"]) (cp:=[none]) rfl (by decide +kernel) (by decide +kernel) rfl rfl) ?_ (fun _ _ _ _ _=>?_) (fun _ _ _ _ _=>?_)
 walk_at"~$MI%"
 refine ZL ?_
 walk_at"~("
 exact ZM
 walk_at"~9)2$#%&$7$$&77$$"
noncomputable def Qt:FM:=box frN Z3
noncomputable abbrev VW:Stmt:=top 28
theorem Yj:FnScope ["thing"] ["thing"] (Qf VW):=⟨rfl,rfl,rfl,by decide +kernel,rfl,by decide +kernel,by decide +kernel⟩
noncomputable def Zb:FM:=Qw 0
  (QA (ZZ (GS (J6 (Wn (mFn UD (Qa (Qb 0) (Qa (mC (.ty "tuple")) Qd))))) (Qr (Qc wNe (mFn VX (Qa (Qb 0) Qd)) (mC (.int 2))))) (Q8 (mC (.bl false))) QF)
  (QA (ZZ (GS (J6 (Wn (Qk 1 Qs (Qa (Qc wIx (Qb 0) (mC (.int 0))) Qd)))) (J6 (Wn (mFn UD (Qa (Qc wIx (Qb 0) (mC (.int 1))) (Qa (mC (.ty "tuple")) Qd)))))) (Q8 (mC (.bl false))) QF)
  (Q8 (QcX (mFn Yn (Qa (Zg ZH (QC (Qc wIx (Qb 0) (mC (.int 1)))) [none] (Z0 0) XI (Qk 1 Qt (Qa (Qb 0) Qd))) Qd)) (Qk 1 QX (Qa (Qc wIx (Qb 0) (mC (.int 1))) Qd))))))
theorem UI(d:DefAt K mg "is_part" VW ["thing"])(b_all:mg "all"=none)(b_isinstance:mg "isinstance"=none)(b_len:mg "len"=none)(b_tuple:mg "tuple"=none)(c_is_blocks:Cal P w K mg base 1 "is_blocks" ["lines"] QX)(c_is_line:Cal P w K mg base 3 "is_line" ["thing"] Qt)(c_is_name:Cal P w K mg base 2 "is_name" ["thing"] Qs):Cal P w K mg base 4 "is_part" ["thing"] Zb:=by
 refine QK (k:=3) (more:=0) d Yj rfl fun _ _ _ _ _ _ _ hr=>?_;have nd_:=(Yj).nd
 walk_at"~=,6"
 refine PMW.pt ?_;refine V6 ?_ ?_
 walk_at"~FHA$?#%#"
 exact U1 rfl b_tuple EX
 walk_at"~&77$$"
 refine J4 ?_;refine Jf (GZ ?_) Qv ?_ ?_
 walk_at"~C;$?#%&77$$(/4E>,6"
 refine PMW.pt ?_;refine V6 ?_ ?_
 walk_at"~FH)2$#1%(&$7$$"
 refine J4 ?_
 walk_at"~FHA$?#1%(#"
 exact U1 rfl b_tuple EX
 walk_at"~&77$$/4E>/4"
 refine Kz ?_ ?_
 walk_at"~D$$?#"
 refine Jk ZU ?_ (ZK (Nb:=["line"]) (cp:=[none]) rfl (by decide +kernel) (by decide +kernel) rfl rfl) ?_ (fun _ _ _ _ _=>?_) (fun _ _ _ _ _=>?_)
 walk_at"~$M1%(9)2$#%&$7$$&77$$"
 refine Yy ?_
 walk_at"~)2$#1%(&$7$$"
noncomputable def Qi:FM:=box frN Zb
noncomputable abbrev Jo:Stmt:=top 25
theorem Xq:FnScope ["thing"] ["thing"] (Qf Jo):=⟨rfl,rfl,rfl,by decide +kernel,rfl,by decide +kernel,by decide +kernel⟩
noncomputable def Q1:FM:=Qw 0
  (QA (ZZ (GS (J6 (Wn (mFn UD (Qa (Qb 0) (Qa (mC (.ty "tuple")) Qd))))) (J6 (Qr (Jz wLe wLe (mC (.int 1)) (mFn VX (Qa (Qb 0) Qd)) (mC ZB))))) (Q8 (mC (.bl false))) QF)
  (QA (ZZ (J6 (Wn (mFn Yn (Qa (Zg ZH (QC (Qb 0)) [none] (Z0 0) XI (Qk 1 Qi (Qa (Qb 0) Qd))) Qd)))) (Q8 (mC (.bl false))) QF)
  (Q8 (QcX (Qk 1 QB (Qa (Qb 0) Qd)) (Qk 1 ZQ (Qa (Qb 0) Qd))))))
theorem Ye(d:DefAt K mg "is_program" Jo ["thing"])(g_MOST_PARTS:Glob K mg "MOST_PARTS" ZB)(b_all:mg "all"=none)(b_isinstance:mg "isinstance"=none)(b_len:mg "len"=none)(b_tuple:mg "tuple"=none)(c_has_right_names:Cal P w K mg base 1 "has_right_names" ["parts"] QB)(c_is_part:Cal P w K mg base 4 "is_part" ["thing"] Qi)(c_keeps_bounds:Cal P w K mg base 4 "keeps_bounds" ["parts"] ZQ):Cal P w K mg base 5 "is_program" ["thing"] Q1:=by
 refine QK (k:=4) (more:=0) d Xq rfl fun _ _ _ _ _ _ _ hr=>?_;have nd_:=(Xq).nd
 walk_at"~=,6"
 refine PMW.pt ?_;refine V6 ?_ ?_
 walk_at"~FHA$?#%#"
 exact U1 rfl b_tuple EX
 walk_at"~&77$$"
 refine J4 ?_
 walk_at"~F"
 refine WO Xt Qv Xt Qv ?_ ?_ ?_
 walk_at"~(;$?#%&77$$"
 exact Z7 g_MOST_PARTS rfl
 walk_at"~/4E>,6FHD$$?#"
 refine Jk ZU ?_ (ZK (Nb:=["part"]) (cp:=[none]) rfl (by decide +kernel) (by decide +kernel) rfl rfl) ?_ (fun _ _ _ _ _=>?_) (fun _ _ _ _ _=>?_)
 walk_at"~$M%9)2$#%&$7$$&77$$/4E>/4"
 refine Kz ?_ ?_
 walk_at"~)2$#%&$7$$"
 refine Yy ?_
 walk_at"~)2$#%&$7$$"
noncomputable def Qh:FM:=box frN Q1
noncomputable abbrev JT:Stmt:=top 49
theorem Ka:FnScope ["thing","due","found"] ["thing","due"] (Qf JT):=⟨rfl,rfl,rfl,by decide +kernel,rfl,by decide +kernel,by decide +kernel⟩
noncomputable def Vq:FM:=Qw 1
  (QA (Zx 2 (Qk 1 Qh (Qa (Qb 0) Qd)))
  (Q8 (QcX (mFn UD (Qa (Qb 2) (Qa (mC (.ty "bool")) Qd))) (Qc wEq (Qb 2) (Qb 1)))))
theorem Y3(d:DefAt K mg "_law_told" JT ["thing","due"])(b_bool:mg "bool"=none)(b_isinstance:mg "isinstance"=none)(c_is_program:Cal P w K mg base 5 "is_program" ["thing"] Qh):Cal P w K mg base 6 "_law_told" ["thing","due"] Vq:=by
 refine QK (k:=5) (more:=1) d Ka rfl fun _ _ _ _ _ _ _ hr=>?_;have nd_:=(Ka).nd
 walk_at"~=,0@$8)2$#%&$7$$$*/4"
 refine Kz ?_ ?_
 walk_at"~A$?#%#"
 exact U1 rfl b_bool PyProof.Rows.boot_bool
 walk_at"~&77$$"
 refine Yy ?_;refine KY (Qa2 ?_) Qv ?_ ?_
 walk_at"~C%%"
noncomputable def QS:FM:=box frN Vq
noncomputable abbrev Vk:Stmt:=top 46
theorem K0:FnScope ["program","at","part"] ["program","at","part"] (Qf Vk):=⟨rfl,rfl,rfl,by decide +kernel,rfl,by decide +kernel,by decide +kernel⟩
noncomputable def VP:FM:=Qw 0
  (Q8 (Qc QW (Qc QW (mSl (Qb 0) Jp (Ju (Qb 1))) (mFn Qm (Qa (Qb 2) Qd))) (mSl (Qb 0) (Ju (Qc QW (Qb 1) (mC (.int 1)))) Jp)))
theorem UA(d:DefAt K mg "_law_put" Vk ["program","at","part"]):Cal P w K mg base 1 "_law_put" ["program","at","part"] VP:=by
 refine QK (k:=0) (more:=0) d K0 rfl fun _ _ _ _ _ _ _ hr=>?_;have nd_:=(K0).nd
 walk_at"~=/4..I%"
 exact ZM;refine ZL ?_
 walk_at"~%+#%&I%"
 refine ZL ?_
 walk_at"~.%("
 exact ZM
noncomputable def Zr:FM:=box frN VP
noncomputable abbrev Q4:Stmt:=top 47
theorem Ji:FnScope ["program","cell","at","last","first","more"] ["program","cell"] (Qf Q4):=⟨rfl,rfl,rfl,by decide +kernel,rfl,by decide +kernel,by decide +kernel⟩
noncomputable def Zw:FM:=Qw 4
  (QA (Zx 2 (Qc Zy (Qc JP (Qb 1) (mC (.int 9))) (mFn VX (Qa (Qb 0) Qd))))
  (QA (Zx 3 (Qc wIx (Qb 0) (Qb 2)))
  (QA (Zx 4 (Qc wIx (Qb 0) (mC (.int 0))))
  (QA (Zx 5 (Qc wIx (mFn UE (Qa (mFn Qm (Qa (mC (.str "do")) (Qa (Qc wIx (Qb 3) (mC (.int 0))) Qd))) (Qa (mFn Qm (Qa (mC (.str "do")) (Qa (Qc wIx (Qb 4) (mC (.int 0))) Qd))) (Qa (mFn Qm (Qa (mC (.str "do")) (Qa (mC (.str "qqq")) Qd))) (Qa (mFn Qm (Qa (mC (.str "tell")) Qd)) (Qa (mFn Qm (Qa (mC (.str "again")) Qd)) (Qa (mFn Qm (Qa (mC (.str "or")) Qd)) (Qa (mFn UE (Qa (mC (.str "tell")) (Qa (Qc wIx (Qb 4) (mC (.int 0))) Qd))) (Qa (mFn Qm (Qa (mC (.str "do")) (Qa (mC (.str "none")) Qd))) (Qa (mFn Qm (Qa (mC (.str "end")) Qd)) Qd)))))))))) (Qc Zy (Qb 1) (mC (.int 9)))))
  (Q8 (Qk 3 Zr (Qa (Qb 0) (Qa (Qb 2) (Qa (mFn Qm (Qa (Qc wIx (Qb 3) (mC (.int 0))) (Qa (Qc QW (Qc wIx (Qb 3) (mC (.int 1))) (mFn Qm (Qa (Qb 5) Qd))) Qd))) Qd)))))))))
theorem VN(d:DefAt K mg "_law_turned_lines" Q4 ["program","cell"])(b_len:mg "len"=none)(c__law_put:Cal P w K mg base 1 "_law_put" ["program","at","part"] Zr):Cal P w K mg base 2 "_law_turned_lines" ["program","cell"] Zw:=by
 refine QK (k:=1) (more:=4) d Ji rfl fun _ _ _ _ _ _ _ hr=>?_;have nd_:=(Ji).nd
 walk_at"~=,0@$83:%(;$?#%&77$$$*,0@$81%%$*,0@$81%($*,0@$81"
 refine Vg ?_
 walk_at"~#+#-#1%(&#+#-#1%(&#+#-#-&#+#-&#+#-&#+#-&#"
 refine Vg ?_
 walk_at"~#-#1%(&#+#-#-&#+#-&&3%($*/4)2$#%#%#+#1%(#.1%(+#%&&&$7$$"
noncomputable def ZG:FM:=box frN Zw
noncomputable abbrev Z9:Stmt:=top 48
theorem V4:FnScope ["program","cell","first","near","some"] ["program","cell"] (Qf Z9):=⟨rfl,rfl,rfl,by decide +kernel,rfl,by decide +kernel,by decide +kernel⟩
noncomputable def QH:FM:=Qw 3
  (QA (Zx 2 (Qc wIx (Qb 0) (mC (.int 0))))
  (QA (Zx 3 (Qc JP (Qb 1) (mC (.int 9))))
  (QA (ZZ (Qr (Qc wEq (Qc Zy (Qb 1) (mC (.int 9))) (mC (.int 0)))) (Q8 (Qc QW (Qb 0) (mFn Vf (Qa (Zg ZH (Kc (Qa (Qc UO (mC (.int 6)) (mFn VX (Qa (Qb 0) Qd))) Qd)) [none] (Z0 0) XI (mFn Qm (Qa (Qc QW (mC (.str "q")) (Qc wIx (mC (.str "abcdef")) (Qb 0))) (Qa (mFn Qm Qd) Qd)))) Qd)))) QF)
  (QA (ZZ (Qr (Qc wEq (Qc Zy (Qb 1) (mC (.int 9))) (mC (.int 1)))) (Q8 (Qc wIx (mFn UE (Qa (mFn Uu (Qa (Qb 0) Qd)) (Qa (mFn Qm Qd) (Qa (mC .non) (Qa (mC (.int 5)) (Qa (Qb 2) (Qa (Qc wIx (Qb 2) (mC (.int 1))) (Qa (mC (.str "a")) (Qa (mFn UE Qd) (Qa (mC (.bl true)) (Qa (mFn Qm (Qa (Qb 2) (Qa (mC (.int 7)) Qd))) (Qa (mFn Qm (Qa (mC .non) Qd)) (Qa (mFn Qm (Qa (mFn Qm Qd) Qd)) Qd))))))))))))) (Qc Zy (Qb 3) (mC (.int 12))))) QF)
  (QA (ZZ (Qr (Qc wEq (Qc Zy (Qb 1) (mC (.int 9))) (mC (.int 2)))) (Q8 (Qk 3 Zr (Qa (Qb 0) (Qa (mC (.int 0)) (Qa (Qc wIx (mFn UE (Qa (mFn UE (Qa (Qc wIx (Qb 2) (mC (.int 0))) (Qa (Qc wIx (Qb 2) (mC (.int 1))) Qd))) (Qa (Qc QW (Qb 2) (mFn Qm (Qa (Qc wIx (Qb 2) (mC (.int 0))) Qd))) (Qa (mFn Qm (Qa (Qc wIx (Qb 2) (mC (.int 0))) (Qa (mFn Uu (Qa (Qc wIx (Qb 2) (mC (.int 1))) Qd)) Qd))) (Qa (mSl (Qb 2) Jp (Ju (mC (.int 1)))) (Qa (mFn Qm (Qa (Qc wIx (Qb 2) (mC (.int 0))) (Qa (mC .non) Qd))) (Qa (mFn Qm (Qa (Qc wIx (Qb 2) (mC (.int 0))) (Qa (Qc wIx (Qb 2) (mC (.int 0))) Qd))) Qd))))))) (Qc Zy (Qb 3) (mC (.int 6)))) Qd))))) QF)
  (QA (ZZ (Qr (Qc wEq (Qc Zy (Qb 1) (mC (.int 9))) (mC (.int 3)))) (QA (Zx 4 (mFn UE (Qa (mC (.str "none")) (Qa (mC (.str "")) (Qa (mC (.str "A")) (Qa (mC (.str "part")) (Qa (mC (.str "abcdefghi")) (Qa (mC .non) (Qa (mC (.int 7)) (Qa (mC (.str "a b")) (Qa (mFn UE (Qa (Qc wIx (Qb 2) (mC (.int 0))) Qd)) (Qa (mFn Qm (Qa (Qc wIx (Qb 2) (mC (.int 0))) Qd)) Qd))))))))))))
  (Q8 (Qk 3 Zr (Qa (Qb 0) (Qa (mC (.int 0)) (Qa (mFn Qm (Qa (Qc wIx (Qb 4) (Qc Zy (Qb 3) (mC (.int 10)))) (Qa (Qc wIx (Qb 2) (mC (.int 1))) Qd))) Qd)))))) QF)
  (QA (ZZ (Qr (Qc wEq (Qc Zy (Qb 1) (mC (.int 9))) (mC (.int 4)))) (Q8 (Qc QW (mSl (Qb 0) Jp (Ju (mC (.int 4)))) (mFn Qm (Qa (mFn Qm (Qa (Qc wIx (Qb 2) (mC (.int 0))) (Qa (mFn Qm Qd) Qd))) Qd)))) QF)
  (Q8 (Qk 2 ZG (Qa (Qb 0) (Qa (Qb 3) Qd)))))))))))
theorem KS(d:DefAt K mg "_law_turned" Z9 ["program","cell"])(b_len:mg "len"=none)(b_list:mg "list"=none)(b_range:mg "range"=none)(b_tuple:mg "tuple"=none)(c__law_put:Cal P w K mg base 1 "_law_put" ["program","at","part"] Zr)(c__law_turned_lines:Cal P w K mg base 2 "_law_turned_lines" ["program","cell"] ZG):Cal P w K mg base 3 "_law_turned" ["program","cell"] QH:=by
 refine QK (k:=2) (more:=3) d V4 rfl fun _ _ _ _ _ _ _ hr=>?_;have nd_:=(V4).nd
 walk_at"~=,0@$81%($*,0@$8:%($*,65C3%((/4.%G$?#B$"
 refine Xr ?_ ?_ ?_ ?_
 walk_at"~$?#N(;$?#%&77$$&$9+#.-1-%#+&&&77$$>,65C3%((/41"
 refine Vg ?_
 walk_at"~#"
 refine Xv XO JQ ?_ ?_ Fi ?_ ?_ ?_ ?_ ?_
 walk_at"~$?#%&77$$#+&#"
 exact G9
 walk_at"~#(#%#1%(#-#"
 refine Vg ?_
 walk_at"~&#E#+#%#(&#+#"
 exact G9
 walk_at"~&#+#+&&&3%(>,65C3%((/4)2$#%#(#1"
 refine Vg ?_
 walk_at"~#"
 refine Vg ?_
 walk_at"~#1%(#1%(&#.%+#1%(&#+#1%(#"
 refine Xv XO JQ ?_ ?_ Fi ?_ ?_ ?_ ?_ ?_
 walk_at"~$?#1%(&77$$&#I%"
 exact ZM;refine ZL ?_
 walk_at"~(#+#1%(#"
 exact G9
 walk_at"~&#+#1%(#1%(&&3%(&$7$$>,65C3%((,0@$8"
 refine Vg ?_
 walk_at"~#-#-#-#-#-#"
 exact G9
 walk_at"~#(#-#"
 refine Vg ?_
 walk_at"~#1%(&#+#1%(&&$*/4)2$#%#(#+#1%3%(#1%(&&$7$$>,65C3%((/4.I%"
 exact ZM;refine ZL ?_
 walk_at"~(+#+#1%(#+&&&>/4)2$#%#%&$7$$"
noncomputable def J7:FM:=box frN QH
noncomputable abbrev Zk:Stmt:=top 41
theorem JW:FnScope ["near","more","none","dos","size","lines"] ["near","more"] (Qf Zk):=⟨rfl,rfl,rfl,by decide +kernel,rfl,by decide +kernel,by decide +kernel⟩
noncomputable def QT:FM:=Qw 4
  (QA (Zx 2 (mFn Qm (Qa (mFn Qm (Qa (mC (.str "none")) (Qa (mC (.str "x")) Qd))) Qd)))
  (QA (ZZ (Qr (Qc wEq (Qc Zy (Qb 0) (mC (.int 3))) (mC (.int 0)))) (QA (Zx 3 (Qc QW (mC (.int 1)) (Qc Zy (Qc JP (Qb 0) (mC (.int 3))) (mC (.int 22)))))
  (Q8 (mFn Qm (Qa (mFn Qm (Qa (mC (.str "a")) (Qa (Qc QW (Qc Zh (Qb 2) (Qc QW (Qc UO (mC (.int 48)) (Qb 3)) (Qb 1))) (Qc Zh (mFn Qm (Qa (mFn Qm (Qa (mC (.str "do")) (Qa (mC (.str "b")) Qd))) Qd)) (Qb 3))) Qd))) (Qa (mFn Qm (Qa (mC (.str "b")) (Qa (mFn Qm Qd) Qd))) Qd))))) QF)
  (QA (ZZ (Qr (Qc wEq (Qc Zy (Qb 0) (mC (.int 3))) (mC (.int 1)))) (QA (Zx 4 (Qc QW (mC (.int 1)) (Qc Zy (Qc JP (Qb 0) (mC (.int 3))) (mC (.int 5)))))
  (QA (Zx 5 (Qc QW (Qc Zh (mFn Qm (Qa (mFn Qm (Qa (mC (.str "do")) (Qa (mC (.str "b")) Qd))) Qd)) (mC (.int 2))) (Qc Zh (Qb 2) (Qc QW (Qc UO (mC (.int 48)) (Qc Vh (mC (.int 4)) (Qb 4))) (Qb 1)))))
  (Q8 (mFn Qm (Qa (mFn Qm (Qa (mC (.str "a")) (Qa (Qb 5) Qd))) (Qa (mFn Qm (Qa (mC (.str "b")) (Qa (Qc Zh (mFn Qm (Qa (mFn Qm (Qa (mC (.str "do")) (Qa (mC (.str "c")) Qd))) Qd)) (mC (.int 2))) Qd))) (Qa (mFn Qm (Qa (mC (.str "c")) (Qa (Qc Zh (Qb 2) (Qb 4)) Qd))) Qd))))))) QF)
  (QA (Zx 4 (Qc QW (mC (.int 1)) (Qc Zy (Qc JP (Qb 0) (mC (.int 3))) (mC (.int 9)))))
  (QA (Zx 3 (Qc Zy (Qc JP (Qb 0) (mC (.int 27))) (mC (.int 5))))
  (Q8 (mFn Qm (Qa (mFn Qm (Qa (mC (.str "a")) (Qa (Qc QW (Qc Zh (mFn Qm (Qa (mFn Qm (Qa (mC (.str "do")) (Qa (mC (.str "b")) Qd))) Qd)) (Qb 3)) (Qc Zh (Qb 2) (Qc QW (Qc UO (mC (.int 48)) (Qc Vh (Qb 4) (Qb 3))) (Qb 1)))) Qd))) (Qa (mFn Qm (Qa (mC (.str "b")) (Qa (Qc Zh (Qb 2) (Qb 4)) Qd))) Qd)))))))))
theorem Xh(d:DefAt K mg "_law_line_bound" Zk ["near","more"]):Cal P w K mg base 1 "_law_line_bound" ["near","more"] QT:=by
 refine QK (k:=0) (more:=4) d JW rfl fun _ _ _ _ _ _ _ hr=>?_;have nd_:=(JW).nd
 walk_at"~=,0@$8+#+#-#-&&$*,65C3%((,0@$8.(3:%(($*/4+#+#-#.<%.N(%%<+#+#-#-&&%&#+#-#+&&&>,65C3%((,0@$8.(3:%(($*,0@$8.<+#+#-#-&&(<%.N("
 refine XN Vn Qv ?_ ?_
 walk_at"~(%%$*/4+#+#-#%&#+#-#<+#+#-#-&&(&#+#-#<%%&&>,0@$8.(3:%(($*,0@$83:%(($*/4+#+#-#.<+#+#-#-&&%<%.N("
 refine XN Vn Qv ?_ ?_
 walk_at"~%%%&#+#-#<%%&&"
noncomputable def Zl:FM:=box frN QT
noncomputable abbrev ZC:Stmt:=top 42
theorem Vi:FnScope ["near","more"] ["near","more"] (Qf ZC):=⟨rfl,rfl,rfl,by decide +kernel,rfl,by decide +kernel,by decide +kernel⟩
noncomputable def QZ:FM:=Qw 0
  (QA (ZZ (Qr (Qc wEq (Qc Zy (Qb 0) (mC (.int 3))) (mC (.int 0)))) (Q8 (mFn Qm (Qa (mFn Qm (Qa (mC (.str "a")) (Qa (Qc Zh (mFn Qm (Qa (mFn Qm (Qa (mC (.str "do")) (Qa (mC (.str "b")) Qd))) Qd)) (Qc QW (mC (.int 23)) (Qb 1))) Qd))) (Qa (mFn Qm (Qa (mC (.str "b")) (Qa (mFn Qm Qd) Qd))) Qd)))) QF)
  (QA (ZZ (Qr (Qc wEq (Qc Zy (Qb 0) (mC (.int 3))) (mC (.int 1)))) (Q8 (mFn Qm (Qa (mFn Qm (Qa (mC (.str "a")) (Qa (mFn Qm (Qa (mFn Qm (Qa (mC (.str "do")) (Qa (mC (.str "b")) Qd))) Qd)) Qd))) (Qa (mFn Qm (Qa (mC (.str "b")) (Qa (Qc Zh (mFn Qm (Qa (mFn Qm (Qa (mC (.str "do")) (Qa (mC (.str "c")) Qd))) Qd)) (Qc QW (mC (.int 22)) (Qb 1))) Qd))) (Qa (mFn Qm (Qa (mC (.str "c")) (Qa (mFn Qm Qd) Qd))) Qd))))) QF)
  (Q8 (mFn Qm (Qa (mFn Qm (Qa (mC (.str "a")) (Qa (Qc QW (Qc Zh (mFn Qm (Qa (mFn Qm (Qa (mC (.str "do")) (Qa (mC (.str "b")) Qd))) Qd)) (mC (.int 3))) (Qc Zh (mFn Qm (Qa (mFn Qm (Qa (mC (.str "do")) (Qa (mC (.str "c")) Qd))) Qd)) (Qc QW (mC (.int 5)) (Qb 1)))) Qd))) (Qa (mFn Qm (Qa (mC (.str "b")) (Qa (Qc Zh (mFn Qm (Qa (mFn Qm (Qa (mC (.str "do")) (Qa (mC (.str "c")) Qd))) Qd)) (mC (.int 5))) Qd))) (Qa (mFn Qm (Qa (mC (.str "c")) (Qa (mFn Qm Qd) Qd))) Qd)))))))
theorem Xz(d:DefAt K mg "_law_way_bound" ZC ["near","more"]):Cal P w K mg base 1 "_law_way_bound" ["near","more"] QZ:=by
 refine QK (k:=0) (more:=0) d Vi rfl fun _ _ _ _ _ _ _ hr=>?_;have nd_:=(Vi).nd
 walk_at"~=,65C3%((/4+#+#-#<+#+#-#-&&.(%&#+#-#+&&&>,65C3%((/4+#+#-#+#+#-#-&&&#+#-#<+#+#-#-&&.(%&#+#-#+&&&>/4+#+#-#.<+#+#-#-&&(<+#+#-#-&&.(%&#+#-#<+#+#-#-&&(&#+#-#+&&&"
noncomputable def ZD:FM:=box frN QZ
noncomputable abbrev JY:Stmt:=top 40
theorem X1:FnScope ["cell","many","lines","k"] ["cell","many","lines"] (Qf JY):=⟨rfl,rfl,rfl,by decide +kernel,rfl,by decide +kernel,by decide +kernel⟩
noncomputable abbrev J8:SM:=(Zx 2 (Qk 2 ZF (Qa (Qc JP (Qb 0) (Qc QW (mC (.int 1)) (Qc Vh (mC (.int 3)) (Qb 3)))) (Qa (Qb 2) Qd))))
noncomputable def Vp:FM:=Qw 1
  (QA (VO (Kc (Qa (Qb 1) Qd)) (Z0 3)
  J8)
  (Q8 (Qb 2)))
theorem YZ(d:DefAt K mg "_law_deep" JY ["cell","many","lines"])(b_range:mg "range"=none)(c__law_block:Cal P w K mg base 1 "_law_block" ["cell","inner"] ZF):Cal P w K mg base 2 "_law_deep" ["cell","many","lines"] Vp:=by
 refine QK (k:=1) (more:=1) d X1 rfl fun _ _ _ _ _ _ _ hr=>?_;have nd_:=(X1).nd
 walk_at"~=,J"
 exact EC
 walk_at"~$"
 refine Xr ?_ ?_ ?_ ?_
 walk_at"~$?#%&$"
 exact JZ nd_ rfl (Or.inl rfl)
 walk_at"~/0@$8)2$#:%.("
 refine XN Vn Qv ?_ ?_
 walk_at"~(%#%&$7$$$*L/4%"
noncomputable def QI:FM:=box frN Vp
noncomputable abbrev Zm:Stmt:=top 43
theorem JU:FnScope ["near","more","outer","inner","beside","lines"] ["near","more"] (Qf Zm):=⟨rfl,rfl,rfl,by decide +kernel,rfl,by decide +kernel,by decide +kernel⟩
noncomputable def ZN:FM:=Qw 4
  (QA (Zx 2 (Qc Zy (Qb 0) (mC (.int 7))))
  (QA (Zx 3 (Qk 3 QI (Qa (Qc JP (Qb 0) (mC (.int 7))) (Qa (Qc QW (Qc UO (mC (.int 6)) (Qb 2)) (Qb 1)) (Qa (mFn Qm (Qa (mFn Qm (Qa (mC (.str "tell")) (Qa (mC (.str "x")) Qd))) Qd)) Qd)))))
  (QA (Zx 4 (Qk 3 QI (Qa (Qc JP (Qb 0) (mC (.int 5))) (Qa (Qc Zy (Qc JP (Qb 0) (mC (.int 49))) (mC (.int 7))) (Qa (mFn Qm (Qa (mFn Qm (Qa (mC (.str "none")) (Qa (mC (.str "x")) Qd))) Qd)) Qd)))))
  (QA (Zx 5 (Qk 3 QI (Qa (Qc JP (Qb 0) (mC (.int 3))) (Qa (Qb 2) (Qa (mFn Qm (Qa (mFn Qm (Qa (mC (.str "do")) (Qa (mC (.str "b")) Qd))) Qd)) Qd)))))
  (Q8 (mFn Qm (Qa (mFn Qm (Qa (mC (.str "a")) (Qa (Qc wIx (mFn UE (Qa (Qc QW (Qb 5) (Qb 4)) (Qa (Qc QW (Qb 4) (Qb 5)) Qd))) (Qc Zy (Qc JP (Qb 0) (mC (.int 343))) (mC (.int 2)))) Qd))) (Qa (mFn Qm (Qa (mC (.str "b")) (Qa (Qb 3) Qd))) Qd))))))))
theorem V7(d:DefAt K mg "_law_deep_bound" Zm ["near","more"])(c__law_deep:Cal P w K mg base 2 "_law_deep" ["cell","many","lines"] QI):Cal P w K mg base 3 "_law_deep_bound" ["near","more"] ZN:=by
 refine QK (k:=2) (more:=4) d JU rfl fun _ _ _ _ _ _ _ hr=>?_;have nd_:=(JU).nd
 walk_at"~=,0@$83%($*,0@$8)2$#:%(#.N(%%#+#+#-#-&&&$7$$$*,0@$8)2$#:%(#3:%((#+#+#-#-&&&$7$$$*,0@$8)2$#:%(#%#+#+#-#-&&&$7$$$*/4+#+#-#1"
 refine Vg ?_
 walk_at"~#.%%#.%%&3:%((&#+#-#%&&"
noncomputable def Zq:FM:=box frN ZN
noncomputable abbrev Zo:Stmt:=top 44
theorem JM:FnScope ["near","more","extra","back","deep","lines"] ["near","more"] (Qf Zo):=⟨rfl,rfl,rfl,by decide +kernel,rfl,by decide +kernel,by decide +kernel⟩
noncomputable def Ze:FM:=Qw 4
  (QA (Zx 2 (mFn Qen (Qa (mC (.int 0)) (Qa (mC (.int 0)) (Qa (mC (.int 0)) Qd)))))
  (QA (QgM (Qb 2) (Qc Zy (Qb 0) (mC (.int 3))) (Qb 1))
  (QA (Zx 3 (mFn Qm (Qa (mFn Qm (Qa (mC (.str "back")) (Qa (mC (.str "w")) Qd))) Qd)))
  (QA (Zx 4 (Qk 3 QI (Qa (Qc JP (Qb 0) (mC (.int 3))) (Qa (Qc QW (mC (.int 6)) (Qc wIx (Qb 2) (mC (.int 2)))) (Qa (mFn Qm (Qa (mFn Qm (Qa (mC (.str "tell")) (Qa (mC (.str "x")) Qd))) Qd)) Qd)))))
  (QA (ZZ (Qr (Qc wEq (Qc Zy (Qc JP (Qb 0) (mC (.int 3))) (mC (.int 2))) (mC (.int 0)))) (QA (Zx 5 (Qc QW (Qc Zh (mFn Qm (Qa (mFn Qm (Qa (mC (.str "do")) (Qa (mC (.str "b")) Qd))) Qd)) (mC (.int 2))) (Qc Zh (Qb 3) (Qb 1))))
  (Q8 (mFn Qm (Qa (mFn Qm (Qa (mC (.str "a")) (Qa (Qb 5) Qd))) (Qa (mFn Qm (Qa (mC (.str "b")) (Qa (Qc Zh (mFn Qm (Qa (mFn Qm (Qa (mC (.str "do")) (Qa (mC (.str "c")) Qd))) Qd)) (mC (.int 5))) Qd))) (Qa (mFn Qm (Qa (mC (.str "c")) (Qa (Qc Zh (Qb 3) (mC (.int 50))) Qd))) Qd)))))) QF)
  (Q8 (mFn Qm (Qa (mFn Qm (Qa (mC (.str "a")) (Qa (mFn Qm Qd) Qd))) (Qa (mFn Qm (Qa (mC (.str "b")) (Qa (Qc Zh (mFn Qm (Qa (mFn Qm (Qa (mC (.str "tell")) (Qa (mC (.str "x")) Qd))) Qd)) (Qc QW (mC (.int 48)) (Qc wIx (Qb 2) (mC (.int 0))))) Qd))) (Qa (mFn Qm (Qa (mC (.str "c")) (Qa (Qc Zh (Qb 3) (Qc QW (mC (.int 500)) (Qc wIx (Qb 2) (mC (.int 1))))) Qd))) (Qa (mFn Qm (Qa (mC (.str "d")) (Qa (Qb 4) Qd))) Qd)))))))))))
theorem V8(d:DefAt K mg "_law_part_bound" Zo ["near","more"])(c__law_deep:Cal P w K mg base 2 "_law_deep" ["cell","many","lines"] QI):Cal P w K mg base 3 "_law_part_bound" ["near","more"] Ze:=by
 refine QK (k:=2) (more:=4) d JM rfl fun _ _ _ _ _ _ _ hr=>?_;have nd_:=(JM).nd
 walk_at"~=,0@$8"
 refine Uq ?_
 walk_at"~#(#(#(&$*,"
 refine Qbh ?_ ?_ ?_ ?_ ?_ ?_
 walk_at"~%3%(%L$$,0@$8+#+#-#-&&$*,0@$8)2$#:%(#.(1%(#+#+#-#-&&&$7$$$*,65C3:%(((,0@$8.<+#+#-#-&&(<%%$*/4+#+#-#%&#+#-#<+#+#-#-&&(&#+#-#<%(&&>/4+#+#-#+&&#+#-#<+#+#-#-&&.(1%(&#+#-#<%.(1%(&#+#-#%&&"
noncomputable def Zp:FM:=box frN Ze
noncomputable abbrev Jq:Stmt:=top 45
theorem XG:FnScope ["cell","more","near","lines","at"] ["cell","more"] (Qf Jq):=⟨rfl,rfl,rfl,by decide +kernel,rfl,by decide +kernel,by decide +kernel⟩
noncomputable def Zi:FM:=Qw 3
  (QA (Zx 2 (Qc JP (Qb 0) (mC (.int 6))))
  (QA (ZZ (Qr (Qc wEq (Qc Zy (Qb 0) (mC (.int 6))) (mC (.int 0)))) (Q8 (Qk 2 Zl (Qa (Qb 2) (Qa (Qb 1) Qd)))) QF)
  (QA (ZZ (Qr (Qc wEq (Qc Zy (Qb 0) (mC (.int 6))) (mC (.int 1)))) (Q8 (Qk 2 ZD (Qa (Qb 2) (Qa (Qb 1) Qd)))) QF)
  (QA (ZZ (Qr (Qc wEq (Qc Zy (Qb 0) (mC (.int 6))) (mC (.int 2)))) (Q8 (Qk 2 Zq (Qa (Qb 2) (Qa (Qb 1) Qd)))) QF)
  (QA (ZZ (Qr (Qc wEq (Qc Zy (Qb 0) (mC (.int 6))) (mC (.int 3)))) (Q8 (Qk 2 Zp (Qa (Qb 2) (Qa (Qb 1) Qd)))) QF)
  (QA (ZZ (Qr (Qc wEq (Qc Zy (Qb 0) (mC (.int 6))) (mC (.int 4)))) (Zx 3 (mFn Vf (Qa (Zg ZH (Kc (Qa (Qc QW (mC (.int 5)) (Qb 1)) Qd)) [none] (Z0 0) XI (mFn Qm (Qa (mC (.str "none")) (Qa (Qc QW (mC (.str "bx")) (Qc wIx (mC (.str "abcdef")) (Qb 0))) Qd)))) Qd))) (QA (Zx 3 (Zg ZH (Kc (Qa (Qc Zy (Qb 2) (mC (.int 6))) Qd)) [none] (Z0 0) XI (mFn Qm (Qa (mC (.str "pair")) (Qa (mC (.str "x")) (Qa (Qc QW (mC (.str "w")) (Qc wIx (mC (.str "abcdef")) (Qb 0))) (Qa (mC (.str "x")) (Qa (mC (.str "x")) Qd))))))))
  (Zx 3 (mFn Vf (Qa (Qc QW (Qb 3) (Zg ZH (QgW (Qa (Qc Zy (Qb 2) (mC (.int 6))) (Qa (Qc QW (mC (.int 5)) (Qb 1)) Qd))) [none] (Z0 0) XI (mFn Qm (Qa (mC (.str "back")) (Qa (Qc QW (mC (.str "w")) (Qc wIx (mC (.str "abcdef")) (Qb 0))) Qd))))) Qd)))))
  (QA (Zx 4 (Qc Zy (Qc JP (Qb 2) (mC (.int 6))) (mC (.int 7))))
  (Q8 (mFn Qm (Qa (mFn Qm (Qa (mC (.str "a")) (Qa (Qc QW (mSl (Qb 3) Jp (Ju (Qb 4))) (Qc Zh (mFn Qm (Qa (mFn Qm (Qa (mC (.str "do")) (Qa (mC (.str "b")) Qd))) Qd)) (Qc Zy (Qc JP (Qb 2) (mC (.int 42))) (mC (.int 2))))) Qd))) (Qa (mFn Qm (Qa (mC (.str "b")) (Qa (mSl (Qb 3) (Ju (Qb 4)) Jp) Qd))) Qd)))))))))))
theorem Yg(d:DefAt K mg "_law_bound" Jq ["cell","more"])(b_range:mg "range"=none)(b_tuple:mg "tuple"=none)(c__law_deep_bound:Cal P w K mg base 3 "_law_deep_bound" ["near","more"] Zq)(c__law_line_bound:Cal P w K mg base 1 "_law_line_bound" ["near","more"] Zl)(c__law_part_bound:Cal P w K mg base 3 "_law_part_bound" ["near","more"] Zp)(c__law_way_bound:Cal P w K mg base 1 "_law_way_bound" ["near","more"] ZD):Cal P w K mg base 4 "_law_bound" ["cell","more"] Zi:=by
 refine QK (k:=3) (more:=3) d XG rfl fun _ _ _ _ _ _ _ hr=>?_;have nd_:=(XG).nd
 walk_at"~=,0@$8:%($*,65C3%((/4)2$#%#%&$7$$>,65C3%((/4)2$#%#%&$7$$>,65C3%((/4)2$#%#%&$7$$>,65C3%((/4)2$#%#%&$7$$>,65C3%((/0@$8G$?#B$"
 refine Xr ?_ ?_ ?_ ?_
 walk_at"~$?#.(%&$9+#-#.-1-%&&77$$$*,"
 refine WU nd_ rfl (Or.inl rfl) ?_ ZU ?_ (ZK (Nb:=["k"]) (cp:=[none]) rfl (by decide +kernel) (by decide +kernel) rfl rfl) ?_ (fun _ _ _ _ _=>?_) (fun _ _ _ _ _=>?_) ?_ ?_
 walk_at"~*$"
 refine Xr ?_ ?_ ?_ ?_
 walk_at"~$?#3%(&$9+#-#-#.-1-%#-#-&L$/0@$8G$?#.%B$"
 refine Qir ?_ ?_ ?_ ?_ ?_
 walk_at"~$?#3%(#.(%&$$9+#-#.-1-%&&77$$$*,0@$83:%(($*/4+#+#-#.I%"
 exact ZM;refine ZL ?_
 walk_at"~%<+#+#-#-&&3:%((&#+#-#I%"
 refine ZL ?_
 walk_at"~%"
 exact ZM
 walk_at"~&&"
noncomputable def ZE:FM:=box frN Zi
noncomputable abbrev WW:Stmt:=top 50
theorem Qei:FnScope ["script","program","aside","k","cell"] ["script"] (Qf WW):=⟨rfl,rfl,rfl,by decide +kernel,rfl,by decide +kernel,by decide +kernel⟩
noncomputable abbrev Wc:SM:=(QA (Zx 4 (Qk 2 Qj (Qa (Qb 0) (Qa (Qc QW (mC (.int 30)) (Qb 3)) Qd))))
  (QA (ZZ (J6 (Wn (Qk 2 QS (Qa (Qk 2 J7 (Qa (Qb 1) (Qa (Qb 4) Qd))) (Qa (mC (.bl false)) Qd))))) (Q8 (mC (.bl false))) QF)
  (ZZ (GS (J6 (Wn (Qk 2 QS (Qa (Qk 2 ZE (Qa (Qc JP (Qb 4) (mC (.int 5))) (Qa (mC (.int 0)) Qd))) (Qa (mC (.bl true)) Qd))))) (J6 (Wn (Qk 2 QS (Qa (Qk 2 ZE (Qa (Qc JP (Qb 4) (mC (.int 5))) (Qa (mC (.int 1)) Qd))) (Qa (mC (.bl false)) Qd)))))) (Q8 (mC (.bl false))) QF)))
noncomputable def KZ:FM:=Qw 4
  (QA (Zx 1 (Qk 1 Jy (Qa (Qb 0) Qd)))
  (QA (ZZ (J6 (Wn (Qk 2 QS (Qa (Qb 1) (Qa (mC (.bl true)) Qd))))) (Q8 (mC (.bl false))) QF)
  (QA (Zx 2 (mFn Qm (Qa (mFn Qm (Qa (mC (.str "a")) (Qa (mFn Qm Qd) Qd))) (Qa (mFn Qm (Qa (mC (.str "b")) (Qa (Qc Zh (mFn Qm (Qa (mFn Qm (Qa (mC (.str "do")) (Qa (mC (.str "c")) Qd))) Qd)) (mC (.int 10))) Qd))) (Qa (mFn Qm (Qa (mC (.str "c")) (Qa (Qc Zh (mFn Qm (Qa (mFn Qm (Qa (mC (.str "none")) (Qa (mC (.str "x")) Qd))) Qd)) (mC (.int 9))) Qd))) Qd)))))
  (QA (ZZ (J6 (Wn (Qk 2 QS (Qa (Qb 2) (Qa (mC (.bl true)) Qd))))) (Q8 (mC (.bl false))) QF)
  (QA (VO (Kc (Qa (mC (.int 3)) Qd)) (Z0 3)
  Wc)
  (Q8 (mC (.bl true))))))))
theorem QfR(d:DefAt K mg "law" WW ["script"])(b_range:mg "range"=none)(c__law_bound:Cal P w K mg base 4 "_law_bound" ["cell","more"] ZE)(c__law_cell:Cal P w K mg base 1 "_law_cell" ["script","k"] Qj)(c__law_program:Cal P w K mg base 2 "_law_program" ["script"] Jy)(c__law_told:Cal P w K mg base 6 "_law_told" ["thing","due"] QS)(c__law_turned:Cal P w K mg base 3 "_law_turned" ["program","cell"] J7):Cal P w K mg base 7 "law" ["script"] KZ:=by
 refine QK (k:=6) (more:=4) d Qei rfl fun _ _ _ _ _ _ _ hr=>?_;have nd_:=(Qei).nd
 walk_at"~=,0@$8)2$#%&$7$$$*,6FH)2$#%#E&$7$$/4E>,0@$8+#+#-#+&&#+#-#<+#+#-#-&&(&#+#-#<+#+#-#-&&(&&$*,6FH)2$#%#E&$7$$/4E>,J"
 exact EC
 walk_at"~$"
 refine Xr ?_ ?_ ?_ ?_
 walk_at"~$?#(&$"
 exact JZ nd_ rfl (Or.inl rfl)
 walk_at"~,0@$8)2$#%#.(%&$7$$$*,6FH)2$#)2$#%#%&$7$$#E&$7$$/4E>/6"
 refine PMW.pt ?_;refine V6 ?_ ?_
 walk_at"~FH)2$#)2$#:%(#(&$7$$#E&$7$$"
 refine J4 ?_
 walk_at"~FH)2$#)2$#:%(#(&$7$$#E&$7$$/4E>L/4E"
end
theorem Qgb{P:Program}{w:World}{K:Nd}{b:Str->Option Value}{base:Heap}(Z:DefAt K b "_law_names" ZT ["cell","many"])(as:DefAt K b "_law_cell" JN ["script","k"])(ab:DefAt K b "_law_block" Jr ["cell","inner"])(aq:DefAt K b "_law_line" Jd ["cell","boxes","words"])(H:DefAt K b "_law_program" Zu ["script"])(l:DefAt K b "has_right_names" Q0 ["parts"])(F:DefAt K b "level_change" ZY ["line"])(al:DefAt K b "line_size" J2 ["line","sizes"])(ak:DefAt K b "size_with" J3 ["lines","sizes"])(an:DefAt K b "flat_size" JS ["program"])(a3:DefAt K b "is_small" Vx ["size"])(ao:DefAt K b "all_lines" JX ["program"])(a5:DefAt K b "boxes_in" Vu ["line"])(a4:DefAt K b "boxes_of" Vm ["program"])(a1:DefAt K b "words_of" Vo ["program"])(a2:DefAt K b "own_size" Vs ["lines"])(G:DefAt K b "keeps_bounds" ZV ["parts"])(am:DefAt K b "is_blocks" JV ["lines"])(j:DefAt K b "is_small_letter" Zn ["sign"])(be:DefAt K b "is_name" V0 ["thing"])(bf:DefAt K b "is_line" VT ["thing"])(bd:DefAt K b "is_part" VW ["thing"])(Y:DefAt K b "is_program" Jo ["thing"])(ap:DefAt K b "_law_told" JT ["thing","due"])(a6:DefAt K b "_law_put" Vk ["program","at","part"])(g:DefAt K b "_law_turned_lines" Q4 ["program","cell"])(N:DefAt K b "_law_turned" Z9 ["program","cell"])(n:DefAt K b "_law_line_bound" Zk ["near","more"])(u:DefAt K b "_law_way_bound" ZC ["near","more"])(ar:DefAt K b "_law_deep" JY ["cell","many","lines"])(o:DefAt K b "_law_deep_bound" Zm ["near","more"])(m:DefAt K b "_law_part_bound" Zo ["near","more"])(aa:DefAt K b "_law_bound" Jq ["cell","more"])(bo:DefAt K b "law" WW ["script"])(bm:Glob K b "KEPT" XL)(X:Glob K b "MOST_BACKS" Jt)(M:Glob K b "MOST_BLOCKS" Z6)(U:Glob K b "MOST_BOXES" Jj)(E:Glob K b "MOST_LETTERS" QU)(T:Glob K b "MOST_LINES" Jn)(S:Glob K b "MOST_PARTS" ZB)(aj:Glob K b "MOST_WAYS" J1)(R:Glob K b "MOST_WORDS" Js)(D:GTab w K b "NAMES_BEHIND" Ql)(C:Glob K b "UNENTERED_DO" ZR)(A:b "all"=none)(bn:b "bool"=none)(a0:b "enumerate"=none)(a:b "isinstance"=none)(c:b "len"=none)(bi:b "list"=none)(bq:b "max"=none)(e:b "range"=none)(bc:b "reversed"=none)(az:b "set"=none)(ai:b "sorted"=none)(bj:b "str"=none)(d:b "tuple"=none):Cal P w K b base 7 "law" ["script"] KZ:=by
 have af:=(Yc (P:=P) (w:=w) (base:=base) Z e).box frN;have z:=(Y4 (P:=P) (w:=w) (base:=base) as c).box frN;have i:=(Yd (P:=P) (w:=w) (base:=base) ab).box frN;have ay:=(YW (P:=P) (w:=w) (base:=base) aq c).box frN;have L:=(Kj H e d i z ay af).box frN;have q:=(Xe (P:=P) (w:=w) (base:=base) l A a0 c az).box frN;have I:=(Ki (P:=P) (w:=w) (base:=base) F).box frN;have au:Cal P w K b base 1 "line_size" ["line","sizes"] QY:=YU al C;have v:Cal P w K b base 2 "size_with" ["lines","sizes"] QE:=Ws ak bq I au;have aw:=(YN an bc v).box frN;have a9:=(Ue (P:=P) (w:=w) (base:=base) a3 X M T).box frN;have f:=(Wi (P:=P) (w:=w) (base:=base) ao).box frN;have bb:=(Ut (P:=P) (w:=w) (base:=base) a5 bi).box frN;have ba:=(WT a4 az ai f bb).box frN;have a7:=(WV a1 az ai f).box frN;have a8:=(WZ a2 v).box frN;have J:=(Kh G U aj R A c az f ba aw a9 a8 a7).box frN;have av:=(YY (P:=P) (w:=w) (base:=base) am c).box frN;have p:=(Xk (P:=P) (w:=w) (base:=base) j).box frN;have O:=(Gd be bm E A a c bj p).box frN;have bh:=(Ga bf D A a c bj d O).box frN;have bg:=(UI bd A a c d av bh O).box frN;have ae:=(Ye Y S A a c d q bg J).box frN;have ax:=(Y3 ap bn a ae).box frN;have B:=(UA (P:=P) (w:=w) (base:=base) a6).box frN;have h:=(VN g c B).box frN;have Q:=(KS N c bi e d B h).box frN;have s:=(Xh (P:=P) (w:=w) (base:=base) n).box frN;have x:=(Xz (P:=P) (w:=w) (base:=base) u).box frN;have y:=(YZ ar e i).box frN;have t:=(V7 o y).box frN;have r:=(V8 m y).box frN;have ah:=(Yg aa e d t s r x).box frN;have bp:Cal P w K b base 7 "law" ["script"] KZ:=QfR bo e ah z L ax Q;exact bp
noncomputable abbrev Ln:=List Str
noncomputable def Qg(l:Ln):W:=.tup (l.map .str)
noncomputable def Zd(xs:List Str):W:=.lst (xs.map .str)
noncomputable abbrev Pt:=Str×List Ln
noncomputable def Qn(p:Pt):W:=.tup [.str p.1,.tup (p.2.map Qg)]
noncomputable def Qx(p:List Pt):W:=.tup (p.map Qn)
theorem Gu:∀{ws:List W},(∀w∈ws,pln w=true)->WK ws=true
 |[],_=>rfl
 |w::ws,h=>by unfold WK;rw[h w Nr,Gu fun x a=>h x (Np _ a)];rfl
theorem Gz{n:Nat}:∀{ws:List W},(∀w∈ws,dep w<=n)->Qcq ws<=n
 |[],_=>Ei _
 |w::ws,h=>by unfold Qcq;exact Nat.max_le.mpr ⟨h w Nr,Gz fun x a=>h x (Np _ a)⟩
theorem WD{f:a->W}{xs:List a}(h:∀x,pln (f x)=true):WK (xs.map f)=true:=Gu fun w hw=>by obtain⟨x,_,rfl⟩:=No.mp hw;exact h x
theorem QdT{f:a->W}{xs:List a}(h:∀x,dep (f x)<=n):Qcq (xs.map f)<=n:=Gz fun w hw=>by obtain⟨x,_,rfl⟩:=No.mp hw;exact h x
@[simp]theorem XE{xs:List Str}:WK (xs.map .str)=true:=WD fun _=>rfl
theorem Qaa{xs:List Str}:Qcq (xs.map .str)<=1:=QdT fun _=>Nw _
@[simp]theorem QhR{l:Ln}:pln (Qg l)=true:=by unfold Qg pln;exact XE
@[simp]theorem Qdg{xs:List Str}:pln (Zd xs)=true:=by unfold Zd pln;exact XE
@[simp]theorem QfO{ls:List Ln}:WK (ls.map Qg)=true:=WD fun _=>QhR
@[simp]theorem QjS{p:Pt}:pln (Qn p)=true:=by simp[Qn,pln,WK]
@[simp]theorem Qb8{ps:List Pt}:WK (ps.map Qn)=true:=WD fun _=>QjS
@[simp]theorem Qkj{ps:List Pt}:pln (Qx ps)=true:=by unfold Qx pln;exact Qb8
@[simp]theorem Qmv{l:Ln}:pur (Qg l)=true:=Wq _ QhR
@[simp]theorem Qi1{xs:List Str}:pur (Zd xs)=true:=Wq _ Qdg
@[simp]theorem QlI{ps:List Pt}:pur (Qx ps)=true:=Wq _ Qkj
@[simp]theorem QiN{xs:List Str}:QQ (xs.map .str)=true:=Vd _ XE
@[simp]theorem Qkg{ls:List Ln}:QQ (ls.map Qg)=true:=Vd _ QfO
@[simp]theorem K4{ls:List Pt}:QQ (ls.map Qn)=true:=Vd _ Qb8
@[simp]theorem QlC{i:Int}:pur (.int i)=true:=id rfl
@[simp]theorem Qlz{x:Str}:pur (.str x)=true:=id rfl
@[simp]theorem Y2{ws:List W}:pur (.tup ws)=QQ ws:=by unfold pur;rfl
@[simp]theorem Qmz{ws:List W}:pur (.lst ws)=QQ ws:=by unfold pur;rfl
@[simp]theorem Qky:QQ []=true:=id rfl
@[simp]theorem QfM{ws:List W}:QQ (w::ws)=(pur w&&QQ ws):=by rw[QQ]
@[simp]theorem QkN{ws us:List W}:QQ (ws++us)=(QQ ws&&QQ us):=by
 induction ws with
 |nil=>simp
 |cons w ws a=>simp[a,Bool.and_assoc]
@[simp]theorem Qg1{ns:List Int}:QQ (ns.map .int)=true:=by
 induction ns with
 |nil=>rfl
 |cons n ns a=>simp[a]
theorem Za{n:Nat}(h:n<=1000000):n<=sizeLine:=Nn h (by decide)
theorem QeQ{n:Nat}(h:n<=1000000):n<sizeLine:=NG h (by decide)
@[simp]theorem Qk2:1<=sizeLine:=by decide
@[simp]theorem Qlr:2<=sizeLine:=by decide
@[simp]theorem Qll:3<=sizeLine:=by decide
@[simp]theorem Qli:4<=sizeLine:=by decide
@[simp]theorem Qk5:5<=sizeLine:=by decide
theorem QaF{xs:List b}{i:Int}{P:b->Prop}{f:b->W}(d:0<=i)(h1:i<xs.length)(c:∀x∈xs,P x):∃x,x∈xs/\P x/\atI (xs.map f) i=some (f x):=by
 obtain⟨n,rfl⟩:∃n:Nat,i=n:=⟨i.toNat,by exact(DM ‹_›).symm⟩
 have a:n<xs.length:=by lia
 exact⟨xs[n],Ij a,c _ (Ij a),by rw[Zz,Nu,Nk a];rfl⟩
theorem QjP{b:List W}(d:pln a=true)(py:WK b=true)(f:dep a<=40)(e:Qcq b<=40):wIn neg a (.lst b) h=some (.bl (if neg=true then !inW a b else inW a b),h):=by
 show((lsW h (.lst b)).bind fun b=>(drf h 40 a).bind fun x=>(Vc (drf h 40) b).map fun c=>(W.bl (if neg then !inW x c else inW x c),h))=_;simp only[lsW,Nq];rw[U8 h a 40 d f,XH h b 40 py e];rfl
theorem Qi8{b:List W}(d:pln a=true)(py:WK b=true)(f:dep a<=40)(e:Qcq b<=40):wIn neg a (.tup b) h=some (.bl (if neg=true then !inW a b else inW a b),h):=by
 show((drf h 40 a).bind fun x=>(Vc (drf h 40) b).map fun c=>(W.bl (if neg then !inW x c else inW x c),h))=_;rw[U8 h a 40 d f,XH h b 40 py e];rfl
@[simp]theorem Qj4{xs:List Str}:VX [Zd xs] h=some (.int xs.length,h):=by unfold Zd;simp
@[simp]theorem Qnb{xs:List a}:atI xs 2=xs[2]?:=Zz (n:=2)
@[simp]theorem Qm8{xs:List a}:atI xs 3=xs[3]?:=Zz (n:=3)
@[simp]theorem Qm9{xs:List a}:atI xs 4=xs[4]?:=Zz (n:=4)
theorem QfK{a b:Char}(h:a.toNat=b.toNat):a=b:=by
 have:a.val=b.val:=by
  apply UInt32.toNat_inj.mp;exact h
 exact Char.ext this
theorem Ky:∀{a b:List Char},a.map Char.toNat=b.map Char.toNat->a=b
 |[],[],_=>rfl
 |[],_::_,h=>by simp at h
 |_::_,[],h=>by simp at h
 |x::a,y::b,h=>by
  simp only[NK,List.cons.injEq]at h;rw[QfK h.1,Ky h.2]
@[simp]theorem QjQ{a b:String}:(Str.ofString a=Str.ofString b)↔a=b:=by
 constructor
 ·intro h;rw[IN,IN]at h;have c:=Ky (List.toArray_inj (Str.mk.inj h));exact String.toList_inj.mp c
 ·intro h;rw[h]
end My
namespace My3
inductive Cd where
 |ei|ag|oo|en|ot
 deriving DecidableEq
noncomputable def ch:Cd->Int
 |.ei=>1
 |.ag=>1
 |.en=>-1
 |_=>0
end My3
namespace My4
open My3
noncomputable def kst:Cd->List Cd->Option (List Cd)
 |.ei,s=>some (.ei::s)
 |.ag,s=>some (.ag::s)
 |.oo,s=>match s with
  |e::r=>if e=.ei then some (.oo::r)else none
  |[]=>none
 |.en,s=>match s with
  |e::r=>if e=.ei then none else some r
  |[]=>none
 |.ot,s=>some s
noncomputable def XY:List Cd->List Cd->Option (List Cd)
 |[],s=>some s
 |c::ls,s=>(kst c s).bind (XY ls)
theorem JK:∀(ls a:List Cd) (s:List Cd),XY (ls++a) s=(XY ls s).bind (XY a)
 |[],a,s=>rfl
 |c::ls,a,s=>by
  show(kst c s).bind (XY (ls++a))=((kst c s).bind (XY ls)).bind (XY a);cases kst c s with
  |none=>rfl
  |some t=>exact JK ls a t
end My4
namespace My
open L2 Mi My3 My4
theorem Vt(e:a σ h=some ([.int j],h'))(b:j<1000000):Kc a σ h=some (QO 0 j,none,h'):=by
 unfold Kc;rw[e,Nq];exact(if_pos ⟨by lia,by lia⟩).trans (by simp)
theorem Q6:(QO a n).length=n:=by simp[QO]
theorem JA:(QO a n).map f=(List.range n).map fun(i:Nat)=>f (.int (a+i)):=by simp[QO]
noncomputable def keptN:List Str:=["pair","first","second","none","tell","back","either","or","again","end","do","part"]
structure Nm(x:Str):Prop where
 lo:1<=x.length
 hi:x.length<=8
 sm:∀c∈x.cps.toList,97<=c/\c<=122
 kp:x∉keptN
inductive PlainL(bs ws:List Str):Ln->Prop where
 |pair {x w y z:Str} (hx:x∈bs) (hw:w∈ws) (hy:y∈bs) (hz:z∈bs):PlainL bs ws ["pair",x,w,y,z]
 |first {x y:Str} (hx:x∈bs) (hy:y∈bs):PlainL bs ws ["first",x,y]
 |second {x y:Str} (hx:x∈bs) (hy:y∈bs):PlainL bs ws ["second",x,y]
 |same {x y:Str} (hx:x∈bs) (hy:y∈bs):PlainL bs ws ["same",x,y]
 |none {x:Str} (hx:x∈bs):PlainL bs ws ["none",x]
 |tell {x:Str} (hx:x∈bs):PlainL bs ws ["tell",x]
theorem Qci{xs:List Str}{i:Int}(b:0<=i)(h1:i<xs.length):∃x,x∈xs/\atI (xs.map W.str) i=some (.str x):=by
 obtain⟨x,a,_,e⟩:=QaF (xs:=xs) (f:=W.str) (P:=fun _=>True) b h1 (fun _ _=>True.intro);exact⟨x,a,e⟩
noncomputable def cd(x:Str):Cd:=if x="either"then .ei else if x="again"then .ag else if x="or"then .oo else if x="end"then .en else .ot
noncomputable def cdL:Ln->Cd
 |[]=>.ot
 |x::_=>cd x
inductive LineOk(bs ws later:List Str):Ln->Prop where
 |plain {l:Ln} (h:PlainL bs ws l):LineOk bs ws later l
 |do {x:Str} (h:x∈later):LineOk bs ws later ["do",x]
 |blk {x:Str} (h:x="either"\/x="again"\/x="or"\/x="end"):LineOk bs ws later [x]
 |back {x:Str} (h:x∈ws):LineOk bs ws later ["back",x]
noncomputable abbrev orL:Ln:=["or"]
noncomputable abbrev WJ:Ln:=["end"]
noncomputable def Qj3:Ln->Bool
 |x::_=>x=="do"
 |[]=>false
theorem Ui:cd "either"=.ei:=rfl
theorem Gv:cd "again"=.ag:=by decide
theorem Qik:cd "or"=.oo:=by decide
theorem Qie:cd "end"=.en:=by decide
theorem QdN{bs ws:List Str}(h:PlainL bs ws l):cdL l=.ot:=by cases h<;>(show cd _=.ot)<;>decide
noncomputable def QiU:Ln->Bool
 |x::_=>x=="back"
 |[]=>false
theorem QhO(O:List Str)(h:O≠[]):∃r x,O=r++[x]:=⟨O.dropLast,O.getLast h,(E2 h).symm⟩
theorem WG{P:a->Prop}{xs:List a}(h:∀y∈xs,P y)(c:P x):∀y∈xs++[x],P y:=fun y b=>by
 rcases NI.mp b with z|z
 ·exact h y z
 ·rw[NE.mp z];exact c
theorem Qgg{P:Str->Prop}(h:∀z∈xs++[x],P z)(b:P y):∀z∈xs++[y],P z:=WG (fun z a=>h z (N7 _ a)) b
theorem XC(O:List Str)(x:Str):(O++[x]).reverse.map cd=cd x::O.reverse.map cd:=by simp
theorem Qdf(L:List Ln)(l:Ln):(L++[l]).map cdL=L.map cdL++[cdL l]:=by simp
structure GoodP(N:Nat)(bs ws:List Str)(p:List Pt):Prop where
 ne:p≠[]
 len:p.length<=5
 bal:∀x∈p,XY (x.2.map cdL) []=some []
 sz:∀x∈p,x.2.length<=N
 ok:∀(i:Nat) (x:Pt),p[i]?=some x->∀l∈x.2,LineOk bs ws ((p.map (·.1)).drop (i+1)) l
 nd:(p.map (·.1)).Nodup
theorem VZ(xs:List a)(k:Nat):W4 xs (some (k:Int)) none=xs.drop k:=by
 unfold W4;rw[HT.sIx_nat,HT.sIx_none]
 by_cases h:k<=xs.length
 ·rw[ID h,E6 (by simp)]
 ·rw[Oo (N8 (Fz.mp h)),Dy (Nw _),Dy (N8 (Fz.mp h))];simp
theorem Qes{k:Nat}(a:i=k):wSl (Zd ns) (some i) none h=some (Zd (ns.drop k),h):=by
 subst a;unfold Zd;simp[VZ,DK]
theorem UF{i:Int}(h:0<=i):∃n:Nat,i=n:=⟨i.toNat,by exact(DM ‹_›).symm⟩
theorem Uh(h:LineOk bs ws la l):∃x r,l=x::r:=by
 cases h with
 |plain h=>cases h<;>exact⟨_,_,rfl⟩
 |«do» h=>exact⟨_,_,rfl⟩
 |blk h=>exact⟨_,_,rfl⟩
 |back h=>exact⟨_,_,rfl⟩
theorem Wr{A B:List Cd}{s:List Cd}(h:XY (A++B) []=some s):∃r,XY A []=some r:=by
 rw[JK]at h;cases e:XY A []with
 |none=>rw[e]at h;simp at h
 |some r=>exact⟨r,rfl⟩
theorem YH{p:List Pt}{i:Nat}(h:p[i]?=some x):atI (p.map Qn) (i:Int)=some (Qn x):=by rw[Zz,Nu,h];rfl
@[simp]theorem Qkt:wIx (Qg (x::r)) (.int 0) h=some (.str x,h):=by unfold Qg;simp
@[simp]theorem Qlm:wIx (Qg (x::y::r)) (.int 1) h=some (.str y,h):=by unfold Qg;simp
@[simp]theorem QlN:wIx (Qx p) (.int i) h=@om _ _ (fun w=>(w,h)) (atI (p.map Qn) i):=by unfold Qx;simp
@[simp]theorem Ym:wIx (Qn x) (.int 1) h=some (.tup (x.2.map Qg),h):=by unfold Qn;simp
@[simp]theorem QkS:wIx (Qn x) (.int 0) h=some (.str x.1,h):=by unfold Qn;simp
@[simp]theorem QkJ:QW (.lst xs) (.lst a) h=if xs.length+a.length<=sizeLine then some (.lst (xs++a),h)else none:=id rfl
theorem Qca{a:Type}{motive:List a->Prop}(nil:motive [])(snoc:∀L l,motive L->motive (L++[l]))(t:List a):motive t:=by
 rw[<-List.reverse_reverse t]
 induction t.reverse with
 |nil=>exact nil
 |cons x r b=>rw[F3];exact snoc _ _ b
structure Sz where
 pl:Int
 bk:Int
 dp:Int
 wy:Int
noncomputable def Xn(z:Sz):W:=.tup [.int z.pl,.int z.bk,.int z.dp,.int z.wy]
noncomputable abbrev Sd:=List (Str×Sz)
noncomputable def look:Sd->Str->Option Sz
 |[],_=>none
 |(y,z)::d,x=>if y=x then some z else look d x
noncomputable def XV(d:Sd)(l:Ln):Sz:=
 if Qj3 l=true then(look d (l.getD 1 "")).getD ⟨1,0,0,0⟩else if QiU l=true then⟨0,1,0,0⟩else⟨1,0,0,0⟩
structure Q5 where
 pl:Int
 bk:Int
 lv:Int
 dp:Int
 wy:Int
noncomputable def Vw(d:Sd)(q:Q5)(l:Ln):Q5:=
 ⟨q.pl+(XV d l).pl,q.bk+(XV d l).bk,q.lv+ch (cdL l),max q.dp (q.lv+ch (cdL l)+(XV d l).dp),q.wy+(XV d l).wy⟩
noncomputable def WB(d:Sd)(q:Q5)(ls:List Ln):Q5:=ls.foldl (Vw d) q
noncomputable def qz:Q5:=⟨0,0,0,0,1⟩
noncomputable def szw(d:Sd)(ls:List Ln):Sz:=⟨(WB d qz ls).pl,(WB d qz ls).bk,(WB d qz ls).dp,(WB d qz ls).wy⟩
theorem QbV(d:Sd)(q:Q5)(L:List Ln)(l:Ln):WB d q (L++[l])=Vw d (WB d q L) l:=by simp[WB]
theorem Kp(d:Sd)(q:Q5)(L M:List Ln):WB d q (L++M)=WB d (WB d q L) M:=by simp[WB]
noncomputable def sd:List Pt->Sd
 |[]=>[]
 |x::r=>sd r++[(x.1,szw (sd r) x.2)]
theorem Kv{x:Str}:∀{a b:Sd},look (a++b) x=(look a x).orElse fun _=>look b x
 |[],b=>rfl
 |(y,z)::a,b=>by
  show(if y=x then some z else look (a++b) x)=_
  by_cases h:y=x
  ·rw[if_pos h];simp[look,h]
  ·rw[if_neg h,Kv];simp[look,h]
theorem Wt:∀(r:List Pt),(sd r).map (·.1)=(r.map (·.1)).reverse
 |[]=>rfl
 |x::r=>by simp[sd,Wt r]
theorem WR{x:Str}:∀{a:Sd},x∉a.map (·.1)->look a x=none
 |[],_=>rfl
 |(y,z)::a,h=>by
  have h1:y≠x:=fun e=>h (by simp[e]);rw[look,if_neg h1];exact WR fun z=>h (by simp at z ⊢;exact .inr z)
theorem YG:∀{p:List Pt} {j:Nat} {y:Pt},(p.map (·.1)).Nodup->p[j]?=some y->look (sd p) y.1=some (szw (sd (p.drop (j+1))) y.2)
 |x::r,0,y,b,h=>by
  simp at h;subst h;have e:x.1∉(sd r).map (·.1):=by rw[Wt];simp at b ⊢;exact fun a f=>b.1 a f
  rw[sd,Kv,WR e];simp[look]
 |x::r,j+1,y,b,h=>by
  have c:(r.map (·.1)).Nodup:=(Ek.mp b).2;have d:=YG (p:=r) c (by simpa using h);rw[sd,Kv,d];simp
theorem KP{x:Str}:(x="either"/\cd x=.ei)\/(x="again"/\cd x=.ag)\/(x="or"/\cd x=.oo)\/(x="end"/\cd x=.en)\/((x≠"either"/\x≠"again"/\x≠"or"/\x≠"end")/\cd x=.ot):=by
 unfold cd
 by_cases d:x="either"
 ·exact .inl ⟨d,if_pos d⟩
 rw[if_neg d]
 by_cases c:x="again"
 ·exact .inr (.inl ⟨c,if_pos c⟩)
 rw[if_neg c]
 by_cases b:x="or"
 ·exact .inr (.inr (.inl ⟨b,if_pos b⟩))
 rw[if_neg b]
 by_cases a:x="end"
 ·exact .inr (.inr (.inr (.inl ⟨a,if_pos a⟩)))
 rw[if_neg a];exact .inr (.inr (.inr (.inr ⟨⟨d,c,b,a⟩,rfl⟩)))
@[simp]theorem QiM{r:List Str}:JE [Qg (x::r)] h=some (.int (ch (cd x)),h):=by
 refine Qe (g:=[]) (by simp) ?_ rfl;have e2:Qg (x::r)=.tup (.str x::r.map .str):=rfl
 rcases KP (x:=x)with⟨rfl,a⟩|⟨rfl,a⟩|⟨rfl,a⟩|⟨rfl,a⟩|⟨⟨d,c,e,b⟩,a⟩
 ·simp[QM,Qw,e2,a,ch]
 ·simp[QM,Qw,e2,a,ch]
 ·simp[QM,Qw,e2,a,ch]
 ·simp[QM,Qw,e2,a,ch]
 ·simp[QM,Qw,e2,d,c,b,a,ch]
noncomputable def kvs(d:Sd):List (Key×W):=d.map fun e=>(Sum.inr e.1,Xn e.2)
theorem Y0{x:Str}:∀(d:Sd),QaO (kvs d) (.inr x)=(look d x).map Xn
 |[]=>rfl
 |(y,z)::d=>by
  unfold QaO kvs look;rw[NK,Er]
  by_cases h:y=x
  ·subst h;simp
  ·have:¬(Sum.inr y:Key)=Sum.inr x:=fun q=>h (OO q);simp only[this,decide_false,h,if_false];exact Y0 d
theorem Qfm{x:Str}{z:Sz}{d:Sd}(h:x∉d.map (·.1)):QgC (kvs d) (.inr x) (Xn z)=kvs (d++[(x,z)]):=by
 have:((kvs d).any fun b=>decide (b.1=Sum.inr x))=false:=by
  rw[LQ];intro b a;unfold kvs at a;obtain⟨e,c,rfl⟩:=No.mp a;simp;intro q;exact h (by rw[<-q];exact DN (f:=(·.1)) c)
 unfold QgC;rw[this];simp[kvs]
def Qix(l:Ln):Prop:=∃x r,l=x::r/\(x="do"->∃y,r=[y])
theorem QgH{bs ws la:List Str}{l:Ln}(h:LineOk bs ws la l):Qix l:=by
 cases h with
 |plain h=>cases h<;>exact⟨_,_,rfl,fun z=>absurd z (by decide)⟩
 |«do» h=>exact⟨_,_,rfl,fun _=>⟨_,rfl⟩⟩
 |blk h=>rcases h with rfl|rfl|rfl|rfl<;>exact⟨_,_,rfl,fun z=>absurd z (by decide)⟩
 |back h=>exact⟨_,_,rfl,fun z=>absurd z (by decide)⟩
theorem QdF{l:Ln}{d:Sd}{h:MH}{n:Nat}(i:Qix l)(g:h[n]?=some (.dic (kvs d))):QY [Qg l,.ref n] h=some (Xn (XV d l),h):=by
 obtain⟨x,r,rfl,hd⟩:=i
 by_cases a:x="do"
 ·obtain⟨y,rfl⟩:=hd a;subst a;have e:XV d (["do",y]:Ln)=(look d y).getD ⟨1,0,0,0⟩:=rfl;rw[e];simp[QY,Qw,g,Y0];cases look d y<;>rfl
 ·have b:Qj3 (x::r)=false:=by show(x==("do":Str))=false;simpa using a
  unfold XV;rw[b]
  by_cases f:x="back"
  ·subst f;have c:QiU (("back":Str)::r)=true:=by show((_:Str)==_)=true;decide
   rw[c];simp[QY,Qw,Xn]
  ·have c:QiU (x::r)=false:=by show(x==("back":Str))=false;simpa using f
   rw[c];simp[QY,Qw,a,f,Xn]
noncomputable abbrev zS(ls:List Ln)(n:Nat)(q:Q5)(b a:Option W):MSt:=[some (.tup (ls.map Qg)),some (.ref n),some (.int q.pl),some (.int q.bk),some (.int q.lv),some (.int q.dp),some (.int q.wy),b,a]
theorem QiR{z:Sz}{h:MH}:wIx (Xn z) (.int 0) h=some (.int z.pl,h):=by unfold Xn;simp
theorem Qi5{z:Sz}{h:MH}:wIx (Xn z) (.int 1) h=some (.int z.bk,h):=by unfold Xn;simp
theorem Qi0{z:Sz}{h:MH}:wIx (Xn z) (.int 2) h=some (.int z.dp,h):=by unfold Xn;simp
theorem Qi6{z:Sz}{h:MH}:wIx (Xn z) (.int 3) h=some (.int z.wy,h):=by unfold Xn;simp
theorem Gx{ls:List Ln}{d:Sd}{h:MH}{n:Nat}(v:∀l∈ls,Qix l)(u:h[n]?=some (.dic (kvs d))):QE [.tup (ls.map Qg),.ref n] h=some (Xn (szw d ls),h):=by
 have c:=JC (items:=ls.map Qg) (b:=Z0 7) (body:=J9) (fun j o a=>∃m i,o=zS ls n (WB d qz (ls.take j)) m i/\a=h) (ls.map Qg) 0 (zS ls n qz none none) h ⟨none,none,rfl,rfl⟩ (by
  rintro j w p o a ⟨m,i,rfl,rfl⟩
  rw[Nu]at p;obtain⟨l,g,rfl⟩:=Nf.mp p;rw[N1]at *;have t:ls.take (j+1)=ls.take j++[l]:=by rw[Dh,g];rfl
  have f:=v l (NN g);have e2:=QdF f u;refine⟨_,rfl,zS ls n (WB d qz (ls.take (j+1))) (some (Qg l)) (some (Xn (XV d l))),a,.inl ?_,_,_,rfl,rfl⟩;rw[t,QbV];obtain⟨x,r,rfl,_⟩:=f;simp[e2,QiR,Qi5,Qi0,Qi6,Vw,cdL]
  split<;>omega)
 obtain⟨s,a,e,m,i,rfl,rfl⟩:=c;rw[NB,N1,EK]at e;have ei:QC (Qb 0) (zS ls n qz none none) a=some (ls.map Qg,none,a):=rfl
 have q:VO (QC (Qb 0)) (Z0 7) J9 (zS ls n qz none none) a=some (.nx (zS ls n (WB d qz ls) m i) a):=by
  unfold VO;rw[ei,Nq];exact e
 simp[qz]at q;simp[QE,Qw,q,Xn,szw,qz]
theorem Qfp{ls:List Ln}{h:MH}(a:∀l∈ls,Qix l):JD [.tup (ls.map Qg)] h=some (Xn (szw [] ls),h):=by
 refine Qe (g:=[.dic []]) (by simp) ?_ (by simp[Xn]);have e:QE [.tup (ls.map Qg),.ref 0] [.dic []]=some (Xn (szw [] ls),[.dic []]):=Gx (d:=[]) a rfl;simp[VD,Qw,e]
theorem Qdq{p:List Pt}{j:Nat}{w:W}(h:((p.map Qn).reverse)[j]?=some w):∃x,p[p.length-1-j]?=some x/\w=Qn x/\j<p.length/\p.drop (p.length-(j+1))=x::p.drop (p.length-j):=by
 have a:=(Nj.mp h).1;simp at a;rw[IX (by simpa using a),NB,Nu]at h;obtain⟨x,b,rfl⟩:=Nf.mp h;refine⟨x,b,rfl,a,?_⟩;obtain⟨c,e⟩:=Nj.mp b;rw[show p.length-(j+1)=p.length-1-j by omega,EQ c,e,show p.length-1-j+1=p.length-j by omega]
theorem Qd4{N:Nat}{bs ws:List Str}{p:List Pt}{x:Pt}{h:MH}(n:GoodP N bs ws p)(u:p[0]?=some x):JI [Qx p] h=some (Xn (szw (sd (p.drop 1)) x.2),h):=by
 have v:=n.len
 have a:=JC (items:=(p.map Qn).reverse) (b:=XU [2,3]) (body:=Vb) (fun j s r=>∃m i,s=[some (Qx p),some (.ref 0),m,i]/\r=[.dic (kvs (sd (p.drop (p.length-j))))]) (p.map Qn).reverse 0 [some (Qx p),some (.ref 0),none,none] [.dic []] ⟨none,none,rfl,by simp[sd,kvs]⟩ (by
  rintro j w D s r ⟨m,i,rfl,rfl⟩
  obtain⟨y,t,rfl,C,f⟩:=Qdq D;rw[N1]at *;have G:=NN t;have e1:QE [.tup (y.2.map Qg),.ref 0] [.dic (kvs (sd (p.drop (p.length-j))))]=some (Xn (szw (sd (p.drop (p.length-j))) y.2),[.dic (kvs (sd (p.drop (p.length-j))))]):=Gx (fun l B=>QgH (n.ok _ y t l B)) rfl
  have c:y.1∉(sd (p.drop (p.length-j))).map (·.1):=by
   rw[Wt,List.mem_reverse];have d:((p.drop (p.length-(j+1))).map (·.1)).Nodup:=by rw[DK];exact n.nd.sublist (L8 _ _)
   rw[f,NK]at d;exact(Ek.mp d).1
  have o:(kvs (sd (p.drop (p.length-j)))).length<sizeLine:=by
   have:(kvs (sd (p.drop (p.length-j)))).length=(p.drop (p.length-j)).length:=by
    have:=congrArg List.length (Wt (p.drop (p.length-j)));simpa[kvs]using this
   rw[this];exact QeQ (by simp;omega)
  refine⟨[some (Qx p),some (.ref 0),some (.str y.1),some (.tup (y.2.map Qg))],rfl,[some (Qx p),some (.ref 0),some (.str y.1),some (.tup (y.2.map Qg))],[.dic (kvs (sd (p.drop (p.length-(j+1)))))],.inl ?_,_,_,rfl,rfl⟩;rw[f];have e2:=Qfm (z:=szw (sd (p.drop (p.length-j))) y.2) c
  simp[e1,o,e2,sd])
 obtain⟨A,r,e,m,i,rfl,rfl⟩:=a;rw[DL,NB,N1,LF,FP]at e;refine Qe (g:=[.dic (kvs (sd p))]) (by simp) ?_ (by simp[Xn]);have ei:QiX (Qa (Qb 0) Qd) [some (Qx p),some (.ref 0),none,none] [.dic []]=some ((p.map Qn).reverse,none,[.dic []]):=rfl
 have F:VO (QiX (Qa (Qb 0) Qd)) (XU [2,3]) Vb [some (Qx p),some (.ref 0),none,none] [.dic []]=some (.nx [some (Qx p),some (.ref 0),m,i] [.dic (kvs (sd p))]):=by
  unfold VO;rw[ei,Nq];exact e
 have E:atI (p.map Qn) 0=some (Qn x):=YH u;have q:=YG (p:=p) (j:=0) n.nd u;simp[Vj,Qw,F,E,Y0,q]
noncomputable def QeC(a:ME)(σ:MSt)(p:W×MH):Option (W×MH):=match p.1 with|.bl true=>a σ p.2|.bl false=>some (.bl false,p.2)|_=>none
@[simp]theorem QgR{a:ME}{σ:MSt}{h:MH}{c:Bool}:QeC a σ (.bl c,h)=if c=true then a σ h else some (.bl false,h):=by cases c<;>rfl
@[simp]theorem Ql4{b a:ME}{σ:MSt}{h:MH}:QcX b a σ h=@ob _ _ (QeC a σ) (b σ h):=id rfl
theorem QfQ{z:Sz}{h:MH}:Z5 [Xn z] h=some (.bl (decide (z.pl<=48)&&(decide (z.bk<=500)&&decide (z.dp<=6))),h):=by
 refine Qe (g:=[]) (by simp[Xn]) ?_ rfl
 by_cases a:z.pl<=48
 ·by_cases b:z.bk<=500
  ·simp[Jb,Qw,QiR,Qi5,Qi0,a,b]
  ·simp[Jb,Qw,QiR,Qi5,Qi0,a,b]
 ·simp[Jb,Qw,QiR,Qi5,Qi0,a]
theorem Qce{g:Bool}{x:Str}{l:List Str}{h:MH}:wIn g (.str x) (.tup (l.map .str)) h=some (.bl (if g=true then !decide (x∈l)else decide (x∈l)),h):=by
 rw[Qi8 rfl XE (by simp[dep]) (Nn Qaa (by decide))]
 have:inW (.str x) (l.map .str)=decide (x∈l):=by
  induction l with
  |nil=>rfl
  |cons y l a=>
   unfold inW at a ⊢;rw[NK,EW,a];show((y==x) ||_)=_
   by_cases e:y=x
   ·subst e;simp
   ·have b:¬x=y:=fun z=>e z.symm;rw[show(y==x)=false from beq_eq_false_iff_ne.mpr e,OJ,Oz,decide_eq_true_eq,decide_eq_true_eq,Nv];exact⟨.inr,fun z=>z.elim (fun q=>absurd q b) id⟩
 rw[this]
theorem Km{ws:List W}{h:MH}(hw:∀w∈ws,w=.bl true):Yn [.lst ws] h=some (.bl true,h):=by
 have e:ws=(List.replicate ws.length true).map W.bl:=by
  rw[LL];exact List.eq_replicate_iff.mpr ⟨rfl,hw⟩
 rw[e];show((Qer ((List.replicate ws.length true).map W.bl)).map fun bs=>(W.bl (bs.all id),h))=_;rw[U9,OA];congr 3;simp
theorem QcU{c:Nat}{h:MH}(h1:97<=c)(d:c<=122):QJ [.str ⟨#[c]⟩] h=some (.bl true,h):=by
 refine Qe (g:=[]) (by simp) ?_ rfl;have e:Jz wLe wLe (mC (.str "a")) (Qb 0) (mC (.str "z")) [some (.str ⟨#[c]⟩)] []=some (.bl ((!decide (([c]:List Nat)<(("a":Str)).cps.toList))&&!decide ((("z":Str)).cps.toList<([c]:List Nat))),[]):=KM rfl rfl rfl rfl rfl;have b:("a":Str).cps.toList=[97]:=by decide +kernel
 have a:("z":Str).cps.toList=[122]:=by decide +kernel
 have k1:¬([c]:List Nat)<[97]:=fun z=>by
  rcases DF.mp z with q|⟨_,q⟩
  ·omega
  ·exact absurd q (IE _)
 have k2:¬([122]:List Nat)<[c]:=fun z=>by
  rcases DF.mp z with q|⟨_,q⟩
  ·omega
  ·exact absurd q (IE _)
 rw[b,a,decide_eq_false k1,decide_eq_false k2]at e;simp[Zf,Qw,e]
theorem QcF{x:Str}{h:MH}(d:Nm x):Qs [.str x] h=some (.bl true,h):=by
 refine Qe (g:=[]) (by simp) ?_ rfl;have n:=d.lo;have m:=d.hi;have f:x.length<=sizeLine:=Za (by omega)
 have i:=Q3 (fin:=ZH) (mi:=QC (Qb 0)) (cp:=[none]) (me:=Qk 1 QJ (Qa (Qb 0) Qd)) (σ:=[some (.str x)]) (caps:=[]) (h:=[]) (items:=JO x) (fun _=>.bl true) rfl ⟨_,rfl⟩ (fun w hw=>by
  unfold JO at hw;obtain⟨c,o,rfl⟩:=No.mp hw;obtain⟨a,b⟩:=d.sm c o
  simp[QcU a b]) (by unfold JO;simp;exact f)
 have s:Yn [.lst ((JO x).map fun _=>W.bl true)] []=some (.bl true,[]):=Km fun w hw=>by
  obtain⟨_,_,rfl⟩:=No.mp hw;rfl
 have r:wIn true (.str x) (.tup (Qbm keptN)) []=some (.bl true,[]):=by
  unfold Qbm;rw[Qce];simp[d.kp]
 have e:wIn true (.str x) XL []=some (.bl true,[]):=r;simp only[ZH]at i;have q:(1:Int)<=x.length:=by omega
 have p:(x.length:Int)<=8:=by omega
 have e2:(Qr (Jz wLe wLe (mC (.int 1)) (mFn VX (Qa (Qb 0) Qd)) (mC QU))) [some (.str x)] []=some (true,[]):=by
  have t:mFn VX (Qa (Qb 0) Qd) [some (.str x)] []=some (.int x.length,[]):=by simp[f]
  have j:Jz wLe wLe (mC (.int 1)) (mFn VX (Qa (Qb 0) Qd)) (mC QU) [some (.str x)] []=some (.bl (decide ((1:Int)<=x.length)&&decide ((x.length:Int)<=8)),[]):=KM rfl t rfl rfl rfl;rw[decide_eq_true q,decide_eq_true p]at j;simp[j]
 simp[ZP,Qw,i,s,e,e2,QR]
theorem Qa1{es:List Str}{e:W}{h:MH}(d:∀x∈es,Nm x)(l:es.length<=1000):Zg ZH (QC (mSl (Qb 0) (Ju (mC (.int 1))) Jp)) [none] (Z0 0) XI (Qk 1 Qs (Qa (Qb 0) Qd)) [some (.tup (e::es.map .str))] h=some (.lst (List.replicate es.length (.bl true)),h):=by
 have a:mSl (Qb 0) (Ju (mC (.int 1))) Jp [some (.tup (e::es.map .str))] h=some (.tup (es.map .str),h):=by
  have:=VZ (e::es.map W.str) 1;simp at this;simp[this]
 have ei:QC (mSl (Qb 0) (Ju (mC (.int 1))) Jp) [some (.tup (e::es.map .str))] h=some (es.map .str,none,h):=by unfold QC;rw[a];rfl
 have f:=Q3 (fin:=ZH) (mi:=QC (mSl (Qb 0) (Ju (mC (.int 1))) Jp)) (cp:=[none]) (me:=Qk 1 Qs (Qa (Qb 0) Qd)) (σ:=[some (.tup (e::es.map .str))]) (caps:=[]) (h:=h) (items:=es.map .str) (fun _=>.bl true) ei ⟨_,rfl⟩ (fun w hw=>by
  obtain⟨x,c,rfl⟩:=No.mp hw
  simp[QcF (d x c)]) (by simp;exact Za (by omega))
 rw[f,List.map_const',NB];rfl
theorem Qge{n:Nat}{h:MH}:Yn [.lst (List.replicate n (.bl true))] h=some (.bl true,h):=Km fun w hw=>(List.mem_replicate.mp hw).2
theorem Vz{x:Str}{es:List Str}{i:Int}{h:MH}(b:XX Ql x=some i)(f:(es.length:Int)=i)(c:∀y∈es,Nm y)(d:es.length<=1000):Qt [Qg (x::es)] h=some (.bl true,h):=by
 refine Qe (g:=[]) (by simp) ?_ rfl;have m:Qg (x::es)=.tup (.str x::es.map .str):=rfl;have j:=Qa1 (e:=.str x) (h:=[]) c d;have e1:QcP true Ql (.str x) []=some (.bl false,[]):=by unfold QcP;simp[b]
 have e2:QdI Ql (.str x) []=some (.int i,[]):=by unfold QdI;simp[b]
 have a:¬(es.length:Int)+1=0:=by omega
 have l:wNe (.int ((es.length:Int)+1)) (.int (1+i)) []=some (.bl false,[]):=by rw[<-f,Int.add_comm];simp
 rw[m];simp[Z3,Qw,j,Qge,e1,e2,l,a,QR]
theorem Qcw{bs ws la:List Str}{l:Ln}{h:MH}(b:∀x∈bs,Nm x)(hw:∀x∈ws,Nm x)(f:∀x∈la,Nm x)(e:LineOk bs ws la l):Qt [Qg l] h=some (.bl true,h):=by
 cases e with
 |plain e=>
  cases e with
  |pair a d c g=>exact Vz (i:=4) (by decide +kernel) rfl (by simp;exact⟨b _ a,hw _ d,b _ c,b _ g⟩) (by simp)
  |first a c=>exact Vz (i:=2) (by decide +kernel) rfl (by simp;exact⟨b _ a,b _ c⟩) (by simp)
  |second a c=>exact Vz (i:=2) (by decide +kernel) rfl (by simp;exact⟨b _ a,b _ c⟩) (by simp)
  |same a c=>exact Vz (i:=2) (by decide +kernel) rfl (by simp;exact⟨b _ a,b _ c⟩) (by simp)
  |none a=>exact Vz (i:=1) (by decide +kernel) rfl (by simp;exact b _ a) (by simp)
  |tell a=>exact Vz (i:=1) (by decide +kernel) rfl (by simp;exact b _ a) (by simp)
 |«do» a=>exact Vz (i:=1) (by decide +kernel) rfl (by simp;exact f _ a) (by simp)
 |blk a=>
  rcases a with rfl|rfl|rfl|rfl
  all_goals exact Vz (i:=0) (by decide +kernel) rfl (by simp) (by simp)
 |back a=>exact Vz (i:=1) (by decide +kernel) rfl (by simp;exact hw _ a) (by simp)
def Op(x:Str):Prop:=x="either"\/x="again"\/x="or"
theorem Xa{ls:List Ln}{σ:MSt}{h:MH}{x:Str}{r:List Str}{p:List Cd}(F:n<=100000)(D:ls[n]?=some (x::r))(b:XY ((ls.take (n+1)).map cdL) []=some p)
  (H:∃(O:List Str) (o:Option W),σ=[some (.tup (ls.map Qg)),some (.ref 0),o]/\h=[.lst (O.map .str)]/\XY ((ls.take n).map cdL) []=some (O.reverse.map cd)/\(∀y∈O,Op y)/\O.length<=n) :
  ∃σ1,Z0 2 (Qg (x::r)) σ h=some σ1/\∃f d,(QG σ1 h=some (.nx f d)\/QG σ1 h=some (.ct f d))/\∃(O:List Str) (o:Option W),f=[some (.tup (ls.map Qg)),some (.ref 0),o]/\d=[.lst (O.map .str)]/\XY ((ls.take (n+1)).map cdL) []=some (O.reverse.map cd)/\(∀y∈O,Op y)/\O.length<=n+1:=by
 obtain⟨O,o,rfl,rfl,E,l,m⟩:=H;refine⟨_,rfl,?_⟩;have C:ls.take (n+1)=ls.take n++[x::r]:=by rw[Dh,D];rfl
 have a:kst (cd x) (O.reverse.map cd)=some p:=by
  rw[C,Qdf,JK,E]at b;have d:(kst (cd x) (O.reverse.map cd)).bind (XY [])=some p:=b;cases e:kst (cd x) (O.reverse.map cd)with
  |none=>rw[e]at d;cases d
  |some u=>rw[e]at d;cases d;rfl
 have s:O.length<sizeLine:=QeQ (by omega)
 rcases KP (x:=x)with⟨rfl,c⟩|⟨rfl,c⟩|⟨rfl,c⟩|⟨rfl,c⟩|⟨⟨A,w,v,t⟩,c⟩
 ·rw[c]at a;cases a;refine⟨[some (.tup (ls.map Qg)),some (.ref 0),some (Qg ("either"::r))],[.lst ((O++[("either":Str)]).map .str)],.inl ?_,_,_,rfl,rfl,?_,WG l (.inl rfl),by simp;omega⟩
  ·simp[s]
  ·rw[b,XC,c]
 ·rw[c]at a;cases a;refine⟨[some (.tup (ls.map Qg)),some (.ref 0),some (Qg ("again"::r))],[.lst ((O++[("again":Str)]).map .str)],.inl ?_,_,_,rfl,rfl,?_,WG l (.inr (.inl rfl)),by simp;omega⟩
  ·simp[s]
  ·rw[b,XC,c]
 ·rw[c]at a;have i:O≠[]:=by rintro rfl;cases a
  obtain⟨q,y,rfl⟩:=QhO O i;rw[XC]at a;simp only[kst]at a;split at a
  ·rename_i j;cases a
   have g:y="either":=by
    rcases l y (by simp)with z|z|z
    ·exact z
    ·rw[z,Gv]at j;cases j
    ·rw[z,Qik]at j;cases j
   subst g;refine⟨[some (.tup (ls.map Qg)),some (.ref 0),some (Qg ("or"::r))],[.lst ((q++[("or":Str)]).map .str)],.inl ?_,_,_,rfl,rfl,?_,Qgg l (.inr (.inr rfl)),by simp at m ⊢;omega⟩
   ·simp
   ·rw[b,XC,c]
  ·cases a
 ·rw[c]at a;have i:O≠[]:=by rintro rfl;cases a
  obtain⟨q,y,rfl⟩:=QhO O i;rw[XC]at a;simp only[kst]at a;split at a
  ·cases a
  ·rename_i j;cases a;have g:y≠"either":=fun z=>j (by rw[z,Ui]);refine⟨[some (.tup (ls.map Qg)),some (.ref 0),some (Qg ("end"::r))],[.lst (q.map .str)],.inl ?_,_,_,rfl,rfl,b,fun z B=>l z (N7 _ B),by simp at m;omega⟩;simp[g]
 ·rw[c]at a;cases a;refine⟨[some (.tup (ls.map Qg)),some (.ref 0),some (Qg (x::r))],[.lst (O.map .str)],.inl ?_,_,_,rfl,rfl,b,l,by omega⟩;simp[A,w,v,t]
theorem QdE{ls:List Ln}{h:MH}(q:XY (ls.map cdL) []=some [])(B:ls.length<=70000)(u:∀l∈ls,∃x r,l=x::r):QX [.tup (ls.map Qg)] h=some (.bl true,h):=by
 have a:=JC (items:=ls.map Qg) (b:=Z0 2) (body:=QG) (fun n i h=>∃(O:List Str) (c:Option W),i=[some (.tup (ls.map Qg)),some (.ref 0),c]/\h=[.lst (O.map .str)]/\XY ((ls.take n).map cdL) []=some (O.reverse.map cd)/\(∀y∈O,Op y)/\O.length<=n) (ls.map Qg) 0 [some (.tup (ls.map Qg)),some (.ref 0),none] [.lst []] ⟨[],none,rfl,rfl,rfl,by simp,by simp⟩ (fun j w p i h H=>by
  rw[Nu]at p;obtain⟨l,f,rfl⟩:=Nf.mp p;rw[N1]at H ⊢;obtain⟨x,r,rfl⟩:=u l (NN f);have s:=q;rw[<-Ep (j+1) ls,NW]at s;obtain⟨A,d⟩:=Wr s
  exact Xa (by have:=(Nj.mp f).1;omega) f d H)
 obtain⟨t,C,e,O,c,rfl,rfl,m,_,_⟩:=a;rw[NB,N1,EK,q]at m
 have v:O=[]:=by
  have:=congrArg (fun o=>o.map List.length) m;simp at this;exact NT.mp this.symm
 subst v;refine Qe (g:=[.lst []]) (by simp) ?_ rfl;have ei:QC (Qb 0) [some (.tup (ls.map Qg)),some (.ref 0),none] [.lst []]=some (ls.map Qg,none,[.lst []]):=rfl
 have z:VO (QC (Qb 0)) (Z0 2) QG [some (.tup (ls.map Qg)),some (.ref 0),none] [.lst []]=some (.nx [some (.tup (ls.map Qg)),some (.ref 0),c] [.lst []]):=by
  unfold VO;rw[ei,Nq];exact e
 simp[ZA,Qw,z]
theorem Qbr{bs ws la:List Str}{x:Pt}{h:MH}(p:∀x∈bs,Nm x)(hw:∀x∈ws,Nm x)(c:∀x∈la,Nm x)(n:Nm x.1)(i:∀l∈x.2,LineOk bs ws la l)(a:XY (x.2.map cdL) []=some [])(o:x.2.length<=70000):Qi [Qn x] h=some (.bl true,h):=by
 refine Qe (g:=[]) (by simp[Qn]) ?_ rfl
 have j:=Q3 (fin:=ZH) (mi:=QC (Qc wIx (Qb 0) (mC (.int 1)))) (cp:=[none]) (me:=Qk 1 Qt (Qa (Qb 0) Qd)) (σ:=[some (Qn x)]) (caps:=[]) (h:=[]) (items:=x.2.map Qg) (fun _=>.bl true) (by unfold QC;simp;rfl) ⟨_,rfl⟩ (fun w b=>by
  obtain⟨l,d,rfl⟩:=No.mp b
  simp[Qcw p hw c (i l d)]) (by simp;exact Za (by omega))
 have r:Yn [.lst ((x.2.map Qg).map fun _=>W.bl true)] []=some (.bl true,[]):=Km fun w hw=>by
  obtain⟨_,_,rfl⟩:=No.mp hw;rfl
 simp only[ZH]at j;have f:=QdE (h:=[]) a o fun l d=>Uh (i l d);have q:∀h,VX [Qn x] h=some (.int 2,h):=fun h=>by unfold Qn;simp
 have ei:UD [Qn x,.ty "tuple"] []=some (.bl true,[]):=by unfold Qn;simp[QR]
 have e:UD [.tup (x.2.map Qg),.ty "tuple"] []=some (.bl true,[]):=by simp[QR]
 simp[Zb,Qw,-EG,j,r,f,q,ei,e,QcF n]
end My
namespace St
theorem Qhe(ks:List Str):∃ss:List Str,ss.Perm ks/\sortedS ss=true:=by
 refine⟨ks.mergeSort (fun a b=>decide (a.cps.toList<=b.cps.toList)),List.mergeSort_perm _ _,?_⟩;apply sortedS_of_pairwise
 have:=List.pairwise_mergeSort (le:=fun a b:Str=>decide (a.cps.toList<=b.cps.toList)) (fun a b c e d=>by
  rw[decide_eq_true_eq]at *;exact OH e d) (fun a b=>by
  rw[Dd,decide_eq_true_eq,decide_eq_true_eq]
  exact List.le_total _ _) ks
 exact this.imp fun h=>le_of_lt.mpr (by simpa using h)
theorem srt_spec(ks:List Str):(srt ks).Perm ks/\sortedS (srt ks)=true:=by
 obtain⟨a,p,h⟩:=Qhe ks;rw[srt_eq p h];exact⟨p,h⟩
end St
namespace My
open L2 Mi My3 My4
noncomputable def als(p:List Pt):List Ln:=p.flatMap (·.2)
theorem QeA{N:Nat}:∀{p:List Pt},(∀x∈p,x.2.length<=N)->(als p).length<=p.length*N
 |[],_=>by simp[als]
 |x::p,h=>by
  have h1:=h x Nr;have b:=QeA (p:=p) fun y a=>h y (Np _ a);simp only[als,L9,NC,Es]at b ⊢;rw[Nat.add_mul];omega
theorem GA{p:List Pt}{h:MH}(r:(als p).length<=100000):Qo [Qx p] h=some (.lst ((als p).map Qg),h):=by
 have a:=JC (items:=p.map Qn) (b:=Z0 2) (body:=J5) (fun j f h=>∃c,f=[some (Qx p),some (.ref 0),c]/\h=[.lst ((als (p.take j)).map Qg)]) (p.map Qn) 0 [some (Qx p),some (.ref 0),none] [.lst []] ⟨none,rfl,by simp[als]⟩ (by
  rintro j w l f h ⟨c,rfl,rfl⟩
  rw[Nu]at l;obtain⟨x,n,rfl⟩:=Nf.mp l;rw[N1]at *
  have i:als (p.take (j+1))=als (p.take j)++x.2:=by
   rw[Dh,n];simp[als]
  have d:(als (p.take j)).length+x.2.length<=sizeLine:=by
   have o:als p=als (p.take (j+1))++als (p.drop (j+1)):=by simp only[als];rw[<-Lu,Ep]
   have:=congrArg List.length o;rw[i]at this;simp only[NC]at this;exact Za (by omega)
  refine⟨_,rfl,[some (Qx p),some (.ref 0),some (Qn x)],[.lst ((als (p.take (j+1))).map Qg)],.inl ?_,_,rfl,rfl⟩;rw[i]
  simp[d])
 obtain⟨m,s,e,c,rfl,rfl⟩:=a;rw[NB,N1,EK]at e;have ei:QC (Qb 0) [some (Qx p),some (.ref 0),none] [.lst []]=some (p.map Qn,none,[.lst []]):=rfl
 have q:VO (QC (Qb 0)) (Z0 2) J5 [some (Qx p),some (.ref 0),none] [.lst []]=some (.nx [some (Qx p),some (.ref 0),c] [.lst ((als p).map Qg)]):=by
  unfold VO;rw[ei,Nq];exact e
 refine YK (j:=0) (g:=[.lst ((als p).map Qg)]) (by simp) ?_ rfl (by simp);simp[Vv,Qw,q]
noncomputable def bxs:Ln->List Str
 |x::r=>if x="pair"then[r.getD 0 "",r.getD 2 "",r.getD 3 ""]else if x∈[("first":Str),"second","same","none","tell"]then r else[]
 |[]=>[]
theorem Qcc{bs ws la:List Str}{l:Ln}{h:MH}(d:LineOk bs ws la l):Z2 [Qg l] h=some (.lst ((bxs l).map .str),h)/\(∀y∈bxs l,y∈bs)/\(bxs l).length<=3:=by
 have c:∀x:Str,∀h,wIn false (.str x) (.tup [.str "first",.str "second",.str "same",.str "none",.str "tell"]) h=some (.bl (decide (x∈[("first":Str),"second","same","none","tell"])),h):=fun x h=>Qce (g:=false) (x:=x) (l:=["first","second","same","none","tell"]) (h:=h)
 have j:∀(x:Str) (r:List Str) (h:MH),wSl (.tup (.str x::r.map .str)) (some 1) none h=some (.tup (r.map .str),h):=fun x r h=>by
  have:=VZ (W.str x::r.map W.str) 1;simp at this;simp[this]
 have one:∀(x:Str) (r:List Str),x≠"pair"->x∈[("first":Str),"second","same","none","tell"]->Z2 [Qg (x::r)] h=some (.lst (r.map .str),h):=fun x r f e=>by
  refine Qe (g:=[]) (by simp) ?_ (by simp);have i:Qg (x::r)=.tup (.str x::r.map .str):=rfl;rw[i];have o:Uu [.tup (r.map .str)] []=some (.lst (r.map .str),[]):=rfl;simp[Je,Qw,f,c,e,j,o,-Nv]
 have non:∀(x:Str) (r:List Str),x≠"pair"->x∉[("first":Str),"second","same","none","tell"]->Z2 [Qg (x::r)] h=some (.lst [],h):=fun x r f e=>by
  refine Qe (g:=[]) (by simp) ?_ (by simp);have i:Qg (x::r)=.tup (.str x::r.map .str):=rfl;rw[i];simp[Je,Qw,f,c,e,-Nv]
 cases d with
 | plain d=>
  cases d with
  |pair a n b m=>
   refine⟨?_,by simp[bxs];exact⟨a,b,m⟩,by simp[bxs]⟩;refine Qe (g:=[]) (by simp) ?_ (by simp[bxs]);simp[Je,Qw,Qg,bxs]
  |first a b=>exact⟨one _ _ (by decide) (by decide),by simp[bxs];exact⟨a,b⟩,by simp[bxs]⟩
  |second a b=>exact⟨one _ _ (by decide) (by decide),by simp[bxs];exact⟨a,b⟩,by simp[bxs]⟩
  |same a b=>exact⟨one _ _ (by decide) (by decide),by simp[bxs];exact⟨a,b⟩,by simp[bxs]⟩
  |none a=>exact⟨one _ _ (by decide) (by decide),by simp[bxs];exact a,by simp[bxs]⟩
  |tell a=>exact⟨one _ _ (by decide) (by decide),by simp[bxs];exact a,by simp[bxs]⟩
 |«do» a=>exact⟨non _ _ (by decide) (by decide),by simp[bxs],by simp[bxs]⟩
 |blk a=>
  rcases a with rfl|rfl|rfl|rfl
  all_goals exact⟨non _ _ (by decide) (by decide),by simp[bxs],by simp[bxs]⟩
 |back a=>exact⟨non _ _ (by decide) (by decide),by simp[bxs],by simp[bxs]⟩
theorem Gk{a:W}{ss:List Str}{h:MH}(b:lsW h a=some (ss.map .str))(h1:ss.length<4000)(c:(St.uniq ss).length<64):VQ [a] h=some (.ref h.length,h++[.lst ((St.srt (St.uniq ss)).map .str)]):=by
 unfold VQ;simp only[b,Nq,K9];rw[if_pos ⟨h1,c⟩]
theorem GX:∀(a b:List Str),a.Nodup->(∀y∈a,y∈b)->a.length<=b.length
 |[],b,_,_=>Ei _
 |k::r,b,c,h=>by
  have e:=h k Nr;rw[Ek]at c;have:=GX r (b.erase k) c.2 fun y d=>(FD (fun z=>c.1 (by rw[<-z];exact d))).mpr (h y (Np _ d));rw[DZ e]at this;have:=IL e;rw[Es];omega
theorem KG{l bs:List Str}(h:∀y∈l,y∈bs):(St.uniq l).length<=bs.length:=GX _ bs (St.uniq_nd _ l rfl) fun y a=>h y ((St.uniq_mem _ _ rfl y).mp a)
theorem Qb2(l:List Str):(St.srt l).length=l.length:=(St.srt_spec l).1.length_eq
theorem Qec{f:Ln->List Str}:∀{ls:List Ln},(∀l∈ls,(f l).length<=3)->(ls.flatMap f).length<=3*ls.length
 |[],_=>by simp
 |l::ls,h=>by
  have h1:=h l Nr;have b:=Qec (ls:=ls) fun y a=>h y (Np _ a);simp only[L9,NC,Es]at b ⊢;omega
section
variable{N:Nat}{bs ws:List Str}{p:List Pt}
theorem W8(d:GoodP N bs ws p):∀l∈als p,∃la,LineOk bs ws la l:=fun l a=>by
 obtain⟨x,b,a⟩:=Io.mp a;obtain⟨i,c⟩:=ND.mp b;exact⟨_,d.ok i x c l a⟩
theorem QeV(o:GoodP N bs ws p)(G:(als p).length<=1000)(B:bs.length<=60):∃ss:List Str,ss.length<=bs.length/\(∀y∈(als p).flatMap bxs,y∈ss)/\∀h,V9 [Qx p] h=some (.lst (ss.map .str),h):=by
 have x:∀j,(((als p).take j).flatMap bxs).length<=3*(als p).length:=fun j=>Nn (Qec fun l c=>by
  obtain⟨t,i⟩:=W8 o l (El c)
  exact(Qcc (h:=[]) i).2.2) (by rw[Ef];omega)
 have d:=JC (items:=(als p).map Qg) (b:=Z0 2) (body:=Vl) (fun j s h=>∃m,s=[some (Qx p),some (.ref 0),m]/\h=[.lst ((((als p).take j).flatMap bxs).map .str)]) ((als p).map Qg) 0 [some (Qx p),some (.ref 0),none] [.lst []] ⟨none,rfl,by simp⟩ (by
  rintro j w v s h ⟨m,rfl,rfl⟩
  rw[Nu]at v;obtain⟨l,c,rfl⟩:=Nf.mp v;rw[N1];have u:((als p).take (j+1)).flatMap bxs=((als p).take j).flatMap bxs++bxs l:=by rw[Dh,c,Lu];simp
  obtain⟨t,i⟩:=W8 o l (NN c);have E:∀h,Z2 [Qg l] h=some (.lst ((bxs l).map .str),h):=fun h=>(Qcc i).1
  have n:((((als p).take j).flatMap bxs).map W.str).length+((bxs l).map W.str).length<=sizeLine:=by
   have C:=x (j+1);rw[u,NC]at C;rw[NB,NB];exact Za (by omega)
  refine⟨_,rfl,[some (Qx p),some (.ref 0),some (Qg l)],[.lst ((((als p).take (j+1)).flatMap bxs).map .str)],.inl ?_,_,rfl,rfl⟩;rw[u,NW];generalize(bxs l).map W.str=Y at *;generalize(((als p).take j).flatMap bxs).map W.str=Z at *
  simp[E,n])
 obtain⟨z,H,e,m,rfl,rfl⟩:=d;rw[NB,N1,EK]at e
 have A:∀y∈(als p).flatMap bxs,y∈bs:=fun y f=>by
  obtain⟨l,c,f⟩:=Io.mp f;obtain⟨t,i⟩:=W8 o l c;exact(Qcc (h:=[]) i).2.1 y f
 have hu:=KG A;have q:=x (als p).length;rw[EK]at q;refine⟨St.srt (St.uniq ((als p).flatMap bxs)),by rw[Qb2];omega,fun y f=>(St.srt_spec _).1.mem_iff.mpr ((St.uniq_mem _ _ rfl y).mpr f),fun h=>?_⟩;have r:∀h,Qo [Qx p] h=some (.lst ((als p).map Qg),h):=fun h=>GA (by omega)
 have ei:QC (Qk 1 Qo (Qa (Qb 0) Qd)) [some (Qx p),some (.ref 0),none] [.lst []]=some ((als p).map Qg,none,[.lst []]):=by
  have e1:Qk 1 Qo (Qa (Qb 0) Qd) [some (Qx p),some (.ref 0),none] [.lst []]=some (.lst ((als p).map Qg),[.lst []]):=by simp[r]
  unfold QC;rw[e1];rfl
 have F:VO (QC (Qk 1 Qo (Qa (Qb 0) Qd))) (Z0 2) Vl [some (Qx p),some (.ref 0),none] [.lst []]=some (.nx [some (Qx p),some (.ref 0),m] [.lst (((als p).flatMap bxs).map .str)]):=by
  unfold VO;rw[ei,Nq];exact e
 have D:=Gk (a:=.ref 0) (ss:=(als p).flatMap bxs) (h:=[.lst (((als p).flatMap bxs).map .str)]) rfl (by omega) (by omega);refine YK (j:=1) (g:=[.lst (((als p).flatMap bxs).map .str),.lst ((St.srt (St.uniq ((als p).flatMap bxs))).map .str)]) (by simp) ?_ rfl (by simp);simp[VJ,Qw,F,D]
theorem Yo{kd:Str}{k:Nat}{Wd:List Str}{ls:List Ln}{mi:MI}{σ:MSt}{h:MH}(F:mi σ h=some (ls.map Qg,none,h))(G:∃o,Qed [none] σ=[o])(L:ls.length<=100000)
  (g:∀l∈ls,∃x r,l=x::r/\(x=kd->∃w,(r.map W.str)[k]?=some (.str w)/\w∈Wd)) :
  ∃ss:List Str,(∀w∈ss,w∈Wd)/\ss.length<=ls.length/\(∀r w,(kd::r:Ln)∈ls->(r.map W.str)[k]?=some (.str w)->w∈ss)/\Zg ZH mi [none] (Z0 0) (Qr (Qc wEq (Qc wIx (Qb 0) (mC (.int 0))) (mC (.str kd)))) (Qc wIx (Qb 0) (mC (.int ((k+1:Nat):Int)))) σ h=some (.lst (ss.map .str),h):=by
 let m:W->Bool:=fun w=>match w with|.tup (.str x::_)=>x==kd|_=>false
 let n:W->W:=fun w=>match w with|.tup ws=>ws.getD (k+1) .non|w=>w
 have H:=KR (fin:=ZH) (mi:=mi) (cp:=[none]) (mt:=Qr (Qc wEq (Qc wIx (Qb 0) (mC (.int 0))) (mC (.str kd)))) (me:=Qc wIx (Qb 0) (mC (.int ((k+1:Nat):Int)))) (σ:=σ) (caps:=[]) (h:=h) (items:=ls.map Qg) n m F G (fun w hw=>by
   obtain⟨l,f,rfl⟩:=No.mp hw;obtain⟨x,r,rfl,_⟩:=g l f;show _=some ((x==kd),h);simp) (fun w hw E=>by
   obtain⟨l,f,rfl⟩:=No.mp hw;obtain⟨x,r,rfl,v⟩:=g l f;have D:x=kd:=by have:(x==kd)=true:=E;simpa using this
   obtain⟨w,d,_⟩:=v D;have I:Qg (x::r)=.tup (.str x::r.map .str):=rfl;have e1:atI (W.str x::r.map W.str) ((k+1:Nat):Int)=some (.str w):=by rw[Zz];simpa using d
   have e2:n (Qg (x::r))=.str w:=by
    show(W.str x::r.map W.str).getD (k+1) .non=_;rw[EI];have:(W.str x::r.map W.str)[k+1]?=some (.str w):=by simpa using d
    rw[this];rfl
   rw[e2,I];push_cast at e1 ⊢
   simp[e1]) (by simp;exact Za (by omega))
 have key:∀ls:List Ln,(∀l∈ls,∃x r,l=x::r/\(x=kd->∃w,(r.map W.str)[k]?=some (.str w)/\w∈Wd))->∃ss:List Str,(∀w∈ss,w∈Wd)/\ss.length<=ls.length/\(∀r w,(kd::r:Ln)∈ls->(r.map W.str)[k]?=some (.str w)->w∈ss)/\((ls.map Qg).filter m).map n=ss.map .str:=by
  intro ls
  induction ls with
  |nil=>intro _;exact⟨[],by simp,by simp,by simp,rfl⟩
  | cons l ls B=>
   intro g;obtain⟨ss,a,b,s,c⟩:=B fun y C=>g y (Np _ C);obtain⟨x,r,rfl,v⟩:=g l Nr
   by_cases z:x=kd
   ·obtain⟨w,d,t⟩:=v z;refine⟨w::ss,by simp;exact⟨t,a⟩,by simp;omega,fun j i u e=>?_,?_⟩
    ·rcases Nv.mp u with q|q
     ·have hr:j=r:=(OK q).2;rw[hr,d]at e;have:w=i:=by injection e with q;injection q
      rw[this];exact Nr
     ·exact Np _ (s j i q e)
    have e1:m (Qg (x::r))=true:=by show(x==kd)=true;simpa using z
    have e2:n (Qg (x::r))=.str w:=by
     show(W.str x::r.map W.str).getD (k+1) .non=_;rw[EI];have:(W.str x::r.map W.str)[k+1]?=some (.str w):=by simpa using d
     rw[this];rfl
    rw[NK,List.filter_cons_of_pos e1,NK,e2,c,NK]
   ·have e1:¬m (Qg (x::r))=true:=by show¬(x==kd)=true;simpa using z
    exact⟨ss,a,by simp;omega,fun j i u e=>(Nv.mp u).elim (fun q=>absurd (OK q).1.symm z) fun q=>s j i q e,by rw[NK,List.filter_cons_of_neg e1,c]⟩
 obtain⟨ss,a,b,s,c⟩:=key ls g;exact⟨ss,a,b,s,by rw[H,c];rfl⟩
end
section
variable{N:Nat}{bs ws:List Str}{p:List Pt}
theorem Qdb{la:List Str}{l:Ln}(h:LineOk bs ws la l):∃x r,l=x::r/\(x="pair"->∃w,(r.map W.str)[1]?=some (.str w)/\w∈ws):=by
 cases h with
 |plain h=>
  cases h with
  |pair c hw b a=>exact⟨_,_,rfl,fun _=>⟨_,rfl,hw⟩⟩
  |_=>exact⟨_,_,rfl,fun z=>absurd z (by decide)⟩
 |«do» h=>exact⟨_,_,rfl,fun z=>absurd z (by decide)⟩
 |blk h=>rcases h with rfl|rfl|rfl|rfl<;>exact⟨_,_,rfl,fun z=>absurd z (by decide)⟩
 |back h=>exact⟨_,_,rfl,fun z=>absurd z (by decide)⟩
theorem QdO{la:List Str}{l:Ln}(h:LineOk bs ws la l):∃x r,l=x::r/\(x="back"->∃w,(r.map W.str)[0]?=some (.str w)/\w∈ws):=by
 cases h with
 |plain h=>cases h<;>exact⟨_,_,rfl,fun z=>absurd z (by decide)⟩
 |«do» h=>exact⟨_,_,rfl,fun z=>absurd z (by decide)⟩
 |blk h=>rcases h with rfl|rfl|rfl|rfl<;>exact⟨_,_,rfl,fun z=>absurd z (by decide)⟩
 |back h=>exact⟨_,_,rfl,fun _=>⟨_,rfl,h⟩⟩
theorem Qcd{la:List Str}{l:Ln}(h:LineOk bs ws la l):∃x r,l=x::r/\(x="do"->∃w,r=[w]/\w∈la):=by
 cases h with
 |plain h=>cases h<;>exact⟨_,_,rfl,fun z=>absurd z (by decide)⟩
 |«do» h=>exact⟨_,_,rfl,fun _=>⟨_,rfl,h⟩⟩
 |blk h=>rcases h with rfl|rfl|rfl|rfl<;>exact⟨_,_,rfl,fun z=>absurd z (by decide)⟩
 |back h=>exact⟨_,_,rfl,fun z=>absurd z (by decide)⟩
theorem Ug{σ:MSt}(a:σ[0]?=some (some (Qx p)))(c:(als p).length<=1000)(h:MH):QC (Qk 1 Qo (Qa (Qb 0) Qd)) σ h=some ((als p).map Qg,none,h):=by
 have b:∀h,Qo [Qx p] h=some (.lst ((als p).map Qg),h):=fun h=>GA (by omega);have e1:Qk 1 Qo (Qa (Qb 0) Qd) σ h=some (.lst ((als p).map Qg),h):=by simp[Qb,a,b]
 unfold QC;rw[e1];rfl
theorem QgD(q:GoodP N bs ws p)(r:(als p).length<=1000)(i:ws.length<=60):∃ss:List Str,(∀w∈ss,w∈ws)/\ss.length<=ws.length/\(∀a w b c,(["pair",a,w,b,c]:Ln)∈als p->w∈ss)/\∀h,Xj [Qx p] h=some (.lst (ss.map .str),h):=by
 obtain⟨ss,d,v,f,e⟩:=Yo (kd:="pair") (k:=1) (Wd:=ws) (ls:=als p) (σ:=[some (Qx p)]) (h:=[]) (Ug rfl r []) ⟨_,rfl⟩ (by omega) fun l o=>by
  obtain⟨y,m⟩:=W8 q l o;exact Qdb m
 have hu:=KG d;refine⟨St.srt (St.uniq ss),fun w hw=>d w ((St.uniq_mem _ _ rfl w).mp ((St.srt_spec _).1.mem_iff.mp hw)),by rw[Qb2];omega,fun a w b c n=>(St.srt_spec _).1.mem_iff.mpr ((St.uniq_mem _ _ rfl w).mpr (f _ _ n rfl)),fun h=>?_⟩;have s:=Gk (a:=.lst (ss.map .str)) (ss:=ss) (h:=[]) rfl (by omega) (by omega);refine YK (j:=0) (g:=[.lst ((St.srt (St.uniq ss)).map .str)]) (by simp) ?_ rfl (by simp);have t:Zg ZH (QC (Qk 1 Qo (Qa (Qb 0) Qd))) [none] (Z0 0) (Qr (Qc wEq (Qc wIx (Qb 0) (mC (.int 0))) (mC (.str "pair")))) (Qc wIx (Qb 0) (mC (.int 2))) [some (Qx p)] []=some (.lst (ss.map .str),[]):=e;simp[VH,Qw,t,s]
theorem QeG{x:Str}{l:List Str}{h:MH}:wIn false (.str x) (.lst (l.map .str)) h=some (.bl (decide (x∈l)),h):=by
 rw[QjP rfl XE (by simp[dep]) (Nn Qaa (by decide))]
 have:inW (.str x) (l.map .str)=decide (x∈l):=by
  induction l with
  |nil=>rfl
  |cons y l a=>
   unfold inW at a ⊢;rw[NK,EW,a];show((y==x) ||_)=_
   by_cases e:y=x
   ·subst e;simp
   ·have b:¬x=y:=fun z=>e z.symm;rw[show(y==x)=false from beq_eq_false_iff_ne.mpr e,OJ,Oz,decide_eq_true_eq,decide_eq_true_eq,Nv];exact⟨.inr,fun z=>z.elim (fun q=>absurd q b) id⟩
 rw[this];rfl
theorem XQ(g:p.length<=100)(r:MSt)(h:MH):Zg ZH (QC (Qb 0)) [none] (Z0 0) XI (Qc wIx (Qb 0) (mC (.int 0))) (some (Qx p)::r) h=some (.lst ((p.map (·.1)).map .str),h):=by
 have c:=Q3 (fin:=ZH) (mi:=QC (Qb 0)) (cp:=[none]) (me:=Qc wIx (Qb 0) (mC (.int 0))) (σ:=some (Qx p)::r) (caps:=[]) (h:=h) (items:=p.map Qn) (fun w=>match w with|.tup (a::_)=>a|w=>w) rfl ⟨_,rfl⟩ (fun w hw=>by
  obtain⟨x,_,rfl⟩:=No.mp hw
  simp[Qn]) (by simp;exact Za (by omega))
 rw[c];simp[Qn,ZH,Dz]
theorem Wz{P:List Pt}{j:Nat}{w:W}(h:(Xo (P.map Qn))[j]?=some w):∃x,P[j]?=some x/\w=.tup [.int j,Qn x]:=by
 unfold Xo at h;rw[Nu,Lf,Nu]at h;cases a:P[j]? with
 |none=>rw[a]at h;cases h
 |some x=>
  rw[a]at h;refine⟨x,rfl,?_⟩;simp at h;rw[<-h]
theorem W1{l:List Str}(h:l.Nodup):St.uniq l=l:=by
 induction l using Qca with
 |nil=>rfl
 |snoc L x a=>
  rw[DA]at h;rw[St.uniq_snoc,a h.1,if_neg fun z=>h.2.2 x z x (by simp) rfl]
theorem Yp{i:Nat}{x:Pt}{f e d:Option W}(c:∀l∈x.2,∃y r,l=y::r/\(y="do"->∃w,r=[w]/\w∈(p.map (·.1)).drop (i+1)))(hN:x.2.length<=100000)(t:p[i]?=some x) :
  ∃σ1,XU [2,3] (.tup [.int (i:Int),Qn x]) [some (Qx p),some (Zd (p.map (·.1))),f,e,d] []=some σ1/\∃a m,(Qu σ1 []=some (.nx a m)\/Qu σ1 []=some (.ct a m))/\∃f e d,a=[some (Qx p),some (Zd (p.map (·.1))),f,e,d]/\m=[]:=by
 have j:∀h,wSl (Zd (p.map (·.1))) (some ((i:Int)+1)) none h=some (Zd ((p.map (·.1)).drop (i+1)),h):=fun h=>Qes rfl;have E:=NN t
 let n:W->Bool:=fun w=>match w with|.tup (.str x::_)=>x=="do"|_=>false
 have o:=KR (fin:=ZH) (mi:=QC (Qc wIx (Qb 3) (mC (.int 1)))) (cp:=[none,some 4]) (mt:=Qr (Qc wEq (Qc wIx (Qb 0) (mC (.int 0))) (mC (.str "do")))) (me:=Qc (wIn false) (Qc wIx (Qb 0) (mC (.int 1))) (Qb 1)) (σ:=[some (Qx p),some (Zd (p.map (·.1))),some (.int i),some (Qn x),some (Zd ((p.map (·.1)).drop (i+1)))]) (caps:=[some (Zd ((p.map (·.1)).drop (i+1)))]) (h:=[]) (items:=x.2.map Qg) (fun _=>.bl true) n (by unfold QC;simp;rfl) ⟨_,rfl⟩ (fun w hw=>by
   obtain⟨l,b,rfl⟩:=No.mp hw;obtain⟨y,r,rfl,_⟩:=c l b;show _=some ((y=="do"),[]);simp) (fun w hw u=>by
   obtain⟨l,b,rfl⟩:=No.mp hw;obtain⟨y,r,rfl,v⟩:=c l b;have s:y="do":=by have:(y==("do":Str))=true:=u;simpa using this
   obtain⟨w,rfl,g⟩:=v s;have:=QeG (x:=w) (l:=(p.map (·.1)).drop (i+1)) (h:=[]);rw[decide_eq_true g]at this;have A:wIn false (.str w) (Zd ((p.map (·.1)).drop (i+1))) []=some (.bl true,[]):=this
   simp[A]) (by simp;exact Za (by omega))
 have z:Yn [.lst (((x.2.map Qg).filter n).map fun _=>W.bl true)] []=some (.bl true,[]):=Km fun w hw=>by
  obtain⟨_,_,rfl⟩:=No.mp hw;rfl
 simp only[ZH]at o;refine⟨[some (Qx p),some (Zd (p.map (·.1))),some (.int i),some (Qn x),d],rfl,[some (Qx p),some (Zd (p.map (·.1))),some (.int i),some (Qn x),some (Zd ((p.map (·.1)).drop (i+1)))],[],.inl ?_,_,_,_,rfl,rfl⟩;simp[j,o,z,-EG]
theorem QaB{h:MH}(i:GoodP N bs ws p)(hN:N<=100000):QB [Qx p] h=some (.bl true,h):=by
 have q:=i.len
 have a:=JC (items:=Xo (p.map Qn)) (b:=XU [2,3]) (body:=Qu) (fun j o h=>∃f d c,o=[some (Qx p),some (Zd (p.map (·.1))),f,d,c]/\h=[]) (Xo (p.map Qn)) 0 [some (Qx p),some (Zd (p.map (·.1))),none,none,none] [] ⟨none,none,none,rfl,rfl⟩ (by
  rintro j w t o h ⟨f,d,c,rfl,rfl⟩
  obtain⟨x,m,rfl⟩:=Wz t
  exact Yp (fun l s=>Qcd (i.ok _ _ m l s)) (Nn (i.sz x (NN m)) hN) m)
 obtain⟨r,y,e,f,d,c,rfl,rfl⟩:=a;have ei:YC (Qa (Qb 0) Qd) [some (Qx p),some (Zd (p.map (·.1))),none,none,none] []=some (Xo (p.map Qn),none,[]):=rfl
 have v:VO (YC (Qa (Qb 0) Qd)) (XU [2,3]) Qu [some (Qx p),some (Zd (p.map (·.1))),none,none,none] []=some (.nx [some (Qx p),some (Zd (p.map (·.1))),f,d,c] []):=by
  unfold VO;rw[ei,Nq];exact e
 have en:=XQ (p:=p) (by omega) [none,none,none,none] [];have hu:=W1 i.nd
 have u:VG [Zd (p.map (·.1))] []=some (.int p.length,[]):=by
  unfold VG Zd;simp only[lsW,Nq,K9];rw[if_pos (by simp;omega),hu];simp
 refine Qe (g:=[]) (by simp) ?_ rfl;have n:Zg ZH (QC (Qb 0)) [none] (Z0 0) XI (Qc wIx (Qb 0) (mC (.int 0))) [some (Qx p),none,none,none,none] []=some (Zd (p.map (·.1)),[]):=en;simp[QV,Qw,n,u,v]
theorem Qbz(P:MSt->Prop)(f:W->W):∀(rest a:List W) (d:MSt),P d->(∀w∈rest,∀d,P d->∃c,b w d h=some c/\P c/\me c h=some (f w,h))->a.length+rest.length<=sizeLine->VB fin items none b XI me rest a d h=fin (a++rest.map f) h
 |[],a,d,_,_,_=>by unfold VB;rw[if_pos (Jc _ _)];simp
 |w::rest,a,d,j,e,m=>by
  have l:a.length+(rest.length+1)<=sizeLine:=by simpa using m
  obtain⟨c,e1,g,e2⟩:=e w Nr d j;unfold VB;rw[if_pos (Jc _ _),e1,Nq];show(some (true,h)).bind _=_;rw[Nq];simp only[e2,Nq];rw[if_pos (by lia),Qbz P f rest (a++[f w]) c g (fun x i=>e x (Np _ i)) (by simp;lia)];simp
theorem QgX(P:MSt->Prop)(f:W->W)(g:mi σ h=some (items,none,h))(i:P (Qed cp σ))(d:∀w∈items,∀c,P c->∃a,b w c h=some a/\P a/\me a h=some (f w,h))(e:items.length<=sizeLine):Zg fin mi cp b XI me σ h=fin (items.map f) h:=by
 unfold Zg;rw[g,Nq];rw[Qbz P f items [] _ i d (by simpa using e)];simp
noncomputable def smB(z:Sz):Bool:=decide (z.pl<=48)&&(decide (z.bk<=500)&&decide (z.dp<=6))
theorem K7{l:List a}{f:a->Bool}{h:MH}:Yn [.lst (l.map fun x=>W.bl (f x))] h=some (.bl (l.all f),h):=by
 show((Qer (l.map fun x=>W.bl (f x))).map fun bs=>(W.bl (bs.all id),h))=_;rw[U9,OA];congr 3;simp
noncomputable def unS(v:W):Str:=match v with|.str s=>s|_=>""
noncomputable def unL(l:W):Ln:=match l with|.tup ws=>ws.map unS|_=>[]
noncomputable def bOf(f:Pt->Bool)(w:W):W:=match w with|.tup [.str x,.tup a]=>.bl (f (x,a.map unL))|_=>.bl false
theorem QbO{f:Pt->Bool}{x:Pt}:bOf f (Qn x)=.bl (f x):=by
 obtain⟨a,b⟩:=x
 have e:(b.map Qg).map unL=b:=by
  rw[EG]
  conv=>rhs;rw[<-List.map_id b]
  apply FH;intro l _;show(l.map W.str).map unS=l;rw[EG]
  conv=>rhs;rw[<-List.map_id l]
  rfl
 show W.bl (f (a,(b.map Qg).map unL))=_;rw[e]
theorem Qiu{x:Pt}(o:GoodP N bs ws p)(hx:p[0]?=some x)(Q:(als p).length<=1000)(P:bs.length<=60)(aa:ws.length<=15) :
  ∃H G:Nat,H<=bs.length/\G<=ws.length/\(∀L:List Str,L.Nodup->(∀y∈L,y∈(als p).flatMap bxs)->L.length<=H)/\(∀L:List Str,L.Nodup->(∀y∈L,(∃a b c,(["pair",a,y,b,c]:Ln)∈als p)\/(["back",y]:Ln)∈als p)->L.length<=G) /\
   ∀h,ZQ [Qx p] h=some (.bl (decide (H<=5)&&(decide (G<=5)&&(decide ((szw (sd (p.drop 1)) x.2).wy<=24)&&(smB (szw (sd (p.drop 1)) x.2)&&p.all fun y=>smB (szw [] y.2))))),h):=by
 obtain⟨B,hB,U,u⟩:=QeV o Q P;obtain⟨Wo,s,ab,R,D⟩:=QgD o Q (by omega)
 obtain⟨d,Y,s2,s3,eb⟩:=Yo (kd:="back") (k:=0) (Wd:=ws) (ls:=als p) (σ:=[some (Qx p),none,none]) (h:=[]) (Ug rfl Q []) ⟨_,rfl⟩ (by omega) fun l O=>by
  obtain⟨la,ho⟩:=W8 o l O;exact QdO ho
 have m:Zg ZH (QC (Qk 1 Qo (Qa (Qb 0) Qd))) [none] (Z0 0) (Qr (Qc wEq (Qc wIx (Qb 0) (mC (.int 0))) (mC (.str "back")))) (Qc wIx (Qb 0) (mC (.int 1))) [some (Qx p),none,none] []=some (.lst (d.map .str),[]):=eb;have u1:=KG s;have u2:=KG Y;have u3:(St.uniq (Wo++d)).length<=ws.length:=KG fun y n=>(NI.mp n).elim (s y) (Y y)
 have A:GD [.lst (Wo.map .str),.lst (d.map .str)] []=some (.int (St.uniq (Wo++d)).length,[]):=by
  unfold GD;simp only[lsW,Nq,K9];rw[if_pos ⟨by omega,by omega,by omega⟩]
 refine⟨B.length,(St.uniq (Wo++d)).length,hB,u3,fun L T M=>GX L B T fun y n=>U y (M y n),fun L T M=>GX L _ T fun y n=>(St.uniq_mem _ _ rfl y).mpr (NI.mpr ((M y n).elim (fun⟨a,b,c,q⟩=>.inl (R _ _ _ _ q)) fun q=>.inr (s3 _ _ q rfl))),fun h=>?_⟩;have C:∀h,JI [Qx p] h=some (Xn (szw (sd (p.drop 1)) x.2),h):=fun h=>Qd4 o hx;generalize hS:szw (sd (p.drop 1)) x.2=S at C;have es:∀z h,Z5 [Xn z] h=some (.bl (smB z),h):=fun z h=>QfQ
 have X:=QgX (fin:=ZH) (mi:=QC (Qb 0)) (cp:=[none,none]) (b:=XU [0,1]) (me:=Qk 1 Z5 (Qa (Qk 1 JD (Qa (Qb 1) Qd)) Qd)) (σ:=[some (Qx p),some (.lst (d.map .str)),some (Xn S)]) (h:=[]) (items:=p.map Qn) (fun F=>F.length=2) (bOf fun y=>smB (szw [] y.2)) rfl rfl (fun w hw F J=>by
  obtain⟨y,n,rfl⟩:=No.mp hw;obtain⟨i,hi⟩:=ND.mp n;have eo:∀h,JD [.tup (y.2.map Qg)] h=some (Xn (szw [] y.2),h):=fun h=>Qfp fun l O=>QgH (o.ok i y hi l O);rw[QbO]
  match F,J with
  |[a,b],_=>exact⟨[some (.str y.1),some (.tup (y.2.map Qg))],rfl,rfl,by simp[eo,es]⟩) (by simp;have:=o.len;exact Za (by omega))
 have em:(p.map Qn).map (bOf fun y=>smB (szw [] y.2))=p.map fun y=>W.bl (smB (szw [] y.2)):=by rw[EG];exact FH fun y _=>QbO
 simp only[ZH]at X;rw[em]at X;have t:Yn [.lst (p.map fun y=>W.bl (smB (szw [] y.2)))] []=some (.bl (p.all fun y=>smB (szw [] y.2)),[]):=K7;refine Qe (g:=[]) (by simp) ?_ rfl
 by_cases r:(5:Int)<B.length
 ·have j:¬B.length<=5:=by omega
  simp[QN,Qw,u,r,j]
 have j:B.length<=5:=by omega
 by_cases v:(5:Int)<(St.uniq (Wo++d)).length
 ·have f:¬(St.uniq (Wo++d)).length<=5:=by omega
  simp[QN,Qw,u,m,D,A,r,v,f]
 have f:(St.uniq (Wo++d)).length<=5:=by omega
 by_cases I:(24:Int)<S.wy
 ·have e:¬S.wy<=24:=by omega
  simp[QN,Qw,u,m,D,A,r,v,C,Qi6,I,e]
 have e:S.wy<=24:=by omega
 have E:=es S [];cases Z:smB S with
 |false=>rw[Z]at E;simp[QN,Qw,u,m,D,A,r,v,C,Qi6,I,E,j,f,e]
 |true=>rw[Z]at E;simp[QN,Qw,u,m,D,A,r,v,C,Qi6,I,E,X,t,j,f,e,-EG,-NP]
end
section
variable{N:Nat}{bs ws:List Str}{p:List Pt}
theorem Xl{us:List W}{h:MH}:UD [.tup us,.ty "tuple"] h=some (.bl true,h):=by simp[QR]
theorem Qbp{us:List W}(hu:us.length<=1000):Qr (Jz wLe wLe (mC (.int 1)) (mFn VX (Qa (Qb 0) Qd)) (mC ZB)) [some (.tup us)] []=some (decide (1<=us.length)&&decide (us.length<=5),[]):=by
 have d:mFn VX (Qa (Qb 0) Qd) [some (.tup us)] []=some (.int us.length,[]):=by simp
 have a:Jz wLe wLe (mC (.int 1)) (mFn VX (Qa (Qb 0) Qd)) (mC ZB) [some (.tup us)] []=some (.bl (decide ((1:Int)<=us.length)&&decide ((us.length:Int)<=5)),[]):=KM rfl d rfl rfl rfl;have c:decide ((1:Int)<=us.length)=decide (1<=us.length):=by congr 1;simp;omega
 have b:decide ((us.length:Int)<=5)=decide (us.length<=5):=by congr 1;simp;omega
 rw[c,b]at a;simp[a]
theorem Wf{us:List W}{f:W->Bool}{b:Bool}{h:MH}(m:QQ us=true)(h1:1<=us.length)(q:us.length<=5)(n:∀w∈us,∀h,Qi [w] h=some (.bl (f w),h))(o:us.all f=true->∃r k,(∀h,QB [.tup us] h=some (.bl r,h))/\(r=true->∀h,ZQ [.tup us] h=some (.bl k,h))/\b=(r&&k))(i:us.all f=false->b=false):Qh [.tup us] h=some (.bl b,h):=by
 have e:=Q3 (fin:=ZH) (mi:=QC (Qb 0)) (cp:=[none]) (me:=Qk 1 Qi (Qa (Qb 0) Qd)) (σ:=[some (.tup us)]) (caps:=[]) (h:=[]) (items:=us) (fun w=>.bl (f w)) rfl ⟨_,rfl⟩ (fun w hw=>by simp[n w hw]) (Za (by omega));simp only[ZH]at e;have a:Yn [.lst (us.map fun w=>W.bl (f w))] []=some (.bl (us.all f),[]):=K7;have d:=Qbp (us:=us) (by omega);rw[decide_eq_true h1,decide_eq_true q]at d;have ei:=Xl (us:=us) (h:=[]);refine Qe (g:=[]) (by unfold QQ pur;simp[m,QQ]) ?_ rfl;cases c:us.all f with
 |false=>
  rw[i c];rw[c]at a;simp[Q1,Qw,ei,d,e,a,-NP,-Eh]
 |true=>
  obtain⟨r,k,j,s,rfl⟩:=o c;rw[c]at a;cases r with
  |false=>simp[Q1,Qw,ei,d,e,a,j,-NP,-Eh]
  |true=>simp[Q1,Qw,ei,d,e,a,j,s rfl,-NP,-Eh]
theorem Qbq{us:List W}{f:W->Bool}{h:MH}(a:QQ us=true)(h1:1<=us.length)(d:us.length<=5)(b:∀w∈us,∀h,Qi [w] h=some (.bl (f w),h))(c:us.all f=false):Qh [.tup us] h=some (.bl false,h):=
 Wf a h1 d b (fun z=>absurd (z.symm.trans c) (by decide)) fun _=>rfl
theorem YJ{us:List W}{h:MH}(b:QQ us=true)(c:us.length<=1000)(h1:us.length=0\/5<us.length):Qh [.tup us] h=some (.bl false,h):=by
 have a:=Qbp c;have ei:=Xl (us:=us) (h:=[])
 have:(decide (1<=us.length)&&decide (us.length<=5))=false:=by
  rw[EL]
  rcases h1 with z|z
  ·exact .inl (decide_eq_false (by omega))
  ·exact .inr (decide_eq_false (by omega))
 rw[this]at a;refine Qe (g:=[]) (by unfold QQ pur;simp[b,QQ]) ?_ rfl;simp[Q1,Qw,ei,a]
def noT(w:W):Prop:=pur w=true/\∀h,UD [w,.ty "tuple"] h=some (.bl false,h)
theorem Qd3{w:W}{h:MH}(hw:noT w):Qh [w] h=some (.bl false,h):=by
 refine Qe (g:=[]) (by unfold QQ;simp[hw.1,QQ]) ?_ rfl;simp[Q1,Qw,hw.2]
theorem QdK{w:W}{h:MH}(hw:noT w):Qi [w] h=some (.bl false,h):=by
 refine Qe (g:=[]) (by unfold QQ;simp[hw.1,QQ]) ?_ rfl;simp[Zb,Qw,hw.2]
theorem Qd2{w:W}{h:MH}(hw:noT w):Qt [w] h=some (.bl false,h):=by
 refine Qe (g:=[]) (by unfold QQ;simp[hw.1,QQ]) ?_ rfl;simp[Z3,Qw,hw.2]
theorem KH{us:List W}(a:QQ us=true):noT (.lst us):=⟨by unfold pur;exact a,fun h=>by simp[QR]⟩
theorem WE{x:Str}:noT (.str x):=⟨rfl,fun h=>by simp[QR]⟩
theorem UT{x:Int}:noT (.int x):=⟨rfl,fun h=>by simp[QR]⟩
theorem Wb:noT .non:=⟨rfl,fun h=>by simp[QR]⟩
theorem QhM{b:Bool}:noT (.bl b):=⟨rfl,fun h=>by simp[QR]⟩
theorem QjT:QQ (p.map Qn)=true:=by simp
theorem Yw(c:GoodP N bs ws p)(hN:N<=70000)(j:∀x∈bs,Nm x)(hw:∀x∈ws,Nm x)(d:∀x∈p,Nm x.1):∀w∈p.map Qn,∀h,Qi [w] h=some (.bl ((fun _=>true) w),h):=fun w b h=>by
 obtain⟨y,a,rfl⟩:=No.mp b;obtain⟨i,g⟩:=ND.mp a
 exact Qbr j hw (la:=(p.map (·.1)).drop (i+1)) (fun z e=>by
   obtain⟨q,f,rfl⟩:=No.mp (Eu e)
   exact d q f) (d y a) (c.ok i y g) (c.bal y a) (Nn (c.sz y a) hN)
theorem QiK{x:Pt}(i:GoodP N bs ws p)(hN:N<=70000)(n:p[0]?=some x)(r:(als p).length<=1000)(m:bs.length<=60)(j:ws.length<=15)(q:∀x∈bs,Nm x)(hw:∀x∈ws,Nm x)(o:∀x∈p,Nm x.1) :
  ∃e d:Nat,e<=bs.length/\d<=ws.length/\(∀L:List Str,L.Nodup->(∀y∈L,y∈(als p).flatMap bxs)->L.length<=e)/\(∀L:List Str,L.Nodup->(∀y∈L,(∃a b c,(["pair",a,y,b,c]:Ln)∈als p)\/(["back",y]:Ln)∈als p)->L.length<=d) /\
   ∀h,Qh [Qx p] h=some (.bl (decide (e<=5)&&(decide (d<=5)&&(decide ((szw (sd (p.drop 1)) x.2).wy<=24)&&(smB (szw (sd (p.drop 1)) x.2)&&p.all fun y=>smB (szw [] y.2))))),h):=by
 obtain⟨e,d,w,v,u,t,s⟩:=Qiu i n r m j;refine⟨e,d,w,v,u,t,fun h=>?_⟩;have g:=i.len;have l:=List.length_pos_iff.mpr i.ne;exact Wf (us:=p.map Qn) (f:=fun _=>true) QjT (by rw[NB];exact l) (by rw[NB];exact g) (Yw i hN q hw o) (fun _=>⟨true,_,fun h=>QaB i (by omega),fun _ h=>s h,by simp⟩) (fun z=>by simp at z)
end
theorem QhZ{c:Nat}{h:MH}:QJ [.str ⟨#[c]⟩] h=some (.bl (decide (97<=c)&&decide (c<=122)),h):=by
 refine Qe (g:=[]) (by simp) ?_ rfl;have e:Jz wLe wLe (mC (.str "a")) (Qb 0) (mC (.str "z")) [some (.str ⟨#[c]⟩)] []=some (.bl ((!decide (([c]:List Nat)<(("a":Str)).cps.toList))&&!decide ((("z":Str)).cps.toList<([c]:List Nat))),[]):=KM rfl rfl rfl rfl rfl;have f:("a":Str).cps.toList=[97]:=by decide +kernel
 have d:("z":Str).cps.toList=[122]:=by decide +kernel
 have one:∀a b:Nat,(!decide (([a]:List Nat)<[b]))=decide (b<=a):=fun a b=>by
  by_cases z:a<b
  ·rw[decide_eq_true (DF.mpr (.inl z)),decide_eq_false (by omega)];rfl
  ·have:¬([a]:List Nat)<[b]:=fun q=>by
    rcases DF.mp q with q|⟨_,q⟩
    ·exact z q
    ·exact absurd q (IE _)
   rw[decide_eq_false this,decide_eq_true (by omega)];rfl
 rw[f,d,one,one]at e;simp[Zf,Qw,e]
noncomputable def nmB(x:Str):Bool:=(decide (1<=x.length)&&decide (x.length<=8))&&(x.cps.toList.all (fun c=>decide (97<=c)&&decide (c<=122))&&!decide (x∈keptN))
theorem nm_iff{x:Str}:nmB x=true↔Nm x:=by
 unfold nmB;simp only[NH,decide_eq_true_eq,NP,L3,decide_eq_false_iff_not];exact⟨fun⟨⟨a,b⟩,c,d⟩=>⟨a,b,c,d⟩,fun h=>⟨⟨h.lo,h.hi⟩,h.sm,h.kp⟩⟩
theorem Qfq{x:Str}{h:MH}(u:x.length<=1000):Qs [.str x] h=some (.bl (nmB x),h):=by
 refine Qe (g:=[]) (by simp) ?_ rfl;have i:x.length<=sizeLine:=Za (by omega);have p:mFn VX (Qa (Qb 0) Qd) [some (.str x)] []=some (.int x.length,[]):=by simp[i]
 have a:Jz wLe wLe (mC (.int 1)) (mFn VX (Qa (Qb 0) Qd)) (mC QU) [some (.str x)] []=some (.bl (decide ((1:Int)<=x.length)&&decide ((x.length:Int)<=8)),[]):=KM rfl p rfl rfl rfl;have n:decide ((1:Int)<=x.length)=decide (1<=x.length):=by congr 1;simp;omega
 have m:decide ((x.length:Int)<=8)=decide (x.length<=8):=by congr 1;simp;omega
 rw[n,m]at a
 have b:=Q3 (fin:=ZH) (mi:=QC (Qb 0)) (cp:=[none]) (me:=Qk 1 QJ (Qa (Qb 0) Qd)) (σ:=[some (.str x)]) (caps:=[]) (h:=[]) (items:=JO x) (fun w=>match w with|.str s=>.bl (s.cps.toList.all fun c=>decide (97<=c)&&decide (c<=122))|_=>.bl false) rfl ⟨_,rfl⟩ (fun w hw=>by
  unfold JO at hw;obtain⟨c,v,rfl⟩:=No.mp hw
  simp[QhZ]) (by unfold JO;simp;exact i)
 have em:(JO x).map (fun w=>match w with|.str s=>W.bl (s.cps.toList.all fun c=>decide (97<=c)&&decide (c<=122))|_=>.bl false)=x.cps.toList.map fun c=>W.bl (decide (97<=c)&&decide (c<=122)):=by
  unfold JO;rw[EG];exact FH fun c _=>by simp
 simp only[ZH]at b;rw[em]at b;have d:Yn [.lst (x.cps.toList.map fun c=>W.bl (decide (97<=c)&&decide (c<=122)))] []=some (.bl (x.cps.toList.all fun c=>decide (97<=c)&&decide (c<=122)),[]):=K7;have o:wIn true (.str x) (.tup (keptN.map .str)) []=some (.bl (!decide (x∈keptN)),[]):=by rw[Qce];rfl
 have e:wIn true (.str x) XL []=some (.bl (!decide (x∈keptN)),[]):=o;unfold nmB;cases f:(decide (1<=x.length)&&decide (x.length<=8))with
 |false=>rw[f]at a;simp[ZP,Qw,a,QR]
 |true=>
  rw[f]at a;cases j:x.cps.toList.all (fun c=>decide (97<=c)&&decide (c<=122))with
  |false=>rw[j]at d;simp[ZP,Qw,b,d,a,QR,-NP,-Eh]
  |true=>rw[j]at d;simp[ZP,Qw,b,d,e,a,QR,-NP,-Eh]
def noS(w:W):Prop:=pur w=true/\∀h,UD [w,.ty "str"] h=some (.bl false,h)
theorem Kl{w:W}{h:MH}(hw:noS w):Qs [w] h=some (.bl false,h):=by
 refine Qe (g:=[]) (by unfold QQ;simp[hw.1,QQ]) ?_ rfl;simp[ZP,Qw,hw.2]
theorem Qgm{us:List W}(a:QQ us=true):noS (.lst us):=⟨by unfold pur;exact a,fun h=>by simp[QR]⟩
theorem QeK{us:List W}(a:QQ us=true):noS (.tup us):=⟨by unfold pur;exact a,fun h=>by simp[QR]⟩
theorem Qgo{x:Int}:noS (.int x):=⟨rfl,fun h=>by simp[QR]⟩
theorem Qgq:noS .non:=⟨rfl,fun h=>by simp[QR]⟩
theorem J0{us:List W}{h:MH}(a:QQ us=true)(c:us.length≠2):Qi [.tup us] h=some (.bl false,h):=by
 have ei:=Xl (us:=us) (h:=[]);have b:¬(us.length:Int)=2:=by omega
 refine Qe (g:=[]) (by unfold QQ pur;simp[a,QQ]) ?_ rfl;simp[Zb,Qw,ei,b]
theorem UC{a b:W}{h:MH}(e:pur a=true)(d:pur b=true)(c:∀h,Qs [a] h=some (.bl false,h)):Qi [.tup [a,b]] h=some (.bl false,h):=by
 have ei:=Xl (us:=[a,b]) (h:=[]);refine Qe (g:=[]) (by simp[QQ,pur,e,d]) ?_ rfl;simp[Zb,Qw,ei,c]
theorem Y5{a b:W}{h:MH}(e:pur a=true)(c:noT b)(d:∀h,Qs [a] h=some (.bl true,h)):Qi [.tup [a,b]] h=some (.bl false,h):=by
 have ei:=Xl (us:=[a,b]) (h:=[]);refine Qe (g:=[]) (by simp[QQ,pur,e,c.1]) ?_ rfl;simp[Zb,Qw,ei,d,c.2]
theorem Qcv{a:W}{us:List W}{f:W->Bool}{b:Bool}{h:MH}(q:pur a=true)(n:QQ us=true)(u:us.length<=1000)(l:∀h,Qs [a] h=some (.bl true,h))(o:∀w∈us,∀h,Qt [w] h=some (.bl (f w),h))(p:us.all f=true->∀h,QX [.tup us] h=some (.bl false,h)):Qi [.tup [a,.tup us]] h=some (.bl false,h):=by
 have ei:=Xl (us:=[a,.tup us]) (h:=[]);have c:=Xl (us:=us) (h:=[]);have j:=Q3 (fin:=ZH) (mi:=QC (Qc wIx (Qb 0) (mC (.int 1)))) (cp:=[none]) (me:=Qk 1 Qt (Qa (Qb 0) Qd)) (σ:=[some (.tup [a,.tup us])]) (caps:=[]) (h:=[]) (items:=us) (fun w=>.bl (f w)) (by unfold QC;simp;rfl) ⟨_,rfl⟩ (fun w e=>by simp[o w e]) (Za (by omega));simp only[ZH]at j;have d:Yn [.lst (us.map fun w=>W.bl (f w))] []=some (.bl (us.all f),[]):=K7;refine Qe (g:=[]) (by simp[QQ,pur,q,n]) ?_ rfl;cases i:us.all f with
 |false=>rw[i]at d;simp[Zb,Qw,ei,c,l,j,d,-NP,-Eh]
 |true=>rw[i]at d;simp[Zb,Qw,ei,c,l,j,d,p i,-NP,-Eh]
theorem Qdh{x:Str}{es:List Str}{i:Int}{h:MH}(c:XX Ql x=some i)(f:(es.length:Int)≠i)(e:es.length<=1000):Qt [Qg (x::es)] h=some (.bl false,h):=by
 refine Qe (g:=[]) (by simp) ?_ rfl;have d:Qg (x::es)=.tup (.str x::es.map .str):=rfl;have e1:QcP true Ql (.str x) []=some (.bl false,[]):=by unfold QcP;simp[c]
 have e2:QdI Ql (.str x) []=some (.int i,[]):=by unfold QdI;simp[c]
 have b:¬(es.length:Int)+1=0:=by omega
 have a:¬(es.length:Int)+1=1+i:=by omega
 rw[d];simp[Z3,Qw,e1,e2,b,a,QR]
theorem U4{h:MH}:Qt [Qg ["do","none"]] h=some (.bl false,h):=by
 refine Qe (g:=[]) (by simp) ?_ rfl;have en:∀h,Qs [.str "none"] h=some (.bl false,h):=fun h=>by rw[Qfq (by decide +kernel)];congr 3
 have f:Qg ["do","none"]=.tup [.str "do",.str "none"]:=rfl;have b:XX Ql "do"=some 1:=by decide +kernel
 have e1:QcP true Ql (.str "do") []=some (.bl false,[]):=by unfold QcP;simp[b]
 have e2:QdI Ql (.str "do") []=some (.int 1,[]):=by unfold QdI;simp[b]
 have a:mSl (Qb 0) (Ju (mC (.int 1))) Jp [some (.tup [.str "do",.str "none"])] []=some (.tup [.str "none"],[]):=by
  have:=VZ ([.str "do",.str "none"]:List W) 1;simp at this;simp[this]
 have ei:QC (mSl (Qb 0) (Ju (mC (.int 1))) Jp) [some (.tup [.str "do",.str "none"])] []=some ([.str "none"],none,[]):=by unfold QC;rw[a];rfl
 have c:=Q3 (fin:=ZH) (mi:=QC (mSl (Qb 0) (Ju (mC (.int 1))) Jp)) (cp:=[none]) (me:=Qk 1 Qs (Qa (Qb 0) Qd)) (σ:=[some (.tup [.str "do",.str "none"])]) (caps:=[]) (h:=[]) (items:=[.str "none"]) (fun _=>.bl false) ei ⟨_,rfl⟩ (fun w hw=>by
  simp at hw;subst hw
  simp[en]) (Za (by simp))
 simp only[ZH]at c;have e:Yn [.lst [W.bl false]] []=some (.bl false,[]):=rfl;rw[f];simp[Z3,Qw,e1,e2,c,e,QR]
theorem Qbw{items:List W}{b:MG}{body:SM}(P:Nat->MSt->MH->Prop)(v:W):∀(r:List W) (n m:Nat) (σ:MSt) (h:MH),P n σ h->m<r.length ->
  (∀(j:Nat) (w:W),j<m->r[j]?=some w->∀σ h,P (n+j) σ h->∃σ1,b w σ h=some σ1/\∃a f,(body σ1 h=some (.nx a f)\/body σ1 h=some (.ct a f))/\P (n+j+1) a f) ->
  (∀w,r[m]?=some w->∀σ h,P (n+m) σ h->∃σ1 c,b w σ h=some σ1/\body σ1 h=some (.rt v c))->∃c,Xx items none b body r σ h=some (.rt v c)
 |[],n,m,σ,h,_,i,_,_=>by simp at i
 |w::r,n,0,σ,h,d,_,_,l=>by
  obtain⟨σ1,c,e1,e2⟩:=l w rfl σ h d;exact⟨c,by rw[Xx,if_pos (Jc _ _),e1,Nq,e2];rfl⟩
 | w::r,n,m+1,σ,h,d,i,o,l=>by
  obtain⟨σ1,e1,a,f,e2,p⟩:=o 0 w (by omega) rfl σ h d
  obtain⟨c,e⟩:=Qbw (items:=items) (b:=b) (body:=body) P v r (n+1) m a f p (by simpa using i) (fun j x q g σ h d=>by
   have:=o (j+1) x (by omega) (by simpa using g) σ h (by rw[show n+(j+1)=n+1+j by omega];exact d);rw[show n+(j+1)+1=n+1+j+1 by omega]at this
   exact this) (fun x g σ h d=>l x (by simpa using g) σ h (by rw[show n+(m+1)=n+1+m by omega];exact d))
  refine⟨c,?_⟩;rw[Xx,if_pos (Jc _ _),e1,Nq]
  rcases e2 with e2|e2<;>rw[e2]<;>exact e
def Qls(ls:List Ln)(n:Nat)(σ:MSt)(h:MH):Prop:=∃(O:List Str) (a:Option W),σ=[some (.tup (ls.map Qg)),some (.ref 0),a]/\h=[.lst (O.map .str)]/\XY ((ls.take n).map cdL) []=some (O.reverse.map cd)/\(∀y∈O,Op y)/\O.length<=n
theorem Qe2{ls:List Ln}{s:List Cd}{h:MH}(m:XY (ls.map cdL) []=some s)(E:ls.length<=70000)(A:∀l∈ls,∃x r,l=x::r):QX [.tup (ls.map Qg)] h=some (.bl (decide (s.length=0)),h):=by
 have a:=JC (items:=ls.map Qg) (b:=Z0 2) (body:=QG) (Qls ls) (ls.map Qg) 0 [some (.tup (ls.map Qg)),some (.ref 0),none] [.lst []] ⟨[],none,rfl,rfl,rfl,by simp,by simp⟩ (fun j w i C h H=>by
  rw[Nu]at i;obtain⟨l,d,rfl⟩:=Nf.mp i;rw[N1]at H ⊢;obtain⟨x,r,rfl⟩:=A l (NN d);have n:=m;rw[<-Ep (j+1) ls,NW]at n;obtain⟨D,c⟩:=Wr n
  exact Xa (by have:=(Nj.mp d).1;omega) d c H)
 obtain⟨t,F,e,O,y,rfl,rfl,f,_,_⟩:=a;rw[NB,N1,EK,m]at f
 have B:O.length=s.length:=by
  have:=congrArg (fun o=>o.map List.length) f;simp at this;exact this.symm
 rw[<-B];refine Qe (g:=[.lst (O.map .str)]) (by simp) ?_ rfl;have ei:QC (Qb 0) [some (.tup (ls.map Qg)),some (.ref 0),none] [.lst []]=some (ls.map Qg,none,[.lst []]):=rfl
 have p:VO (QC (Qb 0)) (Z0 2) QG [some (.tup (ls.map Qg)),some (.ref 0),none] [.lst []]=some (.nx [some (.tup (ls.map Qg)),some (.ref 0),y] [.lst (O.map .str)]):=by
  unfold VO;rw[ei,Nq];exact e
 by_cases z:O.length=0
 ·have:O=[]:=NT.mp z;subst this;simp[ZA,Qw,p]
 ·have v:¬(O.length:Int)=0:=by omega
  have u:O≠[]:=fun q=>z (by rw[q];rfl);simp[ZA,Qw,p,z,v,u]
theorem Qaq{ls:List Ln}{l:Ln}{h:MH}(p:XY (ls.map cdL) []=some [])(D:ls.length<=70000)(y:∀l∈ls,∃x r,l=x::r)(v:l=orL\/l=WJ):QX [.tup ((ls++[l]).map Qg)] h=some (.bl false,h):=by
 have u:∀j,j<ls.length->(ls++[l]).take (j+1)=ls.take (j+1):=fun j i=>by rw[FE (by omega)]
 have c:=Qbw (items:=(ls++[l]).map Qg) (b:=Z0 2) (body:=QG) (Qls (ls++[l])) (.bl false) ((ls++[l]).map Qg) 0 ls.length [some (.tup ((ls++[l]).map Qg)),some (.ref 0),none] [.lst []] ⟨[],none,rfl,rfl,rfl,by simp,by simp⟩ (by simp) (fun j w a i s h H=>by
  rw[Nu,N5 a]at i;obtain⟨t,d,rfl⟩:=Nf.mp i;rw[N1]at H ⊢;obtain⟨x,r,rfl⟩:=y t (NN d);have q:=p;rw[<-Ep (j+1) ls,NW]at q;obtain⟨C,f⟩:=Wr q;exact Xa (by omega) (by rw[N5 a];exact d) (by rw[u j a];exact f) H) (fun w hw s h H=>by
  rw[Nu,Ew (Nw _),LF]at hw;simp at hw;subst hw;obtain⟨O,B,rfl,rfl,n,_,_⟩:=H;rw[N1,FE (Nw _),EK,p]at n
  have z:O=[]:=by
   have:=congrArg (fun o=>o.map List.length) n;simp at this;exact NT.mp this.symm
  subst z;refine⟨_,[.lst []],rfl,?_⟩
  rcases v with rfl|rfl
  ·simp
  ·simp)
 obtain⟨m,e⟩:=c;have ei:QC (Qb 0) [some (.tup ((ls++[l]).map Qg)),some (.ref 0),none] [.lst []]=some ((ls++[l]).map Qg,none,[.lst []]):=rfl
 have A:VO (QC (Qb 0)) (Z0 2) QG [some (.tup ((ls++[l]).map Qg)),some (.ref 0),none] [.lst []]=some (.rt (.bl false) m):=by
  unfold VO;rw[ei,Nq];exact e
 refine Qe (g:=m) (by simp) ?_ rfl;simp[ZA,Qw,A,-NW]
section
variable{p:List Pt}
theorem Ww(l:List Str):(St.uniq l).length<=l.length/\((St.uniq l).length=l.length->l.Nodup):=by
 induction l using Qca with
 |nil=>exact⟨Nw _,fun _=>Dm⟩
 | snoc L x e=>
  rw[St.uniq_snoc,NC]
  by_cases c:x∈St.uniq L
  ·rw[if_pos c];exact⟨by simp;omega,fun z=>by simp at z;omega⟩
  ·rw[if_neg c];refine⟨by simp;omega,fun z=>?_⟩;have h:(St.uniq L).length=L.length:=by simpa using z
   have g:x∉L:=fun q=>c ((St.uniq_mem _ _ rfl x).mpr q);exact DA.mpr ⟨e.2 h,by simp,fun a f b d=>by simp at d;subst d;exact fun q=>g (q▸f)⟩
theorem QbN{h:MH}(j:p.length<=60)(b:¬(p.map (·.1)).Nodup):QB [Qx p] h=some (.bl false,h):=by
 have en:=XQ (p:=p) (by omega) [none,none,none,none] [];obtain⟨e,d⟩:=Ww (p.map (·.1));have f:¬(St.uniq (p.map (·.1))).length=p.length:=fun z=>b (d (by rw[z,NB]));rw[NB]at e
 have i:VG [Zd (p.map (·.1))] []=some (.int (St.uniq (p.map (·.1))).length,[]):=by
  unfold VG Zd;simp only[lsW,Nq,K9];rw[if_pos (by simp;omega)]
 have a:¬((St.uniq (p.map (·.1))).length:Int)=p.length:=by omega
 refine Qe (g:=[]) (by simp) ?_ rfl;have c:Zg ZH (QC (Qb 0)) [none] (Z0 0) XI (Qc wIx (Qb 0) (mC (.int 0))) [some (Qx p),none,none,none,none] []=some (Zd (p.map (·.1)),[]):=en;simp[QV,Qw,c,i,a]
theorem Qal{us:List Bool}{h:MH}(a:false∈us):Yn [.lst (us.map W.bl)] h=some (.bl false,h):=by
 have:=K7 (l:=us) (f:=id) (h:=h);rw[show us.all id=false from Eh.mpr ⟨false,a,by simp⟩]at this;exact this
theorem Qbs{i:Nat}{x:Pt}{w0:Str}{h:MH}(Z:p.length<=60)(A:(p.map (·.1)).Nodup)(u:p[i]?=some x)(G:∀y∈p,y.2.length<=1000)(Q:∀j y,j<i->p[j]?=some y->∀l∈y.2,∃z r,l=z::r/\(z="do"->∃w,r=[w]/\w∈(p.map (·.1)).drop (j+1)))
  (hd:∀l∈x.2,Qix l) (N:(["do",w0]:Ln)∈x.2) (hw:w0∉(p.map (·.1)).drop (i+1)):QB [Qx p] h=some (.bl false,h):=by
 have R:=(Nj.mp u).1
 have f:=Qbw (items:=Xo (p.map Qn)) (b:=XU [2,3]) (body:=Qu) (fun j n h=>∃t s o,n=[some (Qx p),some (Zd (p.map (·.1))),t,s,o]/\h=[]) (.bl false) (Xo (p.map Qn)) 0 i [some (Qx p),some (Zd (p.map (·.1))),none,none,none] [] ⟨none,none,none,rfl,rfl⟩ (by unfold Xo;simpa using R) (by
  rintro j w C B n h ⟨t,s,o,rfl,rfl⟩
  obtain⟨y,c,rfl⟩:=Wz B;exact Yp (Q j y C c) (Nn (G y (NN c)) (by decide)) c) (by
  rintro w v n h ⟨t,s,o,rfl,rfl⟩
  obtain⟨y,c,rfl⟩:=Wz v;rw[u]at c;cases c;have m:∀h,wSl (Zd (p.map (·.1))) (some ((i:Int)+1)) none h=some (Zd ((p.map (·.1)).drop (i+1)),h):=fun h=>Qes rfl;generalize O:(p.map (·.1)).drop (i+1)=a at m hw
  let q:W->Bool:=fun w=>match w with|.tup (.str x::_)=>x=="do"|_=>false
  let H:W->W:=fun w=>.bl (decide ((unL w).getD 1 ""∈a))
  have I:=KR (fin:=ZH) (mi:=QC (Qc wIx (Qb 3) (mC (.int 1)))) (cp:=[none,some 4]) (mt:=Qr (Qc wEq (Qc wIx (Qb 0) (mC (.int 0))) (mC (.str "do")))) (me:=Qc (wIn false) (Qc wIx (Qb 0) (mC (.int 1))) (Qb 1)) (σ:=[some (Qx p),some (Zd (p.map (·.1))),some (.int i),some (Qn x),some (Zd a)]) (caps:=[some (Zd a)]) (h:=[]) (items:=x.2.map Qg) H q (by unfold QC;simp;rfl) ⟨_,rfl⟩ (fun w hw=>by
   obtain⟨l,d,rfl⟩:=No.mp hw;obtain⟨y,r,rfl,_⟩:=hd l d;show _=some ((y=="do"),[]);simp) (fun w hw M=>by
   obtain⟨l,d,rfl⟩:=No.mp hw;obtain⟨y,r,rfl,P⟩:=hd l d;have c:y="do":=by have:(y==("do":Str))=true:=M;simpa using this
   obtain⟨w,rfl⟩:=P c;have T:wIn false (.str w) (Zd a) []=some (.bl (decide (w∈a)),[]):=QeG;show _=some (W.bl (decide (w∈a)),[])
   simp[T]) (by simp;have:=G x (NN u);exact Za (by omega))
  simp only[ZH]at I;have em:((x.2.map Qg).filter q).map H=(((x.2.map Qg).filter q).map fun w=>decide ((unL w).getD 1 ""∈a)).map W.bl:=by rw[EG];rfl
  have D:false∈((x.2.map Qg).filter q).map fun w=>decide ((unL w).getD 1 ""∈a):=by
   refine No.mpr ⟨Qg ["do",w0],Iw.mpr ⟨DN N,?_⟩,decide_eq_false hw⟩;show((_:Str)==_)=true;simp
  have J:=Qal (h:=[]) D;rw[<-em]at J;refine⟨[some (Qx p),some (Zd (p.map (·.1))),some (.int i),some (Qn x),o],[],rfl,?_⟩
  simp[m,I,J,-EG])
 obtain⟨F,e⟩:=f;have ei:YC (Qa (Qb 0) Qd) [some (Qx p),some (Zd (p.map (·.1))),none,none,none] []=some (Xo (p.map Qn),none,[]):=rfl
 have U:VO (YC (Qa (Qb 0) Qd)) (XU [2,3]) Qu [some (Qx p),some (Zd (p.map (·.1))),none,none,none] []=some (.rt (.bl false) F):=by
  unfold VO;rw[ei,Nq];exact e
 have en:=XQ (p:=p) (by omega) [none,none,none,none] [];have hu:=W1 A
 have S:VG [Zd (p.map (·.1))] []=some (.int p.length,[]):=by
  unfold VG Zd;simp only[lsW,Nq,K9];rw[if_pos (by simp;omega),hu];simp
 refine Qe (g:=F) (by simp) ?_ rfl;have E:Zg ZH (QC (Qb 0)) [none] (Z0 0) XI (Qc wIx (Qb 0) (mC (.int 0))) [some (Qx p),none,none,none,none] []=some (Zd (p.map (·.1)),[]):=en;simp[QV,Qw,E,S,U]
end
theorem Xb(ns:List Int)(k:Nat)(i:k<1000):∃c:Int,0<=c/\∀h:MH,Qj [.frz (ns.map .int),.int k] h=some (.int c,h):=by
 by_cases f:k<ns.length
 ·refine⟨ns[k]%10^40,NR _ (by decide),fun h=>Qe (g:=[]) (by simp[QQ,pur]) ?_ rfl⟩;have d:atI (ns.map W.int) (k:Int)=some (.int ns[k]):=by rw[Zz,Nu,Nk f];rfl
  have b:(k:Int)<ns.length:=by omega
  generalize ns[k]=v at d;simp[Jl,Qw,b,d]
 ·refine⟨((k:Int)+9)*32452843*((k:Int)+4)/7,Int.ediv_nonneg (Int.mul_nonneg (by omega) (by omega)) (by decide),fun h=>Qe (g:=[]) (by simp[QQ,pur]) ?_ rfl⟩;have b:¬(k:Int)<ns.length:=by omega
  have e:∀a:Int,Vh (.int a) (.int ((k:Int)+4)) []=some (.int (a*((k:Int)+4)),[]):=fun a=>(if_pos (.inr ⟨by omega,by omega⟩):(if(-(2^64)<a/\a<2^64)\/(-(2^64)<((k:Int)+4)/\((k:Int)+4)<2^64)then some (W.int (a*((k:Int)+4)),([]:MH))else none)=_)
  simp[Jl,Qw,b,e]
noncomputable abbrev abc:Str:="abcdefghijklmnopqrstuvwxyz"
theorem Qf6:abc.length=26:=by decide +kernel
noncomputable def ltr(i:Int):Str:=⟨#[97+i.toNat]⟩
theorem QeZ:abc.cps.toList=(List.range 26).map (97+·):=by decide +kernel
@[simp]theorem QjR{i:Int}:(ltr i).length=1:=rfl
@[simp]theorem Qlc{i:Int}{h:MH}(a:0<=i)(h1:i<26):wIx (.str abc) (.int i) h=some (.str (ltr i),h):=by
 obtain⟨n,rfl⟩:∃n:Nat,i=n:=⟨i.toNat,by exact(DM ‹_›).symm⟩
 refine QcD (by rw[Qf6];decide) ?_;rw[Zz,QeZ,Nu,Ey (by lia)];rfl
noncomputable def nxq(a k:Int):Str:=("nxq":Str)++ltr ((a+k)%26)
noncomputable def QiP(k:Int):Str:=Txt.slice ("xwvutsrq":Str) none (some (1+k))
noncomputable def NL:List (List Str):=((List.range 26).map fun(a:Nat)=>(List.range 5).map fun(k:Nat)=>nxq a k)++[(List.range 5).map fun(k:Nat)=>QiP k]
theorem QgA:∀ns∈NL,ns.length=5/\ns.Nodup/\(∀x∈ns,nmB x=true)/\("qqq":Str)∉ns:=by decide +kernel
theorem WF{c:Int}(r:0<=c):∃ns∈NL,∀h:MH,ZX [.int c,.int 5] h=some (Zd ns,h):=by
 by_cases l:c%2=0
 ·refine⟨(List.range 5).map fun(k:Nat)=>nxq (c/2%26) k,N7 _ (No.mpr ⟨(c/2%26).toNat,NU.mpr (by omega),by rw[DM (by omega)]⟩),fun h=>Qe (g:=[]) (by simp[QQ,pur]) ?_ (by simp)⟩
  have a:=Q3 (fin:=ZH) (mi:=Kc (Qa (Qb 1) Qd)) (cp:=[none,some 2,some 0]) (me:=Qc QW (mC (.str "nxq")) (Qc wIx (Qb 1) (Qc Zy (Qc QW (Qc JP (Qb 2) (mC (.int 2))) (Qb 0)) (mC (.int 26))))) (σ:=[some (.int c),some (.int 5),some (.str abc)]) (caps:=[some (.str abc),some (.int c)]) (h:=[]) (items:=QO 0 5) (fun w=>match w with|.int k=>.str (nxq (c/2%26) k)|w=>w) (Vt (j:=5) (by simp) (by decide)) ⟨_,rfl⟩ (fun w hw=>by
   obtain⟨k,f,rfl⟩:=No.mp hw;simp at f;have o:0<=(c/2+(k:Int))%26:=NR _ (by decide);have n:(c/2+(k:Int))%26<26:=NM _ (by decide);have d:("nxq":Str).length+1<=sizeLine:=by decide +kernel
   have e:(c/2%26+(k:Int))%26=(c/2+(k:Int))%26:=Int.emod_add_emod _ _ _
   simp[o,n,d,nxq,e]) (by rw[Q6];exact Za (by decide))
  simp only[ZH]at a;simp[Ja,Qw,l,a,Zd,JA]
 ·refine⟨(List.range 5).map fun(k:Nat)=>QiP k,NF _ (by simp),fun h=>Qe (g:=[]) (by simp[QQ,pur]) ?_ (by simp)⟩
  have a:=Q3 (fin:=ZH) (mi:=Kc (Qa (Qb 1) Qd)) (cp:=[none]) (me:=mSl (mC (.str "xwvutsrq")) Jp (Ju (Qc QW (mC (.int 1)) (Qb 0)))) (σ:=[some (.int c),some (.int 5),some (.str abc)]) (caps:=[]) (h:=[]) (items:=QO 0 5) (fun w=>match w with|.int k=>.str (QiP k)|w=>w) (Vt (j:=5) (by simp) (by decide)) ⟨_,rfl⟩ (fun w hw=>by
   obtain⟨k,f,rfl⟩:=No.mp hw;have d:("xwvutsrq":Str).length<=sizeLine:=by decide +kernel
   have e:∀i:Int,∀h,wSl (.str "xwvutsrq") none (some i) h=some (.str (Txt.slice "xwvutsrq" none (some i)),h):=fun i h=>(if_pos d:(if("xwvutsrq":Str).length<=sizeLine then some (W.str (Txt.slice "xwvutsrq" none (some i)),h)else none)=_)
   simp[e,QiP]) (by rw[Q6];exact Za (by decide))
  simp only[ZH]at a;simp[Ja,Qw,l,a,Zd,JA]
def GLn(B Wd:List Str)(l:Ln):Prop:=PlainL B Wd l\/∃w∈Wd,l=(["back",w]:Ln)
theorem QfC{c:Int}{B Wd:List Str}(A:0<B.length)(N:B.length<=5)(u:0<Wd.length)(L:Wd.length<=5)(hc:0<=c):∃l:Ln,GLn B Wd l/\∀h:MH,Zv [.int c,Zd B,Zd Wd] h=some (Qg l,h):=by
 have m:∀(d n:Int),0<n->0<=c/d%n/\c/d%n<n:=fun d n J=>⟨NR _ (by omega),NM _ J⟩
 have e:(0:Int)<B.length:=by omega
 have p:(0:Int)<Wd.length:=by omega
 obtain⟨x,a,R⟩:=Qci (xs:=B) (m 9 _ e).1 (m 9 _ e).2;obtain⟨y,j,Q⟩:=Qci (xs:=B) (m 45 _ e).1 (m 45 _ e).2;obtain⟨z,H,O⟩:=Qci (xs:=B) (m 225 _ e).1 (m 225 _ e).2;obtain⟨w,hw,S⟩:=Qci (xs:=Wd) (m 1125 _ p).1 (m 1125 _ p).2;obtain⟨v,I,C⟩:=Qci (xs:=Wd) (i:=0) (by decide) p
 obtain⟨l,s,M,t⟩:=QaF (xs:=([["pair",x,w,y,z],["first",x,y],["second",x,y],["same",x,y],["none",x],["tell",y],["back",v],["none",y],["first",x,x]]:List Ln)) (i:=c%9) (P:=GLn B Wd) (f:=Qg) (NR _ (by decide)) (by have:=NM c (b:=9) (by decide);simpa using this) (by
  intro l s;simp only[Nv,NQ,or_false]at s
  rcases s with rfl|rfl|rfl|rfl|rfl|rfl|rfl|rfl|rfl
  ·exact .inl (.pair a hw j H)
  ·exact .inl (.first a j)
  ·exact .inl (.second a j)
  ·exact .inl (.same a j)
  ·exact .inl (.none a)
  ·exact .inl (.tell j)
  ·exact .inr ⟨v,I,rfl⟩
  ·exact .inl (.none j)
  ·exact .inl (.first a a))
 refine⟨l,M,fun h=>Qe (g:=[]) (by simp) ?_ (by simp)⟩;have X:B≠[]:=by intro z;rw[z]at A;simp at A
 have U:Wd≠[]:=by intro z;rw[z]at u;simp at u
 have G:5<=sizeLine:=by decide
 have k3:3<=sizeLine:=by decide
 have k2:2<=sizeLine:=by decide
 have k4:4<=sizeLine:=by decide
 have F:9<=sizeLine:=by decide
 have r:∀i h,Zy (.int i) (.int (B.length:Int)) h=some (.int (i%(B.length:Int)),h):=fun i h=>KW e;have E:∀i h,Zy (.int i) (.int (Wd.length:Int)) h=some (.int (i%(Wd.length:Int)),h):=fun i h=>KW p
 have q:=Q3 (fin:=ZH) (mi:=QC (mFn Qm (Qa (mC (.int 9)) (Qa (mC (.int 45)) (Qa (mC (.int 225)) Qd))))) (cp:=[none,some 1,some 0]) (me:=Qc wIx (Qb 1) (Qc Zy (Qc JP (Qb 2) (Qb 0)) (mFn VX (Qa (Qb 1) Qd)))) (σ:=[some (.int c),some (Zd B),some (Zd Wd),none,none,none,none]) (caps:=[some (Zd B),some (.int c)]) (h:=[]) (items:=[.int 9,.int 45,.int 225]) (fun w=>match w with|.int k=>if k=9 then .str x else if k=45 then .str y else .str z|w=>w) (by unfold QC;simp[k3];rfl) ⟨_,rfl⟩ (fun w hw=>by
  simp at hw
  rcases hw with rfl|rfl|rfl
  ·simp[Zd,r,R]
  ·simp[Zd,r,Q]
  ·simp[Zd,r,O]) (Za (by simp))
 simp only[ZH]at q;simp at q;generalize Qg l=RR at t ⊢;simp[Qg]at t;simp[Zd]at q C;simp[Vy,Qw,q,S,C,E,G,k3,k2,k4,F,t,Zd,QgB,Qaw,lsW]
def Nt(L:List Ln):Prop:=∀s,XY (L.map cdL) s=some s
theorem KN:Nt []:=fun _=>rfl
theorem VC{L M:List Ln}(h1:Nt L)(a:Nt M):Nt (L++M):=fun s=>by rw[NW,JK,h1 s];exact a s
theorem Kg{l:Ln}(h:cdL l=.ot):Nt [l]:=fun s=>by show XY [cdL l] s=_;rw[h];rfl
theorem WX:∀{L:List Ln},(∀l∈L,cdL l=.ot)->Nt L
 |[],_=>KN
 |l::L,h=>VC (L:=[l]) (Kg (h l Nr)) (WX fun x a=>h x (Np _ a))
def Cl(d:Sd)(L:List Ln)(a b D w:Int):Prop:=0<=D/\∀q:Q5,q.lv<=q.dp->WB d q L=⟨q.pl+a,q.bk+b,q.lv,max q.dp (q.lv+D),q.wy+w⟩
theorem Kf{d:Sd}:Cl d [] 0 0 0 0:=⟨by decide,fun q g=>by
 obtain⟨a,b,c,e,f⟩:=q;simp only at g;simp only[WB,List.foldl_nil,LM];congr 1
 omega⟩
theorem ZW{d:Sd}{L M:List Ln}{a b D w g f h c:Int}(h1:Cl d L a b D w)(e:Cl d M g f h c):Cl d (L++M) (a+g) (b+f) (max D h) (w+c):=⟨by have:=h1.1;omega,fun q i=>by
 rw[Kp,h1.2 q i,e.2 _ (by simp only;omega)];simp only;have:=h1.1;have:=e.1
 congr 1<;>omega⟩
theorem X8{d:Sd}{l:Ln}{a b D w:Int}(c:cdL l=.ot)(f:0<=D)(e:XV d l=⟨a,b,D,w⟩):Cl d [l] a b D w:=⟨f,fun q g=>by
 show Vw d q l=_;unfold Vw;rw[e,c]
 simp only[ch,LM]⟩
theorem QD{d:Sd}{L:List Ln}{a b D w:Int}(h:Cl d L a b D w):szw d L=⟨a,b,D,1+w⟩:=by
 unfold szw;rw[h.2 qz (by decide)];simp only[qz];have:=h.1;congr 1<;>omega
theorem Qeb{d:Sd}{l:Ln}{a b D w:Int}(h:Cl d [l] a b D w):∀n:Nat,Cl d (List.replicate n l) (n*a) (n*b) (if n=0 then 0 else D) (n*w)
 |0=>by simpa using Kf
 |n+1=>by
  have:=ZW h (Qeb h n);rw[Em];have e1:a+(n:Int)*a=((n+1:Nat):Int)*a:=by rw[N2,Od];omega
  have e2:b+(n:Int)*b=((n+1:Nat):Int)*b:=by rw[N2,Od];omega
  have e:w+(n:Int)*w=((n+1:Nat):Int)*w:=by rw[N2,Od];omega
  have c:max D (if n=0 then 0 else D)=D:=by have:=h.1;split<;>omega
  rw[e1,e2,e,c]at this;simpa using this
inductive Blk(L:List Ln):List Ln->Prop where
 |ag:Blk L ((["again"]:Ln)::L++[WJ])
 |e1:Blk L ((["either"]:Ln)::L++[orL,WJ])
 |e2:Blk L ((["either"]:Ln)::orL::L++[WJ])
theorem QeE{L M:List Ln}(h:Nt L)(a:Blk L M):Nt M:=fun s=>by
 cases a with
 |ag=>
  show XY ((L++[WJ]).map cdL) (.ag::s)=_;rw[NW,JK,h];rfl
 |e1=>
  show XY ((L++[orL,WJ]).map cdL) (.ei::s)=_;rw[NW,JK,h];rfl
 |e2=>
  show XY ((L++[WJ]).map cdL) (.oo::s)=_;rw[NW,JK,h];rfl
theorem Y7{d:Sd}{q:Q5}{x:Str}(h1:(x==("do":Str))=false)(a:(x==("back":Str))=false):Vw d q [x]=⟨q.pl+1,q.bk,q.lv+ch (cd x),max q.dp (q.lv+ch (cd x)),q.wy⟩:=by
 have:XV d [x]=⟨1,0,0,0⟩:=by
  unfold XV Qj3 QiU;simp only[h1,a];rfl
 unfold Vw;rw[this];simp only[cdL,LM]
theorem Qej{d:Sd}{L M:List Ln}{a b D w:Int}(h:Cl d L a b D w)(l:Blk L M):∃e,(e=a+2\/e=a+3)/\Cl d M e b (D+1) w:=by
 have m:=h.1;have j:∀q,Vw d q ["again"]=⟨q.pl+1,q.bk,q.lv+1,max q.dp (q.lv+1),q.wy⟩:=fun q=>by rw[Y7 (by decide) (by decide),Gv];rfl
 have g:∀q,Vw d q ["either"]=⟨q.pl+1,q.bk,q.lv+1,max q.dp (q.lv+1),q.wy⟩:=fun q=>by rw[Y7 (by decide) (by decide),Ui];rfl
 have f:∀q,Vw d q orL=⟨q.pl+1,q.bk,q.lv+0,max q.dp (q.lv+0),q.wy⟩:=fun q=>by unfold orL;rw[Y7 (by decide) (by decide),Qik];rfl
 have c:∀q,Vw d q WJ=⟨q.pl+1,q.bk,q.lv+-1,max q.dp (q.lv+-1),q.wy⟩:=fun q=>by unfold WJ;rw[Y7 (by decide) (by decide),Qie];rfl
 cases l with
 |ag=>
  refine⟨a+2,.inl rfl,by omega,fun q i=>?_⟩;show WB d (Vw d q ["again"]) (L++[WJ])=_;rw[Kp,j,h.2 _ (by simp only;omega)];show Vw d _ WJ=_;rw[c];simp only;congr 1<;>omega
 |e1=>
  refine⟨a+3,.inr rfl,by omega,fun q i=>?_⟩;show WB d (Vw d q ["either"]) (L++[orL,WJ])=_;rw[Kp,g,h.2 _ (by simp only;omega)];show Vw d (Vw d _ orL) WJ=_;rw[f,c];simp only;congr 1<;>omega
 |e2=>
  refine⟨a+3,.inr rfl,by omega,fun q i=>?_⟩;show WB d (Vw d (Vw d q ["either"]) orL) (L++[WJ])=_;rw[Kp,g,f,h.2 _ (by simp only;omega)];show Vw d _ WJ=_;rw[c];simp only;congr 1<;>omega
theorem Qel{L M:List Ln}{B Wd la:List Str}(h:∀l∈L,LineOk B Wd la l)(c:Blk L M):∀l∈M,LineOk B Wd la l:=by
 have o:∀x:Str,x="either"\/x="again"\/x="or"\/x="end"->LineOk B Wd la [x]:=fun x b=>.blk b;intro l a;cases c with
 |ag=>simp at a;rcases a with rfl|a|rfl<;>first|exact h l a|exact o _ (by simp)
 |e1=>simp at a;rcases a with rfl|a|rfl|rfl<;>first|exact h l a|exact o _ (by simp)
 |e2=>simp at a;rcases a with rfl|rfl|a|rfl<;>first|exact h l a|exact o _ (by simp)
theorem Qa8{L M:List Ln}(a:Blk L M):M.length<=L.length+3/\L.length+2<=M.length:=by cases a<;>simp
theorem G7{c:Int}{L:List Ln}(q:L.length<=1000):∃M,Blk L M/\∀h,ZF [.int c,.tup (L.map Qg)] h=some (.tup (M.map Qg),h):=by
 have l:L.length+1+1<=sizeLine:=Za (by omega);have j:L.length+1+2<=sizeLine:=Za (by omega);have i:L.length+2+1<=sizeLine:=Za (by omega);have b:L.length+1<=sizeLine:=Za (by omega);have f:L.length+2<=sizeLine:=Za (by omega);have d:1+L.length<=sizeLine:=Za (by omega);have p:2+L.length<=sizeLine:=Za (by omega);have o:1+L.length+1<=sizeLine:=Za (by omega);have n:1+L.length+2<=sizeLine:=Za (by omega);have m:2+L.length+1<=sizeLine:=Za (by omega);have k1:1<=sizeLine:=by decide
 have k2:2<=sizeLine:=by decide
 by_cases a:c%2=0
 ·exact⟨_,.ag,fun h=>Qe (g:=[]) (by simp) (by simp[ZI,Qw,a,k1,k2,d,l,Qg,b,o]) (by simp)⟩
 ·by_cases e:c/2%2=0
  ·exact⟨_,.e1,fun h=>Qe (g:=[]) (by simp) (by simp[ZI,Qw,a,e,k1,k2,d,j,Qg,b,n]) (by simp)⟩
  ·exact⟨_,.e2,fun h=>Qe (g:=[]) (by simp) (by simp[ZI,Qw,a,e,k1,k2,p,i,Qg,f,m]) (by simp)⟩
inductive Bn(L:List Ln):Nat->List Ln->Prop where
 |z:Bn L 0 L
 |s {M M':List Ln} {n:Nat} (h:Bn L n M) (b:Blk M M'):Bn L (n+1) M'
theorem Qdw{L M:List Ln}{n:Nat}(h:Nt L)(c:Bn L n M):Nt M:=by
 induction c with
 |z=>exact h
 |s _ b a=>exact QeE a b
theorem QdM{L M:List Ln}{n:Nat}{B Wd la:List Str}(h:∀l∈L,LineOk B Wd la l)(c:Bn L n M):∀l∈M,LineOk B Wd la l:=by
 induction c with
 |z=>exact h
 |s _ b a=>exact Qel a b
theorem WP{L M:List Ln}{n:Nat}(a:Bn L n M):M.length<=L.length+3*n:=by
 induction a with
 |z=>simp
 |s _ b c=>have:=(Qa8 b).1;omega
theorem Qcr{d:Sd}{L M:List Ln}{n:Nat}{a b D w:Int}(h:Cl d L a b D w)(g:Bn L n M):∃c,a<=c/\c<=a+3*n/\Cl d M c b (D+n) w:=by
 induction g with
 |z=>exact⟨a,by omega,by simp,by simpa using h⟩
 |s _ b f=>
  obtain⟨c,o,m,i⟩:=f;obtain⟨j,l,e⟩:=Qej i b;refine⟨j,by omega,by push_cast;omega,?_⟩;rw[Int.add_assoc]at e;exact e
theorem YM{c:Int}{n:Nat}{L:List Ln}(x:0<=c)(v:n<=10)(y:L.length<=100):∃M,Bn L n M/\∀h,QI [.int c,.int n,.tup (L.map Qg)] h=some (.tup (M.map Qg),h):=by
 have a:=JC (items:=QO 0 n) (b:=Z0 3) (body:=J8) (fun j m h=>∃M i,Bn L j M/\m=[some (.int c),some (.int n),some (.tup (M.map Qg)),i]/\h=[]) (QO 0 n) 0 [some (.int c),some (.int n),some (.tup (L.map Qg)),none] [] ⟨L,none,.z,rfl,rfl⟩ (by
  rintro j w d m h ⟨M,i,f,rfl,rfl⟩
  rw[N1]at *;have l:j<n:=by have:=(Nj.mp d).1;rwa[Q6]at this
  have hw:w=.int j:=by
   unfold QO at d;rw[Nu,Ey l]at d;simp at d;exact d.symm
  subst hw;obtain⟨o,q,e⟩:=G7 (c:=c/(1+3*(j:Int))) (L:=M) (by have:=WP f;omega);have u:∀h,JP (.int c) (.int (1+3*(j:Int))) h=some (.int (c/(1+3*(j:Int))),h):=fun h=>Qb3 ⟨by omega,by omega⟩;refine⟨_,rfl,[some (.int c),some (.int n),some (.tup (o.map Qg)),some (.int j)],[],.inl ?_,o,_,.s f q,rfl,rfl⟩
  simp[u,e])
 obtain⟨p,A,e,M,i,f,rfl,rfl⟩:=a;rw[Q6,N1]at f;refine⟨M,f,fun h=>Qe (g:=[]) (by simp[QQ,pur]) ?_ (by simp)⟩;have r:Kc (Qa (Qb 1) Qd) [some (.int c),some (.int n),some (.tup (L.map Qg)),none] []=some (QO 0 n,none,[]):=Vt (by simp) (by omega)
 have t:VO (Kc (Qa (Qb 1) Qd)) (Z0 3) J8 [some (.int c),some (.int n),some (.tup (L.map Qg)),none] []=some (.nx [some (.int c),some (.int n),some (.tup (M.map Qg)),i] []):=by
  unfold VO;rw[r,Nq];exact e
 simp[Vp,Qw,t]
def UQ(B Wd la:List Str)(L:List Ln):Prop:=∃L0 L1,L0.length=3/\(∀l∈L0,GLn B Wd l)/\(L1=L0\/∃x∈la,L1=L0++[(["do",x]:Ln)])/\(L=L1\/Blk L1 L)
noncomputable abbrev gS(ns:List Int)(m:Nat)(nm B Wd:List Str)(a b c:Option W):MSt:=[some (.frz (ns.map .int)),some (.int m),some (Zd nm),some (Zd B),some (Zd Wd),some (.ref 0),a,b,c]
theorem QdW{ns:List Int}{m k:Nat}{nm B Wd:List Str}{b c:Option W}(u:0<B.length)(d:B.length<=5)(t:0<Wd.length)(a:Wd.length<=5)(G:k<5):∃L0:List Ln,L0.length=3/\(∀l∈L0,GLn B Wd l)/\∀h,Zg ZH (Kc (Qa (mC (.int 3)) Qd)) [none,some 3,some 4,some 0,some 6] (Z0 0) XI (Qk 3 Zv (Qa (Qk 2 Qj (Qa (Qb 3) (Qa (Qc QW (Qc QW (mC (.int 5)) (Qc Vh (mC (.int 4)) (Qb 4))) (Qb 0)) Qd))) (Qa (Qb 1) (Qa (Qb 2) Qd)))) (gS ns m nm B Wd (some (.int k)) b c) h=some (.lst (L0.map Qg),h):=by
 have one:∀j:Nat,j<3->∃l,GLn B Wd l/\∀h,Qk 3 Zv (Qa (Qk 2 Qj (Qa (Qb 3) (Qa (Qc QW (Qc QW (mC (.int 5)) (Qc Vh (mC (.int 4)) (Qb 4))) (Qb 0)) Qd))) (Qa (Qb 1) (Qa (Qb 2) Qd))) [some (.int (0+(j:Int))),some (Zd B),some (Zd Wd),some (.frz (ns.map .int)),some (.int k)] h=some (Qg l,h):=fun j n=>by
  obtain⟨v,q,y⟩:=Xb ns (5+4*k+j) (by omega);obtain⟨l,r,z⟩:=QfC u d t a q;refine⟨l,r,fun h=>?_⟩
  have e:∀h,Qj [.frz (ns.map .int),.int (5+4*(k:Int)+(j:Int))] h=some (.int v,h):=fun h=>by
   have:=y h;push_cast at this;exact this
  have p:∀h,Vh (.int 4) (.int (k:Int)) h=some (.int (4*(k:Int)),h):=fun h=>Qa5 (by decide) (by decide);generalize I:Zd B=L at *;generalize H:Zd Wd=J at *;simp[p,e,z]
 obtain⟨i,x,C⟩:=one 0 (by decide);obtain⟨g,g1,e1⟩:=one 1 (by decide);obtain⟨f,g2,e2⟩:=one 2 (by decide);refine⟨[i,g,f],rfl,by simp[x,g1,g2],fun h=>?_⟩
 have A:=Q3 (fin:=ZH) (mi:=Kc (Qa (mC (.int 3)) Qd)) (cp:=[none,some 3,some 4,some 0,some 6]) (me:=Qk 3 Zv (Qa (Qk 2 Qj (Qa (Qb 3) (Qa (Qc QW (Qc QW (mC (.int 5)) (Qc Vh (mC (.int 4)) (Qb 4))) (Qb 0)) Qd))) (Qa (Qb 1) (Qa (Qb 2) Qd)))) (σ:=gS ns m nm B Wd (some (.int k)) b c) (caps:=[some (Zd B),some (Zd Wd),some (.frz (ns.map .int)),some (.int k)]) (h:=h) (items:=QO 0 3) (fun w=>match w with|.int j=>Qg (if j=0 then i else if j=1 then g else f)|w=>w) (Vt (j:=3) (by simp) (by decide)) ⟨_,rfl⟩ (fun w hw=>by
  obtain⟨j,n,rfl⟩:=No.mp hw;have s:=NU.mp n;have:j=0\/j=1\/j=2:=by omega
  rcases this with rfl|rfl|rfl
  ·exact C h
  ·exact e1 h
  ·exact e2 h) (by rw[Q6];exact Za (by decide))
 rw[A];simp[JA,ZH,List.range_succ]
theorem Qfk{ns:List Int}{m k:Nat}{nm B Wd:List Str}{b c:Option W}{p:List Pt}(R:0<B.length)(n:B.length<=5)(N:0<Wd.length)(l:Wd.length<=5)(I:nm.length=5)(hm:m<=5)(hk:k<m)(hp:p.length<=5) :
  ∃(x:Str) (L:List Ln) (b' c':Option W),nm[k]?=some x/\UQ B Wd ((nm.take m).drop (k+1)) L/\Q9 (gS ns m nm B Wd (some (.int k)) b c) [.lst (p.map Qn)]=some (.nx (gS ns m nm B Wd (some (.int k)) b' c') [.lst ((p++[(x,L)]).map Qn)]):=by
 obtain⟨v,hv,T⟩:=Xb ns (8+4*k) (by omega)
 have o:∀h,Qj [.frz (ns.map .int),.int (8+4*(k:Int))] h=some (.int v,h):=fun h=>by
  have:=T h;push_cast at this;exact this
 have G:∀h,Vh (.int 4) (.int (k:Int)) h=some (.int (4*(k:Int)),h):=fun h=>Qa5 (by decide) (by decide);obtain⟨L0,a,J,e3⟩:=QdW (ns:=ns) (m:=m) (nm:=nm) (b:=some (.int v)) (c:=c) R n N l (k:=k) (by omega);obtain⟨x,s⟩:∃x,nm[k]?=some x:=⟨_,Nk (by omega)⟩
 have S:atI (nm.map W.str) (k:Int)=some (.str x):=by rw[Zz,Nu,s];rfl
 have C:p.length<sizeLine:=QeQ (by omega);have k2:2<=sizeLine:=by decide
 have k1:1<=sizeLine:=by decide
 have d:(L0.map Qg).length=3:=by rw[NB];exact a
 have j:(L0.map Qg).length+1<=sizeLine:=by rw[d];decide
 have k3:(L0.map Qg).length<=sizeLine:=by rw[d];decide
 have U:∀h,Vf [.lst (L0.map Qg)] h=some (.tup (L0.map Qg),h):=fun h=>rfl
 obtain⟨L1,f,Z⟩:∃L1,(L1=L0\/∃x∈(nm.take m).drop (k+1),L1=L0++[(["do",x]:Ln)])/\ZZ (QaC (Qr (Qc wLt (Qb 6) (Qc UO (Qb 1) (mC (.int 1))))) (Qr (Qc wGt (Qc Zy (Qb 7) (mC (.int 3))) (mC (.int 0))))) (Zx 8 (Qc QW (Qb 8) (mFn Qm (Qa (mFn Qm (Qa (mC (.str "do")) (Qa (Qc wIx (Qb 2) (Qc QW (Qc QW (Qb 6) (mC (.int 1))) (Qc Zy (Qc JP (Qb 7) (mC (.int 3))) (Qc UO (Qc UO (Qb 1) (mC (.int 1))) (Qb 6))))) Qd))) Qd)))) QF (gS ns m nm B Wd (some (.int k)) (some (.int v)) (some (.tup (L0.map Qg)))) [.lst (p.map Qn)]=some (.nx (gS ns m nm B Wd (some (.int k)) (some (.int v)) (some (.tup (L1.map Qg)))) [.lst (p.map Qn)]):=by
  have H:=NR v (show(3:Int)≠0 by decide)
  by_cases g:(k:Int)<(m:Int)-1/\0<v%3
  ·have r:(0:Int)<(m:Int)-1-k:=by omega
   have E:0<=v/3%((m:Int)-1-k):=NR _ (by omega);have D:v/3%((m:Int)-1-k)<(m:Int)-1-k:=NM _ r;have F:∀i h,Zy (.int i) (.int ((m:Int)-1-k)) h=some (.int (i%((m:Int)-1-k)),h):=fun i h=>KW r;obtain⟨t,u⟩:=UF E;rw[u]at D;have w:k+1+t<nm.length:=by omega
   have A:atI (nm.map W.str) ((k:Int)+1+(t:Int))=some (.str nm[k+1+t]):=by
    have:(k:Int)+1+(t:Int)=((k+1+t:Nat):Int):=by omega
    rw[this,Zz,Nu,Nk w];rfl
   refine⟨L0++[(["do",nm[k+1+t]]:Ln)],.inr ⟨_,?_,rfl⟩,?_⟩
   ·refine ND.mpr ⟨t,?_⟩;rw[D1,DV (by omega)];exact Nk w
   ·generalize nm[k+1+t]=y at A;rw[NW];generalize Q:L0.map Qg=G0 at *;simp[g,F,u,Zd,A,k1,k2,j,Qg]
  ·refine⟨L0,.inl rfl,?_⟩
   by_cases q:(k:Int)<(m:Int)-1
   ·have c3:¬0<v%3:=fun z=>g ⟨q,z⟩;simp[q,c3]
   ·simp[q]
 obtain⟨L,P,Y⟩:∃L,(L=L1\/Blk L1 L)/\ZZ (Qr (Qc wEq (Qc Zy (Qc JP (Qb 7) (mC (.int 60))) (mC (.int 2))) (mC (.int 0)))) (Zx 8 (Qk 2 ZF (Qa (Qc JP (Qb 7) (mC (.int 120))) (Qa (Qb 8) Qd)))) QF (gS ns m nm B Wd (some (.int k)) (some (.int v)) (some (.tup (L1.map Qg)))) [.lst (p.map Qn)]=some (.nx (gS ns m nm B Wd (some (.int k)) (some (.int v)) (some (.tup (L.map Qg)))) [.lst (p.map Qn)]):=by
  by_cases g:v/60%2=0
  ·obtain⟨M,O,e⟩:=G7 (c:=v/120) (L:=L1) (by rcases f with rfl|⟨x,_,rfl⟩<;>simp[a]);refine⟨M,.inr O,?_⟩;simp[g,e]
  ·exact⟨L1,.inl rfl,by simp[g]⟩
 refine⟨x,L,some (.int v),some (.tup (L.map Qg)),s,⟨L0,L1,a,J,f,P⟩,?_⟩
 have X:W6 (mMt "list" XM (Qb 5) (Qa (mFn Qm (Qa (Qc wIx (Qb 2) (Qb 6)) (Qa (Qb 8) Qd))) Qd)) (gS ns m nm B Wd (some (.int k)) (some (.int v)) (some (.tup (L.map Qg)))) [.lst (p.map Qn)]=some (.nx (gS ns m nm B Wd (some (.int k)) (some (.int v)) (some (.tup (L.map Qg)))) [.lst ((p++[(x,L)]).map Qn)]):=by
  rw[NW];simp[Zd,S,k2,C,Qn]
 have e1:Zx 7 (Qk 2 Qj (Qa (Qb 0) (Qa (Qc QW (mC (.int 8)) (Qc Vh (mC (.int 4)) (Qb 6))) Qd))) (gS ns m nm B Wd (some (.int k)) b c) [.lst (p.map Qn)]=some (.nx (gS ns m nm B Wd (some (.int k)) (some (.int v)) c) [.lst (p.map Qn)]):=by simp[G,o]
 have e2:Zx 8 (mFn Vf (Qa (Zg ZH (Kc (Qa (mC (.int 3)) Qd)) [none,some 3,some 4,some 0,some 6] (Z0 0) XI (Qk 3 Zv (Qa (Qk 2 Qj (Qa (Qb 3) (Qa (Qc QW (Qc QW (mC (.int 5)) (Qc Vh (mC (.int 4)) (Qb 4))) (Qb 0)) Qd))) (Qa (Qb 1) (Qa (Qb 2) Qd))))) Qd)) (gS ns m nm B Wd (some (.int k)) (some (.int v)) c) [.lst (p.map Qn)]=some (.nx (gS ns m nm B Wd (some (.int k)) (some (.int v)) (some (.tup (L0.map Qg)))) [.lst (p.map Qn)]):=by
  generalize Q:L0.map Qg=G0 at *;simp[e3,U]
 unfold Q9;exact Xc e1 (Xc e2 (Xc Z (Xc Y X)))
theorem GL{B Wd:List Str}{l:Ln}(h:GLn B Wd l):cdL l=.ot:=by
 rcases h with h|⟨w,_,rfl⟩
 ·exact QdN h
 ·show cd "back"=.ot;decide
theorem G3{B Wd la:List Str}{l:Ln}(h:GLn B Wd l):LineOk B Wd la l:=by
 rcases h with h|⟨w,hw,rfl⟩
 ·exact .plain h
 ·exact .back hw
theorem Qas{x:Str}:cdL ["do",x]=.ot:=by show cd "do"=.ot;decide
theorem Qh1{d:Sd}{B Wd:List Str}{l:Ln}(h:GLn B Wd l):∃a b,Cl d [l] a b 0 0/\0<=a/\a<=1/\0<=b/\b<=1:=by
 have c:=GL h
 rcases h with h|⟨w,_,rfl⟩
 ·refine⟨1,0,X8 c (by decide) ?_,by decide,by decide,by decide,by decide⟩;cases h<;>rfl
 ·exact⟨0,1,X8 c (by decide) rfl,by decide,by decide,by decide,by decide⟩
theorem KJ{d:Sd}{B Wd:List Str}:∀{L:List Ln},(∀l∈L,GLn B Wd l)->∃a b,Cl d L a b 0 0/\0<=a/\a<=L.length/\0<=b/\b<=L.length
 |[],_=>⟨0,0,Kf,by decide,by simp,by decide,by simp⟩
 |l::L,h=>by
  obtain⟨a,b,h1,r,q,p,o⟩:=Qh1 (d:=d) (h l Nr);obtain⟨g,f,e,n,m,j,i⟩:=KJ (d:=d) (L:=L) fun x c=>h x (Np _ c);exact⟨a+g,b+f,by simpa using ZW h1 e,by omega,by simp;omega,by omega,by simp;omega⟩
theorem GH{d:Sd}{B Wd la:List Str}{L:List Ln}{P0 B0 D0 W0:Int}(h:UQ B Wd la L)(y:0<=P0)(A:0<=B0)(z:0<=D0)(v:0<=W0)(hd:∀x∈la,∃P Q D w,XV d ["do",x]=⟨P,Q,D,w⟩/\P<=P0/\Q<=B0/\0<=D/\D<=D0/\w<=W0) :
  ∃a b D w,Cl d L a b D w/\a<=6+P0/\b<=3+B0/\D<=1+D0/\w<=W0:=by
 obtain⟨L0,L1,t,j,n,m⟩:=h;obtain⟨a,b,c,G,F,E,C⟩:=KJ (d:=d) j
 have key:∃a b D w,Cl d L1 a b D w/\a<=3+P0/\b<=3+B0/\D<=D0/\w<=W0:=by
  rcases n with rfl|⟨x,i,rfl⟩
  ·exact⟨a,b,0,0,c,by omega,by omega,by omega,by omega⟩
  ·obtain⟨P,Q,D,w,e,s,r,g,q,p⟩:=hd x i;exact⟨_,_,_,_,ZW c (X8 Qas g e),by omega,by omega,by omega,by omega⟩
 obtain⟨a,b,D,w,c,k1,k2,k3,k4⟩:=key
 rcases m with rfl|l
 ·exact⟨a,b,D,w,c,by omega,by omega,by omega,by omega⟩
 ·obtain⟨o,u,f⟩:=Qej c l;exact⟨o,b,D+1,w,f,by omega,by omega,by omega,by omega⟩
theorem Y8{B Wd la:List Str}{L:List Ln}(h:UQ B Wd la L):Nt L:=by
 obtain⟨L0,L1,a,d,g,f⟩:=h;have c:Nt L0:=WX fun l a=>GL (d l a)
 have b:Nt L1:=by
  rcases g with rfl|⟨x,_,rfl⟩
  ·exact c
  ·exact VC c (Kg Qas)
 rcases f with rfl|e
 ·exact b
 ·exact QeE b e
theorem Qc0{B Wd la:List Str}{L:List Ln}(h:UQ B Wd la L):∀l∈L,LineOk B Wd la l:=by
 obtain⟨L0,L1,a,b,g,f⟩:=h
 have c:∀l∈L1,LineOk B Wd la l:=by
  rcases g with rfl|⟨x,d,rfl⟩
  ·exact fun l a=>G3 (b l a)
  ·exact WG (fun l a=>G3 (b l a)) (.do d)
 rcases f with rfl|e
 ·exact c
 ·exact Qel c e
theorem WM{B Wd la:List Str}{L:List Ln}(h:UQ B Wd la L):3<=L.length/\L.length<=7:=by
 obtain⟨L0,L1,a,e,d,c⟩:=h;have f:3<=L1.length/\L1.length<=4:=by rcases d with rfl|⟨x,_,rfl⟩<;>simp[a]
 rcases c with rfl|b
 ·omega
 ·have:=Qa8 b;omega
structure Gen(B Wd:List Str)(p:List Pt):Prop where
 len:1<=p.length/\p.length<=5
 nd:(p.map (·.1)).Nodup
 sh:∀i x,p[i]?=some x->UQ B Wd ((p.map (·.1)).drop (i+1)) x.2
 bl:B.length<=5
 wl:Wd.length<=5
 bn:∀x∈B,Nm x
 wn:∀x∈Wd,Nm x
 pn:∀x∈p,Nm x.1/\x.1≠"qqq"
section
variable{B Wd:List Str}{p:List Pt}
theorem Gen.good(h:Gen B Wd p):GoodP 10 B Wd p where
 ne:=fun z=>by have:=h.len.1;rw[z]at this;simp at this
 len:=h.len.2
 bal:=fun x a=>by
  obtain⟨i,b⟩:=ND.mp a;exact Y8 (h.sh i x b) []
 sz:=fun x a=>by
  obtain⟨i,b⟩:=ND.mp a;have:=(WM (h.sh i x b)).2;omega
 ok:=fun i x a=>Qc0 (h.sh i x a)
 nd:=h.nd
theorem QfN{i:Nat}{x:Str}(c:(p.map (·.1)).Nodup)(d:x∈(p.map (·.1)).drop (i+1)):∃j y,i+1<=j/\p[j]?=some y/\XV (sd (p.drop (i+1))) ["do",x]=szw (sd (p.drop (j+1))) y.2:=by
 rw[<-DK]at d;obtain⟨y,e,rfl⟩:=No.mp d;obtain⟨t,b⟩:=ND.mp e;have a:=YG (p:=p.drop (i+1)) (j:=t) (y:=y) (by rw[DK];exact c.sublist (L8 _ _)) b;rw[D1]at b;rw[List.drop_drop]at a;refine⟨i+1+t,y,by omega,b,?_⟩;show(look (sd (p.drop (i+1))) y.1).getD ⟨1,0,0,0⟩=_;rw[a];rfl
theorem Qiv(h:Gen B Wd p):∀(n i:Nat) (x:Pt),5-i<=n->p[i]?=some x->∃a b D w,szw (sd (p.drop (i+1))) x.2=⟨a,b,D,w⟩/\a<=6*(p.length-i:Nat)/\b<=3*(p.length-i:Nat)/\0<=D/\D<=(p.length-i:Nat)/\w<=(p.length-i:Nat):=by
 have f:=h.len.2;intro n
 induction n with
 |zero=>intro i x s c;have:=(Nj.mp c).1;omega
 | succ n m=>
  intro i x s c;have r:=(Nj.mp c).1
  obtain⟨a,b,D,w,g,k1,k2,k3,k4⟩:=GH (d:=sd (p.drop (i+1))) (P0:=6*(p.length-(i+1):Nat)) (B0:=3*(p.length-(i+1):Nat)) (D0:=(p.length-(i+1):Nat)) (W0:=(p.length-(i+1):Nat)) (h.sh i x c) (by omega) (by omega) (by omega) (by omega) (fun y q=>by
   obtain⟨j,z,C,o,e⟩:=QfN h.nd q;obtain⟨a,b,D,w,e2,A,v,l,u,t⟩:=m j z (by omega) o
   exact⟨a,b,D,w,e.trans e2,by omega,by omega,l,by omega,by omega⟩)
  exact⟨a,b,D,1+w,QD g,by omega,by omega,g.1,by omega,by omega⟩
theorem QfJ(h:Gen B Wd p):(als p).length<=1000:=by
 have:=QeA (N:=10) (p:=p) (h.good.sz);have:=h.len.2;omega
theorem Qd0(h:Gen B Wd p){g:MH}:Qh [Qx p] g=some (.bl true,g):=by
 have J:=h.len.1;obtain⟨x,l⟩:∃x,p[0]?=some x:=⟨_,Nk (by omega)⟩
 have t:=h.bl;have o:=h.wl;obtain⟨n,m,M,L,_,_,e⟩:=QiK h.good (by decide) l (QfJ h) (by omega) (by omega) h.bn h.wn fun y f=>(h.pn y f).1;rw[e];obtain⟨a,b,D,w,u,I,H,G,F,E⟩:=Qiv h 5 0 x (by omega) l;have q:=h.len.2;have j:szw (sd (p.drop 1)) x.2=⟨a,b,D,w⟩:=u;rw[j]
 have c:(p.all fun y=>smB (szw [] y.2))=true:=by
  rw[NP];intro y f;obtain⟨i,r⟩:=ND.mp f;obtain⟨a,b,D,w,s,k1,k2,k3,k4⟩:=GH (d:=[]) (P0:=1) (B0:=0) (D0:=0) (W0:=0) (h.sh i y r) (by decide) (by decide) (by decide) (by decide) (fun x _=>⟨1,0,0,0,rfl,by decide,by decide,by decide,by decide,by decide⟩);rw[QD s];unfold smB;simp only[NH,decide_eq_true_eq];omega
 rw[c];have C:n<=5:=by omega
 have A:m<=5:=by omega
 have z:w<=24:=by omega
 have v:smB ⟨a,b,D,w⟩=true:=by
  unfold smB;simp only[NH,decide_eq_true_eq];omega
 simp[C,A,z,v]
end
theorem QhG(ns:List Int):∃B Wd p,Gen B Wd p/\∀h,Jy [.frz (ns.map .int)] h=some (Qx p,h):=by
 obtain⟨v1,p1,e1⟩:=Xb ns 1 (by decide);obtain⟨Y,p2,e2⟩:=Xb ns 2 (by decide);obtain⟨D,p3,e3⟩:=Xb ns 3 (by decide);obtain⟨v4,Z,e4⟩:=Xb ns 4 (by decide);obtain⟨d,I,en⟩:=WF p2;obtain⟨bs,M,eb⟩:=WF p3;obtain⟨q,E,ew⟩:=WF Z;obtain⟨n1,n2,n3,n4⟩:=QgA d I;obtain⟨b1,b2,b3,b4⟩:=QgA bs M;obtain⟨X,w2,U,w4⟩:=QgA q E;obtain⟨f,aa⟩:=UF (NR v1 (show(5:Int)≠0 by decide));obtain⟨C,G⟩:=UF (NR (D/60) (show(5:Int)≠0 by decide));obtain⟨A,F⟩:=UF (NR (v4/60) (show(5:Int)≠0 by decide));have l1:=NM v1 (show(0:Int)<5 by decide);have l3:=NM (D/60) (show(0:Int)<5 by decide);have l4:=NM (v4/60) (show(0:Int)<5 by decide)
 have cut:∀(v:List Str) (t:Nat),v.length=5->t<5->W4 (v.map W.str) none (some (1+(t:Int)))=(v.take (1+t)).map .str:=fun v t h1 h2=>by
  rw[show(1:Int)+(t:Int)=((1+t:Nat):Int) by omega];unfold W4;rw[HT.sIx_nat,HT.sIx_none,FP,Nat.sub_zero,NB,h1,ID (by omega),Lk]
 generalize O:bs.take (1+C)=B;generalize N:q.take (1+A)=Wd;have lB:B.length=1+C:=by rw[<-O,Ef];omega
 have lW:Wd.length=1+A:=by rw[<-N,Ef];omega
 have r:=JC (items:=QO 0 (f+1)) (b:=Z0 6) (body:=Q9) (fun j P h=>∃p a b c,p.length=j/\p.map (·.1)=d.take j/\(∀i x,p[i]?=some x->UQ B Wd ((d.take (f+1)).drop (i+1)) x.2)/\P=gS ns (f+1) d B Wd a b c/\h=[.lst (p.map Qn)]) (QO 0 (f+1)) 0 (gS ns (f+1) d B Wd none none none) [.lst []] ⟨[],none,none,none,rfl,rfl,by simp,rfl,rfl⟩ (by
  rintro j w u P h ⟨p,a,b,c,J,o,H,rfl,rfl⟩
  rw[N1]at *;have s:j<f+1:=by have:=(Nj.mp u).1;rwa[Q6]at this
  have hw:w=.int j:=by
   unfold QO at u;rw[Nu,Ey s]at u;simp at u;exact u.symm
  subst hw;obtain⟨x,L,b',c',l,hS,e⟩:=Qfk (ns:=ns) (m:=f+1) (k:=j) (nm:=d) (B:=B) (Wd:=Wd) (b:=b) (c:=c) (p:=p) (by omega) (by omega) (by omega) (by omega) n1 (by omega) s (by omega);refine⟨gS ns (f+1) d B Wd (some (.int j)) b c,rfl,_,_,.inl e,p++[(x,L)],_,b',c',by simp[J],?_,?_,rfl,rfl⟩
  ·rw[NW,o,Dh,l];rfl
  ·intro i y n
   by_cases R:i<p.length
   ·exact H i y (by rwa[N5 R]at n)
   ·rw[Ew (N4.mp R)]at n;have hz:i-p.length=0:=by have:=(Nj.mp n).1;simpa using this
    rw[hz]at n;simp at n;subst n;have:i=j:=by omega
    subst this
    exact hS)
 obtain⟨T,h',e,p,a,b,c,J,o,H,rfl,rfl⟩:=r;rw[Q6,N1]at J o;refine⟨B,Wd,p,⟨⟨by omega,by omega⟩,by rw[o];exact n2.sublist (LS _ _),fun i x l=>by rw[o];exact H i x l,by omega,by omega,fun x l=>nm_iff.mp (b3 x (by rw[<-O]at l;exact El l)),fun x l=>nm_iff.mp (U x (by rw[<-N]at l;exact El l)),fun x l=>?_⟩,fun h=>?_⟩
 ·have Q:x.1∈d:=by
   have:x.1∈p.map (·.1):=DN l;rw[o]at this;exact El this
  exact⟨nm_iff.mp (n3 _ Q),fun z=>n4 (z▸Q)⟩
 ·have er:Kc (Qa (Qb 1) Qd) (gS ns (f+1) d B Wd none none none) [.lst []]=some (QO 0 (f+1),none,[.lst []]):=Vt (by simp) (by omega)
  have S:VO (Kc (Qa (Qb 1) Qd)) (Z0 6) Q9 (gS ns (f+1) d B Wd none none none) [.lst []]=some (.nx (gS ns (f+1) d B Wd a b c) [.lst (p.map Qn)]):=by
   unfold VO;rw[er,Nq];exact e
  have em:(1:Int)+v1%5=((f+1:Nat):Int):=by omega
  have c3:∀h,wSl (Zd bs) none (some (1+(C:Int))) h=some (Zd B,h):=fun h=>by
   unfold Zd;rw[Qg9,cut bs C b1 (by omega),O]
  have c4:∀h,wSl (Zd q) none (some (1+(A:Int))) h=some (Zd Wd,h):=fun h=>by
   unfold Zd;rw[Qg9,cut q A X (by omega),N]
  refine Qe (g:=[.lst (p.map Qn)]) (by simp[QQ,pur]) ?_ (by simp);have et:∀h,Vf [.ref 0] (.lst (p.map Qn)::h)=some (Qx p,.lst (p.map Qn)::h):=fun h=>rfl;have f1:∀h,Qj [.frz (ns.map .int),.int 1] h=some (.int v1,h):=e1;have f2:∀h,Qj [.frz (ns.map .int),.int 2] h=some (.int Y,h):=e2;have f3:∀h,Qj [.frz (ns.map .int),.int 3] h=some (.int D,h):=e3;have f4:∀h,Qj [.frz (ns.map .int),.int 4] h=some (.int v4,h):=e4;dsimp only[gS]at S;generalize Zd B=SB at *;generalize Zd Wd=SW at *;generalize Zd d=SN at *;generalize Zd bs=SX at *;generalize Zd q=SY at *;simp[Jg,Qw,f1,f2,f3,f4,en,eb,ew,em,G,F,c3,c4,-N2,-Int.natCast_succ,S,et]
theorem JG{a:W}{n:Nat}{h:MH}(c:n<=1000):Zh (.tup [a]) (.int n) h=some (.tup (List.replicate n a),h):=by
 have e:(List.replicate n [a]).flatten=List.replicate n a:=by
  induction n with
  |zero=>rfl
  |succ n b=>rw[Em,EV,b (by omega)];rfl
 unfold Zh;simp only;rw[if_pos ⟨by omega,by omega,by simp,by simp⟩,En,e]
noncomputable def GP(N:Nat)(bs ws:List Str):List Pt->Prop
 |[]=>True
 |x::r=>(Nt x.2/\x.2.length<=N/\∀l∈x.2,LineOk bs ws (r.map (·.1)) l)/\GP N bs ws r
theorem Qde{N:Nat}{bs ws:List Str}:∀{p:List Pt},GP N bs ws p->∀i x,p[i]?=some x->Nt x.2/\x.2.length<=N/\∀l∈x.2,LineOk bs ws ((p.map (·.1)).drop (i+1)) l
 |y::r,h,0,x,a=>by simp at a;subst a;exact h.1
 |y::r,h,i+1,x,a=>by simpa using Qde h.2 i x (by simpa using a)
theorem JB{N:Nat}{bs ws:List Str}{p:List Pt}(h:GP N bs ws p)(b:p≠[])(e:p.length<=5)(c:(p.map (·.1)).Nodup):GoodP N bs ws p where
 ne:=b
 len:=e
 bal:=fun x a=>by
  obtain⟨i,d⟩:=ND.mp a;exact(Qde h i x d).1 []
 sz:=fun x a=>by
  obtain⟨i,d⟩:=ND.mp a;exact(Qde h i x d).2.1
 ok:=fun i x a=>(Qde h i x a).2.2
 nd:=c
theorem JF{N:Nat}{bs ws:List Str}{p:List Pt}{x:Pt}{more:Nat}{a b D w:Int}{h:MH}(s:more=0\/more=1)(t:GoodP N bs ws p)(hN:N<=70000)(m:p[0]?=some x)(A:(als p).length<=1000)(v:bs.length<=6)(n:ws.length<=6)(z:∀x∈bs,Nm x)(hw:∀x∈ws,Nm x)(r:∀x∈p,Nm x.1)
  (hz:szw (sd (p.drop 1)) x.2=⟨a,b,D,w⟩) (o:more=0->bs.length<=5/\ws.length<=5/\a<=48/\b<=500/\D<=6/\w<=24/\∀y∈p,smB (szw [] y.2)=true)
  (u:more=1->(48<a\/500<b\/6<D\/24<w\/∃y∈p,smB (szw [] y.2)=false)\/(∃L:List Str,L.Nodup/\6<=L.length/\((∀y∈L,y∈(als p).flatMap bxs)\/∀y∈L,(∃a b c,(["pair",a,y,b,c]:Ln)∈als p)\/(["back",y]:Ln)∈als p))):Qh [Qx p] h=some (.bl (decide (more=0)),h):=by
 obtain⟨i,g,T,S,I,H,e⟩:=QiK t hN m A (by omega) (by omega) z hw r;rw[e,hz];congr 3
 rcases s with rfl|rfl
 ·obtain⟨R,Q,P,O,M,C,B⟩:=o rfl;have d:(p.all fun y=>smB (szw [] y.2))=true:=NP.mpr B;have G:i<=5:=by omega
  have F:g<=5:=by omega
  have E:smB ⟨a,b,D,w⟩=true:=by
   unfold smB;simp only[NH,decide_eq_true_eq];omega
  rw[d,E];simp[G,F,C]
 ·show _=false
  rcases u rfl with(q|q|q|q|q)|⟨L,j,J,f|f⟩
  ·have:smB ⟨a,b,D,w⟩=false:=by unfold smB;simp only[EL,decide_eq_false_iff_not];omega
   rw[this];simp
  ·have:smB ⟨a,b,D,w⟩=false:=by unfold smB;simp only[EL,decide_eq_false_iff_not];omega
   rw[this];simp
  ·have:smB ⟨a,b,D,w⟩=false:=by unfold smB;simp only[EL,decide_eq_false_iff_not];omega
   rw[this];simp
  ·have:¬w<=24:=by omega
   simp[this]
  ·obtain⟨y,l,e⟩:=q;have:(p.all fun y=>smB (szw [] y.2))=false:=Eh.mpr ⟨y,l,by rw[e];decide⟩;rw[this];simp
  ·have:=I L j f;have:¬i<=5:=by omega
   simp[this]
  ·have:=H L j f;have:¬g<=5:=by omega
   simp[this]
theorem nms{l:List Str}(h:l.all nmB=true):∀x∈l,Nm x:=fun x a=>nm_iff.mp (NP.mp h x a)
noncomputable abbrev QcS:Ln:=["none","x"]
noncomputable abbrev QgO:Ln:=["tell","x"]
noncomputable abbrev QgN:Ln:=["back","w"]
noncomputable abbrev doL(x:Str):Ln:=["do",x]
theorem V5{d:Sd}:Cl d [QcS] 1 0 0 0:=X8 (by decide) (by decide) rfl
theorem Qcl{d:Sd}:Cl d [QgO] 1 0 0 0:=X8 (by decide) (by decide) rfl
theorem GQ{d:Sd}:Cl d [QgN] 0 1 0 0:=X8 (by decide) (by decide) rfl
theorem Ve{x:Str}:Cl [] [doL x] 1 0 0 0:=X8 Qas (by decide) rfl
theorem XB{d:Sd}{x:Str}{a b D w:Int}(c:look d x=some ⟨a,b,D,w⟩)(e:0<=D):Cl d [doL x] a b D w:=X8 Qas e (by show(look d x).getD _=_;rw[c];rfl)
theorem Zs{bs ws la:List Str}{l:Ln}{n:Nat}(h:LineOk bs ws la l):∀y∈List.replicate n l,LineOk bs ws la y:=fun y a=>by rw[Ip a];exact h
theorem Zt{l:Ln}{n:Nat}(h:cdL l=.ot):Nt (List.replicate n l):=WX fun y a=>by rw[Ip a];exact h
theorem X3{bs ws la:List Str}{L M:List Ln}(h1:∀l∈L,LineOk bs ws la l)(b:∀l∈M,LineOk bs ws la l):∀l∈L++M,LineOk bs ws la l:=fun l a=>(NI.mp a).elim (h1 l) (b l)
theorem K2{la:List Str}:LineOk ["x"] ["w"] la QcS:=.plain (.none (by simp))
theorem QbR{la:List Str}:LineOk ["x"] ["w"] la QgO:=.plain (.tell (by simp))
theorem QbZ{la:List Str}:LineOk ["x"] ["w"] la QgN:=.back (by simp)
theorem Xy{la:List Str}{x:Str}(h:x∈la):LineOk ["x"] ["w"] la (doL x):=.do h
theorem Q7{a b D w:Int}(h1:a<=48)(d:b<=500)(c:D<=6):smB ⟨a,b,D,w⟩=true:=by
 unfold smB;simp only[NH,decide_eq_true_eq];exact⟨h1,d,c⟩
theorem Ko{a b D w:Int}(h:48<a\/500<b\/6<D):smB ⟨a,b,D,w⟩=false:=by
 unfold smB;simp only[EL,decide_eq_false_iff_not];omega
def AtB(f:FM):Prop:=∀(a:Int) (more:Nat),0<=a->(more=0\/more=1)->∃p,(∀h,f [.int a,.int more] h=some (Qx p,h))/\∀h,Qh [Qx p] h=some (.bl (decide (more=0)),h)
theorem k1:1<=sizeLine:=by decide
theorem k2:2<=sizeLine:=by decide
theorem k3:3<=sizeLine:=by decide
theorem k4:4<=sizeLine:=by decide
theorem szA{n m:Nat}(h:n<=1000)(h':m<=1000):n+m<=sizeLine:=Za (by omega)
theorem QgL{A B:List Ln}{a b:Str}:als [(a,A),(b,B)]=A++B:=by simp[als]
theorem Qim{A B C:List Ln}{a b c:Str}:als [(a,A),(b,B),(c,C)]=A++(B++C):=by simp[als]
theorem nmA:∀x∈[("x":Str)],Nm x:=nms (by decide +kernel)
theorem nmW:∀x∈[("w":Str)],Nm x:=nms (by decide +kernel)
theorem nm4:∀x∈[("a":Str),"b","c","d"],Nm x:=nms (by decide +kernel)
theorem nd2{A B:List Ln}:(([(("a":Str),A),("b",B)]:List Pt).map (·.1)).Nodup:=by show List.Nodup [("a":Str),"b"];decide
theorem nd3{A B C:List Ln}:(([(("a":Str),A),("b",B),("c",C)]:List Pt).map (·.1)).Nodup:=by show List.Nodup [("a":Str),"b","c"];decide
theorem Qp{d:Sd}{l:Ln}{a b w:Int}(h:Cl d [l] a b 0 w)(n:Nat):Cl d (List.replicate n l) (n*a) (n*b) 0 (n*w):=by
 have:=Qeb h n;rwa[show(if n=0 then(0:Int)else 0)=0 by split<;>rfl]at this
theorem Z1{x:Str}{L:List Ln}{r:List Pt}{a b D w:Int}(c:(((x,L)::r).map (·.1)).Nodup)(d:Cl (sd r) L a b D w):look (sd ((x,L)::r)) x=some ⟨a,b,D,1+w⟩:=by
 have:=YG (p:=(x,L)::r) (j:=0) (y:=(x,L)) c rfl;rw[this];show some (szw (sd r) L)=_;rw[QD d]
theorem Qgi{x y:Str}{L:List Ln}{r:List Pt}{z:Sz}(h:look (sd r) x=some z):look (sd ((y,L)::r)) x=some z:=by
 rw[sd,Kv,h];rfl
theorem QaL:AtB Zl:=fun b more O w=>by
 by_cases C:b%3=0
 ·obtain⟨t,F⟩:=UF (NR (b/3) (show(22:Int)≠0 by decide));have lt:=NM (b/3) (show(0:Int)<22 by decide);have e1:(1:Int)+b/3%22=((1+t:Nat):Int):=by omega
  have e2:(48:Int)-((1+t:Nat):Int)+(more:Int)=((47-t+more:Nat):Int):=by omega
  have l:=szA (n:=47-t+more) (m:=1+t) (by omega) (by omega);refine⟨[("a",List.replicate (47-t+more) QcS++List.replicate (1+t) (doL "b")),("b",[])],fun h=>Qe (g:=[]) (by simp[QQ,pur]) ?_ (by simp),fun h=>?_⟩
  ·have j:=fun(a:W) (h:MH)=>JG (a:=a) (n:=47-t+more) (h:=h) (by omega);have i:=fun(a:W) (h:MH)=>JG (a:=a) (n:=1+t) (h:=h) (by omega);simp[QT,Qw,C,e1,e2,j,i,l,k1,k2,Qx,Qn,Qg,-N2]
  ·have hd:=Z1 (x:="b") (L:=[]) (r:=[]) (by simp) Kf;have q:=ZW (Qp V5 (47-t+more)) (Qp (XB hd (by decide)) (1+t));have c:=ZW (Qp (V5 (d:=[])) (47-t+more)) (Qp (Ve (x:="b")) (1+t));refine JF (N:=100) (bs:=["x"]) (ws:=["w"]) w (JB ⟨⟨VC (Zt (by decide)) (Zt (by decide)),by simp;omega,X3 (Zs K2) (Zs (Xy (by simp)))⟩,⟨KN,by simp,by simp⟩,trivial⟩ (by simp) (by simp) nd2) (by decide) rfl (by rw[QgL];simp;omega) (by simp) (by simp) nmA nmW (by simp;exact⟨nm4 _ (by simp),nm4 _ (by simp)⟩) (QD q) (fun z=>⟨by simp,by simp,by omega,by omega,by omega,by omega,?_⟩) (fun z=>.inl (.inr (.inr (.inr (.inr ⟨_,Nr,?_⟩)))))
   ·intro y f;simp only[Nv,NQ,or_false]at f
    rcases f with rfl|rfl
    ·rw[QD c];exact Q7 (by omega) (by omega) (by omega)
    ·decide +kernel
   ·rw[QD c];exact Ko (by omega)
 ·by_cases H:b%3=1
  ·obtain⟨t,F⟩:=UF (NR (b/3) (show(5:Int)≠0 by decide));have lt:=NM (b/3) (show(0:Int)<5 by decide);have e1:(1:Int)+b/3%5=((1+t:Nat):Int):=by omega
   have e2:(48:Int)-4*((1+t:Nat):Int)+(more:Int)=((44-4*t+more:Nat):Int):=by omega
   have l:=szA (n:=2) (m:=44-4*t+more) (by omega) (by omega);refine⟨[("a",List.replicate 2 (doL "b")++List.replicate (44-4*t+more) QcS),("b",List.replicate 2 (doL "c")),("c",List.replicate (1+t) QcS)],fun h=>Qe (g:=[]) (by simp[QQ,pur]) ?_ (by simp),fun h=>?_⟩
   ·have v:=fun(a:W) (h:MH)=>JG (a:=a) (n:=2) (h:=h) (by omega);have j:=fun(a:W) (h:MH)=>JG (a:=a) (n:=44-4*t+more) (h:=h) (by omega);have i:=fun(a:W) (h:MH)=>JG (a:=a) (n:=1+t) (h:=h) (by omega);have s:∀(a:W) (h:MH),Zh (.tup [a]) (.int 2) h=some (.tup (List.replicate 2 a),h):=v;simp[QT,Qw,C,H,e1,e2,s,j,i,l,k1,k2,k3,Qx,Qn,Qg,-N2]
   ·have e:=fun d=>Qp (V5 (d:=d)) (1+t);have hd:=Z1 (x:="c") (r:=[]) (by simp) (e _);have B:=Qp (XB hd (by decide)) 2;have A:=Z1 (x:="b") (by show List.Nodup [("b":Str),"c"];decide) B;have q:=ZW (Qp (XB A (by decide)) 2) (Qp V5 (44-4*t+more));have c:=ZW (Qp (Ve (x:="b")) 2) (Qp (V5 (d:=[])) (44-4*t+more));refine JF (N:=100) (bs:=["x"]) (ws:=["w"]) w (JB ⟨⟨VC (Zt (by decide)) (Zt (by decide)),by simp;omega,X3 (Zs (Xy (by simp))) (Zs K2)⟩,⟨Zt (by decide),by simp,Zs (Xy (by simp))⟩,⟨Zt (by decide),by simp;omega,Zs K2⟩,trivial⟩ (by simp) (by simp) nd3) (by decide) rfl (by rw[Qim];simp;omega) (by simp) (by simp) nmA nmW (by simp;exact⟨nm4 _ (by simp),nm4 _ (by simp),nm4 _ (by simp)⟩) (QD q) (fun z=>⟨by simp,by simp,by omega,by omega,by omega,by omega,?_⟩) (fun z=>.inl (.inl (by omega)))
    ·intro y f;simp only[Nv,NQ,or_false]at f
     rcases f with rfl|rfl|rfl
     ·rw[QD c];exact Q7 (by omega) (by omega) (by omega)
     ·decide +kernel
     ·rw[QD (e [])];exact Q7 (by omega) (by omega) (by omega)
  ·obtain⟨t,F⟩:=UF (NR (b/3) (show(9:Int)≠0 by decide));have lt:=NM (b/3) (show(0:Int)<9 by decide);obtain⟨u,hu⟩:=UF (NR (b/27) (show(5:Int)≠0 by decide));have M:=NM (b/27) (show(0:Int)<5 by decide);have J:(1+t)*u<=36:=Nn (FK (show 1+t<=9 by omega) (show u<=4 by omega)) (by decide);generalize G:(1+t)*u=g at J;have p:((1+t:Nat):Int)*(u:Int)=(g:Int):=by rw[<-G];push_cast;rfl
   have e1:(1:Int)+b/3%9=((1+t:Nat):Int):=by omega
   have e2:(48:Int)-(g:Int)+(more:Int)=((48-g+more:Nat):Int):=by omega
   have l:=szA (n:=u) (m:=48-g+more) (by omega) (by omega);have I:∀h,Vh (.int ((1+t:Nat):Int)) (.int (u:Int)) h=some (.int (g:Int),h):=fun h=>by rw[<-p];exact Qa5 (by omega) (by omega)
   refine⟨[("a",List.replicate u (doL "b")++List.replicate (48-g+more) QcS),("b",List.replicate (1+t) QcS)],fun h=>Qe (g:=[]) (by simp[QQ,pur]) ?_ (by simp),fun h=>?_⟩
   ·have v:=fun(a:W) (h:MH)=>JG (a:=a) (n:=u) (h:=h) (by omega);have j:=fun(a:W) (h:MH)=>JG (a:=a) (n:=48-g+more) (h:=h) (by omega);have i:=fun(a:W) (h:MH)=>JG (a:=a) (n:=1+t) (h:=h) (by omega);simp[QT,Qw,C,H,e1,hu,I,e2,v,j,i,l,k1,k2,Qx,Qn,Qg,-N2]
   ·have e:=fun d=>Qp (V5 (d:=d)) (1+t);have hd:=Z1 (x:="b") (r:=[]) (by simp) (e _);have q:=ZW (Qp (XB hd (by decide)) u) (Qp V5 (48-g+more));have c:=ZW (Qp (Ve (x:="b")) u) (Qp (V5 (d:=[])) (48-g+more));have E:u<=g:=by rw[<-G];exact Nn (Nx (Nat.one_mul u).symm) (Nat.mul_le_mul_right u (by omega))
    have o:(u:Int)*(((1+t:Nat):Int)*1)=(g:Int):=by rw[Int.mul_one,Int.mul_comm];exact p
    refine JF (N:=100) (bs:=["x"]) (ws:=["w"]) w (JB ⟨⟨VC (Zt (by decide)) (Zt (by decide)),by simp;omega,X3 (Zs (Xy (by simp))) (Zs K2)⟩,⟨Zt (by decide),by simp;omega,Zs K2⟩,trivial⟩ (by simp) (by simp) nd2) (by decide) rfl (by rw[QgL];simp;omega) (by simp) (by simp) nmA nmW (by simp;exact⟨nm4 _ (by simp),nm4 _ (by simp)⟩) (QD q) (fun z=>⟨by simp,by simp,by rw[o];omega,by simp,by omega,by omega,?_⟩) (fun z=>.inl (.inl (by rw[o];omega)))
    ·intro y f;simp only[Nv,NQ,or_false]at f
     rcases f with rfl|rfl
     ·rw[QD c];exact Q7 (by omega) (by omega) (by omega)
     ·rw[QD (e [])];exact Q7 (by omega) (by omega) (by omega)
theorem Qcz:AtB ZD:=fun c more w l=>by
 by_cases p:c%3=0
 ·have e1:(23:Int)+(more:Int)=((23+more:Nat):Int):=by omega
  refine⟨[("a",List.replicate (23+more) (doL "b")),("b",[])],fun h=>Qe (g:=[]) (by simp[QQ,pur]) ?_ (by simp),fun h=>?_⟩
  ·have i:=fun(a:W) (h:MH)=>JG (a:=a) (n:=23+more) (h:=h) (by omega);simp[QZ,Qw,p,e1,i,k1,k2,Qx,Qn,Qg,-N2]
  ·have hd:=Z1 (x:="b") (L:=[]) (r:=[]) (by simp) Kf;have j:=Qp (XB hd (by decide)) (23+more);have b:=Qp (Ve (x:="b")) (23+more);refine JF (N:=100) (bs:=["x"]) (ws:=["w"]) l (JB ⟨⟨Zt (by decide),by simp;omega,Zs (Xy (by simp))⟩,⟨KN,by simp,by simp⟩,trivial⟩ (by simp) (by simp) nd2) (by decide) rfl (by rw[QgL];simp;omega) (by simp) (by simp) nmA nmW (by simp;exact⟨nm4 _ (by simp),nm4 _ (by simp)⟩) (QD j) (fun z=>⟨by simp,by simp,by omega,by omega,by omega,by omega,?_⟩) (fun z=>.inl (.inr (.inr (.inr (.inl (by omega))))));intro y d;simp only[Nv,NQ,or_false]at d
   rcases d with rfl|rfl
   ·rw[QD b];exact Q7 (by omega) (by omega) (by omega)
   ·decide +kernel
 ·by_cases s:c%3=1
  ·have e1:(22:Int)+(more:Int)=((22+more:Nat):Int):=by omega
   refine⟨[("a",[doL "b"]),("b",List.replicate (22+more) (doL "c")),("c",[])],fun h=>Qe (g:=[]) (by simp[QQ,pur]) ?_ (by simp),fun h=>?_⟩
   ·have i:=fun(a:W) (h:MH)=>JG (a:=a) (n:=22+more) (h:=h) (by omega);simp[QZ,Qw,p,s,e1,i,k1,k2,k3,Qx,Qn,Qg,-N2]
   ·have hd:=Z1 (x:="c") (L:=[]) (r:=[]) (by simp) Kf;have f:=Qp (XB hd (by decide)) (22+more);have e:=Z1 (x:="b") (by show List.Nodup [("b":Str),"c"];decide) f;have j:=XB e (by decide);have b:=Ve (x:="b");refine JF (N:=100) (bs:=["x"]) (ws:=["w"]) l (JB ⟨⟨Kg (by decide),by simp,by simp;exact Xy (by simp)⟩,⟨Zt (by decide),by simp;omega,Zs (Xy (by simp))⟩,⟨KN,by simp,by simp⟩,trivial⟩ (by simp) (by simp) nd3) (by decide) rfl (by rw[Qim];simp;omega) (by simp) (by simp) nmA nmW (by simp;exact⟨nm4 _ (by simp),nm4 _ (by simp),nm4 _ (by simp)⟩) (QD j) (fun z=>⟨by simp,by simp,by omega,by omega,by omega,by omega,?_⟩) (fun z=>.inl (.inr (.inr (.inr (.inl (by omega))))));intro y d;simp only[Nv,NQ,or_false]at d
    rcases d with rfl|rfl|rfl
    ·decide +kernel
    ·rw[QD (Qp (Ve (x:="c")) (22+more))];exact Q7 (by omega) (by omega) (by omega)
    ·decide +kernel
  ·have e1:(5:Int)+(more:Int)=((5+more:Nat):Int):=by omega
   have v:=szA (n:=3) (m:=5+more) (by omega) (by omega);refine⟨[("a",List.replicate 3 (doL "b")++List.replicate (5+more) (doL "c")),("b",List.replicate 5 (doL "c")),("c",[])],fun h=>Qe (g:=[]) (by simp[QQ,pur]) ?_ (by simp),fun h=>?_⟩
   ·have i:=fun(a:W) (h:MH)=>JG (a:=a) (n:=5+more) (h:=h) (by omega);have u:∀(a:W) (h:MH),Zh (.tup [a]) (.int 3) h=some (.tup (List.replicate 3 a),h):=fun a h=>JG (by decide);have t:∀(a:W) (h:MH),Zh (.tup [a]) (.int 5) h=some (.tup (List.replicate 5 a),h):=fun a h=>JG (by decide);simp[QZ,Qw,p,s,e1,i,u,t,v,k1,k2,k3,Qx,Qn,Qg,-N2]
   ·have hd:=Z1 (x:="c") (L:=[]) (r:=[]) (by simp) Kf;have f:=Qp (XB hd (by decide)) 5;have e:=Z1 (x:="b") (by show List.Nodup [("b":Str),"c"];decide) f;have o:=Qgi (y:="b") (L:=List.replicate 5 (doL "c")) hd;have j:=ZW (Qp (XB e (by decide)) 3) (Qp (XB o (by decide)) (5+more));have b:=ZW (Qp (Ve (x:="b")) 3) (Qp (Ve (x:="c")) (5+more));refine JF (N:=100) (bs:=["x"]) (ws:=["w"]) l (JB ⟨⟨VC (Zt (by decide)) (Zt (by decide)),by simp;omega,X3 (Zs (Xy (by simp))) (Zs (Xy (by simp)))⟩,⟨Zt (by decide),by simp,Zs (Xy (by simp))⟩,⟨KN,by simp,by simp⟩,trivial⟩ (by simp) (by simp) nd3) (by decide) rfl (by rw[Qim];simp;omega) (by simp) (by simp) nmA nmW (by simp;exact⟨nm4 _ (by simp),nm4 _ (by simp),nm4 _ (by simp)⟩) (QD j) (fun z=>⟨by simp,by simp,by omega,by omega,by omega,by omega,?_⟩) (fun z=>.inl (.inr (.inr (.inr (.inl (by omega))))));intro y d;simp only[Nv,NQ,or_false]at d
    rcases d with rfl|rfl|rfl
    ·rw[QD b];exact Q7 (by omega) (by omega) (by omega)
    ·decide +kernel
    ·decide +kernel
theorem QaD:AtB Zq:=fun b more h0 hm=>by
 obtain⟨o,ho⟩:=UF (NR b (show(7:Int)≠0 by decide));have lo:=NM b (show(0:Int)<7 by decide);obtain⟨q,hq⟩:=UF (NR (b/49) (show(7:Int)≠0 by decide));have lq:=NM (b/49) (show(0:Int)<7 by decide);have e1:(6:Int)-(o:Int)+(more:Int)=((6-o+more:Nat):Int):=by omega
 obtain⟨I,C,eI⟩:=YM (c:=b/7) (n:=6-o+more) (L:=[QgO]) (by omega) (by omega) (by simp);obtain⟨S,B,eS⟩:=YM (c:=b/5) (n:=q) (L:=[QcS]) (by omega) (by omega) (by simp);obtain⟨L,v,eL⟩:=YM (c:=b/3) (n:=o) (L:=[doL "b"]) (by omega) (by omega) (by simp);have lI:=WP C;have lS:=WP B;have lL:=WP v;simp at lI lS lL;have p:∀d,∃j,1<=j/\j<=1+3*((6-o+more:Nat):Int)/\Cl d I j 0 (0+((6-o+more:Nat):Int)) 0:=fun d=>Qcr Qcl C;have s:∀d,∃j,1<=j/\j<=1+3*(q:Int)/\Cl d S j 0 (0+(q:Int)) 0:=fun d=>Qcr V5 B;obtain⟨ai,i1,i2,E⟩:=p (sd []);have hd:=Z1 (x:="b") (r:=[]) (by simp) E;obtain⟨al,l1,l2,t⟩:=Qcr (XB hd (by omega)) v;obtain⟨as,s1,s2,e⟩:=s (sd [("b",I)]);obtain⟨aa,s3,s4,f⟩:=s [];obtain⟨ab,l3,l4,i⟩:=Qcr (Ve (x:="b")) v;obtain⟨ae,i3,i4,u⟩:=p []
 have key:∀A,(A=L++S\/A=S++L)->∃a D w H J M,Cl (sd [("b",I)]) A a 0 D w/\a<=48/\D=6+more/\w<=2/\Cl [] A H 0 J M/\H<=48/\J<=6/\Nt A/\A.length<=100/\∀l∈A,LineOk ["x"] ["w"] ["b"] l:=fun A G=>by
  have Q:=Qdw (Kg (by decide)) B;have R:=Qdw (Kg Qas) v;have O:∀l∈S,LineOk ["x"] ["w"] ["b"] l:=QdM (by simp;exact K2) B;have P:∀l∈L,LineOk ["x"] ["w"] ["b"] l:=QdM (by simp;exact Xy (by simp)) v
  rcases G with rfl|rfl
  ·exact⟨_,_,_,_,_,_,ZW t e,by omega,by omega,by omega,ZW i f,by omega,by omega,VC R Q,by simp;omega,X3 P O⟩
  ·exact⟨_,_,_,_,_,_,ZW e t,by omega,by omega,by omega,ZW f i,by omega,by omega,VC Q R,by simp;omega,X3 O P⟩
 have X:=szA (n:=L.length) (m:=S.length) (by omega) (by omega);have U:=szA (n:=S.length) (m:=L.length) (by omega) (by omega)
 obtain⟨A,G,eA⟩:∃A,(A=L++S\/A=S++L)/\atI [W.tup (L.map Qg++S.map Qg),.tup (S.map Qg++L.map Qg)] (b/343%2)=some (.tup (A.map Qg)):=by
  have:b/343%2=0\/b/343%2=1:=by omega
  rcases this with z|z
  ·exact⟨_,.inl rfl,by rw[z,NW];rfl⟩
  ·exact⟨_,.inr rfl,by rw[z,NW];rfl⟩
 obtain⟨a,D,w,H,J,M,hc,b1,b2,b3,F,b4,b5,b6,b7,b8⟩:=key A G;refine⟨[("a",A),("b",I)],fun h=>Qe (g:=[]) (by simp[QQ,pur]) ?_ (by simp),fun h=>?_⟩
 ·have fI:∀h,QI [.int (b/7),.int ((6-o+more:Nat):Int),.tup [.tup [.str "tell",.str "x"]]] h=some (.tup (I.map Qg),h):=eI;have fS:∀h,QI [.int (b/5),.int (q:Int),.tup [.tup [.str "none",.str "x"]]] h=some (.tup (S.map Qg),h):=eS;have fL:∀h,QI [.int (b/3),.int (o:Int),.tup [.tup [.str "do",.str "b"]]] h=some (.tup (L.map Qg),h):=eL;have Z:(L.map Qg).length+(S.map Qg).length<=sizeLine:=by simpa using X
  have Y:(S.map Qg).length+(L.map Qg).length<=sizeLine:=by simpa using U
  unfold Qx Qn;simp only[NK,Fy];generalize I.map Qg=WI at *;generalize S.map Qg=WS at *;generalize L.map Qg=WL at *;generalize A.map Qg=WA at *;simp[ZN,Qw,ho,hq,e1,fI,fS,fL,Z,Y,k1,k2,eA,-N2]
 ·refine JF (N:=100) (bs:=["x"]) (ws:=["w"]) hm (JB ⟨⟨b6,b7,b8⟩,⟨Qdw (Kg (by decide)) C,by simp;omega,QdM (by simp;exact QbR) C⟩,trivial⟩ (by simp) (by simp) nd2) (by decide) rfl (by rw[QgL];simp;omega) (by simp) (by simp) nmA nmW (by simp;exact⟨nm4 _ (by simp),nm4 _ (by simp)⟩) (QD hc) (fun z=>⟨by simp,by simp,by omega,by omega,by omega,by omega,?_⟩) (fun z=>.inl (.inr (.inr (.inl (by omega)))));intro y T;simp only[Nv,NQ,or_false]at T
  rcases T with rfl|rfl
  ·rw[QD F];exact Q7 (by omega) (by omega) (by omega)
  ·rw[QD u];exact Q7 (by omega) (by omega) (by omega)
theorem nd4{A B C D:List Ln}:(([(("a":Str),A),("b",B),("c",C),("d",D)]:List Pt).map (·.1)).Nodup:=by show List.Nodup [("a":Str),"b","c","d"];decide
theorem QmO{A B C D:List Ln}{a b c d:Str}:als [(a,A),(b,B),(c,C),(d,D)]=A++(B++(C++D)):=by simp[als]
theorem Qau:AtB Zp:=fun b more X A=>by
 obtain⟨f,e,i,U,D,O⟩:∃f e i:Nat,(f+e+i=more)/\(∀(o:MSt),QgM (Qb 2) (Qc Zy (Qb 0) (mC (.int 3))) (Qb 1) (some (.int b)::some (.int more)::some (.ref 0)::o) [.lst [.int 0,.int 0,.int 0]]=some (.nx (some (.int b)::some (.int more)::some (.ref 0)::o) [.lst [.int f,.int e,.int i]]))/\f<=1/\e<=1/\i<=1:=by
  have:b%3=0\/b%3=1\/b%3=2:=by omega
  rcases this with z|z|z
  ·exact⟨more,0,0,by simp,fun o=>by simp[z],by omega,by omega,by omega⟩
  ·exact⟨0,more,0,by simp,fun o=>by simp[z],by omega,by omega,by omega⟩
  ·exact⟨0,0,more,by simp,fun o=>by simp[z],by omega,by omega,by omega⟩
 obtain⟨I,s,Q⟩:=YM (c:=b/3) (n:=6+i) (L:=[QgO]) (by omega) (by omega) (by simp);have C:(6:Int)+(i:Int)=((6+i:Nat):Int):=by omega
 have B:∀h,QI [.int (b/3),.int ((6+i:Nat):Int),.tup [.tup [.str "tell",.str "x"]]] h=some (.tup (I.map Qg),h):=Q;have M:=WP s;simp at M
 by_cases E:b/3%2=0
 ·have J:=szA (n:=2) (m:=more) (by omega) (by omega);refine⟨[("a",List.replicate 2 (doL "b")++List.replicate more QgN),("b",List.replicate 5 (doL "c")),("c",List.replicate 50 QgN)],fun h=>Qe (g:=[.lst [.int f,.int e,.int i]]) (by simp[QQ,pur]) ?_ (by simp),fun h=>?_⟩
  ·have u:=fun(a:W) (h:MH)=>JG (a:=a) (n:=more) (h:=h) (by omega);have t:∀(a:W) (h:MH),Zh (.tup [a]) (.int 2) h=some (.tup (List.replicate 2 a),h):=fun a h=>JG (by decide);have H:∀(a:W) (h:MH),Zh (.tup [a]) (.int 5) h=some (.tup (List.replicate 5 a),h):=fun a h=>JG (by decide);have G:∀(a:W) (h:MH),Zh (.tup [a]) (.int 50) h=some (.tup (List.replicate 50 a),h):=fun a h=>JG (by decide);generalize I.map Qg=R at *;simp[-Qis,Ze,Qw,D,E,C,B,u,t,H,G,J,k1,k2,k3,Qx,Qn,Qg,-N2]
  ·have j:=fun d=>Qp (GQ (d:=d)) 50;have hd:=Z1 (x:="c") (r:=[]) (by simp) (j _);have l:=Qp (XB hd (by decide)) 5;have v:=Z1 (x:="b") (by show List.Nodup [("b":Str),"c"];decide) l;have P:=ZW (Qp (XB v (by decide)) 2) (Qp GQ more);have w:=ZW (Qp (Ve (x:="b")) 2) (Qp (GQ (d:=[])) more);refine JF (N:=100) (bs:=["x"]) (ws:=["w"]) A (JB ⟨⟨VC (Zt (by decide)) (Zt (by decide)),by simp;omega,X3 (Zs (Xy (by simp))) (Zs QbZ)⟩,⟨Zt (by decide),by simp,Zs (Xy (by simp))⟩,⟨Zt (by decide),by simp,Zs QbZ⟩,trivial⟩ (by simp) (by simp) nd3) (by decide) rfl (by rw[Qim];simp;omega) (by simp) (by simp) nmA nmW (by simp;exact⟨nm4 _ (by simp),nm4 _ (by simp),nm4 _ (by simp)⟩) (QD P) (fun z=>⟨by simp,by simp,by omega,by omega,by omega,by omega,?_⟩) (fun z=>.inl (.inr (.inl (by omega))));intro y p;simp only[Nv,NQ,or_false]at p
   rcases p with rfl|rfl|rfl
   ·rw[QD w];exact Q7 (by omega) (by omega) (by omega)
   ·rw[QD (Qp (Ve (x:="c")) 5)];exact Q7 (by omega) (by omega) (by omega)
   ·rw[QD (j [])];exact Q7 (by omega) (by omega) (by omega)
 ·have e1:(48:Int)+(f:Int)=((48+f:Nat):Int):=by omega
  have e2:(500:Int)+(e:Int)=((500+e:Nat):Int):=by omega
  refine⟨[("a",[]),("b",List.replicate (48+f) QgO),("c",List.replicate (500+e) QgN),("d",I)],fun h=>Qe (g:=[.lst [.int f,.int e,.int i]]) (by simp[QQ,pur]) ?_ (by simp),fun h=>?_⟩
  ·have u:=fun(a:W) (h:MH)=>JG (a:=a) (n:=48+f) (h:=h) (by omega);have t:=fun(a:W) (h:MH)=>JG (a:=a) (n:=500+e) (h:=h) (by omega);unfold Qx Qn;simp only[NK,Fy];generalize I.map Qg=R at *;simp[-Qis,Ze,Qw,D,E,C,e1,e2,B,u,t,k1,k2,k3,k4,Qg,-N2]
  ·have l:=Qp (Qcl (d:=[])) (48+f);have j:=Qp (GQ (d:=[])) (500+e);obtain⟨Y,T,S,q⟩:=Qcr (Qcl (d:=[])) s;refine JF (N:=1000) (bs:=["x"]) (ws:=["w"]) A (JB ⟨⟨KN,by simp,by simp⟩,⟨Zt (by decide),by simp;omega,Zs QbR⟩,⟨Zt (by decide),by simp;omega,Zs QbZ⟩,⟨Qdw (Kg (by decide)) s,by simp;omega,QdM (by simp;exact QbR) s⟩,trivial⟩ (by simp) (by simp) nd4) (by decide) rfl (by rw[QmO];simp;omega) (by simp) (by simp) nmA nmW (by simp;exact⟨nm4 _ (by simp),nm4 _ (by simp),nm4 _ (by simp),nm4 _ (by simp)⟩) (QD Kf) (fun z=>⟨by simp,by simp,by omega,by omega,by omega,by omega,?_⟩) (fun z=>.inl (.inr (.inr (.inr (.inr ?_)))))
   ·intro y p;simp only[Nv,NQ,or_false]at p
    rcases p with rfl|rfl|rfl|rfl
    ·decide +kernel
    ·rw[QD l];exact Q7 (by omega) (by omega) (by omega)
    ·rw[QD j];exact Q7 (by omega) (by omega) (by omega)
    ·rw[QD q];exact Q7 (by omega) (by omega) (by omega)
   ·have:f=1\/e=1\/i=1:=by omega
    rcases this with z|z|z
    ·exact⟨("b",List.replicate (48+f) QgO),by simp,by rw[QD l];exact Ko (by omega)⟩
    ·exact⟨("c",List.replicate (500+e) QgN),by simp,by rw[QD j];exact Ko (by omega)⟩
    ·exact⟨("d",I),by simp,by rw[QD q];exact Ko (by omega)⟩
theorem W7{bs ws:List Str}{L:List Ln}{t e more:Nat}{h:MH}(M:more=0\/more=1)(F:∀l∈L,GLn bs ws l)(f:L.length<=6)(he:e<=1)(hb:bs.length<=5+more)(hw:ws.length<=5+more)(H:∀x∈bs,Nm x)(G:∀x∈ws,Nm x)
  (j:more=1->∃N:List Str,N.Nodup/\6<=N.length/\((∀y∈N,∃l∈L,y∈bxs l)\/∀y∈N,(∃a b c,(["pair",a,y,b,c]:Ln)∈L)\/(["back",y]:Ln)∈L)) :
  Qh [Qx [("a",L.take t++List.replicate e (doL "b")),("b",L.drop t)]] h=some (.bl (decide (more=0)),h):=by
 have g1:∀l∈L.take t,GLn bs ws l:=fun l f=>F l (El f);have g2:∀l∈L.drop t,GLn bs ws l:=fun l f=>F l (Eu f);have E:(L.take t).length<=6:=by rw[Ef];omega
 have D:(L.drop t).length<=6:=by rw[Fo];omega
 obtain⟨Q,P,o,p1,p2,p3,p4⟩:=KJ (d:=sd []) g2;have hd:=Z1 (x:="b") (r:=[]) (by simp) o;obtain⟨a1,b1,v,q1,Z,Y,X⟩:=KJ (d:=sd [("b",L.drop t)]) g1;obtain⟨a3,b3,u,U,T,S,R⟩:=KJ (d:=[]) g1;have O:=ZW v (Qp (XB hd (by decide)) e);have w:=ZW u (Qp (Ve (x:="b")) e)
 have C:∀l∈L,l∈als [(("a":Str),L.take t++List.replicate e (doL "b")),("b",L.drop t)]:=fun l f=>by
  rw[QgL];rw[<-Ep t L]at f
  rcases NI.mp f with z|z
  ·exact N7 _ (N7 _ z)
  ·exact NF _ z
 have m:(e:Int)=0\/(e:Int)=1:=by omega
 have n:Cl [] (L.drop t) Q P 0 0:=o;have A:bs.length<=6:=by clear j;omega
 have p:ws.length<=6:=by clear j;omega
 have B:more=0->bs.length<=5:=fun z=>by clear j;omega
 have s:more=0->ws.length<=5:=fun z=>by clear j;omega
 refine JF (N:=100) (bs:=bs) (ws:=ws) M (JB ⟨⟨VC (WX fun l f=>GL (g1 l f)) (Zt (by decide)),by simp at E ⊢;omega,X3 (fun l f=>G3 (g1 l f)) (Zs (.do (by simp)))⟩,⟨WX fun l f=>GL (g2 l f),by simp at D ⊢;omega,fun l f=>G3 (g2 l f)⟩,trivial⟩ (by simp) (by simp) nd2) (by decide) rfl (by rw[QgL];simp at E D ⊢;omega) A p H G (by simp;exact⟨nm4 _ (by simp),nm4 _ (by simp)⟩) (QD O) (fun z=>⟨B z,s z,by rcases m with z|z<;>rw[z]<;>omega,by rcases m with z|z<;>rw[z]<;>omega,by omega,by omega,?_⟩) (fun z=>.inr ?_)
 ·intro y g;simp only[Nv,NQ,or_false]at g
  rcases g with rfl|rfl
  ·rw[QD w];exact Q7 (by omega) (by omega) (by omega)
  ·rw[QD n];exact Q7 (by omega) (by omega) (by omega)
 ·obtain⟨N,J,I,i⟩:=j z;refine⟨N,J,I,?_⟩
  rcases i with i|i
  ·exact .inl fun y g=>by
    obtain⟨l,f,g⟩:=i y g;exact Io.mpr ⟨l,C l f,g⟩
  ·exact .inr fun y g=>(i y g).imp (fun⟨a,b,c,q⟩=>⟨a,b,c,C _ q⟩) (C _)
noncomputable abbrev six:Str:="abcdef"
theorem U7{i:Int}{h:MH}(b:0<=i)(h1:i<6):wIx (.str six) (.int i) h=some (.str (ltr i),h):=by
 obtain⟨n,rfl⟩:=UF b;have a:six.length=6:=by decide +kernel
 refine QcD (by rw[a];decide) ?_;have e:six.cps.toList=(List.range 6).map (97+·):=by decide +kernel
 rw[Zz,e,Nu,Ey (by omega)];rfl
noncomputable def bxn(k:Int):Str:=("bx":Str)++ltr k
noncomputable def wdn(k:Int):Str:=("w":Str)++ltr k
noncomputable def bxN(n:Nat):List Str:=(List.range n).map fun(k:Nat)=>bxn k
noncomputable def wdN(n:Nat):List Str:=(List.range n).map fun(k:Nat)=>wdn k
theorem QaW:(bxN 5).all nmB=true/\(bxN 6).all nmB=true/\(bxN 6).Nodup:=by decide +kernel
theorem Qbk:(wdN 5).all nmB=true/\(wdN 6).all nmB=true/\(wdN 6).Nodup:=by decide +kernel
theorem Qfg(xs:List W)(t:Nat):W4 xs none (some (t:Int))=xs.take t:=by
 unfold W4;rw[HT.sIx_nat,HT.sIx_none,FP,Nat.sub_zero]
 by_cases h:t<=xs.length
 ·rw[ID h]
 ·rw[Oo (by omega),EK,E6 (by omega)]
theorem QaR{a:MA}{σ:MSt}{h h':MH}{i j:Nat}(e:a σ h=some ([.int i,.int j],h'))(c:i<=1000)(b:j<=1000):QgW a σ h=some (QO i (j-i),none,h'):=by
 unfold QgW;rw[e,Nq];refine(if_pos ⟨by omega,by omega,by omega,by omega⟩).trans ?_;rw[show((j:Int)-i).toNat=j-i by omega]
theorem WQ{L:List Ln}{near more:Int}{c:Int}(m:0<=near)(l:L.length<=6):∃t e:Nat,e<=1/\∀b h,QA (Zx 4 (Qc Zy (Qc JP (Qb 2) (mC (.int 6))) (mC (.int 7)))) (Q8 (mFn Qm (Qa (mFn Qm (Qa (mC (.str "a")) (Qa (Qc QW (mSl (Qb 3) Jp (Ju (Qb 4))) (Qc Zh (mFn Qm (Qa (mFn Qm (Qa (mC (.str "do")) (Qa (mC (.str "b")) Qd))) Qd)) (Qc Zy (Qc JP (Qb 2) (mC (.int 42))) (mC (.int 2))))) Qd))) (Qa (mFn Qm (Qa (mC (.str "b")) (Qa (mSl (Qb 3) (Ju (Qb 4)) Jp) Qd))) Qd)))) [some (.int c),some (.int more),some (.int near),some (.tup (L.map Qg)),b] h=some (.rt (Qx [("a",L.take t++List.replicate e (doL "b")),("b",L.drop t)]) h):=by
 obtain⟨t,f⟩:=UF (NR (near/6) (show(7:Int)≠0 by decide));have lt:=NM (near/6) (show(0:Int)<7 by decide);obtain⟨e,g⟩:=UF (NR (near/42) (show(2:Int)≠0 by decide));have le:=NM (near/42) (show(0:Int)<2 by decide);refine⟨t,e,by omega,fun b h=>?_⟩;have u:=fun(a:W) (h:MH)=>JG (a:=a) (n:=e) (h:=h) (by omega);have j:W4 (L.map Qg) none (some (t:Int))=(L.take t).map Qg:=by rw[Qfg,Lk]
 have i:W4 (L.map Qg) (some (t:Int)) none=(L.drop t).map Qg:=by rw[VZ,DK]
 have d:((L.take t).map Qg).length+e<=sizeLine:=Za (by rw[NB,Ef];omega);unfold Qx Qn;simp only[NK,Fy,NW,LL];generalize(L.take t).map Qg=A at *;generalize(L.drop t).map Qg=B at *;simp[f,g,u,j,i,d,k1,k2,Qg,-Lk,-DK]
theorem Qb9{c more:Int}{k:Int}{Q E:SM}{x:W}{r:Option (MF)}(z:c%6=k)(b:k≠0/\k≠1/\k≠2/\k≠3)(f:Q [some (.int c),some (.int more),some (.int (c/6)),none,none] []=some (.nx [some (.int c),some (.int more),some (.int (c/6)),some x,none] []))(g:E [some (.int c),some (.int more),some (.int (c/6)),some x,none] []=r) :
  (QA (Zx 2 (Qc JP (Qb 0) (mC (.int 6))))
  (QA (ZZ (Qr (Qc wEq (Qc Zy (Qb 0) (mC (.int 6))) (mC (.int 0)))) (Q8 (Qk 2 Zl (Qa (Qb 2) (Qa (Qb 1) Qd)))) QF)
  (QA (ZZ (Qr (Qc wEq (Qc Zy (Qb 0) (mC (.int 6))) (mC (.int 1)))) (Q8 (Qk 2 ZD (Qa (Qb 2) (Qa (Qb 1) Qd)))) QF)
  (QA (ZZ (Qr (Qc wEq (Qc Zy (Qb 0) (mC (.int 6))) (mC (.int 2)))) (Q8 (Qk 2 Zq (Qa (Qb 2) (Qa (Qb 1) Qd)))) QF)
  (QA (ZZ (Qr (Qc wEq (Qc Zy (Qb 0) (mC (.int 6))) (mC (.int 3)))) (Q8 (Qk 2 Zp (Qa (Qb 2) (Qa (Qb 1) Qd)))) QF)
  (QA Q E)))))) [some (.int c),some (.int more),none,none,none] []=r:=by
 have e:Zx 2 (Qc JP (Qb 0) (mC (.int 6))) [some (.int c),some (.int more),none,none,none] []=some (.nx [some (.int c),some (.int more),some (.int (c/6)),none,none] []):=by simp
 have a:∀(j:Int) (S:SM),k≠j->ZZ (Qr (Qc wEq (Qc Zy (Qb 0) (mC (.int 6))) (mC (.int j)))) S QF [some (.int c),some (.int more),some (.int (c/6)),none,none] []=some (.nx [some (.int c),some (.int more),some (.int (c/6)),none,none] []):=fun j S d=>by simp[z,d]
 exact Xc e (Xc (a 0 _ b.1) (Xc (a 1 _ b.2.1) (Xc (a 2 _ b.2.2.1) (Xc (a 3 _ b.2.2.2) (Xc f g)))))
theorem Us:AtB ZE:=fun c more T m=>by
 have s:0<=c/6:=by omega
 have R:c%6=0\/c%6=1\/c%6=2\/c%6=3\/c%6=4\/c%6=5:=by omega
 rcases R with z|z|z|z|z|z
 ·obtain⟨p,e,q⟩:=QaL (c/6) more s m;exact⟨p,fun h=>Qe (g:=[]) (by simp[QQ,pur]) (by simp[Zi,Qw,z,e]) (by simp),q⟩
 ·obtain⟨p,e,q⟩:=Qcz (c/6) more s m;exact⟨p,fun h=>Qe (g:=[]) (by simp[QQ,pur]) (by simp[Zi,Qw,z,e]) (by simp),q⟩
 ·obtain⟨p,e,q⟩:=QaD (c/6) more s m;exact⟨p,fun h=>Qe (g:=[]) (by simp[QQ,pur]) (by simp[Zi,Qw,z,e]) (by simp),q⟩
 ·obtain⟨p,e,q⟩:=Qau (c/6) more s m;exact⟨p,fun h=>Qe (g:=[]) (by simp[QQ,pur]) (by simp[Zi,Qw,z,e]) (by simp),q⟩
 ·have em:(5:Int)+(more:Int)=((5+more:Nat):Int):=by omega
  let L:List Ln:=(List.range (5+more)).map fun(k:Nat)=>(["none",bxn k]:Ln)
  have f:=Q3 (fin:=ZH) (mi:=Kc (Qa (Qc QW (mC (.int 5)) (Qb 1)) Qd)) (cp:=[none]) (me:=mFn Qm (Qa (mC (.str "none")) (Qa (Qc QW (mC (.str "bx")) (Qc wIx (mC (.str "abcdef")) (Qb 0))) Qd))) (σ:=[some (.int c),some (.int more),some (.int (c/6)),none,none]) (caps:=[]) (h:=[]) (items:=QO 0 (5+more)) (fun w=>match w with|.int k=>Qg ["none",bxn k]|w=>w) (Vt (j:=5+more) (by simp[em,-N2]) (by omega)) ⟨_,rfl⟩ (fun w hw=>by
   obtain⟨k,a,rfl⟩:=No.mp hw;have o:=NU.mp a;have x:∀h,wIx (.str six) (.int (0+(k:Int))) h=some (.str (ltr (0+(k:Int))),h):=fun h=>U7 (by omega) (by omega);rw[LN]at x ⊢;have A:("bx":Str).length+1<=sizeLine:=by decide +kernel
   simp[x,A,k2,bxn,Qg]) (by rw[Q6];exact Za (by omega))
  simp only[ZH]at f;have I:(QO 0 (5+more)).map (fun w=>match w with|.int k=>Qg ["none",bxn k]|w=>w)=L.map Qg:=by simp[JA,L,Dz]
  rw[I]at f;have d:L.length=5+more:=by simp[L]
  obtain⟨t,e,E,F⟩:=WQ (L:=L) (near:=c/6) (more:=more) (c:=c) s (by omega);refine⟨[("a",L.take t++List.replicate e (doL "b")),("b",L.drop t)],fun h=>Qe (g:=[]) (by simp[QQ,pur]) ?_ (by simp),fun h=>W7 (bs:=bxN (5+more)) (ws:=["w"]) m (fun l d=>?_) (by omega) E (by simp[bxN]) (by simp;omega) (nms ?_) nmW (fun z=>?_)⟩
  ·have u:∀h,Vf [.lst (L.map Qg)] h=some (.tup (L.map Qg),h):=fun h=>rfl;refine QgF (Qb9 z (by decide) ?_ (F none []));generalize L.map Qg=G at f u;simp[z,f,u]
  ·obtain⟨k,a,rfl⟩:=No.mp d;exact .inl (.none (No.mpr ⟨k,a,rfl⟩))
  ·rcases m with rfl|rfl
   ·exact QaW.1
   ·exact QaW.2.1
  ·subst z;refine⟨bxN 6,QaW.2.2,by simp[bxN],.inl fun y C=>?_⟩;obtain⟨k,a,rfl⟩:=No.mp C;exact⟨["none",bxn k],No.mpr ⟨k,a,rfl⟩,by simp[bxs]⟩
 ·have em:(5:Int)+(more:Int)=((5+more:Nat):Int):=by omega
  obtain⟨r,hr⟩:=UF (NR (c/6) (show(6:Int)≠0 by decide));have S:=NM (c/6) (show(0:Int)<6 by decide)
  let L1:List Ln:=(List.range r).map fun(k:Nat)=>(["pair","x",wdn k,"x","x"]:Ln)
  let L2:List Ln:=(List.range (5+more-r)).map fun(k:Nat)=>(["back",wdn (r+k)]:Ln)
  have A:("w":Str).length+1<=sizeLine:=by decide +kernel
  have Q:5<=sizeLine:=by decide
  have x:∀(k:Nat) h,k<6->wIx (.str six) (.int (k:Int)) h=some (.str (ltr (k:Int)),h):=fun k h a=>U7 (by omega) (by omega)
  have f:=Q3 (fin:=ZH) (mi:=Kc (Qa (Qc Zy (Qb 2) (mC (.int 6))) Qd)) (cp:=[none]) (me:=mFn Qm (Qa (mC (.str "pair")) (Qa (mC (.str "x")) (Qa (Qc QW (mC (.str "w")) (Qc wIx (mC (.str "abcdef")) (Qb 0))) (Qa (mC (.str "x")) (Qa (mC (.str "x")) Qd)))))) (σ:=[some (.int c),some (.int more),some (.int (c/6)),none,none]) (caps:=[]) (h:=[]) (items:=QO 0 r) (fun w=>match w with|.int k=>Qg ["pair","x",wdn k,"x","x"]|w=>w) (Vt (j:=r) (by simp[hr]) (by omega)) ⟨_,rfl⟩ (fun w hw=>by
   obtain⟨k,a,rfl⟩:=No.mp hw;have o:=NU.mp a;have J:=fun h=>x k h (by omega);rw[LN]
   simp[J,A,Q,wdn,Qg]) (by rw[Q6];exact Za (by omega))
  have b:=Q3 (fin:=ZH) (mi:=QgW (Qa (Qc Zy (Qb 2) (mC (.int 6))) (Qa (Qc QW (mC (.int 5)) (Qb 1)) Qd))) (cp:=[none]) (me:=mFn Qm (Qa (mC (.str "back")) (Qa (Qc QW (mC (.str "w")) (Qc wIx (mC (.str "abcdef")) (Qb 0))) Qd))) (σ:=[some (.int c),some (.int more),some (.int (c/6)),some (.lst (L1.map Qg)),none]) (caps:=[]) (h:=[]) (items:=QO r (5+more-r)) (fun w=>match w with|.int k=>Qg ["back",wdn k]|w=>w) (QaR (i:=r) (j:=5+more) (by simp[hr,em,-N2]) (by omega) (by omega)) ⟨_,rfl⟩ (fun w hw=>by
   obtain⟨k,a,rfl⟩:=No.mp hw;have o:=NU.mp a;have J:=fun h=>x (r+k) h (by omega);rw[show((r:Int)+(k:Int))=((r+k:Nat):Int) by omega]
   simp[J,A,k2,wdn,Qg,-N2]) (by rw[Q6];exact Za (by omega))
  simp only[ZH]at f b;have I:(QO 0 r).map (fun w=>match w with|.int k=>Qg ["pair","x",wdn k,"x","x"]|w=>w)=L1.map Qg:=by simp[JA,L1,Dz]
  have H:(QO r (5+more-r)).map (fun w=>match w with|.int k=>Qg ["back",wdn k]|w=>w)=L2.map Qg:=by simp[JA,L2,Dz]
  rw[I]at f;rw[H]at b;have d:(L1++L2).length=5+more:=by simp[L1,L2];omega
  obtain⟨t,e,E,F⟩:=WQ (L:=L1++L2) (near:=c/6) (more:=more) (c:=c) s (by omega);refine⟨[("a",(L1++L2).take t++List.replicate e (doL "b")),("b",(L1++L2).drop t)],fun h=>Qe (g:=[]) (by simp[QQ,pur]) ?_ (by simp),fun h=>W7 (bs:=["x"]) (ws:=wdN (5+more)) m (fun l d=>?_) (by omega) E (by simp;omega) (by simp[wdN]) nmA (nms ?_) (fun z=>?_)⟩
  ·have u:∀h,Vf [.lst (L1.map Qg++L2.map Qg)] h=some (.tup (L1.map Qg++L2.map Qg),h):=fun h=>rfl;have B:(L1.map Qg).length+(L2.map Qg).length<=sizeLine:=Za (by simp[L1,L2];omega);refine QgF (Qb9 z (by decide) ?_ (F none []));rw[NW];generalize L1.map Qg=U at f b u B;generalize L2.map Qg=G2 at b u B;simp[z,f,b,u,B]
  ·rcases NI.mp d with d|d
   ·obtain⟨k,a,rfl⟩:=No.mp d;have:=NU.mp a;exact .inl (.pair (by simp) (No.mpr ⟨k,NU.mpr (by omega),rfl⟩) (by simp) (by simp))
   ·obtain⟨k,a,rfl⟩:=No.mp d;have:=NU.mp a;exact .inr ⟨_,No.mpr ⟨r+k,NU.mpr (by omega),rfl⟩,by push_cast;rfl⟩
  ·rcases m with rfl|rfl
   ·exact Qbk.1
   ·exact Qbk.2.1
  ·subst z;refine⟨wdN 6,Qbk.2.2,by simp[wdN],.inr fun y C=>?_⟩;obtain⟨k,a,rfl⟩:=No.mp C;have o:=NU.mp a
   by_cases D:k<r
   ·exact .inl ⟨"x","x","x",N7 _ (No.mpr ⟨k,NU.mpr D,rfl⟩)⟩
   ·refine .inr (NF _ (No.mpr ⟨k-r,NU.mpr (by omega),?_⟩));rw[show((r:Int)+((k-r:Nat):Int))=(k:Int) by omega]
open Classical in
noncomputable def fP(u:W):Bool:=decide (Qi [u] []=some (.bl true,[]))
open Classical in
noncomputable def fL(u:W):Bool:=decide (Qt [u] []=some (.bl true,[]))
def Has(f:FM)(u:W)(b:Bool):Prop:=∀h,f [u] h=some (.bl b,h)
theorem Qhn{u:W}{b:Bool}(h:Has Qi u b):fP u=b:=by
 have e:=h [];unfold fP;rw[e];cases b<;>simp
theorem QfV{u:W}{b:Bool}(h:Has Qt u b):fL u=b:=by
 have e:=h [];unfold fL;rw[e];cases b<;>simp
theorem GK{us:List W}{w:W}(c:QQ us=true)(h1:1<=us.length)(g:us.length<=5)(hu:∀u∈us,∃b,Has Qi u b)(hw:w∈us)(d:Has Qi w false):Has Qh (.tup us) false:=fun h=>
 Qbq (f:=fP) c h1 g (fun u a h=>by obtain⟨b,e⟩:=hu u a;rw[Qhn e];exact e h) (Eh.mpr ⟨w,hw,by rw[Qhn d];decide⟩)
theorem Qdp{a:W}{us:List W}{w:W}(l:pur a=true)(d:QQ us=true)(i:us.length<=1000)(g:Has Qs a true)(hu:∀u∈us,∃b,Has Qt u b)(hw:w∈us)(j:Has Qt w false):Has Qi (.tup [a,.tup us]) false:=fun h=>
 Qcv (f:=fL) (b:=false) l d i g (fun u c h=>by obtain⟨b,e⟩:=hu u c;rw[QfV e];exact e h) fun z=>absurd (NP.mp z w hw) (by rw[QfV j];decide)
theorem QdC{a:W}{us:List W}(j:pur a=true)(d:QQ us=true)(g:us.length<=1000)(e:Has Qs a true)(hu:∀u∈us,Has Qt u true)(i:Has QX (.tup us) false):Has Qi (.tup [a,.tup us]) false:=fun h=>
 Qcv (f:=fL) (b:=false) j d g e (fun u c h=>by rw[QfV (hu u c)];exact hu u c h) fun z=>i
theorem purs_iff:∀{ws:List W},QQ ws=true↔∀w∈ws,pur w=true
 |[]=>by simp
 |w::ws=>by rw[QfM,NH,purs_iff];simp
theorem VI{p:List Pt}{w:W}{t s:Nat}(hw:pur w=true):QQ ((p.map Qn).take t++[w]++(p.map Qn).drop s)=true:=by
 have h:=purs_iff.mp (K4 (ls:=p));refine purs_iff.mpr fun u hu=>?_
 rcases NI.mp hu with z|z
 ·rcases NI.mp z with z|z
  ·exact h u (El z)
  ·rw[NE.mp z];exact hw
 ·exact h u (Eu z)
section
variable{B Wd:List Str}{p:List Pt}
theorem Gen.part(g:Gen B Wd p){x:Pt}(a:x∈p):Has Qi (Qn x) true:=fun h=>by
 exact Yw g.good (by decide) g.bn g.wn (fun x a=>(g.pn x a).1) _ (DN a) h
theorem Gen.line(g:Gen B Wd p){x:Pt}{l:Ln}(b:x∈p)(d:l∈x.2):Has Qt (Qg l) true:=fun h=>by
 obtain⟨i,e⟩:=ND.mp b
 exact Qcw g.bn g.wn (fun z a=>by
   obtain⟨q,c,rfl⟩:=No.mp (Eu a)
   exact(g.pn q c).1) (g.good.ok i x e l d)
theorem Gen.lens(g:Gen B Wd p){x:Pt}(a:x∈p):3<=x.2.length/\x.2.length<=7:=by
 obtain⟨i,b⟩:=ND.mp a;exact WM (g.sh i x b)
theorem KT{x:Str}{es:List Str}(d:nmB x=false)(e:x.length<=1000):Has Qi (Qg (x::es)) false:=fun h=>by
 by_cases c:es.length=1
 ·match es,c with
  |[y],_=>exact UC (a:=.str x) (b:=.str y) rfl rfl fun h=>by rw[Qfq e,d]
 ·exact J0 (us:=.str x::es.map .str) (by simp) (by simp;exact c)
theorem Qb5{bs ws la:List Str}{l:Ln}(b:LineOk bs ws la l):Has Qi (Qg l) false:=by
 cases b with
 |plain b=>
  cases b with
  |same a d=>exact fun h=>J0 (us:=[.str "same",.str _,.str _]) (by simp) (by simp)
  |_=>exact KT (by decide +kernel) (by decide +kernel)
 |«do» a=>exact KT (by decide +kernel) (by decide +kernel)
 |blk a=>exact fun h=>J0 (us:=[.str _]) (by simp) (by simp)
 |back a=>exact KT (by decide +kernel) (by decide +kernel)
theorem Qad{w:W}{t:Nat}(hw:pur w=true)(e:t<=5)(f:p.length<=5)(h:MH):Zr [Qx p,.int t,w] h=some (.tup ((p.map Qn).take t++[w]++(p.map Qn).drop (t+1)),h):=by
 refine Qe (g:=[]) (by simp[QQ,pur,hw]) ?_ (by rw[Y2];exact VI hw);have d:=Qfg (p.map Qn) t;have c:W4 (p.map Qn) (some ((t:Int)+1)) none=(p.map Qn).drop (t+1):=VZ (p.map Qn) (t+1);have b:((p.map Qn).take t).length+1<=sizeLine:=Za (by rw[Ef,NB];omega);have a:((p.map Qn).take t).length+1+((p.map Qn).drop (t+1)).length<=sizeLine:=Za (by rw[Ef,Fo,NB];omega);unfold Qx;generalize(p.map Qn).take t=A at *;generalize(p.map Qn).drop (t+1)=C at *;generalize p.map Qn=G at *;simp[VP,Qw,d,c,b,a,k1]
theorem UW(g:Gen B Wd p){w:W}{t:Nat}(c:t<p.length)(hw:pur w=true)(a:Has Qi w false):Has Qh (.tup ((p.map Qn).take t++[w]++(p.map Qn).drop (t+1))) false:=by
 have d:=g.len.2;refine GK (w:=w) (VI hw) (by simp;omega) (by simp;omega) (fun u hu=>?_) (by simp) a
 have:u=w\/u∈p.map Qn:=by
  rcases NI.mp hu with z|z
  ·rcases NI.mp z with z|z
   ·exact .inr (El z)
   ·exact .inl (NE.mp z)
  ·exact .inr (Eu z)
 rcases this with rfl|z
 ·exact⟨false,a⟩
 ·obtain⟨x,b,rfl⟩:=No.mp z;exact⟨true,g.part b⟩
end
theorem Qe1{bs ws la a:List Str}{l:Ln}(h:LineOk bs ws la l)(b:∀x∈la,x∈a):LineOk bs ws a l:=by
 cases h with
 |plain h=>exact .plain h
 |«do» h=>exact .do (b _ h)
 |blk h=>exact .blk h
 |back h=>exact .back h
section
variable{B Wd:List Str}{p:List Pt}
theorem QfI{y:Pt}{t:Nat}(a:t<p.length):(p.map Qn).take t++[Qn y]++(p.map Qn).drop (t+1)=(p.set t y).map Qn:=by
 rw[ON,List.set_eq_take_append_cons_drop,if_pos (by simpa using a)];simp
theorem Qhz(g:Gen B Wd p){t:Nat}{x:Pt}{w0:Str}(m:p[t]?=some x)(hw:Nm w0)(E:w0∉(p.map (·.1)).drop (t+1)):Has Qh (.tup ((p.map Qn).take t++[Qn (x.1,x.2++[doL w0])]++(p.map Qn).drop (t+1))) false:=fun h=>by
 have A:=(Nj.mp m).1;have C:=g.len;rw[QfI A];generalize w:(x.1,x.2++[doL w0])=y;have s:y.1=x.1:=by rw[<-w]
 have e:y.2=x.2++[doL w0]:=by rw[<-w]
 have c:(p.set t y).map (·.1)=p.map (·.1):=by
  rw[ON,s];have:(p.map (·.1))[t]?=some x.1:=by rw[Nu,m];rfl
  obtain⟨G,F⟩:=Nj.mp this;rw[<-F];exact List.set_getElem_self G
 have n:=NN m;have J:=g.lens n;have b:∀z∈p.set t y,z∈p\/z=y:=fun z a=>List.mem_or_eq_of_mem_set a;have r:(p.set t y)[t]?=some y:=by rw[E4 A]
 have H:Has QB (Qx (p.set t y)) false:=fun h=>Qbs (i:=t) (x:=y) (w0:=w0) (by simp;omega) (by rw[c];exact g.nd) r (fun z a=>by
   rcases b z a with q|rfl
   ·have:=g.lens q;omega
   ·rw[e];simp;omega) (fun j z M a l d=>by
   rw[Di (by omega)]at a;rw[c];exact Qcd (g.good.ok j z a l d)) (fun l d=>by
   rw[e]at d
   rcases NI.mp d with q|q
   ·exact QgH (g.good.ok t x m l q)
   ·rw[NE.mp q];exact⟨"do",[w0],rfl,fun _=>⟨w0,rfl⟩⟩) (by rw[e];simp) (by rw[c];exact E)
 refine Wf (us:=(p.set t y).map Qn) (f:=fun _=>true) K4 (by simp;omega) (by simp;omega) (fun u hu=>?_) (fun _=>⟨false,false,H,(fun z=>by cases z),rfl⟩) (fun z=>by simp at z);obtain⟨z,a,rfl⟩:=No.mp hu
 rcases b z a with q|rfl
 ·exact g.part q
 ·intro h;refine Qbr (la:=w0::(p.map (·.1)).drop (t+1)) g.bn g.wn (fun v o=>?_) (by rw[s];exact(g.pn x n).1) (fun l d=>?_) ?_ (by rw[e];simp;omega)
  ·rcases Nv.mp o with rfl|o
   ·exact hw
   ·obtain⟨q,D,rfl⟩:=No.mp (Eu o);exact(g.pn q D).1
  ·rw[e]at d
   rcases NI.mp d with q|q
   ·exact Qe1 (g.good.ok t x m l q) fun v o=>Np _ o
   ·rw[NE.mp q];exact .do Nr
  ·rw[e];exact VC (Y8 (g.sh t x m)) (Kg Qas) []
theorem Qfa(g:Gen B Wd p){x:Pt}(c:p[0]?=some x):Has Qh (.tup ((p.map Qn).take 4++[Qn ((x.1,[]):Pt)])) false:=fun h=>by
 have d:=g.len;have a:=NN c;have e:(p.map Qn).take 4++[Qn ((x.1,[]):Pt)]=(p.take 4++[((x.1,[]):Pt)]).map Qn:=by simp
 rw[e]
 have b:¬((p.take 4++[((x.1,[]):Pt)]).map (·.1)).Nodup:=fun z=>by
  rw[NW]at z;have:=(DA.mp z).2.2 x.1 (No.mpr ⟨x,?_,rfl⟩) x.1 (by simp)
  ·exact this rfl
  ·refine NN (i:=0) ?_;rw[DV (by decide)];exact c
 refine Wf (us:=(p.take 4++[((x.1,[]):Pt)]).map Qn) (f:=fun _=>true) K4 (by simp) (by simp;omega) (fun u hu=>?_) (fun _=>⟨false,false,fun h=>QbN (by simp;omega) b,(fun z=>by cases z),rfl⟩) (fun z=>by simp at z);obtain⟨z,j,rfl⟩:=No.mp hu
 rcases NI.mp j with q|q
 ·exact g.part (El q)
 ·rw[NE.mp q];intro h;exact Qbr (la:=[]) g.bn g.wn (by simp) (g.pn x a).1 (by simp) rfl (by simp)
theorem Gen.name(g:Gen B Wd p){x:Pt}(a:x∈p):Has Qs (.str x.1) true:=fun h=>QcF (g.pn x a).1
theorem Wj(g:Gen B Wd p){x:Pt}{w:W}(a:x∈p)(hw:pur w=true)(b:Has Qt w false):Has Qi (.tup [.str x.1,.tup (x.2.map Qg++[w])]) false:=
 Qdp (w:=w) rfl (by simp[hw]) (by have:=g.lens a;simp;omega) (g.name a) (fun u hu=>by
  rcases NI.mp hu with z|z
  ·obtain⟨l,c,rfl⟩:=No.mp z;exact⟨true,g.line a c⟩
  ·rw[NE.mp z];exact⟨false,b⟩) (by simp) b
theorem WC(g:Gen B Wd p){x:Pt}{l:Ln}(a:x∈p)(b:Has Qt (Qg l) true)(c:Has QX (.tup ((x.2++[l]).map Qg)) false):Has Qi (.tup [.str x.1,.tup (x.2.map Qg++[Qg l])]) false:=by
 rw[NW]at c
 exact QdC rfl (by simp) (by have:=g.lens a;simp;omega) (g.name a) (fun u hu=>by
  rcases NI.mp hu with z|z
  ·obtain⟨l,b,rfl⟩:=No.mp z;exact g.line a b
  ·rw[NE.mp z];exact b) c
theorem Gen.blk(g:Gen B Wd p){x:Pt}{l:Ln}(c:x∈p)(a:l=(["again"]:Ln)\/l=orL\/l=WJ):Has QX (.tup ((x.2++[l]).map Qg)) false:=by
 obtain⟨i,f⟩:=ND.mp c;have d:=Y8 (g.sh i x f);have e:=g.lens c;have b:∀l∈x.2,∃y r,l=y::r:=fun l a=>Uh (g.good.ok i x f l a)
 rcases a with rfl|a
 ·intro h
  have j:XY ((x.2++[(["again"]:Ln)]).map cdL) []=some [.ag]:=by
   rw[NW,JK,d []];rfl
  have:=Qe2 (h:=h) j (by simp;omega) (fun l a=>by
   rcases NI.mp a with z|z
   ·exact b l z
   ·rw[NE.mp z];exact⟨_,_,rfl⟩)
  simpa using this
 ·exact fun h=>Qaq (d []) (by omega) b a
end
theorem Qcj{l:List Str}{a:Str}{t s:Nat}(d:l.Nodup)(b:l[t]?=some a)(f:t<=s):a∉l.drop (s+1):=fun e=>by
 obtain⟨j,c⟩:=ND.mp e;rw[D1]at c;have:=(LX (Nj.mp b).1 d).mp (b.trans c.symm);omega
section
variable{B Wd:List Str}{p:List Pt}
theorem KA(g:Gen B Wd p){c:Int}(hc:0<=c):∃w,(∀h,ZG [Qx p,.int c] h=some (w,h))/\pur w=true/\Has Qh w false:=by
 have q:=g.len;have F:(0:Int)<p.length:=by omega
 obtain⟨t,H⟩:=UF (NR (c/9) (show(p.length:Int)≠0 by omega));have lt:=NM (c/9) F;rw[H]at lt;have o:t<p.length:=by omega
 obtain⟨x,r⟩:∃x,p[t]?=some x:=⟨_,Nk o⟩
 obtain⟨f,D⟩:∃f,p[0]?=some f:=⟨_,Nk (by omega)⟩
 have a:=NN r;have C:=NN D;have lx:=g.lens a;have nx:(p.map (·.1))[t]?=some x.1:=by rw[Nu,r];rfl
 have N:(p.map (·.1))[0]?=some f.1:=by rw[Nu,D];rfl
 have X:∀j:Str,Qn (x.1,x.2++[doL j])=.tup [.str x.1,.tup (x.2.map Qg++[Qg (doL j)])]:=fun j=>by unfold Qn;rw[NW];rfl
 have bad:∀j:Str,Nm j->j∉(p.map (·.1)).drop (t+1)->pur (Qg (doL j))=true/\Has Qh (.tup ((p.map Qn).take t++[.tup [.str x.1,.tup (x.2.map Qg++[Qg (doL j)])]]++(p.map Qn).drop (t+1))) false:=fun j s E=>⟨by simp[Qg,pur],by rw[<-X];exact Qhz g r s E⟩
 have odd:∀m:W,pur m=true->Has Qi (.tup [.str x.1,.tup (x.2.map Qg++[m])]) false->pur m=true/\Has Qh (.tup ((p.map Qn).take t++[.tup [.str x.1,.tup (x.2.map Qg++[m])]]++(p.map Qn).drop (t+1))) false:=fun m s E=>⟨s,UW g o (by simp[s,pur]) E⟩
 have M:("qqq":Str)∉(p.map (·.1)).drop (t+1):=fun z=>by
  obtain⟨y,S,e⟩:=No.mp (Eu z);exact(g.pn y S).2 e
 have d:∀l:Ln,(l=(["again"]:Ln)\/l=orL\/l=WJ)->Has Qt (Qg l) true:=fun l T h=>by
  refine Qcw (bs:=[]) (ws:=[]) (la:=[]) (by simp) (by simp) (by simp) (?_:LineOk [] [] [] l)
  rcases T with rfl|rfl|rfl<;>exact .blk (by simp)
 obtain⟨m,_,⟨A,v⟩,em⟩:=QaF (xs:=([Qg (doL x.1),Qg (doL f.1),Qg (doL "qqq"),Qg ["tell"],Qg ["again"],Qg orL,.lst [.str "tell",.str f.1],Qg ["do","none"],Qg WJ]:List W)) (i:=c%9) (f:=fun w=>w) (P:=fun m=>pur m=true/\Has Qh (.tup ((p.map Qn).take t++[.tup [.str x.1,.tup (x.2.map Qg++[m])]]++(p.map Qn).drop (t+1))) false) (NR _ (by decide)) (by have:=NM c (b:=9) (by decide);simpa using this) (by
  intro m I;simp only[Nv,NQ,or_false]at I
  rcases I with rfl|rfl|rfl|rfl|rfl|rfl|rfl|rfl|rfl
  ·exact bad _ (g.pn x a).1 (Qcj g.nd nx (Nw _))
  ·exact bad _ (g.pn f C).1 (Qcj g.nd N (Ei _))
  ·exact bad _ (nm_iff.mp (by decide +kernel)) M
  ·exact odd _ (by simp[Qg]) (Wj g a (by simp[Qg]) fun h=>Qdh (i:=1) (by decide +kernel) (by decide) (by decide))
  ·exact odd _ (by simp[Qg]) (WC g a (d _ (.inl rfl)) (g.blk a (.inl rfl)))
  ·exact odd _ (by simp[Qg]) (WC g a (d _ (.inr (.inl rfl))) (g.blk a (.inr (.inl rfl))))
  ·exact odd _ (by simp[pur]) (Wj g a (by simp[pur]) fun h=>Qd2 (KH (by simp[pur])))
  ·exact odd _ (by simp[Qg]) (Wj g a (by simp[Qg]) fun h=>U4)
  ·exact odd _ (by simp[Qg]) (WC g a (d _ (.inr (.inr rfl))) (g.blk a (.inr (.inr rfl)))))
 have n:pur (.tup [.str x.1,.tup (x.2.map Qg++[m])])=true:=by simp[A,pur]
 refine⟨_,fun h=>Qe (g:=[]) (by simp[QQ,pur]) ?_ (by rw[Y2];exact VI n),by rw[Y2];exact VI n,v⟩;have J:=Qad (w:=.tup [.str x.1,.tup (x.2.map Qg++[m])]) (t:=t) n (by omega) q.2;have O:∀i h,Zy (.int i) (.int (p.length:Int)) h=some (.int (i%(p.length:Int)),h):=fun i h=>KW F;have U:∀h,VX [Qx p] h=some (.int p.length,h):=fun h=>by unfold Qx;simp
 have Y:atI (p.map Qn) (t:Int)=some (Qn x):=YH r;have Z:atI (p.map Qn) 0=some (Qn f):=YH D;have L:(x.2.map Qg).length+1<=sizeLine:=Za (by simp;omega);have Q:9<=sizeLine:=by decide
 simp[Qg]at em;generalize(p.map Qn).take t++[.tup [.str x.1,.tup (x.2.map Qg++[m])]]++(p.map Qn).drop (t+1)=R at J ⊢;have u:∀h,wIx (Qn x) (.int 1) h=some (.tup (x.2.map Qg),h):=fun h=>Ym;generalize x.2.map Qg=G at *;simp[-Ym,Zw,Qw,U,O,H,Y,Z,u,k1,k2,Q,em,L,J]
end
theorem QjX{P:W->Prop}{a:W}(h:P a):∀u∈[a],P u:=fun u hu=>by rw[NE.mp hu];exact h
theorem Qlo{P:W->Prop}{a b:W}(h:P a)(h':P b):∀u∈[a,b],P u:=fun u hu=>by
 rcases Nv.mp hu with rfl|hu
 ·exact h
 ·exact QjX h' u hu
section
variable{B Wd:List Str}{p:List Pt}
theorem Qml{us:List W}(a:QQ us=true)(h:us.length=6):Has Qh (.tup us) false:=fun g=>YJ a (by omega) (.inr (by omega))
def Bad(w:W):Prop:=pur w=true/\Has Qh w false
theorem XW{us:List W}(a:QQ us=true)(c:us.length<=1000)(hu:∀u∈us,∃b,Has Qi u b)(f:us≠[]->∃w∈us,Has Qi w false):Bad (.tup us):=by
 refine⟨by rw[Y2];exact a,?_⟩
 by_cases d:us.length=0
 ·exact fun h=>YJ a c (.inl d)
 ·by_cases g:us.length<=5
  ·obtain⟨w,hw,e⟩:=f (fun z=>d (by rw[z];rfl));exact GK a (by omega) g hu hw e
  ·exact fun h=>YJ a c (.inr (by omega))
theorem XT{w:W}(h:noT w):Bad w:=⟨h.1,fun _=>Qd3 h⟩
theorem Xd{w:W}(h:noT w):Has Qi w false:=fun _=>QdK h
theorem QhL{x:Pt}:pur (Qn x)=true:=by unfold Qn;simp[pur]
theorem QbD(g:Gen B Wd p){x:Pt}(a:x∈p):Has Qi (.tup (x.2.map Qg)) false:=fun h=>J0 (by simp) (by have:=g.lens a;simp;omega)
theorem QbT(g:Gen B Wd p){c:Int}(hc:0<=c):∃w,(∀h,J7 [Qx p,.int c] h=some (w,h))/\pur w=true/\Has Qh w false:=by
 have r:=g.len;obtain⟨f,L⟩:∃f,p[0]?=some f:=⟨_,Nk (by omega)⟩
 have n:=NN L;have lf:=g.lens n;have E:atI (p.map Qn) 0=some (Qn f):=YH L;have Z:c%9=0\/c%9=1\/c%9=2\/c%9=3\/c%9=4\/(c%9≠0/\c%9≠1/\c%9≠2/\c%9≠3/\c%9≠4):=by omega
 have k6:6<=sizeLine:=by decide
 have Y:10<=sizeLine:=by decide
 have X:12<=sizeLine:=by decide
 have ek:∀h,VX [Qx p] h=some (.int p.length,h):=fun h=>by unfold Qx;simp
 have O:Has Qi (Qn f) true:=g.part n;have y:∀h,wIx (Qn f) (.int 1) h=some (.tup (f.2.map Qg),h):=fun h=>Ym;have F:QQ (f.2.map Qg)=true:=by simp
 have eL:∀h,Uu [.tup (f.2.map Qg)] h=some (.lst (f.2.map Qg),h):=fun h=>rfl;have eP:∀h,Uu [Qx p] h=some (.lst (p.map Qn),h):=fun h=>rfl;have S:Has Qs (.str f.1) true:=g.name n;have lb:=QbD g n;have fe:Qn f=.tup [.str f.1,.tup (f.2.map Qg)]:=rfl
 rcases Z with z|z|z|z|z|⟨z0,z1,z2,z3,z4⟩
 ·have e6:(6:Int)-(p.length:Int)=((6-p.length:Nat):Int):=by omega
  have ec:=Q3 (fin:=ZH) (mi:=Kc (Qa (Qc UO (mC (.int 6)) (mFn VX (Qa (Qb 0) Qd))) Qd)) (cp:=[none]) (me:=mFn Qm (Qa (Qc QW (mC (.str "q")) (Qc wIx (mC (.str "abcdef")) (Qb 0))) (Qa (mFn Qm Qd) Qd))) (σ:=[some (Qx p),some (.int c),some (Qn f),some (.int (c/9)),none]) (caps:=[]) (h:=[]) (items:=QO 0 (6-p.length)) (fun w=>match w with|.int k=>.tup [.str (("q":Str)++ltr k),.tup []]|w=>w) (Vt (j:=6-p.length) (by simp[ek,e6]) (by omega)) ⟨_,rfl⟩ (fun w hw=>by
   obtain⟨k,hk,rfl⟩:=No.mp hw;have ab:=NU.mp hk;have e7:∀h,wIx (.str six) (.int (k:Int)) h=some (.str (ltr (k:Int)),h):=fun h=>U7 (by omega) (by omega);have l4:("q":Str).length+1<=sizeLine:=by decide +kernel
   rw[LN]
   simp[e7,l4,k2]) (by rw[Q6];exact Za (by omega))
  simp only[ZH]at ec
  have M:QQ ((QO 0 (6-p.length)).map (fun w=>match w with|.int k=>.tup [.str (("q":Str)++ltr k),.tup []]|w=>w))=true:=purs_iff.mpr fun w hw=>by
   rw[JA]at hw;obtain⟨k,_,rfl⟩:=No.mp hw;simp[pur]
  have C:((QO 0 (6-p.length)).map (fun w=>match w with|.int k=>W.tup [.str (("q":Str)++ltr k),.tup []]|w=>w)).length=6-p.length:=by rw[NB,Q6]
  generalize(QO 0 (6-p.length)).map (fun w=>match w with|.int k=>W.tup [.str (("q":Str)++ltr k),.tup []]|w=>w)=U at ec M C;have I:(p.map Qn).length=p.length:=NB ..;refine⟨.tup (p.map Qn++U),fun h=>Qe (g:=[]) (by simp[QQ,pur]) ?_ (by simp[M]),by simp[M],Qml (by simp[M]) (by rw[NC,I,C];omega)⟩;have Q:(p.map Qn).length+U.length<=sizeLine:=Za (by rw[I,C];omega);have eT:∀h,Vf [.lst U] h=some (.tup U,h):=fun h=>rfl;have eA:∀h,QW (Qx p) (.tup U) h=some (.tup (p.map Qn++U),h):=fun h=>if_pos Q;simp[QH,Qw,E,z,ec,eT,eA]
 ·obtain⟨w,_,hw,v⟩:=QaF (xs:=([.lst (p.map Qn),.tup [],.non,.int 5,Qn f,.tup (f.2.map Qg),.str "a",.lst [],.bl true,.tup [Qn f,.int 7],.tup [.non],.tup [.tup []]]:List W)) (i:=c/9%12) (f:=fun w=>w) (P:=Bad) (NR _ (by decide)) (by have:=NM (c/9) (b:=12) (by decide);simpa using this) (by
   intro m o;simp only[Nv,NQ,or_false]at o
   rcases o with rfl|rfl|rfl|rfl|rfl|rfl|rfl|rfl|rfl|rfl|rfl|rfl
   ·exact XT (KH K4)
   ·exact XW rfl (by simp) (by simp) (fun z=>absurd rfl z)
   ·exact XT Wb
   ·exact XT UT
   ·rw[fe];exact XW (by simp[pur]) (by simp) (Qlo ⟨false,Xd WE⟩ ⟨false,lb⟩) (fun _=>⟨_,Nr,Xd WE⟩)
   ·have all:∀u∈f.2.map Qg,Has Qi u false:=fun u hu=>by
     obtain⟨l,hl,rfl⟩:=No.mp hu;exact Qb5 (g.good.ok 0 f L l hl)
    exact XW F (by simp;omega) (fun u hu=>⟨false,all u hu⟩) (fun z=>by
     obtain⟨u,hu⟩:=List.exists_mem_of_ne_nil _ z
     exact⟨u,hu,all u hu⟩)
   ·exact XT WE
   ·exact XT (KH rfl)
   ·exact XT QhM
   ·exact XW (by simp[QhL,pur]) (by simp) (Qlo ⟨true,O⟩ ⟨false,Xd UT⟩) (fun _=>⟨.int 7,by simp,Xd UT⟩)
   ·exact XW (by simp[pur]) (by simp) (QjX ⟨false,Xd Wb⟩) (fun _=>⟨.non,by simp,Xd Wb⟩)
   ·exact XW (by simp) (by simp) (QjX ⟨false,fun h=>J0 rfl (by decide)⟩) (fun _=>⟨.tup [],by simp,fun h=>J0 rfl (by decide)⟩))
  refine⟨w,fun h=>Qe (g:=[]) (by simp[QQ,pur]) ?_ hw.1,hw.1,hw.2⟩;simp only[LO]at v;generalize f.2.map Qg=G at *;simp[-Ym,QH,Qw,E,z,y,eP,k1,k2,X,v]
 ·obtain⟨w,_,⟨a,A⟩,v⟩:=QaF (xs:=([.lst [.str f.1,.tup (f.2.map Qg)],.tup [.str f.1,.tup (f.2.map Qg),.str f.1],.tup [.str f.1,.lst (f.2.map Qg)],.tup [.str f.1],.tup [.str f.1,.non],.tup [.str f.1,.str f.1]]:List W)) (i:=c/9%6) (f:=fun w=>w) (P:=fun w=>pur w=true/\Has Qi w false) (NR _ (by decide)) (by have:=NM (c/9) (b:=6) (by decide);simpa using this) (by
   intro m o;simp only[Nv,NQ,or_false]at o
   rcases o with rfl|rfl|rfl|rfl|rfl|rfl
   ·exact⟨by simp[pur],Xd (KH (by simp[pur]))⟩
   ·exact⟨by simp[pur],fun h=>J0 (by simp[pur]) (by simp)⟩
   ·exact⟨by simp[pur],fun h=>Y5 rfl (KH F) S⟩
   ·exact⟨by simp[pur],fun h=>J0 (by simp[pur]) (by simp)⟩
   ·exact⟨by simp[pur],fun h=>Y5 rfl Wb S⟩
   ·exact⟨by simp[pur],fun h=>Y5 rfl WE S⟩)
  have J:∀h,Zr [Qx p,.int 0,w] h=_:=Qad (w:=w) (t:=0) a (by omega) r.2;refine⟨_,fun h=>Qe (g:=[]) (by simp[QQ,pur]) ?_ (by rw[Y2];exact VI (t:=0) (s:=0+1) a),by rw[Y2];exact VI (t:=0) (s:=0+1) a,UW g (by omega) a A⟩;have ea:∀h,QW (Qn f) (.tup [.str f.1]) h=some (.tup [.str f.1,.tup (f.2.map Qg),.str f.1],h):=fun h=>by rw[fe];simp[k3]
  have es:∀h,wSl (Qn f) none (some 1) h=some (.tup [.str f.1],h):=fun h=>rfl;simp only[LO]at v;generalize(p.map Qn).take 0++[w]++(p.map Qn).drop (0+1)=R at J ⊢;generalize f.2.map Qg=G at *;simp[-Ym,QH,Qw,E,z,y,ea,es,eL,k1,k2,k6,v,J]
 ·obtain⟨w,_,⟨a,A⟩,v⟩:=QaF (xs:=([.str "none",.str "",.str "A",.str "part",.str "abcdefghi",.non,.int 7,.str "a b",.lst [.str f.1],.tup [.str f.1]]:List W)) (i:=c/9%10) (f:=fun w=>w) (P:=fun w=>pur w=true/\Has Qs w false) (NR _ (by decide)) (by have:=NM (c/9) (b:=10) (by decide);simpa using this) (by
   have D:∀x:Str,x.length<=1000->nmB x=false->pur (.str x)=true/\Has Qs (.str x) false:=fun x N h2=>⟨rfl,fun h=>by rw[Qfq N,h2]⟩
   intro m o;simp only[Nv,NQ,or_false]at o
   rcases o with rfl|rfl|rfl|rfl|rfl|rfl|rfl|rfl|rfl|rfl
   ·exact D _ (by decide +kernel) (by decide +kernel)
   ·exact D _ (by decide +kernel) (by decide +kernel)
   ·exact D _ (by decide +kernel) (by decide +kernel)
   ·exact D _ (by decide +kernel) (by decide +kernel)
   ·exact D _ (by decide +kernel) (by decide +kernel)
   ·exact⟨rfl,fun h=>Kl Qgq⟩
   ·exact⟨rfl,fun h=>Kl Qgo⟩
   ·exact D _ (by decide +kernel) (by decide +kernel)
   ·exact⟨by simp[pur],fun h=>Kl (Qgm (by simp[pur]))⟩
   ·exact⟨by simp[pur],fun h=>Kl (QeK (by simp[pur]))⟩)
  have d:pur (.tup [w,.tup (f.2.map Qg)])=true:=by simp[a]
  have J:∀h,Zr [Qx p,.int 0,.tup [w,.tup (f.2.map Qg)]] h=_:=Qad (t:=0) d (by omega) r.2;refine⟨_,fun h=>Qe (g:=[]) (by simp[QQ,pur]) ?_ (by rw[Y2];exact VI (t:=0) (s:=0+1) d),by rw[Y2];exact VI (t:=0) (s:=0+1) d,UW g (by omega) d fun h=>UC a (by simp) A⟩;simp only[LO]at v;generalize(p.map Qn).take 0++[.tup [w,.tup (f.2.map Qg)]]++(p.map Qn).drop (0+1)=R at J ⊢;generalize f.2.map Qg=G at *;simp[-Ym,QH,Qw,E,z,y,k1,k2,Y,v,J]
 ·have H:pur (.tup ((p.map Qn).take 4++[Qn (f.1,[])]))=true:=by
   rw[Y2]
   exact purs_iff.mpr fun u hu=>by
    rcases NI.mp hu with q|q
    ·exact purs_iff.mp (K4 (ls:=p)) u (El q)
    ·rw[NE.mp q];exact QhL
  refine⟨.tup ((p.map Qn).take 4++[Qn (f.1,[])]),fun h=>Qe (g:=[]) (by simp[QQ,pur]) ?_ H,H,Qfa g L⟩
  ·have es:∀h,wSl (Qx p) none (some 4) h=some (.tup ((p.map Qn).take 4),h):=fun h=>by unfold Qx;rw[Qkc];rw[show(4:Int)=((4:Nat):Int)from rfl,Qfg]
   have Q:((p.map Qn).take 4).length+1<=sizeLine:=Za (by rw[Ef];omega);have e2:Qn (f.1,[])=.tup [.str f.1,.tup []]:=rfl;rw[e2];generalize(p.map Qn).take 4=T at *;simp[QH,Qw,E,z,es,k1,k2,Q]
 ·obtain⟨w,e,N,h2⟩:=KA g (c:=c/9) (by omega);refine⟨w,fun h=>Qe (g:=[]) (by simp[QQ,pur]) ?_ N,N,h2⟩;simp[QH,Qw,E,z0,z1,z2,z3,z4,e]
end
theorem KQ{w:W}{b:Bool}(a:pur w=true)(hw:Has Qh w b)(h:MH):QS [w,.bl b] h=some (.bl true,h):=by
 refine Qe (g:=[]) (by simp[a,pur]) ?_ rfl;have e:=hw [];have ei:UD [.bl b,.ty "bool"] []=some (.bl true,[]):=by simp[QR]
 have eq:wEq (.bl b) (.bl b) []=some (.bl true,[]):=by cases b<;>rfl
 simp[Vq,Qw,e,ei,eq]
noncomputable def asd:List Pt:=[("a",[]),("b",List.replicate 10 (doL "c")),("c",List.replicate 9 QcS)]
theorem QhA:Has Qh (Qx asd) true:=fun h=>by
 have a:=Qp (V5 (d:=[])) 9;have b:=Qp (Ve (x:="c")) 10
 exact JF (more:=0) (N:=100) (bs:=["x"]) (ws:=["w"]) (.inl rfl) (JB ⟨⟨KN,by simp,by simp⟩,⟨Zt (by decide),by simp,Zs (Xy (by simp))⟩,⟨Zt (by decide),by simp,Zs K2⟩,trivial⟩ (by simp[asd]) (by simp[asd]) nd3) (by decide) rfl (by unfold asd;rw[Qim];simp) (by simp) (by simp) nmA nmW (by simp[asd];exact⟨nm4 _ (by simp),nm4 _ (by simp),nm4 _ (by simp)⟩) (QD Kf) (fun z=>⟨by simp,by simp,by omega,by omega,by omega,by omega,by
  intro y c;simp only[asd,Nv,NQ,or_false]at c
  rcases c with rfl|rfl|rfl
  ·decide +kernel
  ·rw[QD b];exact Q7 (by omega) (by omega) (by omega)
  ·rw[QD a];exact Q7 (by omega) (by omega) (by omega)⟩) (fun z=>by cases z)
theorem main(ns:List Int)(_:ns.length<=63):∃h',KZ [.frz (ns.map W.int)] []=some (.bl true,h'):=by
 obtain⟨B,Wd,p,g,L⟩:=QhG ns;have E:=KQ (w:=Qx p) (b:=true) (by simp) (fun h=>Qd0 g);have D:=KQ (w:=Qx asd) (b:=true) (by simp) QhA
 have O:Zx 2 (mFn Qm (Qa (mFn Qm (Qa (mC (.str "a")) (Qa (mFn Qm Qd) Qd))) (Qa (mFn Qm (Qa (mC (.str "b")) (Qa (Qc Zh (mFn Qm (Qa (mFn Qm (Qa (mC (.str "do")) (Qa (mC (.str "c")) Qd))) Qd)) (mC (.int 10))) Qd))) (Qa (mFn Qm (Qa (mC (.str "c")) (Qa (Qc Zh (mFn Qm (Qa (mFn Qm (Qa (mC (.str "none")) (Qa (mC (.str "x")) Qd))) Qd)) (mC (.int 9))) Qd))) Qd)))) [some (.frz (ns.map .int)),some (Qx p),none,none,none] []=some (.nx [some (.frz (ns.map .int)),some (Qx p),some (Qx asd),none,none] []):=by
  have A:∀(a:W) (h:MH),Zh (.tup [a]) (.int 10) h=some (.tup (List.replicate 10 a),h):=fun a h=>JG (by decide);have z:∀(a:W) (h:MH),Zh (.tup [a]) (.int 9) h=some (.tup (List.replicate 9 a),h):=fun a h=>JG (by decide);have e:Qx asd=.tup [.tup [.str "a",.tup []],.tup [.str "b",.tup (List.replicate 10 (Qg (doL "c")))],.tup [.str "c",.tup (List.replicate 9 (Qg QcS))]]:=rfl;rw[e];simp[A,z,k1,k2,k3,Qg]
 have f:=JC (items:=QO 0 3) (b:=Z0 3) (body:=Wc) (fun _ t h=>∃m l,t=[some (.frz (ns.map .int)),some (Qx p),some (Qx asd),m,l]/\h=[]) (QO 0 3) 0 [some (.frz (ns.map .int)),some (Qx p),some (Qx asd),none,none] [] ⟨_,_,rfl,rfl⟩ (by
  rintro j w i t h ⟨m,l,rfl,rfl⟩
  have r:j<3:=by have:=(Nj.mp i).1;rwa[Q6]at this
  have hw:w=.int j:=by
   unfold QO at i;rw[Nu,Ey r]at i;simp at i;exact i.symm
  subst hw;obtain⟨c,F,N⟩:=Xb ns (30+j) (by omega)
  have s:∀h,Qj [.frz (ns.map .int),.int (30+(j:Int))] h=some (.int c,h):=fun h=>by
   have:=N h;push_cast at this;exact this
  obtain⟨w,I,q,G⟩:=QbT g F;obtain⟨v,P,S⟩:=Us (c/5) 0 (by omega) (.inl rfl);obtain⟨u,e1,R⟩:=Us (c/5) 1 (by omega) (.inr rfl);have H:∀h,ZE [.int (c/5),.int 0] h=some (Qx v,h):=P;have f1:∀h,ZE [.int (c/5),.int 1] h=some (Qx u,h):=e1;have C:∀h,QS [w,.bl false] h=some (.bl true,h):=KQ q G;have o:∀h,QS [Qx v,.bl true] h=some (.bl true,h):=KQ (by simp) S;have n:∀h,QS [Qx u,.bl false] h=some (.bl true,h):=KQ (by simp) R;refine⟨_,rfl,[some (.frz (ns.map .int)),some (Qx p),some (Qx asd),some (.int j),some (.int c)],[],.inl ?_,_,_,rfl,rfl⟩
  simp[s,I,C,H,f1,o,n])
 obtain⟨y,h',M,m,l,rfl,rfl⟩:=f;have J:Kc (Qa (mC (.int 3)) Qd) [some (.frz (ns.map .int)),some (Qx p),some (Qx asd),none,none] []=some (QO 0 3,none,[]):=Vt (j:=3) (by simp) (by decide)
 have Q:VO (Kc (Qa (mC (.int 3)) Qd)) (Z0 3) Wc [some (.frz (ns.map .int)),some (Qx p),some (Qx asd),none,none] []=some (.nx [some (.frz (ns.map .int)),some (Qx p),some (Qx asd),m,l] []):=by
  unfold VO;rw[J,Nq];exact M
 refine⟨[],QgF (Xc (σ1:=[some (.frz (ns.map .int)),some (Qx p),none,none,none]) (h1:=[]) (by simp[L]) (Xc (σ1:=[some (.frz (ns.map .int)),some (Qx p),none,none,none]) (h1:=[]) (by simp[E]) (Xc O (Xc (σ1:=[some (.frz (ns.map .int)),some (Qx p),some (Qx asd),none,none]) (h1:=[]) (by simp[D]) (Xc Q (by simp))))))⟩
end My
def PySem.W.Fast.tw12691663505678781729:Unit:=()
def PySem.W.Fast.tw12145134829529032812:Unit:=()
def PySem.W.Fast.tw12631960833765748765:Unit:=()
def PySem.W.Fast.tw9166918047117342009:Unit:=()
def PySem.W.Fast.tw8817799280517846670:Unit:=()
def PySem.W.Fast.tw17316817464039575369:Unit:=()
def PySem.W.Fast.tw11786804122121941255:Unit:=()
def PySem.W.Fast.tw12260255484414673610:Unit:=()
def PySem.W.Fast.tw1320055798096439504:Unit:=()
def PySem.W.Fast.tw9823419214556409389:Unit:=()
def PySem.W.Fast.tw3688407159110991093:Unit:=()
def PySem.W.Fast.tw13638788743566815301:Unit:=()
def PySem.W.Fast.tw15684688392446542141:Unit:=()
def PySem.W.Fast.tw16361054555335729316:Unit:=()
def PySem.W.Fast.tw13911416715324246587:Unit:=()
def PySem.W.Fast.tw13190660667101532735:Unit:=()
def PySem.W.Fast.tw2384426998922217683:Unit:=()
def PySem.W.Fast.tw178308752162504069:Unit:=()
def PySem.W.Fast.tw13590939701605753936:Unit:=()
def PySem.W.Fast.tw14136434055867498150:Unit:=()
def PySem.W.Fast.tw18338226902240584386:Unit:=()
def PySem.W.Fast.tw5020777350808755565:Unit:=()
def PySem.W.Fast.tw10197806052883185755:Unit:=()
def PySem.W.Fast.tw3996209677302610103:Unit:=()
def PySem.W.Fast.tw8145525173515721370:Unit:=()
def PySem.W.Fast.tw10516560931451928008:Unit:=()
def PySem.W.Fast.tw15458141980546370913:Unit:=()
def PySem.W.Fast.tw916998788986447505:Unit:=()
def PySem.W.Fast.tw898880216804355611:Unit:=()
def PySem.W.Fast.tw17901456101149006862:Unit:=()
def PySem.W.Fast.tw9963705570266006648:Unit:=()
def PySem.W.Fast.tw11159421807863539533:Unit:=()
def PySem.W.Fast.tw6930631286622262782:Unit:=()
def PySem.W.Fast.tw9416355287420531655:Unit:=()
def PySem.W.Fast.tw9401955809610256623:Unit:=()
def PySem.W.Fast.tw3497476183451722977:Unit:=()
def PySem.W.Fast.tw5877615174772551184:Unit:=()
def PySem.W.Fast.tw17266566536443219034:Unit:=()
def PySem.W.Fast.tw15719514681666822359:Unit:=()
def PySem.W.Fast.tw9996438471733766069:Unit:=()
def PySem.W.Fast.tw268650041770404987:Unit:=()
def PySem.W.Fast.tw775761065422444946:Unit:=()
def PySem.W.Fast.tw11285421041376140378:Unit:=()
def PySem.W.Fast.tw18271244638305201810:Unit:=()
def PySem.W.Fast.tw13881592725398454743:Unit:=()
def PySem.W.Fast.tw9771621734271458402:Unit:=()
def PySem.W.Fast.tw16888497566175062196:Unit:=()
def PySem.W.Fast.tw1147733867626325556:Unit:=()
def PySem.W.Fast.tw11037882788555780605:Unit:=()
def PySem.W.Fast.tw12795153875028480583:Unit:=()
def PySem.W.Fast.tw3061134683585370997:Unit:=()
def PySem.W.Fast.tw13974127778324178856:Unit:=()
def PySem.W.Fast.tw8712697363314217430:Unit:=()
def PySem.W.Fast.tw16062772506278878786:Unit:=()
def PySem.W.Fast.tw2924553494944199586:Unit:=()
def PySem.W.Fast.tw17406440280880165579:Unit:=()
def PySem.W.Fast.tw17178203587736026788:Unit:=()
def PySem.W.Fast.tw17636727771128345432:Unit:=()
def PySem.W.Fast.tw9051891914799284319:Unit:=()
def PySem.W.Fast.tw15122499307816766123:Unit:=()
def PySem.W.Fast.tw4417715250286510462:Unit:=()
def PySem.W.Fast.tw9939367366844988151:Unit:=()
def PySem.W.Fast.tw805001673351502203:Unit:=()
def PySem.W.Fast.tw5253563055982715862:Unit:=()
def PySem.W.Fast.tw16708882268852122728:Unit:=()
def PySem.W.Fast.tw7440427512232936243:Unit:=()
def PySem.W.Fast.tw4741991936275072497:Unit:=()
def PySem.W.Fast.tw16413751674611352556:Unit:=()
def PySem.W.Fast.tw17692881659179852839:Unit:=()
def PySem.W.Fast.tw210520048119793616:Unit:=()
def PySem.W.Fast.tw13934394350191373030:Unit:=()
def PySem.W.Fast.tw12405800073009398176:Unit:=()
def PySem.W.Fast.tw9134080500131188612:Unit:=()
def PySem.W.Fast.tw12968605248430875930:Unit:=()
def PySem.W.Fast.tw6504478766824509043:Unit:=()
def PySem.W.Fast.tw13512045510970771006:Unit:=()
def PySem.W.Fast.tw11832867564475714695:Unit:=()
def PySem.W.Fast.tw11854324026439087011:Unit:=()
def PySem.W.Fast.tw7040984464055131469:Unit:=()
def PySem.W.Fast.tw380871525012974225:Unit:=()
def PySem.W.Fast.tw16787074698343562510:Unit:=()
def PySem.W.Fast.tw7045184824618250822:Unit:=()
def PySem.W.Fast.tw7464496608108258227:Unit:=()
def PySem.W.Fast.tw16922797691422665088:Unit:=()
def PySem.W.Fast.tw232137784216390944:Unit:=()
def PySem.W.Fast.tw3768954548296666867:Unit:=()
open PySem PySem.W PyProof.Rows
local macro_rules | `(tactic| walk_at $s:str) => do
  match s.getString with
  | "~1" => `(tactic| (dsimp only [L2.KOf]; refine' Mi.YQ $(Lean.mkIdent `KX) $(Lean.mkIdent `G) ?a ?l ?c ?k ?b; (case a => k_is); (case l => k_is); (case c => k_is); (case k => k_is); (case b => exact fun _ _ _ _ _ _ => Mi.ar1 (fun _ => rfl))))
  | "~2" => `(tactic| (dsimp only [L2.KOf]; refine' Mi.YQ $(Lean.mkIdent `KX) $(Lean.mkIdent `G) ?a ?l ?c ?k ?b; (case a => k_is); (case l => k_is); (case c => k_is); (case k => k_is); (case b => exact fun _ _ _ _ _ _ => Mi.ar2 (fun _ _ => rfl))))
  | "~3" => `(tactic| (dsimp only [L2.KOf]; refine' Mi.YQ $(Lean.mkIdent `KX) $(Lean.mkIdent `G) ?a ?l ?c ?k ?b; (case a => k_is); (case l => k_is); (case c => k_is); (case k => k_is); (case b => exact fun _ _ _ _ _ _ => Mi.ar3 (fun _ _ _ => rfl))))
  | "~b" => `(tactic| (refine' PySem.W.mg_none_of $(Lean.mkIdent `KX) $(Lean.mkIdent `G) ?a; (case a => k_is)))
  | _ => Lean.Macro.throwUnsupported
set_option maxRecDepth 100000 in
set_option maxHeartbeats 0 in
theorem PySem.Challenge.cw_doneroom_k04_programs_holds : PySem.Challenge.rw_doneroom_k04_programs.Holds := by
  w_on; o_law; k_head; (case hw => w_witness2)
  k_fill
  refine Mi.Qkh (l := PySem.Challenge.rw_doneroom_k04_programs) (st := My.WW) (sem := My.KZ) (k := 7) rfl rfl ⟨rfl, by decide, by decide⟩ rfl (fun w h Y => PySem.W.kIn_of Y) (fun _ _ _ _ _ _ _ _ => .of_eq rfl) ?F My.main
  case F =>
    intro w mg h KX G
    have d__law_names : Mi.DefAt (L2.KOf KX) mg "_law_names" My.ZT ["cell", "many"] := by walk_at "~2"
    have d__law_cell : Mi.DefAt (L2.KOf KX) mg "_law_cell" My.JN ["script", "k"] := by walk_at "~2"
    have d__law_block : Mi.DefAt (L2.KOf KX) mg "_law_block" My.Jr ["cell", "inner"] := by walk_at "~2"
    have d__law_line : Mi.DefAt (L2.KOf KX) mg "_law_line" My.Jd ["cell", "boxes", "words"] := by walk_at "~3"
    have d__law_program : Mi.DefAt (L2.KOf KX) mg "_law_program" My.Zu ["script"] := by walk_at "~1"
    have d_has_right_names : Mi.DefAt (L2.KOf KX) mg "has_right_names" My.Q0 ["parts"] := by walk_at "~1"
    have d_level_change : Mi.DefAt (L2.KOf KX) mg "level_change" My.ZY ["line"] := by walk_at "~1"
    have d_line_size : Mi.DefAt (L2.KOf KX) mg "line_size" My.J2 ["line", "sizes"] := by walk_at "~2"
    have d_size_with : Mi.DefAt (L2.KOf KX) mg "size_with" My.J3 ["lines", "sizes"] := by walk_at "~2"
    have d_flat_size : Mi.DefAt (L2.KOf KX) mg "flat_size" My.JS ["program"] := by walk_at "~1"
    have d_is_small : Mi.DefAt (L2.KOf KX) mg "is_small" My.Vx ["size"] := by walk_at "~1"
    have d_all_lines : Mi.DefAt (L2.KOf KX) mg "all_lines" My.JX ["program"] := by walk_at "~1"
    have d_boxes_in : Mi.DefAt (L2.KOf KX) mg "boxes_in" My.Vu ["line"] := by walk_at "~1"
    have d_boxes_of : Mi.DefAt (L2.KOf KX) mg "boxes_of" My.Vm ["program"] := by walk_at "~1"
    have d_words_of : Mi.DefAt (L2.KOf KX) mg "words_of" My.Vo ["program"] := by walk_at "~1"
    have d_own_size : Mi.DefAt (L2.KOf KX) mg "own_size" My.Vs ["lines"] := by walk_at "~1"
    have d_keeps_bounds : Mi.DefAt (L2.KOf KX) mg "keeps_bounds" My.ZV ["parts"] := by walk_at "~1"
    have d_is_blocks : Mi.DefAt (L2.KOf KX) mg "is_blocks" My.JV ["lines"] := by walk_at "~1"
    have d_is_small_letter : Mi.DefAt (L2.KOf KX) mg "is_small_letter" My.Zn ["sign"] := by walk_at "~1"
    have d_is_name : Mi.DefAt (L2.KOf KX) mg "is_name" My.V0 ["thing"] := by walk_at "~1"
    have d_is_line : Mi.DefAt (L2.KOf KX) mg "is_line" My.VT ["thing"] := by walk_at "~1"
    have d_is_part : Mi.DefAt (L2.KOf KX) mg "is_part" My.VW ["thing"] := by walk_at "~1"
    have d_is_program : Mi.DefAt (L2.KOf KX) mg "is_program" My.Jo ["thing"] := by walk_at "~1"
    have d__law_told : Mi.DefAt (L2.KOf KX) mg "_law_told" My.JT ["thing", "due"] := by walk_at "~2"
    have d__law_put : Mi.DefAt (L2.KOf KX) mg "_law_put" My.Vk ["program", "at", "part"] := by walk_at "~3"
    have d__law_turned_lines : Mi.DefAt (L2.KOf KX) mg "_law_turned_lines" My.Q4 ["program", "cell"] := by walk_at "~2"
    have d__law_turned : Mi.DefAt (L2.KOf KX) mg "_law_turned" My.Z9 ["program", "cell"] := by walk_at "~2"
    have d__law_line_bound : Mi.DefAt (L2.KOf KX) mg "_law_line_bound" My.Zk ["near", "more"] := by walk_at "~2"
    have d__law_way_bound : Mi.DefAt (L2.KOf KX) mg "_law_way_bound" My.ZC ["near", "more"] := by walk_at "~2"
    have d__law_deep : Mi.DefAt (L2.KOf KX) mg "_law_deep" My.JY ["cell", "many", "lines"] := by walk_at "~3"
    have d__law_deep_bound : Mi.DefAt (L2.KOf KX) mg "_law_deep_bound" My.Zm ["near", "more"] := by walk_at "~2"
    have d__law_part_bound : Mi.DefAt (L2.KOf KX) mg "_law_part_bound" My.Zo ["near", "more"] := by walk_at "~2"
    have d__law_bound : Mi.DefAt (L2.KOf KX) mg "_law_bound" My.Jq ["cell", "more"] := by walk_at "~2"
    have d_law : Mi.DefAt (L2.KOf KX) mg "law" My.WW ["script"] := by walk_at "~1"
    have g_KEPT : Mi.Glob (L2.KOf KX) mg "KEPT" My.XL := by
      dsimp only [L2.KOf]
      refine' Mi.QbY KX G ?a ?l ?z ?s
      (case a => k_is); (case l => k_is)
      (case z => decide)
      (case s => repeat constructor)
    have g_MOST_BACKS : Mi.Glob (L2.KOf KX) mg "MOST_BACKS" My.Jt := by
      dsimp only [L2.KOf]
      refine' Mi.JH KX G ?a
      (case a => k_is)
    have g_MOST_BLOCKS : Mi.Glob (L2.KOf KX) mg "MOST_BLOCKS" My.Z6 := by
      dsimp only [L2.KOf]
      refine' Mi.JH KX G ?a
      (case a => k_is)
    have g_MOST_BOXES : Mi.Glob (L2.KOf KX) mg "MOST_BOXES" My.Jj := by
      dsimp only [L2.KOf]
      refine' Mi.JH KX G ?a
      (case a => k_is)
    have g_MOST_LETTERS : Mi.Glob (L2.KOf KX) mg "MOST_LETTERS" My.QU := by
      dsimp only [L2.KOf]
      refine' Mi.JH KX G ?a
      (case a => k_is)
    have g_MOST_LINES : Mi.Glob (L2.KOf KX) mg "MOST_LINES" My.Jn := by
      dsimp only [L2.KOf]
      refine' Mi.JH KX G ?a
      (case a => k_is)
    have g_MOST_PARTS : Mi.Glob (L2.KOf KX) mg "MOST_PARTS" My.ZB := by
      dsimp only [L2.KOf]
      refine' Mi.JH KX G ?a
      (case a => k_is)
    have g_MOST_WAYS : Mi.Glob (L2.KOf KX) mg "MOST_WAYS" My.J1 := by
      dsimp only [L2.KOf]
      refine' Mi.JH KX G ?a
      (case a => k_is)
    have g_MOST_WORDS : Mi.Glob (L2.KOf KX) mg "MOST_WORDS" My.Js := by
      dsimp only [L2.KOf]
      refine' Mi.JH KX G ?a
      (case a => k_is)
    have g_NAMES_BEHIND : Mi.GTab w (L2.KOf KX) mg "NAMES_BEHIND" My.Ql := by
      dsimp only [L2.KOf]
      refine' Mi.QeO KX G ?ga ?gl ?gk ?gs ?gt
      (case ga => k_is); (case gl => k_is)
      (case gk => repeat (first | exact True.intro | refine ⟨⟨_, _, rfl, rfl⟩, ?_⟩))
      (case gs => decide)
      (case gt => repeat (first | exact Mi.TabIs.nil | refine Mi.TabIs.cons rfl rfl ?_))
    have g_UNENTERED_DO : Mi.Glob (L2.KOf KX) mg "UNENTERED_DO" My.ZR := by
      dsimp only [L2.KOf]
      change Mi.Glob _ _ _ (Mi.W.tup (List.map Mi.W.int [1, 0, 0, 0])); refine' Mi.QbG KX G ?a ?l ?z ?s
      (case a => k_is); (case l => k_is)
      (case z => decide)
      (case s => repeat constructor)
    have b_all : mg "all" = none := by walk_at "~b"
    have b_bool : mg "bool" = none := by walk_at "~b"
    have b_enumerate : mg "enumerate" = none := by walk_at "~b"
    have b_isinstance : mg "isinstance" = none := by walk_at "~b"
    have b_len : mg "len" = none := by walk_at "~b"
    have b_list : mg "list" = none := by walk_at "~b"
    have b_max : mg "max" = none := by walk_at "~b"
    have b_range : mg "range" = none := by walk_at "~b"
    have b_reversed : mg "reversed" = none := by walk_at "~b"
    have b_set : mg "set" = none := by walk_at "~b"
    have b_sorted : mg "sorted" = none := by walk_at "~b"
    have b_str : mg "str" = none := by walk_at "~b"
    have b_tuple : mg "tuple" = none := by walk_at "~b"
    exact ⟨d_law, fun base kb nb => My.Qgb d__law_names d__law_cell d__law_block d__law_line d__law_program d_has_right_names d_level_change d_line_size d_size_with d_flat_size d_is_small d_all_lines d_boxes_in d_boxes_of d_words_of d_own_size d_keeps_bounds d_is_blocks d_is_small_letter d_is_name d_is_line d_is_part d_is_program d__law_told d__law_put d__law_turned_lines d__law_turned d__law_line_bound d__law_way_bound d__law_deep d__law_deep_bound d__law_part_bound d__law_bound d_law g_KEPT g_MOST_BACKS g_MOST_BLOCKS g_MOST_BOXES g_MOST_LETTERS g_MOST_LINES g_MOST_PARTS g_MOST_WAYS g_MOST_WORDS g_NAMES_BEHIND g_UNENTERED_DO b_all b_bool b_enumerate b_isinstance b_len b_list b_max b_range b_reversed b_set b_sorted b_str b_tuple⟩
