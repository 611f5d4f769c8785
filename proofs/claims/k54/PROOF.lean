import PyProof.Rows.All
import Wide.All
import OpenK.AllK
import Wide.FinOn
import PyProof.EqAt
import PyProof.EqKinds
import PyProof.NeKinds
import PyProof.TupleCall
import KE.KIsAll
import KE.KIsNot
import KE.RegKIsAll
import OpenK.KOwn
import PyProof.NsDelKeeps
import PyProof.ReprRoads
import PyProof.ExcArgsOwn
import PyProof.IsiH_list
import Lean
import PyProof.StationsW
import PyProof.Rows.Catch
import OpenK.KMake
import PyProof.DictIter
import KE.KDictList
import PyProof.DictItems
import PyProof.DictWalks
import PyProof.TupleOfSeq
import PySem.SetTable
import PyProof.SetKind
import PyProof.IsRules
import PyProof.Rows.SetFrom
import PyProof.FactsAll.set
import KE.KSortTup
import PyProof.Meets
import PyProof.AutoListH
import PyProof.ListMulRoad
import PyProof.FactsAll.tuple_2
import PyProof.Rows.Range3
import PyProof.CallType
import PyProof.EnumMake
import PyProof.Rows.CallKwBuiltin
import KE.LcSums
import KE.KRevIter
import PyProof.Rows.SortLt
import PyProof.DefCall
import PySem.Challenge.RW_frontways_k54_whole_pairs_by_one_tie
set_option linter.all false
set_option autoImplicit false
set_option Elab.async false
set_option maxRecDepth 100000
set_option maxHeartbeats 4000000
set_option tactic.hygienic false
open PySem renaming Value->Ap,wpAny_bind->As,Shared->AA,Program->AL,model->AO,World->AQ,mainGlobals->AZ,Paired->BE,Around->BS,FuncData->BV,starEach->Cf,SetTable->CS,cLine->C2,wpAny_call_entry->Do,wpAny_newObj_type->DB,sysModules->DF,wpAny_mono->D5,boot_len->D7,compareOp->D8,wpAny_holding->EE,wpAny_setState_of->EJ,sizeLine_eq->EZ,Scope->E6,rawInt->E8,codeAny_mono->E9,codeAny_builtin->Ff,wpAny_truthy_bool->FB,wpAny_typeNameOfWhole_keyiter->FF,mem_of_lookup->FG,binaryOp->FI,wpAny_forIn_list->FO,wpAny_Call_Name_kw->FY,wpAny_specialOf->F4,wpAny_rule->GV,wpAny_setField->G3,bootBuiltins->G4,backTo->G5,NameKind->G7,wpAny_typeNameOf_keyiter->G8,wpAny_isInstance->G9,behindInMarks->HG,atKey->HM,wpAny_seqItems->IG,firstArgMember->IJ,assignEach->IQ,wpAny_askSetting->IT,sliceBounds->IZ,wpAny_passesOwn->JA,wpAny_ite_split->JJ,wpAny_pyIter_tuple->JP,tupleKind_room_in1->JU,wpAny_tupleItemsOf->JY,wpAny_dictEntries->Kk,pyNext->Kt,wpAny_of_eq->KA,intKind->KL,isSubtype_tuple_tuple->KP,letOwnedTupleGo->KU,tupleKeyHash->K6,tupleKind->LO,swapsWith->LP,DictEntry->LW,attributeBase->L4,wpAny_newList->L5,wpAny_attempt->L7,setSearchFrom->L9,plainId_quiet->Mb,foldedSetIterable->Me,wpAny_pyIter_slot->Mm,getItem->MO,callerA->MQ,valueAt->MR,wpAny_execs_cons->MS,concat_meets->MU,noFill_tuple_add->MV,wpAny_comprehension_free->MX,wpAny_typeOf->MY,wpAny_execs_nil->Nd,wpAny_dictEpoch->NA,IsRangeIter->NH,wpAny_pyNext_range_end->NI,wpAny_pyIter_rangeiter->NJ,keywordEach->NM,subscripted->NR,wpAny_field->NV,wpAny_Assign_Subscript->NY,wpAny_isTrue_Compare1->N3,assign->N4,pyIter->N5,BindsTo->N6,wpAny_runValue->N8,wpAny_fieldsOf->On,wpAny_isOneOf_keyiter->Op,wpAny_eqIsQuiet_tuple->OB,builtinLookup_eq_fast->OE,isSubtype_type->OF,bindL->OL,bindC->OM,call_meets->OO,setField->OQ,seq_tuple_add->OV,wpAny_handled->OX,wpAny_setEntries_of->O4,Within->Pc,wpAny_pyIter_range->Pe,getMethod->Pf,seqItems?->Pp,newExc->Ps,wpAny_getItem_heap->PF,wpAny_setItem_heap->PH,call_meetsIn->PM,wpAny_pyHash_tuple->PQ,wpAny_eqBool_tuple->PR,eqIsQuiet->PU,pickOrder->P0,holding->P7,wpAny_assign_Name->P8,wpAny_pyIter_list->P9,slot_list_getitem->Qb,wpAny_pyIter_enum->QA,eqIsQuiet_byValue->QH,ofAClassStatement->QI,searchCouldBeSeen->QN,wpAny_storeSet_of->QO,wpAny_throw->QY,GenState->Q2,backToKw->Q5,raiseNew->Q8,builtinsNs->RH,isTrue->RI,wpAny_Name->RO,CmpOp->RR,wpAny_load->RU,Result->R0,wpAny_call->R6,typeIs_int->Sa,call->Sb,IsEnum->Sc,IsTupleKey->Sf,wpAny_ret_mkInt->Si,isInstance->Sj,codeAny_of_tree->Sr,typeLookup_type->Sz,setsByText->SA,wpAny_updateSeq->SC,spliced->SG,recursionLimit->SK,Keyword->SL,newList->SO,collect->SR,storedH->SV,isSubtype_stop->SW,carriedByValue->SY,cellsFrom->S8,Model->TN,numAt->T9,bindArgs->UR,Params->UT,compEnvC->UU,newTuple->UV,numAt_eq->UX,setRelay->U1,entryFor->U3,argsOk->U4
open PySem.W renaming Frag->Au,keepIn->AK,findIn->AU,codeIn->Be,fnOf->BB,nsIn->BF,mg_none_of->BN,mg_of->B8,isFn->C0,emptyDict->D9,plainGet->ES,instObj->E3,hasDictIn->FC,plainOver->F9,makesIn->HK,plainGet_of->Ll,lookIn->Lv,callWith_K->LV,methodObj->Md,specialIn->MB,takerIn->Nl,OpenLaw->Nw,takesIn->NG,cellsFrom_some->NO,methodCall_KW->N7,kitOne->OK,mroIn->O1,handedIn->Q4,WalkO->Tk,kas_item->U6
open List renaming getD_eq_getElem?_getD->AB,mem_cons_self->AD,length_map->AE,mem_cons_of_mem->AG,getElem?_eq_some_iff->AH,getElem?_eq_getElem->AI,range->AX,mem_range->A2,size_toArray->A7,mem_of_getElem?->A8,getElem?_append_left->Bi,mem_cons->Bz,length_append->BC,length_take->BG,getElem?_map->BI,map_cons->BO,mem_map->BQ,filter_cons->B0,replicate->B4,mem_singleton->B5,mem_append_right->B6,mem_filter->B7,append_nil->B9,getElem?_append_right->Cn,take_add_one->Co,filter_append->Cs,map_append->Ct,mem_iff_getElem->CA,length_filter_le->CB,append_assoc->CC,mem_append->CD,pairwise_iff_getElem->CF,length_range->CI,pairwise_cons->CO,take_length->CU,pairwise_map->CY,pairwise_append->C1,getElem?_eq_none->C3,nodup_cons->C7,length_singleton->DA,length_eq_zero_iff->DC,length_cons->DI,lookup_cons->DJ,take_append_drop->DZ,lookup->ED,ext_getElem?->EI,replicate_succ->EM,mem_map_of_mem->EN,map_congr_left->EO,length->EQ,mem_iff_getElem?->EV,mem_append_left->E7,getElem?_take_of_lt->Fc,find?_cons->Fh,map_map->Fn,reverse_reverse->FA,drop_sublist->FD,reverse_append->FH,length_drop->FK,all_eq_true->FM,getElem_mem->FR,nodup_range->FS,filter_eq_nil_iff->FV,take_of_length_le->FX,perm_append_comm->F5,take_sublist->Go,length_erase_of_mem->Ha,mem_reverse->Hd,filterMap_cons->Hk,getElem?_range->Hm,getElem?_replicate->HC,any_cons->HH,filter_map->HQ,getElem?_set_self->HV,drop_eq_nil_of_le->Ix,flatten_cons->IA,getElem_take->IB,getElem?_inj->IC,getElem?_set_ne->IP,mem_erase_of_ne->IR,mem_of_mem_take->IS,filter_sublist->Jn,drop_eq_getElem_cons->JO,toArray->J1,Nodup->J5,pairwise_singleton->J7,filter_cons_of_neg->J8,length_pos_of_mem->KB,not_mem_nil->KG,length_replicate->KM,foldl_cons->K2,length_nil->K3,length_set->K7,range_succ->K8,take_succ_cons->Lu,nodup_nil->LF,drop_drop->LM,mem_filterMap->LU,map_singleton->LY,getElem_drop->Mo,reverse_perm->My,filter_congr->MA,getLast?_eq_none_iff->ME,getLast?_eq_some_iff->MG,map_nil->MW,filter_cons_of_pos->Na,of_mem_zip->No,nil_append->NB,range'->N1,filter->N2,take_zero->OH,pairwise_reverse->OI,getElem_toArray->OP,mem_of_mem_drop->OS,sum_cons->O0,getElem?_drop->PZ,extract->P5,nodup_append->QE,getElem_inj->Q3,getElem_map->Rc,cons_append->Re,perm_middle->RA,filter_nil->Sk,take->Ta,all_cons->Th,map_take->TD,map_drop->TH,take_nil->TK,drop_nil->TL,map_id'->U7,foldl->VZ
open PyProof.Rows renaming Keyed->AC,arrOf->AM,wpS_bind->AN,wpS_pure->AS,SortSt->A9,pendingOf->Bn,elem'->C8,wpS_forRange->Da,wpS_mono->DL,seqObj->DM,callWith_type1->D2,boot_tuple->EG,SortKind->EK,failedOf->ET,wpS_modify->G1,boot_list->Ic,wpS_get->IN,AllBare->J3,IntsAre->J4,boot_int->KS,envOfC->K0,callWith_builtin1->K1,wpS_lift->LL,boot_isinstance->LN,listUpdate_at->L6,reverseSlice'->Mc,boot_sorted->MZ,ltAt'->NC,subscriptTail_builtinR->NS,boot_max->Os,gallopOf->OT,Constant_none->OU,subscriptTail->OW,listItems_at->Pw,mirror->P3,setArr->P4,seqEpoch_at->Q1,boot_range->RY,Subscript_->R7,entry_list_sort->Se,bubble->SE,wpAny_notIn_heap->SF,slot_list_sort->SS,args_list_sort->SU,tuples'->S5,boot_min->VX,boot_sum->VY
open Nat renaming le_refl->AF,zero_le->BH,le_trans->BM,ne_of_lt->B2,lt_of_lt_of_le->Cc,lt_or_ge->C4,le_of_lt->De,lt_of_le_of_lt->Ev,add_sub_cancel->EB,pow_le_pow_right->Fm,lt_irrefl->FE,lt_succ_self->G6,zero_add->Hb,sub_self->IM,pow_succ->J0,lt_succ_of_lt->Kn,le_of_eq->KW,mod_lt->K9,lt_trichotomy->Mn,le_succ->NN,eq_zero_or_pos->PV,add_zero->PY,one_le_two_pow->P6,le_succ_of_le->QP,div_eq_of_lt->Rs,le_add_right->RE,mul_le_mul->SZ,ne_of_gt->UB,add_comm->US,sub_zero->UY,succ_pos->UZ
open PySem.Heap renaming get?_push_of_some->AJ,get?_push_size->AW,lt_size->By,SameBut->D6,get?_update_self->Eg,get?_update_other->ER,size_push->EU,ExtBut->QU
open Bool renaming false_eq_true->AR,false_ne_true->BA,not_true->DE,and_eq_true->FL,eq_iff_iff->HI,not_false->LH,false_and->SH,and_false->S4,false_or->To,or_false->Tu,true_and->TB,and_self->TC
open PySem.Value renaming ref->AT,none->CL,type->D4,isInt_shape->Iy,int->KI,str->O7,bool->RF,isStrOf->Tb,isInt->VA,bytes->VC,float->VE
open Array renaming length_toList->AV,getElem?_eq_getElem->A1,getElem?_toList->BU,toList_append->C5,getElem?_eq_some_iff->C9,getD->DH,toList_extract->Fu,getD_eq_getD_getElem?->F0,perm_iff_toList_perm->F8,size_setIfInBounds->Hc,forIn_toList->HP,getElem?_eq_none->HZ,toList_push->ID,toList_reverse->IU,getElem_mem_toList->M4,toList_map->M5,toList_modify->O5,toList->Pd,toList_inj->RC,replicate->Sl
open PySem.Paired renaming length->AY,snoc->Q0
open ForInStep renaming done->BD,yield->CM
open Option.some renaming inj->BY
open Or renaming inl->B3,inr->IE
open Classical renaming byContradiction->Cb,choose->EC,choose_spec->EW,propDecidable->M6
open PySem.NameKind renaming free->CH,cell->F6
open Ne renaming symm->C6
open Sum renaming inl->Db,inr->MM
open PySem.Heap.SameBut renaming update->Dx,refl->V7
open PySem.SetTable renaming insertAt->DD,runEnd->EH,Probe->GY,turns->MH,grown->So
open Int renaming toNat_natCast->DO,le_trans->D0,emod_lt_of_pos->EA,emod_nonneg->Fk,le_of_lt->Fs,le_refl->G2,not_lt->HR,natCast_add->NF,lt_irrefl->OZ,toNat_of_nonneg->O6,zero_add->U8,mul_one->VO
open PySem.Obj renaming mapSeq->DS,data_mapFields->Ex,isFreed_of_fields->IH,cls_mapFields->Ki,mapFields->L8,putSet->Sm
open PySem.F renaming slot_list_append->DT,type_list_append->DU,plainAttrs_list->D3,slot_dict_keyiterator_next->EF,slot_tuple_iterator_next->F7,called_set->He,slot_tuple_hash->HE,slot_tuple_mul->Iq,slot_tuple_eq->IL,args_tuple_add_2->JS,entry_tuple_add->J6,slot_tuple_add->Kx,slot_dict_get->KO,args_dict_keyiterator_next_1->K5,entry_dict_keyiterator_next->Lc,args_tuple_iterator_next_1->LD,entry_tuple_iterator_next->LX,slot_dict_getitem->MD,args_tuple_mul_2->M1,args_dict_get_3->M7,slot_tuple_rmul->M8,entry_tuple_mul->M9,plain_list_iadd->Nc,entry_dict_get->N0,slot_int_rmul->Oy,slot_dict_len->OA,slot_set_iter->OG,slot_dict_iter->Rl,plain_set_new->Su
open List.Pairwise renaming imp_of_mem->DV,nil->Kb,cons->PD
open PySem.PassesOwn renaming never->D1
open False renaming elim->Ee
open PySem.Builtin.List renaming listExtendWith->EL,listLengthHint->LZ,listSameRef->M3
open List.Perm renaming append_left->EX,append_right->KF,nodup_iff->Lm,refl->LJ,trans->NE,swap->OC,cons->S3
open Option renaming isSome_iff_exists->Fa,isSome_map->Kj,map_some->K4,isSome_iff_ne_none->ML,map_eq_some_iff->NX,getD_none->Q6,none->VT
open PySem.Challenge renaming pw_frontways_k54_whole_pairs_by_one_tie->FU
open PyProof.Rows.F renaming plain_set_update_loop->F3,entry_set_update_loop->J2
open True renaming intro->GH
open PySem.Builtin.SmallTypes renaming nextOf->GN
open PySem.Around renaming under_plainId->G0,under->MT
open PySem.Builtin.Range renaming rangeSize->Hn,small->O3,rangeFitsLong->S9
open PySem.Calls renaming spliced_cons->HL,call_function_entry->JE,spliced_nil->J9,Name_function_global->L3,callWith_builtin->NU,evalArgs_plain->ON
open PyProof.Rows.SortSt renaming mk'->HU
open PySem.Str renaming ofString->IF,empty->Nn
open PySem.Builtin.Tuple renaming tupleTooMany->IX,tupleHashOf->JI,tupleExact->M0,tupleItemsOf->Ts
open PySem.SetTable.layClean renaming free->IY
open PySem.Builtin.Dict_items renaming ownsTuple->LG
open PySem.SetTable.probe renaming go->LI
open PySem.SeqAt renaming EqAt->MC,notIn_tupleAt->O2,notIn_listAt->Po,in_tupleAt->Q7,in_listAt->R9
open PyProof renaming noPylong_small->NL
open PySem.Builtin.Dict renaming showsAll->N9,dictSlotNone->Uf,pendingCount->UA
open Prod renaming ext->OR,fst->U0
open List.cons renaming inj->OY
open PySem.SeqAt.EqAt renaming int_str->O8,str_int->O9,int_int->Pm,same->R8
open PySem.Code renaming isFrame->Pl,quiet_builtin->Pt,frames->VS
open PySem.WalksT renaming enumerateD->Qr
open List.Sublist renaming refl->QQ,append_left->U9,length_le->VW
open PySem.Data renaming fields->QR,cell->S7
open PySem.Builtin renaming sorted->Q9
open Array.Perm renaming refl->SD
open PySem.Builtin.Frozenset renaming updateFrom->S6,newClass->TJ,sizeOf->U5
open PySem.SeqAt.RcNeAt renaming lists_lengths->Tl,lists->V5
open Int.ofNat renaming inj->Tx
open PySem.EqNone renaming eq_none_none->TR,eq_none_bool->TU,eq_bool_none->TW,ne_none_none->T4,ne_none_bool->T5,ne_bool_none->T6,eq_none_int->UC,eq_none_str->UD,eq_int_none->UE,eq_str_none->UH,ne_none_int->UK,ne_none_str->UM,ne_int_none->UN,ne_str_none->UP
open PySem.EqMixed renaming eq_bool_str->TZ,eq_str_bool->T3,ne_bool_str->T7,ne_str_bool->T8,eq_int_str->UF,eq_str_int->UI,ne_int_str->UO,ne_str_int->UQ
open PySem.pickOrder renaming go->U2
open PySem.CmpOp renaming NotIn->VI,In->V8
open PySem.Walks renaming range->VM
open PySem.IsRange renaming new->VQ
open PySem.Moved renaming trans->VU
open PySem.W.WShape renaming has->V0
open PySem.W.Looks renaming here->V1
open PySem.Heap.IsSliceOf renaming new->V2
open PyProof.Rows.IsTup renaming new->V3
open PySem.W.WData renaming int->V4
open PySem.Within renaming cons->V6
open PySem.Heap.DictOfH renaming new->V9
open PySem.Heap.DictOf renaming new->We
namespace L2
inductive E1 {α0:Type} (p:α0->Prop):Prop
 | mk (a0:α0) (h:p a0):E1 p
inductive E2 {α0 α1:Type} (p:α0->α1->Prop):Prop
 | mk (a0:α0) (a1:α1) (h:p a0 a1):E2 p
inductive E4 {α0 α1 α2 α3:Type} (p:α0->α1->α2->α3->Prop):Prop
 | mk (a0:α0) (a1:α1) (a2:α2) (a3:α3) (h:p a0 a1 a2 a3):E4 p
inductive E5 {α0 α1 α2 α3 α4:Type} (p:α0->α1->α2->α3->α4->Prop):Prop
 | mk (a0:α0) (a1:α1) (a2:α2) (a3:α3) (a4:α4) (h:p a0 a1 a2 a3 a4):E5 p
inductive A3 (p0 p1 p2:Prop):Prop
 | mk (h0:p0) (h1:p1) (h2:p2):A3 p0 p1 p2
inductive A4 (p0 p1 p2 p3:Prop):Prop
 | mk (h0:p0) (h1:p1) (h2:p2) (h3:p3):A4 p0 p1 p2 p3
inductive A5 (p0 p1 p2 p3 p4:Prop):Prop
 | mk (h0:p0) (h1:p1) (h2:p2) (h3:p3) (h4:p4):A5 p0 p1 p2 p3 p4
inductive A6 (p0 p1 p2 p3 p4 p5:Prop):Prop
 | mk (h0:p0) (h1:p1) (h2:p2) (h3:p3) (h4:p4) (h5:p5):A6 p0 p1 p2 p3 p4 p5
end L2
namespace L2
open PySem PySem.Spec PyProof.Rows
abbrev Key:=Sum Int Str
def keyIs:Key->Ap->Bool
 | .inl k,v=>VA k v
 | .inr x,v=>Tb x v
def keyH(w:AQ):Key->Int
 | .inl k=>hashInt k
 | .inr x=>hashStr w x
theorem Bk:∀{k:Key}{v:Ap},keyIs k v=true->(∃i t,k=Db i/\v=KI i t)\/(∃x t,k=MM x/\v=O7 x t)
 | .inl i,v,h=>by
  obtain ⟨t,e⟩:=Iy (k:=i) (v:=v) h;exact .inl ⟨i,t,rfl,e⟩
 | .inr x,v,h=>by
  obtain ⟨t,e⟩:=Value.isStrOf_shape (x:=x) (v:=v) h;exact .inr ⟨x,t,rfl,e⟩
theorem Wc(i:Int)(t:Tok):keyIs (.inl i) (.int i t)=true:=by simp[keyIs,VA]
theorem Vx(x:Str)(t:Tok):keyIs (.inr x) (.str x t)=true:=by simp[keyIs,Tb]
theorem ACJ(a b:Int):decide ((Db a:Key)=Db b)=(a==b):=by
 by_cases e:a=b
 ·subst e;simp
 ·have h:¬ (Db a:Key)=Db b:=λq=>e (Sum.inl.inj q)
  rw[decide_eq_false h];exact (beq_eq_false_iff_ne.mpr e).symm
theorem ABg(a b:Str):decide ((MM a:Key)=MM b)=decide (a=b):=by
 by_cases e:a=b
 ·subst e;simp
 ·have h:¬ (MM a:Key)=MM b:=λq=>e (Sum.inr.inj q)
  rw[decide_eq_false h,decide_eq_false e]
theorem ABl(a:Int)(b:Str):decide ((Db a:Key)=MM b)=false:=decide_eq_false (λq=>nomatch q)
theorem ACW(a:Str)(b:Int):decide ((MM a:Key)=Db b)=false:=decide_eq_false (λq=>nomatch q)
def BW(prog:AL)(w:AQ):PySem.KeyKind prog w Key where
 is:=keyIs
 hash:=keyH w
 inj:=λv a b ha hb=>by
  rcases Bk ha with⟨i,t,rfl,rfl⟩ | ⟨x,t,rfl,rfl⟩
  ·rcases Bk hb with⟨j,u,rfl,e⟩ | ⟨y,u,rfl,e⟩
   ·injection e with e1 _;rw[e1]
   ·exact nomatch e
  ·rcases Bk hb with⟨j,u,rfl,e⟩ | ⟨y,u,rfl,e⟩
   ·exact nomatch e
   ·injection e with e1 _;rw[e1]
 byValue:=λk v h=>by
  rcases Bk h with⟨i,t,rfl,rfl⟩ | ⟨x,t,rfl,rfl⟩<;>rfl
 pyHash:=λhv h=>by
  rcases Bk hv with⟨i,t,rfl,rfl⟩ | ⟨x,t,rfl,rfl⟩
  ·exact wpAny_pyHash_int h
  ·exact wpAny_pyHash_str h
 eqBool:=λhu hv h=>by
  rcases Bk hu with⟨i,t,rfl,rfl⟩ | ⟨x,t,rfl,rfl⟩
  ·rcases Bk hv with⟨j,u,rfl,rfl⟩ | ⟨y,u,rfl,rfl⟩
   ·rw[ACJ] at h;exact wpAny_eqBool_int h
   ·rw[ABl] at h;exact O8 i t y u _ _ _ _ h
  ·rcases Bk hv with⟨j,u,rfl,rfl⟩ | ⟨y,u,rfl,rfl⟩
   ·rw[ACW] at h;exact O9 x t j u _ _ _ _ h
   ·rw[ABg] at h;exact wpAny_eqBool_str h
 «strs»:=λk x t v h=>by
  rcases Bk h with⟨i,u,rfl,e⟩ | ⟨y,u,rfl,e⟩
  ·exact nomatch e
  ·injection e with e1 _
   subst e1;cases v<;>rfl
theorem Qv(prog:AL)(w:AQ)(i:Int)(t:Tok):(BW prog w).is (.inl i) (.int i t)=true:=Wc i t
theorem Qu(prog:AL)(w:AQ)(x:Str)(t:Tok):(BW prog w).is (.inr x) (.str x t)=true:=Vx x t
inductive V where
 | non | bl (b:Bool) | int (i:Int) | str (x:Str) | byt (b:Array UInt8) | flt (b:UInt64) | ref (a:Addr) | ty (n:String)
 deriving DecidableEq
def RelV:V->Ap->Prop
 | .non,u=>u=CL
 | .bl b,u=>u=RF b
 | .int i,u=>∃t,u=KI i t
 | .str x,u=>∃t,u=O7 x t
 | .byt b,u=>∃t,u=VC b t
 | .flt b,u=>∃t,u=VE b t
 | .ref a,u=>u=AT a
 | .ty n,u=>u=D4 n
abbrev Vals:List V->List Ap->Prop:=BE RelV
theorem Vals.length{xs:List V}{us:List Ap}(r:Vals xs us):xs.length=us.length:=AY r
theorem Vals.get:∀{xs:List V}{us:List Ap}{i:Nat}{x:V},Vals xs us->xs[i]?=some x->∃u,us[i]?=some u/\RelV x u
 | _,_,_,_,.nil,e=>by simp at e
 | _,_,0,_,.cons r _,e=>by simp at e;subst e;exact ⟨_,rfl,r⟩
 | _,_,i+1,x,.cons _ t,e=>by
  obtain ⟨u,h1,h2⟩:=Vals.get (i:=i) (x:=x) t (by simpa using e);exact ⟨u,by simpa using h1,h2⟩
theorem Vals.append:∀{xs ys:List V}{us ws:List Ap},Vals xs us->Vals ys ws->Vals (xs++ys) (us++ws)
 | _,_,_,_,.nil,s=>s
 | _,_,_,_,.cons r t,s=>.cons r (Vals.append t s)
theorem Vals.take:∀{xs:List V}{us:List Ap} (n:Nat),Vals xs us->Vals (xs.take n) (us.take n)
 | _,_,0,_=>.nil
 | _,_,_+1,.nil=>.nil
 | _,_,n+1,.cons r t=>.cons r (Vals.take n t)
theorem Vals.drop:∀{xs:List V}{us:List Ap} (n:Nat),Vals xs us->Vals (xs.drop n) (us.drop n)
 | _,_,0,r=>r
 | _,_,_+1,.nil=>.nil
 | _,_,n+1,.cons _ t=>Vals.drop n t
def RelO:Option V->Option Ap->Prop
 | some v,some u=>RelV v u
 | none,none=>True
 | _,_=>False
def KV{κ:Type}:List (κ×V)->List (κ×Ap)->Prop:=BE λ(p:κ×V) (q:κ×Ap)=>p.1=q.1/\RelV p.2 q.2
def kV:Key->V
 | .inl i=>.int i
 | .inr x=>.str x
inductive HO where
 | lst (xs:List V)
 | tup (xs:List V)
 | dK (kvs:List (Key×V)) | dT (kvs:List (List Key×V))
 | set (S:Int->Bool) (n:Nat)
 | ins (C dx:Addr) (fs:List (Str×V))
 | own (x:Addr)
 | xd (fs:List (Str×V))
 | met (f x:Addr)
 | rng (lo hi:Int)
 | frz (o:Obj) (u:HO)
 | tbl (ps:Array Ap)
 | ext (φ:Heap->Prop)
abbrev Hp:=Addr->Option HO
def upd(H:Hp)(a:Addr)(o:HO):Hp:=λb=>if b=a then some o else H b
theorem Ab{H:Hp}{a:Addr}{o:HO}:upd H a o a=some o:=by unfold upd;rw[if_pos rfl]
theorem Ae{H:Hp}{a b:Addr}{o:HO}(h:b≠a):upd H a o b=H b:=by unfold upd;rw[if_neg h]
theorem AAo{H:Hp}{a:Addr}{o u:HO}:upd (upd H a o) a u=upd H a u:=by
 funext b;unfold upd;split<;>rfl
theorem Bu{H:Hp}{a b:Addr}{o u:HO}(h:H a=some o)(h':H b=some u)(d:o≠u):a≠b:=by
 intro e;subst e;rw[h] at h';exact d (BY h')
theorem Ad{H:Hp}{a b:Addr}{o:HO}(h:H a=some o)(h':H b=none):a≠b:=by
 intro e;subst e;rw[h] at h';cases h'
section
variable (P:AL)(w:AQ)
def ObjOk(H:Hp)(h:Heap)(a:Addr):HO->Prop
 | .lst xs=>xs.length<=sizeLine/\∃(its:List Ap) (n:Nat),Vals xs its/\h.get? a=some {cls:=.type "list",data:=.seq its.toArray n}
 | .tup xs=>xs.length<=sizeLine/\∃its:List Ap,Vals xs its/\IsTup h a its.toArray
 | .dK kvs=>kvs.length<=sizeLine/\(a==DF)=false/\∃vs,KV kvs vs/\h.DictOf (BW P w) a vs
 | .dT kvs=>kvs.length<=sizeLine/\(a==DF)=false/\∃xs:List (List Key×Addr×Ap),
   BE (λ(p:List Key×V) (q:List Key×Addr×Ap)=>p.1=q.1/\H q.2.1=some (.tup (p.1.map kV))/\RelV p.2 q.2.2) kvs xs /\
   ∃o es ep,h.get? a=some o/\o.ExactDict/\o.data=.dict es ep/\es.toList=xs.map (entryOfKey (LO (BW P w)))/\(xs.map (·.1)).Nodup
 | .set S n=>h.SetOf (KL P w) a S n
 | .ins C dx fs=>H dx=some (.own a)/\fs.length<=1000/\dx≠a/\h.get? a=some (E3 C dx) /\
   ∃mA,h.Ns1 dx mA/\(∀f,RelO (fs.lookup f) (mA f))/\Pc mA (fs.map (·.1))
 | .own _=>∃o,h.get? a=some o
 | .xd fs=>∃mA,h.Ns1 a mA/\∀f,RelO (fs.lookup f) (mA f)
 | .rng lo hi=>∃t u v,h.get? a=some {cls:=.type "range",data:=.fields #[.int lo t,.int hi u,.int 1 v]}
 | .frz o u=>h.get? a=some o/\ObjOk H h a u
 | .tbl ps=>h.get? a=some {cls:=.none,data:=.fields ps}
 | .met f x=>h.get? a=some (Md (.ref f) (.ref x))
 | .ext φ=>φ h/\(∃o,h.get? a=some o)/\∀h1 h2:Heap,φ h1->(∀o,h1.get? a=some o->h2.get? a=some o)->φ h2
def HOk(H:Hp)(h:Heap):Prop:=∀a o,H a=some o->ObjOk P w H h a o
end
section
variable{P:AL}{w:AQ}{H H':Hp}{h h':Heap}{a:Addr}{o:HO}
theorem ObjOk.lt(x:ObjOk P w H h a o):a<h.objs.size:=by
 cases o with
 | lst xs=>obtain ⟨_,_,_,_,e⟩:=x;exact By e
 | tup xs=>obtain ⟨_,_,_,p⟩:=x;exact p.lt
 | dK kvs=>obtain ⟨_,_,_,_,o,_,_,e,_⟩:=x;exact By e
 | dT kvs=>obtain ⟨_,_,_,_,o,_,_,e,_⟩:=x;exact By e
 | set S n=>obtain ⟨o,_,_,_,e,_⟩:=x;exact By e
 | ins C dx fs=>obtain ⟨_,_,_,e,_⟩:=x;exact By e
 | own y=>obtain ⟨_,e⟩:=x;exact By e
 | xd fs=>obtain ⟨_,⟨_,_,_,e,_⟩,_⟩:=x;exact By e
 | rng lo hi=>obtain ⟨_,_,_,e⟩:=x;exact By e
 | frz ob u=>obtain ⟨e,_⟩:=x;exact By e
 | tbl ps=>exact By (show h.get? a=some _ from x)
 | met f y=>exact By (show h.get? a=some _ from x)
 | ext φ=>obtain ⟨_,⟨_,e⟩,_⟩:=x;exact By e
theorem Paired.mapP{α β:Type}{F G:α->β->Prop}:∀{l₁:List α}{l₂:List β},BE F l₁ l₂->(∀a b,F a b->G a b)->BE G l₁ l₂
 | _,_,.nil,_=>.nil
 | _,_,.cons r t,f=>.cons (f _ _ r) (Paired.mapP t f)
theorem ObjOk.stay(x:ObjOk P w H h a o)(k:∀b u,(b=a\/H b=some (.own a))->h.get? b=some u->h'.get? b=some u)
  (ho:∀b,H b=some (.own a)->H' b=some (.own a)) (ht:∀b xs,H b=some (.tup xs)->H' b=some (.tup xs)):ObjOk P w H' h' a o:=by
 induction o with
 | lst xs=>obtain ⟨z,its,n,r,e⟩:=x;exact ⟨z,its,n,r,k _ _ (.inl rfl) e⟩
 | tup xs=>obtain ⟨z,its,r,ob,e,c⟩:=x;exact ⟨z,its,r,ob,k _ _ (.inl rfl) e,c⟩
 | dK kvs=>obtain ⟨z,y,vs,r,ob,es,ep,e,c⟩:=x;exact ⟨z,y,vs,r,ob,es,ep,k _ _ (.inl rfl) e,c⟩
 | dT kvs =>
  obtain ⟨z,y,xs,r,ob,es,ep,e,c⟩:=x;exact ⟨z,y,xs,Paired.mapP r λp q z=>⟨z.1,ht _ _ z.2.1,z.2.2⟩,ob,es,ep,k _ _ (.inl rfl) e,c⟩
 | set S n=>obtain ⟨ob,es,ep,t,e,c⟩:=x;exact ⟨ob,es,ep,t,k _ _ (.inl rfl) e,c⟩
 | ins C dx fs =>
  obtain ⟨d,z,ne,e,mA,⟨od,es,ep,e2,c⟩,r⟩:=x;exact ⟨ho _ d,z,ne,k _ _ (.inl rfl) e,mA,⟨od,es,ep,k _ _ (.inr d) e2,c⟩,r⟩
 | own y=>obtain ⟨ob,e⟩:=x;exact ⟨ob,k _ _ (.inl rfl) e⟩
 | xd fs=>obtain ⟨mA,⟨od,es,ep,e,c⟩,r⟩:=x;exact ⟨mA,⟨od,es,ep,k _ _ (.inl rfl) e,c⟩,r⟩
 | rng lo hi=>obtain ⟨t,u,v,e⟩:=x;exact ⟨t,u,v,k _ _ (.inl rfl) e⟩
 | frz ob u ih=>obtain ⟨e,q⟩:=x;exact ⟨k _ _ (.inl rfl) e,ih q⟩
 | tbl ps =>
  have e:h.get? a=some {cls:=.none,data:=.fields ps}:=x;show h'.get? a=some {cls:=.none,data:=.fields ps};exact k a _ (.inl rfl) e
 | met f y =>
  have e:h.get? a=some (Md (.ref f) (.ref y)):=x;show h'.get? a=some (Md (.ref f) (.ref y));exact k a _ (.inl rfl) e
 | ext φ=>obtain ⟨p,⟨o,e⟩,st⟩:=x;exact ⟨st _ _ p λo q=>k _ _ (.inl rfl) q,⟨o,k _ _ (.inl rfl) e⟩,st⟩
theorem HOk.lt(x:HOk P w H h)(e:H a=some o):a<h.objs.size:=(x a o e).lt
theorem HOk.fresh(x:HOk P w H h)(e:h.objs.size<=a):H a=none:=by
 cases q:H a with
 | none=>rfl
 | some u=>exact absurd (Cc (x.lt q) e) (FE _)
theorem HOk.kept(x:HOk P w H h)(k:∀b u,h.get? b=some u->h'.get? b=some u):HOk P w H h':=λa o e =>
 (x a o e).stay (λb u _ q=>k b u q) (λ_ q=>q) λ_ _ q=>q
theorem HOk.laid(x:HOk P w H h)(k:∀b u,h.get? b=some u->h'.get? b=some u)(hp:h.objs.size<=a)(new:ObjOk P w (upd H a o) h' a o):HOk P w (upd H a o) h':=λb u e=>by
 have hn:=x.fresh hp;by_cases hb:b=a
 ·subst hb;rw[Ab] at e;cases e;exact new
 ·rw[Ae hb] at e
  exact (x b u e).stay (λc v _ q=>k c v q) (λc q=>by rw[Ae (Ad q hn)];exact q) λc xs q=>by rw[Ae (Ad q hn)];exact q
end
def Rd(H:Hp)(a:Addr)(u:HO):Prop:=H a=some u\/∃o,H a=some (.frz o u)
theorem Rd.ok{P:AL}{w:AQ}{H:Hp}{h:Heap}{a:Addr}{u:HO}(r:Rd H a u)(x:HOk P w H h):ObjOk P w H h a u:=by
 rcases r with r | ⟨o,r⟩
 ·exact x a u r
 ·obtain ⟨_,q⟩:=x a _ r
  exact q
def Mut:Option HO->Prop
 | some (.lst _)=>True
 | some (.dK _)=>True
 | some (.dT _)=>True
 | some (.set _ _)=>True
 | some (.ins _ _ _)=>True
 | some (.ext _)=>True
 | _=>False
section
variable{P:AL}{w:AQ}{H:Hp}{h h':Heap}{x e:Addr}{o':HO}
theorem HOk.write(ok:HOk P w H h)(mu:Mut (H x))(he:e=x\/H e=some (.own x))(k:∀b u,b≠e->h.get? b=some u->h'.get? b=some u)(heo:∃u,h'.get? e=some u)
  (new:ObjOk P w (upd H x o') h' x o'):HOk P w (upd H x o') h':=λb u q=>by
 have nown:∀c y,H c=some (.own y)->c≠x:=λc y r z=>by subst z;rw[r] at mu;exact mu
 have ntup:∀c xs,H c=some (.tup xs)->c≠x:=λc xs r z=>by subst z;rw[r] at mu;exact mu
 by_cases hb:b=x
 ·subst hb;rw[Ab] at q;cases q;exact new
 ·rw[Ae hb] at q
  by_cases hbe:b=e
  ·have q':H b=some (.own x):=by
    rcases he with z | z
    ·exact absurd (hbe.trans z) hb
    ·rw[hbe];exact z
   rw[q] at q';cases q';obtain ⟨v,hv⟩:=heo;exact ⟨v,by rw[hbe];exact hv⟩
  ·refine (ok b u q).stay (λc v hc r=>k c v ?_ r) (λc r=>by rw[Ae (nown c b r)];exact r) λc xs r=>by rw[Ae (ntup c xs r)];exact r
   rcases hc with rfl | hc
   ·exact hbe
   ·rintro rfl
    rcases he with z | z
    ·exact nown c b hc z
    ·rw[hc] at z;cases z;exact hb rfl
end
structure Un(fs ex:List Addr)(H H':Hp)(h h':Heap):Prop where
 keep:∀b o,h.get? b=some o->H b=none->b∉fs->b∉ex->h'.get? b=some o
 slot:∀b o,h.get? b=some o->H b=none->b∈fs->b∉ex->∃sl,h'.get? b=some {o with slots:=sl}
 free:∀b o,h.get? b=some o->H b=none->b∉ex->H' b=none
 there:∀b o,h.get? b=some o->b∉ex->∃o',h'.get? b=some o'
 tups:∀b xs,H b=some (.tup xs)->H' b=some (.tup xs)
 frzs:∀b o u,H b=some (.frz o u)->H' b=some (.frz o u)
 tbls:∀b ps,H b=some (.tbl ps)->∃more,H' b=some (.tbl (ps++more))
section
variable{fs fs' ex ex':List Addr}{H H1 H2:Hp}{h h1 h2 h':Heap}{a x e:Addr}{o:HO}
theorem Un.any(u:Un fs ex H H1 h h1){b:Addr}{ob:Obj}(q:h.get? b=some ob)(n:H b=none)(hx:b∉ex):∃sl,h1.get? b=some {ob with slots:=sl}:=by
 by_cases hb:b∈fs
 ·exact u.slot b ob q n hb hx
 ·exact ⟨ob.slots,u.keep b ob q n hb hx⟩
theorem Un.kept(k:∀b u,h.get? b=some u->h'.get? b=some u):Un fs ex H H h h' :=
 ⟨λb ob q _ _ _=>k b ob q,λb ob q _ _ _=>⟨ob.slots,k b ob q⟩,λ_ _ _ n _=>n,λb ob q _=>⟨ob,k b ob q⟩,λ_ _ q=>q,λ_ _ _ q=>q,λ_ ps q=>⟨#[],by rw[q];simp⟩⟩
theorem Un.refl:Un fs ex H H h h:=Un.kept λ_ _ q=>q
theorem Un.laid(k:∀b u,h.get? b=some u->h'.get? b=some u)(hp:h.objs.size<=a)(hn:H a=none):Un fs ex H (upd H a o) h h' where
 keep:=λb u q _ _ _=>k b u q
 slot:=λb u q _ _ _=>⟨u.slots,k b u q⟩
 free:=λb u q n _=>by rw[Ae (B2 (Cc (By q) hp))];exact n
 there:=λb u q _=>⟨u,k b u q⟩
 tups:=λb xs q=>by rw[Ae (Ad q hn)];exact q
 frzs:=λb u xs q=>by rw[Ae (Ad q hn)];exact q
 tbls:=λb ps q=>⟨#[],by rw[Ae (Ad q hn),q];simp⟩
theorem Un.write(mu:Mut (H x))(he:e=x\/H e=some (.own x))(k:∀b u,b≠e->h.get? b=some u->h'.get? b=some u)(heo:∃u,h'.get? e=some u):Un fs ex H (upd H x o) h h':=by
 have hx:∀b,H b=none->b≠x:=λb n z=>by subst z;rw[n] at mu;exact mu
 have hb:∀b,H b=none->b≠e:=λb n z=>by
  subst z;rcases he with r | r
  ·exact hx b n r
  ·rw[n] at r;cases r
 have hm:∀b u,H b=some u->¬ Mut (some u)->b≠x:=λb u q nm z=>by subst z;rw[q] at mu;exact nm mu
 refine ⟨λb u q n _ _=>k b u (hb b n) q,λb u q n _ _=>⟨u.slots,k b u (hb b n) q⟩,λb u q n _=>by rw[Ae (hx b n)];exact n,λb u q _=>?_,
  λb xs q=>by rw[Ae (hm b _ q λz=>z)];exact q,λb u xs q=>by rw[Ae (hm b _ q λz=>z)];exact q,λb ps q=>⟨#[],by rw[Ae (hm b _ q λz=>z),q];simp⟩⟩
 by_cases hbe:b=e
 ·subst hbe;exact heo
 ·exact ⟨u,k b u hbe q⟩
end
def trk(h:Heap)(H:Hp):List Addr:=(AX h.objs.size).filter λa=>(H a).isSome
def hidT(h:Heap)(H:Hp):Heap:=PySem.W.hideAll h (trk h H)
theorem Xb(h:Heap)(H:Hp):(hidT h H).objs.size=h.objs.size:=PySem.W.hideAll_size _ _
theorem Yw{h:Heap}{H:Hp}{b:Addr}{o:Obj}(e:h.get? b=some o)(n:H b=none):(hidT h H).get? b=some o :=
 PySem.W.hideAll_get _ e λhm=>by
  have q:(H b).isSome=true:=(B7.mp hm).2;rw[n] at q;simp at q
theorem AAb{h:Heap}{H:Hp}{b:Addr}{o:Obj}(e:(hidT h H).get? b=some o):h.get? b=some o/\H b=none:=by
 have e':h.get? b=some o:=PySem.W.of_hideAll (trk h H) e;refine ⟨e',?_⟩;cases q:H b with
 | none=>rfl
 | some x =>
  have hm:b∈trk h H:=B7.mpr ⟨A2.mpr (By e'),by simp[q]⟩;have z:(hidT h H).get? b=none:=PySem.W.hideAll_none (trk h H) hm;rw[z] at e;cases e
def allNews(g h:Heap)(L:Addr):List (Addr×Obj):=(AX h.objs.size).filterMap λa=>if a=L\/(g.get? a).isSome=true then none else (h.get? a).map λo=>(a,o)
def rest(g h:Heap)(L d:Addr):List (Addr×Obj):=(allNews g h L).filter λp=>decide (p.1≠d)
structure Mod(K:Au)(mg:Str->Option Ap)(base:Heap):Prop where
 kin:K.In base
 glob:base.Ns AZ mg
 blt:∃mb,base.Ns RH mb/\∀x:Str,x≠"__name__"->mb x=G4 x
 nolimit:base.NoLimit
structure Cx where
 prog:AL
 w:AQ
 K:Au
 mg:Str->Option Ap
 base:Heap
 A:BS
 N:List Str
 s₀:AA
 H₀:Hp
 env:Env
 outer:List Env
 stack:List Env
 ex:List Addr
 fn:Str->Bool
 calm:Bool
 pn:List (Addr×Obj)
 xe:Ap->AA->Prop
def frs(l:List Env):List Addr:=l.filterMap (·.frame)
abbrev Cx.fs(X:Cx):List Addr:=frs X.outer
def Vis(sc:E6)(x:Str):Prop:=sc.names.lookup x=some .local\/sc.names.lookup x=some .cell\/sc.names.lookup x=some .free
def Loc(sc:E6)(x:Str):Prop:=sc.names.lookup x=some .local\/sc.names.lookup x=some .cell
def Look(env:Env)(h:Heap)(m:Str->Option Ap)(x:Str)(u:Ap):Prop :=
 (env.kindOf x=some .local/\m x=some u)\/((env.kindOf x=some .cell\/env.kindOf x=some .free)/\∃c,env.cells.lookup x=some c/\h.IsCell c (some u))
structure Cx.Ok(X:Cx):Prop where
 mod:Mod X.K X.mg X.base
 kind:X.env.scope.kind=.function
 glob:X.env.globals=AZ
 blt:X.env.builtins=RH
 above:X.s₀.heap.objs.size<=X.env.locals
 inj:∀x y c,X.env.cells.lookup x=some c->X.env.cells.lookup y=some c->x=y
 has:∀x,(X.env.kindOf x=some .cell\/X.env.kindOf x=some .free)->∃c,X.env.cells.lookup x=some c
 cab:∀x c,X.fn x=true->X.env.cells.lookup x=some c->X.s₀.heap.objs.size<=c
 hd:X.calm=true->X.A.handled=none
 frames:X.A.frames=some X.stack
 stk:X.stack=X.outer\/(X.stack=X.env::X.outer/\X.env.frame=some X.env.locals)
 exf:∀b∈X.ex,b≠X.env.locals/\∀x c,X.env.cells.lookup x=some c->c≠b
 bs:∀b o,X.base.get? b=some o->X.s₀.heap.get? b=some o/\X.H₀ b=none
 bsz:X.base.objs.size<=X.s₀.heap.objs.size
 noex:∀b o,X.base.get? b=some o->b∉X.ex
 exfs:∀b∈X.ex,b∉X.fs
 funs:X.s₀.heap.FunFrames X.base X.outer
 frf:∀b∈X.fs,X.H₀ b=none
structure Inv(X:Cx)(pins:List (Addr×Obj))(σ:List (Option V))(H:Hp)(s:AA):Prop where
 ok:X.Ok
 os:s.os=X.s₀.os
 bare:J3 s.gens
 base:Un X.fs X.ex X.H₀ H X.s₀.heap s.heap
 loc:∃m,s.heap.Ns X.env.locals m/\∀(i:Nat) (x:Str) (v:V),X.N[i]?=some x->σ[i]?=some (some v)->Vis X.env.scope x->∃u,RelV v u/\Look X.env s.heap m x u
 cell:∀x c,X.env.cells.lookup x=some c->∃v,s.heap.IsCell c v
 free:H X.env.locals=none
 freeC:∀x c,X.env.cells.lookup x=some c->H c=none
 pin:∀p∈X.pn++pins,s.heap.get? p.1=some p.2/\H p.1=none/\p.1≠X.env.locals/\p.1∉X.fs/\∀v,p.2.data≠.cell v
 hok:HOk X.prog X.w H s.heap
 len:σ.length=X.N.length
section
variable{X:Cx}{pins:List (Addr×Obj)}{σ:List (Option V)}{H H':Hp}{s:AA}{h':Heap}
theorem Cx.Ok.nofr(ok:X.Ok){b:Addr}{o:Obj}(e:X.base.get? b=some o):b∉X.fs:=λhb=>by
 have:=(ok.funs.mem hb).1;rw[e] at this;cases this
theorem Inv.bs(I:Inv X pins σ H s):∀b o,X.base.get? b=some o->s.heap.get? b=some o/\H b=none:=λb o e =>
 ⟨I.base.keep b o (I.ok.bs b o e).1 (I.ok.bs b o e).2 (I.ok.nofr e) (I.ok.noex b o e),I.base.free b o (I.ok.bs b o e).1 (I.ok.bs b o e).2 (I.ok.noex b o e)⟩
theorem Inv.bk(I:Inv X pins σ H s):∀b o,X.base.get? b=some o->s.heap.get? b=some o:=λb o e=>(I.bs b o e).1
theorem Inv.mod(I:Inv X pins σ H s):Mod X.K X.mg X.base:=I.ok.mod
theorem Inv.kIn(I:Inv X pins σ H s):X.K.In s.heap:=I.ok.mod.kin.keeps I.bk
theorem Inv.lt(I:Inv X pins σ H s):X.env.locals<s.heap.objs.size:=let ⟨_,hn,_⟩:=I.loc;hn.lt
theorem Inv.sz(I:Inv X pins σ H s):X.s₀.heap.objs.size<=s.heap.objs.size:=BM I.ok.above (De I.lt)
theorem Inv.nofs(I:Inv X pins σ H s){a:Addr}(h:s.heap.objs.size<=a):a∉X.fs:=λhb=>by
 obtain ⟨_,o,ho,_⟩:=I.ok.funs.mem hb;exact absurd (Cc (By ho) (BM I.sz h)) (FE _)
theorem Inv.cne(I:Inv X pins σ H s):∀x c,X.env.cells.lookup x=some c->c≠X.env.locals:=λx c e z=>by
 obtain ⟨v,o,ho,hd⟩:=I.cell x c e;obtain ⟨m,⟨o',es,ep,ho',hd',_⟩,_⟩:=I.loc;rw[z,ho'] at ho;cases ho;rw[hd'] at hd;cases hd
theorem Inv.funs(I:Inv X pins σ H s):s.heap.FunFrames X.base X.outer:=by
 have all:∀(l:List Env),(∀b∈frs l,b∈X.fs)->X.s₀.heap.FunFrames X.base l->s.heap.FunFrames X.base l:=by
  intro l
  induction l with
  | nil=>intro _ _;trivial
  | cons env r ih =>
   intro hs hl;obtain ⟨hk,⟨L,o,hf,hn,ho,hd⟩,hr⟩:=hl;have hL:L∈X.fs:=hs L (by unfold frs;rw[Hk,hf];exact AD);obtain ⟨sl,e⟩:=I.base.slot L o ho (I.ok.frf L hL) hL λz=>I.ok.exfs L z hL;exact ⟨hk,⟨L,_,hf,hn,e,hd⟩,ih (λb hb=>hs b (by unfold frs;rw[Hk,hf];exact AG _ hb)) hr⟩
 exact all X.outer (λ_ hb=>hb) I.ok.funs
theorem Inv.stack(I:Inv X pins σ H s):s.heap.FunFrames X.base X.stack:=by
 rcases I.ok.stk with e | ⟨e,hf⟩
 ·rw[e];exact I.funs
 ·rw[e]
  obtain ⟨m,hn,_⟩:=I.loc;refine .cons (by rw[I.ok.kind];decide) hf hn ?_ I.funs;exact Heap.get?_none_of_le (BM I.ok.bsz I.ok.above)
theorem Inv.stkSub(I:Inv X pins σ H s):∀b∈frs X.stack,b∈X.env.locals::X.fs:=λb hb=>by
 rcases I.ok.stk with e | ⟨e,hf⟩
 ·rw[e] at hb;exact AG _ hb
 ·rw[e] at hb
  unfold frs at hb;rw[Hk,hf] at hb;exact hb
theorem Inv.stkFree(I:Inv X pins σ H s):∀b∈frs X.stack,H b=none:=λb hb=>by
 rcases Bz.mp (I.stkSub b hb) with e | hb
 ·rw[e];exact I.free
 ·obtain ⟨_,o,ho,_⟩:=I.ok.funs.mem hb
  exact I.base.free b o ho (I.ok.frf b hb) λz=>I.ok.exfs b z hb
theorem Inv.step{g':Array Q2}{t':Nat}{d':Drawn}{ch:List Addr}(I:Inv X pins σ H s)
  (hch:∀b∈ch,(b∈X.ex\/X.s₀.heap.objs.size<=b)/\b≠X.env.locals/\(∀x c,X.env.cells.lookup x=some c->c≠b)/\∀p∈X.pn++pins,p.1≠b)
  (keep:∀b o,b≠X.env.locals->b∉X.fs->b∉ch->s.heap.get? b=some o->H b=none->h'.get? b=some o)
  (slot:∀b o,b≠X.env.locals->b∈X.fs->b∉ch->s.heap.get? b=some o->H b=none->∃sl,h'.get? b=some {o with slots:=sl}) (free:∀b o,b∉ch->s.heap.get? b=some o->H b=none->H' b=none)
  (there:∀b o,b∉ch->s.heap.get? b=some o->∃o',h'.get? b=some o')
  (tups:∀b xs,H b=some (.tup xs)->H' b=some (.tup xs)) (frzs:∀b o u,H b=some (.frz o u)->H' b=some (.frz o u)) (tbls:∀b ps,H b=some (.tbl ps)->∃more,H' b=some (.tbl (ps++more)))
  (ns:∀m,s.heap.Ns X.env.locals m->h'.Ns X.env.locals m) (hok:HOk X.prog X.w H' h') (hg:J3 g') :
  Inv X pins σ H' {s with heap:=h',gens:=g',drawn:=d',toks:=t'}:=by
 have neL:∀b o,X.s₀.heap.get? b=some o->b≠X.env.locals:=λb o e=>B2 (Cc (By e) I.ok.above);have neC:∀b o,X.s₀.heap.get? b=some o->b∉X.ex->b∉ch:=λb o e hx hb=>by
  rcases (hch b hb).1 with z | z
  ·exact hx z
  ·exact absurd (Cc (By e) z) (FE _)
 have cellK:∀x c,X.env.cells.lookup x=some c->∀v,s.heap.IsCell c v->h'.IsCell c v:=λx c e v ⟨o,ho,hd⟩=>by
  have nch:c∉ch:=λz=>(hch c z).2.2.1 x c e rfl;by_cases hc:c∈X.fs
  ·obtain ⟨sl,q⟩:=slot c o (I.cne x c e) hc nch ho (I.freeC x c e)
   exact ⟨_,q,hd⟩
  ·exact ⟨o,keep c o (I.cne x c e) hc nch ho (I.freeC x c e),hd⟩
 refine ⟨I.ok,I.os,hg,⟨λb o e n hb hx=>?_,λb o e n hb hx=>?_,λb o e n hx=>?_,λb o e hx=>?_,λb xs e=>tups b xs (I.base.tups b xs e),λb o xs e=>frzs b o xs (I.base.frzs b o xs e),λb ps e=>?_⟩,?_,λx c e=>?_,?_,λx c e=>?_,λp hp=>?_,hok,I.len⟩
 ·exact keep b o (neL b o e) hb (neC b o e hx) (I.base.keep b o e n hb hx) (I.base.free b o e n hx)
 ·obtain ⟨sl,e1⟩:=I.base.slot b o e n hb hx
  obtain ⟨sl',e2⟩:=slot b _ (neL b o e) hb (neC b o e hx) e1 (I.base.free b o e n hx);exact ⟨sl',e2⟩
 ·obtain ⟨o',e1⟩:=I.base.there b o e hx
  exact free b o' (neC b o e hx) e1 (I.base.free b o e n hx)
 ·obtain ⟨o',e1⟩:=I.base.there b o e hx
  exact there b o' (neC b o e hx) e1
 ·obtain ⟨m1,e1⟩:=I.base.tbls b ps e
  obtain ⟨m2,e2⟩:=tbls b _ e1;exact ⟨m1++m2,by rw[e2,Array.append_assoc]⟩
 ·obtain ⟨m,hn,hl⟩:=I.loc
  refine ⟨m,ns m hn,λi x v e1 e2 e3=>?_⟩;obtain ⟨u,r,l⟩:=hl i x v e1 e2 e3;refine ⟨u,r,?_⟩;rcases l with l | ⟨k,c,e,z⟩
  ·exact .inl l
  ·exact .inr ⟨k,c,e,cellK x c e _ z⟩
 ·obtain ⟨v,z⟩:=I.cell x c e
  exact ⟨v,cellK x c e v z⟩
 ·obtain ⟨m,⟨o,_,_,ho,_⟩,_⟩:=I.loc
  exact free _ o (λz=>(hch _ z).2.1 rfl) ho I.free
 ·obtain ⟨v,o,ho,hd⟩:=I.cell x c e
  exact free c o (λz=>(hch c z).2.2.1 x c e rfl) ho (I.freeC x c e)
 ·obtain ⟨e,n,ne,nf,d⟩:=I.pin p hp
  have nch:p.1∉ch:=λz=>(hch p.1 z).2.2.2 p hp rfl;exact ⟨keep p.1 p.2 ne nf nch e n,free p.1 p.2 nch e n,ne,nf,d⟩
theorem Inv.un{t':Nat}(I:Inv X pins σ H s)(u:Un X.fs [] H H' s.heap h')(hok:HOk X.prog X.w H' h'):Inv X pins σ H' {s with heap:=h',toks:=t'}:=by
 obtain ⟨m,⟨o,es,ep,ho,r⟩,_⟩:=id I.loc;obtain ⟨sl,hL⟩:=u.any ho I.free (by simp);exact I.step (g':=s.gens) (d':=s.drawn) (ch:=[]) (λ_ z=>nomatch z) (λb o _ hb _ e n=>u.keep b o e n hb (by simp)) (λb o _ hb _ e n=>u.slot b o e n hb (by simp)) (λb o _ e n=>u.free b o e n (by simp)) (λb o _ e=>u.there b o e (by simp)) u.tups u.frzs u.tbls (λm' hm=>by
  obtain ⟨o',es',ep',ho',r'⟩:=hm;rw[ho] at ho';cases ho';exact ⟨_,es',ep',hL,r'⟩) hok I.bare
theorem Inv.call{g':Array Q2}{t':Nat}{d':Drawn}{ch:List Addr}(I:Inv X pins σ H s)(u:Un (frs X.stack) ch H H' s.heap h')(hok:HOk X.prog X.w H' h')(hg:J3 g')
  (hch:∀b∈ch,(b∈X.ex\/X.s₀.heap.objs.size<=b)/\b≠X.env.locals/\(∀x c,X.env.cells.lookup x=some c->c≠b)/\∀p∈X.pn++pins,p.1≠b) :
  Inv X pins σ H' {s with heap:=h',gens:=g',drawn:=d',toks:=t'}:=by
 obtain ⟨m,⟨o,es,ep,ho,r⟩,_⟩:=id I.loc;obtain ⟨sl,hL⟩:=u.any ho I.free λz=>(hch _ z).2.1 rfl;exact I.step (ch:=ch) hch (λb o hL hb hc e n=>u.keep b o e n (λz=>(Bz.mp (I.stkSub b z)).elim hL hb) hc) (λb o _ _ hc e n=>u.any e n hc) (λb o hc e n=>u.free b o e n hc) (λb o hc e=>u.there b o e hc) u.tups u.frzs u.tbls (λm' hm=>by
  obtain ⟨o',es',ep',ho',r'⟩:=hm;rw[ho] at ho';cases ho';exact ⟨_,es',ep',hL,r'⟩) hok hg
theorem Inv.turned{t':Nat}{it:Addr}(I:Inv X pins σ H s)(k:∀b o,b≠it->s.heap.get? b=some o->h'.get? b=some o)(hn:H it=none)(hL:it≠X.env.locals)
  (h1:it∈X.ex\/X.s₀.heap.objs.size<=it) (h2:∀x c,X.env.cells.lookup x=some c->c≠it) (h3:∀p∈X.pn++pins,p.1≠it):Inv X pins σ H {s with heap:=h',toks:=t'}:=by
 have nit:∀b u,H b=some u->b≠it:=λb u e z=>by rw[z,hn] at e;cases e
 refine I.step (g':=s.gens) (d':=s.drawn) (ch:=[it]) (λb hb=>?_) (λb o _ _ hc e _=>k b o (λz=>hc (by simp[z])) e) (λb o _ _ hc e _=>⟨o.slots,k b o (λz=>hc (by simp[z])) e⟩) (λ_ _ _ _ n=>n)
  (λb o hc e=>⟨o,k b o (λz=>hc (by simp[z])) e⟩) (λ_ _ e=>e) (λ_ _ _ e=>e) (λb ps e=>⟨#[],by rw[e];simp⟩) (λm hm=>?_) (λb u e=>?_) I.bare
 ·have e:b=it:=by simpa using hb
  subst e;exact ⟨h1,hL,h2,h3⟩
 ·obtain ⟨o,es,ep,ho,r⟩:=hm
  exact ⟨o,es,ep,k _ o (C6 hL) ho,r⟩
 ·refine (I.hok b u e).stay (λc v hc q=>k c v ?_ q) (λ_ q=>q) λ_ _ q=>q
  rcases hc with z | z
  ·rw[z];exact nit b u e
  ·exact nit c _ z
theorem Inv.tok(I:Inv X pins σ H s)(t:Nat):Inv X pins σ H {s with toks:=t}:=I.un (h':=s.heap) (t':=t) Un.refl I.hok
theorem Inv.kept{t':Nat}(I:Inv X pins σ H s)(k:∀b u,s.heap.get? b=some u->h'.get? b=some u):Inv X pins σ H {s with heap:=h',toks:=t'}:=I.un (Un.kept k) (I.hok.kept k)
theorem Inv.laid{a:Addr}{o:HO}{t':Nat}(I:Inv X pins σ H s)(k:∀b u,s.heap.get? b=some u->h'.get? b=some u)(hp:s.heap.objs.size<=a)(new:ObjOk X.prog X.w (upd H a o) h' a o) :
  Inv X pins σ (upd H a o) {s with heap:=h',toks:=t'}:=I.un (Un.laid k hp (I.hok.fresh hp)) (I.hok.laid k hp new)
theorem Inv.write{x e:Addr}{o:HO}{t':Nat}(I:Inv X pins σ H s)(mu:Mut (H x))(he:e=x\/H e=some (.own x))(k:∀b u,b≠e->s.heap.get? b=some u->h'.get? b=some u)(heo:∃u,h'.get? e=some u)
  (new:ObjOk X.prog X.w (upd H x o) h' x o):Inv X pins σ (upd H x o) {s with heap:=h',toks:=t'}:=I.un (Un.write mu he k heo) (I.hok.write mu he k heo new)
theorem Inv.pins_of{pins':List (Addr×Obj)}(I:Inv X pins σ H s)(h:∀p∈pins',s.heap.get? p.1=some p.2/\H p.1=none/\p.1≠X.env.locals/\p.1∉X.fs/\∀v,p.2.data≠.cell v):Inv X pins' σ H s :=
 ⟨I.ok,I.os,I.bare,I.base,I.loc,I.cell,I.free,I.freeC,λp hp=>(CD.mp hp).elim (λz=>I.pin p (E7 _ z)) (h p),I.hok,I.len⟩
theorem Pn{N:List Str}(hN:N.Nodup){i j:Nat}{x:Str}(a:N[i]?=some x)(b:N[j]?=some x):i=j:=by
 obtain ⟨h1,e1⟩:=AH.mp a;obtain ⟨h2,e2⟩:=AH.mp b;exact (Q3 hN).mp (e1.trans e2.symm)
theorem Lh{M:TN}{A:BS}{E:Ap->AA->Prop}{i:Nat}{x:Str}{v:V}{u:Ap}{Q:Unit->AA->Prop}(I:Inv X pins σ H s)(hN:X.N.Nodup)(hi:X.N[i]?=some x)(hx:Loc X.env.scope x)(r:RelV v u)
  (h:∀s',Inv X pins (σ.set i (some v)) H s'->(∃a,D6 a s.heap s'.heap/\(a=X.env.locals\/X.env.cells.lookup x=some a))->Q () s') (hf:X.fn x=true\/X.env.scope.names.lookup x=some .local:=by first | exact .inl rfl | exact .inr rfl | assumption):wpAny M A (storeName X.env x u) Q E s:=by
 obtain ⟨m,hn,hl⟩:=id I.loc;have hcls:(X.env.scope.kind == .class||(X.env.scope.kind == .module&&X.env.locals != X.env.globals))=false:=by rw[I.ok.kind];rfl
 have hiσ:i<σ.length:=by rw[I.len];exact (AH.mp hi).1
 have cne:=I.cne;have tracked:∀{a:Addr}{h':Heap},(∃o,s.heap.get? a=some o/\H a=none)->D6 a s.heap h'->HOk X.prog X.w H h':=λ{a h'} ha hs b ob e=>by
  obtain ⟨_,_,hfree⟩:=ha;refine (I.hok b ob e).stay (λc w' hc q=>(hs.2 c ?_).trans q) (λ_ q=>q) λ_ _ q=>q;rintro rfl;rcases hc with rfl | hc
  ·rw[hfree] at e;cases e
  ·rw[hfree] at hc;cases hc
 rcases hx with hk | hk
 ·refine wpAny_storeName_local hk hn (λh' hn' hs=>?_) hcls
  obtain ⟨oL,_,_,hoL,_⟩:=id hn;refine h _ ⟨I.ok,I.os,I.bare,⟨λb o e n hb hx=>?_,λb o e n hb hx=>?_,I.base.free,λb o e hx=>?_,I.base.tups,I.base.frzs,I.base.tbls⟩,⟨_,hn',λj y v' e1 e2 e3=>?_⟩,λy c e=>?_,I.free,I.freeC,λp hp=>?_,tracked ⟨oL,hoL,I.free⟩ hs,by simpa using I.len⟩ ⟨_,hs,.inl rfl⟩
  ·exact (hs.2 b (B2 (Cc (By e) I.ok.above))).trans (I.base.keep b o e n hb hx)
  ·obtain ⟨sl,e1⟩:=I.base.slot b o e n hb hx
   exact ⟨sl,(hs.2 b (B2 (Cc (By e) I.ok.above))).trans e1⟩
  ·obtain ⟨o',e1⟩:=I.base.there b o e hx
   exact ⟨o',(hs.2 b (B2 (Cc (By e) I.ok.above))).trans e1⟩
  ·by_cases hj:j=i
   ·subst hj
    rw[hi] at e1;cases e1;rw[HV hiσ] at e2;cases e2;exact ⟨u,r,.inl ⟨hk,by simp⟩⟩
   ·rw[IP (C6 hj)] at e2
    obtain ⟨u',r',q⟩:=hl j y v' e1 e2 e3;refine ⟨u',r',?_⟩;rcases q with⟨k,e⟩ | ⟨k,c,e,z⟩
    ·refine .inl ⟨k,?_⟩
     have:y≠x:=λe=>hj (Pn hN e1 (e ▸ hi));simp[this,e]
    ·exact .inr ⟨k,c,e,z.sameBut hs (cne y c e)⟩
  ·obtain ⟨w',z⟩:=I.cell y c e
   exact ⟨w',z.sameBut hs (cne y c e)⟩
  ·obtain ⟨e,n,ne,nf,d⟩:=I.pin p hp
   exact ⟨(hs.2 p.1 ne).trans e,n,ne,nf,d⟩
 ·have hfn:X.fn x=true:=by
   rcases hf with z | z
   ·exact z
   ·rw[z] at hk;cases hk
  obtain ⟨c,hc⟩:=I.ok.has x (.inl hk);obtain ⟨w',z⟩:=I.cell x c hc;refine wpAny_storeName_cell I.ok.kind hk hc z (λh' hc' hs=>?_);obtain ⟨oc,hoc,hocd⟩:=id z;refine h {s with heap:=h'} ⟨I.ok,I.os,I.bare,⟨λb o e n hb hx=>?_,λb o e n hb hx=>?_,I.base.free,λb o e hx=>?_,I.base.tups,I.base.frzs,I.base.tbls⟩,⟨m,hn.sameBut hs (C6 (cne x c hc)),λj y v' e1 e2 e3=>?_⟩,λy c' e=>?_,I.free,I.freeC,λp hp=>?_,tracked ⟨oc,hoc,I.freeC x c hc⟩ hs,by simpa using I.len⟩ ⟨c,hs,.inr hc⟩
  ·exact (hs.2 b (B2 (Cc (By e) (I.ok.cab x c hfn hc)))).trans (I.base.keep b o e n hb hx)
  ·obtain ⟨sl,e1⟩:=I.base.slot b o e n hb hx
   exact ⟨sl,(hs.2 b (B2 (Cc (By e) (I.ok.cab x c hfn hc)))).trans e1⟩
  ·obtain ⟨o',e1⟩:=I.base.there b o e hx
   exact ⟨o',(hs.2 b (B2 (Cc (By e) (I.ok.cab x c hfn hc)))).trans e1⟩
  ·by_cases hj:j=i
   ·subst hj
    rw[hi] at e1;cases e1;rw[HV hiσ] at e2;cases e2;exact ⟨u,r,.inr ⟨.inl hk,c,hc,hc'⟩⟩
   ·rw[IP (C6 hj)] at e2
    obtain ⟨u',r',q⟩:=hl j y v' e1 e2 e3;refine ⟨u',r',?_⟩;rcases q with q | ⟨k,c',e,z'⟩
    ·exact .inl q
    ·refine .inr ⟨k,c',e,z'.sameBut hs ?_⟩
     rintro rfl;exact hj (Pn hN e1 (I.ok.inj _ _ _ e hc ▸ hi))
  ·by_cases hcc:c'=c
   ·subst hcc;exact ⟨_,hc'⟩
   ·obtain ⟨w2,z2⟩:=I.cell y c' e
    exact ⟨w2,z2.sameBut hs hcc⟩
  ·obtain ⟨e,n,ne,nf,d⟩:=I.pin p hp
   refine ⟨(hs.2 p.1 ?_).trans e,n,ne,nf,d⟩;intro q;rw[q,hoc] at e;have q':oc=p.2:=BY e;exact d w' (by rw[<- q'];exact hocd)
theorem Qo{M:TN}{A:BS}{E:Ap->AA->Prop}{i:Nat}{x:Str}{v:V}{u:Ap}{Q:Unit->AA->Prop}(I:Inv X pins σ H s)(hN:X.N.Nodup)(hi:X.N[i]?=some x)(hx:Loc X.env.scope x)(r:RelV v u)
  (h:∀s',Inv X pins (σ.set i (some v)) H s'->Q () s') (hf:X.fn x=true\/X.env.scope.names.lookup x=some .local:=by first | exact .inl rfl | exact .inr rfl | assumption):wpAny M A (storeName X.env x u) Q E s :=
 Lh I hN hi hx r (λs' I' _=>h s' I') hf
theorem Inv.call'{s':AA}{ch:List Addr}(I:Inv X pins σ H s)(ho:s'.os=s.os)(u:Un (frs X.stack) ch H H' s.heap s'.heap)(hok:HOk X.prog X.w H' s'.heap)(hg:J3 s'.gens)
  (hch:∀b∈ch,(b∈X.ex\/X.s₀.heap.objs.size<=b)/\b≠X.env.locals/\(∀x c,X.env.cells.lookup x=some c->c≠b)/\∀p∈X.pn++pins,p.1≠b):Inv X pins σ H' s':=by
 obtain ⟨h',g',d',t',o'⟩:=s';have e:o'=s.os:=ho;subst e;exact I.call (g':=g') (t':=t') (d':=d') u hok hg hch
end
abbrev XK:=Ap->Option Addr->Hp->Prop
abbrev St:=List (Option V)
abbrev VK:=V->Hp->Prop
abbrev TE:=St->Hp->VK->Prop
abbrev TT:=St->Hp->(Bool->Hp->Prop)->Prop
abbrev TA:=St->Hp->(List V->Hp->Prop)->Prop
structure Ends where
 nx:St->Hp->Prop
 rt:VK
 bk:St->Hp->Prop:=λ_ _=>False
 ct:St->Hp->Prop:=λ_ _=>False
abbrev TS:=Ends->St->Hp->Prop
def EP(X:Cx)(pins:List (Addr×Obj))(σ:St)(Q:VK)(u:Ap)(s':AA):Prop:=∃v H',Inv X pins σ H' s'/\RelV v u/\Q v H'
def TP(X:Cx)(pins:List (Addr×Obj))(σ:St)(Q:Bool->Hp->Prop)(b:Bool)(s':AA):Prop:=∃H',Inv X pins σ H' s'/\Q b H'
def AP(X:Cx)(pins:List (Addr×Obj))(σ:St)(Q:List V->Hp->Prop)(us:List Ap)(s':AA):Prop:=∃vs H',Inv X pins σ H' s'/\Vals vs us/\Q vs H'
def SP(X:Cx)(pins:List (Addr×Obj))(D:Ends)(f:Flow)(s':AA):Prop :=
 match f with
 | .next=>∃σ' H',Inv X pins σ' H' s'/\D.nx σ' H'
 | .brk=>∃σ' H',Inv X pins σ' H' s'/\D.bk σ' H'
 | .cont=>∃σ' H',Inv X pins σ' H' s'/\D.ct σ' H'
 | .ret u=>∃v σ' H',Inv X pins σ' H' s'/\RelV v u/\D.rt v H'
def PE(X:Cx)(e:Expr)(t:TE):Prop :=
 ∀(pins:List (Addr×Obj)) (s:AA) (σ:St) (H:Hp) (Q:VK),Inv X pins σ H s->t σ H Q->wpAny (AO X.prog X.w) X.A (eval e X.env) (EP X pins σ Q) X.xe s
def PT(X:Cx)(e:Expr)(t:TT):Prop :=
 ∀(pins:List (Addr×Obj)) (s:AA) (σ:St) (H:Hp) (Q:Bool->Hp->Prop),Inv X pins σ H s->t σ H Q->wpAny (AO X.prog X.w) X.A (RI e X.env (eval e X.env)) (TP X pins σ Q) X.xe s
def PW(X:Cx)(e:Expr)(t:TT):Prop :=
 ∀(whole:Sem Ap) (pins:List (Addr×Obj)) (s:AA) (σ:St) (H:Hp) (Q:Bool->Hp->Prop),Inv X pins σ H s->t σ H Q->wpAny (AO X.prog X.w) X.A (RI e X.env whole) (TP X pins σ Q) X.xe s
theorem PW.pt{X:Cx}{e:Expr}{t:TT}(h:PW X e t):PT X e t:=h _
def PA(X:Cx)(es:List Expr)(t:TA):Prop :=
 ∀(pos:Pos) (pins:List (Addr×Obj)) (s:AA) (σ:St) (H:Hp) (Q:List V->Hp->Prop),Inv X pins σ H s->t σ H Q->wpAny (AO X.prog X.w) X.A (SG (G5 pos (Cf es X.env))) (AP X pins σ Q) X.xe s
def PS(X:Cx)(st:Stmt)(t:TS):Prop :=
 ∀(pins:List (Addr×Obj)) (s:AA) (σ:St) (H:Hp) (D:Ends),Inv X pins σ H s->t D σ H->wpAny (AO X.prog X.w) X.A (exec st X.env) (SP X pins D) X.xe s
def PSs(X:Cx)(st:List Stmt)(t:TS):Prop :=
 ∀(pins:List (Addr×Obj)) (s:AA) (σ:St) (H:Hp) (D:Ends),Inv X pins σ H s->t D σ H->wpAny (AO X.prog X.w) X.A (execs st X.env) (SP X pins D) X.xe s
theorem thn{α:Type}{t:Sem α}{Q Q':α->AA->Prop}{M:TN}{A:BS}{E:Ap->AA->Prop}{s:AA}(h:wpAny M A t Q E s)(hQ:∀a s,Q a s->Q' a s):wpAny M A t Q' E s:=D5 h hQ λ_ _ x=>x
section
variable{X:Cx}
def ADM(i:Nat):TE:=λσ H Q=>∃v,σ[i]?=some (some v)/\Q v H
def tC(v:V):TE:=λ_ H Q=>Q v H
theorem ABs{i:Nat}{x:Str}{pos:Pos}(hN:X.N[i]?=some x)(hv:Vis X.env.scope x)(hd:(x==("__debug__" : Str))=false:=by decide)(hcd:(x==("__classdict__" : Str))=false:=by decide):PE X (.Name x pos) (ADM i):=by
 intro pins s σ H Q I h;obtain ⟨v,e,h⟩:=h;obtain ⟨m,hn,hl⟩:=I.loc;obtain ⟨u,r,l⟩:=hl i x v hN e hv;have fin:EP X pins σ Q u s:=⟨v,H,I,r,h⟩;rcases l with⟨hk,hm⟩ | ⟨hk,c,hc,hcell⟩
 ·exact RO (wpAny_loadName_local I.ok.kind hk hn hm fin) hd
 ·rcases hk with hk | hk
  ·exact RO (wpAny_loadName_cell I.ok.kind hk hc hcell fin) hd
  ·exact RO (wpAny_loadName_free I.ok.kind hk hc hcell fin hcd) hd
theorem Ai{i j pos}:PE X (.Constant (.int i) j pos) (tC (.int i)):=λ_ _ _ H _ I h=>wpAny_Constant_int ⟨.int i,H,I.tok _,⟨_,rfl⟩,h⟩
theorem Ez{b j pos}:PE X (.Constant (.bool b) j pos) (tC (.bl b)):=λ_ _ _ H _ I h=>Constant_bool ⟨.bl b,H,I,rfl,h⟩
theorem Xl{j pos}:PE X (.Constant .none j pos) (tC .non):=λ_ _ _ H _ I h=>OU ⟨.non,H,I,rfl,h⟩
def Gl(X:Cx)(x:Str):Prop:=X.env.kindOf x=some .globalImplicit
theorem PL{E:Ap->AA->Prop}{pins:List (Addr×Obj)}{s:AA}{σ:St}{H:Hp}{x:Str}{u:Ap}{pos:Pos}{Q:Ap->AA->Prop}(I:Inv X pins σ H s)(hg:Gl X x)(hm:X.mg x=some u)(h:Q u s)
  (hd:(x==("__debug__" : Str))=false:=by decide):wpAny (AO X.prog X.w) X.A (eval (.Name x pos) X.env) Q E s :=
 L3 I.ok.kind hg (Calls.loadGlobal_global (by rw[I.ok.glob];exact I.mod.glob.keeps I.bk) hm h) hd
theorem Ep{E:Ap->AA->Prop}{pins:List (Addr×Obj)}{s:AA}{σ:St}{H:Hp}{x:Str}{u:Ap}{pos:Pos}{Q:Ap->AA->Prop}(I:Inv X pins σ H s)(hg:Gl X x)(hm:X.mg x=none)(hv:G4 x=some u)(h:Q u s)
  (hn:x≠"__name__":=by decide) (hd:(x==("__debug__" : Str))=false:=by decide):wpAny (AO X.prog X.w) X.A (eval (.Name x pos) X.env) Q E s:=by
 obtain ⟨mb,h1,h2⟩:=I.mod.blt;exact L3 I.ok.kind hg (Calls.loadGlobal_builtin (by rw[I.ok.glob];exact I.mod.glob.keeps I.bk) hm (by rw[I.ok.blt];exact h1.keeps I.bk) ((h2 x hn).trans hv) h) hd
theorem HB{x:Str}{v:V}{u:Ap}{pos:Pos}(hg:Gl X x)(hm:X.mg x=some u)(r:RelV v u)(hd:(x==("__debug__" : Str))=false:=by decide):PE X (.Name x pos) (tC v) :=
 λ_ _ _ H _ I h=>PL I hg hm ⟨v,H,I,r,h⟩ hd
theorem Ui{x:Str}{v:V}{u:Ap}{pos:Pos}(hg:Gl X x)(hm:X.mg x=none)(hv:G4 x=some u)(r:RelV v u)(hn:x≠"__name__":=by decide)(hd:(x==("__debug__" : Str))=false:=by decide):PE X (.Name x pos) (tC v) :=
 λ_ _ _ H _ I h=>Ep I hg hm hv ⟨v,H,I,r,h⟩ hn hd
variable{a b:Expr}{ta tb:TE}{pos:Pos}
def PC(X:Cx)(op:RR)(a b:Expr)(t:TE):Prop :=
 ∀(pins:List (Addr×Obj)) (s:AA) (σ:St) (H:Hp) (Q:VK),Inv X pins σ H s->t σ H Q ->
  wpAny (AO X.prog X.w) X.A (eval a X.env) (λv s₁=>wpAny (AO X.prog X.w) X.A (eval b X.env) (λu s₂=>wpAny (AO X.prog X.w) X.A (D8 op v u) (EP X pins σ Q) X.xe s₂) X.xe s₁) X.xe s
theorem Xf(b:Expr){op:RR}(h:op≠.In)(h2:op≠.NotIn):HG op b=false:=by
 have e1:(op==V8)=false:=by cases op<;>first | rfl | exact absurd rfl h
 have e2:(op==VI)=false:=by cases op<;>first | rfl | exact absurd rfl h2
 cases b<;>simp[HG,e1,e2]
def ADc(ta:TE):TE:=λσ H Q=>ta σ H λx H1=>Q (.bl (decide (x=.non))) H1
def ACl(ta:TE):TE:=λσ H Q=>ta σ H λx H1=>Q (.bl (!decide (x=.non))) H1
theorem RelV.none_iff{x:V}{v:Ap}(r:RelV x v):(v==CL)=decide (x=.non):=by
 cases x with
 | non=>cases r;rfl
 | bl _=>cases r;rfl
 | int _=>obtain ⟨t,rfl⟩:=r;rfl
 | str _=>obtain ⟨t,rfl⟩:=r;rfl
 | byt _=>obtain ⟨t,rfl⟩:=r;rfl
 | flt _=>obtain ⟨t,rfl⟩:=r;rfl
 | ref _=>cases r;rfl
 | ty _=>cases r;rfl
theorem ACT{j pos'}(ha:PE X a ta):PC X .Is a (.Constant .none j pos') (ADc ta):=by
 intro pins s σ H Q I h;refine thn (ha pins s σ H _ I h) λv s1 ⟨x,H1,I1,r1,q1⟩=>?_;exact OU (is_none_gen ⟨.bl _,H1,I1,by rw[r1.none_iff];rfl,q1⟩)
theorem AAf{j pos'}(ha:PE X a ta):PC X .IsNot a (.Constant .none j pos') (ACl ta):=by
 intro pins s σ H Q I h;refine thn (ha pins s σ H _ I h) λv s1 ⟨x,H1,I1,r1,q1⟩=>?_;exact OU (isnot_none_gen ⟨.bl _,H1,I1,by rw[r1.none_iff];rfl,q1⟩)
def tB(t:TE):TT:=λσ H Q=>t σ H λx H1=>∃c,x=.bl c/\Q c H1
theorem Jr{op:RR}{t:TE}(h:PC X op a b t)(h1:HG op b=false:=by first | exact Xf _ (by decide) (by decide) | rfl):PT X (.Compare a [op] [b] pos) (tB t):=by
 intro pins s σ H Q I hw;refine N3 (thn (h pins s σ H _ I hw) λv s1 h1=>thn h1 λu s2 h2=>thn h2 λc s3 ⟨x,H1,I1,r1,q1⟩=>?_) h1;obtain ⟨d,rfl,q⟩:=q1;cases r1;exact FB ⟨H1,I1,q⟩
theorem Ka{e:Expr}{t:TE}(h:PE X e t)(he:∀whole,RI e X.env whole=(do let v <- whole;standAt e.pos;P7 [v] (truthy v)):=by intro _;rfl):PT X e (tB t):=by
 intro pins s σ H Q I hw;refine isTrue_plain (thn (h pins s σ H _ I hw) λv s1 ⟨x,H1,I1,r1,q1⟩=>?_) (he _);obtain ⟨d,rfl,q⟩:=q1;cases r1;exact FB ⟨H1,I1,q⟩
variable{tA tB':TT}{rest:List Expr}
def ADh(t u:TT):TT:=λσ H Q=>t σ H λc H1=>if c=true then u σ H1 Q else Q false H1
def tOr(t u:TT):TT:=λσ H Q=>t σ H λc H1=>if c=true then Q true H1 else u σ H1 Q
def ADd(t:TT):TT:=λσ H Q=>t σ H λc H1=>Q (!c) H1
theorem Oh(ha:PT X a tA):PW X (.BoolOp .And [a] pos) tA:=by
 intro wh pins s σ H Q I h;refine isTrue_and (thn (ha pins s σ H Q I h) λc s1 e=>?_);cases c with
 | true=>exact isTrue_and_nil e
 | false=>exact e
theorem Ob(ha:PT X a tA):PW X (.BoolOp .Or [a] pos) tA:=by
 intro wh pins s σ H Q I h;refine isTrue_or (thn (ha pins s σ H Q I h) λc s1 e=>?_);cases c with
 | false=>exact isTrue_or_nil e
 | true=>exact e
theorem Td(ha:PT X a tA)(hb:PW X (.BoolOp .And (b::rest) pos) tB'):PW X (.BoolOp .And (a::b::rest) pos) (ADh tA tB'):=by
 intro wh pins s σ H Q I h;refine isTrue_and (thn (ha pins s σ H _ I h) λc s1 ⟨H1,I1,q1⟩=>?_);cases c with
 | true=>exact hb wh pins s1 σ H1 Q I1 q1
 | false=>exact ⟨H1,I1,q1⟩
theorem VF(ha:PT X a tA)(hb:PW X (.BoolOp .Or (b::rest) pos) tB'):PW X (.BoolOp .Or (a::b::rest) pos) (tOr tA tB'):=by
 intro wh pins s σ H Q I h;refine isTrue_or (thn (ha pins s σ H _ I h) λc s1 ⟨H1,I1,q1⟩=>?_);cases c with
 | true=>exact ⟨H1,I1,q1⟩
 | false=>exact hb wh pins s1 σ H1 Q I1 q1
theorem Tj(ha:PT X a tA):PT X (.UnaryOp .Not a pos) (ADd tA):=by
 intro pins s σ H Q I h;exact isTrue_not (ha pins s σ H (λc H1=>Q (!c) H1) I h)
def ACw(ta tb:TE):TE:=λσ H Q=>ta σ H λx H1=>∃c,x=.bl c/\if c=true then tb σ H1 Q else Q (.bl false) H1
def ADq(ta tb:TE):TE:=λσ H Q=>ta σ H λx H1=>∃c,x=.bl c/\if c=true then Q (.bl true) H1 else tb σ H1 Q
def ADX(ta:TE):TE:=λσ H Q=>ta σ H λx H1=>∃c,x=.bl c/\Q (.bl (!c)) H1
theorem Rp{op}{t:TE}(h:PE X a t):PE X (.BoolOp op [a] pos) t:=λpins s σ H Q I hw=>BoolOp_one (h pins s σ H Q I hw)
theorem ZD(ha:PE X a ta)(hb:PE X (.BoolOp .And (b::rest) pos) tb):PE X (.BoolOp .And (a::b::rest) pos) (ACw ta tb):=by
 intro pins s σ H Q I h;refine BoolOp_and (thn (ha pins s σ H _ I h) λv s1 ⟨x,H1,I1,r1,q1⟩=>?_);obtain ⟨c,rfl,q1⟩:=q1;cases r1;refine FB ?_;cases c with
 | true=>exact hb pins s1 σ H1 Q I1 q1
 | false=>exact ⟨.bl false,H1,I1,rfl,q1⟩
theorem ACs(ha:PE X a ta)(hb:PE X (.BoolOp .Or (b::rest) pos) tb):PE X (.BoolOp .Or (a::b::rest) pos) (ADq ta tb):=by
 intro pins s σ H Q I h;refine BoolOp_or (thn (ha pins s σ H _ I h) λv s1 ⟨x,H1,I1,r1,q1⟩=>?_);obtain ⟨c,rfl,q1⟩:=q1;cases r1;refine FB ?_;cases c with
 | false=>exact hb pins s1 σ H1 Q I1 q1
 | true=>exact ⟨.bl true,H1,I1,rfl,q1⟩
theorem ABm(ha:PE X a ta):PE X (.UnaryOp .Not a pos) (ADX ta):=by
 intro pins s σ H Q I h;refine UnaryOp_ (thn (ha pins s σ H _ I h) λv s1 ⟨x,H1,I1,r1,q1⟩=>?_);obtain ⟨c,rfl,q1⟩:=q1;cases r1;exact not_of (FB ⟨.bl (!c),H1,I1,rfl,q1⟩)
def tIf(t:TT)(ta tb:TE):TE:=λσ H Q=>t σ H λc H1=>if c=true then ta σ H1 Q else tb σ H1 Q
theorem HW{c:Expr}(hc:PT X c tA)(ha:PE X a ta)(hb:PE X b tb):PE X (.IfExp c a b pos) (tIf tA ta tb):=by
 intro pins s σ H Q I h;refine wpAny_IfExp (thn (hc pins s σ H _ I h) λd s1 ⟨H1,I1,q1⟩=>?_);cases d with
 | true=>exact ha pins s1 σ H1 Q I1 q1
 | false=>exact hb pins s1 σ H1 Q I1 q1
end
def SqL(K:Au)(H:Hp)(a:Addr)(xs:List V):Prop :=
 Rd H a (.lst xs) \/
  ∃(o:Obj) (its:Array Ap) (n:Nat),K.lookup a=some o/\o.cls=.type "list"/\o.dict=none/\o.data=.seq its n/\its.size<=sizeLine/\Vals xs its.toList
def SqT(K:Au)(H:Hp)(a:Addr)(xs:List V):Prop :=
 Rd H a (.tup xs) \/
  ∃(o:Obj) (its:Array Ap) (n:Nat),K.lookup a=some o/\o.cls=.type "tuple"/\o.data=.seq its n/\its.size<=sizeLine/\Vals xs its.toList
def absV:Ap->Option V
 | .none=>some .non
 | .bool b=>some (.bl b)
 | .int i _=>some (.int i)
 | .str x _=>some (.str x)
 | .bytes b _=>some (.byt b)
 | .float b _=>some (.flt b)
 | .ref a=>some (.ref a)
 | .type n=>some (.ty n)
 | _=>none
theorem RelV.abs{x:V}{u:Ap}(r:RelV x u):absV u=some x:=by
 cases x with
 | non=>cases r;rfl
 | bl _=>cases r;rfl
 | int _=>obtain ⟨t,rfl⟩:=r;rfl
 | str _=>obtain ⟨t,rfl⟩:=r;rfl
 | byt _=>obtain ⟨t,rfl⟩:=r;rfl
 | flt _=>obtain ⟨t,rfl⟩:=r;rfl
 | ref _=>cases r;rfl
 | ty _=>cases r;rfl
theorem RelV.inj{x y:V}{u:Ap}(r:RelV x u)(q:RelV y u):x=y:=BY (r.abs.symm.trans q.abs)
theorem Vals.inj:∀{xs ys:List V}{us:List Ap},Vals xs us->Vals ys us->xs=ys
 | _,_,_,.nil,.nil=>rfl
 | _,_,_,.cons r t,.cons r' t'=>by rw[r.inj r',Vals.inj t t']
section
variable{X:Cx}{pins:List (Addr×Obj)}{σ:St}{H:Hp}{s:AA}{a:Addr}{xs ys:List V}
theorem SqL.of{K:Au}(h:H a=some (.lst xs)):SqL K H a xs:=.inl (.inl h)
theorem SqT.of{K:Au}(h:H a=some (.tup xs)):SqT K H a xs:=.inl (.inl h)
theorem Inv.list(I:Inv X pins σ H s)(h:SqL X.K H a xs):∃its:List Ap,Vals xs its/\PlainL s.heap a its.toArray/\xs.length<=sizeLine:=by
 rcases h with h | ⟨o,its,n,hk,hc,hd,hs,hz,r⟩
 ·obtain ⟨z,its,n,r,e⟩:=h.ok I.hok
  exact ⟨its,r,⟨_,n,e,rfl,rfl,rfl⟩,z⟩
 ·refine ⟨its.toList,r,⟨o,n,I.kIn a o hk,hc,hd,by simpa using hs⟩,?_⟩
  have e:=r.length;simp only[AV] at e;lia
theorem Inv.tuple(I:Inv X pins σ H s)(h:SqT X.K H a xs):∃its:List Ap,Vals xs its/\IsTup s.heap a its.toArray/\xs.length<=sizeLine:=by
 rcases h with h | ⟨o,its,n,hk,hc,hs,hz,r⟩
 ·obtain ⟨z,its,r,p⟩:=h.ok I.hok
  exact ⟨its,r,p,z⟩
 ·refine ⟨its.toList,r,⟨o,I.kIn a o hk,hc,n,by simpa using hs⟩,?_⟩
  have e:=r.length;simp only[AV] at e;lia
theorem Inv.list_inj(I:Inv X pins σ H s)(h:SqL X.K H a xs)(h':SqL X.K H a ys):xs=ys:=by
 obtain ⟨its,r,⟨o,n,e,_,_,d⟩,_⟩:=I.list h;obtain ⟨its',r',⟨o',n',e',_,_,d'⟩,_⟩:=I.list h';rw[e] at e';cases e';rw[d] at d';injection d' with d1 _
 have:its=its':=by simpa using congrArg Pd d1
 subst this;exact r.inj r'
theorem Inv.tuple_inj(I:Inv X pins σ H s)(h:SqT X.K H a xs)(h':SqT X.K H a ys):xs=ys:=by
 obtain ⟨its,r,⟨o,e,_,n,d⟩,_⟩:=I.tuple h;obtain ⟨its',r',⟨o',e',_,n',d'⟩,_⟩:=I.tuple h';rw[e] at e';cases e';rw[d] at d';injection d' with d1 _
 have:its=its':=by simpa using congrArg Pd d1
 subst this;exact r.inj r'
end
abbrev Cx.wish(X:Cx)(E:Ap->AA->Prop):Cx:={X with xe:=E}
abbrev Cx.nox(X:Cx):Cx:=X.wish λ_ _=>False
theorem Cx.Ok.wish{X:Cx}(ok:X.Ok)(E:Ap->AA->Prop):(X.wish E).Ok :=
 ⟨ok.mod,ok.kind,ok.glob,ok.blt,ok.above,ok.inj,ok.has,ok.cab,ok.hd,ok.frames,ok.stk,ok.exf,ok.bs,ok.bsz,ok.noex,ok.exfs,ok.funs,ok.frf⟩
theorem Cx.Ok.unwish{X:Cx}{E:Ap->AA->Prop}(ok:(X.wish E).Ok):X.Ok :=
 ⟨ok.mod,ok.kind,ok.glob,ok.blt,ok.above,ok.inj,ok.has,ok.cab,ok.hd,ok.frames,ok.stk,ok.exf,ok.bs,ok.bsz,ok.noex,ok.exfs,ok.funs,ok.frf⟩
section
variable{X:Cx}{pins:List (Addr×Obj)}{σ:St}{H:Hp}{s:AA}{E:Ap->AA->Prop}
theorem Inv.wish(I:Inv X pins σ H s)(E:Ap->AA->Prop):Inv (X.wish E) pins σ H s:=⟨I.ok.wish E,I.os,I.bare,I.base,I.loc,I.cell,I.free,I.freeC,I.pin,I.hok,I.len⟩
theorem Inv.unwish(I:Inv (X.wish E) pins σ H s):Inv X pins σ H s:=⟨I.ok.unwish,I.os,I.bare,I.base,I.loc,I.cell,I.free,I.freeC,I.pin,I.hok,I.len⟩
theorem SP.unwish{D:Ends}{f:Flow}{s':AA}(h:SP (X.wish E) pins D f s'):SP X pins D f s':=by
 cases f with
 | next=>obtain ⟨σ',H',I,q⟩:=h;exact ⟨σ',H',I.unwish,q⟩
 | brk=>obtain ⟨σ',H',I,q⟩:=h;exact ⟨σ',H',I.unwish,q⟩
 | cont=>obtain ⟨σ',H',I,q⟩:=h;exact ⟨σ',H',I.unwish,q⟩
 | ret u=>obtain ⟨v,σ',H',I,r,q⟩:=h;exact ⟨v,σ',H',I.unwish,r,q⟩
theorem PSs.nox{st:List Stmt}{t:TS}(h:PSs X.nox st t):PSs X st t:=λpins s σ H D I hw =>
 D5 (h pins s σ H D (I.wish _) hw) (λ_ _ q=>q.unwish) λ_ _ z=>Ee z
end
section
variable{X:Cx}{st:Stmt}{rest:List Stmt}{t u:TS}{e:Expr}{te:TE}{pos:Pos}
def ADW:TS:=λD σ H=>D.nx σ H
def ADr(t u:TS):TS:=λD σ H=>t {D with nx:=u D} σ H
theorem Bc:PSs X [] ADW:=λ_ _ σ H _ I h=>Nd ⟨σ,H,I,h⟩
theorem Ah(h1:PS X st t)(h2:PSs X rest u):PSs X (st::rest) (ADr t u):=by
 intro pins s σ H D I h;refine MS (thn (h1 pins s σ H {D with nx:=u D} I h) λf s1 q=>?_);cases f with
 | next =>
  obtain ⟨σ',H',I',q⟩:=q;exact h2 pins s1 σ' H' D I' q
 | ret v=>exact q
 | brk=>exact q
 | cont=>exact q
theorem Aj(h1:PS X st t):PSs X [st] t:=by
 intro pins s σ H D I h;refine MS (thn (h1 pins s σ H D I h) λf s1 q=>?_);cases f with
 | next=>exact Nd q
 | ret v=>exact q
 | brk=>exact q
 | cont=>exact q
theorem Inv.quiet{pins:List (Addr×Obj)}{σ:St}{H:Hp}{s:AA}(I:Inv X pins σ H s):interactive X.env=false:=by simp[interactive,I.ok.kind]
def ACk(te:TE):TS:=λD σ H=>te σ H λ_ H1=>D.nx σ H1
theorem DY(he:PE X e te)(hs:LP e none pos.line X.env=pure false:=by rfl):PS X (.Expr e pos) (ACk te):=by
 intro pins s σ H D I h;exact wpAny_Expr_any (thn (he pins s σ H _ I h) λv s1 ⟨x,H1,I1,r1,q1⟩=>⟨σ,H1,I1,q1⟩) I.quiet hs
def ADk(te:TE):TS:=λD σ H=>te σ H D.rt
theorem Ay(he:PE X e te):PS X (.Return (some e) pos) (ADk te):=by
 intro pins s σ H D I h;exact wpAny_Return_some (thn (he pins s σ H _ I h) λv s1 ⟨x,H1,I1,r1,q1⟩=>⟨x,σ,H1,I1,r1,q1⟩)
def ADa(c:TT)(t u:TS):TS:=λD σ H=>c σ H λb H1=>if b=true then t D σ H1 else u D σ H1
theorem CQ{c:Expr}{a b:List Stmt}{tc:TT}(hc:PT X c tc)(ha:PSs X a t)(hb:PSs X b u):PS X (.If c a b pos) (ADa tc t u):=by
 intro pins s σ H D I h;refine wpAny_If (thn (hc pins s σ H _ I h) λd s1 ⟨H1,I1,q1⟩=>?_);cases d with
 | true=>exact ha pins s1 σ H1 D I1 q1
 | false=>exact hb pins s1 σ H1 D I1 q1
def ABu:TS:=λ_ _ _=>False
theorem Ed{sts:List Stmt}:PSs X sts ABu:=λ_ _ _ _ _ _ h=>h.elim
end
abbrev TG:=V->St->Hp->(St->Hp->Prop)->Prop
abbrev TGs:=List V->St->Hp->(St->Hp->Prop)->Prop
def PG(X:Cx)(target:Expr)(t:TG):Prop :=
 ∀(pins:List (Addr×Obj)) (s:AA) (σ:St) (H:Hp) (v:V) (u:Ap) (Q:St->Hp->Prop),Inv X pins σ H s->RelV v u->t v σ H Q ->
  wpAny (AO X.prog X.w) X.A (N4 target X.env u) (λ_ s'=>∃σ' H',Inv X pins σ' H' s'/\Q σ' H') X.xe s
def PGs(X:Cx)(ts:List Expr)(t:TGs):Prop :=
 ∀(pins:List (Addr×Obj)) (s:AA) (σ:St) (H:Hp) (vs:List V) (us:List Ap) (Q:St->Hp->Prop),Inv X pins σ H s->Vals vs us->t vs σ H Q ->
  wpAny (AO X.prog X.w) X.A (assignInOrder ((IQ ts X.env).map (·.2)) us) (λ_ s'=>∃σ' H',Inv X pins σ' H' s'/\Q σ' H') X.xe s
section
variable{X:Cx}{pos:Pos}
def gName(i:Nat):TG:=λv σ H Q=>Q (σ.set i (some v)) H
theorem Aq{i:Nat}{x:Str}(hN:X.N.Nodup)(hi:X.N[i]?=some x)(hx:Loc X.env.scope x)(hf:X.fn x=true\/X.env.scope.names.lookup x=some .local:=by first | exact .inl rfl | exact .inr rfl | assumption):PG X (.Name x pos) (gName i):=by
 intro pins s σ H v u Q I r h;exact P8 (Qo I hN hi hx r (λs' I'=>⟨_,H,I',h⟩) hf)
def gNil:TGs:=λvs σ H Q=>vs=[]/\Q σ H
def gCons(t:TG)(u:TGs):TGs:=λvs σ H Q=>∃v r,vs=v::r/\t v σ H λσ' H'=>u r σ' H' Q
theorem Eu:PGs X [] gNil:=by
 intro pins s σ H vs us Q I r h;obtain ⟨e,h⟩:=h;subst e;cases r;exact assignInOrder_nil ⟨σ,H,I,h⟩
theorem Bo{e:Expr}{es:List Expr}{t:TG}{u:TGs}(h1:PG X e t)(h2:PGs X es u)
  (hs:(IQ (e::es) X.env).map (·.2)=N4 e X.env::(IQ es X.env).map (·.2):=by rfl):PGs X (e::es) (gCons t u):=by
 intro pins s σ H vs us Q I r h;obtain ⟨v,vr,e1,h⟩:=h;subst e1;cases r with
 | cons r rr =>
  rw[hs];refine assignInOrder_cons (thn (h1 pins s σ H _ _ _ I r h) λ_ s1 ⟨σ1,H1,I1,q1⟩=>?_);exact h2 pins s1 σ1 H1 _ _ Q I1 rr q1
def gTup(K:Au)(n:Nat)(t:TGs):TG:=λv σ H Q=>∃a xs,v=.ref a/\SqT K H a xs/\xs.length=n/\t xs σ H Q
theorem Tz{es:List Expr}{k:Nat}{t:TGs}{n:Nat}(hc:X.calm=true)(h:PGs X es t)
  (hn:(IQ es X.env).length=n:=by rfl) (hst:(IQ es X.env).findIdx? (·.1)=none:=by rfl):PG X (.Tuple es k pos) (gTup X.K n t):=by
 intro pins s σ H v u Q I r hw;obtain ⟨a,xs,e1,hq,hl,hw⟩:=hw;subst e1;cases r;obtain ⟨its,rv,ht,hz⟩:=I.tuple hq;refine assign_Tuple_tuple (I.ok.hd hc) ht (by simp[hn,<- hl,rv.length]) hst λh' hx=>?_;have I1:Inv X pins σ H {s with heap:=h'}:=I.kept (t':=s.toks) λb o e=>hx b o (B2 (By e)) e;exact h pins _ σ H xs _ Q I1 (by simpa using rv) hw
def ACf(te:TE)(g:TG):TS:=λD σ H=>te σ H λx H1=>g x σ H1 D.nx
theorem ABt{tg e:Expr}{te:TE}{g:TG}(he:PE X e te)(hg:PG X tg g)(hs:swapsWithSole [tg] e pos.line X.env=pure false:=by rfl)(hw:swappedStores [tg] e X.env=pure none:=by rfl)
  (h1:(IQ [tg] X.env).map (·.2)=[N4 tg X.env]:=by rfl):PS X (.Assign [tg] e pos) (ACf te g):=by
 intro pins s σ H D I h;refine wpAny_Assign_stores (thn (he pins s σ H _ I h) λv s1 ⟨x,H1,I1,r1,q1⟩=>?_) hs hw;rw[h1];exact thn (hg pins s1 σ H1 x v _ I1 r1 q1) λ_ s2 q=>q
theorem BJ{i:Nat}{x:Str}{e:Expr}{te:TE}{pos':Pos}(hN:X.N.Nodup)(hi:X.N[i]?=some x)(hx:Loc X.env.scope x)(he:PE X e te)(hs:LP e (some (.Name x pos')) pos.line X.env=pure false:=by rfl)(hf:X.fn x=true\/X.env.scope.names.lookup x=some .local:=by first | exact .inl rfl | exact .inr rfl | assumption) :
  PS X (.Assign [.Name x pos'] e pos) (ACf te (gName i)):=by
 intro pins s σ H D I h;refine wpAny_Assign_Name (thn (he pins s σ H _ I h) λv s1 ⟨y,H1,I1,r1,q1⟩=>?_) hs;exact Qo I1 hN hi hx r1 (λs2 I2=>⟨_,H1,I2,q1⟩) hf
end
structure It where
 go:Nat->Hp->Prop
 yld:Nat->Hp->V->Hp->Prop
 stop:Nat->Hp->Prop
def FpOk(X:Cx)(pins:List (Addr×Obj))(H:Hp)(b:Addr):Prop :=
 H b=none/\b≠X.env.locals/\b∉X.fs/\(b∈X.ex\/X.s₀.heap.objs.size<=b)/\(∀x c,X.env.cells.lookup x=some c->c≠b)/\∀p∈X.pn++pins,p.1≠b
theorem Inv.fpOk{X:Cx}{pins:List (Addr×Obj)}{σ:St}{H H':Hp}{s:AA}{b:Addr}(I:Inv X pins σ H s)(hb:s.heap.objs.size<=b)(hn:H' b=none):FpOk X pins H' b:=by
 refine ⟨hn,UB (Cc I.lt hb),I.nofs hb,.inr (BM I.sz hb),λx c e z=>?_,λp hp z=>?_⟩
 ·obtain ⟨v,q⟩:=I.cell x c e
  exact absurd (Cc q.lt (by rw[z];exact hb)) (FE _)
 ·exact absurd (Cc (By (I.pin p hp).1) (by rw[z];exact hb)) (FE _)
structure Turn(P:AL)(w:AQ)(K:Au)(tg:Expr)(J:It)(fp:List Addr)(it:Addr)(tn:Nat->Heap->Prop):Prop where
 mem:it∈fp
 obj:∀i h,tn i h->∀b∈fp,∃o,h.get? b=some o/\∀v,o.data≠.cell v
 keep:∀i h h',tn i h->(∀b∈fp,∀o,h.get? b=some o->h'.get? b=some o)->tn i h'
 item:∀(X:Cx),X.prog=P->X.w=w->X.K=K->X.calm=true->∀(i:Nat) (pins:List (Addr×Obj)) (s:AA) (σ:St) (H:Hp) (E:Ap->AA->Prop),Inv X pins σ H s->(∀b∈fp,FpOk X pins H b)->tn i s.heap->J.go i H ->
  wpAny (AO P w) X.A (Kt (.ref it)) (λr s1=>∃u,r=some u /\
   wpAny (AO P w) X.A (KU tg (.ref it) u) (λ_ s2=>∃x H',Inv X pins σ H' s2/\RelV x u/\J.yld i H x H'/\tn (i+1) s2.heap/\∀b∈fp,H' b=none) E s1) E s
 done:∀(X:Cx),X.prog=P->X.w=w->X.K=K->X.calm=true->∀(i:Nat) (pins:List (Addr×Obj)) (s:AA) (σ:St) (H:Hp) (E:Ap->AA->Prop),Inv X pins σ H s->(∀b∈fp,FpOk X pins H b)->tn i s.heap->J.stop i H ->
  wpAny (AO P w) X.A (Kt (.ref it)) (λr s1=>r=none/\Inv X pins σ H s1) E s
 self:∀(A:BS) (i:Nat) (s:AA) (Q:Ap->AA->Prop) (E:Ap->AA->Prop),tn i s.heap->Q (.ref it) s->wpAny (AO P w) A (N5 (.ref it)) Q E s
abbrev TI:=St->Hp->(It->Hp->Prop)->Prop
def PIE(X:Cx)(pins:List (Addr×Obj))(σ:St)(tg:Expr)(R:It->Hp->Prop)(itv:Ap)(s2:AA):Prop :=
 ∃(it:Addr) (fp:List Addr) (tn:Nat->Heap->Prop) (J:It) (H':Hp),itv=.ref it/\Inv X pins σ H' s2/\Turn X.prog X.w X.K tg J fp it tn/\tn 0 s2.heap/\(∀b∈fp,FpOk X pins H' b)/\R J H'
def PI(X:Cx)(tg iter:Expr)(wi:TI):Prop :=
 ∀(pins:List (Addr×Obj)) (s:AA) (σ:St) (H:Hp) (R:It->Hp->Prop),Inv X pins σ H s->wi σ H R ->
  wpAny (AO X.prog X.w) X.A (eval iter X.env) (λv s1=>wpAny (AO X.prog X.w) X.A (N5 v) (PIE X pins σ tg R) X.xe s1) X.xe s
theorem VP{M:TN}{A:BS}{E:Ap->AA->Prop}{s:AA}{tg:Expr}{it:Addr}{u:Ap}{o:Obj}{n:String}{vs:Array Ap}{Q:Unit->AA->Prop}(ho:s.heap.get? it=some o)(hc:o.cls=.type n)(hd:o.data=.fields vs)
  (hn:["enumerate","zip","dict_itemiterator","dict_reverseitemiterator","odict_iterator","itertools.zip_longest","itertools.pairwise"].contains n=false) (hQ:Q () s):wpAny M A (KU tg (.ref it) u) Q E s:=by
 unfold KU;cases tg<;>first
  | exact wpAny_pure hQ
  | (cases u<;>first
    | exact wpAny_pure hQ
    | (
      refine As (RU ho ?_);rw[hc,hd];show wpAny M A (if (["enumerate","zip","dict_itemiterator","dict_reverseitemiterator","odict_iterator","itertools.zip_longest","itertools.pairwise"].contains n&&vs[0]? == some (E8 _))=true then _ else _) Q E s;rw[if_neg (by intro h;rw[hn,SH] at h;cases h)];exact wpAny_pure hQ))
def Itl(K:Au)(a:Addr):It :=
 ⟨λi H=>∃xs x,SqL K H a xs/\xs[i]?=some x,λi H x H'=>H'=H/\∀xs,SqL K H a xs->xs[i]?=some x,λi H=>∃xs,SqL K H a xs/\xs.length<=i⟩
def Itt(K:Au)(a:Addr):It :=
 ⟨λi H=>∃xs x,SqT K H a xs/\xs[i]?=some x,λi H x H'=>H'=H/\∀xs,SqT K H a xs->xs[i]?=some x,λi H=>∃xs,SqT K H a xs/\xs.length<=i⟩
def Itr(lo:Int)(n:Nat):It:=⟨λi _=>i<n,λi H x H'=>H'=H/\x=.int (lo+i),λi _=>n<=i⟩
theorem WM{P:AL}{w:AQ}{K:Au}{tg:Expr}(a it:Addr):Turn P w K tg (Itl K a) [it] it (λi h=>h.IsListIter it a i) where
 mem:=by simp
 obj:=λi h st b hb=>by
  have e:b=it:=by simpa using hb
  subst e;obtain ⟨o,e,c,d⟩:=st;exact ⟨o,e,λv z=>by rw[d] at z;cases z⟩
 keep:=λi h h' st k=>st.at λo e=>k it (by simp) o e
 item:=by
  intro X hP hw hK hc i pins s σ H E I hf st hg;subst hP hw hK;obtain ⟨xs,x,hq,hx⟩:=hg;obtain ⟨its,rv,p,hz⟩:=I.list hq;obtain ⟨u,hu,ru⟩:=rv.get hx;obtain ⟨f0,f1,f2,f3,f4,f5⟩:=hf it (by simp);refine wpAny_pyNext_list_item st p.isList (x:=u) (by simpa using hu) λh' st' sb=>?_;have I1:Inv X pins σ H {s with heap:=h'}:=I.turned (t':=s.toks) (λb o hb e=>(sb.2 b hb).trans e) f0 f1 f3 f4 f5;obtain ⟨o,e,c,d⟩:=id st';exact ⟨u,rfl,VP (s:={s with heap:=h'}) e c d (by decide) ⟨x,H,I1,ru,⟨rfl,λys hy=>by rw[I.list_inj hy hq];exact hx⟩,st',λb hb=>(hf b hb).1⟩⟩
 done:=by
  intro X hP hw hK hc i pins s σ H E I hf st hg;subst hP hw hK;obtain ⟨xs,hq,hx⟩:=hg;obtain ⟨its,rv,p,hz⟩:=I.list hq;obtain ⟨f0,f1,f2,f3,f4,f5⟩:=hf it (by simp);have hl:=rv.length;exact wpAny_pyNext_list_end (I.ok.hd hc) st p.isList (by simp;lia) λh' eb=>⟨rfl,I.turned (t':=s.toks) (λb o hb e=>eb b o hb e) f0 f1 f3 f4 f5⟩
 self:=λ_ _ _ _ _ st h=>wpAny_pyIter_listiter st h
theorem SJ{P:AL}{w:AQ}{K:Au}{tg:Expr}(a it:Addr):Turn P w K tg (Itt K a) [it] it (λi h=>h.IsTupleIter it a i) where
 mem:=by simp
 obj:=λi h st b hb=>by
  have e:b=it:=by simpa using hb
  subst e;obtain ⟨o,e,c,d⟩:=st;exact ⟨o,e,λv z=>by rw[d] at z;cases z⟩
 keep:=λi h h' st k=>st.at λo e=>k it (by simp) o e
 item:=by
  intro X hP hw hK hc i pins s σ H E I hf st hg;subst hP hw hK;obtain ⟨xs,x,hq,hx⟩:=hg;obtain ⟨its,rv,p,hz⟩:=I.tuple hq;obtain ⟨u,hu,ru⟩:=rv.get hx;obtain ⟨f0,f1,f2,f3,f4,f5⟩:=hf it (by simp);refine wpAny_pyNext_tuple_item st (show s.heap.IsTuple a its.toArray from p) (x:=u) (by simpa using hu) λh' st' sb=>?_;have I1:Inv X pins σ H {s with heap:=h'}:=I.turned (t':=s.toks) (λb o hb e=>(sb.2 b hb).trans e) f0 f1 f3 f4 f5;obtain ⟨o,e,c,d⟩:=id st';exact ⟨u,rfl,VP (s:={s with heap:=h'}) e c d (by decide) ⟨x,H,I1,ru,⟨rfl,λys hy=>by rw[I.tuple_inj hy hq];exact hx⟩,st',λb hb=>(hf b hb).1⟩⟩
 done:=by
  intro X hP hw hK hc i pins s σ H E I hf st hg;subst hP hw hK;obtain ⟨xs,hq,hx⟩:=hg;obtain ⟨its,rv,p,hz⟩:=I.tuple hq;obtain ⟨f0,f1,f2,f3,f4,f5⟩:=hf it (by simp);have hl:=rv.length;exact wpAny_pyNext_tuple_end (I.ok.hd hc) st (show s.heap.IsTuple a its.toArray from p) (by simp;lia) λh' eb=>⟨rfl,I.turned (t':=s.toks) (λb o hb e=>eb b o hb e) f0 f1 f3 f4 f5⟩
 self:=λ_ _ _ _ _ st h=>wpAny_pyIter_tupleiter st h
theorem TX{P:AL}{w:AQ}{K:Au}{tg:Expr}(it:Addr)(lo:Int)(n:Nat):Turn P w K tg (Itr lo n) [it] it (λi h=>NH h it (lo+(i:Nat)*1) ((n:Int)-(i:Nat)) 1) where
 mem:=by simp
 obj:=λi h st b hb=>by
  have e:b=it:=by simpa using hb
  subst e;exact ⟨_,st,λv z=>by
   have z':QR _=S7 v:=z;cases z'⟩
 keep:=λi h h' st k=>k it (by simp) _ st
 item:=by
  intro X hP hw hK hc i pins s σ H E I hf st hg;subst hP hw hK;obtain ⟨f0,f1,f2,f3,f4,f5⟩:=hf it (by simp);have W:=VM (prog:=X.prog) (w:=X.w) (I.ok.hd hc) it lo 1 n;refine W.item i s _ _ hg st λv h' tk hv st' kk=>?_;obtain ⟨t,rfl⟩:=hv;have I1:Inv X pins σ H {s with heap:=h',toks:=tk}:=I.turned (λb o hb e=>kk b o (by simpa using hb) e) f0 f1 f3 f4 f5;refine ⟨_,rfl,VP (s:={s with heap:=h',toks:=tk}) (n:="range_iterator") st' rfl rfl (by decide) ⟨.int (lo+i),H,I1,⟨t,?_⟩,⟨rfl,rfl⟩,st',λb hb=>(hf b hb).1⟩⟩;rw[VO]
 done:=by
  intro X hP hw hK hc i pins s σ H E I hf st hg;subst hP hw hK;obtain ⟨f0,f1,f2,f3,f4,f5⟩:=hf it (by simp);exact NI (I.ok.hd hc) st (by have:n<=i:=hg;lia) λh' eb=>⟨rfl,I.turned (t':=s.toks) (λb o hb e=>eb b o hb e) f0 f1 f3 f4 f5⟩
 self:=λ_ _ _ _ _ st h=>NJ st h
section
variable{X:Cx}{tg:Expr}
def ADU(K:Au)(tl:TE):TI:=λσ H R=>tl σ H λx H1=>∃a,x=.ref a/\(∃xs,SqL K H1 a xs)/\R (Itl K a) H1
def ADb(K:Au)(tl:TE):TI:=λσ H R=>tl σ H λx H1=>∃a,x=.ref a/\(∃xs,SqT K H1 a xs)/\R (Itt K a) H1
theorem CG{l:Expr}{tl:TE}(hl:PE X l tl):PI X tg l (ADU X.K tl):=by
 intro pins s σ H R I h;refine thn (hl pins s σ H _ I h) λv s1 ⟨x,H1,I1,r1,q1⟩=>?_;obtain ⟨a,e,⟨xs,hq⟩,q⟩:=q1;subst e;cases r1;obtain ⟨its,rv,p,hz⟩:=I1.list hq;refine P9 p.isList ?_;refine ⟨s1.heap.objs.size,[s1.heap.objs.size],_,_,H1,rfl,I1.kept (t':=s1.toks) λb o e=>AJ _ e,WM a _,⟨_,AW _ rfl,rfl,rfl⟩,λb hb=>?_,q⟩;have e:b=s1.heap.objs.size:=by simpa using hb
 subst e;exact I1.fpOk (AF _) (I1.hok.fresh (AF _))
theorem ZC{l:Expr}{tl:TE}(hl:PE X l tl):PI X tg l (ADb X.K tl):=by
 intro pins s σ H R I h;refine thn (hl pins s σ H _ I h) λv s1 ⟨x,H1,I1,r1,q1⟩=>?_;obtain ⟨a,e,⟨xs,hq⟩,q⟩:=q1;subst e;cases r1;obtain ⟨its,rv,p,hz⟩:=I1.tuple hq;refine JP (show s1.heap.IsTuple a its.toArray from p) ?_;refine ⟨s1.heap.objs.size,[s1.heap.objs.size],_,_,H1,rfl,I1.kept (t':=s1.toks) λb o e=>AJ _ e,SJ a _,⟨_,AW _ rfl,rfl,rfl⟩,λb hb=>?_,q⟩;have e:b=s1.heap.objs.size:=by simpa using hb
 subst e;exact I1.fpOk (AF _) (I1.hok.fresh (AF _))
theorem Qz{pins:List (Addr×Obj)}{σ:St}{H:Hp}{s:AA}{R:It->Hp->Prop}{E:Ap->AA->Prop}{lo hi:Int}{t u v:Tok}{tk:Nat}(I:Inv X pins σ H s)(h1:-(2 ^ 62)<=lo)(h2:lo<2 ^ 62)(h3:-(2 ^ 62)<=hi)(h4:hi<2 ^ 62)
  (q:R (Itr lo (hi-lo).toNat) H):wpAny (AO X.prog X.w) X.A (N5 (.ref s.heap.objs.size)) (PIE X pins σ tg R) E {s with heap:=s.heap.push {cls:=.type "range",data:=.fields #[.int lo t,.int hi u,.int 1 v]},toks:=tk}:=by
 refine Pe (VQ ..) (small_one h1 h2 h3 h4) ?_;have I1:Inv X pins σ H {s with heap:=s.heap.push {cls:=.type "range",data:=.fields #[.int lo t,.int hi u,.int 1 v]},toks:=tk}:=I.kept λb o e=>AJ _ e;refine ⟨(s.heap.push {cls:=.type "range",data:=.fields #[.int lo t,.int hi u,.int 1 v]}).objs.size,[(s.heap.push {cls:=.type "range",data:=.fields #[.int lo t,.int hi u,.int 1 v]}).objs.size],_,_,H,rfl,
  I1.kept (t':=tk) λb o e=>AJ _ e,TX _ lo (hi-lo).toNat,?_,λb hb=>?_,q⟩
 ·have e1:lo+((0:Nat):Int)*1=lo:=by simp
  have e2:(((hi-lo).toNat:Nat):Int)-((0:Nat):Int)=Hn lo hi 1:=by rw[rangeSize_one];split<;>lia
  show NH _ _ (lo+((0:Nat):Int)*1) ((((hi-lo).toNat:Nat):Int)-((0:Nat):Int)) 1;rw[e1,e2];exact AW _ rfl
 ·have e:b=(s.heap.push {cls:=.type "range",data:=.fields #[.int lo t,.int hi u,.int 1 v]}).objs.size:=by simpa using hb
  subst e;exact I1.fpOk (AF _) (I1.hok.fresh (AF _))
def ACq(ta:TA):TI:=λσ H R=>ta σ H λvs H1=>∃j:Int,vs=[.int j]/\-(2 ^ 62)<=j/\j<2 ^ 62/\R (Itr 0 j.toNat) H1
def ACv(ta:TA):TI:=λσ H R=>ta σ H λvs H1=>∃i j:Int,vs=[.int i,.int j]/\(-(2 ^ 62)<=i/\i<2 ^ 62/\-(2 ^ 62)<=j/\j<2 ^ 62)/\R (Itr i (j-i).toNat) H1
theorem IV{a:Expr}{ta:TA}{p pos:Pos}(hg:Gl X "range")(hm:X.mg "range" = none)(ha:PA X [a] ta)(hs:Cf [a] X.env=[(false,eval a X.env)]:=by rfl):PI X tg (.Call (.Name "range" p) [a] [] pos) (ACq ta):=by
 intro pins s σ H R I h;refine Call_ (Ep I hg hm RY (D2 (thn (ha pos pins s σ H _ I h) λus s1 ⟨vs,H1,I1,r1,q1⟩=>?_) hs rfl));obtain ⟨j,e,q1,q2,q⟩:=q1;subst e;cases r1 with
 | cons r rr =>
  cases rr;obtain ⟨t,rfl⟩:=r;exact call_range_1 (Qz I1 (by lia) (by lia) q1 q2 (by simpa using q))
theorem WK{a b:Expr}{ta:TA}{p pos:Pos}(hg:Gl X "range")(hm:X.mg "range" = none)(ha:PA X [a,b] ta)(hs:Cf [a,b] X.env=[(false,eval a X.env),(false,eval b X.env)]:=by rfl)(hs2:Cf [b] X.env=[(false,eval b X.env)]:=by rfl) :
  PI X tg (.Call (.Name "range" p) [a,b] [] pos) (ACv ta):=by
 intro pins s σ H R I h;refine Call_ (Ep I hg hm RY (D2 (thn (ha pos pins s σ H _ I h) λus s1 ⟨vs,H1,I1,r1,q1⟩=>?_) (by rw[hs,hs2]) (by rw[hs2];rfl)));obtain ⟨i,j,e,⟨q1,q2,q3,q4⟩,q⟩:=q1;subst e;cases r1 with
 | cons r rr =>
  cases rr with
  | cons r' rr =>
   cases rr;obtain ⟨t,rfl⟩:=r;obtain ⟨t',rfl⟩:=r';exact call_range_2 (Qz I1 q1 q2 q3 q4 q)
def ADf(wi:TI)(g:TG)(tb:TS):TS:=λD σ H=>wi σ H λJ H1=>∃W:Nat->Nat->St->Hp->Prop,(∃m,W 0 m σ H1)/\∀i m σ H,W i m σ H ->
 (J.stop i H/\D.nx σ H)\/(J.go i H/\∃N:St->Hp->Prop,(∀σ' H',N σ' H'->∃m',m'<m/\W (i+1) m' σ' H')/\∀x H',J.yld i H x H'->g x σ H' λσ2 H2=>tb {D with nx:=N,ct:=N,bk:=D.nx} σ2 H2)
def pinsAt(fp:List Addr)(h:Heap):List (Addr×Obj):=fp.filterMap λb=>(h.get? b).map λo=>(b,o)
theorem Es{fp:List Addr}{h:Heap}{b:Addr}{o:Obj}(hb:b∈fp)(e:h.get? b=some o):(b,o)∈pinsAt fp h:=LU.mpr ⟨b,hb,by rw[e];rfl⟩
theorem Vi{fp:List Addr}{h:Heap}{p:Addr×Obj}(hp:p∈pinsAt fp h):p.1∈fp/\h.get? p.1=some p.2:=by
 obtain ⟨b,hb,e⟩:=LU.mp hp;cases q:h.get? b with
 | none=>rw[q] at e;cases e
 | some o =>
  rw[q] at e;have e':(b,o)=p:=BY e;subst e';exact ⟨hb,q⟩
theorem Inv.pinned{pins:List (Addr×Obj)}{σ:St}{H:Hp}{s:AA}{fp:List Addr}(I:Inv X pins σ H s)(hf:∀b∈fp,FpOk X pins H b)(ho:∀b∈fp,∃o,s.heap.get? b=some o/\∀v,o.data≠.cell v):Inv X (pins++pinsAt fp s.heap) σ H s :=
 I.pins_of λp hp=>(CD.mp hp).elim (λz=>I.pin p (B6 _ z)) λz=>by
  obtain ⟨hb,e⟩:=Vi z;obtain ⟨f0,f1,f2,_⟩:=hf p.1 hb;obtain ⟨o,e',d⟩:=ho p.1 hb;rw[e] at e';cases e';exact ⟨e,f0,f1,f2,d⟩
theorem Inv.unpinned{pins pl:List (Addr×Obj)}{σ:St}{H:Hp}{s:AA}(I:Inv X (pins++pl) σ H s):Inv X pins σ H s:=I.pins_of λp hp=>I.pin p (B6 _ (E7 _ hp))
theorem Dg{iter:Expr}{body:List Stmt}{wi:TI}{g:TG}{tb:TS}{pos:Pos}(hp:PassesOwn (AO X.prog X.w) X.A X.env X.xe)(hc:X.calm=true)(hi:PI X tg iter wi)(hg:PG X tg g)(hb:PSs X body tb)
  (hs:∀x,Me iter X.env x=pure x:=by intro _;rfl):PS X (.For tg iter body [] pos) (ADf wi g tb):=by
 intro pins s σ H D I h;refine wpAny_For (thn (hi pins s σ H _ I h) λv s1 h1=>thn h1 λitv s2 h2=>?_) hs;obtain ⟨it,fp,tn,J,H2,e,I2,T,st2,f2,W,⟨m0,w0⟩,turn⟩:=h2;subst e;have stat:∀{H':Hp},(∀b∈fp,H' b=none)->∀b∈fp,FpOk X pins H' b:=λhn b hb=>⟨hn b hb,(f2 b hb).2⟩;refine codeAny_forLoop_any (λn s'=>∃i σ' H',Inv X pins σ' H' s'/\tn i s'.heap/\(∀b∈fp,H' b=none)/\W i n σ' H') ?_ m0 ⟨0,σ,H2,I2,st2,λb hb=>(f2 b hb).1,w0⟩;rintro n s3 ⟨i,σ3,H3,I3,st3,fr3,w3⟩;rcases turn i n σ3 H3 w3 with⟨stop,qn⟩ | ⟨go,N,hN,step⟩
 ·refine JA hp (thn (T.done X rfl rfl rfl hc i pins s3 σ3 H3 X.xe I3 (stat fr3) st3 stop) λr s4 ⟨hr,I4⟩=>?_)
  subst hr;exact Nd ⟨σ3,H3,I4,qn⟩
 ·refine JA hp (thn (T.item X rfl rfl rfl hc i pins s3 σ3 H3 X.xe I3 (stat fr3) st3 go) λr s4 ⟨u,hr,h4⟩=>?_)
  subst hr;refine JA hp (thn h4 λ_ s5 ⟨x,H5,I5,r5,y5,st5,fr5⟩=>?_);have I5':=I5.pinned (stat fr5) (T.obj _ _ st5);refine JA hp (thn (hg _ s5 σ3 H5 x u _ I5' r5 (step x H5 y5)) λ_ s6 ⟨σ6,H6,I6,q6⟩=>?_);refine JA hp (thn (hb _ s6 σ6 H6 _ I6 q6) λf s7 q7=>?_);have again:∀{σ7:St}{H7:Hp},Inv X (pins++pinsAt fp s5.heap) σ7 H7 s7->N σ7 H7->∃m,m<n/\∃i σ' H',Inv X pins σ' H' s7/\tn i s7.heap/\(∀b∈fp,H' b=none)/\W i m σ' H':=λ{σ7 H7} I7 n7=>by
   obtain ⟨m',hm,w7⟩:=hN σ7 H7 n7;refine ⟨m',hm,i+1,σ7,H7,I7.unpinned,T.keep _ _ _ st5 λb hb o e=>(I7.pin (b,o) (B6 _ (B6 _ (Es hb e)))).1,λb hb=>?_,w7⟩;obtain ⟨o,e,d⟩:=T.obj _ _ st5 b hb;exact (I7.pin (b,o) (B6 _ (B6 _ (Es hb e)))).2.1
  cases f with
  | next=>obtain ⟨σ7,H7,I7,n7⟩:=q7;exact again I7 n7
  | cont=>obtain ⟨σ7,H7,I7,n7⟩:=q7;exact again I7 n7
  | brk=>obtain ⟨σ7,H7,I7,q7⟩:=q7;exact ⟨σ7,H7,I7.unpinned,q7⟩
  | ret v=>obtain ⟨x7,σ7,H7,I7,r7,q7⟩:=q7;exact ⟨x7,σ7,H7,I7.unpinned,r7,q7⟩
end
theorem Cy{K:Au}{a:Addr}{xs:List V}{g:TG}{tb:TS}{D:Ends}{σ:St}{H:Hp}(Pv:Nat->St->Hp->Prop)(h0:Pv 0 σ H)(hl:∀i σ H,i<=xs.length->Pv i σ H->SqL K H a xs)
  (hs:∀i x σ H,xs[i]?=some x->Pv i σ H->g x σ H λσ2 H2=>tb {D with nx:=Pv (i+1),ct:=Pv (i+1),bk:=D.nx} σ2 H2) (hd:∀σ H,Pv xs.length σ H->D.nx σ H) :
  ∃W:Nat->Nat->St->Hp->Prop,(∃m,W 0 m σ H)/\∀i m σ H,W i m σ H ->
   ((Itl K a).stop i H/\D.nx σ H)\/((Itl K a).go i H/\∃N:St->Hp->Prop,(∀σ' H',N σ' H'->∃m',m'<m/\W (i+1) m' σ' H')/\∀x H',(Itl K a).yld i H x H'->g x σ H' λσ2 H2=>tb {D with nx:=N,ct:=N,bk:=D.nx} σ2 H2):=by
 refine ⟨λi m σ H=>m=xs.length-i/\i<=xs.length/\Pv i σ H,⟨xs.length,by simp,BH _,h0⟩,?_⟩;rintro i m σ H ⟨rfl,hi,p⟩;have q:=hl i σ H hi p;by_cases hlt:i<xs.length
 ·refine .inr ⟨⟨xs,xs[i],q,by simp[hlt]⟩,Pv (i+1),λσ' H' p'=>⟨xs.length-(i+1),by lia,rfl,hlt,p'⟩,λx H' y=>?_⟩
  obtain ⟨e,y⟩:=y;subst e;exact hs i x σ _ (y xs q) p
 ·have e:i=xs.length:=by lia
  subst e;exact .inl ⟨⟨xs,q,AF _⟩,hd σ H p⟩
theorem Vj{lo:Int}{n:Nat}{g:TG}{tb:TS}{D:Ends}{σ:St}{H:Hp}(Pv:Nat->St->Hp->Prop)(h0:Pv 0 σ H)
  (hs:∀i σ H,i<n->Pv i σ H->g (.int (lo+i)) σ H λσ2 H2=>tb {D with nx:=Pv (i+1),ct:=Pv (i+1),bk:=D.nx} σ2 H2) (hd:∀σ H,Pv n σ H->D.nx σ H) :
  ∃W:Nat->Nat->St->Hp->Prop,(∃m,W 0 m σ H)/\∀i m σ H,W i m σ H ->
   ((Itr lo n).stop i H/\D.nx σ H)\/((Itr lo n).go i H/\∃N:St->Hp->Prop,(∀σ' H',N σ' H'->∃m',m'<m/\W (i+1) m' σ' H')/\∀x H',(Itr lo n).yld i H x H'->g x σ H' λσ2 H2=>tb {D with nx:=N,ct:=N,bk:=D.nx} σ2 H2):=by
 refine ⟨λi m σ H=>m=n-i/\i<=n/\Pv i σ H,⟨n,by simp,BH _,h0⟩,?_⟩;rintro i m σ H ⟨rfl,hi,p⟩;by_cases hlt:i<n
 ·refine .inr ⟨hlt,Pv (i+1),λσ' H' p'=>⟨n-(i+1),by lia,rfl,hlt,p'⟩,λx H' y=>?_⟩
  obtain ⟨e,y⟩:=y;subst e y;exact hs i σ _ hlt p
 ·have e:i=n:=by lia
  subst e;exact .inl ⟨AF _,hd σ H p⟩
abbrev R2:=V->V->Hp->VK->Prop
def OpR(X:Cx)(f:Ap->Ap->Sem Ap)(r:R2):Prop :=
 ∀(pins:List (Addr×Obj)) (s:AA) (σ:St) (H:Hp) (x y:V) (v u:Ap) (Q:VK),Inv X pins σ H s->RelV x v->RelV y u->r x y H Q ->
  wpAny (AO X.prog X.w) X.A (f v u) (EP X pins σ Q) X.xe s
def UnR(X:Cx)(f:Ap->Sem Ap)(r:V->Hp->VK->Prop):Prop :=
 ∀(pins:List (Addr×Obj)) (s:AA) (σ:St) (H:Hp) (x:V) (v:Ap) (Q:VK),Inv X pins σ H s->RelV x v->r x H Q ->
  wpAny (AO X.prog X.w) X.A (f v) (EP X pins σ Q) X.xe s
def CallR(X:Cx)(f:Ap)(r:List V->Hp->VK->Prop):Prop :=
 ∀(pins:List (Addr×Obj)) (s:AA) (σ:St) (H:Hp) (xs:List V) (us:List Ap) (Q:VK),Inv X pins σ H s->Vals xs us->r xs H Q ->
  wpAny (AO X.prog X.w) X.A (call f us) (EP X pins σ Q) X.xe s
def tOp(r:R2)(ta tb:TE):TE:=λσ H Q=>ta σ H λx H1=>tb σ H1 λy H2=>r x y H2 Q
def tUn(r:V->Hp->VK->Prop)(ta:TE):TE:=λσ H Q=>ta σ H λx H1=>r x H1 Q
def rI(C:Int->Int->Prop)(g:Int->Int->V):R2:=λx y H Q=>E2 λi j=>A4 (x=.int i) (y=.int j) (C i j) (Q (g i j) H)
def rI0(g:Int->Int->V):R2:=λx y H Q=>E2 λi j=>A3 (x=.int i) (y=.int j) (Q (g i j) H)
def rU(g:Int->V):V->Hp->VK->Prop:=λx H Q=>∃i,x=.int i/\Q (g i) H
section
variable{X:Cx}{a b c:Expr}{ta tb tc:TE}{pos:Pos}
theorem binT(ha:PE X a ta)(hb:PE X b tb){pins:List (Addr×Obj)}{s:AA}{σ:St}{H:Hp}{R:V->V->Hp->Prop}(I:Inv X pins σ H s)
  (h:ta σ H λx H1=>tb σ H1 λy H2=>R x y H2) {Q:Ap->AA->Prop}{f:Ap->Ap->Sem Ap}
  (hf:∀v u s2 x y H2,Inv X pins σ H2 s2->RelV x v->RelV y u->R x y H2->wpAny (AO X.prog X.w) X.A (f v u) Q X.xe s2) :
  wpAny (AO X.prog X.w) X.A (eval a X.env) (λv s₁=>wpAny (AO X.prog X.w) X.A (eval b X.env) (λu s₂=>wpAny (AO X.prog X.w) X.A (f v u) Q X.xe s₂) X.xe s₁) X.xe s:=by
 refine thn (ha pins s σ H _ I h) λv s1 ⟨x,H1,I1,r1,q1⟩=>?_;refine thn (hb pins s1 σ H1 _ I1 q1) λu s2 ⟨y,H2,I2,r2,q2⟩=>?_;exact hf v u s2 x y H2 I2 r1 r2 q2
theorem Ar{op:Operator}{r:R2}(ho:OpR X (FI op) r)(ha:PE X a ta)(hb:PE X b tb):PE X (.BinOp a op b pos) (tOp r ta tb):=by
 intro pins s σ H Q I h;exact wpAny_BinOp (binT ha hb I h λv u s2 x y H2 I2 rx ry q=>ho pins s2 σ H2 x y v u Q I2 rx ry q)
theorem MK{op:UnaryOp}{r:V->Hp->VK->Prop}(ho:UnR X (unaryOp op) r)(ha:PE X a ta):PE X (.UnaryOp op a pos) (tUn r ta):=by
 intro pins s σ H Q I h;exact UnaryOp_ (thn (ha pins s σ H _ I h) λv s1 ⟨x,H1,I1,r1,q1⟩=>ho pins s1 σ H1 x v Q I1 r1 q1)
theorem opI{f:Ap->Ap->Sem Ap}{C:Int->Int->Prop}{g:Int->Int->Int}
  (rule:∀(i j:Int) (t u:Tok) (s:AA) (Q:Ap->AA->Prop) (E:Ap->AA->Prop),C i j->Q (.int (g i j) s.toks) {s with toks:=s.toks+1}->wpAny (AO X.prog X.w) X.A (f (.int i t) (.int j u)) Q E s) :
  OpR X f (rI C λi j=>.int (g i j)):=by
 intro pins s σ H x y v u Q I rx ry h;obtain ⟨i,j,rfl,rfl,hc,q⟩:=h;obtain ⟨t,rfl⟩:=rx;obtain ⟨t',rfl⟩:=ry;exact rule i j t t' s _ _ hc ⟨.int (g i j),H,I.tok _,⟨_,rfl⟩,q⟩
theorem opI0{f:Ap->Ap->Sem Ap}{g:Int->Int->Int}
  (rule:∀(i j:Int) (t u:Tok) (s:AA) (Q:Ap->AA->Prop) (E:Ap->AA->Prop),Q (.int (g i j) s.toks) {s with toks:=s.toks+1}->wpAny (AO X.prog X.w) X.A (f (.int i t) (.int j u)) Q E s) :
  OpR X f (rI0 λi j=>.int (g i j)):=by
 intro pins s σ H x y v u Q I rx ry h;obtain ⟨i,j,rfl,rfl,q⟩:=h;obtain ⟨t,rfl⟩:=rx;obtain ⟨t',rfl⟩:=ry;exact rule i j t t' s _ _ ⟨.int (g i j),H,I.tok _,⟨_,rfl⟩,q⟩
theorem opB0{f:Ap->Ap->Sem Ap}{g:Int->Int->Bool}
  (rule:∀(i j:Int) (t u:Tok) (s:AA) (Q:Ap->AA->Prop) (E:Ap->AA->Prop),Q (.bool (g i j)) s->wpAny (AO X.prog X.w) X.A (f (.int i t) (.int j u)) Q E s) :
  OpR X f (rI0 λi j=>.bl (g i j)):=by
 intro pins s σ H x y v u Q I rx ry h;obtain ⟨i,j,rfl,rfl,q⟩:=h;obtain ⟨t,rfl⟩:=rx;obtain ⟨t',rfl⟩:=ry;exact rule i j t t' s _ _ ⟨.bl (g i j),H,I,rfl,q⟩
def CDiv(i j:Int):Prop:=0<j/\j<1073741824
def CMul(i j:Int):Prop:=(-(2 ^ 64)<i/\i<2 ^ 64)\/(-(2 ^ 64)<j/\j<2 ^ 64)
theorem CMul.ok{i j:Int}(h:CMul i j):IntMulOk i j:=by
 rcases h with⟨h1,h2⟩ | ⟨h1,h2⟩
 ·exact .of_left (intBits_le_64 h1 h2)
 ·exact .of_right (intBits_le_64 h1 h2)
theorem Cg:OpR X (FI .Add) (rI0 λi j=>.int (i+j)):=opI0 λ_ _ _ _ _ _ _ q=>add_int q
theorem DK:OpR X (FI .Sub) (rI0 λi j=>.int (i-j)):=opI0 λ_ _ _ _ _ _ _ q=>sub_int q
theorem KY:OpR X (FI .Mult) (rI CMul λi j=>.int (i*j)):=opI λ_ _ _ _ _ _ _ hc q=>mul_int q hc.ok
theorem HD:OpR X (FI .FloorDiv) (rI CDiv λi j=>.int (i / j)):=opI λi j _ _ _ _ _ hc q=>by
 have h1:(0:Int)<j:=hc.1;have h2:j<1073741824:=hc.2;exact floordiv_int (by lia) (by rw[Int.fdiv_eq_ediv_of_nonneg i (by lia)];exact q) (.inl (NL (by lia)))
theorem DP:OpR X (FI .Mod) (rI (λ_ j=>0<j) λi j=>.int (i%j)):=opI λi j _ _ _ _ _ hc q=>by
 have h1:(0:Int)<j:=hc;exact mod_int' (by lia) (by rw[Int.fmod_eq_emod_of_nonneg i (by lia)];exact q)
theorem unI{f:Ap->Sem Ap}{g:Int->Int}
  (rule:∀(i:Int) (t:Tok) (s:AA) (Q:Ap->AA->Prop) (E:Ap->AA->Prop),Q (.int (g i) s.toks) {s with toks:=s.toks+1}->wpAny (AO X.prog X.w) X.A (f (.int i t)) Q E s) :
  UnR X f (rU λi=>.int (g i)):=by
 intro pins s σ H x v Q I rx h;obtain ⟨i,rfl,q⟩:=h;obtain ⟨t,rfl⟩:=rx;exact rule i t s _ _ ⟨.int (g i),H,I.tok _,⟨_,rfl⟩,q⟩
theorem Im:UnR X (unaryOp .USub) (rU λi=>.int (-i)):=unI λ_ _ _ _ _ q=>neg_int q
end
def scal:V->V->Bool
 | .non,.non=>true | .non,.int _=>true | .int _,.non=>true | .non,.bl _=>true | .bl _,.non=>true | .non,.str _=>true | .str _,.non=>true
 | .int _,.int _=>true | .bl _,.bl _=>true | .str _,.str _=>true | .byt _,.byt _=>true
 | .int _,.str _=>true | .str _,.int _=>true | .bl _,.str _=>true | .str _,.bl _=>true
 | _,_=>false
def rEq:R2:=λx y H Q=>scal x y=true/\Q (.bl (decide (x=y))) H
def rNe:R2:=λx y H Q=>scal x y=true/\Q (.bl (!decide (x=y))) H
theorem VJ{i j:Int}:decide (V.int i=V.int j)=(i==j):=by
 rw[HI];simp
theorem YX{i j:Bool}:decide (V.bl i=V.bl j)=(i==j):=by
 rw[HI];simp
theorem Ub{i j:Str}:decide (V.str i=V.str j)=(i==j):=by
 rw[HI];simp
theorem Ud{i j:Array UInt8}:decide (V.byt i=V.byt j)=(i.toList==j.toList):=by
 rw[HI];cases i;cases j;simp
section
variable{X:Cx}{a b c:Expr}{ta tb tc:TE}{pos:Pos}
theorem BX{pins:List (Addr×Obj)}{σ:St}{H:Hp}{s:AA}{Q:VK}{k k':Bool}(I:Inv X pins σ H s)(q:Q (.bl k) H)(e:k=k'):EP X pins σ Q (.bool k') s:=by
 subst e;exact ⟨.bl k,H,I,rfl,q⟩
theorem Fx:OpR X (D8 .Eq) rEq:=by
 intro pins s σ H x y v u Q I rx ry h;obtain ⟨hs,q⟩:=h;cases x with
 | non =>
  cases rx;cases y with
  | non=>cases ry;exact TR (BX I q (by simp))
  | bl j=>cases ry;exact TU (BX I q (by simp))
  | int j=>obtain ⟨t',rfl⟩:=ry;exact UC (BX I q (by simp))
  | str j=>obtain ⟨t',rfl⟩:=ry;exact UD (BX I q (by simp))
  | _=>exact absurd (show false=true from hs) BA
 | bl i =>
  cases rx;cases y with
  | non=>cases ry;exact TW (BX I q (by simp))
  | bl j=>cases ry;exact eq_bool (BX I q YX)
  | str j=>obtain ⟨t',rfl⟩:=ry;exact TZ (BX I q (by simp))
  | _=>exact absurd (show false=true from hs) BA
 | int i =>
  obtain ⟨t,rfl⟩:=rx;cases y with
  | non=>cases ry;exact UE (BX I q (by simp))
  | int j=>obtain ⟨t',rfl⟩:=ry;exact eq_int (BX I q VJ)
  | str j=>obtain ⟨t',rfl⟩:=ry;exact UF (BX I q (by simp))
  | _=>exact absurd (show false=true from hs) BA
 | str i =>
  obtain ⟨t,rfl⟩:=rx;cases y with
  | non=>cases ry;exact UH (BX I q (by simp))
  | bl j=>cases ry;exact T3 (BX I q (by simp))
  | int j=>obtain ⟨t',rfl⟩:=ry;exact UI (BX I q (by simp))
  | str j=>obtain ⟨t',rfl⟩:=ry;exact eq_str (BX I q Ub)
  | _=>exact absurd (show false=true from hs) BA
 | byt i =>
  obtain ⟨t,rfl⟩:=rx;cases y with
  | byt j=>obtain ⟨t',rfl⟩:=ry;exact PySem.W.eq_bytes (BX I q Ud)
  | _=>exact absurd (show false=true from hs) BA
 | _=>cases y<;>exact absurd (show false=true from hs) BA
theorem Uu:OpR X (D8 .NotEq) rNe:=by
 intro pins s σ H x y v u Q I rx ry h;obtain ⟨hs,q⟩:=h;cases x with
 | non =>
  cases rx;cases y with
  | non=>cases ry;exact T4 (BX I q (by simp))
  | bl j=>cases ry;exact T5 (BX I q (by simp))
  | int j=>obtain ⟨t',rfl⟩:=ry;exact UK (BX I q (by simp))
  | str j=>obtain ⟨t',rfl⟩:=ry;exact UM (BX I q (by simp))
  | _=>exact absurd (show false=true from hs) BA
 | bl i =>
  cases rx;cases y with
  | non=>cases ry;exact T6 (BX I q (by simp))
  | bl j=>cases ry;exact ne_bool (BX I q (congrArg not YX))
  | str j=>obtain ⟨t',rfl⟩:=ry;exact T7 (BX I q (by simp))
  | _=>exact absurd (show false=true from hs) BA
 | int i =>
  obtain ⟨t,rfl⟩:=rx;cases y with
  | non=>cases ry;exact UN (BX I q (by simp))
  | int j=>obtain ⟨t',rfl⟩:=ry;exact ne_int (BX I q (congrArg not VJ))
  | str j=>obtain ⟨t',rfl⟩:=ry;exact UO (BX I q (by simp))
  | _=>exact absurd (show false=true from hs) BA
 | str i =>
  obtain ⟨t,rfl⟩:=rx;cases y with
  | non=>cases ry;exact UP (BX I q (by simp))
  | bl j=>cases ry;exact T8 (BX I q (by simp))
  | int j=>obtain ⟨t',rfl⟩:=ry;exact UQ (BX I q (by simp))
  | str j=>obtain ⟨t',rfl⟩:=ry;exact ne_str (BX I q (congrArg not Ub))
  | _=>exact absurd (show false=true from hs) BA
 | byt i =>
  obtain ⟨t,rfl⟩:=rx;cases y with
  | byt j=>obtain ⟨t',rfl⟩:=ry;exact PySem.W.ne_bytes (BX I q (congrArg not Ud))
  | _=>exact absurd (show false=true from hs) BA
 | _=>cases y<;>exact absurd (show false=true from hs) BA
theorem JK:OpR X (D8 .Lt) (rI0 λi j=>.bl (decide (i<j))):=opB0 λ_ _ _ _ _ _ _ q=>lt_int q
theorem Yr:OpR X (D8 .Gt) (rI0 λi j=>.bl (decide (j<i))):=opB0 λ_ _ _ _ _ _ _ q=>gt_int q
theorem ABV:OpR X (D8 .GtE) (rI0 λi j=>.bl (decide (j<=i))):=opB0 λ_ _ _ _ _ _ _ q=>ge_int q
theorem nomark(b:Expr){op:RR}(h:op≠.In:=by decide)(h2:op≠.NotIn:=by decide):HG op b=false:=by
 have e1:(op==V8)=false:=by cases op<;>first | rfl | exact absurd rfl h
 have e2:(op==VI)=false:=by cases op<;>first | rfl | exact absurd rfl h2
 cases b<;>simp[HG,e1,e2]
theorem Ds{op:RR}{r:R2}(ho:OpR X (D8 op) r)(ha:PE X a ta)(hb:PE X b tb)(hm:HG op b=false):PE X (.Compare a [op] [b] pos) (tOp r ta tb):=by
 intro pins s σ H Q I h;exact wpAny_Compare1 (binT ha hb I h λv u s2 x y H2 I2 rx ry q=>ho pins s2 σ H2 x y v u Q I2 rx ry q) hm
def ACt(t:TE):TT:=λσ H Q=>t σ H λx H'=>∃k,x=.bl k/\Q k H'
theorem Aw{op:RR}{r:R2}(ho:OpR X (D8 op) r)(ha:PE X a ta)(hb:PE X b tb)(hm:HG op b=false):PT X (.Compare a [op] [b] pos) (ACt (tOp r ta tb)):=by
 intro pins s σ H Q I h;refine N3 (thn (ha pins s σ H _ I h) λv s1 ⟨x,H1,I1,r1,q1⟩=>thn (hb pins s1 σ H1 _ I1 q1) λu s2 ⟨y,H2,I2,r2,q2⟩ =>
  thn (ho pins s2 σ H2 x y v u _ I2 r1 r2 q2) λc s3 ⟨z,H3,I3,r3,k,e,q3⟩=>?_) hm
 subst e;cases r3;exact FB ⟨H3,I3,q3⟩
theorem line63:(sizeLine:Nat)<2 ^ 63:=by rw[EZ];decide
theorem vals1{x:V}{us:List Ap}(r:Vals [x] us):∃u,us=[u]/\RelV x u:=by
 cases r with
 | cons r1 r2=>cases r2;exact ⟨_,rfl,r1⟩
theorem vals2{x y:V}{us:List Ap}(r:Vals [x,y] us):∃u w',us=[u,w']/\RelV x u/\RelV y w':=by
 cases r with
 | cons r1 r2 =>
  cases r2 with
  | cons r3 r4=>cases r4;exact ⟨_,_,rfl,r1,r3⟩
theorem Wf(hc:X.calm=true):CallR X (.builtin "max") (λxs H Q=>∃i j,xs=[.int i,.int j]/\Q (.int (if j>i then j else i)) H):=by
 intro pins s σ H xs us Q I r h;obtain ⟨i,j,rfl,q⟩:=h;obtain ⟨u,w',rfl,⟨t,rfl⟩,⟨t',rfl⟩⟩:=vals2 r;refine max_two_ints (I.ok.hd hc) λh' tk k=>⟨_,H,I.kept k,?_,q⟩;by_cases hj:j>i
 ·rw[if_pos hj,if_pos hj];exact ⟨_,rfl⟩
 ·rw[if_neg hj,if_neg hj];exact ⟨_,rfl⟩
theorem WY(hc:X.calm=true):CallR X (.builtin "min") (λxs H Q=>∃i j,xs=[.int i,.int j]/\Q (.int (if j<i then j else i)) H):=by
 intro pins s σ H xs us Q I r h;obtain ⟨i,j,rfl,q⟩:=h;obtain ⟨u,w',rfl,⟨t,rfl⟩,⟨t',rfl⟩⟩:=vals2 r;refine min_two_ints (I.ok.hd hc) λh' tk k=>⟨_,H,I.kept k,?_,q⟩;by_cases hj:j<i
 ·rw[if_pos hj,if_pos hj];exact ⟨_,rfl⟩
 ·rw[if_neg hj,if_neg hj];exact ⟨_,rfl⟩
theorem Iz:CallR X (.type "int") (λxs H Q=>(∃i,xs=[.int i]/\Q (.int i) H)\/∃k,xs=[.bl k]/\Q (.int (if k then 1 else 0)) H):=by
 intro pins s σ H xs us Q I r h;rcases h with⟨i,rfl,q⟩ | ⟨k,rfl,q⟩
 ·obtain ⟨u,rfl,t,rfl⟩:=vals1 r
  exact call_int_int ⟨.int i,H,I,⟨_,rfl⟩,q⟩
 ·obtain ⟨u,rfl,r1⟩:=vals1 r
  cases r1;exact call_int_bool ⟨.int (if k then 1 else 0),H,I.tok _,⟨_,rfl⟩,q⟩
end
structure ObjM(h:Heap)(x dx C:Addr)(mA:Str->Option Ap):Prop where
 obj:h.get? x=some (E3 C dx)
 ns:h.Ns1 dx mA
 ne:dx≠x
set_option tactic.hygienic true in
theorem Vr{h:Heap}{dx:Addr}{mA:Str->Option Ap}(n:h.Ns1 dx mA):∃od,h.get? dx=some od/\∀name,Lv name od=some (mA name):=by
 obtain ⟨o,es,ep,ho,hd,hk,_,hm⟩:=n;refine ⟨o,ho,λname=>?_⟩;have e:=hm name;unfold nsFind findBy at e;rw[<- Array.find?_toList] at e;unfold Lv;rw[hd];dsimp only;split
 ·rename_i y q
  rw[q] at e;exact congrArg some e
 ·rename_i q
  rw[q] at e;have a:es.toList.any (·.refKey)=false:=by
   rw[List.any_eq_false];intro y hy;obtain ⟨z,t,hkey⟩:=hk y (Array.mem_toList_iff.mp hy);simp[DictEntry.refKey,hkey]
  have a':¬ es.toList.any (·.refKey)=true:=by rw[a];exact BA
  rw[if_neg a'];exact congrArg some e
theorem ObjM.look{h:Heap}{x dx C:Addr}{mA:Str->Option Ap}(I:ObjM h x dx C mA):∃od,PySem.W.InstAt h x (E3 C dx) C (some od)/\∀name,Lv name od=some (mA name) :=
 let ⟨od,ho,hl⟩:=Vr I.ns
 ⟨od,⟨I.obj,rfl,rfl,ho⟩,hl⟩
section
variable{prog:AL}{w:AQ}{A:BS}{E:Ap->AA->Prop}{s:AA}{K:Au}{x dx C f:Addr}{mA:Str->Option Ap}{name:Str}{v:Ap}
theorem get_map{expr:Bool}{Q:Ap->AA->Prop}(X:K.In s.heap)(I:ObjM s.heap x dx C mA)(hg:ES K C name=true)(hh:FC K C=true)
  (ha:AU K (.ref C) name=some none) (hv:mA name=some v) (hv':Q4 v=true) (h:Q v {s with toks:=s.toks+1}) :
  wpAny (AO prog w) A (getAttr (.ref x) name expr) Q E s:=by
 obtain ⟨od,J,hl⟩:=I.look;exact PySem.W.get_value X J (Ll hg).1 (PySem.W.findObj_own hh ha rfl (by rw[hl,hv])) hv' h
theorem ZV{pl:Sem Bool}{Q:Ap×List Ap->AA->Prop}(X:K.In s.heap)(I:ObjM s.heap x dx C mA)(hg:ES K C name=true)
  (hf:AU K (.ref C) name=some (some (.ref f))) (ht:C0 K (.ref f)=true) (hv:mA name=none) (h:Q (.ref f,[.ref x]) s) :
  wpAny (AO prog w) A (Pf (.ref x) name pl) Q E s:=by
 obtain ⟨od,J,hl⟩:=I.look;exact PySem.W.method_fn X J (Ll hg).1 (Ll hg).2 hf (beq_iff_eq.mp ht) (by show (Lv name od).map (·.isSome)=some false;rw[hl,hv];rfl) h
theorem ABK{ns:List Str}{Q:Unit->AA->Prop}(X:K.In s.heap)(I:ObjM s.heap x dx C mA)
  (hs:AU K (.ref C) "__setattr__" = some (some (.builtin "object.__setattr__"))) (hp:F9 K C=true) (ht:Nl K C name=some none) (hh:FC K C=true)
  (hw:Pc mA ns) (hsz:ns.length<=sizeLine)
  (h:∀h',ObjM h' x dx C (λy=>if y=name then some v else mA y)->D6 dx s.heap h'->Q () {s with heap:=h',toks:=s.toks+2}) :
  wpAny (AO prog w) A (setAttr (.ref x) name v) Q E s:=by
 obtain ⟨od,J,hl⟩:=I.look;refine PySem.W.set_plain X J hs (PySem.W.osa_open (s:={s with toks:=s.toks+1}) (r:=none) X J hp ht λb=>?_);obtain ⟨cd,hc,hd'⟩:=PySem.W.any_some hh;have hx:s.heap.get? x=some ⟨.ref C,some dx,.plain,#[]⟩:=I.obj;refine As (wpAny_pure (As (As (wpAny_loadPart hx (As (V1 (s:={s with toks:=s.toks+1}) (PySem.W.looks_clsIn X hc) ?_))))));rw[hd'];refine wpAny_pure (a:=some dx) (As (wpAny_pure (As ?_)));refine wpAny_nsSet1 (s:={s with toks:=s.toks+1}) I.ns λh' hn2 hs2=>?_;obtain ⟨oD,esD,epD,hoD,hdD,hcD⟩:=hn2.count (V6 name v hw);refine As (wpAny_lookBehind hoD (by rw[hdD];exact pastItsLine_dict (BM hcD (by rw[DI];lia))) ?_);exact wpAny_pure (h _ ⟨(hs2.2 _ (C6 I.ne)).trans I.obj,hn2,I.ne⟩ hs2)
theorem Yj{R:R0->AA->Prop}{vs:List Ap}{kw:List (Str×Ap)}(X:K.In s.heap)(hm:HK K C=true)
  (hi:AU K (.ref C) "__init__" = some (some (.ref f))) (hf:PySem.W.typeIn K (.ref f)=some (.type "function"))
  (h:codeAny (AO prog w) (A.under (.builtin "type.__call__" ⟨.ref C::vs,kw⟩)) (.call (.ref f) ⟨.ref (s.heap.objs.size+1)::vs,kw⟩) (PySem.W.InitBack (s.heap.objs.size+1) R)
   {s with heap:=(s.heap.push D9).push (E3 C s.heap.objs.size)}) :
  codeAny (AO prog w) A (.call (.ref C) ⟨vs,kw⟩) R s:=by
 obtain ⟨hh,g,d,t,os⟩:=s;exact PySem.W.make_core (PySem.W.makes_of X hm) (PySem.W.looks_findIn X hi) (λself=>PySem.W.bind_fn X self hf) (.inl rfl) h
end
def putF(f:Str)(v:V):List (Str×V)->List (Str×V)
 | []=>[(f,v)]
 | (g,x)::r=>if g=f then (g,v)::r else (g,x)::putF f v r
theorem Ag(f g:Str)(v:V):∀fs:List (Str×V),(putF f v fs).lookup g=if g=f then some v else fs.lookup g
 | []=>by
  show ED g [(f,v)]=_;by_cases h:g=f
  ·have hb:(g==f)=true:=beq_iff_eq.mpr h
   simp only[ED,hb,if_pos h]
  ·have hb:(g==f)=false:=beq_eq_false_iff_ne.mpr h
   simp only[ED,hb,if_neg h]
 | (k,x)::r=>by
  have ih:=Ag f g v r;rw[show putF f v ((k,x)::r)=(if k=f then (k,v)::r else (k,x)::putF f v r) from rfl];by_cases hk:k=f
  ·rw[if_pos hk]
   by_cases h:g=k
   ·have hb:(g==k)=true:=beq_iff_eq.mpr h
    simp only[ED,hb,if_pos (h.trans hk)]
   ·have hb:(g==k)=false:=beq_eq_false_iff_ne.mpr h
    simp only[ED,hb,if_neg (λe:g=f=>h (e.trans hk.symm))]
  ·rw[if_neg hk]
   by_cases h:g=k
   ·have hb:(g==k)=true:=beq_iff_eq.mpr h
    simp only[ED,hb,if_neg (λe:g=f=>hk (h.symm.trans e))]
   ·have hb:(g==k)=false:=beq_eq_false_iff_ne.mpr h
    simp only[ED,hb];exact ih
theorem Il(f:Str)(v:V):∀fs:List (Str×V),f∈(putF f v fs).map (·.1)/\∀g,g∈fs.map (·.1)->g∈(putF f v fs).map (·.1)
 | []=>⟨by simp[putF],λg h=>by simp at h⟩
 | (k,x)::r=>by
  obtain ⟨i1,i2⟩:=Il f v r;rw[show putF f v ((k,x)::r)=(if k=f then (k,v)::r else (k,x)::putF f v r) from rfl];by_cases hk:k=f
  ·rw[if_pos hk]
   subst hk;exact ⟨by simp,λg h=>by simpa using h⟩
  ·rw[if_neg hk]
   refine ⟨?_,λg h=>?_⟩
   ·rw[BO]
    exact AG _ i1
   ·rw[BO] at h ⊢
    rcases Bz.mp h with e | e
    ·exact Bz.mpr (.inl e)
    ·exact AG _ (i2 g e)
theorem JG(f:Str)(v:V):∀fs:List (Str×V),(putF f v fs).length<=fs.length+1
 | []=>by simp[putF]
 | (k,x)::r=>by
  have ih:=JG f v r;rw[show putF f v ((k,x)::r)=(if k=f then (k,v)::r else (k,x)::putF f v r) from rfl];by_cases hk:k=f
  ·rw[if_pos hk,DI,DI];lia
  ·rw[if_neg hk,DI,DI];lia
theorem RelO.some_of{v:V}{o:Option Ap}(r:RelO (some v) o):∃u,o=some u/\RelV v u:=by
 cases o with
 | none=>exact (show False from r).elim
 | some u=>exact ⟨u,rfl,r⟩
theorem RelO.none_of{o:Option Ap}(r:RelO none o):o=none:=by
 cases o with
 | none=>rfl
 | some u=>exact (show False from r).elim
theorem Wn{v:V}{u:Ap}(r:RelV v u):Q4 u=true:=by
 cases v with
 | non=>cases (show u=CL from r);rfl
 | bl b=>cases (show u=RF b from r);rfl
 | int i=>obtain ⟨t,e⟩:=(show ∃t,u=KI i t from r);cases e;rfl
 | str x=>obtain ⟨t,e⟩:=(show ∃t,u=O7 x t from r);cases e;rfl
 | byt b=>obtain ⟨t,e⟩:=(show ∃t,u=VC b t from r);cases e;rfl
 | flt b=>obtain ⟨t,e⟩:=(show ∃t,u=VE b t from r);cases e;rfl
 | ref a=>cases (show u=AT a from r);rfl
 | ty n=>cases (show u=D4 n from r);rfl
section
variable{P:AL}{w:AQ}{H H':Hp}{h h':Heap}{a C dx:Addr}{fs fs':List (Str×V)}
theorem PK(hok:HOk P w H h)(e:H a=some (.ins C dx fs)):∃mA,ObjM h a dx C mA/\(∀f,RelO (fs.lookup f) (mA f))/\Pc mA (fs.map (·.1))/\fs.length<=1000/\H dx=some (.own a):=by
 obtain ⟨d,z,ne,ob,mA,n,r,q⟩:=(show ObjOk P w H h a (.ins C dx fs) from hok a _ e);exact ⟨mA,⟨ob,n,ne⟩,r,q,z,d⟩
end
structure Cls(K:Au)(C:Addr):Prop where
 pg:ES K C Nn=true
 hd:FC K C=true
 po:F9 K C=true
 sa:AU K (.ref C) "__setattr__" = some (some (.builtin "object.__setattr__"))
theorem Cls.get{K:Au}{C:Addr}(c:Cls K C)(f:Str):ES K C f=true:=c.pg
def NoAttr(K:Au)(C:Addr)(f:Str):Prop:=AU K (.ref C) f=some none
theorem NoAttr.taker{K:Au}{C:Addr}{f:Str}(n:NoAttr K C f):Nl K C f=some none:=by
 unfold Nl;rw[show AU K (.ref C) f=some none from n];rfl
structure Meth(K:Au)(C:Addr)(m:Str)(f:Addr):Prop where
 at_:AU K (.ref C) m=some (some (.ref f))
 fn:C0 K (.ref f)=true
 kp:AK K (.ref f)=true
section
variable{X:Cx}{pins:List (Addr×Obj)}{σ:St}{H:Hp}{s:AA}{a C dx:Addr}{fs:List (Str×V)}{f:Str}{v:V}{A:BS}{E:Ap->AA->Prop}
theorem RV{b:Bool}{Q:Ap->AA->Prop}(I:Inv X pins σ H s)(e:H a=some (.ins C dx fs))(c:Cls X.K C)(n:NoAttr X.K C f)(l:fs.lookup f=some v)
  (h:∀u s',Inv X pins σ H s'->RelV v u->Q u s'):wpAny (AO X.prog X.w) A (getAttr (.ref a) f b) Q E s:=by
 obtain ⟨mA,O,r,_,_,_⟩:=PK I.hok e;obtain ⟨u,hu,ru⟩:=RelO.some_of (v:=v) (o:=mA f) (by rw[<- l];exact r f);exact get_map I.kIn O (c.get f) c.hd n hu (Wn ru) (h u _ (I.tok _) ru)
theorem Ji{m:Str}{g:Addr}{pl:Sem Bool}{Q:Ap×List Ap->AA->Prop}(I:Inv X pins σ H s)(e:H a=some (.ins C dx fs))(c:Cls X.K C)(k:Meth X.K C m g)(l:fs.lookup m=none)
  (h:Q (.ref g,[.ref a]) s):wpAny (AO X.prog X.w) A (Pf (.ref a) m pl) Q E s:=by
 obtain ⟨mA,O,r,_,_,_⟩:=PK I.hok e;have hn:mA m=none:=RelO.none_of (by rw[<- l];exact r m);exact ZV I.kIn O (c.get m) k.at_ k.fn hn h
theorem Rm{y:V}{u:Ap}{Q:Unit->AA->Prop}(I:Inv X pins σ H s)(e:H a=some (.ins C dx fs))(c:Cls X.K C)(n:NoAttr X.K C f)(hl:fs.length<1000)(ry:RelV y u)
  (h:∀s',Inv X pins σ (upd H a (.ins C dx (putF f y fs))) s'->Q () s'):wpAny (AO X.prog X.w) A (setAttr (.ref a) f u) Q E s:=by
 obtain ⟨mA,O,r,wi,_,ho⟩:=PK I.hok e;have hz:(fs.map (·.1)).length<=sizeLine:=by rw[AE,EZ];lia
 refine ABK I.kIn O c.sa c.po n.taker c.hd wi hz λh' O' sb=>h _ ?_;have hd:∃o,h'.get? dx=some o:=let ⟨o,_,_,e',_⟩:=O'.ns;⟨o,e'⟩
 refine I.write (x:=a) (e:=dx) (by rw[e];exact GH) (.inr ho) (λb q hb z=>(sb.2 b hb).trans z) hd ?_;refine ⟨by rw[Ae O.ne];exact ho,?_,O.ne,O'.obj,_,O'.ns,λg=>?_,λg hg=>?_⟩
 ·have:=JG f y fs;lia
 ·show RelO ((putF f y fs).lookup g) (if g=f then some u else mA g)
  rw[Ag];by_cases q:g=f
  ·rw[if_pos q,if_pos q];exact ry
  ·rw[if_neg q,if_neg q];exact r g
 ·by_cases q:g=f
  ·rw[q];exact (Il f y fs).1
  ·refine (Il f y fs).2 g (wi g λz=>hg ?_)
   show (if g=f then some u else mA g)=none;rw[if_neg q];exact z
theorem Inv.made(I:Inv X pins σ H s):Inv X pins σ (upd (upd H s.heap.objs.size (.own (s.heap.objs.size+1))) (s.heap.objs.size+1) (.ins C s.heap.objs.size []))
  {s with heap:=(s.heap.push D9).push (E3 C s.heap.objs.size)}:=by
 have e1:(s.heap.push D9).get? s.heap.objs.size=some D9:=AW s.heap rfl;have e2:((s.heap.push D9).push (E3 C s.heap.objs.size)).get? (s.heap.objs.size+1)=some (E3 C s.heap.objs.size):=by
  have:=AW (s.heap.push D9) (o:=E3 C s.heap.objs.size) rfl
  rwa [EU] at this
 have e3:(s.heap.push D9).Ns s.heap.objs.size (λ_=>none):=⟨D9,#[],_,e1,rfl,(λe he=>absurd he (by simp)),λ_=>rfl⟩;have I1:=I.laid (a:=s.heap.objs.size) (o:=.own (s.heap.objs.size+1)) (h':=s.heap.push D9) (t':=s.toks) (λb u q=>AJ _ q) (AF _) ⟨_,e1⟩;refine I1.laid (a:=s.heap.objs.size+1) (o:=.ins C s.heap.objs.size []) (t':=s.toks) (λb u q=>AJ _ q) (KW (EU _ _)) ?_;have ne:s.heap.objs.size≠s.heap.objs.size+1:=B2 (G6 _);refine ⟨by rw[Ae ne,Ab],BH _,ne,e2,λ_=>none,(Heap.Ns1.of_empty e3).at λo q=>AJ _ q,λ_=>GH,λy hy=>absurd rfl hy⟩
theorem AAZ{prog:AL}{w:AQ}{env:Env}{e:Expr}{f:Str}{pos:Pos}{s:AA}{Q:Ap->AA->Prop}(hb:L4 e f env (eval e env)=eval e env)
  (h:wpAny (AO prog w) A (eval e env) (λo s₁=>wpAny (AO prog w) A (getAttr o f true) Q E s₁) E s):wpAny (AO prog w) A (eval (.Attribute e f pos) env) Q E s :=
 Attribute_any_ h (by rw[arm_eval_Attribute,hb])
end
def ADZ(K:Au)(ta:TE)(f:Str):TE:=λσ H Q=>ta σ H λx H1=>E5 λa C dx fs v=>A6 (x=.ref a) (H1 a=some (.ins C dx fs)) (Cls K C) (NoAttr K C f) (fs.lookup f=some v) (Q v H1)
def ADi(K:Au)(ta tv:TE)(f:Str):TS:=λD σ H=>tv σ H λy H1=>ta σ H1 λx H2=>∃a C dx fs,x=.ref a/\H2 a=some (.ins C dx fs)/\Cls K C/\NoAttr K C f/\fs.length<1000 /\
 D.nx σ (upd H2 a (.ins C dx (putF f y fs)))
section
variable{X:Cx}{o e value:Expr}{f:Str}{pos pos' tpos:Pos}{ta tv:TE}
theorem Bd(he:PE X e ta)(hb:L4 e f X.env (eval e X.env)=eval e X.env):PE X (.Attribute e f pos) (ADZ X.K ta f):=by
 intro pins s σ H Q I h;refine AAZ hb (thn (he pins s σ H _ I h) λu s1 ⟨x,H1,I1,rx,a,C,dx,fs,v,ex,ea,c,n,l,q⟩=>?_);subst ex;obtain rfl:u=AT a:=rx;exact RV I1 ea c n l λu' s2 I2 ru=>⟨v,H1,I2,ru,q⟩
theorem DG(ha:PE X o ta)(hv:PE X value tv)(hs:LP value (some (.Attribute o f pos')) pos.line X.env=pure false):PS X (.Assign [.Attribute o f pos'] value pos) (ADi X.K ta tv f):=by
 intro pins s σ H D I h;refine plainObj_wpAny_Assign_Attribute (thn (hv pins s σ H _ I h) λu s1 ⟨y,H1,I1,ry,q⟩=>thn (ha pins s1 σ H1 _ I1 q) λov s2 ⟨x,H2,I2,rx,a,C,dx,fs,ex,ea,c,n,l,q2⟩=>?_) hs;subst ex;obtain rfl:ov=AT a:=rx;exact Rm I2 ea c n l ry λs3 I3=>⟨σ,_,I3,q2⟩
end
structure Room(k:Nat)(A:BS):Prop where
 hd:A.handled=none
 dp:A.depth+3*k+5<SK
 un:A.units+16*k+200<C2
 gd:A.guards=some []
theorem Room.mono{j k:Nat}{A:BS}(r:Room k A)(h:j<=k):Room j A:=⟨r.hd,by have:=r.dp;lia,by have:=r.un;lia,r.gd⟩
theorem Room.deeper{k:Nat}{A:BS}(r:Room (k+1) A)(env:Env):Room k (A.deeper env) :=
 ⟨r.hd,by have:=r.dp;show A.depth+1+3*k+5<_;lia,by have:=r.un;show A.units+3+16*k+200<_;lia,r.gd⟩
theorem Sd{A:BS}{C:Addr}{us:List Ap}{kw:List (Str×Ap)}:(A.under (.builtin "type.__call__" ⟨.ref C::us,kw⟩)).depth=A.depth+1:=by
 first | rfl | simp[MT,Code.weight,Code.isCreation,Code.isGuard,Code.isCaller,VS,Pl,guardIds]
theorem Sg{A:BS}{C:Addr}{us:List Ap}{kw:List (Str×Ap)}:(A.under (.builtin "type.__call__" ⟨.ref C::us,kw⟩)).units=A.units+1:=by
 first | rfl | simp[MT,Code.cUnits,VS,Pl]
theorem Ql{A:BS}{C:Addr}{us:List Ap}{kw:List (Str×Ap)}(hg:A.guards=some []):(A.under (.builtin "type.__call__" ⟨.ref C::us,kw⟩)).guards=some []:=by
 have h:(Code.builtin "type.__call__" ⟨.ref C::us,kw⟩).isGuard=false:=by
  show guardIds.contains "type.__call__" = false;decide +kernel
 simp[MT,Code.guards,h,pushGuards,hg]
theorem Room.make{k:Nat}{A:BS}(r:Room (k+1) A)(C:Addr)(us:List Ap)(kw:List (Str×Ap)):Room k (A.under (.builtin "type.__call__" ⟨.ref C::us,kw⟩)) :=
 ⟨r.hd,by have:=r.dp;rw[Sd];lia,by have:=r.un;rw[Sg];lia,Ql r.gd⟩
theorem Room.depth{k:Nat}{A:BS}(r:Room k A):A.depth<SK:=by have:=r.dp;lia
theorem Room.units{k:Nat}{A:BS}(r:Room k A):A.units+64<C2:=by have:=r.un;lia
def ACi:TA:=λ_ H Q=>Q [] H
def ADR(ta:TE)(tr:TA):TA:=λσ H Q=>ta σ H λx H1=>tr σ H1 λxs H2=>Q (x::xs) H2
section
variable{X:Cx}{e:Expr}{es:List Expr}{te:TE}{t:TA}{pos:Pos}
theorem Af:PA X [] ACi:=λ_ _ _ _ H Q I h=>J9 ⟨[],H,I,.nil,h⟩
theorem Aa(ha:PE X e te)(hr:PA X es t)(hs:Cf (e::es) X.env=(false,eval e X.env)::Cf es X.env:=by rfl):PA X (e::es) (ADR te t):=by
 intro pos pins s σ H Q I h;rw[hs];show wpAny _ _ (SG ((false,eval e X.env)::G5 pos (Cf es X.env))) _ _ s;refine HL (thn (ha pins s σ H _ I h) λu s1 ⟨x,H1,I1,r1,q1⟩=>?_);exact thn (hr pos pins s1 σ H1 _ I1 q1) λus s2 ⟨xs,H2,I2,r2,q2⟩=>⟨x::xs,H2,I2,.cons r1 r2,q2⟩
def ADe(t:TA):TE:=λσ H Q=>t σ H λxs H1=>xs.length<=sizeLine/\∀p,H1 p=none->Q (.ref p) (upd H1 p (.tup xs))
def ADj(t:TA):TE:=λσ H Q=>t σ H λxs H1=>xs.length<=sizeLine/\∀p,H1 p=none->Q (.ref p) (upd H1 p (.lst xs))
theorem Cd{x1}(h:PA X es t):PE X (.Tuple es x1 pos) (ADe t):=by
 intro pins s σ H Q I hq;refine wpAny_Tuple_spliced (thn (h pos pins s σ H _ I hq) λus s1 ⟨xs,H1,I1,r,z,q⟩=>⟨by rw[<- r.length];exact z,?_⟩);have hf:H1 s1.heap.objs.size=none:=I1.hok.fresh (AF _);refine ⟨.ref s1.heap.objs.size,upd H1 s1.heap.objs.size (.tup xs),I1.laid (t':=s1.toks) (λb u e=>AJ _ e) (AF _) ?_,rfl,q _ hf⟩;exact ⟨z,us,r,⟨_,AW _ rfl,rfl,_,rfl⟩⟩
theorem Dq(h:PA X es t):PE X (.List es pos) (ADj t):=by
 intro pins s σ H Q I hq;refine wpAny_List_spliced (thn (h pos pins s σ H _ I hq) λus s1 ⟨xs,H1,I1,r,z,q⟩=>⟨by rw[<- r.length];exact z,?_⟩);have hf:H1 s1.heap.objs.size=none:=I1.hok.fresh (AF _);refine ⟨.ref s1.heap.objs.size,upd H1 s1.heap.objs.size (.lst xs),I1.laid (t':=s1.toks) (λb u e=>AJ _ e) (AF _) ?_,rfl,q _ hf⟩;exact ⟨z,us,0,r,AW _ rfl⟩
end
abbrev Sp:=List V->Hp->VK->XK->Prop
abbrev CXT:=List Env->Hp->AA->XK->Ap->AA->Prop
structure Env0(P:AL)(w:AQ)(K:Au)(mg:Str->Option Ap)(base:Heap)(A:BS)(outer:List Env)(s:AA)(H:Hp):Prop where
 frames:A.frames=some outer
 mod:Mod K mg base
 bs:∀b o,base.get? b=some o->s.heap.get? b=some o/\H b=none
 bsz:base.objs.size<=s.heap.objs.size
 funs:s.heap.FunFrames base outer
 frf:∀b∈frs outer,H b=none
 hok:HOk P w H s.heap
 bare:J3 s.gens
def CE(outer:List Env)(P:AL)(w:AQ)(H:Hp)(s:AA)(Q:VK)(u:Ap)(s':AA):Prop :=
 ∃v H',s'.os=s.os/\J3 s'.gens/\Un (frs outer) [] H H' s.heap s'.heap/\HOk P w H' s'.heap/\RelV v u/\Q v H'
def CR(CX:CXT)(outer:List Env)(P:AL)(w:AQ)(H:Hp)(s:AA)(Q:VK)(E:XK)(r:R0)(s':AA):Prop :=
 match r with
 | .ok (.ret u)=>CE outer P w H s Q u s'
 | .ok _=>False
 | .error e=>CX outer H s E e s'
structure FnOk(P:AL)(w:AQ)(K:Au)(mg:Str->Option Ap)(base:Heap)(CX:CXT)(k:Nat)(f:Addr)(fd:BV)(ps:List Str)(sp:Sp):Prop where
 len:∀vs H Q E,sp vs H Q E->vs.length=ps.length
 run:∀(A:BS) (outer:List Env) (s:AA) (H:Hp) (args:Args) (us:List Ap) (vs:List V) (Q:VK) (E:XK),Room k A->Env0 P w K mg base A outer s H->N6 s fd args (ps.zip us)->Vals vs us->sp vs H Q E ->
  codeAny (AO P w) A (.call (.ref f) args) (CR CX outer P w H s Q E) s
theorem Env0.make{P:AL}{w:AQ}{K:Au}{mg:Str->Option Ap}{base:Heap}{A:BS}{outer:List Env}{s:AA}{H:Hp}(e:Env0 P w K mg base A outer s H)(C:Addr)(us:List Ap)(kw:List (Str×Ap)) :
  Env0 P w K mg base (A.under (.builtin "type.__call__" ⟨.ref C::us,kw⟩)) outer s H:=⟨by first | exact e.frames | (simpa [MT,Code.envs,Pl,pushEnvs] using e.frames),e.mod,e.bs,e.bsz,e.funs,e.frf,e.hok,e.bare⟩
section
variable{X:Cx}{pins:List (Addr×Obj)}{σ:St}{H:Hp}{s s':AA}
theorem Inv.env0(I:Inv X pins σ H s):Env0 X.prog X.w X.K X.mg X.base X.A X.stack s H :=
 ⟨I.ok.frames,I.ok.mod,I.bs,BM I.ok.bsz I.sz,I.stack,I.stkFree,I.hok,I.bare⟩
theorem Inv.after{Q:VK}{u:Ap}(I:Inv X pins σ H s)(h:CE X.stack X.prog X.w H s Q u s'):EP X pins σ Q u s':=by
 obtain ⟨v,H',os,bare,un,hok,r,q⟩:=h;obtain ⟨hh,g,d,t,os'⟩:=s';obtain rfl:os'=s.os:=os;exact ⟨v,H',I.call (h':=hh) (g':=g) (d':=d) (t':=t) (ch:=[]) un hok bare (λb z=>absurd z (by simp)),r,q⟩
end
def ADV(sp:Sp)(dvs:List V)(E:XK)(t:TA):TE:=λσ H Q=>t σ H λvs H1=>sp (vs++dvs) H1 Q E
def ABU(C:Addr)(m:Str)(sp:Sp)(dvs:List V)(E:XK)(ta:TE)(t:TA):TE:=λσ H Q=>ta σ H λx H1=>∃a dx fs,x=.ref a/\H1 a=some (.ins C dx fs)/\fs.lookup m=none /\
 t σ H1 λvs H2=>sp (x::(vs++dvs)) H2 Q E
def ADG(C:Addr)(sp:Sp)(dvs:List V)(E:XK)(t:TA):TE:=λσ H Q=>t σ H λvs H1=>∀x dx,H1 x=none->H1 dx=none->dx≠x ->
 sp (.ref x::(vs++dvs)) (upd (upd H1 dx (.own x)) x (.ins C dx [])) (λv H2=>v=.non/\Q (.ref x) H2) E
def Binds(K:Au)(fd:BV)(ps:List Str)(ds:List Ap):Prop :=
 ∀(s:AA) (us:List Ap),K.In s.heap->(us++ds).length=ps.length->N6 s fd ⟨us,[]⟩ (ps.zip (us++ds))
theorem Binds.all{K:Au}{fd:BV}{ps:List Str}(h:∀us:List Ap,us.length=ps.length->UR fd ⟨us,[]⟩=pure (ps.zip us)):Binds K fd ps []:=λs us _ hl=>by
 rw[B9] at hl ⊢;exact .of_eq (h us hl)
def Passes(CX:CXT)(X:Cx)(E:XK):Prop:=∀(pins:List (Addr×Obj)) (σ:St) (H:Hp) (s:AA) (e:Ap) (s':AA),Inv X pins σ H s->CX X.stack H s E e s'->X.xe e s'
section
variable{X:Cx}{CX:CXT}{k:Nat}{f C:Addr}{fd:BV}{ps:List Str}{sp:Sp}{dvs:List V}{ds:List Ap}{E:XK}{x m:Str}{p pos apos:Pos}{e o:Expr}{es:List Expr}{ta:TE}{t:TA}
theorem Rk{pins:List (Addr×Obj)}{σ:St}{H:Hp}{s:AA}{Q:VK}{us:List Ap}{vs:List V}(F:FnOk X.prog X.w X.K X.mg X.base CX k f fd ps sp)(hr:Room k X.A)(hb:Binds X.K fd ps ds)(hd:Vals dvs ds)(hx:Passes CX X E)
  (I:Inv X pins σ H s) (r:Vals vs us) (h:sp (vs++dvs) H Q E):wpAny (AO X.prog X.w) X.A (call (.ref f) us) (EP X pins σ Q) X.xe s:=by
 have r2:Vals (vs++dvs) (us++ds):=r.append hd;have hl:(us++ds).length=ps.length:=by rw[<- r2.length];exact F.len _ _ _ _ h
 refine R6 (E9 (F.run X.A X.stack s H ⟨us,[]⟩ (us++ds) (vs++dvs) Q E hr I.env0 (hb s us I.kIn hl) r2 h) λr s' hq=>?_);cases r with
 | error e=>exact hx pins σ H s e s' I hq
 | ok fl =>
  cases fl with
  | ret u=>exact I.after hq
  | next=>exact Ee hq
  | brk=>exact Ee hq
  | cont=>exact Ee hq
theorem BL(F:FnOk X.prog X.w X.K X.mg X.base CX k f fd ps sp)(hr:Room k X.A)(hg:Gl X x)(hm:X.mg x=some (.ref f))(hk:AK X.K (.ref f)=true)(hb:Binds X.K fd ps ds)(hd:Vals dvs ds)(hx:Passes CX X E)
  (ha:PA X (e::es) t) (hdb:(x==("__debug__" : Str))=false:=by decide) (he:Cf (e::es) X.env=(false,eval e X.env)::Cf es X.env:=by rfl) (hpl:(G5 pos (Cf es X.env)).any (·.1)=false:=by rfl) :
  PE X (.Call (.Name x p) (e::es) [] pos) (ADV sp dvs E t):=by
 intro pins s σ H Q I h;refine FY (PL I hg hm ?_ hdb);refine LV (h₀:=X.base) I.ok.mod.kin hk (thn (ha pos pins s σ H _ I h) λus s1 ⟨vs,H1,I1,r,q⟩=>⟨I1.kIn,?_⟩) he hpl;exact Rk F hr hb hd hx I1 r q
theorem CV{pl:Sem Bool}(he:PE X o ta)(c:Cls X.K C)(hm:Meth X.K C m f)(F:FnOk X.prog X.w X.K X.mg X.base CX k f fd ps sp)(hr:Room k X.A)(hb:Binds X.K fd ps ds)(hd:Vals dvs ds)(hx:Passes CX X E)(ha:PA X (e::es) t)
  (hst:Cf (e::es) X.env=(false,eval e X.env)::Cf es X.env:=by rfl) (hpl:(G5 pos (Cf es X.env)).any (·.1)=false:=by rfl)
  (ht:eval (.Call (.Attribute o m apos) (e::es) [] pos) X.env=(do
   let ov <- eval o X.env
   standAt apos.atName
   let (f,first) <- P7 [ov] (Pf ov m pl)
   callWith pos f first (G5 pos (Cf (e::es) X.env)) (Q5 pos (NM [] X.env))):=by rfl) :
  PE X (.Call (.Attribute o m apos) (e::es) [] pos) (ABU C m sp dvs E ta t):=by
 intro pins s σ H Q I h;refine N7 (pl:=pl) (thn (he pins s σ H _ I h) λu s1 ⟨x,H1,I1,rx,a,dx,fs,ex,ea,l,q⟩=>?_) ht;subst ex;obtain rfl:u=AT a:=rx;refine Ji I1 ea c hm l ?_;refine LV (first:=[.ref a]) (h₀:=X.base) I.ok.mod.kin hm.kp (thn (ha pos pins s1 σ H1 _ I1 q) λus s2 ⟨vs,H2,I2,r,q2⟩=>⟨I2.kIn,?_⟩) hst hpl;exact Rk (us:=.ref a::us) (vs:=.ref a::vs) F hr hb hd hx I2 (.cons rfl r) q2
theorem Ek{pl:Sem Bool}(he:PE X o ta)(c:Cls X.K C)(hm:Meth X.K C m f)(F:FnOk X.prog X.w X.K X.mg X.base CX k f fd ps sp)(hr:Room k X.A)(hb:Binds X.K fd ps ds)(hd:Vals dvs ds)(hx:Passes CX X E)
  (ht:eval (.Call (.Attribute o m apos) [] [] pos) X.env=(do
   let ov <- eval o X.env
   standAt apos.atName
   let (f,first) <- P7 [ov] (Pf ov m pl)
   callWith pos f first (G5 pos (Cf [] X.env)) (Q5 pos (NM [] X.env))):=by rfl) :
  PE X (.Call (.Attribute o m apos) [] [] pos) (ABU C m sp dvs E ta ACi):=by
 intro pins s σ H Q I h;refine N7 (pl:=pl) (thn (he pins s σ H _ I h) λu s1 ⟨x,H1,I1,rx,a,dx,fs,ex,ea,l,q⟩=>?_) ht;subst ex;obtain rfl:u=AT a:=rx;refine Ji I1 ea c hm l ?_;exact PySem.W.callWith_K0 (first:=[.ref a]) I1.kIn hm.kp (Rk (us:=[.ref a]) (vs:=[.ref a]) F hr hb hd hx I1 (.cons rfl .nil) q)
structure Mk(K:Au)(C f:Addr):Prop where
 makes:HK K C=true
 init:AU K (.ref C) "__init__" = some (some (.ref f))
 fn:C0 K (.ref f)=true
 kp:AK K (.ref C)=true
theorem ZX{pins:List (Addr×Obj)}{σ:St}{H:Hp}{s:AA}{Q:VK}{us:List Ap}{vs:List V}(M:Mk X.K C f)(F:FnOk X.prog X.w X.K X.mg X.base CX k f fd ps sp)(hr:Room (k+1) X.A)(hb:Binds X.K fd ps ds)(hd:Vals dvs ds)
  (hx:Passes CX X E) (I:Inv X pins σ H s) (r:Vals vs us)
  (h:∀x dx,H x=none->H dx=none->dx≠x->sp (.ref x::(vs++dvs)) (upd (upd H dx (.own x)) x (.ins C dx [])) (λv H2=>v=.non/\Q (.ref x) H2) E) :
  wpAny (AO X.prog X.w) X.A (call (.ref C) us) (EP X pins σ Q) X.xe s:=by
 have hq:=h (s.heap.objs.size+1) s.heap.objs.size (I.hok.fresh (NN _)) (I.hok.fresh (AF _)) (B2 (G6 _));have I2:=Inv.made (C:=C) I;have r2:Vals (V.ref (s.heap.objs.size+1)::(vs++dvs)) (AT (s.heap.objs.size+1)::(us++ds)):=.cons rfl (r.append hd);have hl:(AT (s.heap.objs.size+1)::us++ds).length=ps.length:=by
  have e:=r2.length;rw[F.len _ _ _ _ hq] at e;exact e.symm
 refine R6 (Yj (f:=f) I.kIn M.makes M.init (beq_iff_eq.mp M.fn) (E9 (F.run _ X.stack _ _ ⟨AT (s.heap.objs.size+1)::us,[]⟩ (AT (s.heap.objs.size+1)::(us++ds)) _ _ E (hr.make C us [])
  (I2.env0.make C us []) (hb _ (AT (s.heap.objs.size+1)::us) I2.kIn hl) r2 hq) λr s' hq'=>?_))
 cases r with
 | error e=>exact hx pins σ _ _ e s' I2 hq'
 | ok fl =>
  cases fl with
  | ret u =>
   obtain ⟨v,H',I3,rv,ev,q3⟩:=I2.after hq';subst ev;exact ⟨rv,⟨V.ref (s.heap.objs.size+1),H',I3,rfl,q3⟩⟩
  | next=>exact Ee hq'
  | brk=>exact Ee hq'
  | cont=>exact Ee hq'
theorem Jd(M:Mk X.K C f)(F:FnOk X.prog X.w X.K X.mg X.base CX k f fd ps sp)(hr:Room (k+1) X.A)(hg:Gl X x)(hm:X.mg x=some (.ref C))(hb:Binds X.K fd ps ds)(hd:Vals dvs ds)(hx:Passes CX X E)
  (ha:PA X (e::es) t) (hdb:(x==("__debug__" : Str))=false:=by decide) (he:Cf (e::es) X.env=(false,eval e X.env)::Cf es X.env:=by rfl) (hpl:(G5 pos (Cf es X.env)).any (·.1)=false:=by rfl) :
  PE X (.Call (.Name x p) (e::es) [] pos) (ADG C sp dvs E t):=by
 intro pins s σ H Q I h;refine FY (PL I hg hm ?_ hdb);refine LV (h₀:=X.base) I.ok.mod.kin M.kp (thn (ha pos pins s σ H _ I h) λus s1 ⟨vs,H1,I1,r,q⟩=>⟨I1.kIn,?_⟩) he hpl;exact ZX M F hr hb hd hx I1 r q
end
structure FnScope(N P:List Str)(sc:E6):Prop where
 kind:sc.kind=.function
 co:sc.isCoroutine=false
 gen:sc.isGenerator=false
 nd:N.Nodup
 pre:N.take P.length=P
 par:∀x∈P,sc.names.lookup x=some .local\/sc.names.lookup x=some .cell
 nofree:∀y∈sc.names,y.2≠.free
theorem Ly{kindOf:Str->Option G7}{x:Str}:∀{binds:List (Str×Ap)}{m:Str->Option Ap},(∀v,(x,v)∉binds)->OL kindOf binds m x=m x
 | [],_,_=>rfl
 | (n,v)::r,m,h=>by
  unfold OL;rw[Ly λw hw=>h w (AG _ hw)];split
  ·have:x≠n:=by rintro rfl;exact h v AD
   simp[this]
  ·rfl
theorem Lf{kindOf:Str->Option G7}{x:Str}:∀{binds:List (Str×Ap)}{m:Str->Option Ap},(∀v,(x,v)∉binds)->OM kindOf binds m x=m x
 | [],_,_=>rfl
 | (n,v)::r,m,h=>by
  unfold OM;rw[Lf λw hw=>h w (AG _ hw)];split
  ·rfl
  ·have:x≠n:=by rintro rfl;exact h v AD
   simp[this]
theorem LK{kindOf:Str->Option G7}{x:Str}{v:Ap}:∀{P:List Str}{vs:List Ap}{i:Nat}{m:Str->Option Ap},P.Nodup->P[i]?=some x->vs[i]?=some v->kindOf x=some .local ->
  OL kindOf (P.zip vs) m x=some v
 | [],_,_,_,_,h,_,_=>by simp at h
 | _::_,[],_,_,_,_,h,_=>by simp at h
 | p::P,w::vs,0,m,nd,h1,h2,hk=>by
  simp at h1 h2;subst h1;subst h2;show OL kindOf ((p,w)::P.zip vs) m p=_;unfold OL;rw[Ly λv hv=>(C7.mp nd).1 (No hv).1,if_pos hk];simp
 | p::P,w::vs,i+1,m,nd,h1,h2,hk=>by
  show OL kindOf ((p,w)::P.zip vs) m x=_;unfold OL;exact LK (i:=i) (C7.mp nd).2 (by simpa using h1) (by simpa using h2) hk
theorem Ml{kindOf:Str->Option G7}{x:Str}{v:Ap}:∀{P:List Str}{vs:List Ap}{i:Nat}{m:Str->Option Ap},P.Nodup->P[i]?=some x->vs[i]?=some v->kindOf x≠some .local ->
  OM kindOf (P.zip vs) m x=some v
 | [],_,_,_,_,h,_,_=>by simp at h
 | _::_,[],_,_,_,_,h,_=>by simp at h
 | p::P,w::vs,0,m,nd,h1,h2,hk=>by
  simp at h1 h2;subst h1;subst h2;show OM kindOf ((p,w)::P.zip vs) m p=_;unfold OM;rw[Lf λv hv=>(C7.mp nd).1 (No hv).1,if_neg hk];simp
 | p::P,w::vs,i+1,m,nd,h1,h2,hk=>by
  show OM kindOf ((p,w)::P.zip vs) m x=_;unfold OM;exact Ml (i:=i) (C7.mp nd).2 (by simpa using h1) (by simpa using h2) hk
def start(N:List Str)(vs:List V):St:=vs.map some++B4 (N.length-vs.length) none
def cxOf(CX:CXT)(P:AL)(w:AQ)(K:Au)(mg:Str->Option Ap)(base:Heap)(N:List Str)(qual:Str)(scope:E6)(f:Addr)(cd:Ap)(A:BS)(outer:List Env)(s:AA)(H:Hp)(E:XK):Cx where
 prog:=P
 w:=w
 K:=K
 mg:=mg
 base:=base
 A:=A.deeper (K0 qual scope s.heap.objs.size f cd)
 N:=N
 s₀:=s
 H₀:=H
 env:=K0 qual scope s.heap.objs.size f cd
 outer:=outer
 stack:=K0 qual scope s.heap.objs.size f cd::outer
 ex:=[]
 calm:=true
 fn:=λ_=>true
 pn:=[]
 xe:=λe s'=>wpAny (AO P w) (A.deeper (K0 qual scope s.heap.objs.size f cd)) (leaving (K0 qual scope s.heap.objs.size f cd) e) (λ_ s''=>CX outer H s E e s'') (λe' s''=>CX outer H s E e' s'') s'
theorem Qw{sc:E6}{n:Nat}{x:Str}(h:sc.names.lookup x=some .cell):∃c,(S8 n sc.names []).lookup x=some c:=by
 have q:=NO sc.names n [] (.inl h);exact Fa.mp q
theorem Wm{CX:CXT}{P:AL}{w:AQ}{K:Au}{mg:Str->Option Ap}{base:Heap}{N ps:List Str}{qual:Str}{scope:E6}{f:Addr}{cd:Ap}{A:BS}{outer:List Env}{s s1:AA}{H:Hp}{E:XK}{us:List Ap}{vs:List V}
  (S:FnScope N ps scope) (hd:A.handled=none) (e0:Env0 P w K mg base A outer s H) (hl:vs.length=ps.length) (r:Vals vs us)
  (x:InCallC s s.heap.objs.size (OL (K0 qual scope s.heap.objs.size f cd).kindOf (ps.zip us) λ_=>none) (S8 (s.heap.objs.size+1) scope.names []) (OM (K0 qual scope s.heap.objs.size f cd).kindOf (ps.zip us) λ_=>none) s1) :
  Inv (cxOf CX P w K mg base N qual scope f cd A outer s H E) [] (start N vs) H s1:=by
 have hpl:ps.length<=N.length:=by have:=congrArg EQ S.pre;rw[BG] at this;lia
 obtain ⟨h1,tk,rfl,hk⟩:=x.done;have noA:∀b:Addr,b∉(cxOf CX P w K mg base N qual scope f cd A outer s H E).ex:=λb z=>absurd (show b∈([]:List Addr) from z) (by simp);refine ⟨⟨e0.mod,S.kind,rfl,rfl,AF _,λy z c h1 h2=>?_,λy hy=>?_,λy c _ h=>?_,λ_=>hd,Around.frames_deeper e0.frames,.inr ⟨rfl,rfl⟩,λb z=>absurd z (noA b),e0.bs,e0.bsz,λb _ _=>noA b,λb z=>absurd z (noA b),e0.funs,e0.frf⟩,
  rfl,e0.bare,Un.kept hk,⟨_,x.toInCall.ns,λi y v h1 h2 h3=>?_⟩,λy c h=>⟨_,x.cell y c h⟩,e0.hok.fresh (AF _),λy c h=>?_,λp hp=>absurd (show p∈([]:List (Addr×Obj)) from hp) (by simp),e0.hok.kept hk,?_⟩
 ·exact name_of_addr x.apart (FG h1) (FG h2)
 ·have hy:scope.names.lookup y=some .cell\/scope.names.lookup y=some .free:=hy
  rcases hy with hy | hy
  ·exact Qw hy
  ·exact absurd rfl (S.nofree _ (FG hy))
 ·exact De (x.above y c (FG h))
 ·have hi:i<vs.length:=by
   unfold start at h2;by_cases hi:i<vs.length
   ·exact hi
   ·rw[Cn (by simpa using hi)] at h2
    rw[HC] at h2;split at h2<;>cases h2
  have ha:vs[i]?=some v:=by
   unfold start at h2;rw[Bi (by simpa using hi),BI] at h2;cases e:vs[i]? with
   | none=>rw[e] at h2;cases h2
   | some a=>rw[e] at h2;cases h2;rfl
  obtain ⟨u,hu,rv⟩:=r.get ha;have hp:ps[i]?=some y:=by
   rw[<- S.pre,Fc (by lia)];exact h1
  have ndP:ps.Nodup:=by rw[<- S.pre];exact S.nd.sublist (Go _ _)
  refine ⟨u,rv,?_⟩;rcases S.par y (A8 hp) with k | k
  ·exact .inl ⟨k,LK ndP hp hu k⟩
  ·obtain ⟨c,e⟩:=Qw (n:=s.heap.objs.size+1) k
   refine .inr ⟨.inl k,c,e,?_⟩;have q:=x.cell y c e;rw[Ml ndP hp hu (by show scope.names.lookup y≠_;rw[k];decide)] at q;exact q
 ·exact e0.hok.fresh (De (x.above y c (FG h)))
 ·unfold start
  show _=N.length;rw[BC,AE,KM];lia
theorem ABT{CX:CXT}{P:AL}{w:AQ}{K:Au}{mg:Str->Option Ap}{base:Heap}{k:Nat}{f:Addr}{name qual:Str}{params:Arguments}{body:List Stmt}{scope:E6}{dV kV doc pm cdv ct oc:Ap}{an od:Option Addr}
  {osl:Array (Option Ap)}{N ps:List Str}{sp:Sp} (lk:K.lookup f=some ⟨oc,od,.func (BB name qual params body scope dV kV doc pm an cdv ct),osl⟩) (hcd:Be K cdv qual=true) (S:FnScope N ps scope)
  (len:∀vs H Q E,sp vs H Q E->vs.length=ps.length)
  (hbody:∀(A:BS) (outer:List Env) (s:AA) (H:Hp) (vs:List V) (Q:VK) (E:XK),Room k (A.deeper (K0 qual scope s.heap.objs.size f cdv))->sp vs H Q E ->
   ∃t,PSs (cxOf CX P w K mg base N qual scope f cdv A outer s H E) body t/\t {nx:=λ_ H'=>Q .non H',rt:=Q} (start N vs) H) :
  FnOk P w K mg base CX (k+1) f (BB name qual params body scope dV kV doc pm an cdv ct) ps sp:=by
 refine ⟨len,λA outer s H args us vs Q E hr e0 hb r hsp=>?_⟩;have hl:=len _ _ _ _ hsp;have KX:K.In s.heap:=e0.mod.kin.keeps λb o e=>(e0.bs b o e).1;have lim:s.heap.NoLimit:=e0.mod.nolimit.keeps λb o e=>(e0.bs b o e).1;have hkind:∀y∈ps.zip us,scope.names.lookup y.1=some .local\/(scope.names.lookup y.1=some .cell/\((S8 (s.heap.objs.size+1) scope.names []).lookup y.1).isSome=true):=λ⟨n,v⟩ hy=>by
  rcases S.par n (No hy).1 with q | q
  ·exact .inl q
  ·exact .inr ⟨q,NO _ _ _ (.inl q)⟩
 refine codeAny_call_function hr.depth (KX _ _ lk) rfl S.co S.gen rfl (PySem.W.codeRec_of KX hcd) (hb _ _ _ _ ?_);refine wpAny_newFunctionEnv_cells S.kind hkind λenv he s1 x=>?_;subst he;refine ⟨lim.keeps x.toInCall.keep,codeAny_func ?_⟩;obtain ⟨t,ht,hq⟩:=hbody A outer s H vs Q E (hr.deeper _) hsp;have I:Inv (cxOf CX P w K mg base N qual scope f cdv A outer s H E) [] (start N vs) H s1:=Wm S hr.hd e0 hl r x;refine D5 (ht [] s1 (start N vs) H _ I hq) (λfl s' hs=>?_) λe s' hs=>hs;have fin:∀{σ':St}{H':Hp}{v:V}{u:Ap},Inv (cxOf CX P w K mg base N qual scope f cdv A outer s H E) [] σ' H' s'->RelV v u->Q v H'->CE outer P w H s Q u s' :=
  λ{σ' H' v u} J rv q=>⟨v,H',J.os,J.bare,J.base,J.hok,rv,q⟩
 cases fl with
 | ret u =>
  obtain ⟨v,σ',H',J,rv,q⟩:=hs;exact fin J rv q
 | next =>
  obtain ⟨σ',H',J,q⟩:=hs;exact fin (v:=V.non) (u:=CL) J rfl q
 | brk =>
  obtain ⟨_,_,_,q⟩:=hs;exact Ee q
 | cont =>
  obtain ⟨_,_,_,q⟩:=hs;exact Ee q
section
variable{X:Cx}{x:Str}{p pos:Pos}{e:Expr}{es:List Expr}{t:TA}{id T:String}{r:List V->Hp->VK->Prop}
def tCB(r:List V->Hp->VK->Prop)(t:TA):TE:=λσ H Q=>t σ H λvs H1=>r vs H1 Q
theorem Bb(hc:CallR X (.builtin id) r)(hg:Gl X x)(hm:X.mg x=none)(hv:G4 x=some (.builtin id))(ha:PA X (e::es) t)(hn:x≠"__name__":=by decide)(hdb:(x==("__debug__" : Str))=false:=by decide)
  (he:Cf (e::es) X.env=(false,eval e X.env)::Cf es X.env:=by rfl) (hpl:(G5 pos (Cf es X.env)).any (·.1)=false:=by rfl):PE X (.Call (.Name x p) (e::es) [] pos) (tCB r t):=by
 intro pins s σ H Q I h;refine FY (Ep I hg hm hv ?_ hn hdb);exact K1 (thn (ha pos pins s σ H _ I h) λus s1 ⟨vs,H1,I1,r1,q1⟩=>hc pins s1 σ H1 vs us Q I1 r1 q1) he hpl
theorem Bt(hc:CallR X (.type T) r)(hg:Gl X x)(hm:X.mg x=none)(hv:G4 x=some (.type T))(ha:PA X (e::es) t)(hn:x≠"__name__":=by decide)(hdb:(x==("__debug__" : Str))=false:=by decide)
  (he:Cf (e::es) X.env=(false,eval e X.env)::Cf es X.env:=by rfl) (hpl:(G5 pos (Cf es X.env)).any (·.1)=false:=by rfl):PE X (.Call (.Name x p) (e::es) [] pos) (tCB r t):=by
 intro pins s σ H Q I h;refine FY (Ep I hg hm hv ?_ hn hdb);exact D2 (thn (ha pos pins s σ H _ I h) λus s1 ⟨vs,H1,I1,r1,q1⟩=>hc pins s1 σ H1 vs us Q I1 r1 q1) he hpl
end
end L2
namespace HT
open PySem PyProof.Rows
def lexLt:List Int->List Int->Bool
 | [],[]=>false
 | [],_::_=>true
 | _::_,[]=>false
 | x::xs,y::ys=>if x=y then lexLt xs ys else decide (x<y)
theorem CN(x y:Int)(xs ys:List Int):lexLt (x::xs) (y::ys)=if x=y then lexLt xs ys else decide (x<y):=rfl
section
variable{prog:AL}{w:AQ}{A:BS}{E:Ap->AA->Prop}{s:AA}
theorem ABN{t b:Addr}{vs ws:List Ap}{Q:Ap->AA->Prop}(ht:IsTup s.heap t vs.toArray)(hb:IsTup s.heap b ws.toArray)(hv:vs≠[])
  (h1:ws=[]->Q (.ref t) s) (h2:ws≠[]->Q (.ref s.heap.objs.size) {s with heap:=s.heap.push {cls:=.type "tuple",data:=.seq (vs++ws).toArray}})
  (hsz:vs.length+ws.length<=sizeLine):wpAny (AO prog w) A (FI .Add (.ref t) (.ref b)) Q E s:=by
 obtain ⟨⟨cls,dd,data,sl⟩,ho,hc,n,hd⟩:=id ht;obtain ⟨⟨cls2,dd2,data2,sl2⟩,ho2,hc2,n2,hd2⟩:=id hb;simp only at hc hd hc2 hd2;subst hc hd hc2 hd2;have e:vs.toArray++ws.toArray=(vs++ws).toArray:=by simp
 by_cases hw:ws=[]
 ·exact MU ⟨_,ho,rfl⟩ ⟨_,ho2,rfl⟩ MV OV Kx J6 (JS _ _)
   (tuple_addW1 t b vs.toArray ws.toArray n n2 dd dd2 sl sl2 (by simpa using hv) (by simp[hw])) ⟨ho,ho2,h1 hw⟩
 ·refine MU ⟨_,ho,rfl⟩ ⟨_,ho2,rfl⟩ MV OV Kx J6 (JS _ _)
   (tuple_addW2 t b vs.toArray ws.toArray n n2 dd dd2 sl sl2 (by simpa using hv) (by simpa using hw) (by rw[A7,A7];exact hsz)) ⟨ho,ho2,?_⟩
  rw[e];exact h2 hw
def sIx(n d:Nat):Option Int->Nat
 | none=>d
 | some v=>if v<0 then (v+(n:Int)).toNat else min v.toNat n
theorem Pk(n d:Nat):sIx n d none=d:=rfl
theorem Uw(n d k:Nat):sIx n d (some (k:Int))=min k n:=by
 show (if (k:Int)<0 then ((k:Int)+(n:Int)).toNat else min (k:Int).toNat n)=min k n;rw[if_neg (by lia),DO]
end
end HT
namespace L2
open PySem PySem.Spec PyProof.Rows
abbrev TO:=St->Hp->(Option Int->Hp->Prop)->Prop
def PO(X:Cx)(e:Option Expr)(t:TO):Prop :=
 ∀(pins:List (Addr×Obj)) (s:AA) (σ:St) (H:Hp) (Q:Option Int->Hp->Prop),Inv X pins σ H s->t σ H Q ->
  wpAny (AO X.prog X.w) X.A (evalPart e X.env) (λu s'=>∃o H',Inv X pins σ H' s'/\IsPart u o/\Q o H') X.xe s
def AAr:TO:=λ_ H Q=>Q none H
def ACx(t:TE):TO:=λσ H Q=>t σ H λx H1=>∃i,x=.int i/\Q (some i) H1
theorem intsAre_of{ns:List Int}:∀{us:List Ap},Vals (ns.map V.int) us->J4 us ns:=by
 induction ns with
 | nil=>intro us r;rw[MW] at r;cases r;exact .nil
 | cons n ns ih =>
  intro us r;rw[BO] at r;cases r with
  | cons r1 r2 =>
   obtain ⟨t,e⟩:=r1;subst e;exact .cons n t (ih r2)
section
variable{X:Cx}{e:Expr}{te:TE}{lo hi:Option Expr}{tl th:TO}{pos p2:Pos}
theorem Oc:PO X none AAr:=by
 intro pins s σ H Q I h;rw[evalPart_none];exact wpAny_pure ⟨none,H,I,.none,h⟩
theorem Nk(h:PE X e te):PO X (some e) (ACx te):=by
 intro pins s σ H Q I hw;rw[evalPart_some];refine thn (h pins s σ H _ I hw) λu s1 ⟨x,H1,I1,r1,q1⟩=>?_;obtain ⟨i,rfl,q⟩:=q1;obtain ⟨t,rfl⟩:=r1;exact ⟨some i,H1,I1,.int i t,q⟩
def SlR(X:Cx)(r:V->Option Int->Option Int->Hp->VK->Prop):Prop :=
 ∀(pins:List (Addr×Obj)) (s:AA) (σ:St) (H:Hp) (x:V) (v vl vu:Ap) (lo hi:Option Int) (sl:Addr) (Q:VK),Inv X pins σ H s->RelV x v->s.heap.IsSliceOf sl vl vu .none->IsPart vl lo->IsPart vu hi->r x lo hi H Q ->
  ∃T id,typeLookup (.type T) "__getitem__" = pure (some (.builtin id))/\s.TypeIs v T/\wpAny (AO X.prog X.w) X.A (MO v (.ref sl)) (EP X pins σ Q) X.xe s
def tSl(r:V->Option Int->Option Int->Hp->VK->Prop)(te:TE)(tl th:TO):TE:=λσ H Q=>te σ H λx H1=>tl σ H1 λl H2=>th σ H2 λu H3=>r x l u H3 Q
theorem Kq{r:V->Option Int->Option Int->Hp->VK->Prop}(hr:SlR X r)(he:PE X e te)(hl:PO X lo tl)(hu:PO X hi th):PE X (.Subscript e (.Slice lo hi none p2) pos) (tSl r te tl th):=by
 intro pins s σ H Q I h;refine R7 (thn (he pins s σ H _ I h) λv s1 ⟨x,H1,I1,r1,q1⟩=>?_);refine wpAny_Slice (thn (hl pins s1 σ H1 _ I1 q1) λvl s2 ⟨l,H2,I2,pl,q2⟩=>thn (hu pins s2 σ H2 _ I2 q2) λvu s3 ⟨u,H3,I3,pu,q3⟩=>?_);rw[evalPart_none];refine wpAny_pure ?_;have I4:Inv X pins σ H3 {s3 with heap:=s3.heap.push {cls:=.type "slice",data:=.fields #[vl,vu,.none]}}:=I3.kept (t':=s3.toks) λb ob q=>AJ _ q;obtain ⟨T,id,hT,ht,hg⟩:=hr pins {s3 with heap:=s3.heap.push {cls:=.type "slice",data:=.fields #[vl,vu,.none]}} σ H3 x v vl vu l u s3.heap.objs.size Q I4 r1 (V2 ..) pl pu q3;show wpAny (AO X.prog X.w) X.A (OW e (.Slice lo hi none p2) v (.ref s3.heap.objs.size)) (EP X pins σ Q) X.xe {s3 with heap:=s3.heap.push {cls:=.type "slice",data:=.fields #[vl,vu,.none]}};exact tail_any (ops:=[.ref s3.heap.objs.size,v]) ht hT hg (by with_unfolding_all rfl)
def cutV(xs:List V)(lo hi:Option Int):List V:=(xs.drop (HT.sIx xs.length 0 lo)).take (HT.sIx xs.length xs.length hi-HT.sIx xs.length 0 lo)
theorem Px(xs:List V)(lo hi:Option Int):(cutV xs lo hi).length<=xs.length:=by
 unfold cutV;rw[BG,FK];lia
def rCatT(K:Au):R2:=λx y H Q=>∃a b xs ys,x=.ref a/\y=.ref b/\SqT K H a xs/\SqT K H b ys/\xs≠[]/\xs.length+ys.length<=sizeLine /\
 (ys=[]->Q (.ref a) H)/\(ys≠[]->∀p,H p=none->Q (.ref p) (upd H p (.tup (xs++ys))))
theorem Vals.nil_iff{xs:List V}{us:List Ap}(r:Vals xs us):us=[]↔xs=[]:=by
 cases r with
 | nil=>simp
 | cons _ _=>simp
theorem ABQ:OpR X (FI .Add) (rCatT X.K):=by
 intro pins s σ H x y v u Q I rx ry h;obtain ⟨a,b,xs,ys,rfl,rfl,ha,hb,hx,hz,q1,q2⟩:=h;cases rx;cases ry;obtain ⟨its,r1,p1,_⟩:=I.tuple ha;obtain ⟨its2,r2,p2,_⟩:=I.tuple hb;refine HT.ABN p1 p2 (λz=>hx (r1.nil_iff.mp z)) (λz=>⟨.ref a,H,I,rfl,q1 (r2.nil_iff.mp z)⟩) (λz=>?_) (by rw[<- r1.length,<- r2.length];exact hz);refine ⟨.ref s.heap.objs.size,_,I.laid (t':=s.toks) (o:=.tup (xs++ys)) (λb ob q=>AJ _ q) (AF _) ?_,rfl,q2 (λw=>z (r2.nil_iff.mpr w)) _ (I.hok.fresh (AF _))⟩;exact ⟨by rw[BC];exact hz,_,r1.append r2,V3 _ _⟩
end
def ixN(n:Nat)(i:Int):Option Nat:=if 0<=i then (if i<n then some i.toNat else none) else if -(n:Int)<=i then some (i+n).toNat else none
def atI{α:Type}(xs:List α)(i:Int):Option α:=(ixN xs.length i).bind λj=>xs[j]?
theorem Zx{n:Nat}{i:Int}{j:Nat}(h:ixN n i=some j):seqIndex? i n=some j/\j<n/\-(n:Int)<=i/\i<n:=by
 unfold ixN at h;by_cases h0:0<=i
 ·rw[if_pos h0] at h
  by_cases h1:i<n
  ·rw[if_pos h1] at h
   have e:i.toNat=j:=BY h;exact ⟨by rw[seqIndex_of h0 h1,e],by lia,by lia,h1⟩
  ·rw[if_neg h1] at h;cases h
 ·rw[if_neg h0] at h
  by_cases h1:-(n:Int)<=i
  ·rw[if_pos h1] at h
   have e:(i+n).toNat=j:=BY h;exact ⟨by rw[seqIndex_neg (by lia) h1,e],by lia,h1,by lia⟩
  ·rw[if_neg h1] at h;cases h
theorem atI_get{α:Type}{xs:List α}{i:Int}{v:α}(h:atI xs i=some v):∃j,seqIndex? i xs.length=some j/\xs[j]?=some v/\j<xs.length/\-(xs.length:Int)<=i/\i<xs.length:=by
 unfold atI at h;cases e:ixN xs.length i with
 | none=>rw[e] at h;cases h
 | some j =>
  rw[e] at h;obtain ⟨h1,h2,h3,h4⟩:=Zx e;exact ⟨j,h1,h,h2,h3,h4⟩
theorem Dd{α:Type}{xs:List α}{j:Nat}{v:α}(h:xs[j]?=some v):atI xs (j:Int)=some v:=by
 have hj:j<xs.length:=(AH.mp h).1;have e:ixN xs.length (j:Int)=some j:=by
  unfold ixN;rw[if_pos (by lia),if_pos (by lia)];simp
 unfold atI;rw[e];exact h
def ABJ(b:Expr):Prop:=∀o i,NR b false o i=operate [o,i] (MO o i)
def IxR(X:Cx)(r:R2):Prop :=
 ∀(value slice:Expr) (pins:List (Addr×Obj)) (s:AA) (σ:St) (H:Hp) (x y:V) (v u:Ap) (Q:VK),Inv X pins σ H s->RelV x v->RelV y u->r x y H Q ->
  NR slice false v u=operate [v,u] (MO v u)->wpAny (AO X.prog X.w) X.A (OW value slice v u) (EP X pins σ Q) X.xe s
def MtR(X:Cx)(id:String)(r:V->List V->Hp->VK->Prop):Prop :=
 ∀(pins:List (Addr×Obj)) (s:AA) (σ:St) (H:Hp) (x:V) (xs:List V) (v:Ap) (us:List Ap) (Q:VK),Inv X pins σ H s->RelV x v->Vals xs us->r x xs H Q ->
  wpAny (AO X.prog X.w) X.A (call (.builtin id) (v::us)) (EP X pins σ Q) X.xe s
section
variable{X:Cx}{a b:Expr}{ta tb:TE}{pos:Pos}
theorem Bl{r:R2}(hr:IxR X r)(ha:PE X a ta)(hb:PE X b tb)(hs:ABJ b):PE X (.Subscript a b pos) (tOp r ta tb):=by
 intro pins s σ H Q I h;exact R7 (binT ha hb I h λv u s2 x y H2 I2 rx ry q=>hr a b pins s2 σ H2 x y v u Q I2 rx ry q (hs _ _))
def rIxL(K:Au):R2:=λx y H Q=>E4 λp xs i v=>A5 (x=.ref p) (y=.int i) (SqL K H p xs) (atI xs i=some v) (Q v H)
def rIxT(K:Au):R2:=λx y H Q=>E4 λp xs i v=>A5 (x=.ref p) (y=.int i) (SqT K H p xs) (atI xs i=some v) (Q v H)
theorem Dz:IxR X (rIxL X.K):=by
 intro value slice pins s σ H x y v u Q I rx ry h hs;obtain ⟨p,xs,i,z,rfl,rfl,hq,he,q⟩:=h;cases rx;obtain ⟨t,rfl⟩:=ry;obtain ⟨its,r,pl,hz⟩:=I.list hq;obtain ⟨j,h1,h2,h3,h4,h5⟩:=atI_get he;obtain ⟨w,ew,rw'⟩:=r.get h2;have hl:=r.length;have hn:=line63;have fin:EP X pins σ Q w s:=⟨z,H,I,rw',q⟩;by_cases h0:0<=i
 ·have hj:i.toNat=j:=by
   rw[seqIndex_of h0 h5] at h1;exact BY h1
  exact item_listR pl.isList h0 (by lia) (by rw[hj];simpa using ew) fin hs
 ·have hj:(i+(its.toArray.size:Int)).toNat=j:=by
   rw[seqIndex_neg (by lia) h4] at h1;rw[A7,<- hl];exact BY h1
  exact NS (x:=w) pl.isList.typeIs Qb.lookup
   (wpAny_getItem_list_neg (Q:=λr s'=>r=w/\EP X pins σ Q r s') pl.isList (by lia) (by rw[A7]<;>lia) (by lia) (by rw[hj];simpa using ew) ⟨rfl,fin⟩) hs
theorem Eb:IxR X (rIxT X.K):=by
 intro value slice pins s σ H x y v u Q I rx ry h hs;obtain ⟨p,xs,i,z,rfl,rfl,hq,he,q⟩:=h;cases rx;obtain ⟨t,rfl⟩:=ry;obtain ⟨its,r,pl,hz⟩:=I.tuple hq;obtain ⟨j,h1,h2,h3,h4,h5⟩:=atI_get he;obtain ⟨w,ew,rw'⟩:=r.get h2;have hl:=r.length;have hn:=line63;have fin:EP X pins σ Q w s:=⟨z,H,I,rw',q⟩;exact NS (x:=w) pl.typeIs slot_tuple_getitem.lookup
  (getItem_tuple (j:=j) (Q:=λr s'=>r=w/\EP X pins σ Q r s') pl (by lia) (by lia) (by rw[A7,<- hl];exact h1) (by simpa using ew) ⟨rfl,fin⟩) hs
theorem Ny(lo hi:Option Int)(n:Nat):(IZ lo hi none n).1=((HT.sIx n 0 lo:Nat):Int)/\(IZ lo hi none n).2.1=((HT.sIx n n hi:Nat):Int)/\(IZ lo hi none n).2.2=1:=by
 refine ⟨?_,?_,rfl⟩
 ·cases lo with
  | none=>simp[IZ,HT.sIx]
  | some i =>
   simp only[IZ,HT.sIx,Q6,show (1:Int)>0 by decide,if_true];by_cases h:i<0
   ·simp only[h,if_true]<;>lia
   ·simp only[h,if_false]<;>lia
 ·cases hi with
  | none=>simp[IZ,HT.sIx]
  | some i =>
   simp only[IZ,HT.sIx,Q6,show (1:Int)>0 by decide,if_true];by_cases h:i<0
   ·simp only[h,if_true]<;>lia
   ·simp only[h,if_false]<;>lia
theorem Ks(its:List Ap)(lo hi:Option Int):slicePick its.toArray lo hi none=((its.drop (HT.sIx its.length 0 lo)).take (HT.sIx its.length its.length hi-HT.sIx its.length 0 lo)).toArray:=by
 obtain ⟨h1,h2,h3⟩:=Ny lo hi its.toArray.size;unfold slicePick;rw[h1,h2,h3];simp only[sliceRange_one,pick_run,A7]<;>rfl
def rSlL(K:Au):V->Option Int->Option Int->Hp->VK->Prop:=λx lo hi H Q=>E2 λa xs=>A3 (x=.ref a) (SqL K H a xs) (∀p,H p=none->Q (.ref p) (upd H p (.lst (cutV xs lo hi))))
theorem Ol:SlR X (rSlL X.K):=by
 intro pins s σ H x v vl vu lo hi sl Q I rx hs pl pu h;obtain ⟨a,xs,rfl,hx,q⟩:=h;cases rx;obtain ⟨its,r,ht,hz⟩:=I.list hx;have hlen:=r.length;refine ⟨"list",_,Qb.lookup,ht.isList.typeIs,?_⟩;refine wpAny_getItem_list_slice ht.isList hs pl pu .none (by simp) ?_ (by rw[A7]<;>lia);rw[Ks,<- hlen];refine ⟨.ref s.heap.objs.size,_,I.laid (t':=s.toks) (o:=.lst (cutV xs lo hi)) (λb ob q=>AJ _ q) (AF _) ?_,rfl,q _ (I.hok.fresh (AF _))⟩;exact ⟨BM (Px xs lo hi) hz,_,0,(r.drop (HT.sIx xs.length 0 lo)).take (HT.sIx xs.length xs.length hi-HT.sIx xs.length 0 lo),AW _ rfl⟩
def flatV:V->Bool
 | .non=>true
 | .bl _=>true
 | .int _=>true
 | .str _=>true
 | _=>false
def eqV:V->V->Bool
 | .non,.non=>true
 | .bl a,.bl b=>a==b
 | .bl a,.int b=>(if a then 1 else 0)==b
 | .int a,.bl b=>a==(if b then 1 else 0)
 | .int a,.int b=>a==b
 | .str a,.str b=>a==b
 | _,_=>false
theorem ABx{A:BS}{s:AA}{y x:V}{u v:Ap}(ry:RelV y u)(rx:RelV x v)(fy:flatV y=true)(fx:flatV x=true):MC A s u v (eqV y x):=by
 cases y with
 | non =>
  cases ry;cases x with
  | non=>cases rx;exact R8 _
  | bl b=>cases rx;exact SeqAt.EqAt.none_bool b
  | int b=>obtain ⟨t,rfl⟩:=rx;exact SeqAt.EqAt.none_int b t
  | str b=>obtain ⟨t,rfl⟩:=rx;exact SeqAt.EqAt.none_str b t
  | _=>exact absurd (show false=true from fx) BA
 | bl a =>
  cases ry;cases x with
  | non=>cases rx;exact SeqAt.EqAt.bool_none a
  | bl b=>cases rx;exact SeqAt.EqAt.bool_bool a b
  | int b=>obtain ⟨t,rfl⟩:=rx;exact SeqAt.EqAt.bool_int a b t
  | str b=>obtain ⟨t,rfl⟩:=rx;exact SeqAt.EqAt.bool_str a b t
  | _=>exact absurd (show false=true from fx) BA
 | int a =>
  obtain ⟨t',rfl⟩:=ry;cases x with
  | non=>cases rx;exact SeqAt.EqAt.int_none a t'
  | bl b=>cases rx;exact SeqAt.EqAt.int_bool a t' b
  | int b=>obtain ⟨t,rfl⟩:=rx;exact Pm a t' b t
  | str b=>obtain ⟨t,rfl⟩:=rx;exact O8 a t' b t
  | _=>exact absurd (show false=true from fx) BA
 | str a =>
  obtain ⟨t',rfl⟩:=ry;cases x with
  | non=>cases rx;exact SeqAt.EqAt.str_none a t'
  | bl b=>cases rx;exact SeqAt.EqAt.str_bool a t' b
  | int b=>obtain ⟨t,rfl⟩:=rx;exact O9 a t' b t
  | str b=>obtain ⟨t,rfl⟩:=rx;exact SeqAt.EqAt.str_str a t' b t
  | _=>exact absurd (show false=true from fx) BA
 | _=>exact absurd (show false=true from fy) BA
def eqU(x:V)(u:Ap):Bool:=match u with
 | .none=>eqV .non x
 | .bool b=>eqV (.bl b) x
 | .int i _=>eqV (.int i) x
 | .str z _=>eqV (.str z) x
 | _=>false
theorem ZQ{x y:V}{u:Ap}(r:RelV y u)(f:flatV y=true):eqU x u=eqV y x:=by
 cases y with
 | non=>cases r;rfl
 | bl b=>cases r;rfl
 | int i=>obtain ⟨t,rfl⟩:=r;rfl
 | str z=>obtain ⟨t,rfl⟩:=r;rfl
 | _=>exact absurd (show false=true from f) BA
theorem Gy{x:V}:∀{xs:List V}{us:List Ap},Vals xs us->xs.all flatV=true->us.any (eqU x)=xs.any λy=>eqV y x
 | _,_,.nil,_=>rfl
 | y::xs,u::us,.cons r t,f=>by
  rw[Th,FL] at f;rw[HH,HH,ZQ r f.1,Gy t f.2]
theorem Fo{A:BS}{s:AA}{x:V}{v:Ap}(rx:RelV x v)(fx:flatV x=true):∀{xs:List V}{us:List Ap},Vals xs us->xs.all flatV=true->∀u∈us,MC A s u v (eqU x u)
 | _,_,.nil,_=>λu hu=>by cases hu
 | y::xs,u::us,.cons r t,f=>λu' hu=>by
  rw[Th,FL] at f;rcases Bz.mp hu with rfl | hu
  ·rw[ZQ r f.1];exact ABx r rx f.1 fx
  ·exact Fo rx fx t f.2 u' hu
def inV(x:V)(xs:List V):Bool:=xs.any λy=>eqV y x
def rIn(K:Au)(neg:Bool):R2:=λx y H Q=>E2 λp xs=>A5 (y=.ref p) ((SqL K H p xs\/SqT K H p xs)) (flatV x=true) (xs.all flatV=true) (Q (.bl (if neg then !inV x xs else inV x xs)) H)
theorem NT:OpR X (D8 .In) (rIn X.K false):=by
 intro pins s σ H x y v u Q I rx ry h;obtain ⟨p,xs,rfl,hq,fx,fs,q⟩:=h;cases ry;rcases hq with hq | hq
 ·obtain ⟨its,r,pl,hz⟩:=I.list hq
  refine R9 (eqU x) pl.isList (λw hw=>Fo rx fx r fs w (by simpa using hw)) ⟨.bl _,H,I,rfl,?_⟩;rw[show its.toArray.any (eqU x)=its.any (eqU x) by simp,Gy r fs];exact q
 ·obtain ⟨its,r,pl,hz⟩:=I.tuple hq
  refine Q7 (eqU x) pl (λw hw=>Fo rx fx r fs w (by simpa using hw)) ⟨.bl _,H,I,rfl,?_⟩;rw[show its.toArray.any (eqU x)=its.any (eqU x) by simp,Gy r fs];exact q
theorem Nz:OpR X (D8 .NotIn) (rIn X.K true):=by
 intro pins s σ H x y v u Q I rx ry h;obtain ⟨p,xs,rfl,hq,fx,fs,q⟩:=h;cases ry;rcases hq with hq | hq
 ·obtain ⟨its,r,pl,hz⟩:=I.list hq
  refine Po (eqU x) pl.isList (λw hw=>Fo rx fx r fs w (by simpa using hw)) ⟨.bl _,H,I,rfl,?_⟩;rw[show its.toArray.any (eqU x)=its.any (eqU x) by simp,Gy r fs];exact q
 ·obtain ⟨its,r,pl,hz⟩:=I.tuple hq
  refine O2 (eqU x) pl (λw hw=>Fo rx fx r fs w (by simpa using hw)) ⟨.bl _,H,I,rfl,?_⟩;rw[show its.toArray.any (eqU x)=its.any (eqU x) by simp,Gy r fs];exact q
theorem Bf:CallR X (.builtin "len") (λxs H Q=>∃p ys,xs=[.ref p]/\(SqL X.K H p ys\/SqT X.K H p ys)/\Q (.int ys.length) H):=by
 intro pins s σ H xs us Q I r h;obtain ⟨p,ys,rfl,hq,q⟩:=h;obtain ⟨u,rfl,rx⟩:=vals1 r;cases rx;have hn:=line63;rcases hq with hq | hq
 ·obtain ⟨its,r',pl,hz⟩:=I.list hq
  have hlen:=r'.length;exact Calls.call_len_list pl.isList (by simp only[A7]<;>lia) ⟨.int ys.length,H,I.tok _,⟨s.toks+1,by rw[A7,hlen]⟩,q⟩
 ·obtain ⟨its,r',pl,hz⟩:=I.tuple hq
  have hlen:=r'.length;exact len_tuple pl (by simp only[A7]<;>lia) ⟨.int ys.length,H,I.tok _,⟨s.toks+1,by rw[A7,hlen]⟩,q⟩
theorem Hv:CallR X (.type "list") (λxs H Q=>∃p ys,xs=[.ref p]/\(SqL X.K H p ys\/SqT X.K H p ys)/\∀l,H l=none->Q (.ref l) (upd H l (.lst ys))):=by
 intro pins s σ H xs us Q I r h;obtain ⟨p,ys,rfl,hq,q⟩:=h;obtain ⟨u,rfl,rx⟩:=vals1 r;cases rx;have fin:∀(its:List Ap),Vals ys its->ys.length<=sizeLine->∀(h':Heap) (c':Nat),(∀b o',s.heap.get? b=some o'->h'.get? b=some o') ->
   h'.get? s.heap.objs.size=some {cls:=.type "list",dict:=none,data:=.seq its.toArray c',slots:=#[]}->EP X pins σ Q (.ref s.heap.objs.size) {s with heap:=h'}:=λits r' hz h' c' kp e =>
  ⟨.ref s.heap.objs.size,_,I.laid (t':=s.toks) kp (AF _) (show ObjOk X.prog X.w _ h' _ (.lst ys) from⟨hz,its,c',r',e⟩),rfl,q _ (I.hok.fresh (AF _))⟩
 rcases hq with hq | hq
 ·obtain ⟨its,r',pl,hz⟩:=I.list hq
  have hlen:=r'.length;obtain ⟨o,ho,hc,n,hd⟩:=pl.isList;exact call_list_seq p (.inl rfl) ho hc hd (λh' c' kp e=>fin its r' hz h' c' kp e) (by simp only[A7]<;>lia)
 ·obtain ⟨its,r',pl,hz⟩:=I.tuple hq
  have hlen:=r'.length;obtain ⟨o,ho,hc,n,hd⟩:=pl;exact call_list_seq p (.inr rfl) ho hc hd (λh' c' kp e=>fin its r' hz h' c' kp e) (by simp only[A7]<;>lia)
theorem CP:CallR X (.type "tuple") (λxs H Q=>∃p ys,xs=[.ref p]/\((SqL X.K H p ys/\∀l,H l=none->Q (.ref l) (upd H l (.tup ys)))\/(SqT X.K H p ys/\Q (.ref p) H))):=by
 intro pins s σ H xs us Q I r h;obtain ⟨p,ys,rfl,h⟩:=h;obtain ⟨u,rfl,rx⟩:=vals1 r;cases rx;rcases h with⟨hq,q⟩ | ⟨hq,q⟩
 ·obtain ⟨its,r',pl,hz⟩:=I.list hq
  have hlen:=r'.length;refine call_tuple_list pl.isList (λh' kp=>?_) (by simp only[A7]<;>lia);have I1:Inv X pins σ H {s with heap:=h'}:=I.kept (t':=s.toks) kp;have I2:Inv X pins σ (upd H h'.objs.size (.tup ys)) {s with heap:=h'.push {cls:=.type "tuple",data:=.seq its.toArray}} :=
   I1.laid (t':=s.toks) (λb o e=>AJ _ e) (AF _) (show ObjOk X.prog X.w _ _ _ (.tup ys) from⟨hz,its,r',V3 _ _⟩)
  exact ⟨.ref h'.objs.size,_,I2,rfl,q _ (I1.hok.fresh (AF _))⟩
 ·obtain ⟨its,r',pl,hz⟩:=I.tuple hq
  exact call_tuple_same pl ⟨.ref p,H,I,rfl,q⟩
def tyV(K:Au)(T:String)(x:V)(H:Hp):Prop:=match x with
 | .str _=>T = "str"
 | .int _=>T = "int"
 | .ref p=>(T = "list"/\∃xs,SqL K H p xs)\/(T = "tuple"/\∃o,K.lookup p=some o/\o.cls=.type "tuple"/\o.dict=none) \/
   (T = "dict"/\((∃kvs,H p=some (.dK kvs))\/∃kvs,H p=some (.dT kvs)))\/(T = "set"/\∃S n,H p=some (.set S n))
 | _=>False
theorem ACX{pins:List (Addr×Obj)}{σ:St}{H:Hp}{s:AA}{T:String}{x:V}{v:Ap}(I:Inv X pins σ H s)(r:RelV x v)(ty:tyV X.K T x H) :
  s.TypeIs v T/\∀a,v=.ref a->∃ob,s.heap.get? a=some ob/\ob.dict=none:=by
 cases x with
 | str z =>
  obtain ⟨t,rfl⟩:=r;cases (show T = "str" from ty);exact ⟨typeIs_str s z t,λ_ e=>nomatch e⟩
 | int i =>
  obtain ⟨t,rfl⟩:=r;cases (show T = "int" from ty);exact ⟨Sa s i t,λ_ e=>nomatch e⟩
 | ref p =>
  cases r;rcases ty with⟨rfl,xs,hq⟩ | ⟨rfl,o,hk,hc,hd⟩ | ⟨rfl,hk⟩ | ⟨rfl,S,n,hk⟩
  ·obtain ⟨its,_,pl,_⟩:=I.list hq
   refine ⟨pl.isList.typeIs,λa e=>?_⟩;cases e;obtain ⟨o,n,e,c,hd,_⟩:=pl;exact ⟨o,e,hd⟩
  ·refine ⟨⟨o,I.kIn p o hk,hc⟩,λa e=>?_⟩
   cases e;exact ⟨o,I.kIn _ o hk,hd⟩
  ·have z:∃o,s.heap.get? p=some o/\o.ExactDict:=by
    rcases hk with⟨kvs,hk⟩ | ⟨kvs,hk⟩
    ·obtain ⟨_,_,_,_,o,_,_,e,ex,_⟩:=I.hok p _ hk
     exact ⟨o,e,ex⟩
    ·obtain ⟨_,_,_,_,o,_,_,e,ex,_⟩:=I.hok p _ hk
     exact ⟨o,e,ex⟩
   obtain ⟨o,e,ex⟩:=z;refine ⟨⟨o,e,ex.1⟩,λa e2=>?_⟩;cases e2;exact ⟨o,e,ex.2.1⟩
  ·obtain ⟨o,_,_,_,e,ex,_⟩:=I.hok p _ hk
   refine ⟨⟨o,e,ex.1⟩,λa e2=>?_⟩;cases e2;exact ⟨o,e,ex.2.1⟩
 | _=>exact Ee ty
def tBM(K:Au)(T:String)(r:V->List V->Hp->VK->Prop)(to:TE)(t:TA):TE:=λσ H Q=>to σ H λx H1=>tyV K T x H1/\t σ H1 λxs H2=>r x xs H2 Q
variable{o e:Expr}{es:List Expr}{to:TE}{t:TA}{name:Str}{apos cpos:Pos}{T id:String}{r:V->List V->Hp->VK->Prop}
theorem Ke(pa:PlainAttrs T)(slot:Slot T name id)(hty:typeOf (.builtin id)=pure (.type "method_descriptor"))(hm:MtR X id r)(ho:PE X o to)(ha:PA X (e::es) t)
  (hbase:L4 o name X.env (eval o X.env)=eval o X.env:=by rfl)
  (hfew:((G5 cpos (Cf (e::es) X.env)).all (λx=>!x.1)&&(Q5 cpos (NM [] X.env)).all (λx=>x.1.isSome)
   && decide ((e::es).length+([]:List SL).length+(if ([]:List SL).isEmpty then 0 else 1)<30))=true:=by rfl)
  (hline:(apos.endLine==cpos.line)=true:=by rfl) (hs:Cf (e::es) X.env=(false,eval e X.env)::Cf es X.env:=by rfl) (hplain:(G5 cpos (Cf es X.env)).any (·.1)=false:=by rfl) :
  PE X (.Call (.Attribute o name apos) (e::es) [] cpos) (tBM X.K T r to t):=by
 intro pins s σ H Q I h;refine wpAny_Call_method_late hbase hfew hline rfl (thn (ho pins s σ H _ I h) λv s1 ⟨x,H1,I1,r1,ty,q1⟩=>?_);obtain ⟨h1,h2⟩:=ACX I1 r1 ty;refine ⟨T,id,pa,slot,hty,h1,h2,?_⟩;have hA:=ha cpos pins s1 σ H1 _ I1 q1;rw[hs] at hA ⊢;refine NU (by show (false||(G5 cpos (Cf es X.env)).any (·.1))=false;rw[hplain]<;>rfl) (ON ?_);exact thn hA λus s2 ⟨vs,H2,I2,r2,q2⟩=>hm pins s2 σ H2 x vs v us Q I2 r1 r2 q2
end
def MtM(X:Cx)(id:String)(r:V->List V->Hp->VK->Prop):Prop :=
 ∀(pins:List (Addr×Obj)) (s:AA) (σ:St) (H:Hp) (x:V) (xs:List V) (v:Ap) (us:List Ap) (Q:VK),Inv X pins σ H s->RelV x v->Vals xs us->r x xs H Q ->
  wpAny (AO X.prog X.w) X.A (call (.builtin id) (v::us)) (EP X pins σ Q) X.xe s
theorem Vals.one:∀{x:V}{us:List Ap},Vals [x] us->∃u,us=[u]/\RelV x u
 | _,_,.cons r .nil=>⟨_,rfl,r⟩
theorem Vals.two:∀{x y:V}{us:List Ap},Vals [x,y] us->∃u v,us=[u,v]/\RelV x u/\RelV y v
 | _,_,_,.cons r (.cons q .nil)=>⟨_,_,rfl,r,q⟩
theorem Vals.rep{xs:List V}{us:List Ap}(h:Vals xs us):∀k:Nat,Vals (B4 k xs).flatten (B4 k us).flatten
 | 0=>.nil
 | k+1=>by
  rw[EM,EM,IA,IA];exact Vals.append h (Vals.rep h k)
theorem foldl_rep(its:List Ap):∀(k:Nat) (acc:List Ap),
  VZ (λx1 x2=>x1++x2) acc.toArray (B4 k its.toArray)=(acc++(B4 k its).flatten).toArray
 | 0,acc=>by simp
 | k+1,acc=>by
  have e:acc.toArray++its.toArray=(acc++its).toArray:=by simp
  have e2:(acc++its)++(B4 k its).flatten=acc++(B4 (k+1) its).flatten:=by
   rw[EM,IA,CC]
  rw[<- e2,<- foldl_rep its k (acc++its),<- e,EM,K2]
section
variable{X:Cx}{pins:List (Addr×Obj)}{σ:St}{H:Hp}{s:AA}{l b:Addr}{xs ys zs:List V}
theorem Inv.lset{its its':List Ap}{n:Nat}{f:Array Ap->Array Ap}{t':Nat}(I:Inv X pins σ H s)(hH:H l=some (.lst xs))
  (e:s.heap.get? l=some {cls:=.type "list",data:=.seq its.toArray n}) (hf:f its.toArray=its'.toArray) (hv:Vals ys its') (hz:ys.length<=sizeLine) :
  Inv X pins σ (upd H l (.lst ys)) {s with heap:=s.heap.update l (DS f),toks:=t'}:=by
 have q:=PySem.IsL.update e f;rw[hf] at q;refine I.write (x:=l) (e:=l) (by rw[hH];exact trivial) (.inl rfl) (λb' u hb hu=>(ER s.heap (DS f) (C6 hb)).trans hu) ⟨_,q⟩ ?_;exact ⟨hz,its',_,hv,q⟩
theorem Inv.lnew{its:List Ap}{t':Nat}(I:Inv X pins σ H s)(hv:Vals ys its)(hz:ys.length<=sizeLine) :
  Inv X pins σ (upd H s.heap.objs.size (.lst ys)) {s with heap:=s.heap.push {cls:=.type "list",data:=.seq its.toArray},toks:=t'} :=
 I.laid (λ_ _ q=>AJ _ q) (AF _) ⟨hz,its,0,hv,AW _ rfl⟩
theorem Inv.fresh(I:Inv X pins σ H s):H s.heap.objs.size=none:=I.hok.fresh (AF _)
theorem Inv.lstM(I:Inv X pins σ H s)(hH:H l=some (.lst xs)):xs.length<=sizeLine/\∃(its:List Ap) (n:Nat),Vals xs its/\xs.length=its.length/\s.heap.get? l=some {cls:=.type "list",data:=.seq its.toArray n}:=by
 obtain ⟨z,its,n,r,e⟩:=I.hok l _ hH;exact ⟨z,its,n,r,r.length,e⟩
end
section
variable{X:Cx}
def AAy:V->List V->Hp->VK->Prop:=λx vs H Q=>∃l xs y,x=.ref l/\vs=[y]/\H l=some (.lst xs)/\xs.length<sizeLine/\Q .non (upd H l (.lst (xs++[y])))
theorem CZ:MtM X "list.append" AAy:=by
 intro pins s σ H x vs v us Q I rx rv h;obtain ⟨l,xs,y,rfl,rfl,hH,hz,q⟩:=h;cases rx;obtain ⟨u,rfl,ru⟩:=rv.one;obtain ⟨z,its,n,r,hl,e⟩:=I.lstM hH;refine OO F.slot_list_append ⟨_,e,rfl⟩ F.entry_list_append (F.args_list_append_2 _ _) (PySem.list_append l its.toArray n u (by rw[A7];lia)) ⟨e,?_⟩;refine ⟨.non,_,I.lset (its':=its++[u]) hH e (by simp) (r.append (.cons ru .nil)) ?_,rfl,q⟩;rw[BC,DA];lia
def rCat:R2:=λx y H Q=>E4 λl b xs zs=>A6 (x=.ref l) (y=.ref b) (H l=some (.lst xs)) (H b=some (.lst zs)) (xs.length+zs.length<=sizeLine) (∀p,H p=none->Q (.ref p) (upd H p (.lst (xs++zs))))
theorem ACd:OpR X (FI .Add) rCat:=by
 intro pins s σ H x y v u Q I rx ry h;obtain ⟨l,b,xs,zs,rfl,rfl,hH,hB,hz,q⟩:=h;cases rx;cases ry;obtain ⟨z,its,n,r,hl,e⟩:=I.lstM hH;obtain ⟨z2,its2,n2,r2,hl2,e2⟩:=I.lstM hB;refine PySem.P.add_list e e2 ?_ (by rw[A7,A7];lia);have ea:its.toArray++its2.toArray=(its++its2).toArray:=by simp
 rw[ea];exact ⟨.ref _,_,I.lnew (t':=s.toks) (r.append r2) (by rw[BC];lia),rfl,q _ I.fresh⟩
theorem len_rep{α:Type}(xs:List α)(k:Nat):(B4 k xs).flatten.length=k*xs.length:=by
 induction k with
 | zero=>simp
 | succ k ih=>rw[EM,IA,BC,ih,Nat.succ_mul,US]
end
end L2
namespace Att
open PySem PySem.W PySem.Calls PyProof.Rows
theorem JQ{P:UT}{h:Heap}:∀(ns:List Int) (vs:List Ap),WellAll P h vs (ns.map V4)->J4 vs ns:=by
 intro ns
 induction ns with
 | nil =>
  intro vs w;rw[MW] at w;cases w;exact .nil
 | cons n ns ih =>
  intro vs w;rw[BO] at w;cases w with
  | cons a b =>
   cases a;exact .cons _ _ (ih _ b)
theorem Vw{l:OpenLaw}{n:Nat}(hn:l.most=some n){P:UT}{h:Heap}{args:List WData}{vals:List Ap}
  (hpre:l.row.toRowW.claim.pre args=true) (hwl:WellAll P h vals args) :
  ∃a vs ns,vals=[AT a]/\args=[WData.list (ns.map V4)]/\h.get? a=some {cls:=.type "list",data:=.seq vs.toArray}/\J4 vs ns/\ns.length<=n:=by
 have hsh:WShape.hasAll [] args [.list .int]=true:=(pre_splitW hpre).1;have hc:l.pre.holds [] {args:=args}=true:=(pre_splitW hpre).2;obtain ⟨d,r,rfl,h1,h2⟩:=hasAllW_cons hsh;obtain rfl:=hasAllW_nil h2;obtain ⟨xs,rfl,h3⟩:=hasW_list h1;obtain ⟨ns,rfl⟩:=items_int h3;have hlen:ns.length<=n:=by
  unfold OpenLaw.pre at hc;have h4:(WTm.not (.lt (.lit (.int (n:Int))) (.len (.arg 0)))).holds [] {args:=[.list (ns.map .int)]}=true:=by
   have h4:=(holds_andW hc).1;rw[hn] at h4;exact h4
  have h5:=condW_of h4 (w_not (w_lt w_lit (w_len_list (w_arg rfl))));rw[AE] at h5;refine Nat.le_of_not_lt λq=>?_;have q':(n:Int)<((ns.length:Nat):Int):=by lia
  first
   | (rw[decide_eq_true q'] at h5;exact absurd h5 (by decide))
   | (simp at h5;lia)
 cases hwl with
 | cons w1 w2 =>
  cases w2;cases w1 with
  | list ho hall=>exact ⟨_,_,ns,rfl,rfl,ho,JQ ns _ hall,hlen⟩
theorem XQ(l:OpenLaw)(args:List WData):l.row.toRowW.claim.post args (.bool true) args=true :=
 postW_of (r:=l.row.toRowW) (X:=(true==true))
  (show V0 [] (.bool true) .bool=true by first | rfl | decide | simp[V0,WShape.arms,WShape.armsAll])
  (show (WTm.eq .res (.lit (.bool true))).value [] {args:=args,res:=some (.bool true),after:=args}=some (.bool (true==true)) from w_eq_bool (w_res rfl) w_lit) rfl
theorem QD{l:OpenLaw}{n:Nat}{q:AL}{loose:List Str}{XP:(Str->Option Ap)->Heap->Prop}{YP:AQ->Heap->Prop}{d:DefRec}
  (hn:l.most=some n) (hdf:d.params.defaults=[])
  (call:∀(w:AQ) (s₀ s₁:AA) (mg mb:Str->Option Ap) (fa:Addr) (o:Obj) (pm cd doc:Ap) (a:Addr) (vs:List Ap) (ns:List Int),
   Ground q loose [] XP w s₀ mg mb s₁.heap->YP w s₁.heap ->
   s₁.heap.get? fa=some o->o.data=.func (docDef d.name d.params d.body d.scope pm cd doc)->s₁.heap.CodeRec cd d.name->mg d.name=some (.ref fa) ->
   s₁.heap.get? a=some {cls:=.type "list",data:=.seq vs.toArray}->J4 vs ns->ns.length<=n->s₁.gens=#[] ->
   codeAny (AO l.prog w) MQ (.call (.ref fa) ⟨[.ref a],[]⟩) (λr s'=>r=.ok (.ret (.bool true))/\OldK s₁.heap s'.heap/\s'.os=s₁.os/\J3 s'.gens) s₁) :
  WalkO q loose XP YP l.row.toRowW d [] (λf vs=>Sb f vs):=by
 intro w s₀ s₁ mg mb G Y fa o pm cd doc dV kV ho hd hcd hD hmg hg args vals as hpre hlay hrd hwl hlo;obtain rfl:dV=.none:=Dflts.none hD hdf;obtain rfl:kV=.none:=Dflts.noKw hD;obtain ⟨a,vs,ns,rfl,rfl,hobj,hints,hlen⟩:=Vw hn hpre hwl;refine enter_call (E9 (call w s₀ s₁ mg mb fa o pm cd doc a vs ns G Y ho (fd_plain hd) hcd hmg hobj hints hlen hg) λr s' hq=>?_);obtain ⟨rfl,h2,h3,h4⟩:=hq;exact ⟨.inl ⟨.bool true,.bool true,[],rfl,λ_=>rfl,.bool true,XQ l _,λ_=>⟨Kb,λ_ hm=>(nomatch hm)⟩⟩,h2,h3,h4⟩
end Att
namespace L2
open PySem PySem.Spec PyProof.Rows
theorem Ld:∀{vs:List Ap}{ns:List Int},J4 vs ns->Vals (ns.map V.int) vs
 | _,_,.nil=>.nil
 | _,_,.cons n t h=>.cons ⟨t,rfl⟩ (Ld h)
def Only(H:Hp):Prop:=∀b,H b=none\/∃o xs,H b=some (.frz o (.lst xs))
theorem Yl{P:AL}{w:AQ}{K:Au}{mg mb:Str->Option Ap}{CX:CXT}{k:Nat}{fa a:Addr}{fd:BV}{x:Str}{sp:Sp}{s₁:AA}{vs:List Ap}{ns:List Int}
  (KX:K.In s₁.heap) (hns:s₁.heap.Ns AZ mg) (hb:s₁.heap.Ns RH mb) (hbb:∀x:Str,x≠"__name__"->mb x=G4 x) (hlim:s₁.heap.NoLimit) (hg:s₁.gens=#[])
  (ha:s₁.heap.get? a=some {cls:=.type "list",data:=.seq vs.toArray}) (hi:J4 vs ns) (hl:ns.length<=sizeLine) (hr:Room k MQ)
  (F:∀base:Heap,K.In base->base.Ns AZ mg->FnOk P w K mg base CX k fa fd [x] sp) (hbind:∀(s:AA) (u:Ap),N6 s fd ⟨[u],[]⟩ [(x,u)])
  (hsp:∀H:Hp,Only H->SqL K H a (ns.map V.int)->sp [.ref a] H (λv _=>v=.bl true) λ_ _ _=>False)
  (hCX:∀H e s',CX [] H s₁ (λ_ _ _=>False) e s'->False) :
  codeAny (AO P w) MQ (.call (.ref fa) ⟨[.ref a],[]⟩) (λr s'=>r=.ok (.ret (.bool true))/\OldK s₁.heap s'.heap/\s'.os=s₁.os/\J3 s'.gens) s₁:=by
 have rv:=Ld hi;have lenV:=hi.length;have core:∀H:Hp,Only H->SqL K H a (ns.map V.int)->HOk P w H s₁.heap->(∀b,H b≠none->b=a)->(H a≠none->K.lookup a=none) ->
   codeAny (AO P w) MQ (.call (.ref fa) ⟨[.ref a],[]⟩) (λr s'=>r=.ok (.ret (.bool true))/\OldK s₁.heap s'.heap/\s'.os=s₁.os/\J3 s'.gens) s₁:=by
  intro H hO hS hok hA hK;have base_of:∀{b:Addr}{o:Obj},s₁.heap.get? b=some o->H b=none->(hidT s₁.heap H).get? b=some o:=λe n=>Yw e n;have noA:∀{b:Addr}{o:Obj}{es:Array LW}{ep:Nat},s₁.heap.get? b=some o->o.data=.dict es ep->H b=none:=λ{b o es ep} e d=>by
   cases q:H b with
   | none=>rfl
   | some u =>
    have e':b=a:=hA b (by rw[q];simp);subst e';rw[ha] at e;cases e;have d':Data.seq vs.toArray _=Data.dict es ep:=d;cases d'
  have nsK:∀{b:Addr}{m:Str->Option Ap},s₁.heap.Ns b m->(hidT s₁.heap H).Ns b m:=λ{b m} ⟨o,es,ep,e,d,r⟩=>⟨o,es,ep,base_of e (noA e d),d,r⟩;have hKb:K.In (hidT s₁.heap H):=λb o e=>base_of (KX b o e) (by
   cases q:H b with
   | none=>rfl
   | some u =>
    have e':b=a:=hA b (by rw[q];simp);subst e';rw[hK (by rw[q];simp)] at e;cases e)
  have hM:Mod K mg (hidT s₁.heap H):=⟨hKb,nsK hns,⟨mb,nsK hb,hbb⟩,let ⟨mc,h1,h2⟩:=hlim;⟨mc,nsK h1,h2⟩⟩;have e0:Env0 P w K mg (hidT s₁.heap H) MQ [] s₁ H:=⟨rfl,hM,λb o e=>AAb e,KW (Xb _ _),trivial,λb hb=>absurd (show b∈([]:List Addr) from hb) (by simp),hok,.of_eq hg⟩;refine E9 ((F _ hKb (nsK hns)).run MQ [] s₁ H ⟨[.ref a],[]⟩ [.ref a] [.ref a] _ _ hr e0 (hbind s₁ (.ref a)) (.cons rfl .nil) (hsp H hO hS)) λr s' h=>?_;cases r with
  | error e=>exact (hCX H e s' h).elim
  | ok fl =>
   cases fl with
   | next=>exact Ee h
   | brk=>exact Ee h
   | cont=>exact Ee h
   | ret u =>
    obtain ⟨v,H',os,bare,un,hok',r',q⟩:=h;have q':v=.bl true:=q;subst q';obtain rfl:u=RF true:=r';refine ⟨rfl,OldK.of_keep λb o e=>?_,os,bare⟩;cases q:H b with
    | none=>exact un.keep b o e q (by intro z;exact absurd (show b∈([]:List Addr) from z) (by simp)) (by simp)
    | some u =>
     rcases hO b with z | ⟨ob,xs,z⟩
     ·rw[q] at z;cases z
     ·have z2:=un.frzs b ob _ z
      obtain ⟨e1,_⟩:=hok b _ z;obtain ⟨e2,_⟩:=hok' b _ z2;rw[e] at e1;cases e1;exact e2
 cases hk:K.lookup a with
 | some o =>
  have e:=KX a o hk;rw[ha] at e;cases e;refine core (λ_=>none) (λ_=>.inl rfl) (.inr ⟨_,vs.toArray,_,hk,rfl,rfl,rfl,by rw[A7,lenV];exact hl,by simpa using rv⟩) (λb u z=>by have z':(none:Option HO)=some u:=z;cases z') (λb z=>absurd rfl z) λz=>absurd rfl z
 | none =>
  refine core (λb=>if b=a then some (.frz {cls:=.type "list",data:=.seq vs.toArray} (.lst (ns.map V.int))) else none) (λb=>?_) (.inl (.inr ⟨{cls:=.type "list",data:=.seq vs.toArray},if_pos rfl⟩)) (λb u z=>?_) (λb z=>?_) λ_=>hk
  ·by_cases hb:b=a
   ·exact .inr ⟨_,_,if_pos hb⟩
   ·exact .inl (if_neg hb)
  ·by_cases hb:b=a
   ·have z':=(if_pos hb).symm.trans z
    cases z';subst hb;exact ⟨ha,by rw[AE];exact hl,vs,_,rv,ha⟩
   ·have z':=(if_neg hb).symm.trans z
    cases z'
  ·by_cases hb:b=a
   ·exact hb
   ·exact absurd (if_neg hb) z
theorem AAz{l:Nw}{n k:Nat}{q:AL}{loose:List Str}{XP:(Str->Option Ap)->Heap->Prop}{YP:AQ->Heap->Prop}{d:DefRec}{K:UT->Au}{CX:AQ->CXT}{sp:AQ->Sp}{x:Str}
  (hn:l.most=some n) (hn2:n<=sizeLine) (hdf:d.params.defaults=[]) (hr:Room k MQ)
  (hY:∀(w:AQ) (h:Heap),YP w h->(K w.params).In h)
  (F:∀(w:AQ) (mg:Str->Option Ap) (fa:Addr) (h:Heap),(K w.params).In h->h.Ns AZ mg->mg d.name=some (.ref fa) ->
   ∃fd:BV,(∀(s:AA) (u:Ap),N6 s fd ⟨[u],[]⟩ [(x,u)]) /\
    ∀base:Heap,(K w.params).In base->base.Ns AZ mg->FnOk l.prog w (K w.params) mg base (CX w) k fa fd [x] (sp w))
  (hsp:∀(w:AQ) (H:Hp) (a:Addr) (ns:List Int),ns.length<=n->Only H->SqL (K w.params) H a (ns.map V.int)->sp w [.ref a] H (λv _=>v=.bl true) λ_ _ _=>False)
  (hCX:∀(w:AQ) (H:Hp) (s:AA) (e:Ap) (s':AA),CX w [] H s (λ_ _ _=>False) e s'->False) :
  Tk q loose XP YP l.row.toRowW d [] (λf vs=>Sb f vs):=by
 refine Att.QD hn hdf λw s₀ s₁ mg mb fa o pm cd doc a vs ns G Y ho hd hcd hmg hobj hints hlen hg=>?_;have KX:=hY w _ Y;obtain ⟨fd,hb,hF⟩:=F w mg fa _ KX G.T.g hmg;exact Yl KX G.T.g G.T.b G.T.builtins G.T.nolimit hg hobj hints (BM hlen hn2) hr hF hb (λH hO hS=>hsp w H a ns hlen hO hS) λH e s'=>hCX w H s₁ e s'
def inClass(s:Stmt)(j:Nat):Stmt:=match s with
 | .ClassDef _ _ _ body _ _ _ _ _ _ _=>body.getD j (.Pass ⟨0,0,0,0⟩)
 | _=>.Pass ⟨0,0,0,0⟩
def Am(s:Stmt):Arguments:=match s with
 | .FunctionDef _ a _ _ _ _ _ _ _ _=>a
 | _=>{posonlyargs:=[],args:=[],vararg:=none,kwonlyargs:=[],kw_defaults:=[],kwarg:=none,defaults:=[]}
def Ak(s:Stmt):List Stmt:=match s with
 | .FunctionDef _ _ b _ _ _ _ _ _ _=>b
 | _=>[]
def Ac(s:Stmt):E6:=match s with
 | .FunctionDef _ _ _ _ _ _ sc _ _ _=>sc
 | _=>{kind:=.function,names:=[],isGenerator:=false,isCoroutine:=false}
abbrev CX0:CXT:=λ_ _ _ _ _ _=>False
abbrev E0:XK:=λ_ _ _=>False
theorem pass0{X:Cx}:Passes CX0 X E0:=λ_ _ _ _ _ _ _ h=>h.elim
structure Fun(K:Au)(x qual:Str)(st:Stmt)(f:Addr)(fd:BV):Prop where
 ex:∃(oc:Ap) (od:Option Addr) (kV doc pm:Ap) (an:Option Addr) (cdv ct:Ap) (osl:Array (Option Ap)),
  fd=BB x qual (Am st) (Ak st) (Ac st) .none kV doc pm an cdv ct/\K.lookup f=some ⟨oc,od,.func fd,osl⟩/\Be K cdv qual=true
 kp:AK K (.ref f)=true
section
variable{P:AL}{w:AQ}{K:Au}{mg:Str->Option Ap}{base:Heap}
theorem Fun.ok{x qual:Str}{st:Stmt}{f:Addr}{fd:BV}{N ps:List Str}{k:Nat}{sp:Sp}(F:Fun K x qual st f fd)(S:FnScope N ps (Ac st))(len:∀vs H Q E,sp vs H Q E->vs.length=ps.length)
  (hbody:∀(cdv:Ap) (A:BS) (outer:List Env) (s:AA) (H:Hp) (vs:List V) (Q:VK) (E:XK),Room k (A.deeper (K0 qual (Ac st) s.heap.objs.size f cdv))->sp vs H Q E ->
   ∃t,PSs (cxOf CX0 P w K mg base N qual (Ac st) f cdv A outer s H E).nox (Ak st) t/\t {nx:=λ_ H'=>Q .non H',rt:=Q} (start N vs) H):FnOk P w K mg base CX0 (k+1) f fd ps sp:=by
 obtain ⟨oc,od,kV,doc,pm,an,cdv,ct,osl,rfl,lk,hcd⟩:=F.ex;refine ABT lk hcd S len λA outer s H vs Q E hr hsp=>?_;obtain ⟨t,h,q⟩:=hbody cdv A outer s H vs Q E hr hsp;exact ⟨t,h.nox,q⟩
theorem Fun.binds{x qual:Str}{st:Stmt}{f:Addr}{fd:BV}{ps:List Str}(F:Fun K x qual st f fd)
  (h:∀(kV doc pm:Ap) (an:Option Addr) (cdv ct:Ap) (us:List Ap),us.length=ps.length->UR (BB x qual (Am st) (Ak st) (Ac st) .none kV doc pm an cdv ct) ⟨us,[]⟩=pure (ps.zip us)):Binds K fd ps []:=by
 obtain ⟨oc,od,kV,doc,pm,an,cdv,ct,osl,rfl,lk,hcd⟩:=F.ex;exact .all (h kV doc pm an cdv ct)
theorem BK{x qual:Str}{st:Stmt}{f:Addr}{oc:Ap}{od an:Option Addr}{osl:Array (Option Ap)}{kV doc pm cdv ct:Ap}(l:K.lookup f=some ⟨oc,od,.func (BB x qual (Am st) (Ak st) (Ac st) .none kV doc pm an cdv ct),osl⟩)
  (c:Be K cdv qual=true) (k:AK K (.ref f)=true):Fun K x qual st f (BB x qual (Am st) (Ak st) (Ac st) .none kV doc pm an cdv ct):=⟨⟨oc,od,kV,doc,pm,an,cdv,ct,osl,rfl,l,c⟩,k⟩
end
theorem BP{n:Nat}(h:n<=1000):n<sizeLine:=Ev h (by decide)
section
variable{X:Cx}
theorem pv(i:Nat){x:Str}{pos:Pos}(hN:X.N[i]?=some x:=by rfl)(hv:Vis X.env.scope x:=by first | exact B3 rfl | exact IE (B3 rfl) | exact IE (IE rfl))(hd:(x==("__debug__" : Str))=false:=by decide)
  (hcd:(x==("__classdict__" : Str))=false:=by decide):PE X (.Name x pos) (ADM i):=ABs hN hv hd hcd
end
theorem iteF{A B:Prop}(h:B):if false=true then A else B:=by
 rw[if_neg BA];exact h
theorem iteT{A B:Prop}(h:A):if true=true then A else B:=by
 rw[if_pos rfl];exact h
theorem ite2{c A B:Prop}[Decidable c](h1:c->A)(h2:¬ c->B):if c then A else B:=by
 by_cases h:c
 ·rw[if_pos h]
  exact h1 h
 ·rw[if_neg h]
  exact h2 h
def Same(H H':Hp):Prop:=∀b o,H b=some o->H' b=some o
theorem Same.refl(H:Hp):Same H H:=λ_ _ h=>h
theorem Same.trans{H H1 H2:Hp}(a:Same H H1)(b:Same H1 H2):Same H H2:=λc o h=>b c o (a c o h)
theorem Same.free{H H':Hp}(e:Same H H'){l:Addr}(h:H' l=VT):H l=VT:=by
 cases q:H l with
 | none=>rfl
 | some o =>
  rw[e l o q] at h;cases h
theorem Same.seq{K:Au}{H H':Hp}{a:Addr}{xs:List V}(e:Same H H')(h:SqL K H a xs):SqL K H' a xs:=by
 rcases h with (h | ⟨o,h⟩) | h
 ·exact .inl (.inl (e _ _ h))
 ·exact .inl (.inr ⟨o,e _ _ h⟩)
 ·exact .inr h
end L2
section
namespace L2
open PySem PySem.Spec PyProof.Rows
def cloOf(cells:List (Str×Addr)):List (Str×G7)->List (Str×Addr)->List (Str×Addr)
 | [],cs=>cs
 | (n,k)::r,cs=>cloOf cells r (if k == .free then match cells.lookup n with | some c=>(n,c)::cs | none=>cs else cs)
theorem Ln{cells:List (Str×Addr)}:∀{names:List (Str×G7)}{cs:List (Str×Addr)},(∀x c,cs.lookup x=some c->cells.lookup x=some c)->∀x c,(cloOf cells names cs).lookup x=some c->cells.lookup x=some c
 | [],_,h=>h
 | (n,k)::r,cs,h=>by
  unfold cloOf;refine Ln (names:=r) ?_;intro x c e;by_cases hk:(k==CH)=true
  ·rw[if_pos hk] at e
   cases q:cells.lookup n with
   | none=>rw[q] at e;exact h x c e
   | some d =>
    rw[q] at e;rw[DJ] at e;cases hx:x==n with
    | true =>
     rw[hx] at e;have hxn:x=n:=eq_of_beq hx;subst hxn;rw[q];exact e
    | false=>rw[hx] at e;exact h x c e
  ·rw[if_neg hk] at e;exact h x c e
theorem cloOf_mono{cells:List (Str×Addr)}{x:Str}:∀{names:List (Str×G7)}{cs:List (Str×Addr)},(cs.lookup x).isSome=true->((cloOf cells names cs).lookup x).isSome=true
 | [],_,h=>h
 | (n,k)::r,cs,h=>by
  unfold cloOf;refine cloOf_mono (names:=r) ?_;by_cases hk:(k==CH)=true
  ·rw[if_pos hk]
   cases q:cells.lookup n with
   | none=>exact h
   | some d =>
    show (ED x ((n,d)::cs)).isSome=true;rw[DJ];cases hx:x==n with
    | true=>rfl
    | false=>exact h
  ·rw[if_neg hk];exact h
theorem Mh{cells:List (Str×Addr)}{x:Str}(hc:(cells.lookup x).isSome=true):∀{names:List (Str×G7)}{cs:List (Str×Addr)},(x,CH)∈names->((cloOf cells names cs).lookup x).isSome=true
 | [],_,h=>by cases h
 | (n,k)::r,cs,h=>by
  unfold cloOf;rcases Bz.mp h with e | h
  ·cases e
   refine cloOf_mono ?_;rw[if_pos (show (CH==CH)=true from rfl)];obtain ⟨d,q⟩:=Fa.mp hc;rw[q];show (ED x ((x,d)::cs)).isSome=true;rw[DJ,beq_self_eq_true];rfl
  ·exact Mh hc h
theorem Rt{env:Env}:∀(names:List (Str×G7)) (cs:List (Str×Addr)),(∀y∈names,y.2=.free->(env.cells.lookup y.1).isSome=true) ->
  (forIn names cs λ(x:Str×G7) (r:List (Str×Addr))=>match x with
   | (name,kind)=>if (kind == .free)=true then do let c <- cellOf env name;pure (CM ((name,c)::r)) else pure (CM r):Sem (List (Str×Addr)))=pure (cloOf env.cells names cs)
 | [],cs,_=>rfl
 | (n,k)::r,cs,h=>by
  have hr:∀y∈r,y.2=.free->(env.cells.lookup y.1).isSome=true:=λy hy=>h y (AG _ hy);rw[List.forIn_cons];unfold cloOf;by_cases hk:(k==CH)=true
  ·have hf:k=.free:=by simpa using hk
   obtain ⟨d,q⟩:=Fa.mp (h (n,k) AD hf);have q':env.cells.lookup n=some d:=q;have hcell:cellOf env n=pure d:=by unfold cellOf;rw[q']
   simp only[hk,if_true,hcell,pure_bind,q'];exact Rt r _ hr
  ·simp only[hk,if_false,pure_bind,AR]
   exact Rt r _ hr
theorem YQ{scope:E6}{env:Env}(h:∀y∈scope.names,y.2=.free->(env.cells.lookup y.1).isSome=true):closureFor scope env=pure (cloOf env.cells scope.names []):=by
 unfold closureFor;have e:=Rt (env:=env) scope.names [] h;simp only[bind_pure];exact e
theorem DQ{env:Env}:∀{names:List (Str×G7)}{x:Str},names.lookup x=some .free ->
  (names.map λ(n,k)=>if (k==CH&&env.scope.kind == .function&&env.kindOf n==some .cell) then (n,F6) else (n,k)).lookup x=some .cell \/
  (names.map λ(n,k)=>if (k==CH&&env.scope.kind == .function&&env.kindOf n==some .cell) then (n,F6) else (n,k)).lookup x=some .free
 | [],_,h=>by simp at h
 | (n,k)::r,x,h=>by
  have ih:=@DQ env r x;rw[BO];show ED x ((if (k==CH&&env.scope.kind == .function&&env.kindOf n==some .cell)=true then (n,F6) else (n,k))::_)=_\/ED x ((if (k==CH&&env.scope.kind == .function&&env.kindOf n==some .cell)=true then (n,F6) else (n,k))::_)=_;cases hx:x==n with
  | true =>
   rw[DJ,hx] at h;have hk:k=.free:=by simpa using h
   by_cases hc:(k==CH&&env.scope.kind == .function&&env.kindOf n==some .cell)=true
   ·rw[if_pos hc];left;rw[DJ,hx]
   ·rw[if_neg hc];right;rw[DJ,hx,hk]
  | false =>
   rw[DJ,hx] at h;by_cases hc:(k==CH&&env.scope.kind == .function&&env.kindOf n==some .cell)=true
   ·rw[if_pos hc];rw[DJ,hx];exact ih h
   ·rw[if_neg hc];rw[DJ,hx];exact ih h
theorem JL{env:Env}{x:Str}:∀{names:List (Str×G7)},(∀y∈names,y.2≠.cell) ->
  (
   (names.map λ(n,k)=>if (k==CH&&env.scope.kind == .function&&env.kindOf n==some .cell) then (n,F6) else (n,k)).lookup x=some .cell \/
   (names.map λ(n,k)=>if (k==CH&&env.scope.kind == .function&&env.kindOf n==some .cell) then (n,F6) else (n,k)).lookup x=some .free)->(x,CH)∈names
 | [],_,h=>by simp at h
 | (n,k)::r,hc,h=>by
  have ih:=@JL env x r λy hy=>hc y (AG _ hy);rw[BO] at h;have h':ED x ((if (k==CH&&env.scope.kind == .function&&env.kindOf n==some .cell)=true then (n,F6) else (n,k))::_)=_\/ED x ((if (k==CH&&env.scope.kind == .function&&env.kindOf n==some .cell)=true then (n,F6) else (n,k))::_)=_:=h;by_cases hb:(k==CH&&env.scope.kind == .function&&env.kindOf n==some .cell)=true
  ·rw[if_pos hb] at h'
   have hk:k=.free:=by simp at hb;exact hb.1.1
   rw[DJ] at h';cases hx:x==n with
   | true =>
    have:x=n:=eq_of_beq hx;subst this;subst hk;exact AD
   | false=>rw[hx] at h';exact AG _ (ih h')
  ·rw[if_neg hb] at h'
   rw[DJ] at h';cases hx:x==n with
   | true =>
    rw[hx] at h';have:x=n:=eq_of_beq hx;subst this;rcases h' with h' | h'
    ·exact absurd (BY h') (hc (x,k) AD)
    ·have hk:k=.free:=BY h'
     subst hk;exact AD
   | false=>rw[hx] at h';exact AG _ (ih h')
def compOk(osc sc:E6):Bool :=
 (decide (sc.kind=.function))&&sc.names.all (λy=>decide (y.2≠.cell))&&sc.names.all (λy=>decide (y.2=.local->sc.names.lookup y.1=some .local)) &&
  sc.names.all (λy=>decide (y.2=.free->osc.names.lookup y.1=some .cell\/osc.names.lookup y.1=some .free))
structure CompOk(osc sc:E6):Prop where
 kind:sc.kind=.function
 nocell:∀y∈sc.names,y.2≠.cell
 loc:∀y∈sc.names,y.2=.local->sc.names.lookup y.1=some .local
 free:∀y∈sc.names,y.2=.free->osc.names.lookup y.1=some .cell\/osc.names.lookup y.1=some .free
theorem CompOk.of{osc sc:E6}(h:compOk osc sc=true):CompOk osc sc:=by
 unfold compOk at h;rw[FL,FL,FL] at h;obtain ⟨⟨⟨h1,h2⟩,h3⟩,h4⟩:=h;exact ⟨of_decide_eq_true h1,λy hy=>of_decide_eq_true (FM.mp h2 y hy),λy hy=>of_decide_eq_true (FM.mp h3 y hy),λy hy=>of_decide_eq_true (FM.mp h4 y hy)⟩
abbrev cloX(X:Cx)(scope:E6):List (Str×Addr):=cloOf X.env.cells scope.names []
def cxComp(X:Cx)(N':List Str)(scope:E6)(fp:List Addr)(s:AA)(H:Hp):Cx where
 prog:=X.prog
 w:=X.w
 K:=X.K
 mg:=X.mg
 base:=X.base
 A:=X.A
 N:=N'
 s₀:=s
 H₀:=H
 env:=UU scope (cloX X scope) s.heap.objs.size X.env
 outer:=X.stack
 stack:=X.stack
 ex:=fp
 fn:=λ_=>false
 calm:=X.calm
 pn:=[]
 xe:=λ_ _=>False
def FreeAt(X:Cx)(sc:E6):List Str->List Nat->Prop
 | [],[]=>True
 | x::fr,j::ix=>(X.N[j]?=some x/\sc.names.lookup x=some .free)/\FreeAt X sc fr ix
 | _,_=>False
def start2(σ:St)(own:List Str)(ix:List Nat):St:=B4 own.length none++ix.map λj=>(σ[j]?).join
theorem Ri{X:Cx}{sc:E6}{σ:St}{own:List Str}:∀{fr:List Str}{ix:List Nat},FreeAt X sc fr ix->(start2 σ own ix).length=(own++fr).length:=by
 intro fr ix h;have:fr.length=ix.length:=by
  induction fr generalizing ix with
  | nil=>cases ix with
   | nil=>rfl
   | cons _ _=>exact h.elim
  | cons x fr ihf=>cases ix with
   | nil=>exact h.elim
   | cons j ix=>simp[ihf h.2]
 simp[start2,this]
theorem Ko{X:Cx}{sc:E6}{σ:St}{x:Str}{v:V}:∀{fr:List Str}{ix:List Nat}{i:Nat},FreeAt X sc fr ix->fr[i]?=some x->(ix.map λj=>(σ[j]?).join)[i]?=some (some v) ->
  ∃j:Nat,X.N[j]?=some x/\σ[j]?=some (some v)/\sc.names.lookup x=some .free
 | [],_,_,_,h,_=>by simp at h
 | _::_,[],_,h,_,_=>h.elim
 | y::fr,j::ix,0,h,h1,h2=>by
  have e1:y=x:=by simpa using h1
  subst e1;have e2:(σ[j]?).join=some v:=by simpa using h2
  refine ⟨j,h.1.1,?_,h.1.2⟩;cases q:σ[j]? with
  | none=>rw[q] at e2;cases e2
  | some o=>rw[q] at e2;cases o with
   | none=>cases e2
   | some z =>
         have:z=v:=by simpa using e2
         rw[this]
 | y::fr,j::ix,i+1,h,h1,h2=>Ko (fr:=fr) (ix:=ix) (i:=i) h.2 (by simpa using h1) (by simpa using h2)
theorem RX{X:Cx}{sc:E6}{σ:St}{own fr:List Str}{ix:List Nat}{i:Nat}{x:Str}{v:V}(h:FreeAt X sc fr ix)(h1:(own++fr)[i]?=some x)(h2:(start2 σ own ix)[i]?=some (some v)) :
  ∃j:Nat,X.N[j]?=some x/\σ[j]?=some (some v)/\sc.names.lookup x=some .free:=by
 by_cases hi:i<own.length
 ·unfold start2 at h2
  rw[Bi (by simpa using hi),HC,if_pos hi] at h2;cases h2
 ·unfold start2 at h2
  rw[Cn (by simpa using hi)] at h2;rw[Cn (by simpa using hi)] at h1;exact Ko h h1 (by simpa using h2)
def PIfs(X:Cx)(ifs:List Expr)(t:TT):Prop :=
 ∀(pins:List (Addr×Obj)) (s:AA) (σ:St) (H:Hp) (Q:Bool->Hp->Prop),Inv X pins σ H s->t σ H Q ->
  wpAny (AO X.prog X.w) X.A (forIn ifs true λc r=>if r=true then do let ok <- RI c X.env (eval c X.env);pure (CM ok) else pure (CM r)) (TP X pins σ Q) X.xe s
def ABh:TT:=λ_ H Q=>Q true H
theorem FW{X:Cx}:PIfs X [] ABh:=λ_ _ _ H _ I h=>wpAny_tests_nil ⟨H,I,h⟩
theorem Ce{X:Cx}{c:Expr}{t:TT}(h:PT X c t):PIfs X [c] t:=λpins s σ H Q I hw=>wpAny_tests_one (h pins s σ H Q I hw)
theorem Ft{prog:AL}{w:AQ}{A:BS}{R:R0->AA->Prop}{s:AA}{elt target iter:Expr}{ifs:List Expr}{scope:E6}{pos:Pos}{it acc:Ap}{env:Env}(I:Nat->AA->Prop)
  (turn:∀n s,I n s->wpAny (AO prog w) A (Kt it) (λr s₁=>match r with
   | none=>R (.ok .next) s₁
   | some v=>wpAny (AO prog w) A (KU target it v) (λ_ s₁'=>wpAny (AO prog w) A (N4 target env v) (λ_ s₂ =>
     wpAny (AO prog w) A (forIn ifs true λc r=>if r=true then do let ok <- RI c env (eval c env);pure (CM ok) else pure (CM r)) (λok s₃ =>
      if ok=true then wpAny (AO prog w) A (eval elt env) (λx s₄ =>
       wpAny (AO prog w) A (call (.builtin "list.append") [acc,x]) (λ_ s₅=>∃m,m<n/\I m s₅) (λ_ _=>False) s₄) (λ_ _=>False) s₃
      else ∃m,m<n/\I m s₃) (λ_ _=>False) s₂) (λ_ _=>False) s₁') (λ_ _=>False) s₁) (λ_ _=>False) s)
  (n:Nat) (h:I n s) :
  codeAny (AO prog w) A (.compLoop (.ListComp elt [⟨target,iter,ifs,0⟩] scope pos) 0 it acc env) R s:=by
 refine codeAny_loop rfl I (λn s hI=>?_) n h;show wpAny _ A ((compTurn (.ListComp elt [⟨target,iter,ifs,0⟩] scope pos) 0 it acc env).onRaise (λx=>do noteFrame x env;theTreesLotGoes x)) _ _ s;refine wpAny_noted ?_;rw[compTurn_list];refine As (wpAny_standAt (As (D5 (turn n s hI) (λr s₁ h₁=>?_) λ_ _ h'=>h'.elim)));cases r with
 | none=>exact wpAny_pure h₁
 | some v =>
  refine As (D5 h₁ (λ_ s₁' h₁'=>?_) λ_ _ h'=>h'.elim);refine As (D5 h₁' (λ_ s₂ h₂=>As (D5 h₂ (λok s₃ h₃=>?_) λ_ _ h'=>h'.elim)) λ_ _ h'=>h'.elim);cases ok with
  | false=>exact wpAny_pure ⟨rfl,h₃⟩
  | true =>
   exact As (As (D5 h₃ (λx s₄ h₄=>As (D5 h₄ (λ_ s₅ h₅=>wpAny_pure (wpAny_pure ⟨rfl,h₅⟩)) λ_ _ h'=>h'.elim)) λ_ _ h'=>h'.elim))
def Behind(X:Cx)(pins:List (Addr×Obj))(σ:St)(R:Hp->Prop)(C:Addr)(s':AA):Prop :=
 ∃(H':Hp) (m:Str->Option Ap),Inv X pins σ H' s'/\s'.heap.Ns C m/\FpOk X pins H' C/\R H'
theorem Inv.sameBut{X:Cx}{pins:List (Addr×Obj)}{σ:St}{H:Hp}{s:AA}{h':Heap}{C:Addr}(I:Inv X pins σ H s)(f:FpOk X pins H C)(sb:D6 C s.heap h'):Inv X pins σ H {s with heap:=h'}:=by
 obtain ⟨f0,f1,f2,f3,f4,f5⟩:=f;exact I.turned (t':=s.toks) (λb o hb e=>(sb.2 b hb).trans e) f0 f1 f3 f4 f5
def Fw(J:It)(D:Addr)(g:TG)(tc:TT)(te:TE)(R:Hp->Prop)(τ:St)(H:Hp):Prop :=
 ∃W:Nat->Nat->St->Hp->Prop,(∃m,W 0 m τ H)/\∀i m τ H,W i m τ H ->
  (J.stop i H/\R H)\/(J.go i H/\∃N:St->Hp->Prop,(∀τ' H',N τ' H'->∃m',m'<m/\W (i+1) m' τ' H')/\∀x H',J.yld i H x H'->g x τ H' λτ2 H2=>tc τ2 H2 λb H3 =>
   if b=true then te τ2 H3 λv H4=>∃ys,H4 D=some (.lst ys)/\ys.length<sizeLine/\N τ2 (upd H4 D (.lst (ys++[v]))) else N τ2 H3)
section
variable{X:Cx}{pins:List (Addr×Obj)}{σ:St}{H:Hp}{s:AA}{tg elt iter:Expr}{ifs:List Expr}{scope:E6}{pos:Pos}{own fr:List Str}{ix:List Nat}{g:TG}{tc:TT}{te:TE}{it:Addr}{fp:List Addr}
 {tn:Nat->Heap->Prop}{J:It}
theorem RW{R:Hp->Prop}{D:Addr}{h₁:Heap}{ob:Obj}{m0:Str->Option Ap}{tk:Nat}(hc:X.calm=true)(ok:CompOk X.env.scope scope)(hfr:FreeAt X scope fr ix)
  (hg:PG (cxComp X (own++fr) scope fp s H) tg g) (hi:PIfs (cxComp X (own++fr) scope fp s H) ifs tc) (he:PE (cxComp X (own++fr) scope fp s H) elt te)
  (I3:Inv X pins σ H s) (T:Turn X.prog X.w X.K tg J fp it tn) (st3:tn 0 s.heap) (f3:∀b∈fp,FpOk X pins H b)
  (hns:h₁.Ns s.heap.objs.size m0) (hsb:D6 s.heap.objs.size (s.heap.push ob) h₁) (hq:Fw J D g tc te R (start2 σ own ix) H) :
  codeAny (AO X.prog X.w) X.A (.compStart (.ListComp elt [⟨tg,iter,ifs,0⟩] scope pos) 0 (.ref it) (.ref D) (UU scope (cloX X scope) s.heap.objs.size X.env))
   (λr s'=>r=.ok .next/\Behind X pins σ R s.heap.objs.size s') {s with heap:=h₁,toks:=tk}:=by
 have old:∀b o,s.heap.get? b=some o->h₁.get? b=some o:=λb o e=>hsb.extBut b o (B2 (By e)) (AJ _ e);have sub:∀x c,(cloX X scope).lookup x=some c->X.env.cells.lookup x=some c:=Ln (λx c e=>by simp at e);have outerK:∀x,(x,CH)∈scope.names->X.env.kindOf x=some .cell\/X.env.kindOf x=some .free:=λx hx=>ok.free (x,.free) hx rfl;have has:∀x,(x,CH)∈scope.names->∃c,(cloX X scope).lookup x=some c:=λx hx=>by
  obtain ⟨c,hcl⟩:=I3.ok.has x (outerK x hx);exact Fa.mp (Mh (by rw[hcl];rfl) hx)
 have lt3:∀b∈fp,b<s.heap.objs.size:=λb hb=>by
  obtain ⟨o,ho,_⟩:=T.obj 0 _ st3 b hb;exact By ho
 have nostk:∀b∈fp,b∉frs X.stack:=λb hb hs=>by
  rcases Bz.mp (I3.stkSub b hs) with z | z
  ·exact (f3 b hb).2.1 z
  ·exact (f3 b hb).2.2.1 z
 have ncell:∀b∈fp,∀x c,(cloX X scope).lookup x=some c->c≠b:=λb hb x c h=>(f3 b hb).2.2.2.2.1 x c (sub x c h);have I4:Inv (cxComp X (own++fr) scope fp s H) [] (start2 σ own ix) H {s with heap:=h₁,toks:=tk}:=by
  refine ⟨⟨I3.ok.mod,ok.kind,I3.ok.glob,I3.ok.blt,AF _,?inj,?has,?cab,I3.ok.hd,I3.ok.frames,.inl rfl,?exf,I3.bs,BM I3.ok.bsz I3.sz,?noex,nostk,I3.stack,I3.stkFree⟩,
   rfl,I3.bare,Un.kept old,⟨m0,hns,?loc⟩,?cell,I3.hok.fresh (AF _),?freeC,?pin,I3.hok.kept old,?len⟩
  case inj=>exact λx y c h1 h2=>I3.ok.inj x y c (sub x c h1) (sub y c h2)
  case has=>exact λx hx=>has x (JL ok.nocell hx)
  case cab=>exact λx c h=>by cases h
  case exf=>exact λb hb=>⟨B2 (lt3 b hb),ncell b hb⟩
  case noex =>
   intro b o e hb;rcases (f3 b hb).2.2.2.1 with z | z
   ·exact I3.ok.noex b o e z
   ·exact absurd (Cc (Cc (By e) I3.ok.bsz) z) (FE _)
  case loc =>
   intro i x v e1 e2 e3;obtain ⟨j,a1,a2,a3⟩:=RX hfr e1 e2;have mem:(x,CH)∈scope.names:=FG a3;obtain ⟨m,hn,hl⟩:=I3.loc;have ok1:=outerK x mem;obtain ⟨u,r,l⟩:=hl j x v a1 a2 (ok1.elim (λz=>.inr (.inl z)) λz=>.inr (.inr z));rcases l with⟨k,_⟩ | ⟨k,c,hcl,o,ho,hd⟩
   ·rcases ok1 with z | z
    ·rw[k] at z;cases z
    ·rw[k] at z;cases z
   ·obtain ⟨c',hc'⟩:=has x mem
    have e:=sub x c' hc';rw[hcl] at e;cases e;exact ⟨u,r,.inr ⟨DQ a3,c,hc',o,old _ _ ho,hd⟩⟩
  case cell =>
   intro x c h;obtain ⟨v,o,ho,hd⟩:=I3.cell x c (sub x c h);exact ⟨v,o,old _ _ ho,hd⟩
  case freeC=>exact λx c h=>I3.freeC x c (sub x c h)
  case pin=>exact λp hp=>absurd (show p∈([]:List (Addr×Obj)) from hp) (by simp)
  case len=>exact Ri hfr
 have st4:tn 0 h₁:=T.keep 0 _ _ st3 λb _ o e=>old b o e;have stat:∀{H':Hp},(∀b∈fp,H' b=none)->∀b∈fp,FpOk (cxComp X (own++fr) scope fp s H) [] H' b:=λ{H'} hn b hb =>
  ⟨hn b hb,B2 (lt3 b hb),nostk b hb,.inl hb,ncell b hb,λp hp=>absurd (show p∈([]:List (Addr×Obj)) from hp) (by simp)⟩
 obtain ⟨W,⟨m1,w0⟩,turn⟩:=hq;have loop:codeAny (AO X.prog X.w) X.A (.compLoop (.ListComp elt [⟨tg,iter,ifs,0⟩] scope pos) 0 (.ref it) (.ref D) (UU scope (cloX X scope) s.heap.objs.size X.env))
   (λr s'=>r=.ok .next/\Behind X pins σ R s.heap.objs.size s') {s with heap:=h₁,toks:=tk}:=by
  refine Ft (λn s'=>∃i τ H',Inv (cxComp X (own++fr) scope fp s H) [] τ H' s'/\tn i s'.heap/\(∀b∈fp,H' b=none)/\W i n τ H') ?_ m1 ⟨0,_,H,I4,st4,λb hb=>(f3 b hb).1,w0⟩;rintro n s5 ⟨i,τ5,H5,I5,st5,fr5,w5⟩;rcases turn i n τ5 H5 w5 with⟨stop,qn⟩ | ⟨go,N,hN,step⟩
  ·refine thn (T.done (cxComp X (own++fr) scope fp s H) rfl rfl rfl hc i [] s5 τ5 H5 _ I5 (stat fr5) st5 stop) λr s6 ⟨hr,I6⟩=>?_
   subst hr;obtain ⟨m6,hn6,_⟩:=I6.loc;exact ⟨rfl,H5,m6,I3.call' (ch:=fp) I6.os I6.base I6.hok I6.bare (λb hb=>⟨(f3 b hb).2.2.2.1,(f3 b hb).2.1,(f3 b hb).2.2.2.2.1,(f3 b hb).2.2.2.2.2⟩),hn6,I3.fpOk (AF _) I6.free,qn⟩
  ·refine thn (T.item (cxComp X (own++fr) scope fp s H) rfl rfl rfl hc i [] s5 τ5 H5 _ I5 (stat fr5) st5 go) λr s6 ⟨u,hr,h6⟩=>?_
   subst hr;refine thn h6 λ_ s7 ⟨x,H7,I7,r7,y7,st7,fr7⟩=>?_;have I7':=I7.pinned (stat fr7) (T.obj _ _ st7);have again:∀{τ8:St}{H8:Hp}{s8:AA},Inv (cxComp X (own++fr) scope fp s H) ([]++pinsAt fp s7.heap) τ8 H8 s8->N τ8 H8 ->
     ∃m,m<n/\∃i τ H',Inv (cxComp X (own++fr) scope fp s H) [] τ H' s8/\tn i s8.heap/\(∀b∈fp,H' b=none)/\W i m τ H':=λ{τ8 H8 s8} I8 n8=>by
    obtain ⟨m',hm,w8⟩:=hN τ8 H8 n8;refine ⟨m',hm,i+1,τ8,H8,I8.unpinned,T.keep _ _ _ st7 λb hb o e=>(I8.pin (b,o) (B6 _ (B6 _ (Es hb e)))).1,λb hb=>?_,w8⟩;obtain ⟨o,e,d⟩:=T.obj _ _ st7 b hb;exact (I8.pin (b,o) (B6 _ (B6 _ (Es hb e)))).2.1
   refine thn (hg _ s7 τ5 H7 x u _ I7' r7 (step x H7 y7)) λ_ s8 ⟨τ8,H8,I8,q8⟩=>?_;refine thn (hi _ s8 τ8 H8 _ I8 q8) λb s9 ⟨H9,I9,q9⟩=>?_;cases b with
   | false=>exact again I9 q9
   | true =>
    refine thn (he _ s9 τ8 H9 _ I9 q9) λuv s10 ⟨v,H10,I10,r10,ys,hD,hz,q10⟩=>?_;refine thn (CZ (X:=cxComp X (own++fr) scope fp s H) _ s10 τ8 H10 (.ref D) [v] (.ref D) [uv] (λ_ H'=>N τ8 H') I10 rfl (.cons r10 .nil) ⟨D,ys,v,rfl,rfl,hD,hz,q10⟩) λ_ s11 ⟨_,H11,I11,_,q11⟩=>?_;exact again I11 q11
 exact codeAny_compStart_list loop (T.self X.A 0 _ _ _ st4 loop)
theorem QK{R:V->Hp->Prop}(hc:X.calm=true)(ok:CompOk X.env.scope scope)(hfr:FreeAt X scope fr ix)
  (hg:∀fp s H,PG (cxComp X (own++fr) scope fp s H) tg g) (hi:∀fp s H,PIfs (cxComp X (own++fr) scope fp s H) ifs tc) (he:∀fp s H,PE (cxComp X (own++fr) scope fp s H) elt te)
  (I2:Inv X pins σ H s) (T:Turn X.prog X.w X.K tg J fp it tn) (st2:tn 0 s.heap) (f2:∀b∈fp,FpOk X pins H b)
  (hq:∀D,H D=none->Fw J D g tc te (R (.ref D)) (start2 σ own ix) (upd H D (.lst []))) {E:Ap->AA->Prop} :
  wpAny (AO X.prog X.w) X.A (SO []) (λacc s₃=>wpAny (AO X.prog X.w) X.A (newFunctionEnv scope X.env.globals (cloX X scope) [] X.env.qual none .none (some X.env)) (λcenv s₄ =>
   codeAny (AO X.prog X.w) X.A (.compStart (.ListComp elt [⟨tg,iter,ifs,0⟩] scope pos) 0 (.ref it) acc {cenv with scope:=relabel scope X.env})
    (λr s'=>r=.ok .next/\∃v,RelV v acc/\Behind X pins σ (R v) cenv.locals s') s₄) E s₃) E s:=by
 refine DB (wpAny_newFunctionEnv ok.nocell (by intro y hy;simp at hy) (λh₁ hns₁ hsb₁=>?_) ok.kind);have hD:H s.heap.objs.size=none:=I2.hok.fresh (AF _);have I3:Inv X pins σ (upd H s.heap.objs.size (.lst [])) {s with heap:=s.heap.push {cls:=.type "list",dict:=none,data:=.seq ([]:List Ap).toArray}} :=
  I2.laid (t':=s.toks) (λb u e=>AJ _ e) (AF _) ⟨BH _,[],0,.nil,AW _ rfl⟩
 have st3:tn 0 (s.heap.push {cls:=.type "list",dict:=none,data:=.seq ([]:List Ap).toArray}):=T.keep 0 _ _ st2 λb _ o e=>AJ _ e;have f3:∀b∈fp,FpOk X pins (upd H s.heap.objs.size (.lst [])) b:=λb hb=>by
  obtain ⟨f0,fr⟩:=f2 b hb;obtain ⟨o,ho,_⟩:=T.obj 0 _ st2 b hb;exact ⟨by rw[Ae (B2 (By ho))];exact f0,fr⟩
 refine E9 (RW (R:=R (.ref s.heap.objs.size)) (D:=s.heap.objs.size) hc ok hfr (hg _ _ _) (hi _ _ _) (he _ _ _) I3 T st3 f3 hns₁ hsb₁ (hq _ hD)) λr s' ⟨e,b⟩=>⟨e,V.ref s.heap.objs.size,rfl,b⟩
def ABa(own:List Str)(ix:List Nat)(wi:TI)(g:TG)(tc:TT)(te:TE):TE:=λσ H Q=>wi σ H λJ H1=>∀D,H1 D=none->Fw J D g tc te (Q (.ref D)) (start2 σ own ix) (upd H1 D (.lst []))
end
section
variable{X:Cx}{tg elt iter:Expr}{ifs:List Expr}{scope:E6}{pos:Pos}{g:TG}{tc:TT}{te:TE}{wi:TI}
theorem Mt{pins:List (Addr×Obj)}{σ:St}{H:Hp}{s:AA}(I:Inv X pins σ H s)(ok:CompOk X.env.scope scope):∀y∈scope.names,y.2=.free->(X.env.cells.lookup y.1).isSome=true:=λy hy hf=>by
 obtain ⟨c,h⟩:=I.ok.has y.1 (ok.free y hy hf);rw[h];rfl
theorem Ca(osc:E6)(own fr:List Str)(ix:List Nat)(hc:X.calm=true)(ho:X.env.scope=osc)(hok:compOk osc scope=true)(hfr:FreeAt X scope fr ix)(hit:PI X tg iter wi)
  (hg:∀fp s H,PG (cxComp X (own++fr) scope fp s H) tg g) (hi:∀fp s H,PIfs (cxComp X (own++fr) scope fp s H) ifs tc) (he:∀fp s H,PE (cxComp X (own++fr) scope fp s H) elt te)
  (hs:∀x,Me iter X.env x=pure x:=by intro _;rfl):PE X (.ListComp elt [⟨tg,iter,ifs,0⟩] scope pos) (ABa own ix wi g tc te):=by
 intro pins s σ H Q I h;have ok:=CompOk.of (ho ▸ hok);rw[eval_ListComp];refine MX (use:=none) rfl hs (YQ (Mt I ok)) ok.kind ok.loc (thn (hit pins s σ H _ I h) λxv s₁ h₁=>thn h₁ λitv s₂ h₂=>?_);obtain ⟨it,fp,tn,J,H2,rfl,I2,T,st2,f2,hq⟩:=h₂;refine thn (QK (R:=Q) hc ok hfr hg hi he I2 T st2 f2 hq) λacc s₃ h₃=>thn h₃ λcenv s₄ h₄=>E9 h₄ λr s' ⟨hr,v,rv,H',m,I',hn,fpo,q⟩=>?_;subst hr;exact ⟨m,hn,λh' sb=>⟨v,H',I'.sameBut fpo sb,rv,q⟩⟩
set_option tactic.hygienic true in
theorem Og{i:Nat}{x:Str}{pos' spos:Pos}(osc:E6)(own fr:List Str)(ix:List Nat)(hN:X.N.Nodup)(hx:X.N[i]?=some x)(hl:Loc X.env.scope x)(hc:X.calm=true)(ho:X.env.scope=osc)(hok:compOk osc scope=true)(hfr:FreeAt X scope fr ix)(hit:PI X tg iter wi)
  (hg:∀fp s H,PG (cxComp X (own++fr) scope fp s H) tg g) (hi:∀fp s H,PIfs (cxComp X (own++fr) scope fp s H) ifs tc) (he:∀fp s H,PE (cxComp X (own++fr) scope fp s H) elt te)
  (hsw:LP (.ListComp elt [⟨tg,iter,ifs,0⟩] scope pos) (some (.Name x pos')) spos.line X.env=pure true:=by rfl) (hs:∀x,Me iter X.env x=pure x:=by intro _;rfl)
  (hf:X.fn x=true\/X.env.scope.names.lookup x=some .local:=by first | exact .inl rfl | exact .inr rfl | assumption) :
  PS X (.Assign [.Name x pos'] (.ListComp elt [⟨tg,iter,ifs,0⟩] scope pos) spos) (ACf (ABa own ix wi g tc te) (gName i)):=by
 intro pins s σ H D I h;have ok:=CompOk.of (ho ▸ hok);rw[exec_Assign_Name_used _ _ _ _ hsw];refine As (wpAny_standAt (As ?_));show wpAny _ X.A (do let _ <- comprehension (.ListComp elt [⟨tg,iter,ifs,0⟩] scope pos) scope X.env _ (SO []) false (eval iter X.env) (some (N4 (.Name x pos') X.env))) _ _ s;refine As (D5 (MX (use:=some (N4 (.Name x pos') X.env)) (Q:=λ_ s'=>SP X pins D .next s') rfl hs (YQ (Mt I ok)) ok.kind ok.loc
  (thn (hit pins s σ H _ I h) λxv s₁ h₁=>thn h₁ λitv s₂ h₂=>?_)) (λ_ s' hq=>wpAny_pure (wpAny_pure hq)) λ_ _ e=>e)
 obtain ⟨it,fp,tn,J,H2,rfl,I2,T,st2,f2,hq⟩:=h₂;refine thn (QK (R:=λv H'=>D.nx (σ.set i (some v)) H') hc ok hfr hg hi he I2 T st2 f2 hq) λacc s₃ h₃=>thn h₃ λcenv s₄ h₄=>E9 h₄ λr s' ⟨hr,v,rv,H',m,I',hn,fpo,q⟩=>?_;subst hr;show wpAny _ X.A (N4 (.Name x pos') X.env acc) _ _ s';refine P8 (Lh I' hN hx hl rv (λs'' I'' hch=>?_) hf);obtain ⟨a,sb,ha⟩:=hch;have hCa:cenv.locals≠a:=by
  rcases ha with z | z
  ·rw[z];exact fpo.2.1
  ·exact λe=>fpo.2.2.2.2.1 x a z e.symm
 exact ⟨m,hn.sameBut sb hCa,λh' sb'=>⟨_,H',I''.sameBut fpo sb',q⟩⟩
end
section
variable{prog:AL}{w:AQ}{A:BS}{E:Ap->AA->Prop}{s:AA}
theorem Gz{it l:Addr}{i:Nat}{items}{x:Ap}{Q:Ap->AA->Prop}(hit:s.heap.IsTupleIter it l i)
  (hl:s.heap.IsTuple l items) (hx:items[i]?=some x)
  (hQ:∀h',h'.IsTupleIter it l (i+1)->D6 it s.heap h'->Q x {s with heap:=h'}) :
  wpAny (AO prog w) A (GN (.ref it)) Q E s:=by
 obtain ⟨o,ho,hc,hd⟩:=id hit;obtain ⟨ol,hol,_,nl,hdl⟩:=hl;unfold GN;refine As (wpAny_callSpecial?_slot (name:=IF "__next__") hit.typeIs F7
  (Do F7 hit.typeIs LX ?_ (LD _)))
 show wpAny _ _ (field (.ref it) 0 >>= _) _ _ s;refine As (NV ho hd (x:=.ref l) rfl ?_);show wpAny _ _ (if (AT l==CL)=true then _ else _) _ _ s;rw[if_neg (show ¬ ((AT l==CL)=true) from BA)];show wpAny _ _ (field (.ref it) 1 >>= _) _ _ s;refine As (NV ho hd (x:=.int i 0) rfl ?_);show wpAny _ _ (Pp (.ref l) >>= _) _ _ s;refine As (IG hol hdl ?_);simp only[DO,hx];refine As (G3 ho hd (by simp) (wpAny_pure ⟨x,rfl,wpAny_pure (hQ _ ?_ (Dx ..))⟩));exact ⟨_,Eg _ ho (IH (Ex hd _)),(Ki ..).trans hc,by
  rw[Ex hd];simp[E8]⟩
theorem JB{it l:Addr}{i:Nat}{items}{Q:Ap->AA->Prop}(hh:A.handled=none)
  (hit:s.heap.IsTupleIter it l i) (hl:s.heap.IsTuple l items) (hx:items[i]?=none)
  (hE:∀h' e,QU it s.heap h'->(∃o,h'.get? e=some o/\o.cls=.type "StopIteration")->E (.ref e) {s with heap:=h'}) :
  wpAny (AO prog w) A (GN (.ref it)) Q E s:=by
 obtain ⟨o,ho,hc,hd⟩:=id hit;obtain ⟨ol,hol,_,nl,hdl⟩:=hl;unfold GN;refine As (wpAny_callSpecial?_slot (name:=IF "__next__") hit.typeIs F7
  (Do F7 hit.typeIs LX ?_ (LD _)))
 show wpAny _ _ (field (.ref it) 0 >>= _) _ _ s;refine As (NV ho hd (x:=.ref l) rfl ?_);show wpAny _ _ (if (AT l==CL)=true then _ else _) _ _ s;rw[if_neg (show ¬ ((AT l==CL)=true) from BA)];show wpAny _ _ (field (.ref it) 1 >>= _) _ _ s;refine As (NV ho hd (x:=.int i 0) rfl ?_);show wpAny _ _ (Pp (.ref l) >>= _) _ _ s;refine As (IG hol hdl ?_);simp only[DO,hx];refine As (GV (As (G3 ho hd (by simp) ?_)));show wpAny _ _ (Ps (.type "StopIteration") [] >>= _) _ _ _;refine As ?_;simp only[Ps,UV];refine As (DB ?_ (by size_fits));refine As (m:=IJ _ _) (KA (a:=CL) (by first | rfl | (simp only[IJ];rfl)) ?_);refine DB ?_ (by size_fits);simp only[Q8];refine As (OX ?_)
 first | rw[show A.in1.handled=none from hh] | rw[hh]
 refine As (wpAny_pure (QY ?_));exact hE _ _ (((Dx ..).extBut.push _).push _) ⟨_,AW _ rfl,rfl⟩
end
theorem Qe{prog:AL}{w:AQ}{A:BS}(hh:A.handled=none)(it l:Addr)(hne:l≠it)(items:Array Ap) :
  Draws prog w A it [it,l] items.size (λi v=>items[i]?=some v) (λi h=>h.IsTupleIter it l i/\h.IsTuple l items) where
 live:=λ_ _ st=>let ⟨o,ho,_⟩:=st.1;⟨o,ho⟩
 frame:=λ_ _ _ st hk=>⟨st.1.at λo e=>hk it (by simp) o e,st.2.at λo e=>hk l (by simp) o e⟩
 item:=λi s Q E hi st hQ=>by
  refine Gz st.1 st.2 (x:=items[i]) (by simp[hi]) λh' hit' hs'=>?_;exact hQ _ h' s.toks (by simp[hi]) ⟨hit',st.2.extBut hs'.extBut hne⟩ hs'
 done:=λs Q E st hE=>JB hh st.1 st.2 (by simp) hE
section
open AutoSeq1 (wpAny_loadPart')
set_option tactic.hygienic true in
theorem FJ(l:Addr)(items:Array Ap)(n:Nat)(dct:Option Addr)(sl:Array (Option Ap)) :
  Meets (Builtin.«enumerate.__new__» ⟨[.type "enumerate",.ref l],[]⟩) (λ_ R s=>s.heap.get? l=some {cls:=.type "tuple",dict:=dct,data:=.seq items n,slots:=sl} /\
   R (.ok (.ret (.ref (s.heap.push {cls:=.type "tuple_iterator",data:=.fields #[.ref l,.int 0 0]}).objs.size)))
    {s with heap:=(s.heap.push {cls:=.type "tuple_iterator",data:=.fields #[.ref l,.int 0 0]}).push {cls:=.type "enumerate",data:=.fields #[.none,.bool false,.ref s.heap.objs.size,E8 0,.none,.none]}}) :=
 .of_wp λprog w A R s h=>by
  obtain ⟨hp,g,d,tk,os⟩:=s;obtain ⟨hl,h⟩:=h;have hsub:=sub_enumerate;have hL:Heap.IsTuple (Shared.heap ⟨hp,g,d,tk,os⟩) l items:=⟨_,hl,rfl,n,rfl⟩
  wp_walk using wpAny_loadPart' hl
  refine wpAny_stack_any λst=>wpAny_pure ?_;split
  ·rename_i c _ _ _ _ _
   cases (c==D4 "enumerate")
   ·wp_walk using wpAny_loadPart' hl,JP hL
    exact ⟨_,rfl,h⟩
   ·wp_walk using wpAny_loadPart' hl,JP hL
    exact ⟨_,rfl,h⟩
  ·wp_walk using wpAny_loadPart' hl,JP hL
   exact ⟨_,rfl,h⟩
end
theorem Fq{prog:AL}{w:AQ}{A:BS}{E:Ap->AA->Prop}{s:AA}{l:Addr}{items:Array Ap}{Q:Ap->AA->Prop}(hL:s.heap.IsTuple l items)
  (h:∀h',Sc h' (s.heap.objs.size+1) s.heap.objs.size 0 .none->h'.IsTupleIter s.heap.objs.size l 0->h'.objs.size=s.heap.objs.size+2 ->
   (∀b o,s.heap.get? b=some o->h'.get? b=some o)->Q (.ref (s.heap.objs.size+1)) {s with heap:=h'}) :
  wpAny (AO prog w) A (call (.type "enumerate") [.ref l]) Q E s:=by
 obtain ⟨⟨c,dct,dt,sl⟩,hl,hc,n,hd⟩:=hL
 replace hc:c=.type "tuple":=hc
 replace hd:dt=.seq items n:=hd
 subst hc hd;refine callType_new F.called_enumerate (by decide) (F.typeCall_enumerate_1 _) (F.newCall_enumerate_1 _) (λobj=>F.args_object_init_2 obj _) F.entry_enumerate_new
  (FJ l items n dct sl) ⟨hl,?_⟩
 have hz:(s.heap.push {cls:=.type "tuple_iterator",data:=.fields #[.ref l,.int 0 0]}).objs.size=s.heap.objs.size+1:=EU ..;show _/\_;rw[hz];have he:Sc ((s.heap.push {cls:=.type "tuple_iterator",data:=.fields #[.ref l,.int 0 0]}).push
   {cls:=.type "enumerate",data:=.fields #[.none,.bool false,.ref s.heap.objs.size,E8 0,.none,.none]}) (s.heap.objs.size+1) s.heap.objs.size 0 .none:=by
  have:=AW (s.heap.push {cls:=.type "tuple_iterator",data:=.fields #[.ref l,.int 0 0]})
   (o:={cls:=.type "enumerate",data:=.fields #[.none,.bool false,.ref s.heap.objs.size,E8 0,.none,.none]}) rfl
  rw[hz] at this;exact this
 refine ⟨⟨_,he,rfl⟩,h _ he ⟨_,AJ _ (AW _ rfl),rfl,rfl⟩ (by rw[EU,hz]) λb o x=>AJ _ (AJ _ x)⟩
section
variable{X:Cx}{pins:List (Addr×Obj)}{σ:St}{H:Hp}{s:AA}{h':Heap}
theorem Inv.walked{t':Nat}{wr:List Addr}(I:Inv X pins σ H s)(k:∀b o,b∉wr->s.heap.get? b=some o->h'.get? b=some o)(hf:∀b∈wr,FpOk X pins H b):Inv X pins σ H {s with heap:=h',toks:=t'}:=by
 have nit:∀b u,H b=some u->b∉wr:=λb u e z=>by rw[(hf b z).1] at e;cases e
 refine I.step (g':=s.gens) (d':=s.drawn) (ch:=wr) (λb hb=>?_) (λb o _ _ hc e _=>k b o hc e) (λb o _ _ hc e _=>⟨o.slots,k b o hc e⟩) (λ_ _ _ _ n=>n)
  (λb o hc e=>⟨o,k b o hc e⟩) (λ_ _ e=>e) (λ_ _ _ e=>e) (λb ps e=>⟨#[],by rw[e];simp⟩) (λm hm=>?_) (λb u e=>?_) I.bare
 ·obtain ⟨f0,f1,f2,f3,f4,f5⟩:=hf b hb
  exact ⟨f3,f1,f4,f5⟩
 ·obtain ⟨o,es,ep,ho,r⟩:=hm
  exact ⟨o,es,ep,k _ o (λz=>(hf _ z).2.1 rfl) ho,r⟩
 ·refine (I.hok b u e).stay (λc v hc q=>k c v ?_ q) (λ_ q=>q) λ_ _ q=>q
  rcases hc with z | z
  ·rw[z];exact nit b u e
  ·exact nit c _ z
theorem Inv.track{a:Addr}{o:HO}(I:Inv X pins σ H s)(f:FpOk X pins H a)(new:ObjOk X.prog X.w (upd H a o) s.heap a o):Inv X pins σ (upd H a o) s:=by
 obtain ⟨f0,f1,f2,f3,f4,f5⟩:=f;have ne:∀b u,H b=some u->b≠a:=λb u e z=>by rw[z,f0] at e;cases e
 obtain ⟨hh,g,d,t,os⟩:=s;refine I.step (h':=hh) (g':=g) (d':=d) (t':=t) (ch:=[a]) (λb hb=>?_) (λb o _ _ _ e _=>e) (λb o _ _ _ e _=>⟨o.slots,e⟩) (λb o hc _ n=>?_) (λb o _ e=>⟨o,e⟩)
  (λb xs e=>?_) (λb u xs e=>?_) (λb ps e=>⟨#[],?_⟩) (λm hm=>hm) (λb u e=>?_) I.bare
 ·have e:b=a:=by simpa using hb
  subst e;exact ⟨f3,f1,f4,f5⟩
 ·rw[Ae (λz=>hc (by simp[z]))];exact n
 ·rw[Ae (ne b _ e)];exact e
 ·rw[Ae (ne b _ e)];exact e
 ·rw[Ae (ne b _ e),e];simp
 ·by_cases hb:b=a
  ·subst hb;rw[Ab] at e;cases e;exact new
  ·rw[Ae hb] at e
   exact (I.hok b u e).stay (λ_ _ _ q=>q) (λc q=>by rw[Ae (ne c _ q)];exact q) λc xs q=>by rw[Ae (ne c _ q)];exact q
end
def Ien(S:Hp->List V->Prop):It :=
 ⟨λi H=>∃xs x,S H xs/\xs[i]?=some x,λi H v H'=>∃T x,v=.ref T/\H T=none/\H'=upd H T (.tup [.int i,x])/\∀xs,S H xs->xs[i]?=some x,λi H=>∃xs,S H xs/\xs.length=i⟩
theorem WX{P:AL}{w:AQ}{K:Au}{elts:List Expr}{k:Nat}{tp:Pos}{S:Hp->List V->Prop}{e it l:Addr}{St0:Nat->Heap->Prop}
  (hei:e≠it)
  (obj:∀i h,St0 i h->∃o,h.get? it=some o/\∀v,o.data≠.cell v)
  (keep:∀i h h',St0 i h->(∀o,h.get? it=some o->h'.get? it=some o)->St0 i h')
  (drw:∀(X:Cx),X.prog=P->X.w=w->X.K=K->X.calm=true->∀(i:Nat) (pins:List (Addr×Obj)) (s:AA) (σ:St) (H:Hp) (xs:List V),Inv X pins σ H s->St0 i s.heap->(∃old,Sc s.heap e it i old)->S H xs ->
   ∃(its:List Ap) (fp:List Addr) (St:Nat->Heap->Prop),Vals xs its/\Draws P w X.A.in1 it fp its.toArray.size (λi v=>its.toArray[i]?=some v) St/\St i s.heap/\e∉fp/\it∈fp/\(∀j h,St j h->St0 j h))
  (inj:∀(X:Cx),X.K=K->∀(pins:List (Addr×Obj)) (s:AA) (σ:St) (H:Hp) (xs ys:List V),Inv X pins σ H s->S H xs->S H ys->xs=ys) :
  Turn P w K (.Tuple elts k tp) (Ien S) [e,it] e (λi h=>(∃old,Sc h e it i old)/\St0 i h) where
 mem:=by simp
 obj:=λi h st b hb=>by
  obtain ⟨⟨old,he⟩,hs⟩:=st;rcases Bz.mp hb with rfl | hb
  ·exact ⟨_,he,λv z=>by
    have z':QR _=S7 v:=z;cases z'⟩
  ·have e1:b=it:=by simpa using hb
   subst e1;exact obj i h hs
 keep:=λi h h' st k=>⟨let ⟨old,he⟩:=st.1;⟨old,k e (by simp) _ he⟩,keep i h h' st.2 λo q=>k it (by simp) o q⟩
 item:=by
  intro X hP hw hK hc i pins s σ H E I hf st hg;obtain ⟨xs,x,hq,hx⟩:=hg;obtain ⟨its,fp,St,rv,Dr,hst,hef,hif,hback⟩:=drw X hP hw hK hc i pins s σ H xs I st.2 st.1 hq;subst hP hw;obtain ⟨u,hu,ru⟩:=rv.get hx;have hi:i<its.toArray.size:=by rw[A7];exact (AH.mp hu).1
  have hu':its.toArray[i]?=some u:=by simpa using hu
  have WT:=Qr Dr e hei hef hif;refine WT.item i s _ _ hi ⟨st.1,hst⟩ λT vals h' tk hPt hsz hT hmid hk=>⟨.ref T,rfl,?_⟩;obtain ⟨t,y,hy,rfl⟩:=hPt;have hTw:T∉[e,it]:=WT.apart i T _ hmid;rw[hu'] at hy;have hy':u=y:=BY hy;subst hy';have hwr:∀b∈[e,it],FpOk X pins H b:=hf;have I1:Inv X pins σ H {s with heap:=h',toks:=tk}:=I.walked hk hwr;have hTn:H T=none:=I.hok.fresh hsz;have I2:Inv X pins σ (upd H T (.tup [.int i,x])) {s with heap:=h',toks:=tk}:=by
   refine I1.track (I.fpOk hsz hTn) ⟨by show 2<=sizeLine;decide,[.int i t,u],.cons ⟨t,rfl⟩ (.cons ru .nil),?_⟩;exact hT
  have hwr2:∀b∈[e,it],FpOk X pins (upd H T (.tup [.int i,x])) b:=λb hb=>by
   obtain ⟨f0,fr⟩:=hf b hb;have ne:b≠T:=λz=>hTw (by rw[<- z];exact hb);exact ⟨by rw[Ae ne];exact f0,fr⟩
  refine WT.go elts k tp i T _ _ _ hmid λh'' hst'' hk''=>?_;refine ⟨.ref T,_,I2.walked (t':=tk) hk'' hwr2,rfl,⟨T,x,rfl,hTn,rfl,λys hy=>by rw[inj X hK pins s σ H ys xs I hy hq];exact hx⟩,⟨hst''.1,hback _ _ hst''.2⟩,λb hb=>(hwr2 b hb).1⟩
 done:=by
  intro X hP hw hK hc i pins s σ H E I hf st hg;obtain ⟨xs,hq,hx⟩:=hg;obtain ⟨its,fp,St,rv,Dr,hst,hef,hif,hback⟩:=drw X hP hw hK hc i pins s σ H xs I st.2 st.1 hq;subst hP hw;have hl:=rv.length;have hi:i=its.toArray.size:=by rw[A7];lia
  subst hi;exact (Qr Dr e hei hef hif).done s _ _ ⟨st.1,hst⟩ λh' tk hk=>⟨rfl,I.walked hk hf⟩
 self:=λA i s Q E st h=>by
  obtain ⟨⟨old,he⟩,_⟩:=st;exact QA he h
theorem Xo{h:Heap}{a b:Addr}{o u:Obj}(ha:h.get? a=some o)(hb:h.get? b=some u)(hc:o.cls≠u.cls):a≠b:=λe=>by
 subst e;rw[ha] at hb;cases hb;exact hc rfl
theorem Rr{P:AL}{w:AQ}{K:Au}{elts:List Expr}{k:Nat}{tp:Pos}{e it a:Addr}(hei:e≠it) :
  Turn P w K (.Tuple elts k tp) (Ien λH xs=>SqT K H a xs) [e,it] e (λi h=>(∃old,Sc h e it i old)/\h.IsTupleIter it a i):=by
 refine WX (l:=a) hei (λi h st=>?_) (λi h h' st k=>st.at k) (λX hP hw hK hc i pins s σ H xs I st he hq=>?_) (λX hK pins s σ H xs ys I h1 h2=>?_)
 ·obtain ⟨o,e,c,d⟩:=st
  exact ⟨o,e,λv z=>by rw[d] at z;cases z⟩
 ·subst hP hw hK
  obtain ⟨its,rv,p,hz⟩:=I.tuple hq;obtain ⟨old,he⟩:=he;obtain ⟨ol,hol,hcl,_⟩:=id p;obtain ⟨oi,hoi,hci,_⟩:=id st;have h1:a≠it:=Xo hol hoi (by rw[hcl,hci];decide);have h2:e≠a:=Xo he hol (by rw[hcl];show D4 "enumerate"≠D4 "tuple";decide);exact ⟨its,[it,a],_,rv,Qe (A:=X.A.in1) (I.ok.hd hc) it a h1 its.toArray,⟨st,p⟩,by simp[hei,h2],by simp,λj h z=>z.1⟩
 ·subst hK
  exact I.tuple_inj h1 h2
section
variable{X:Cx}{elts:List Expr}{k:Nat}{tp:Pos}
def ADo(K:Au)(ta:TA):TI:=λσ H R=>ta σ H λvs H1=>∃a,vs=[.ref a]/\(∃xs,SqT K H1 a xs)/\R (Ien λH xs=>SqT K H a xs) H1
theorem Jz{l:Expr}{ta:TA}{p pos:Pos}(hg:Gl X "enumerate")(hm:X.mg "enumerate" = none)(ha:PA X [l] ta)(hs:Cf [l] X.env=[(false,eval l X.env)]:=by rfl) :
  PI X (.Tuple elts k tp) (.Call (.Name "enumerate" p) [l] [] pos) (ADo X.K ta):=by
 intro pins s σ H R I h;refine Call_ (Ep I hg hm boot_enumerate (D2 (thn (ha pos pins s σ H _ I h) λus s1 ⟨vs,H1,I1,r1,q1⟩=>?_) hs rfl));obtain ⟨a,rfl,⟨xs,hq⟩,q⟩:=q1;obtain ⟨u,rfl,ru⟩:=r1.one;cases ru;obtain ⟨its,rv,pl,hz⟩:=I1.tuple hq;refine Fq pl λh' he hit hsz hk=>QA he ?_;have I2:Inv X pins σ H1 {s1 with heap:=h'}:=I1.kept (t':=s1.toks) hk;refine ⟨s1.heap.objs.size+1,[s1.heap.objs.size+1,s1.heap.objs.size],_,_,H1,rfl,I2,Rr (Nat.succ_ne_self _),⟨⟨_,he⟩,hit⟩,λb hb=>?_,q⟩;have e:s1.heap.objs.size<=b:=by
  rcases Bz.mp hb with rfl | hb
  ·exact NN _
  ·rw[B5.mp hb];exact AF _
 exact I1.fpOk e (I1.hok.fresh e)
end
theorem Hu{J:It}{D:Addr}{g:TG}{tc:TT}{te:TE}{R:Hp->Prop}{τ:St}{H:Hp}(n:Nat)(Pv:Nat->St->Hp->Prop)(h0:Pv 0 τ H)(hgo:∀i τ H,i<n->Pv i τ H->J.go i H)(hstop:∀τ H,Pv n τ H->J.stop n H)
  (hs:∀i τ H x H',i<n->Pv i τ H->J.yld i H x H'->g x τ H' λτ2 H2=>tc τ2 H2 λb H3=>if b=true then te τ2 H3 λv H4=>∃ys,H4 D=some (.lst ys)/\ys.length<sizeLine/\Pv (i+1) τ2 (upd H4 D (.lst (ys++[v]))) else Pv (i+1) τ2 H3)
  (hd:∀τ H,Pv n τ H->R H):Fw J D g tc te R τ H:=by
 refine ⟨λi m τ H=>m=n-i/\i<=n/\Pv i τ H,⟨n,by simp,BH _,h0⟩,?_⟩;rintro i m τ H ⟨rfl,hi,p⟩;by_cases hlt:i<n
 ·exact .inr ⟨hgo i τ H hlt p,Pv (i+1),λτ' H' p'=>⟨n-(i+1),by lia,rfl,hlt,p'⟩,λx H' y=>hs i τ H x H' hlt p y⟩
 ·have e:i=n:=by lia
  subst e;exact .inl ⟨hstop τ H p,hd τ H p⟩
section
variable{prog:AL}{w:AQ}{A:BS}{E:Ap->AA->Prop}{s:AA}
theorem Kz{l:Addr}{vs:List Ap}{Q:List Ap->AA->Prop}(hl:s.heap.IsTuple l vs.toArray)
  (h:Q vs {s with heap:=(s.heap.push (DM "list" #[] 0)).update s.heap.objs.size (DS (·++vs.toArray))}) (hsz:vs.length<=sizeLine:=by size_fits) :
  wpAny (AO prog w) A (SR (.ref l)) Q E s:=by
 obtain ⟨o,ho,hc,n,hd⟩:=id hl;unfold SR;refine As (N8 (Ff entry_proto_collect' ?_));show wpAny _ _ (do again (.builtin "list.__iadd__" ⟨[<- SO [],.ref l],[]⟩)) _ _ s;refine As (L5 (wpAny_pure ⟨Pt _ (by decide +kernel),Ff entry_list_iadd' ?_⟩));show wpAny _ _ (EL (.ref s.heap.objs.size) (.ref l) (.ref s.heap.objs.size)) _ _ {s with heap:=s.heap.push (DM "list" #[] 0)};unfold EL;have ho':(s.heap.push (DM "list" #[] 0)).get? l=some o:=AJ _ ho;refine As (MY (T:="tuple") ⟨o,ho',hc⟩ ?_);have ht:(D4 "tuple" == D4 "tuple")=true:=by rfl
 rw[if_pos (by rw[ht];simp)];refine As (Pw ho' hd ?_);refine As (Pw (xs:=#[]) (n:=0) (AW _ rfl) rfl ?_);rw[if_neg (by simp)];refine As (L6 (xs:=#[]) (n:=0) (AW _ rfl) rfl ?_ (BH _) (by show (#[]++vs.toArray).size<=sizeLine+1;simp only[Array.size_append,A7,K3];lia));refine wpAny_pure ?_;show wpAny (AO prog w) A (do
   let o <- load s.heap.objs.size
   match o.data with
   | .seq xs _=>pure xs.toList
   | _=>unsupported "internal:collect") Q E {s with heap:=(s.heap.push (DM "list" #[] 0)).update s.heap.objs.size (DS (·++vs.toArray))}
 refine As (RU (get?_update_seq (AW _ rfl) _) ?_);show wpAny _ _ (pure ((#[]:Array Ap)++vs.toArray).toList) Q E _;rw[show ((#[]:Array Ap)++vs.toArray).toList=vs by simp];exact wpAny_pure h
theorem Oa{l:Addr}{vs:List Ap}{ns:List Int}{Q:Ap->AA->Prop}(hl:s.heap.IsTuple l vs.toArray)(hI:J4 vs ns)(h64:vs.length<64)
  (h:∀(out:Array Ap) (ns':List Int),J4 out.toList ns'->ns'.Perm ns->ns'.Pairwise (·<=·)->Q (.ref (s.heap.objs.size+1)) {s with heap:=sortedAll s.heap vs out}) :
  wpAny (AO prog w) A (call (.builtin "sorted") [.ref l]) Q E s:=by
 refine JE kind_sorted plain_sorted entry_sorted (args_sorted1 _) ?_;unfold Q9;refine As (m:=checkCount "sorted" 1 1 _) (wpAny_pure ?_);refine As (Kz hl ?_ (by
                       have:(64:Nat)<=sizeLine:=by decide
                       lia))
 refine As (L5 ?_);have hsz:((s.heap.push (DM "list" #[] 0)).update s.heap.objs.size (DS (·++vs.toArray))).objs.size=s.heap.objs.size+1:=by
  rw[Heap.size_update,size_push']
 have hoL:(((s.heap.push (DM "list" #[] 0)).update s.heap.objs.size (DS (·++vs.toArray))).push (DM "list" vs.toArray 0)).get? (s.heap.objs.size+1)=some (DM "list" vs.toArray 0):=by
  rw[<- hsz];exact AW _ rfl
 show wpAny _ _ _ _ _ {s with heap:=((s.heap.push (DM "list" #[] 0)).update s.heap.objs.size (DS (·++vs.toArray))).push (DM "list" vs.toArray 0)};rw[hsz];refine As (EE (Do SS ⟨_,hoL,rfl⟩ Se (list_sort_tree hoL hI h64 λout ns' a1 a2 a3=>⟨_,rfl,?_⟩) (SU _)));exact wpAny_pure ⟨_,rfl,h out ns' a1 a2 a3⟩
end
section
variable{X:Cx}
def AAG(K:Au):List V->Hp->VK->Prop:=λxs H Q=>∃(p:Addr) (ns:List Int),xs=[.ref p]/\(SqL K H p (ns.map V.int)\/SqT K H p (ns.map V.int))/\ns.length<64/\∀(l:Addr) (ms:List Int),H l=none->ms.Perm ns->ms.Pairwise (·<=·)->Q (.ref l) (upd H l (.lst (ms.map V.int)))
theorem HN:∀{us:List Ap}{ns:List Int},J4 us ns->Vals (ns.map V.int) us
 | _,_,.nil=>.nil
 | _,_,.cons n t r=>.cons ⟨t,rfl⟩ (HN r)
theorem QT:CallR X (.builtin "sorted") (AAG X.K):=by
 intro pins s σ H xs us Q I r h;obtain ⟨p,ns,rfl,hq,h64,q⟩:=h;obtain ⟨u,rfl,ru⟩:=r.one;cases ru;have fin:∀(its:List Ap) (out:Array Ap) (ms:List Int),J4 out.toList ms->ms.Perm ns->ms.Pairwise (·<=·)->EP X pins σ Q (.ref (s.heap.objs.size+1)) {s with heap:=sortedAll s.heap its out}:=λits out ms a1 a2 a3=>by
  obtain ⟨e,he⟩:=sortedAll_at s.heap its out;have hn:H (s.heap.objs.size+1)=none:=I.hok.fresh (NN _);have hv:=HN a1;have hms:ms.length=ns.length:=a2.length_eq;refine ⟨.ref (s.heap.objs.size+1),_,I.laid (a:=s.heap.objs.size+1) (o:=.lst (ms.map V.int)) (t':=s.toks) (λb o=>sortedAll_old) (NN _) ⟨?_,out.toList,e,hv,?_⟩,rfl,q _ ms hn a2 a3⟩
  ·rw[AE,hms]
   exact BM (De h64) (by decide)
  ·rw[Array.toArray_toList]
   exact he
 rcases hq with hq | hq
 ·obtain ⟨its,rv,pl,hz⟩:=I.list hq
  have hl:=rv.length;rw[AE] at hl;exact sorted_ints pl.isList (intsAre_of rv) (by lia) λout ms a1 a2 a3=>fin its out ms a1 a2 a3
 ·obtain ⟨its,rv,pl,hz⟩:=I.tuple hq
  have hl:=rv.length;rw[AE] at hl;exact Oa pl (intsAre_of rv) (by lia) λout ms a1 a2 a3=>fin its out ms a1 a2 a3
theorem Xk:CallR X (.builtin "isinstance") (λxs H Q=>∃p ys,xs=[.ref p,.ty "list"]/\SqL X.K H p ys/\Q (.bl true) H):=by
 intro pins s σ H xs us Q I r h;obtain ⟨p,ys,rfl,hq,q⟩:=h;obtain ⟨u,v,rfl,ru,rv⟩:=r.two;cases ru;cases rv;obtain ⟨its,_,⟨o,n,ho,hc,_⟩,_⟩:=I.list hq;exact IsiPair.list_list ho hc ⟨.bl true,H,I,rfl,q⟩
theorem Ws:CallR X (.builtin "isinstance") (λxs H Q=>∃p ys,xs=[.ref p,.ty "tuple"]/\SqT X.K H p ys/\Q (.bl true) H):=by
 intro pins s σ H xs us Q I r h;obtain ⟨p,ys,rfl,hq,q⟩:=h;obtain ⟨u,v,rfl,ru,rv⟩:=r.two;cases ru;cases rv;obtain ⟨its,_,⟨o,ho,hc,_⟩,_⟩:=I.tuple hq;exact IsiPair.tuple_tuple ho hc ⟨.bl true,H,I,rfl,q⟩
end
abbrev Rep(α:Type):=Hp->α->V->Prop
def rInt:Rep Int:=λ_ i v=>v=.int i
def rTup(K:Au){α:Type}(R:Rep α):Rep (List α):=λH as v=>∃p xs,v=.ref p/\SqT K H p xs/\BE (R H) as xs
def rLst(K:Au){α:Type}(R:Rep α):Rep (List α):=λH as v=>∃p xs,v=.ref p/\SqL K H p xs/\BE (R H) as xs
theorem Paired.get{α β:Type}{F:α->β->Prop}:∀{l₁:List α}{l₂:List β}{i:Nat}{b:β},BE F l₁ l₂->l₂[i]?=some b->∃a,l₁[i]?=some a/\F a b
 | _,_,_,_,.nil,e=>by simp at e
 | _,_,0,_,.cons r _,e=>by simp at e;subst e;exact ⟨_,rfl,r⟩
 | _,_,i+1,b,.cons _ t,e=>by
  obtain ⟨a,h1,h2⟩:=Paired.get (i:=i) (b:=b) t (by simpa using e);exact ⟨a,by simpa using h1,h2⟩
theorem Paired.getL{α β:Type}{F:α->β->Prop}:∀{l₁:List α}{l₂:List β}{i:Nat}{a:α},BE F l₁ l₂->l₁[i]?=some a->∃b,l₂[i]?=some b/\F a b
 | _,_,_,_,.nil,e=>by simp at e
 | _,_,0,_,.cons r _,e=>by simp at e;subst e;exact ⟨_,rfl,r⟩
 | _,_,i+1,a,.cons _ t,e=>by
  obtain ⟨b,h1,h2⟩:=Paired.getL (i:=i) (a:=a) t (by simpa using e);exact ⟨b,by simpa using h1,h2⟩
theorem Paired.app{α β:Type}{F:α->β->Prop}:∀{l₁ m₁:List α}{l₂ m₂:List β},BE F l₁ l₂->BE F m₁ m₂->BE F (l₁++m₁) (l₂++m₂)
 | _,_,_,_,.nil,s=>s
 | _,_,_,_,.cons r t,s=>.cons r (Paired.app t s)
theorem Paired.one{α β:Type}{F:α->β->Prop}{a:α}{b:β}(h:F a b):BE F [a] [b]:=.cons h .nil
theorem Paired.uniq{α β:Type}{F:α->β->Prop}(fn:∀a a' b,F a b->F a' b->a=a'):∀{l₁ l₁':List α}{l₂:List β},BE F l₁ l₂->BE F l₁' l₂->l₁=l₁'
 | _,_,_,.nil,.nil=>rfl
 | _,_,_,.cons r t,.cons r' t'=>by rw[fn _ _ _ r r',Paired.uniq fn t t']
theorem paired_ints{H:Hp}:∀(ns:List Int),BE (rInt H) ns (ns.map V.int)
 | []=>.nil
 | _::r=>.cons rfl (paired_ints r)
theorem Fv{H:Hp}:∀{ns:List Int}{xs:List V},BE (rInt H) ns xs->xs=ns.map V.int
 | _,_,.nil=>rfl
 | _,_,.cons r t=>by rw[BO,<- Fv t];exact congrArg (·::_) r
structure Dat(X:Cx){α:Type}[DecidableEq α](n:Nat)(R:Rep α):Prop where
 eq:∀(pins:List (Addr×Obj)) (s:AA) (σ:St) (H:Hp) (A:BS) (a b:α) (x y:V) (u v:Ap),Inv X pins σ H s->A.units+n<C2->R H a x->R H b y->RelV x u->RelV y v->MC A s u v (decide (a=b))
 fn:∀(pins:List (Addr×Obj)) (s:AA) (σ:St) (H:Hp) (a b:α) (x:V),Inv X pins σ H s->R H a x->R H b x->a=b
section
variable{X:Cx}{α:Type}[DecidableEq α]{n:Nat}{R:Rep α}
theorem Ho:Dat X 0 rInt where
 eq:=λpins s σ H A a b x y u v I hu ha hb ru rv=>by
  cases ha;cases hb;obtain ⟨t,rfl⟩:=ru;obtain ⟨t',rfl⟩:=rv;have e:=Pm (A:=A) (s:=s) a t b t';rw[Bool.beq_eq_decide_eq] at e;exact e
 fn:=λpins s σ H a b x I ha hb=>by
  cases ha;exact (V.int.inj hb)
theorem Jv{as bs:List α}{m k:Nat}(h1:as.length=m)(h2:bs.length=k):((AX (min m k)).all (λj=>decide (as[j]?=bs[j]?))&&m==k)=decide (as=bs):=by
 subst h1;subst h2;by_cases e:as=bs
 ·subst e
  simp
 ·rw[decide_eq_false e]
  cases q:((AX (min as.length bs.length)).all (λj=>decide (as[j]?=bs[j]?))&&as.length==bs.length) with
  | false=>rfl
  | true =>
   rw[FL] at q;obtain ⟨q1,q2⟩:=q;have hl:as.length=bs.length:=by simpa using q2
   refine absurd (EI λj=>?_) e;by_cases hj:j<as.length
   ·exact of_decide_eq_true (FM.mp q1 j (A2.mpr (by lia)))
   ·rw[C3 (by lia),C3 (by lia)]
theorem QC{as bs:List α}{m:Nat}(h1:as.length=m)(h2:bs.length=m):((AX m).all (λj=>decide (as[j]?=bs[j]?)))=decide (as=bs):=by
 have e:=Jv h1 h2;rw[Nat.min_self,beq_self_eq_true,Bool.and_true] at e;exact e
theorem Dat.place(D:Dat X n R){pins:List (Addr×Obj)}{s:AA}{σ:St}{H:Hp}{A:BS}(I:Inv X pins σ H s)(hu:A.units+n<C2){as bs:List α}{xs ys:List V}{its jts:List Ap}
  (pa:BE (R H) as xs) (pb:BE (R H) bs ys) (ra:Vals xs its) (rb:Vals ys jts):∀(j:Nat) (h1:j<its.toArray.size) (h2:j<jts.toArray.size),MC A s its.toArray[j] jts.toArray[j] (decide (as[j]?=bs[j]?)):=by
 intro j h1 h2;rw[A7] at h1 h2;have hx:j<xs.length:=by rw[ra.length];exact h1
 have hy:j<ys.length:=by rw[rb.length];exact h2
 have ex:xs[j]?=some xs[j]:=AI hx;have ey:ys[j]?=some ys[j]:=AI hy;obtain ⟨u,hu1,ru⟩:=ra.get ex;obtain ⟨v,hv1,rv⟩:=rb.get ey;obtain ⟨a,ha,qa⟩:=Paired.get pa ex;obtain ⟨b,hb,qb⟩:=Paired.get pb ey;have e1:its.toArray[j]=u:=by
  rw[OP];rw[AI h1] at hu1;exact BY hu1
 have e2:jts.toArray[j]=v:=by
  rw[OP];rw[AI h2] at hv1;exact BY hv1
 rw[e1,e2,ha,hb];have e3:decide (some a=some b)=decide (a=b):=by simp
 rw[e3];exact D.eq pins s σ H A a b _ _ u v I hu qa qb ru rv
theorem Ht(D:Dat X n R):Dat X (n+1) (rTup X.K R) where
 eq:=λpins s σ H A as bs x y u v I hu ha hb ru rv=>by
  obtain ⟨p,xs,rfl,hp,pa⟩:=ha;obtain ⟨q,ys,rfl,hq,pb⟩:=hb;cases ru;cases rv;by_cases e:p=q
  ·subst e
   have exy:=I.tuple_inj hp hq;subst exy;have eab:as=bs:=Paired.uniq (λa a' b h1 h2=>D.fn pins s σ H a a' b I h1 h2) pa pb;subst eab;rw[decide_eq_true rfl];exact R8 _
  ·obtain ⟨its,ra,ta,_⟩:=I.tuple hp
   obtain ⟨jts,rb,tb,_⟩:=I.tuple hq;have l1:as.length=its.toArray.size:=by rw[A7,<- ra.length];exact AY pa
   have l2:bs.length=jts.toArray.size:=by rw[A7,<- rb.length];exact AY pb
   have r:=SeqAt.RcAt.tuples (A:=A) (s:=s) (e:=λj=>decide (as[j]?=bs[j]?)) ta tb (by lia) (D.place (A:=A.in1) I (by show A.units+1+n<C2;lia) pa pb ra rb);rw[Jv l1 l2] at r;exact .of_refs e r
 fn:=λpins s σ H as bs x I ha hb=>by
  obtain ⟨p,xs,rfl,hp,pa⟩:=ha;obtain ⟨q,ys,e,hq,pb⟩:=hb;cases e;have exy:=I.tuple_inj hp hq;subst exy;exact Paired.uniq (λa a' b h1 h2=>D.fn pins s σ H a a' b I h1 h2) pa pb
theorem Za(D:Dat X n R){pins:List (Addr×Obj)}{s:AA}{σ:St}{H:Hp}{A:BS}(I:Inv X pins σ H s)(hu:A.units+(n+1)<C2){p q:Addr}{as bs:List α}{xs ys:List V}
  (hp:SqL X.K H p xs) (hq:SqL X.K H q ys) (pa:BE (R H) as xs) (pb:BE (R H) bs ys):SeqAt.RcAt A s (.ref p) (.ref q) (decide (as=bs))/\SeqAt.RcNeAt A s (.ref p) (.ref q) (!decide (as=bs)):=by
 obtain ⟨its,ra,ta,_⟩:=I.list hp;obtain ⟨jts,rb,tb,_⟩:=I.list hq;have l1:as.length=its.toArray.size:=by rw[A7,<- ra.length];exact AY pa
 have l2:bs.length=jts.toArray.size:=by rw[A7,<- rb.length];exact AY pb
 by_cases hs:its.toArray.size=jts.toArray.size
 ·have r:=SeqAt.RcAt.lists (A:=A) (s:=s) (e:=λj=>decide (as[j]?=bs[j]?)) ta.isList tb.isList hs (by lia) (D.place (A:=A.in1) I (by show A.units+1+n<C2;lia) pa pb ra rb)
  have r':=V5 (A:=A) (s:=s) (e:=λj=>decide (as[j]?=bs[j]?)) ta.isList tb.isList hs (by lia) (D.place (A:=A.in1) I (by show A.units+1+n<C2;lia) pa pb ra rb);rw[QC l1 (l2.trans hs.symm)] at r r';exact ⟨r,r'⟩
 ·have hb:(its.toArray.size != jts.toArray.size)=true:=by simpa using hs
  have e:as≠bs:=λe=>hs (by rw[<- l1,<- l2,e]);rw[decide_eq_false e];exact ⟨SeqAt.RcAt.lists_lengths ta.isList tb.isList hb (by lia),Tl ta.isList tb.isList hb (by lia)⟩
def rNeL(K:Au){α:Type}[DecidableEq α](R:Rep α):R2:=λx y H Q=>∃as bs,rLst K R H as x/\rLst K R H bs y/\Q (.bl (!decide (as=bs))) H
theorem Xn(D:Dat X n R)(hu:X.A.units+(n+1)<C2):OpR X (D8 .NotEq) (rNeL X.K R):=by
 intro pins s σ H x y v u Q I rx ry h;obtain ⟨as,bs,⟨p,xs,rfl,hp,pa⟩,⟨q,ys,rfl,hq,pb⟩,h⟩:=h;cases rx;cases ry;exact (Za D I hu hp hq pa pb).2 X.prog X.w _ _ ⟨.bl _,H,I,rfl,h⟩
open Classical in
noncomputable def isDat(R:Rep α)(H:Hp)(a:α)(u:Ap):Bool:=decide (∃z,RelV z u/\R H a z)
theorem RK(D:Dat X n R){pins:List (Addr×Obj)}{s:AA}{σ:St}{H:Hp}(I:Inv X pins σ H s){a b:α}{z:V}{u:Ap}(rz:RelV z u)(hb:R H b z):isDat R H a u=decide (b=a):=by
 unfold isDat;by_cases e:b=a
 ·subst e
  rw[decide_eq_true rfl];exact @decide_eq_true _ (M6 _) ⟨z,rz,hb⟩
 ·rw[decide_eq_false e]
  refine @decide_eq_false _ (M6 _) ?_;rintro⟨z',rz',h'⟩;have ez:z'=z:=rz'.inj rz;subst ez;exact e (D.fn pins s σ H b a z' I hb h')
set_option tactic.hygienic true in
theorem Hh(D:Dat X n R){pins:List (Addr×Obj)}{s:AA}{σ:St}{H:Hp}(I:Inv X pins σ H s){a:α}:∀{as:List α}{xs:List V}{its:List Ap},BE (R H) as xs->Vals xs its->its.any (isDat R H a)=decide (a∈as)
 | _,_,_,.nil,.nil=>by simp
 | _,_,_,.cons (l₁:=as) r t,.cons rv tv=>by
  rw[HH,RK D I rv r,Hh D I t tv]
  rename_i b _ _ _ _
  by_cases e:b=a
  ·subst e;simp
  ·have e':¬ a=b:=λz=>e z.symm
   simp[e,e']
theorem Gv(D:Dat X n R){pins:List (Addr×Obj)}{s:AA}{σ:St}{H:Hp}{A:BS}(I:Inv X pins σ H s)(hu:A.units+n<C2){a:α}{x:V}{v:Ap}(rx:RelV x v)(ha:R H a x) :
  ∀{as:List α}{xs:List V}{its:List Ap},BE (R H) as xs->Vals xs its->∀u∈its,MC A s u v (isDat R H a u)
 | _,_,_,.nil,.nil=>λu hm=>by cases hm
 | _,_,_,.cons r t,.cons rv tv=>λu hm=>by
  rcases Bz.mp hm with rfl | hm
  ·rw[RK D I rv r]
   exact D.eq pins s σ H A _ a _ x _ v I hu r ha rv rx
  ·exact Gv D I hu rx ha t tv u hm
def rInL(K:Au){α:Type}[DecidableEq α](R:Rep α)(neg:Bool):R2:=λx y H Q=>∃a as,R H a x/\(rLst K R H as y\/rTup K R H as y)/\Q (.bl (if neg then !decide (a∈as) else decide (a∈as))) H
theorem ABo(D:Dat X n R)(hu:X.A.units+(n+1)<C2):OpR X (D8 .In) (rInL X.K R false):=by
 intro pins s σ H x y v u Q I rx ry h;obtain ⟨a,as,ha,hs,h⟩:=h;have hu1:X.A.in1.units+n<C2:=by show X.A.units+1+n<C2;lia
 rcases hs with⟨p,xs,rfl,hp,pa⟩ | ⟨p,xs,rfl,hp,pa⟩
 ·cases ry
  obtain ⟨its,r,pl,_⟩:=I.list hp;refine R9 (isDat R H a) pl.isList (λw hw=>Gv D I hu1 rx ha pa r w (by simpa using hw)) ⟨.bl _,H,I,rfl,?_⟩;rw[show its.toArray.any (isDat R H a)=its.any (isDat R H a) by simp,Hh D I pa r];exact h
 ·cases ry
  obtain ⟨its,r,pl,_⟩:=I.tuple hp;refine Q7 (isDat R H a) pl (λw hw=>Gv D I hu1 rx ha pa r w (by simpa using hw)) ⟨.bl _,H,I,rfl,?_⟩;rw[show its.toArray.any (isDat R H a)=its.any (isDat R H a) by simp,Hh D I pa r];exact h
theorem NZ(D:Dat X n R)(hu:X.A.units+(n+1)<C2):OpR X (D8 .NotIn) (rInL X.K R true):=by
 intro pins s σ H x y v u Q I rx ry h;obtain ⟨a,as,ha,hs,h⟩:=h;have hu1:X.A.in1.units+n<C2:=by show X.A.units+1+n<C2;lia
 rcases hs with⟨p,xs,rfl,hp,pa⟩ | ⟨p,xs,rfl,hp,pa⟩
 ·cases ry
  obtain ⟨its,r,pl,_⟩:=I.list hp;refine Po (isDat R H a) pl.isList (λw hw=>Gv D I hu1 rx ha pa r w (by simpa using hw)) ⟨.bl _,H,I,rfl,?_⟩;rw[show its.toArray.any (isDat R H a)=its.any (isDat R H a) by simp,Hh D I pa r];exact h
 ·cases ry
  obtain ⟨its,r,pl,_⟩:=I.tuple hp;refine O2 (isDat R H a) pl (λw hw=>Gv D I hu1 rx ha pa r w (by simpa using hw)) ⟨.bl _,H,I,rfl,?_⟩;rw[show its.toArray.any (isDat R H a)=its.any (isDat R H a) by simp,Hh D I pa r];exact h
end
def TSm(H H':Hp):Prop:=∀b u,H b=some u->(∃xs,u=.tup xs\/∃o,u=.frz o (.tup xs))->H' b=some u
theorem TSm.trans{H H1 H2:Hp}(a:TSm H H1)(b:TSm H1 H2):TSm H H2:=λc u h t=>b c u (a c u h t) t
theorem Same.ts{H H':Hp}(e:Same H H'):TSm H H':=λb u h _=>e b u h
theorem TSm.lst{H:Hp}{l:Addr}{xs:List V}{o:HO}(h:H l=some (.lst xs)):TSm H (upd H l o):=λb u hb t=>by
 rw[Ae ?_]
 ·exact hb
 ·rintro rfl
  rw[h] at hb;cases hb;obtain ⟨ys,e | ⟨o,e⟩⟩:=t
  ·cases e
  ·cases e
theorem TSm.new{H:Hp}{p:Addr}{o:HO}(h:H p=none):TSm H (upd H p o):=λb u hb _=>by rw[Ae (Ad hb h)];exact hb
theorem TSm.seq{K:Au}{H H':Hp}{a:Addr}{xs:List V}(e:TSm H H')(h:SqT K H a xs):SqT K H' a xs:=by
 rcases h with (h | ⟨o,h⟩) | h
 ·exact .inl (.inl (e _ _ h ⟨xs,.inl rfl⟩))
 ·exact .inl (.inr ⟨o,e _ _ h ⟨xs,.inr ⟨o,rfl⟩⟩⟩)
 ·exact .inr h
theorem Paired.imp{α β:Type}{F G:α->β->Prop}(f:∀a b,F a b->G a b):∀{l₁:List α}{l₂:List β},BE F l₁ l₂->BE G l₁ l₂
 | _,_,.nil=>.nil
 | _,_,.cons r t=>.cons (f _ _ r) (Paired.imp f t)
def TRep{α:Type}(R:Rep α):Prop:=∀H H' a x,TSm H H'->R H a x->R H' a x
theorem Av:TRep rInt:=λ_ _ _ _ _ h=>h
theorem Ao{K:Au}{α:Type}{R:Rep α}(t:TRep R):TRep (rTup K R):=λH H' as x e h=>by
 obtain ⟨p,xs,rfl,hp,pa⟩:=h;exact ⟨p,xs,rfl,e.seq hp,Paired.imp (λa b=>t H H' a b e) pa⟩
theorem Same.new{H:Hp}{p:Addr}(h:H p=none)(o:HO):Same H (upd H p o):=λb u q=>by rw[Ae (Ad q h)];exact q
abbrev rPair(K:Au):Rep (List Int):=rTup K rInt
theorem Fp{K:Au}{H:Hp}{p:Addr}{ns:List Int}(h:H p=some (.tup (ns.map V.int))):rPair K H ns (.ref p):=⟨p,_,rfl,SqT.of h,paired_ints ns⟩
theorem Bv{K:Au}{H:Hp}{ns:List Int}{x:V}(h:rPair K H ns x):∃p,x=.ref p/\SqT K H p (ns.map V.int):=by
 obtain ⟨p,xs,rfl,hp,pa⟩:=h;rw[Fv pa] at hp;exact ⟨p,rfl,hp⟩
def rSeq(K:Au):Rep (List Int):=λH t x=>rLst K rInt H t x\/rPair K H t x
theorem Zg{K:Au}{H:Hp}{ns:List Int}{x:V}(h:rSeq K H ns x):∃p,x=.ref p/\(SqL K H p (ns.map V.int)\/SqT K H p (ns.map V.int)):=by
 rcases h with⟨p,xs,rfl,hp,pa⟩ | h
 ·rw[Fv pa] at hp
  exact ⟨p,rfl,.inl hp⟩
 ·obtain ⟨p,e,hp⟩:=Bv h
  exact ⟨p,e,.inr hp⟩
section
variable{K:Au}{a D:Addr}{xs:List V}{g:TG}{tc:TT}{te:TE}{R:Hp->Prop}{τ:St}{H:Hp}
abbrev putD(D:Addr)(N:St->Hp->Prop)(te:TE)(τ2:St):Bool->Hp->Prop:=λb H3=>if b=true then te τ2 H3 λv H4=>∃ys,H4 D=some (.lst ys)/\ys.length<sizeLine/\N τ2 (upd H4 D (.lst (ys++[v]))) else N τ2 H3
theorem yesD{N:St->Hp->Prop}(h:te τ H λv H4=>∃ys,H4 D=some (.lst ys)/\ys.length<sizeLine/\N τ (upd H4 D (.lst (ys++[v])))):ABh τ H (putD D N te τ):=by
 show putD D N te τ true H;unfold putD;rw[if_pos rfl];exact h
theorem yesN{N:St->Hp->Prop}{i:Nat}{x:V}(h:te (τ.set i (some x)) H λv H4=>∃ys,H4 D=some (.lst ys)/\ys.length<sizeLine/\N (τ.set i (some x)) (upd H4 D (.lst (ys++[v])))):gName i x τ H λτ2 H2=>ABh τ2 H2 (putD D N te τ2):=yesD h
theorem Cj(Pv:Nat->St->Hp->Prop)(h0:Pv 0 τ H)(hl:∀i τ H,i<=xs.length->Pv i τ H->SqL K H a xs)
  (hs:∀i x τ H,xs[i]?=some x->Pv i τ H->g x τ H λτ2 H2=>tc τ2 H2 (putD D (Pv (i+1)) te τ2)) (hd:∀τ H,Pv xs.length τ H->R H):Fw (Itl K a) D g tc te R τ H:=by
 refine Hu xs.length Pv h0 (λi τ H hi p=>⟨xs,xs[i],hl i τ H (De hi) p,by simp[hi]⟩) (λτ H p=>⟨xs,hl _ τ H (AF _) p,AF _⟩) (λi τ H x H' hi p y=>?_) hd;obtain ⟨e,y⟩:=y;subst e;exact hs i x τ _ (y xs (hl i τ _ (De hi) p)) p
theorem Lw(Pv:Nat->St->Hp->Prop)(h0:Pv 0 τ H)(hl:∀i τ H,i<=xs.length->Pv i τ H->SqT K H a xs)
  (hs:∀i x τ H,xs[i]?=some x->Pv i τ H->g x τ H λτ2 H2=>tc τ2 H2 (putD D (Pv (i+1)) te τ2)) (hd:∀τ H,Pv xs.length τ H->R H):Fw (Itt K a) D g tc te R τ H:=by
 refine Hu xs.length Pv h0 (λi τ H hi p=>⟨xs,xs[i],hl i τ H (De hi) p,by simp[hi]⟩) (λτ H p=>⟨xs,hl _ τ H (AF _) p,AF _⟩) (λi τ H x H' hi p y=>?_) hd;obtain ⟨e,y⟩:=y;subst e;exact hs i x τ _ (y xs (hl i τ _ (De hi) p)) p
theorem FN{lo:Int}{n:Nat}(Pv:Nat->St->Hp->Prop)(h0:Pv 0 τ H)
  (hs:∀i τ H,i<n->Pv i τ H->g (.int (lo+i)) τ H λτ2 H2=>tc τ2 H2 (putD D (Pv (i+1)) te τ2)) (hd:∀τ H,Pv n τ H->R H):Fw (Itr lo n) D g tc te R τ H:=by
 refine Hu n Pv h0 (λi τ H hi p=>hi) (λτ H p=>AF _) (λi τ H x H' hi p y=>?_) hd;obtain ⟨e,y⟩:=y;subst e y;exact hs i τ _ hi p
theorem Gk{S:Hp->List V->Prop}(Pv:Nat->St->Hp->Prop)(h0:Pv 0 τ H)(hl:∀i τ H,i<=xs.length->Pv i τ H->S H xs)
  (hs:∀i x τ H T,xs[i]?=some x->H T=none->Pv i τ H->g (.ref T) τ (upd H T (.tup [.int i,x])) λτ2 H2=>tc τ2 H2 (putD D (Pv (i+1)) te τ2)) (hd:∀τ H,Pv xs.length τ H->R H):Fw (Ien S) D g tc te R τ H:=by
 refine Hu xs.length Pv h0 (λi τ H hi p=>⟨xs,xs[i],hl i τ H (De hi) p,by simp[hi]⟩) (λτ H p=>⟨xs,hl _ τ H (AF _) p,rfl⟩) (λi τ H x H' hi p y=>?_) hd;obtain ⟨T,z,rfl,hT,rfl,y⟩:=y;exact hs i z τ H T (y xs (hl i τ _ (De hi) p)) hT p
end
theorem CW{A:BS}{k n:Nat}(hr:Room k A)(h:n<=64:=by decide):A.units+n<C2:=Ev (Nat.add_le_add_left h _) hr.units
section
variable{X:Cx}{K:Au}{pos:Pos}
theorem HJ(hK:X.K=K){es:List Expr}{k:Nat}{t:TGs}{n:Nat}(hc:X.calm=true)(h:PGs X es t)
  (hn:(IQ es X.env).length=n:=by rfl) (hst:(IQ es X.env).findIdx? (·.1)=none:=by rfl):PG X (.Tuple es k pos) (gTup K n t):=by subst hK;exact Tz hc h hn hst
theorem Gm(hK:X.K=K):OpR X (D8 .In) (rIn K false):=by subst hK;exact NT
theorem Gd(hK:X.K=K):OpR X (D8 .NotIn) (rIn K true):=by subst hK;exact Nz
theorem Jf(hK:X.K=K):IxR X (rIxT K):=by subst hK;exact Eb
end
theorem Dj(x:Int):∀(tie:List Int),inV (.int x) (tie.map V.int)=decide (x∈tie)
 | []=>rfl
 | z::r=>by
  have ih:=Dj x r;unfold inV at ih ⊢;rw[BO,HH,ih];show ((z==x)||decide (x∈r))=decide (x∈z::r);by_cases e:z=x
  ·subst e;simp
  ·have e':¬ x=z:=λq=>e q.symm
   simp[e,e']
theorem iteNN{c A B:Prop}{inst:Decidable c}(hc:¬ c)(h:A):if (!decide c)=true then A else B:=by
 rw[decide_eq_false hc];exact iteT h
theorem iteNP{c A B:Prop}{inst:Decidable c}(hc:c)(h:B):if (!decide c)=true then A else B:=by
 rw[decide_eq_true hc];exact iteF h
theorem iteN{c A B:Prop}{inst:Decidable c}(hc:¬ c)(h:B):if decide c=true then A else B:=by
 rw[decide_eq_false hc];exact iteF h
theorem iteP{c A B:Prop}{inst:Decidable c}(hc:c)(h:A):if decide c=true then A else B:=by
 rw[decide_eq_true hc];exact iteT h
theorem ZM{ns:List Int}{k:Int}(h0:0<=k)(h:k<(ns.length:Int)):∃v:Int,atI (ns.map V.int) k=some (.int v):=by
 have hk:k.toNat<ns.length:=by lia
 have ek:k=((k.toNat:Nat):Int):=by lia
 have q:atI (ns.map V.int) ((k.toNat:Nat):Int)=some (.int ns[k.toNat]):=Dd (by rw[BI,AI hk]<;>rfl);rw[<- ek] at q;exact ⟨_,q⟩
theorem small{n:Nat}(h:n<=1000):n<=sizeLine:=De (BP h)
def srt:List Int->List Int
 | [a,b]=>if b<a then [b,a] else [a,b]
 | t=>t
theorem CJ(a b:Int):srt [a,b]=if b<a then [b,a] else [a,b]:=rfl
theorem AAs{t:List Int}{p:Int}:p∈srt t↔p∈t:=by
 unfold srt;split
 ·split
  ·simp[or_comm]
  ·rfl
 ·rfl
theorem Wk{a b:Int}{ms:List Int}(h:ms.Perm [a,b])(s:ms.Pairwise (·<=·)):ms=srt [a,b]:=by
 have hl:=h.length_eq
 match ms,hl,h,s with
 | [x,y],_,h,s =>
  have hxy:x<=y:=by simpa using s
  have hx:x∈[a,b]:=h.mem_iff.mp (by simp);have hy:y∈[a,b]:=h.mem_iff.mp (by simp);have ha:a∈[x,y]:=h.mem_iff.mpr (by simp);have hb:b∈[x,y]:=h.mem_iff.mpr (by simp);simp only[Bz,KG,or_false] at hx hy ha hb;rw[CJ];split
  ·have e1:x=b:=by lia
   have e2:y=a:=by lia
   rw[e1,e2]
  ·have e1:x=a:=by lia
   have e2:y=b:=by lia
   rw[e1,e2]
def OkTie(m:Int)(t:List Int):Prop:=∃a b,t=[a,b]/\0<=a/\a<m/\0<=b/\b<m/\a≠b
structure OkTies(m:Int)(as:List (List Int)):Prop where
 ok:∀t∈as,OkTie m t
 nd:(as.map srt).Nodup
theorem AAX{m:Int}{as:List (List Int)}{a b:Int}(h:∀t∈as,OkTie m t)(h1:[a,b]∉as)(h2:[b,a]∉as):srt [a,b]∉as.map srt:=by
 intro hm;obtain ⟨t,ht,e⟩:=BQ.mp hm;obtain ⟨c,d,rfl,_⟩:=h t ht;have e':[c,d]=[a,b]\/[c,d]=[b,a]:=by
  rw[CJ,CJ] at e;split at e<;>split at e<;>simp only[List.cons.injEq,and_true] at e ⊢<;>lia
 rcases e' with e' | e'
 ·exact h1 (e' ▸ ht)
 ·exact h2 (e' ▸ ht)
theorem OkTies.snoc{m:Int}{as:List (List Int)}{a b:Int}(h:OkTies m as)(t:OkTie m [a,b])(h1:[a,b]∉as)(h2:[b,a]∉as):OkTies m (as++[[a,b]]):=by
 refine ⟨λu hu=>?_,?_⟩
 ·rcases CD.mp hu with hu | hu
  ·exact h.ok u hu
  ·rw[B5.mp hu];exact t
 ·rw[Ct,LY,QE]
  refine ⟨h.nd,by simp,λx hx y hy e=>?_⟩;have hy':y=srt [a,b]:=by simpa using hy
  subst hy';exact AAX h.ok h1 h2 (e ▸ hx)
theorem OkTies.take_new{m:Int}{as:List (List Int)}{i:Nat}{t:List Int}(h:OkTies m as)(ht:as[i]?=some t):srt t∉(as.take i).map srt:=by
 intro hm;obtain ⟨u,hu,e⟩:=BQ.mp hm;obtain ⟨j,hj,ej⟩:=CA.mp hu;have hji:j<i:=by rw[BG] at hj;lia
 have hi:i<as.length:=(AH.mp ht).1;have et:as[i]=t:=(AH.mp ht).2;have eu:as[j]'(by lia)=u:=by rw[<- ej,IB]
 have hnd:=h.nd;have:=(Q3 (h₀:=by rw[AE];lia) (h₁:=by rw[AE];lia) hnd (i:=j) (j:=i)).mp (by rw[Rc,Rc,et,eu,e]);lia
def Ax(p:Int):Nat->List (List Int)->List Int
 | _,[]=>[]
 | k,t::r=>if p∈t then (k:Int)::Ax p (k+1) r else Ax p (k+1) r
theorem Mz(p:Int)(t:List Int):∀(k:Nat) (as:List (List Int)),Ax p k (as++[t])=Ax p k as++(if p∈t then [((k+as.length:Nat):Int)] else [])
 | k,[]=>by
  show (if p∈t then (k:Int)::Ax p (k+1) [] else Ax p (k+1) [])=_;split<;>simp[Ax]
 | k,u::r=>by
  have ih:=Mz p t (k+1) r;have e:k+1+r.length=k+(u::r).length:=by simp;lia
  rw[e] at ih;show (if p∈u then (k:Int)::Ax p (k+1) (r++[t]) else Ax p (k+1) (r++[t]))=(if p∈u then (k:Int)::Ax p (k+1) r else Ax p (k+1) r)++_;rw[ih];split<;>rfl
abbrev hits(p:Int)(as:List (List Int)):List Int:=Ax p 0 as
theorem Nb{p:Int}{as:List (List Int)}{i:Nat}{t:List Int}(h:as[i]?=some t):hits p (as.take (i+1))=hits p (as.take i)++(if p∈t then [(i:Int)] else []):=by
 have hi:i<as.length:=(AH.mp h).1;have e:as.take (i+1)=as.take i++[t]:=by rw[Co,h];rfl
 rw[e,hits,Mz];have:0+(as.take i).length=i:=by rw[BG];lia
 rw[this]
theorem Ju(p:Int):∀(k:Nat) (as:List (List Int)),(Ax p k as).length<=as.length
 | _,[]=>AF _
 | k,t::r=>by
  have ih:=Ju p (k+1) r;show (if p∈t then (k:Int)::Ax p (k+1) r else Ax p (k+1) r).length<=r.length+1;split
  ·simp;exact ih
  ·lia
section
variable{X:Cx}{K:Au}
theorem max_list(hc:X.calm=true):CallR X (.builtin "max") (λxs H Q=>∃(p:Addr) (ns:List Int),xs=[.ref p]/\SqL X.K H p (ns.map V.int)/\0<ns.length/\∀m,m∈ns->(∀a∈ns,a<=m)->Q (.int m) H):=by
 intro pins s σ H xs us Q I r h;obtain ⟨p,ns,rfl,hq,hne,q⟩:=h;obtain ⟨u0,rfl,ru⟩:=r.one;cases ru;obtain ⟨its,rv,pl,hz⟩:=I.list hq;have hi:=intsAre_of rv;have hl:=pl.isList;obtain ⟨ys,e⟩:=hi.allInts.items;have hns:ns=ys.toList.map (·.1):=by rw[<- hi.numsOf,<- nums_intItems,<- e]
 have hsz:0<ys.size:=by
  rw[hns,AE,AV] at hne;exact hne
 rw[e] at hl;refine max_intList (I.ok.hd hc) hl hsz λv h' tk hv hk=>?_;obtain ⟨t,rfl⟩:=intItems_at hv;obtain ⟨h1,h2⟩:=argBest_gt (T9 ys) (ys.size-1);refine ⟨.int (T9 ys (argBest (λi j=>decide (T9 ys i>T9 ys j)) (ys.size-1))),H,I.kept hk,⟨t,rfl⟩,q _ ?_ λa ha=>?_⟩
 ·rw[hns,UX]
  exact getD_mem (by rw[AE,AV];lia)
 ·rw[hns] at ha
  obtain ⟨j,hj,rfl⟩:=mem_getD ha;rw[AE,AV] at hj;rw[<- UX];exact h2 j (by lia)
end
def upTo(n:Nat)(f:Int->Bool):List Int:=((AX n).map λ(i:Nat)=>(i:Int)).filter f
def lies(ns:List Int)(k:Int):Bool:=match ns with
 | []=>false
 | a::r=>decide (a<k)&&decide (k<=(a::r).getLast (by simp))
set_option tactic.hygienic true in
theorem Hy{p x:Int}:∀{k:Nat}{as:List (List Int)},x∈Ax p k as↔∃i:Nat,∃t,as[i]?=some t/\p∈t/\x=((k+i:Nat):Int)
 | k,[]=>by simp[Ax]
 | k,u::r=>by
  have ih:=@Hy p x (k+1) r;have e:Ax p k (u::r)=if p∈u then (k:Int)::Ax p (k+1) r else Ax p (k+1) r:=rfl
  rw[e];constructor
  ·intro h
   split at h
   ·rename_i hu
    rcases Bz.mp h with h | h
    ·exact ⟨0,u,rfl,hu,by simpa using h⟩
    ·obtain ⟨i,t,h1,h2,h3⟩:=ih.mp h
     exact ⟨i+1,t,by simpa using h1,h2,by rw[h3];congr 1;lia⟩
   ·obtain ⟨i,t,h1,h2,h3⟩:=ih.mp h
    exact ⟨i+1,t,by simpa using h1,h2,by rw[h3];congr 1;lia⟩
  ·rintro⟨i,t,h1,h2,h3⟩
   cases i with
   | zero =>
    have:u=t:=by simpa using h1
    subst this;rw[if_pos h2];exact Bz.mpr (.inl (by simpa using h3))
   | succ i =>
    have hm:x∈Ax p (k+1) r:=ih.mpr ⟨i,t,by simpa using h1,h2,by rw[h3];congr 1;lia⟩;split
    ·exact AG _ hm
    ·exact hm
theorem Ia(p:Int):∀(k:Nat) (as:List (List Int)),(Ax p k as).Pairwise (· < ·)
 | _,[]=>Kb
 | k,u::r=>by
  have ih:=Ia p (k+1) r;have e:Ax p k (u::r)=if p∈u then (k:Int)::Ax p (k+1) r else Ax p (k+1) r:=rfl
  rw[e];split
  ·refine PD (λx hx=>?_) ih
   obtain ⟨i,t,_,_,h3⟩:=Hy.mp hx;rw[h3];lia
  ·exact ih
theorem Nu:∀{ns:List Int} (h:ns≠[]),ns.Pairwise (· < ·)->∀x∈ns,x<=ns.getLast h
 | [],h,_,_,_=>absurd rfl h
 | [a],_,_,x,hx=>by
  have:x=a:=by simpa using hx
  subst this;exact G2 _
 | a::b::r,_,pw,x,hx=>by
  have h2:=CO.mp pw;have e:(a::b::r).getLast (by simp)=(b::r).getLast (by simp):=by simp
  rw[e];have l:=Nu (ns:=b::r) (by simp) h2.2;rcases Bz.mp hx with hx | hx
  ·subst hx
   have h3:=h2.1 b (by simp);have h4:=l b (by simp);lia
  ·exact l x hx
section
variable{X:Cx}{pins:List (Addr×Obj)}{σ:St}{H:Hp}{s:AA}{tg elt iter:Expr}{ifs:List Expr}{scope:E6}{pos:Pos}{own fr:List Str}{ix:List Nat}{g:TG}{tc:TT}{te:TE}{it:Addr}{fp:List Addr}
 {tn:Nat->Heap->Prop}{J:It}
end
end L2
end
section
namespace L2
def Cl(S:Int->Prop)(es:List (List Int)):Prop:=∀e∈es,∀x∈e,∀y∈e,S x->S y
def gh(h:List Int)(p:Int):Int:=h.getD p.toNat 0
abbrev below(n:Nat):List Int:=(AX n).map λ(i:Nat)=>(i:Int)
def under(n:Nat)(h:List Int)(x:Int):List Int:=upTo n λp=>decide (gh h p=x)
def usd(es:List (List Int))(fs:List Int):Nat:=(es.filter λe=>e.all λx=>decide (x∈fs)).length
def Pass(es:List (List Int))(f0:List Int)(j:Nat)(f:List Int):Prop :=
 (f=f0/\Cl (·∈f0) (es.take j))\/(usd es f0+1<=usd es f/\¬ Cl (·∈f0) es)
def pick(as:List (List Int))(ms:List Int):List (List Int):=ms.map λk=>as.getD k.toNat []
def sel(as:List (List Int))(ms:List Int):Nat->List (List Int)
 | 0=>[]
 | i+1=>sel as ms i++(if (i:Int)∈ms then [as.getD i []] else [])
end L2
end
section
namespace L2
open PySem PySem.Spec PyProof.Rows
theorem VB:∀{xs:List V}{us:List Ap},xs.length=us.length->(∀(i:Nat) (x:V) (u:Ap),xs[i]?=some x->us[i]?=some u->RelV x u)->Vals xs us
 | [],[],_,_=>.nil
 | [],_::_,h,_=>by simp at h
 | _::_,[],h,_=>by simp at h
 | x::xs,u::us,h,f=>.cons (f 0 x u rfl rfl) (VB (by simpa using h) λi y v h1 h2=>f (i+1) y v (by simpa using h1) (by simpa using h2))
end L2
end
section
namespace PySem
def Ctx0(o:Obj):Prop:=∃vs,o.data=.fields vs/\vs[2]?=some .none
def Ctx2(h:Heap)(e:Addr):Prop:=∃o,h.get? e=some o/\Ctx0 o
end PySem
end
section
namespace L2
open PySem PySem.Spec PyProof.Rows
structure Fly(P:AL)(w:AQ)(outer:List Env)(H H':Hp)(s s':AA)(a:Addr)(cls:Ap):Prop where
 os:s'.os=s.os
 bare:J3 s'.gens
 un:Un (frs outer) [] H H' s.heap s'.heap
 new:H' a=none
 ctx:Ctx2 s'.heap a
 fly:∃B a0,Heap.FlyingW B outer a cls a0 s'.heap/\HOk P w H' B/\∀b o',(∃o,s.heap.get? b=some o)->s'.heap.get? b=some o'->b∉frs outer->B.get? b=some o'
def CXF(P:AL)(w:AQ):CXT:=λouter H s E e s'=>∃a cls H',e=.ref a/\Fly P w outer H H' s s' a cls/\E cls none H'
def sx(X:Cx)(a:Addr)(oe:Obj):Cx:={X with A:=X.A.mark (some (.ref a)),calm:=false,pn:=X.pn++[(a,oe)],xe:=λ_ _=>False}
def XP(X:Cx)(pins:List (Addr×Obj))(σ:St)(E:XK)(x:Ap)(s2:AA):Prop:=∃H1 s1,Inv X pins σ H1 s1/\CXF X.prog X.w X.stack H1 s1 E x s2
end L2
end
section
namespace L2
open PySem PySem.Spec PyProof.Rows PySem.W
end L2
namespace L2
open PySem PySem.Spec PyProof.Rows
section
variable{X:Cx}{st:Stmt}{rest:List Stmt}{t u:TS}
def ADn(t u:TS):TS:=λD σ H=>∃M:St->Hp->Prop,t {D with nx:=M} σ H/\∀σ' H',M σ' H'->u D σ' H'
theorem Ow(h1:PS X st t)(h2:PSs X rest u):PSs X (st::rest) (ADn t u):=by
 intro pins s σ H D I h;obtain ⟨M,ha,hb⟩:=h;refine MS (thn (h1 pins s σ H {D with nx:=M} I ha) λf s1 q=>?_);cases f with
 | next =>
  obtain ⟨σ',H',I',q⟩:=q;exact h2 pins s1 σ' H' D I' (hb _ _ q)
 | ret v=>exact q
 | brk=>exact q
 | cont=>exact q
end
end L2
end
section
namespace L2
open PySem PySem.Spec PyProof.Rows PySem.W
section
variable{X:Cx}
theorem Vals.app{xs ys:List V}{us vs:List Ap}(h:Vals xs us)(k:Vals ys vs):Vals (xs++ys) (us++vs):=by
 induction h with
 | nil=>exact k
 | cons r t ih=>exact .cons r ih
def rAddL(K:Au):R2:=λx y H Q=>∃a b xs ys,x=.ref a/\y=.ref b/\SqL K H a xs/\SqL K H b ys/\xs.length+ys.length<=sizeLine/\∀p,H p=none->Q (.ref p) (upd H p (.lst (xs++ys)))
theorem Uz:OpR X (FI .Add) (rAddL X.K):=by
 intro pins s σ H x y v u Q I rx ry h;obtain ⟨a,b,xs,ys,rfl,rfl,ha,hb,hz,q⟩:=h;cases rx;cases ry;obtain ⟨vs,r1,p1,_⟩:=I.list ha;obtain ⟨ws,r2,p2,_⟩:=I.list hb;have hl:=p1.isList;have hb':=p2.isList;obtain ⟨⟨cls,dd,data,sl⟩,ho,hc,n,hd⟩:=id hl;obtain ⟨⟨cls2,dd2,data2,sl2⟩,ho2,hc2,n2,hd2⟩:=id hb';simp only at hc hd hc2 hd2;subst hc hd hc2 hd2;have e:vs.toArray++ws.toArray=(vs++ws).toArray:=by simp
 have l1:=r1.length;have l2:=r2.length;refine MU ⟨_,ho,rfl⟩ ⟨_,ho2,rfl⟩ noFill_list_add seq_list_add PySem.F.slot_list_add PySem.F.entry_list_add (PySem.F.args_list_add_2 _ _) (list_addW a b vs.toArray ws.toArray n n2 dd dd2 sl sl2 (by rw[A7,A7];lia)) ⟨ho,ho2,?_⟩;rw[e];refine ⟨.ref s.heap.objs.size,_,I.laid (t':=s.toks) (o:=.lst (xs++ys)) (λb ob q=>AJ _ q) (AF _) ?_,rfl,q _ (I.hok.fresh (AF _))⟩;exact ⟨by rw[BC];exact hz,_,0,Vals.app r1 r2,AW _ rfl⟩
structure Own(K:Frag)(C:Addr):Prop where
 ha:findIn K (.ref C) "__class__" = some (some (.builtin "object.__class__"))
 hn:specialIn K (.builtin "object.__class__") "__get__" = some (some (.builtin "getset_descriptor.__get__"))
 tk:takesIn K (.builtin "object.__class__")=some true
 hm:mroIn K C (.type "object")=some true
 is:kitOne K (.ref C) (.ref C)=some true
end
end L2
end
section
namespace L2
open PySem PySem.Spec PyProof.Rows
open PySem.W
end L2
end
section
namespace L2
open PySem PySem.Spec PyProof.Rows
section
variable{κ:Type}[DecidableEq κ]
def valV(kvs:List (κ×V))(k:κ):Option V:=(kvs.find? λkv=>decide (kv.1=k)).map (·.2)
def putK(kvs:List (κ×V))(k:κ)(v:V):List (κ×V) :=
 if (kvs.any λkv=>decide (kv.1=k))=true then kvs.map (λkv=>if kv.1=k then (kv.1,v) else kv) else kvs++[(k,v)]
theorem Bp{p:κ×V}{r:List (κ×V)}{k:κ}(e:p.1=k):valV (p::r) k=some p.2:=by simp[valV,Fh,e]
theorem Bq{p:κ×V}{r:List (κ×V)}{k:κ}(e:¬ p.1=k):valV (p::r) k=valV r k:=by simp[valV,Fh,e]
theorem Fy(k:κ):∀kvs:List (κ×V),(kvs.any λkv=>decide (kv.1=k))=(valV kvs k).isSome
 | []=>rfl
 | p::r=>by
  rw[HH];by_cases e:p.1=k
  ·simp only[Bp e,decide_eq_true e,Bool.true_or,Option.isSome_some]
  ·rw[Bq e,decide_eq_false e,To];exact Fy k r
theorem QV(k j:κ)(y:V):∀kvs:List (κ×V),valV (kvs.map λkv=>if kv.1=k then (kv.1,y) else kv) j=(valV kvs j).map λx=>if j=k then y else x
 | []=>rfl
 | p::r=>by
  have ih:=QV k j y r;rw[BO];by_cases h:p.1=k
  ·rw[if_pos h]
   by_cases e:p.1=j
   ·rw[Bp (p:=(p.1,y)) e,Bp e,K4,if_pos (e.symm.trans h)]
   ·rw[Bq (p:=(p.1,y)) e,Bq e,ih]
  ·rw[if_neg h]
   by_cases e:p.1=j
   ·rw[Bp (p:=p) e,Bp e,K4,if_neg (λz=>h (e.trans z))]
   ·rw[Bq (p:=p) e,Bq e,ih]
theorem LQ(k j:κ)(y:V):∀kvs:List (κ×V),valV kvs k=none->valV (kvs++[(k,y)]) j=if j=k then some y else valV kvs j
 | [],_=>by
  by_cases e:k=j
  ·rw[if_pos e.symm];exact Bp (p:=(k,y)) e
  ·rw[if_neg (λz=>e z.symm)];exact Bq (p:=(k,y)) e
 | p::r,hn=>by
  rw[Re];have hk:¬ p.1=k:=λz=>by rw[Bp z] at hn;cases hn
  rw[Bq hk] at hn;have ih:=LQ k j y r hn;by_cases e:p.1=j
  ·rw[Bp e,Bp e,if_neg (λz=>hk (e.trans z))]
  ·rw[Bq e,Bq e,ih]
theorem Cw(kvs:List (κ×V))(k j:κ)(y:V):valV (putK kvs k y) j=if j=k then some y else valV kvs j:=by
 unfold putK;by_cases a:(kvs.any λkv=>decide (kv.1=k))=true
 ·rw[if_pos a,QV]
  rw[Fy] at a;by_cases e:j=k
  ·obtain ⟨x,hx⟩:=Fa.mp a
   rw[if_pos e,e,hx,K4,if_pos rfl]
  ·rw[if_neg e]
   cases valV kvs j with
   | none=>rfl
   | some x=>rw[K4,if_neg e]
 ·rw[if_neg a]
  refine LQ k j y kvs ?_;rw[Fy] at a;cases q:valV kvs k with
  | none=>rfl
  | some x=>rw[q] at a;exact (a rfl).elim
theorem Bx(kvs:List (κ×V))(k:κ)(v:V):(putK kvs k v).length<=kvs.length+1:=by
 unfold putK;split
 ·rw[AE];lia
 ·rw[BC,DI,K3];lia
theorem FP{kvs:List (κ×V)}{k:κ}(v:V)(h:valV kvs k=none):putK kvs k v=kvs++[(k,v)]:=by
 unfold putK;rw[Fy,h];exact if_neg (by decide)
theorem RelO.isSome_eq{o:Option V}{u:Option Ap}(r:RelO o u):o.isSome=u.isSome:=by
 cases o with
 | none=>cases u with
  | none=>rfl
  | some _=>exact (show False from r).elim
 | some _=>cases u with
  | none=>exact (show False from r).elim
  | some _=>rfl
theorem RelO.getD{o:Option V}{u:Option Ap}{d:V}{d':Ap}(r:RelO o u)(rd:RelV d d'):RelV (o.getD d) (u.getD d'):=by
 cases o with
 | none=>cases u with
  | none=>exact rd
  | some _=>exact (show False from r).elim
 | some _=>cases u with
  | none=>exact (show False from r).elim
  | some _=>exact r
theorem KV.val{kvs:List (κ×V)}{vs:List (κ×Ap)}(r:KV kvs vs)(k:κ):RelO (valV kvs k) (MR vs k):=by
 unfold KV at r
 induction r with
 | nil=>exact GH
 | @cons p q ps qs h t ih =>
  obtain ⟨h1,h2⟩:=h;by_cases e:p.1=k
  ·have e':q.1=k:=h1.symm.trans e
   have b:MR (q::qs) k=some q.2:=by simp[MR,Fh,e']
   rw[Bp e,b];exact h2
  ·have e':¬ q.1=k:=λz=>e (h1.trans z)
   have b:MR (q::qs) k=MR qs k:=by simp[MR,Fh,e']
   rw[Bq e,b];exact ih
theorem KV.any{kvs:List (κ×V)}{vs:List (κ×Ap)}(r:KV kvs vs)(k:κ):(kvs.any λkv=>decide (kv.1=k))=vs.any λkv=>decide (kv.1=k):=by
 unfold KV at r
 induction r with
 | nil=>rfl
 | cons h t ih=>rw[HH,HH,ih,h.1]
theorem KV.repl{kvs:List (κ×V)}{vs:List (κ×Ap)}(r:KV kvs vs)(k:κ){y:V}{u:Ap}(ry:RelV y u) :
  KV (kvs.map λkv=>if kv.1=k then (kv.1,y) else kv) (vs.map λkv=>if kv.1=k then (kv.1,u) else kv):=by
 unfold KV at r ⊢
 induction r with
 | nil=>exact .nil
 | @cons p q ps qs h t ih =>
  rw[BO,BO];refine .cons ?_ ih;obtain ⟨h1,h2⟩:=h;by_cases e:p.1=k
  ·rw[if_pos e,if_pos (h1.symm.trans e)];exact ⟨h1,ry⟩
  ·rw[if_neg e,if_neg (λz=>e (h1.trans z))];exact ⟨h1,h2⟩
theorem KV.put{kvs:List (κ×V)}{vs:List (κ×Ap)}(r:KV kvs vs)(k:κ){y:V}{u:Ap}(ry:RelV y u):KV (putK kvs k y) (stored vs k u):=by
 unfold putK stored;rw[r.any k];by_cases e:(vs.any λkv=>decide (kv.1=k))=true
 ·rw[if_pos e,if_pos e];exact r.repl k ry
 ·rw[if_neg e,if_neg e];exact Q0 r ⟨rfl,ry⟩
theorem KV.length{kvs:List (κ×V)}{vs:List (κ×Ap)}(r:KV kvs vs):kvs.length=vs.length:=AY r
end
theorem Js{P:AL}{w:AQ}{k:Key}{u:Ap}(r:RelV (kV k) u):(BW P w).is k u=true:=by
 cases k with
 | inl i=>obtain ⟨t,e⟩:=(show ∃t,u=KI i t from r);subst e;exact Qv P w i t
 | inr x=>obtain ⟨t,e⟩:=(show ∃t,u=O7 x t from r);subst e;exact Qu P w x t
theorem Lx{P:AL}{w:AQ}:∀{ks:List Key}{us:List Ap},Vals (ks.map kV) us->ItemsAre (BW P w) ks us
 | [],_,r=>by rw[MW] at r;cases r;exact .nil
 | k::ks,_,r=>by
  rw[BO] at r;cases r with
  | cons h t=>exact .cons (Js h) (Lx t)
abbrev KT(H:Hp):List (List Key×V)->List (List Key×Addr×Ap)->Prop:=BE λp q=>p.1=q.1/\H q.2.1=some (.tup (p.1.map kV))/\RelV p.2 q.2.2
theorem KT.val{H:Hp}{kvs:List (List Key×V)}{xs:List (List Key×Addr×Ap)}(r:KT H kvs xs)(k:List Key):RelO (valV kvs k) ((HM xs k).map (·.2)):=by
 induction r with
 | nil=>exact GH
 | @cons p q ps qs h t ih =>
  obtain ⟨h1,_,h2⟩:=h;by_cases e:p.1=k
  ·have e':q.1=k:=h1.symm.trans e
   have b:HM (q::qs) k=some q.2:=by simp[HM,Fh,e']
   rw[Bp e,b];exact h2
  ·have e':¬ q.1=k:=λz=>e (h1.trans z)
   have b:HM (q::qs) k=HM qs k:=by simp[HM,Fh,e']
   rw[Bq e,b];exact ih
theorem KT.repl{H:Hp}{kvs:List (List Key×V)}{xs:List (List Key×Addr×Ap)}(r:KT H kvs xs)(k:List Key){y:V}{u:Ap}(ry:RelV y u) :
  KT H (kvs.map λkv=>if kv.1=k then (kv.1,y) else kv) (xs.map (putAt k u)):=by
 induction r with
 | nil=>exact .nil
 | @cons p q ps qs h t ih =>
  rw[BO,BO];refine .cons ?_ ih;obtain ⟨h1,h2,h3⟩:=h;unfold putAt;by_cases e:p.1=k
  ·rw[if_pos e,if_pos (h1.symm.trans e)];exact ⟨h1,h2,ry⟩
  ·rw[if_neg e,if_neg (λz=>e (h1.trans z))];exact ⟨h1,h2,h3⟩
theorem KT.put{H:Hp}{kvs:List (List Key×V)}{xs:List (List Key×Addr×Ap)}(r:KT H kvs xs)(k:List Key){b:Addr}{y:V}{u:Ap}(hb:H b=some (.tup (k.map kV)))(ry:RelV y u) :
  KT H (putK kvs k y) (SV xs k b u):=by
 have e:(kvs.any λkv=>decide (kv.1=k))=(HM xs k).isSome:=by
  rw[Fy,(r.val k).isSome_eq,Kj]
 unfold putK SV;rw[e];by_cases q:(HM xs k).isSome=true
 ·rw[if_pos q,if_pos q];exact r.repl k ry
 ·rw[if_neg q,if_neg q];exact Q0 r ⟨rfl,hb,ry⟩
theorem KT.keeps{H H':Hp}{kvs:List (List Key×V)}{xs:List (List Key×Addr×Ap)}(r:KT H kvs xs)(ht:∀b ys,H b=some (.tup ys)->H' b=some (.tup ys)):KT H' kvs xs :=
 Paired.mapP r λ_ _ z=>⟨z.1,ht _ _ z.2.1,z.2.2⟩
section
variable{P:AL}{w:AQ}{H:Hp}{h:Heap}{a:Addr}
theorem ABY{u:HO}(ok:HOk P w H h)(e:Rd H a u):ObjOk P w H h a u:=e.ok ok
theorem Lb{kvs:List (Key×V)}(ok:HOk P w H h)(e:Rd H a (.dK kvs)):kvs.length<=sizeLine/\(a==DF)=false/\∃vs,KV kvs vs/\h.DictOf (BW P w) a vs :=
 show ObjOk P w H h a (.dK kvs) from ABY ok e
theorem ABW{kvs:List (Key×V)}(ok:HOk P w H h)(e:H a=some (.dK kvs)):kvs.length<=sizeLine/\(a==DF)=false/\∃vs,KV kvs vs/\h.DictOf (BW P w) a vs:=Lb ok (.inl e)
theorem Ii{ks:List Key}(ok:HOk P w H h)(e:H a=some (.tup (ks.map kV))):(LO (BW P w)).is h ks a:=by
 obtain ⟨_,its,r,o,h1,h2,n,h3⟩:=(show ObjOk P w H h a (.tup (ks.map kV)) from ok a _ e);exact ⟨o,its.toArray,n,h1,h2,h3,by simpa using Lx r⟩
theorem Mx{kvs:List (List Key×V)}(ok:HOk P w H h)(e:Rd H a (.dT kvs)):kvs.length<=sizeLine/\(a==DF)=false /\
  ∃xs,KT H kvs xs/\h.DictOfH (LO (BW P w)) a xs:=by
 obtain ⟨z,y,xs,r,o,es,ep,h1,h2,h3,h4,h5⟩:=(show ObjOk P w H h a (.dT kvs) from ABY ok e);refine ⟨z,y,xs,r,o,es,ep,h1,h2,h3,h4,λx hx=>?_,h5⟩;have all:∀{l:List (List Key×V)}{m:List (List Key×Addr×Ap)},KT H l m->∀x∈m,(LO (BW P w)).is h x.1 x.2.1:=by
  intro l m q
  induction q with
  | nil=>intro x hx;exact nomatch hx
  | @cons p q ps qs hq t ih =>
   intro x hx;rcases Bz.mp hx with e | hx
   ·subst e
    exact Ii ok (by rw[<- hq.1];exact hq.2.1)
   ·exact ih x hx
 exact all r x hx
theorem ADJ{kvs:List (List Key×V)}(ok:HOk P w H h)(e:H a=some (.dT kvs)):kvs.length<=sizeLine/\(a==DF)=false /\
  ∃xs,KT H kvs xs/\h.DictOfH (LO (BW P w)) a xs:=Mx ok (.inl e)
end
def DGet(H:Hp)(a:Addr)(y:V)(r:Option V):Prop :=
 (∃kvs k,Rd H a (.dK kvs)/\y=kV k/\r=valV kvs k)\/∃kvs k b,Rd H a (.dT kvs)/\y=.ref b/\H b=some (.tup (k.map kV))/\r=valV kvs k
def DPut(H:Hp)(a:Addr)(y v:V)(H':Hp):Prop :=
 (∃kvs k,H a=some (.dK kvs)/\y=kV k/\kvs.length<sizeLine/\H'=upd H a (.dK (putK kvs k v))) \/
 ∃kvs k b,H a=some (.dT kvs)/\y=.ref b/\H b=some (.tup (k.map kV))/\kvs.length<sizeLine/\H'=upd H a (.dT (putK kvs k v))
theorem DGet.k{H:Hp}{a:Addr}{kvs:List (Key×V)}{k:Key}(e:H a=some (.dK kvs)):DGet H a (kV k) (valV kvs k):=.inl ⟨kvs,k,.inl e,rfl,rfl⟩
theorem DGet.t{H:Hp}{a b:Addr}{kvs:List (List Key×V)}{k:List Key}(e:H a=some (.dT kvs))(eb:H b=some (.tup (k.map kV))):DGet H a (.ref b) (valV kvs k):=.inr ⟨kvs,k,b,.inl e,rfl,eb,rfl⟩
section
variable{X:Cx}{pins:List (Addr×Obj)}{σ:St}{H:Hp}{s:AA}{a:Addr}{y v:V}{u r:Ap}{o:Option V}{A:BS}{E:Ap->AA->Prop}
theorem Inv.big(I:Inv X pins σ H s):DF<s.heap.objs.size:=by
 have h:AZ<s.heap.objs.size:=(I.mod.glob.keeps I.bk).lt;exact Nat.lt_trans (by decide) h
theorem Wu{Q:Ap->AA->Prop}(hu:A.units+1<C2)(I:Inv X pins σ H s)(g:DGet H a y (some v))(ry:RelV y u)(h:∀w' s',Inv X pins σ H s'->RelV v w'->Q w' s') :
  wpAny (AO X.prog X.w) A (MO (.ref a) u) Q E s:=by
 rcases g with⟨kvs,k,e,ey,l⟩ | ⟨kvs,k,b,e,ey,eb,l⟩
 ·subst ey
  obtain ⟨z,hd,vs,rel,dd⟩:=Lb I.hok e;obtain ⟨w',hw,rw'⟩:=RelO.some_of (v:=v) (o:=MR vs k) (by rw[l];exact rel.val k);exact wpAny_getItem_of (Js ry) dd.mapOf hw (h w' _ (I.tok _) rw')
 ·subst ey
  cases (show u=AT b from ry);obtain ⟨z,hd,xs,rel,dd⟩:=Mx I.hok e;obtain ⟨w',hw,rw'⟩:=RelO.some_of (v:=v) (o:=(HM xs k).map (·.2)) (by rw[l];exact rel.val k);obtain ⟨p,hp,hp2⟩:=NX.mp hw;refine PF (JU hu) (Ii I.hok eb) dd hp ?_;rw[hp2];exact h w' _ (I.tok _) rw'
theorem ADg{Q:Ap->AA->Prop}(hu:A.units+1<C2)(I:Inv X pins σ H s)(g:DGet H a y o)(ry:RelV y u)(h:∀s',Inv X pins σ H s'->Q (.bool o.isSome) s') :
  wpAny (AO X.prog X.w) A (D8 .In u (.ref a)) Q E s:=by
 rcases g with⟨kvs,k,e,ey,l⟩ | ⟨kvs,k,b,e,ey,eb,l⟩
 ·subst ey
  obtain ⟨z,hd,vs,rel,dd⟩:=Lb I.hok e;refine wpAny_in_of (Js ry) hd dd.mapOf ?_;rw[<- (rel.val k).isSome_eq,<- l];exact h _ (I.tok _)
 ·subst ey
  cases (show u=AT b from ry);obtain ⟨z,hd,xs,rel,dd⟩:=Mx I.hok e;refine wpAny_in_heap (JU hu) (Ii I.hok eb) hd dd ?_;have q:=(rel.val k).isSome_eq;rw[Kj] at q;rw[<- q,<- l];exact h _ (I.tok _)
theorem JZ{h':Heap}{t':Nat}{ob:HO}(I:Inv X pins σ H s)(mu:Mut (H a))(hs:D6 a s.heap h')(he:∃q,h'.get? a=some q)(new:ObjOk X.prog X.w (upd H a ob) h' a ob) :
  Inv X pins σ (upd H a ob) {s with heap:=h',toks:=t'} :=
 I.write (x:=a) (e:=a) mu (.inl rfl) (λb q hb z=>(hs.2 b hb).trans z) he new
theorem Zb{P:AL}{w:AQ}{H':Hp}{h':Heap}{kvs:List (Key×V)}{vs:List (Key×Ap)}(z:kvs.length<=sizeLine)(hd:(a==DF)=false)(rel:KV kvs vs)(dd:h'.DictOf (BW P w) a vs) :
  ObjOk P w H' h' a (.dK kvs):=⟨z,hd,vs,rel,dd⟩
theorem Wh{H':Hp}{Q:Unit->AA->Prop}(hu:A.units+1<C2)(I:Inv X pins σ H s)(g:DPut H a y v H')(ry:RelV y u)(rv:RelV v r)(h:∀s',Inv X pins σ H' s'->Q () s') :
  wpAny (AO X.prog X.w) A (setItem (.ref a) u r) Q E s:=by
 rcases g with⟨kvs,k,e,ey,l,eH⟩ | ⟨kvs,k,b,e,ey,eb,l,eH⟩
 ·subst ey eH
  obtain ⟨z,hd,vs,rel,dd⟩:=ABW I.hok e;have hz:vs.length<=sizeLine:=by rw[<- rel.length];exact z
  have hl:(putK kvs k v).length<=sizeLine:=by have:=Bx kvs k v;lia
  refine wpAny_setItem_pairs (hsz:=hz) (Js ry) dd λh' dd' hs=>h _ ?_;have he:∃q,h'.get? a=some q:=let ⟨q,_,_,hq,_⟩:=dd';⟨q,hq⟩
  exact JZ I (by rw[e];exact GH) hs he (Zb hl hd (rel.put k rv) dd')
 ·subst ey eH
  cases (show u=AT b from ry);obtain ⟨z,hd,xs,rel,dd⟩:=ADJ I.hok e;have hz:xs.length<=sizeLine:=by rw[<- AY rel];exact z
  have hl:(putK kvs k v).length<=sizeLine:=by have:=Bx kvs k v;lia
  refine PH (hsz:=hz) (JU hu) (Ii I.hok eb) dd λh' dd' hs=>h _ ?_;obtain ⟨q,es,ep,hq,h2,h3,h4,_,h5⟩:=dd';refine JZ I (by rw[e];exact GH) hs ⟨q,hq⟩ ⟨hl,hd,_,(rel.put k eb rv).keeps λc ys ec=>?_,q,es,ep,hq,h2,h3,h4,h5⟩;rw[Ae (Bu ec e (λz=>nomatch z))];exact ec
end
def NoSl(i:Expr):Prop:=∀ov iv,NR i false ov iv=operate [ov,iv] (MO ov iv)
theorem Vd{prog:AL}{w:AQ}{A:BS}{E:Ap->AA->Prop}{s:AA}{env:Env}{value slice:Expr}{pos:Pos}{T id:String}{Q:Ap->AA->Prop}
  (hl:typeLookup (.type T) "__getitem__" = pure (some (.builtin id))) (hs:NoSl slice)
  (h:wpAny (AO prog w) A (eval value env) (λo s₁=>wpAny (AO prog w) A (eval slice env) (λi s₂=>s₂.TypeIs o T/\wpAny (AO prog w) A (MO o i) Q E s₂) E s₁) E s) :
  wpAny (AO prog w) A (eval (.Subscript value slice pos) env) Q E s:=by
 refine R7 (D5 h (λo s₁ h₁=>D5 h₁ (λi s₂ h₂=>?_) λ_ _ x=>x) λ_ _ x=>x);obtain ⟨hT,h₂⟩:=h₂;unfold OW;refine As ?_;rw[getitemInPython_of_ne hT.not_modules];refine As (F4 hT hl ?_);have fin:wpAny (AO prog w) A (NR slice false o i) (λr s₃=>wpAny (AO prog w) A (letTemporaryGo value o r >>= λ_=>pure r) Q E s₃) E s₂:=by
  rw[hs o i];exact wpAny_operating (D5 h₂ (λr s₃ h₃=>As (wpAny_letTemporaryGo (wpAny_pure h₃))) λ_ _ x=>x)
 first
  | exact wpAny_pure (As fin)
  | exact As (wpAny_pure (As fin))
  | exact As fin
theorem Qk{X:Cx}{pins:List (Addr×Obj)}{σ:St}{H:Hp}{s:AA}{a:Addr}{y:V}{o:Option V}(I:Inv X pins σ H s)(g:DGet H a y o):s.TypeIs (.ref a) "dict":=by
 rcases g with⟨kvs,k,e,_,_⟩ | ⟨kvs,k,b,e,_,_,_⟩
 ·obtain ⟨_,_,vs,_,dd⟩:=Lb I.hok e
  exact dd.typeIs
 ·obtain ⟨_,_,xs,_,dd⟩:=Mx I.hok e
  exact dd.typeIs
def ACm(td ty:TE):TE:=λσ H Q=>td σ H λx H1=>ty σ H1 λy H2=>∃a v,x=.ref a/\DGet H2 a y (some v)/\Q v H2
def ADp(ty td:TE):TE:=λσ H Q=>ty σ H λy H1=>td σ H1 λx H2=>∃a o,x=.ref a/\DGet H2 a y o/\Q (.bl o.isSome) H2
def ADY(td ty tv:TE):TS:=λD σ H=>tv σ H λv H1=>td σ H1 λx H2=>ty σ H2 λy H3=>∃a H4,x=.ref a/\DPut H3 a y v H4/\D.nx σ H4
section
variable{X:Cx}{o i e value:Expr}{pos pos' tpos:Pos}{td ty tv:TE}
theorem OD(hu:X.A.units+1<C2)(ho:PE X o td)(hi:PE X i ty)(hs:NoSl i):PE X (.Subscript o i pos) (ACm td ty):=by
 intro pins s σ H Q I h;refine Vd MD.lookup hs (thn (ho pins s σ H _ I h) λu s1 ⟨x,H1,I1,rx,q1⟩=>thn (hi pins s1 σ H1 _ I1 q1) λiv s2 ⟨y,H2,I2,ry,a,v,ex,g,q2⟩=>?_);subst ex;obtain rfl:u=AT a:=rx;exact ⟨Qk I2 g,Wu hu I2 g ry λw' s3 I3 rw'=>⟨v,H2,I3,rw',q2⟩⟩
theorem Zh(hu:X.A.units+1<C2)(hi:PE X i ty)(ho:PE X o td):PC X .In i o (ADp ty td):=by
 intro pins s σ H Q I h;refine thn (hi pins s σ H _ I h) λiv s1 ⟨y,H1,I1,ry,q1⟩=>thn (ho pins s1 σ H1 _ I1 q1) λu s2 ⟨x,H2,I2,rx,a,ov,ex,g,q2⟩=>?_;subst ex;obtain rfl:u=AT a:=rx;exact ADg hu I2 g ry λs3 I3=>⟨.bl ov.isSome,H2,I3,rfl,q2⟩
theorem HF(hu:X.A.units+1<C2)(ho:PE X o td)(hi:PE X i ty)(hv:PE X value tv)(hs:LP value (some (.Subscript o i pos')) pos.line X.env=pure false) :
  PS X (.Assign [.Subscript o i pos'] value pos) (ADY td ty tv):=by
 intro pins s σ H D I h;refine NY (thn (hv pins s σ H _ I h) λr s1 ⟨v,H1,I1,rv,q1⟩=>thn (ho pins s1 σ H1 _ I1 q1) λu s2 ⟨x,H2,I2,rx,q2⟩=>thn (hi pins s2 σ H2 _ I2 q2) λiv s3 ⟨y,H3,I3,ry,a,H4,ex,g,q3⟩=>?_) hs;subst ex;obtain rfl:u=AT a:=rx;exact Wh hu I3 g ry rv λs4 I4=>⟨σ,H4,I4,q3⟩
end
theorem Yp{P:AL}{w:AQ}{H:Hp}(h:Heap)(hb:DF<h.objs.size):ObjOk P w H (h.push {cls:=.type "dict",data:=.dict #[]}) h.objs.size (.dK []) :=
 ⟨BH _,beq_eq_false_iff_ne.mpr (C6 (B2 hb)),[],.nil,We h⟩
theorem Yn{P:AL}{w:AQ}{H:Hp}(h:Heap)(hb:DF<h.objs.size):ObjOk P w H (h.push {cls:=.type "dict",data:=.dict #[]}) h.objs.size (.dT []) :=
 ⟨BH _,beq_eq_false_iff_ne.mpr (C6 (B2 hb)),[],.nil,_,#[],0,AW _ rfl,⟨rfl,rfl,rfl⟩,rfl,rfl,LF⟩
def ABv:TE:=λ_ H Q=>∀p,H p=none->Q (.ref p) (upd H p (.dT []))
section
variable{X:Cx}{pos:Pos}
theorem Qc:PE X (.Dict [] [] pos) ABv:=λpins s σ H Q I h =>
 wpAny_Dict_empty ⟨.ref s.heap.objs.size,_,I.laid (a:=s.heap.objs.size) (o:=.dT []) (t':=s.toks) (λ_ _ q=>AJ _ q) (AF _) (Yn s.heap I.big),rfl,h _ (I.hok.fresh (AF _))⟩
end
def Ro:List (TE×TE)->St->Hp->(List (V×V)->Hp->Prop)->Prop
 | [],_,H,Q=>Q [] H
 | (tk,tv)::r,σ,H,Q=>tk σ H λx H1=>tv σ H1 λy H2=>Ro r σ H2 λps H3=>Q ((x,y)::ps) H3
abbrev VV:List (V×V)->List (Ap×Ap)->Prop:=BE λp q=>RelV p.1 q.1/\RelV p.2 q.2
def PPs(X:Cx)(pos:Pos)(keys:List (Option Expr))(values:List Expr)(trs:List (TE×TE)):Prop :=
 ∀(pins:List (Addr×Obj)) (s:AA) (σ:St) (H:Hp) (Q:List (V×V)->Hp->Prop),Inv X pins σ H s->Ro trs σ H Q ->
  wpAny (AO X.prog X.w) X.A (evalPairs (pairTrees keys values X.env pos)) (λvs s'=>∃ps H',Inv X pins σ H' s'/\VV ps vs/\Q ps H') X.xe s
theorem Va{X:Cx}{pos:Pos}:PPs X pos [] [] []:=λpins s σ H Q I h=>pairTrees_nil_walk ⟨[],H,I,.nil,h⟩
theorem Kp{X:Cx}{pos:Pos}{k v:Expr}{ks:List (Option Expr)}{vs:List Expr}{tk tv:TE}{trs:List (TE×TE)}(hk:PE X k tk)(hv:PE X v tv)(hr:PPs X pos ks vs trs) :
  PPs X pos (some k::ks) (v::vs) ((tk,tv)::trs):=λpins s σ H Q I h =>
 pairTrees_cons_walk (thn (hk pins s σ H _ I h) λu s1 ⟨x,H1,I1,rx,q1⟩=>thn (hv pins s1 σ H1 _ I1 q1) λw2 s2 ⟨y,H2,I2,ry,q2⟩ =>
  thn (hr pins s2 σ H2 _ I2 q2) λws s3 ⟨ps,H3,I3,rel,q3⟩=>⟨(x,y)::ps,H3,I3,.cons ⟨rx,ry⟩ rel,q3⟩)
def mergeK(kvs more:List (Key×V)):List (Key×V):=more.foldl (λacc kv=>putK acc kv.1 kv.2) kvs
theorem KV.merge:∀{more:List (Key×V)}{rs:List (Key×Ap)}{kvs:List (Key×V)}{vs:List (Key×Ap)},KV more rs->KV kvs vs->KV (mergeK kvs more) (merged vs rs):=by
 intro more rs kvs vs r;unfold KV at r
 induction r generalizing kvs vs with
 | nil=>intro q;exact q
 | @cons p q ps qs h t ih =>
  intro r0;have e:KV (putK kvs p.1 p.2) (stored vs q.1 q.2):=by
   have:=r0.put p.1 h.2;rw[<- h.1];exact this
  exact ih e
theorem Gf:∀(more kvs:List (Key×V)),(mergeK kvs more).length<=kvs.length+more.length
 | [],kvs=>by show kvs.length<=kvs.length+0;lia
 | p::r,kvs=>by
  have h1:=Gf r (putK kvs p.1 p.2);have h2:=Bx kvs p.1 p.2;show (mergeK (putK kvs p.1 p.2) r).length<=_;rw[DI];lia
theorem Kg{P:AL}{w:AQ}:∀{kvs:List (Key×V)}{ws:List (Ap×Ap)},VV (kvs.map λkv=>(kV kv.1,kv.2)) ws->∃rs,Carries (BW P w) ws rs/\KV kvs rs
 | [],_,r=>by rw[MW] at r;cases r;exact ⟨[],GH,.nil⟩
 | p::kvs,_,r=>by
  rw[BO] at r;cases r with
  | @cons a b as bs h t =>
   obtain ⟨rs,c,q⟩:=Kg (P:=P) (w:=w) t;obtain ⟨b1,b2⟩:=b;exact ⟨(p.1,b2)::rs,⟨Js h.1,rfl,c⟩,.cons ⟨rfl,h.2⟩ q⟩
def ACh(trs:List (TE×TE)):TE:=λσ H Q=>∀p,H p=none->Ro trs σ (upd H p (.dK [])) λps H2=>H2 p=some (.dK [])/\∃kvs:List (Key×V),ps=kvs.map (λkv=>(kV kv.1,kv.2))/\kvs.length<=15/\Q (.ref p) (upd H2 p (.dK (mergeK [] kvs)))
theorem Ur{X:Cx}{pos:Pos}{keys:List (Option Expr)}{values:List Expr}{trs:List (TE×TE)}(h:PPs X pos keys values trs)(hall:keys.all (·.isSome)=true)(hl:keys.length=values.length)(h0:keys≠[])
  (h15:keys.length<=15):PE X (.Dict keys values pos) (ACh trs):=by
 intro pins s σ H Q I q;have hn:=I.hok.fresh (AF s.heap.objs.size);have I1:=I.laid (a:=s.heap.objs.size) (o:=.dK []) (h':=s.heap.push {cls:=.type "dict",data:=.dict #[]}) (t':=s.toks) (λ_ _ q=>AJ _ q) (AF _) (Yp s.heap I.big);refine wpAny_Dict_walk (knd:=BW X.prog X.w) hall hl h0 h15 (thn (h pins _ σ _ _ I1 (q _ hn)) λws s2 ⟨ps,H2,I2,rel,e,kvs,ep,lk,q2⟩=>?_);subst ep;obtain ⟨rs,c,rk⟩:=Kg (P:=X.prog) (w:=X.w) rel;obtain ⟨z,hd,vs0,r0,dd⟩:=ABW I2.hok e;cases r0;refine ⟨rs,c,dd,λh' dd' hs=>⟨.ref s.heap.objs.size,_,?_,rfl,q2⟩⟩;have hz:(mergeK [] kvs).length<=sizeLine:=by
  have h1:=Gf kvs [];rw[K3] at h1;rw[EZ];lia
 have he:∃q,h'.get? s.heap.objs.size=some q:=let ⟨q,_,_,hq,_⟩:=dd';⟨q,hq⟩
 exact JZ I2 (by rw[e];exact GH) hs he (Zb hz hd (rk.merge .nil) dd')
structure M2(X:Cx)(o:Expr)(m:Str)(apos:Pos)(e f:Expr)(cpos:Pos):Prop where
 base:L4 o m X.env (eval o X.env)=eval o X.env
 few:((G5 cpos (Cf [e,f] X.env)).all (λx=>!x.1)&&(Q5 cpos (NM [] X.env)).all (λx=>x.1.isSome)
  && decide (([e,f]:List Expr).length+([]:List SL).length+(if ([]:List SL).isEmpty then 0 else 1)<30))=true
 line:(apos.endLine==cpos.line)=true
 trees:G5 cpos (Cf [e,f] X.env)=[(false,eval e X.env),(false,eval f X.env)]
def IsD(H:Hp)(a:Addr):Prop:=(∃kvs,Rd H a (.dK kvs))\/∃kvs,Rd H a (.dT kvs)
theorem ACQ{X:Cx}{pins:List (Addr×Obj)}{σ:St}{H:Hp}{s:AA}{a:Addr}(I:Inv X pins σ H s)(d:IsD H a) :
  s.TypeIs (.ref a) "dict"/\(∀b,AT a=.ref b->∃ob,s.heap.get? b=some ob/\ob.dict=none)/\(a==DF)=false:=by
 rcases d with⟨kvs,e⟩ | ⟨kvs,e⟩
 ·obtain ⟨_,hd,vs,_,dd⟩:=Lb I.hok e
  refine ⟨dd.typeIs,λb q=>?_,hd⟩;cases q;obtain ⟨ob,_,_,h1,h2,_⟩:=dd;exact ⟨ob,h1,h2.2.1⟩
 ·obtain ⟨_,hd,xs,_,dd⟩:=Mx I.hok e
  refine ⟨dd.typeIs,λb q=>?_,hd⟩;cases q;obtain ⟨ob,_,_,h1,h2,_⟩:=dd;exact ⟨ob,h1,h2.2.1⟩
section
variable{X:Cx}{pins:List (Addr×Obj)}{σ:St}{H:Hp}{s:AA}{a:Addr}{y d:V}{u r:Ap}{o:Option V}{A:BS}{E:Ap->AA->Prop}
theorem ABk{Q:Ap->AA->Prop}(hu:A.units+1<C2)(I:Inv X pins σ H s)(g:DGet H a y o)(ry:RelV y u)(rd:RelV d r)(h:∀w' s',Inv X pins σ H s'->RelV (o.getD d) w'->Q w' s') :
  wpAny (AO X.prog X.w) A (call (.builtin "dict.get") [.ref a,u,r]) Q E s:=by
 rcases g with⟨kvs,k,e,ey,l⟩ | ⟨kvs,k,b,e,ey,eb,l⟩
 ·subst ey
  obtain ⟨z,hd,vs,rel,dd⟩:=Lb I.hok e;refine PM KO dd.typeIs N0 (M7 _ _ _) (meets_dict_get_default (BW X.prog X.w) a (Js ry) hd r) ⟨_,dd.mapOf,h _ _ (I.tok _) ?_⟩;rw[l];exact (rel.val k).getD rd
 ·subst ey
  cases (show u=AT b from ry);obtain ⟨z,hd,xs,rel,dd⟩:=Mx I.hok e;refine PM KO dd.typeIs N0 (M7 _ _ _) (meetsH_dict_get_default (LO (BW X.prog X.w)) a b hd r) ⟨JU hu,k,xs,Ii I.hok eb,dd,h _ _ (I.tok _) ?_⟩;rw[l];exact (rel.val k).getD rd
end
def ACS(td ty tx:TE):TE:=λσ H Q=>td σ H λx H1=>∃a,x=.ref a/\IsD H1 a/\ty σ H1 λy H2=>tx σ H2 λz H3=>∃o,DGet H3 a y o/\Q (o.getD z) H3
section
variable{X:Cx}{o e f:Expr}{apos cpos:Pos}{td ty tx:TE}
theorem Zf(hu:X.A.units+1<C2)(ho:PE X o td)(he:PE X e ty)(hf:PE X f tx)(m:M2 X o "get" apos e f cpos):PE X (.Call (.Attribute o "get" apos) [e,f] [] cpos) (ACS td ty tx):=by
 intro pins s σ H Q I h;refine wpAny_Call_method m.base m.few m.line PySem.F.plainAttrs_dict KO PySem.F.type_dict_get (thn (ho pins s σ H _ I h) λu s1 ⟨x,H1,I1,rx,a,ex,d,q1⟩=>?_);subst ex;obtain rfl:u=AT a:=rx;obtain ⟨t1,t2,_⟩:=ACQ I1 d;refine ⟨t1,t2,?_⟩;rw[m.trees];refine NU rfl (ON (HL (thn (he pins s1 σ H1 _ I1 q1) λiv s2 ⟨y,H2,I2,ry,q2⟩ =>
  HL (thn (hf pins s2 σ H2 _ I2 q2) λfv s3 ⟨z,H3,I3,rz,ov,g,q3⟩=>J9 ?_))))
 exact ABk hu I3 g ry rz λw' s4 I4 rw'=>⟨_,H3,I4,rw',q3⟩
end
end L2
end
section
namespace L2
open PySem PySem.Spec PyProof.Rows
open Sem (wp)
section
variable{prog:AL}{w:AQ}{A:BS}{E:Ap->AA->Prop}{s:AA}
theorem Vn{d:Addr}{o:Obj}{es:Array LW}{ep:Nat}{Q:Ap->AA->Prop}(hd:(d==DF)=false)(hT:s.TypeIs (.ref d) "dict")(ho:s.heap.get? d=some o)(hdat:o.data=.dict es ep)
  (hQ:Q (.ref s.heap.objs.size) {s with heap:=s.heap.push {cls:=.type "dict_keyiterator",data:=.fields #[.ref d,.int 0 0,.int es.size 0,.int ep 0]}}) :
  wpAny (AO prog w) A (N5 (.ref d)) Q E s:=by
 refine Mm hT Rl (Do Rl hT F.entry_dict_iter ?_ (F.args_dict_iter_1 _));unfold Builtin.«dict.__iter__»;refine As ?_;unfold Uf;refine As (wpAny_notOrdered_dict hT ?_);show wpAny _ _ (pure (AT d)) _ _ s;refine wpAny_pure ?_;show wpAny _ _ (N9 d >>= _) _ _ s;unfold N9;rw[if_neg (by rw[hd];exact BA)];refine As (wpAny_pure ?_);refine As (Kk ho hdat ?_);refine As (NA ho hdat ?_);refine As (DB (wpAny_pure ⟨_,rfl, "dict_keyiterator",_,⟨_,AW _ rfl,rfl⟩,EF.lookup,?_⟩));simpa [E8] using hQ
theorem Yx{it d:Addr}{i ep:Nat}{es:Array LW}{od:Obj}{Q:Option Ap->AA->Prop}(hit:s.heap.IsKeyIter it d i es.size ep)
  (hod:s.heap.get? d=some od) (hdd:od.data=.dict es ep) (hlt':i<es.size)
  (hQ:∀h',h'.IsKeyIter it d (i+1) es.size ep->D6 it s.heap h'->Q (some es[i].key) {s with heap:=h'}) :
  wpAny (AO prog w) A (Kt (.ref it)) Q E s:=by
 obtain ⟨o,ho,hc,hd⟩:=id hit;unfold Kt;refine As (L7 (wpAny_callSpecial?_slot (name:=IF "__next__") hit.typeIs EF
  (Do EF hit.typeIs Lc ?_ (K5 _))))
 refine As (wpAny_pure ?_);refine As ?_;refine As ?_
 first | refine As (FF hit.typeIs (wpAny_pure ?_)) | refine As (G8 hit.typeIs (wpAny_pure ?_))
 refine As (On ho hd ?_);have hown:LG "dict_keyiterator" = false:=by decide
 simp only[hown,AR,if_false];show wpAny _ _ (if (AT d==CL)=true then _ else _) _ _ s;rw[if_neg (show ¬ ((AT d==CL)=true) from BA)];refine As (wpAny_pure ?_);refine As (Kk hod hdd ?_);rw[if_neg (by simp)];refine As (wpAny_pure ?_);refine As (NA hod hdd ?_);rw[if_neg (by simp)];refine wpAny_pure ?_;simp only[show ¬ ((i:Int)<0) from by lia,if_false,DO,A1 hlt'];refine As ?_
 first | refine As (FF hit.typeIs (wpAny_pure ?_)) | refine As (G8 hit.typeIs (wpAny_pure ?_))
 refine As (Op hit.typeIs ?_);show wpAny _ _ (OQ (.ref it) 1 (E8 ((i:Int)+1)) >>= _) _ _ s;refine As (G3 ho hd (by simp) ?_);have hit':(s.heap.update it (L8 (·.setIfInBounds 1 (E8 ((i:Int)+1))))).IsKeyIter it d (i+1) es.size ep :=
  ⟨_,Eg _ ho (IH (Ex hd _)),(Ki ..).trans hc,by rw[Ex hd];simp[E8]⟩
 refine As (EE ?_);refine As (Op (s:={s with heap:=s.heap.update it (L8 (·.setIfInBounds 1 (E8 ((i:Int)+1))))}) hit'.typeIs ?_);show wpAny _ _ (pure es[i].key) _ _ _;exact wpAny_pure (wpAny_pure ⟨_,rfl,wpAny_pure (hQ _ hit' (Dx ..))⟩)
theorem Wa{it d:Addr}{i ep:Nat}{es:Array LW}{od:Obj}{Q:Option Ap->AA->Prop}(hh:A.handled=none)(hit:s.heap.IsKeyIter it d i es.size ep)
  (hod:s.heap.get? d=some od) (hdd:od.data=.dict es ep) (hge:es.size<=i)
  (hQ:∀h',QU it s.heap h'->Q none {s with heap:=h'}):wpAny (AO prog w) A (Kt (.ref it)) Q E s:=by
 obtain ⟨o,ho,hc,hd⟩:=id hit;unfold Kt;refine As (L7 (wpAny_callSpecial?_slot (name:=IF "__next__") hit.typeIs EF
  (Do EF hit.typeIs Lc ?_ (K5 _))))
 refine As (wpAny_pure ?_);refine As ?_;refine As ?_
 first | refine As (FF hit.typeIs (wpAny_pure ?_)) | refine As (G8 hit.typeIs (wpAny_pure ?_))
 refine As (On ho hd ?_);have hown:LG "dict_keyiterator" = false:=by decide
 simp only[hown,AR,if_false];show wpAny _ _ (if (AT d==CL)=true then _ else _) _ _ s;rw[if_neg (show ¬ ((AT d==CL)=true) from BA)];refine As (wpAny_pure ?_);refine As (Kk hod hdd ?_);rw[if_neg (by simp)];refine As (wpAny_pure ?_);refine As (NA hod hdd ?_);rw[if_neg (by simp)];refine wpAny_pure ?_;simp only[show ¬ ((i:Int)<0) from by lia,if_false,DO,HZ hge];refine As ?_
 first | refine As (FF hit.typeIs (wpAny_pure ?_)) | refine As (G8 hit.typeIs (wpAny_pure ?_))
 show wpAny _ _ (OQ (.ref it) 0 .none >>= _) _ _ s;refine As (G3 ho hd (by simp) ?_);show wpAny _ _ (Ps (.type "StopIteration") [] >>= _) _ _ _;refine As ?_;simp only[Ps,UV];refine As (DB ?_ (by size_fits));refine As (m:=IJ _ _) (KA (a:=CL) (by first | rfl | (simp only[IJ];rfl)) ?_);refine DB ?_ (by size_fits);simp only[Q8];refine As (OX ?_);rw[show A.in1.handled=none from hh];refine As (wpAny_pure (QY ?_));refine As (G9 (T:="StopIteration") (b:=true) ⟨_,AW _ rfl,rfl⟩ SW ?_);exact wpAny_pure (hQ _ (((Dx ..).extBut.push _).push _))
end
end L2
end
section
namespace L2
open PySem PySem.Spec PyProof.Rows
section
variable{prog:AL}{w:AQ}{A:BS}{E:Ap->AA->Prop}{s:AA}{d:Addr}{o:Obj}{es:Array LW}{ep:Nat}
theorem TV(hh:A.handled=none)(I:Addr)(hne:d≠I)(hd:o.data=.dict es ep) :
  Walks prog w A I [I,d] [I] es.size (λi v=>∃e,es[i]?=some e/\v=e.key) (λi h=>h.IsKeyIter I d i es.size ep/\h.get? d=some o) where
 sub:=λb hb=>by simp at hb;simp[hb]
 frame:=λ_ _ _ st hk=>⟨st.1.at λo e=>hk I (by simp) o e,hk d (by simp) o st.2⟩
 item:=λi s Q E hi st hQ=>by
  refine Yx st.1 st.2 hd hi λh' hit' hs'=>?_;exact hQ _ h' s.toks ⟨es[i],by simp[hi],rfl⟩ ⟨hit',hs'.extBut d o hne st.2⟩ λb o hb e=>hs'.extBut b o (λh=>hb (by simp[h])) e
 done:=λs Q E st hQ=>Wa hh st.1 st.2 hd (AF _) λh' he'=>hQ h' s.toks λb o hb e=>he' b o (λh=>hb (by simp[h])) e
 self:=λ_ _ _ _ st hQ=>wpAny_pyIter_keyiter st.1 hQ
theorem Xr(lo:(d==DF)=false)(hx:o.ExactDict)(hd:o.data=.dict es ep) :
  PySem.W.KdlSrc prog w "dict" d d es.size (λi v=>∃e,es[i]?=some e/\v=e.key) (λh=>h.get? d=some o) where
 type:=λ_ hm=>⟨o,hm,hx.1⟩
 there:=λ_ hm=>⟨By hm,By hm⟩
 keep:=λ_ _ hm hk=>hk d (.inl rfl) o hm
 notList:=by decide
 notTuple:=by decide
 hint:=λ_ _ _ _ hm hq=>PySem.W.kdl_hint_dict ⟨o,hm,hx.1⟩ hq
 iter:=λ_ _ hh hm=>⟨_,_,(λ_ _ hq=>Vn lo ⟨o,hm,hx.1⟩ hm hd hq),TV hh _ (B2 (By hm)) hd,⟨⟨_,AW _ rfl,rfl,rfl⟩,AJ _ hm⟩⟩
end
def KeyL(H:Hp):List (List Key×V)->List V->Prop:=BE λkv y=>∃b,y=.ref b/\H b=some (.tup (kv.1.map kV))
section
variable{X:Cx}
theorem VR{H:Hp}:∀{kvs:List (List Key×V)}{xs:List (List Key×Addr×Ap)},KT H kvs xs->KeyL H kvs (xs.map λx=>.ref x.2.1)
 | _,_,.nil=>.nil
 | _,_,.cons h t=>.cons ⟨_,rfl,h.2.1⟩ (VR t)
theorem Oe(hc:X.calm=true):CallR X (.type "list") (λxs H Q=>∃p kvs,xs=[.ref p]/\H p=some (.dT kvs)/\∀l ys,H l=none->KeyL H kvs ys->Q (.ref l) (upd H l (.lst ys))):=by
 intro pins s σ H xs us Q I rr h;obtain ⟨p,kvs,rfl,hp,q⟩:=h;obtain ⟨u,rfl,ru⟩:=rr.one;cases ru;obtain ⟨z,lo,ts,kt,o,es,ep,h1,h2,h3,h4,h5⟩:=(show ObjOk X.prog X.w H s.heap p (.dT kvs) from I.hok p _ hp);have hl:es.size=kvs.length:=by
  rw[<- AV,h4,AE];exact (AY kt).symm
 refine PySem.W.kdl_call (Xr lo h2 h3) (I.ok.hd hc) h1 (by rw[hl];exact z) λh' tk acc' c' hk hS hacc=>?_;have hn:H s.heap.objs.size=none:=I.hok.fresh (AF _);refine ⟨.ref s.heap.objs.size,_,I.laid (a:=s.heap.objs.size) (o:=.lst (ts.map λx=>V.ref x.2.1)) (t':=tk) hk (AF _) ⟨?_,acc'.toList,c',?_,?_⟩,rfl,q _ _ hn (VR kt)⟩
 ·rw[AE,<- AY kt];exact z
 ·refine VB (by rw[AE];exact (AY kt).symm.trans (hl.symm.trans (hacc.1.symm.trans (AV).symm))) λi x u e1 e2=>?_
  have e2':acc'[i]?=some u:=by simpa using e2
  obtain ⟨e,e3,rfl⟩:=hacc.2 i u e2';rw[<- BU,h4,BI] at e3;rw[BI] at e1;cases g:ts[i]? with
  | none=>rw[g] at e1;cases e1
  | some t =>
   rw[g] at e1 e3;cases e1;cases e3;rfl
 ·simpa using hS
end
end L2
end
section
namespace L2
open PySem PySem.Spec PyProof.Rows
open Sem (wp)
end L2
end
section
namespace L2
open PySem PySem.Spec PyProof.Rows
end L2
end
section
namespace L2
open PySem PySem.Spec PyProof.Rows
open Sem (wp)
end L2
end
section
namespace L2
open PySem PySem.Spec PyProof.Rows
theorem KH:∀ns:List Int,HT.lexLt ns ns=false
 | []=>rfl
 | x::xs=>by rw[HT.CN,if_pos rfl];exact KH xs
section
variable{X:Cx}
def rAddT(K:Au):R2:=λx y H Q=>∃a b xs ys,x=.ref a/\y=.ref b/\SqT K H a xs/\SqT K H b ys/\xs.length+ys.length<=sizeLine /\
 (xs=[]->Q (.ref b) H)/\(xs≠[]->ys=[]->Q (.ref a) H)/\(xs≠[]->ys≠[]->∀p,H p=none->Q (.ref p) (upd H p (.tup (xs++ys))))
theorem AAk:OpR X (FI .Add) (rAddT X.K):=by
 intro pins s σ H x y v u Q I rx ry h;obtain ⟨a,b,xs,ys,rfl,rfl,ha,hb,hz,q0,q1,q2⟩:=h;by_cases e:xs=[]
 ·cases rx;cases ry
  obtain ⟨its,r1,p1,_⟩:=I.tuple ha;obtain ⟨its2,r2,p2,_⟩:=I.tuple hb;subst e;cases r1;obtain ⟨⟨cls,dd,data,sl⟩,ho,hc,n,hd⟩:=id p1;obtain ⟨⟨cls2,dd2,data2,sl2⟩,ho2,hc2,n2,hd2⟩:=id p2;simp only at hc hd hc2 hd2;subst hc hd hc2 hd2;exact MU ⟨_,ho,rfl⟩ ⟨_,ho2,rfl⟩ MV OV Kx J6 (JS _ _)
   (tuple_addW0 a b #[] its2.toArray n n2 dd dd2 sl sl2 rfl) ⟨ho,ho2,⟨.ref b,H,I,rfl,q0 rfl⟩⟩
 ·exact ABQ pins s σ H _ _ v u Q I rx ry ⟨a,b,xs,ys,rfl,rfl,ha,hb,e,hz,q1 e,q2 e⟩
end
end L2
end
section
namespace NW
open PySem L2
end NW
end
section
namespace L2
open PySem PySem.Spec PyProof.Rows
open AutoSeq1 (wpAny_loadPart')
end L2
end
section
namespace ST
open PySem PySem.SetTable
theorem Bg:∀{l₁ l₂:List Nat},l₁.Nodup->(∀x∈l₁,x∈l₂)->l₁.length<=l₂.length
 | [],_,_,_=>BH _
 | a::t,l₂,nd,hs=>by
  obtain ⟨n1,n2⟩:=C7.mp nd;have ha:a∈l₂:=hs a AD;have hl:(l₂.erase a).length=l₂.length-1:=Ha ha;have ih:=Bg (l₂:=l₂.erase a) n2 λx hx=>(IR (λ(e:x=a)=>n1 (by rw[<- e];exact hx))).mpr (hs x (AG _ hx));have:0<l₂.length:=KB ha;simp;lia
namespace F
end F
end ST
end
section
namespace ST
open PySem PySem.W PyProof.Rows
end ST
end
section
namespace L2
open PySem PySem.Spec PyProof.Rows
theorem Ph{prog:AL}{w:AQ}:∀{ns:List Int}{us:List Ap},Vals (ns.map V.int) us->ItemsAre (KL prog w) ns us
 | [],_,.nil=>.nil
 | n::ns,_,.cons ⟨t,e⟩ r=>by
  subst e;exact .cons (intKind_is prog w n t) (Ph r)
end L2
end
section
namespace ST
open PySem PySem.W PyProof.Rows
end ST
end
section
namespace L2
open PySem PySem.Spec PyProof.Rows
end L2
end
section
namespace SI
open PySem PySem.SetTable ST PyProof.Rows
section
variable{prog:AL}{w:AQ}{A:BS}{E:Ap->AA->Prop}{s:AA}{S:Addr}{es:Array (Int×Ap)}{t:CS}{ks:List Int}
def Added(ks:List Int)(k:Int)(ks':List Int):Prop:=(k∈ks/\ks'=ks)\/(k∉ks/\ks'.Perm (k::ks))
end
end SI
end
section
namespace SI
open PySem PySem.SetTable ST
open PyProof.Rows (IntsAre)
end SI
end
section
namespace SI
open PySem PySem.SetTable ST PyProof.Rows
end SI
end
section
namespace L2
open PySem PySem.Spec PyProof.Rows
end L2
end
section
namespace SI
open PySem PySem.SetTable ST PyProof.Rows
end SI
end
section
namespace L2
open PySem PySem.Spec PyProof.Rows
def eD(a b:Int×List (List Int)×Int)(j:Nat):Bool:=if j=0 then decide (a.1=b.1) else if j=1 then decide (a.2.1=b.2.1) else decide (a.2.2=b.2.2)
end L2
end
section
namespace HT
open PySem PyProof.Rows
end HT
end
section
namespace ST
open PySem PySem.W PyProof.Rows
end ST
end
section
namespace L2
open PySem PySem.Spec PyProof.Rows
end L2
end
section
namespace ST
open PySem PySem.SetTable
end ST
namespace L2
open PySem PySem.Spec PyProof.Rows
end L2
end
section
namespace NK
open PySem
section
variable{P:AL}{w:AQ}{κ:Type}[DecidableEq κ](kd:KeyKind P w κ)
def IsP(g:Heap)(p:κ×List κ)(x:Addr):Prop:=∃ob its c v b,g.get? x=some ob/\ob.cls=.type "tuple"/\ob.data=.seq its c/\its.toList=[v,.ref b]/\kd.is p.1 v=true/\Sf kd g p.2 b
def hashP(p:κ×List κ):Int:=reduceHash (JI [kd.hash p.1,K6 kd p.2])
variable{kd}
theorem IsP.ty{s:AA}{p:κ×List κ}{x:Addr}(h:IsP kd s.heap p x):s.TypeIs (.ref x) "tuple":=by
 obtain ⟨ob,_,_,_,_,e,c,_⟩:=h;exact ⟨ob,e,c⟩
theorem IsP.one{g:Heap}{p q:κ×List κ}{x:Addr}(h:IsP kd g p x)(h':IsP kd g q x):p=q:=by
 obtain ⟨ob,its,c,v,b,e,_,d,l,k,t⟩:=h;obtain ⟨ob',its',c',v',b',e',_,d',l',k',t'⟩:=h';obtain rfl:ob=ob':=BY (e.symm.trans e');rw[d] at d';obtain ⟨rfl,rfl⟩:its=its'/\c=c':=by cases d';exact ⟨rfl,rfl⟩
 rw[l] at l';injection l' with z1 z2
 injection z2 with z2 _
 injection z2 with z2
 subst z1;subst z2;exact OR (kd.inj _ _ _ k k') (t.inj t')
theorem IsP.stays{g g':Heap}{p:κ×List κ}{x y:Addr}{ob:Obj}{es ep}(h:IsP kd g p x)(e:g.get? y=some ob)(d:ob.data=.dict es ep)(sb:D6 y g g'):IsP kd g' p x:=by
 obtain ⟨o1,its,c,v,b,e1,c1,d1,l,k,t⟩:=h;have ne:x≠y:=λz=>by
  rw[z,e] at e1;cases e1;rw[d] at d1;cases d1
 exact ⟨o1,its,c,v,b,(sb.2 x ne).trans e1,c1,d1,l,k,t.keeps e d sb⟩
variable{A:BS}{E:Ap->AA->Prop}{s:AA}
theorem WR{p:κ×List κ}{x:Addr}{R:Int->AA->Prop}(hu:A.units+1<C2)(h:IsP kd s.heap p x)(q:R (hashP kd p) {s with toks:=s.toks+(p.2.length+3)}):wpAny (AO P w) A (pyHash (.ref x)) R E s:=by
 have ty:=h.ty;obtain ⟨ob,its,c,v,b,e,_,d,l,k,t⟩:=h;unfold pyHash
 first | unfold pyHashByItsType | skip
 first | refine As (wpAny_cRoomFor_or (.inr (by lia)) ?_) | skip
 refine As (F4 ty HE.lookup ?_);show wpAny _ _ (if (some (Value.builtin "tuple.__hash__")==some CL)=true then _ else _) _ _ _;rw[if_neg (by rw[beq_builtin_none];exact BA)];refine As (F4 ty HE.lookup ?_);show wpAny _ _ (callSpecialIfBoundUnlessNone? (.ref x) "__hash__" _ >>= _) _ _ _;refine As (wpAny_callSpecialIfBoundUnlessNone?_slot ty HE (Do HE ty PySem.F.entry_tuple_hash ?_ (PySem.F.args_tuple_hash_1 _)));show wpAny _ _ (Ts (.ref x) >>= _) _ _ _;refine As (JY e d (As ?_));rw[<- HP,l];refine FO _ (λrest (z:Array Int) s'=>(rest=[v,.ref b]/\z=#[]/\s'=s)\/(rest=[.ref b]/\z=#[kd.hash p.1]/\s'={s with toks:=s.toks+1})\/(rest=[]/\z=#[kd.hash p.1,K6 kd p.2]/\s'={s with toks:=s.toks+1+(p.2.length+1)}))
  _ ?_ ?_ _ _ (.inl ⟨rfl,rfl,rfl⟩)
 ·rintro y rest z s' (⟨er,rfl,rfl⟩ | ⟨er,rfl,rfl⟩ | ⟨er,_⟩)
  ·cases er
   refine As (kd.pyHash k ?_)
   first
    | exact wpAny_pure (.inr (.inl ⟨rfl,rfl,rfl⟩))
    | exact As (wpAny_pure (wpAny_pure (.inr (.inl ⟨rfl,rfl,rfl⟩))))
  ·cases er
   refine As (PQ (by show A.units+1<C2;exact hu) t ?_)
   first
    | exact wpAny_pure (.inr (.inr ⟨rfl,rfl,rfl⟩))
    | exact As (wpAny_pure (wpAny_pure (.inr (.inr ⟨rfl,rfl,rfl⟩))))
  ·cases er
 ·rintro z s' (⟨er,_⟩ | ⟨er,_⟩ | ⟨_,rfl,rfl⟩)
  ·cases er
  ·cases er
  ·have et:{s with toks:=s.toks+1+(p.2.length+1)+1}={s with toks:=s.toks+(p.2.length+3)}:=by
    congr 1
    lia
   show wpAny _ _ (retInt (JI [kd.hash p.1,K6 kd p.2])) _ _ _;refine Si ?_;unfold hashP reduceHash at q;generalize JI [kd.hash p.1,K6 kd p.2]=hv at q;show wpAny _ _ (if (decide (-(2:Int) ^ 63<=hv)&&decide (hv<2 ^ 63))=true then _ else _) _ _ _;by_cases c0:(decide (-(2:Int) ^ 63<=hv)&&decide (hv<2 ^ 63))=true
   ·rw[if_pos c0] at q ⊢
    refine wpAny_pure ?_;rw[<- et] at q;exact q
   ·rw[if_neg c0] at q ⊢
    refine As (GV (wpAny_pure ?_));rw[<- et] at q;exact q
theorem AAd{p q:κ×List κ}{x y:Addr}{R:Fin->AA->Prop}(hu:A.units<C2)(h:IsP kd s.heap p x)(h':IsP kd s.heap q y)(r:R (.done (.ret (.bool (decide (p=q))))) s) :
  wpAny (AO P w) A (Builtin.«tuple.__eq__» ⟨[.ref x,.ref y],[]⟩) R E s:=by
 have ty:=h'.ty;obtain ⟨o1,i1,c1,v1,b1,e1,_,d1,l1,k1,t1⟩:=h;obtain ⟨o2,i2,c2,v2,b2,e2,_,d2,l2,k2,t2⟩:=h';show wpAny _ _ (Sj (.ref y) (.type "tuple") >>= _) _ _ _;refine As (G9 ty KP ?_);simp only[DE,AR,if_false];refine As (JY e1 d1 (As (JY e2 d2 (As ?_))));have sz:(i1.size==i2.size)=true:=by
  have z1:i1.size=2:=by rw[<- AV,l1];rfl
  have z2:i2.size=2:=by rw[<- AV,l2];rfl
  rw[z1,z2];rfl
 rw[l1,l2];refine FO _ (λrest z s'=>z.1=none/\s'=s/\(rest=[(v1,v2),(.ref b1,.ref b2)]\/(rest=[(.ref b1,.ref b2)]/\p.1=q.1)\/(rest=[]/\p=q))) _ ?_ ?_ _ _ ⟨rfl,rfl,.inl rfl⟩
 ·rintro⟨u,v⟩ rest z s' ⟨hz,rfl,er | ⟨er,pq⟩ | ⟨er,_⟩⟩
  ·cases er
   refine As (kd.eqBool (a:=p.1) (b:=q.1) k1 k2 ?_);by_cases c:p.1=q.1
   ·rw[decide_eq_true c]
    simp only[DE,AR,if_false];exact wpAny_pure ⟨rfl,rfl,.inr (.inl ⟨trivial,c⟩)⟩
   ·rw[decide_eq_false c]
    simp only[LH,if_true];rw[decide_eq_false (λz=>c (by rw[z]))] at r;exact As (wpAny_pure (wpAny_pure (wpAny_pure r)))
  ·cases er
   refine As (PR hu t1 t2 ?_);by_cases c:p.2=q.2
   ·rw[decide_eq_true c]
    simp only[DE,AR,if_false];exact wpAny_pure ⟨rfl,rfl,.inr (.inr ⟨trivial,OR pq c⟩)⟩
   ·rw[decide_eq_false c]
    simp only[LH,if_true];rw[decide_eq_false (λz=>c (by rw[z]))] at r;exact As (wpAny_pure (wpAny_pure (wpAny_pure r)))
  ·cases er
 ·rintro⟨z1,z2⟩ s' ⟨hz,rfl,er | ⟨er,_⟩ | ⟨_,pq⟩⟩
  ·cases er
  ·cases er
  ·dsimp only at hz
   subst hz;refine wpAny_pure ?_;rw[decide_eq_true pq] at r;show R (.done (.ret (.bool (i1.size==i2.size)))) s';rw[sz];exact r
theorem AAl{p q:κ×List κ}{x y:Addr}{R:Bool->AA->Prop}(hu:A.units+1<C2)(h:IsP kd s.heap p x)(h':IsP kd s.heap q y)(r:R (decide (p=q)) s):wpAny (AO P w) A (eqBool (.ref x) (.ref y)) R E s:=by
 unfold eqBool
 try with_reducible refine EE ?_
 show wpAny _ _ (if (AT x==AT y)=true then _ else _) _ _ _;by_cases c:(AT x==AT y)=true
 ·rw[if_pos c]
  obtain rfl:x=y:=by have z:=eq_of_beq c;injection z
  obtain rfl:=h.one h';rw[decide_eq_true rfl] at r;exact As (GV (wpAny_pure r))
 ·rw[if_neg c]
  refine As (wpAny_richCompare_same_room (op:=.Eq) h.ty h'.ty IL (Do IL h.ty PySem.F.entry_tuple_eq (AAd ?_ h h' ⟨_,rfl,(λe=>nomatch e),FB r⟩) (PySem.F.args_tuple_eq_2 _ _)) (by lia));show A.units+1<C2;exact hu
theorem Pz{ks:List κ}{x:Addr}{n:Nat}{R:Bool->AA->Prop}(h:Sf kd s.heap ks x)(r:R true s):wpAny (AO P w) A (PU (n+1) (.ref x)) R E s:=by
 have ty:=h.typeIs;obtain ⟨ob,its,c,e,_,d,ia⟩:=h;unfold PU;refine As (F4 ty IL.lookup ?_);show wpAny _ _ (Sj (.ref x) (.type "tuple") >>= _) _ _ _;refine As (G9 ty KP ?_);simp only[DE,AR,if_false];refine As (IG e d (As ?_));show wpAny _ _ (forIn its _ _) _ _ _;rw[<- HP];refine FO _ (λrest z s'=>z.1=none/\s'=s/\∀v∈rest,SY v=true) _ (λv rest z s' ⟨hz,es,al⟩=>?_) (λz s' ⟨hz,es,_⟩=>?_) _ _ ⟨rfl,rfl,ia.byValue⟩
 ·subst es
  rw[QH _ (al v AD)];refine As (wpAny_pure ?_);simp only[DE,AR,if_false];exact wpAny_pure ⟨rfl,rfl,λu h=>al u (AG _ h)⟩
 ·subst es
  obtain ⟨z1,z2⟩:=z;dsimp only at hz;subst hz;exact wpAny_pure r
theorem TF{p:κ×List κ}{x:Addr}{R:Bool->AA->Prop}(h:IsP kd s.heap p x)(r:R true s):wpAny (AO P w) A (PU 8 (.ref x)) R E s:=by
 have ty:=h.ty;obtain ⟨ob,its,c,v,b,e,_,d,l,k,t⟩:=h;unfold PU;refine As (F4 ty IL.lookup ?_);show wpAny _ _ (Sj (.ref x) (.type "tuple") >>= _) _ _ _;refine As (G9 ty KP ?_);simp only[DE,AR,if_false];refine As (IG e d (As ?_));show wpAny _ _ (forIn its _ _) _ _ _;rw[<- HP,l];refine FO _ (λrest z s'=>z.1=none/\s'=s/\(rest=[v,.ref b]\/rest=[.ref b]\/rest=[])) _ (λu rest z s' ⟨hz,es,er⟩=>?_) (λz s' ⟨hz,es,_⟩=>?_) _ _ ⟨rfl,rfl,.inl rfl⟩
 ·subst es
  rcases er with er | er | er
  ·cases er
   rw[QH _ (kd.byValue _ _ k)];refine As (wpAny_pure ?_);simp only[DE,AR,if_false];exact wpAny_pure ⟨rfl,rfl,.inr (.inl trivial)⟩
  ·cases er
   refine As (Pz t ?_);simp only[DE,AR,if_false];exact wpAny_pure ⟨rfl,rfl,.inr (.inr trivial)⟩
  ·cases er
 ·subst es
  obtain ⟨z1,z2⟩:=z;dsimp only at hz;subst hz;exact wpAny_pure r
end
def Dl{P:AL}{w:AQ}{κ:Type}[DecidableEq κ](kd:KeyKind P w κ):HeapKind P w (κ×List κ) where
 is:=IsP kd
 hash:=hashP kd
 draws:=λp=>p.2.length+3
 room:=λA=>A.units+1<C2
 inj:=λa b=>a.one b
 keeps:=λa b c d=>a.stays b c d
 pyHash:=λa b c=>WR a b c
 eqBool:=λa b c d=>AAl a b c d
 quiet:=λa b=>TF a b
end NK
end
section
namespace L2
open PySem
abbrev PKey:=Key×List Key
def dN(P:AL)(w:AQ)(a:Addr)(xs:List (PKey×Addr×Ap)):HO:=.ext λg=>∃o es ep,g.get? a=some o/\o.ExactDict/\o.data=.dict es ep/\es.toList=xs.map (entryOfKey (NK.Dl (BW P w)))/\(xs.map (·.1)).Nodup
def NKey(H:Hp)(p:PKey)(x:Addr):Prop:=∃b,H x=some (.tup [kV p.1,.ref b])/\H b=some (.tup (p.2.map kV))
theorem NKey.ts{H H':Hp}{p:PKey}{x:Addr}(h:NKey H p x)(t:∀b ys,H b=some (.tup ys)->H' b=some (.tup ys)):NKey H' p x:=let ⟨b,e1,e2⟩:=h;⟨b,t _ _ e1,t _ _ e2⟩
abbrev KN(H:Hp):List (PKey×V)->List (PKey×Addr×Ap)->Prop:=BE λp q=>p.1=q.1/\NKey H p.1 q.2.1/\RelV p.2 q.2.2
def DN(P:AL)(w:AQ)(H:Hp)(a:Addr)(kvs:List (PKey×V)):Prop:=kvs.length<=sizeLine/\(a==DF)=false/\∃xs,H a=some (dN P w a xs)/\KN H kvs xs
theorem DN.keep{P:AL}{w:AQ}{H H':Hp}{a:Addr}{kvs:List (PKey×V)}(h:DN P w H a kvs)(e:∀o,H a=some o->H' a=some o)(t:∀b ys,H b=some (.tup ys)->H' b=some (.tup ys)):DN P w H' a kvs:=by
 obtain ⟨z,y,xs,e1,r⟩:=h;exact ⟨z,y,xs,e _ e1,Paired.imp (λ_ _ q=>⟨q.1,q.2.1.ts t,q.2.2⟩) r⟩
theorem KN.val{H:Hp}{kvs:List (PKey×V)}{xs:List (PKey×Addr×Ap)}(r:KN H kvs xs)(k:PKey):RelO (valV kvs k) ((HM xs k).map (·.2)):=by
 induction r with
 | nil=>exact GH
 | @cons p q ps qs h t ih =>
  by_cases e:p.1=k
  ·have b:HM (q::qs) k=some q.2:=by simp[HM,Fh,h.1.symm.trans e]
   rw[Bp e,b];exact h.2.2
  ·have b:HM (q::qs) k=HM qs k:=by simp[HM,Fh,show ¬ q.1=k from λz=>e (h.1.trans z)]
   rw[Bq e,b];exact ih
theorem KN.put{H:Hp}{kvs:List (PKey×V)}{xs:List (PKey×Addr×Ap)}(r:KN H kvs xs){k:PKey}{b:Addr}{y:V}{u:Ap}(hb:NKey H k b)(ry:RelV y u)(new:valV kvs k=none):KN H (putK kvs k y) (SV xs k b u):=by
 have e:HM xs k=none:=by
  have z:=(r.val k).isSome_eq;rw[new,Kj] at z;cases g:HM xs k with
  | none=>rfl
  | some q=>rw[g] at z;cases z
 rw[FP y new,storedH_new e];exact Q0 r ⟨rfl,hb,ry⟩
section
variable{P:AL}{w:AQ}{H:Hp}{h:Heap}{a:Addr}
theorem JV{p:PKey}{x:Addr}(ok:HOk P w H h)(e:NKey H p x):(NK.Dl (BW P w)).is h p x:=by
 obtain ⟨b,e1,e2⟩:=e;obtain ⟨_,its,r,o,h1,h2,n,h3⟩:=(show ObjOk P w H h x (.tup [kV p.1,.ref b]) from ok x _ e1);cases r with
 | @cons _ v _ _ r1 r =>
  cases r with
  | @cons _ v2 _ _ r2 r =>
   cases r;cases r2;exact ⟨o,_,n,v,b,h1,h2,h3,rfl,Js r1,Ii ok e2⟩
theorem Uj{kvs:List (PKey×V)}(ok:HOk P w H h)(d:DN P w H a kvs):kvs.length<=sizeLine/\(a==DF)=false/\∃xs,H a=some (dN P w a xs)/\KN H kvs xs/\h.DictOfH (NK.Dl (BW P w)) a xs:=by
 obtain ⟨z,y,xs,e,r⟩:=d;obtain ⟨⟨o,es,ep,h1,h2,h3,h4,h5⟩,_⟩:=(show ObjOk P w H h a (dN P w a xs) from ok a _ e);refine ⟨z,y,xs,e,r,o,es,ep,h1,h2,h3,h4,λx hx=>?_,h5⟩;obtain ⟨i,hi⟩:=EV.mp hx;obtain ⟨p,_,e1,e2,_⟩:=Paired.get r hi;rw[<- e1];exact JV ok e2
theorem ZF{xs:List (PKey×Addr×Ap)}{H':Hp}(d:h.DictOfH (NK.Dl (BW P w)) a xs):ObjOk P w H' h a (dN P w a xs):=by
 obtain ⟨o,es,ep,h1,h2,h3,h4,_,h5⟩:=d;refine ⟨⟨o,es,ep,h1,h2,h3,h4,h5⟩,⟨o,h1⟩,λg1 g2 ⟨o',es',ep',z1,z2⟩ st=>⟨o',es',ep',st _ z1,z2⟩⟩
end
section
variable{X:Cx}{pins:List (Addr×Obj)}{σ:St}{H:Hp}{s:AA}{a:Addr}{A:BS}{E:Ap->AA->Prop}
def NGet(P:AL)(w:AQ)(H:Hp)(a:Addr)(y:V)(r:Option V):Prop:=∃kvs p x,DN P w H a kvs/\y=.ref x/\NKey H p x/\valV kvs p=r
theorem ACe{y:V}{r:Option V}(I:Inv X pins σ H s)(g:NGet X.prog X.w H a y r):s.TypeIs (.ref a) "dict":=by
 obtain ⟨kvs,p,x,d,_⟩:=g;obtain ⟨_,_,xs,_,_,dd⟩:=Uj I.hok d;exact dd.typeIs
theorem Vs{y v:V}{u:Ap}{Q:Ap->AA->Prop}(hu:A.units+2<C2)(I:Inv X pins σ H s)(g:NGet X.prog X.w H a y (some v))(ry:RelV y u)(q:∀w' s',Inv X pins σ H s'->RelV v w'->Q w' s'):wpAny (AO X.prog X.w) A (MO (.ref a) u) Q E s:=by
 obtain ⟨kvs,p,x,d,rfl,k,l⟩:=g;cases (show u=AT x from ry);obtain ⟨z,hd,xs,e,rel,dd⟩:=Uj I.hok d;obtain ⟨w',hw,rw'⟩:=RelO.some_of (v:=v) (o:=(HM xs p).map (·.2)) (by rw[<- l];exact rel.val p);obtain ⟨pv,hp,hp2⟩:=NX.mp hw;refine PF (knd:=NK.Dl (BW X.prog X.w)) (k:=p) (by show A.units+1+1<C2;lia) (JV I.hok k) dd hp ?_;rw[hp2];exact q w' _ (I.tok _) rw'
theorem Zv{y:V}{r:Option V}{u:Ap}{Q:Ap->AA->Prop}(hu:A.units+2<C2)(I:Inv X pins σ H s)(g:NGet X.prog X.w H a y r)(ry:RelV y u)(q:∀s',Inv X pins σ H s'->Q (.bool (!r.isSome)) s'):wpAny (AO X.prog X.w) A (D8 .NotIn u (.ref a)) Q E s:=by
 obtain ⟨kvs,p,x,d,rfl,k,l⟩:=g;cases (show u=AT x from ry);obtain ⟨z,hd,xs,e,rel,dd⟩:=Uj I.hok d;refine SF (knd:=NK.Dl (BW X.prog X.w)) (k:=p) (by show A.units+1+1<C2;lia) (JV I.hok k) hd dd ?_;have c:=(rel.val p).isSome_eq;rw[Kj] at c;rw[<- c,l];exact q _ (I.tok _)
theorem Vq{y v:V}{u r:Ap}{kvs:List (PKey×V)}{p:PKey}{x:Addr}{Q:Unit->AA->Prop}(hu:A.units+2<C2)(I:Inv X pins σ H s)(d:DN X.prog X.w H a kvs)(ey:y=.ref x)(k:NKey H p x)(new:valV kvs p=none)(hl:kvs.length<sizeLine)(ry:RelV y u)(rv:RelV v r)
  (q:∀(H':Hp) s',(∀b,b≠a->H' b=H b)->DN X.prog X.w H' a (putK kvs p v)->Inv X pins σ H' s'->Q () s'):wpAny (AO X.prog X.w) A (setItem (.ref a) u r) Q E s:=by
 subst ey;cases (show u=AT x from ry);obtain ⟨z,hd,xs,e,rel,dd⟩:=Uj I.hok d;have hz:xs.length<=sizeLine:=by rw[<- AY rel];exact z
 refine PH (hsz:=hz) (knd:=NK.Dl (BW X.prog X.w)) (k:=p) (by show A.units+1+1<C2;lia) (JV I.hok k) dd λh' dd' hs=>?_;have he:∃o,h'.get? a=some o:=let ⟨o,_,_,ho,_⟩:=dd';⟨o,ho⟩
 refine q (upd H a (dN X.prog X.w a (SV xs p x r))) _ (λb hb=>Ae hb) ⟨?_,hd,_,Ab,Paired.imp (λ_ _ c=>⟨c.1,c.2.1.ts λb ys eb=>?_,c.2.2⟩) (KN.put rel k rv new)⟩ (JZ I (by rw[e];exact GH) hs he (ZF dd'))
 ·rw[FP v new,BC,DA]
  lia
 ·rw[Ae (Bu eb e (by intro z;cases z))]
  exact eb
end
def ACa(P:AL)(w:AQ):TE:=λ_ H Q=>∀p,H p=none->DN P w (upd H p (dN P w p [])) p []->Q (.ref p) (upd H p (dN P w p []))
def ACo(P:AL)(w:AQ)(td ty:TE):TE:=λσ H Q=>td σ H λx H1=>ty σ H1 λy H2=>∃a v,x=.ref a/\NGet P w H2 a y (some v)/\Q v H2
def AAm(P:AL)(w:AQ)(ty td:TE):TE:=λσ H Q=>ty σ H λy H1=>td σ H1 λx H2=>∃a r,x=.ref a/\NGet P w H2 a y r/\Q (.bl (!r.isSome)) H2
def ACp(P:AL)(w:AQ)(td ty tv:TE):TS:=λD σ H=>tv σ H λv H1=>td σ H1 λx H2=>ty σ H2 λy H3=>∃a kvs p b,x=.ref a/\y=.ref b/\DN P w H3 a kvs/\NKey H3 p b/\valV kvs p=none/\kvs.length<sizeLine /\
 ∀H4,(∀c,c≠a->H4 c=H3 c)->DN P w H4 a (putK kvs p v)->D.nx σ H4
section
variable{X:Cx}{o i e value:Expr}{pos pos' tpos:Pos}{td ty tv:TE}
theorem Ys:PE X (.Dict [] [] pos) (ACa X.prog X.w):=λpins s σ H Q I h=>by
 have hn:=I.hok.fresh (AF s.heap.objs.size);have ns:(s.heap.objs.size==DF)=false:=beq_eq_false_iff_ne.mpr (C6 (B2 I.big));refine wpAny_Dict_empty ⟨.ref s.heap.objs.size,_,I.laid (a:=s.heap.objs.size) (o:=dN X.prog X.w s.heap.objs.size []) (t':=s.toks) (λ_ _ q=>AJ _ q) (AF _) (ZF (V9 _)),rfl,h _ hn ⟨BH _,ns,[],Ab,.nil⟩⟩
theorem AAp(hu:X.A.units+2<C2)(ho:PE X o td)(hi:PE X i ty)(hs:NoSl i):PE X (.Subscript o i pos) (ACo X.prog X.w td ty):=by
 intro pins s σ H Q I h;refine Vd MD.lookup hs (thn (ho pins s σ H _ I h) λu s1 ⟨x,H1,I1,rx,q1⟩=>thn (hi pins s1 σ H1 _ I1 q1) λiv s2 ⟨y,H2,I2,ry,a,v,ex,g,q2⟩=>?_);subst ex;obtain rfl:u=AT a:=rx;exact ⟨ACe I2 g,Vs hu I2 g ry λw' s3 I3 rw'=>⟨v,H2,I3,rw',q2⟩⟩
theorem WL(hu:X.A.units+2<C2)(hi:PE X i ty)(ho:PE X o td):PC X .NotIn i o (AAm X.prog X.w ty td):=by
 intro pins s σ H Q I h;refine thn (hi pins s σ H _ I h) λiv s1 ⟨y,H1,I1,ry,q1⟩=>thn (ho pins s1 σ H1 _ I1 q1) λu s2 ⟨x,H2,I2,rx,a,r,ex,g,q2⟩=>?_;subst ex;obtain rfl:u=AT a:=rx;exact Zv hu I2 g ry λs3 I3=>⟨.bl (!r.isSome),H2,I3,rfl,q2⟩
theorem AAx(hu:X.A.units+2<C2)(ho:PE X o td)(hi:PE X i ty)(hv:PE X value tv)(hs:LP value (some (.Subscript o i pos')) pos.line X.env=pure false):PS X (.Assign [.Subscript o i pos'] value pos) (ACp X.prog X.w td ty tv):=by
 intro pins s σ H D I h;refine NY (thn (hv pins s σ H _ I h) λr s1 ⟨v,H1,I1,rv,q1⟩=>thn (ho pins s1 σ H1 _ I1 q1) λu s2 ⟨x,H2,I2,rx,q2⟩=>thn (hi pins s2 σ H2 _ I2 q2) λiv s3 ⟨y,H3,I3,ry,a,kvs,p,b,ex,ey,d,k,new,hl,q3⟩=>?_) hs;subst ex;obtain rfl:u=AT a:=rx;exact Vq hu I3 d ey k new hl ry rv λH4 s4 oth d4 I4=>⟨σ,H4,I4,q3 H4 oth d4⟩
end
end L2
end
section
namespace K54
open PySem L2
def top(i:Nat):Stmt:=FU.main.body.getD i (.Pass ⟨0,0,0,0⟩)
abbrev Ec:Stmt:=inClass (top 22) 0
abbrev Ib:Stmt:=inClass (top 32) 0
abbrev GX:Stmt:=inClass (top 32) 1
abbrev Ij:Stmt:=inClass (top 30) 2
abbrev Gn:Stmt:=inClass (top 30) 3
abbrev Et:Stmt:=inClass (top 30) 4
abbrev Vf:Stmt:=inClass (top 30) 5
abbrev NQ:Stmt:=inClass (top 18) 3
abbrev Gp:Stmt:=inClass (top 15) 0
abbrev En:Stmt:=inClass (top 15) 1
abbrev Mw:Stmt:=inClass (top 15) 2
abbrev LC:Stmt:=inClass (top 22) 1
abbrev MN:Stmt:=inClass (top 22) 2
abbrev sAt:Stmt:=inClass (top 22) 3
abbrev XD:Stmt:=top 23
abbrev XC:Stmt:=top 24
abbrev XH:Stmt:=top 25
abbrev NP:Stmt:=top 34
abbrev Wj:Stmt:=top 35
abbrev Lr:Stmt:=top 36
abbrev Vy:Stmt:=top 37
abbrev Ig:Stmt:=top 38
abbrev Dn:Stmt:=top 39
abbrev Cz:Stmt:=top 40
abbrev Qm:Stmt:=top 41
abbrev Iv:Stmt:=top 14
abbrev Ew:Stmt:=top 16
theorem ja:¬ (("amount" : Str) = "joints"):=by decide +kernel
def flds(z:Int)(j:Addr):List (Str×V):=putF "joints" (.ref j) (putF "amount" (.int z) [])
theorem JH(z:Int)(j:Addr):(flds z j).lookup ("amount" : Str)=some (.int z):=by
 unfold flds;rw[Ag,if_neg ja,Ag,if_pos rfl]
theorem JD(z:Int)(j:Addr):(flds z j).lookup ("joints" : Str)=some (.ref j):=by
 unfold flds;rw[Ag,if_pos rfl]
theorem Dv(z:Int)(j:Addr){m:Str}(h1:¬ m = "joints")(h2:¬ m = "amount"):(flds z j).lookup m=none:=by
 unfold flds;rw[Ag,if_neg h1,Ag,if_neg h2]
 all_goals rfl
structure Txt(K:Au)(mg:Str->Option Ap)(C:Addr):Prop where
 cl:Cls K C
 nA:NoAttr K C "amount"
 nJ:NoAttr K C "joints"
 mgC:mg "Web" = some (.ref C)
 mp:∃t,mg "MOST_POINTS" = some (.int 10 t)
 mt:∃t,mg "MOST_TIES" = some (.int 12 t)
 len:mg "len" = none
 range:mg "range" = none
 int:mg "int" = none
 max:mg "max" = none
 min:mg "min" = none
 sorted:mg "sorted" = none
 tuple:mg "tuple" = none
 list:mg "list" = none
 bool:mg "bool" = none
 enum:mg "enumerate" = none
 isi:mg "isinstance" = none
def WebAt(K:Au)(C:Addr)(H:Hp)(p:Addr)(z:Int)(as:List (List Int)):Prop:=∃dx j,H p=some (.ins C dx (flds z j))/\rTup K (rPair K) H as (.ref j)
theorem WebAt.same{K:Au}{C:Addr}{H H':Hp}{p:Addr}{z:Int}{as:List (List Int)}(h:WebAt K C H p z as)(e:Same H H'):WebAt K C H' p z as:=by
 obtain ⟨dx,j,h1,h2⟩:=h;exact ⟨dx,j,e _ _ h1,Ao (Ao Av) _ _ _ _ e.ts h2⟩
def Tv(K:Au):Sp:=λvs H Q _=>∃(a:Addr) (ns:List Int) (k:Int),vs=[.ref a,.int k]/\SqL K H a (ns.map V.int)/\0<=k/\∀c:Int,Q (.int c) H
def ABZ:Sp:=λvs H Q _=>∃(c k:Int),vs=[.int c,.int k]/\∀r:Int,Q (.int r) H
def Xz:Sp:=λvs H Q _=>∃(c many most:Int),vs=[.int c,.int many,.int most]/\0<=many/\many<=20/\0<most/\most<=1000 /\
 ∀(l:Addr) (ms:List Int) (H':Hp),Same H H'->H l=none->H' l=some (.lst (ms.map V.int))->(ms.length:Int)=many->(∀m∈ms,0<=m/\m<most)->Q (.ref l) H'
def ABX:Sp:=λvs H Q _=>∃(p t:Int),vs=[.int p,.int t]/\1<=p/\p<=10/\0<=t/\t<=12/\Q .non H
def ABR(K:Au):Sp:=λvs H Q _=>∃(m a b:Int) (t:Addr),vs=[.int m,.ref t]/\SqT K H t [.int a,.int b]/\0<=a/\a<b/\b<m/\Q .non H
def ABc(K:Au):Sp:=λvs H Q _=>∃(m:Int) (l:Addr) (xs:List V) (as:List (List Int)),vs=[.int m,.ref l]/\SqL K H l xs/\BE (rSeq K H) as xs/\OkTies m as/\as.length<=12 /\
 ∀(j:Addr) (H':Hp),Same H H'->rTup K (rPair K) H' (as.map srt) (.ref j)->Q (.ref j) H'
def Jt(K:Au)(C:Addr):Sp:=λvs H Q _=>∃(p dx l:Addr) (m:Int) (xs:List V) (as:List (List Int)),vs=[.ref p,.int m,.ref l]/\H p=some (.ins C dx [])/\SqL K H l xs/\BE (rSeq K H) as xs/\OkTies m as/\as.length<=12/\1<=m/\m<=10 /\
 ∀(H':Hp),(∀b o,H b=some o->b≠p->H' b=some o)->WebAt K C H' p m (as.map srt)->Q .non H'
def Sy(K:Au)(C:Addr):Sp:=λvs H Q _=>∃(p:Addr) (m:Int) (as:List (List Int)),vs=[.ref p]/\WebAt K C H p m as/\Q (.int m) H
def Tf(K:Au)(C:Addr):Sp:=λvs H Q _=>∃(p:Addr) (m:Int) (as:List (List Int)),vs=[.ref p]/\WebAt K C H p m as/\∀(l:Addr) (H':Hp),Same H H'->H l=none->rLst K (rPair K) H' as (.ref l)->Q (.ref l) H'
def ADQ(K:Au)(C:Addr):Sp:=λvs H Q _=>∃(p:Addr) (m x:Int) (as:List (List Int)),vs=[.ref p,.int x]/\WebAt K C H p m as/\as.length<=12 /\
 ∀(l:Addr) (H':Hp),Same H H'->H l=none->H' l=some (.lst ((hits x as).map V.int))->Q (.ref l) H'
def RL(K:Au):Sp:=λvs H Q _=>∃(a:Addr) (ns:List Int),vs=[.ref a]/\SqL K H a (ns.map V.int)/\ns.length<=63/\∀H',Q (.bl true) H'
section
variable{P:AL}{w:AQ}{K:Au}{mg:Str->Option Ap}{base:Heap}{f C:Addr}{fd:BV}
theorem ABy:FnScope ["_law_script","_law_k"] ["_law_script","_law_k"] (Ac NP):=⟨rfl,rfl,rfl,by decide +kernel,rfl,by decide +kernel,by decide +kernel⟩
theorem AAc(F:Fun K "_law_cell" "_law_cell" NP f fd)(T:Txt K mg C):FnOk P w K mg base CX0 1 f fd ["_law_script","_law_k"] (Tv K):=by
 refine F.ok ABy (λvs H Q E h=>?_) (λcdv A outer s H vs Q E hr h=>?_)
 ·obtain ⟨a,ns,k,rfl,_⟩:=h
  rfl
 obtain ⟨a,ns,k,rfl,hS,h0,q⟩:=h;refine ⟨_,Aj (Ay (HW (Aw JK (pv 1) (Bb Bf rfl T.len D7 (Aa (pv 0) Af)) (nomark _)) (Bl Dz (pv 0) (pv 1) (λ_ _=>rfl)) Ai)),?_⟩;refine ⟨_,rfl,_,rfl,a,_,rfl,.inl hS,_,_,rfl,rfl,_,rfl,?_⟩;refine ite2 (λc=>?_) (λc=>?_)
 ·have c':k<(((ns.map V.int).length:Nat):Int):=of_decide_eq_true c
  rw[AE] at c';obtain ⟨v,hv⟩:=ZM h0 c';exact ⟨_,rfl,_,rfl,a,_,_,_,rfl,rfl,hS,hv,q v⟩
 ·exact q 0
theorem ABd:FnScope ["_law_cell_here","_law_k","_law_number"] ["_law_cell_here","_law_k"] (Ac Wj):=⟨rfl,rfl,rfl,by decide +kernel,rfl,by decide +kernel,by decide +kernel⟩
theorem ACb(F:Fun K "_law_mixed" "_law_mixed" Wj f fd):FnOk P w K mg base CX0 1 f fd ["_law_cell_here","_law_k"] ABZ:=by
 refine F.ok ABd (λvs H Q E h=>?_) (λcdv A outer s H vs Q E hr h=>?_)
 ·obtain ⟨c,k,rfl,_⟩:=h
  rfl
 obtain ⟨c,k,rfl,q⟩:=h;refine ⟨_,Ah (BJ (i:=2) ABd.nd rfl (B3 rfl) (Ar DP (Ar Cg (Ar Cg (Ar KY (Ar DP (pv 0) Ai) Ai) (Ar KY (pv 1) Ai)) Ai) Ai))
  (Aj (Ay (Ar DP (Ar KY (pv 2) (pv 2)) Ai))),?_⟩
 refine ⟨_,rfl,_,_,rfl,rfl,(by show (0:Int)<2147483647;decide),_,_,rfl,rfl,.inr ⟨by decide,by decide⟩,_,rfl,_,_,rfl,rfl,.inr ⟨by decide,by decide⟩,_,_,rfl,rfl,_,_,rfl,rfl,_,_,rfl,rfl,(by show (0:Int)<2147483629;decide),?_⟩;refine ⟨_,rfl,_,rfl,_,_,rfl,rfl,?_,_,_,rfl,rfl,(by show (0:Int)<2147483587;decide),q _⟩;have h1:=Fk (c%2147483647*16807+k*48271+11) (show (2147483629:Int)≠0 by decide);have h2:=EA (c%2147483647*16807+k*48271+11) (show (0:Int)<2147483629 by decide);exact .inl ⟨by lia,by lia⟩
theorem Kf:FnScope ["_law_cell_here","_law_many_here","_law_most","_law_found","_law_left","_law_k"] ["_law_cell_here","_law_many_here","_law_most"] (Ac Lr):=⟨rfl,rfl,rfl,by decide +kernel,rfl,by decide +kernel,by decide +kernel⟩
theorem AAa{fM:Addr}{fdM:BV}(F:Fun K "_law_draws" "_law_draws" Lr f fd)(T:Txt K mg C)(GM:FnOk P w K mg base CX0 1 fM fdM ["_law_cell_here","_law_k"] ABZ)(bM:Binds K fdM ["_law_cell_here","_law_k"] [])(kM:AK K (.ref fM)=true)(mM:mg "_law_mixed" = some (.ref fM)) :
  FnOk P w K mg base CX0 2 f fd ["_law_cell_here","_law_many_here","_law_most"] Xz:=by
 refine F.ok Kf (λvs H Q E h=>?_) (λcdv A outer s H vs Q E hr h=>?_)
 ·obtain ⟨c,many,most,rfl,_⟩:=h
  rfl
 obtain ⟨c,many,most,rfl,h0,h1,h2,h3,q⟩:=h;refine ⟨_,Ah (BJ (i:=3) Kf.nd rfl (B3 rfl) (Dq Af))
  (Ah (BJ (i:=4) Kf.nd rfl (B3 rfl) (Ar HD (pv 0) Ai))
  (Ah (Dg D1 rfl (IV rfl T.range (Aa (pv 1) Af)) (Aq (i:=5) Kf.nd rfl (B3 rfl))
   (Aj (CQ (Aw Fx (Ar DP (pv 0) Ai) Ai (nomark _))
    (Ah (DY (Ke D3 DT DU CZ (pv 3) (Aa (Ar DP (pv 4) (pv 2)) Af)))
     (Aj (BJ (i:=4) Kf.nd rfl (B3 rfl) (Ar HD (pv 4) (pv 2)))))
    (Aj (DY (Ke D3 DT DU CZ (pv 3) (Aa (Ar DP (BL GM hr rfl mM kM bM .nil pass0 (Aa (pv 0) (Aa (pv 5) Af))) (pv 2)) Af)))))))
  (Aj (Ay (pv 3))))),?_⟩
 refine ⟨BH _,λl hl=>?_⟩;refine ⟨_,rfl,_,_,rfl,rfl,⟨by decide,by decide⟩,?_⟩;refine ⟨_,rfl,many,rfl,by lia,by lia,?_⟩;refine Vj (lo:=0) (n:=many.toNat) (λi σ H2=>∃(ms:List Int) (left:Int) (kv:Option V),σ=[some (.int c),some (.int many),some (.int most),some (.ref l),some (.int left),kv]/\Same H H2/\H2 l=some (.lst (ms.map V.int))/\ms.length=i/\∀m∈ms,0<=m/\m<most)
  ⟨[],_,none,rfl,Same.new hl _,Ab,rfl,λm hm=>by cases hm⟩ ?_ ?_
 ·rintro i σ H2 hi ⟨ms,left,kv,rfl,sm,hL,hn,hb⟩
  have put:∀v:Int,0<=v/\v<most->Same H (upd H2 l (.lst (ms.map V.int++[.int v])))/\(upd H2 l (.lst (ms.map V.int++[.int v]))) l=some (.lst ((ms++[v]).map V.int))/\(ms++[v]).length=i+1/\∀m∈ms++[v],0<=m/\m<most:=λv hv=>by
   refine ⟨λb o e=>by rw[Ae (Ad e hl)];exact sm b o e,by rw[Ab,Ct];rfl,by simp[hn],λm hm=>?_⟩;rcases CD.mp hm with hm | hm
   ·exact hb m hm
   ·rw[B5.mp hm];exact hv
  have hz:(ms.map V.int).length<sizeLine:=by rw[AE];exact BP (by lia)
  refine ⟨_,rfl,_,_,rfl,rfl,(by show (0:Int)<2;decide),rfl,_,rfl,?_⟩;refine ite2 (λ_=>?_) (λ_=>?_)
  ·obtain ⟨p1,p2,p3,p4⟩:=put (left%most) ⟨Fk _ (by lia),EA _ h2⟩
   refine ⟨_,rfl,.inl ⟨rfl,_,SqL.of hL⟩,_,rfl,_,rfl,_,_,rfl,rfl,h2,l,_,_,rfl,rfl,hL,hz,?_⟩;refine ⟨_,rfl,_,rfl,_,_,rfl,rfl,⟨h2,by lia⟩,?_⟩;exact ⟨_,_,_,rfl,p1,p2,p3,p4⟩
  ·refine ⟨_,rfl,.inl ⟨rfl,_,SqL.of hL⟩,_,rfl,_,rfl,_,_,rfl,λr=>?_⟩
   obtain ⟨p1,p2,p3,p4⟩:=put (r%most) ⟨Fk _ (by lia),EA _ h2⟩;refine ⟨_,rfl,_,_,rfl,rfl,h2,l,_,_,rfl,rfl,hL,hz,?_⟩;exact ⟨_,_,_,rfl,p1,p2,p3,p4⟩
 ·rintro σ H2 ⟨ms,left,kv,rfl,sm,hL,hn,hb⟩
  exact ⟨_,rfl,q l ms H2 sm hl hL (by lia) hb⟩
theorem ACn:FnScope ["points","ties"] ["points","ties"] (Ac XD):=⟨rfl,rfl,rfl,by decide +kernel,rfl,by decide +kernel,by decide +kernel⟩
theorem ACH(F:Fun K "refuse_amounts" "refuse_amounts" XD f fd)(T:Txt K mg C):FnOk P w K mg base CX0 1 f fd ["points","ties"] ABX:=by
 refine F.ok ACn (λvs H Q E h=>?_) (λcdv A outer s H vs Q E hr h=>?_)
 ·obtain ⟨p,t,rfl,_⟩:=h
  rfl
 obtain ⟨p,t,rfl,h1,h2,h3,h4,q⟩:=h;obtain ⟨t1,e1⟩:=T.mp;obtain ⟨t2,e2⟩:=T.mt;refine ⟨_,Ah (CQ (PW.pt (VF (Aw JK (pv 0) Ai (nomark _)) (Ob (Aw Yr (pv 0) (HB (v:=.int 10) rfl e1 ⟨t1,rfl⟩) (nomark _))))) Ed Bc)
  (Aj (CQ (Aw Yr (pv 1) (HB (v:=.int 12) rfl e2 ⟨t2,rfl⟩) (nomark _)) Ed Bc)),?_⟩
 refine ⟨_,rfl,_,_,rfl,rfl,_,rfl,?_⟩;refine iteN (by lia) ?_;refine ⟨_,rfl,_,_,rfl,rfl,_,rfl,?_⟩;refine iteN (by lia) ?_;refine ⟨_,rfl,_,_,rfl,rfl,_,rfl,?_⟩;refine iteN (by lia) ?_;exact q
theorem ACr:FnScope ["many","tie"] ["many","tie"] (Ac XH):=⟨rfl,rfl,rfl,by decide +kernel,rfl,by decide +kernel,by decide +kernel⟩
theorem at0{a b:V}:atI [a,b] 0=some a:=rfl
theorem at1{a b:V}:atI [a,b] 1=some b:=rfl
theorem ABp(F:Fun K "refuse_points" "refuse_points" XH f fd):FnOk P w K mg base CX0 1 f fd ["many","tie"] (ABR K):=by
 refine F.ok ACr (λvs H Q E h=>?_) (λcdv A outer s H vs Q E hr h=>?_)
 ·obtain ⟨m,a,b,t,rfl,_⟩:=h
  rfl
 obtain ⟨m,a,b,t,rfl,hT,h0,h1,h2,q⟩:=h;refine ⟨_,Ah (CQ (PW.pt (VF (Aw JK (Bl Eb (pv 1) Ai (λ_ _=>rfl)) Ai (nomark _)) (Ob (Aw ABV (Bl Eb (pv 1) Ai (λ_ _=>rfl)) (pv 0) (nomark _))))) Ed Bc)
  (Aj (CQ (Aw Fx (Bl Eb (pv 1) Ai (λ_ _=>rfl)) (Bl Eb (pv 1) Ai (λ_ _=>rfl)) (nomark _)) Ed Bc)),?_⟩
 refine ⟨_,rfl,t,_,_,_,rfl,rfl,hT,at0,_,_,rfl,rfl,_,rfl,?_⟩;refine iteN (by lia) ?_;refine ⟨_,rfl,t,_,_,_,rfl,rfl,hT,at1,_,rfl,_,_,rfl,rfl,_,rfl,?_⟩;refine iteN (by lia) ?_;refine ⟨_,rfl,t,_,_,_,rfl,rfl,hT,at0,_,rfl,t,_,_,_,rfl,rfl,hT,at1,rfl,_,rfl,?_⟩;refine iteN (λe=>?_) q;have:=V.int.inj e;lia
theorem VG:FnScope ["many","ties","checked","handed","tie"] ["many","ties"] (Ac XC):=⟨rfl,rfl,rfl,by decide +kernel,rfl,by decide +kernel,by decide +kernel⟩
theorem ACN{fP:Addr}{fdP:BV}(F:Fun K "checked_ties" "checked_ties" XC f fd)(T:Txt K mg C)(GP:FnOk P w K mg base CX0 1 fP fdP ["many","tie"] (ABR K))(bP:Binds K fdP ["many","tie"] [])(kP:AK K (.ref fP)=true)(mP:mg "refuse_points" = some (.ref fP)) :
  FnOk P w K mg base CX0 2 f fd ["many","ties"] (ABc K):=by
 refine F.ok VG (λvs H Q E h=>?_) (λcdv A outer s H vs Q E hr h=>?_)
 ·obtain ⟨m,l,xs,as,rfl,_⟩:=h
  rfl
 obtain ⟨m,l,xs,as,rfl,hS,pa,ok,h12,q⟩:=h;refine ⟨_,Ah (BJ (i:=2) VG.nd rfl (B3 rfl) (Dq Af))
  (Ah (Dg D1 rfl (CG (pv 1)) (Aq (i:=3) VG.nd rfl (B3 rfl))
   (Ah (BJ (i:=4) VG.nd rfl (B3 rfl) (Bt CP rfl T.tuple EG (Aa (Bb QT rfl T.sorted MZ (Aa (pv 3) Af)) Af)))
   (Ah (DY (BL GP hr rfl mP kP bP .nil pass0 (Aa (pv 0) (Aa (pv 4) Af))))
   (Ah (CQ (Aw (ABo (Ht Ho) (CW hr)) (pv 4) (pv 2) rfl) Ed Bc)
   (Aj (DY (Ke D3 DT DU CZ (pv 2) (Aa (pv 4) Af))))))))
  (Aj (Ay (Bt CP rfl T.tuple EG (Aa (pv 2) Af))))),?_⟩
 refine ⟨BH _,λc hc=>?_⟩;have lx:as.length=xs.length:=AY pa;refine ⟨_,rfl,l,rfl,⟨_,(Same.new hc _).seq hS⟩,Cy (K:=K) (a:=l) (xs:=xs) (λi σ H2=>∃(hv tv:Option V) (ys:List V),σ=[some (.int m),some (.ref l),some (.ref c),hv,tv]/\Same H H2/\H2 c=some (.lst ys)/\BE (rPair K H2) ((as.take i).map srt) ys)
  ⟨none,none,[],rfl,Same.new hc _,Ab,.nil⟩ (λi σ H2 _ ⟨_,_,_,_,sm,_⟩=>sm.seq hS) ?_ ?_⟩
 ·rintro i x σ H2 hx ⟨hv,tv,ys,rfl,sm,hC,pc⟩
  obtain ⟨t,ht,rt0⟩:=Paired.get pa hx;obtain ⟨p,rfl,hp⟩:=Zg rt0;obtain ⟨a,b,rfl,a0,a1,b0,b1,nab⟩:=ok.ok t (A8 ht);have hp2:SqL K H2 p ([a,b].map V.int)\/SqT K H2 p ([a,b].map V.int):=hp.elim (λz=>.inl (sm.seq z)) λz=>.inr (sm.ts.seq z);refine ⟨_,rfl,p,[a,b],rfl,hp2,(by show 2<64;decide),λl1 ms hl1 perm pw=>?_⟩;have em:=Wk perm pw;subst em;refine ⟨l1,_,rfl,.inl ⟨SqL.of Ab,λt1 ht1=>?_⟩⟩;have hT:(upd (upd H2 l1 (.lst ((srt [a,b]).map V.int))) t1 (.tup ((srt [a,b]).map V.int))) t1=some (.tup ((srt [a,b]).map V.int)):=Ab;have s1:Same H2 (upd (upd H2 l1 (.lst ((srt [a,b]).map V.int))) t1 (.tup ((srt [a,b]).map V.int))):=(Same.new hl1 _).trans (Same.new ht1 _);generalize hH3:upd (upd H2 l1 (.lst ((srt [a,b]).map V.int))) t1 (.tup ((srt [a,b]).map V.int))=H3 at hT s1 ⊢;have hlen:(srt [a,b]).length=2:=by rw[CJ];split<;>rfl
  have pts:∃u v:Int,srt [a,b]=[u,v]/\0<=u/\u<v/\v<m:=by
   rw[CJ];split
   ·exact ⟨b,a,rfl,b0,by lia,a1⟩
   ·exact ⟨a,b,rfl,a0,by lia,b1⟩
  obtain ⟨u,v,euv,u0,uv,vm⟩:=pts;have hT2:SqT K H3 t1 [.int u,.int v]:=by
   have e:=SqT.of (K:=K) hT;rw[euv] at e;exact e
  refine ⟨_,rfl,_,rfl,m,u,v,t1,rfl,hT2,u0,uv,vm,?_⟩;have hC3:H3 c=some (.lst ys):=s1 _ _ hC;have pc3:BE (rPair K H3) ((as.take i).map srt) ys:=Paired.imp (λa b=>Ao Av H2 H3 a b s1.ts) pc;have rt:rPair K H3 (srt [a,b]) (.ref t1):=Fp hT;refine ⟨_,rfl,_,rfl,_,_,rt,.inl ⟨c,ys,rfl,SqL.of hC3,pc3⟩,_,rfl,?_⟩;refine iteN (ok.take_new ht) ?_;have hys:ys.length<=12:=by
   rw[<- AY pc,AE,BG];lia
  refine ⟨_,rfl,.inl ⟨rfl,_,SqL.of hC3⟩,_,rfl,c,ys,_,rfl,rfl,hC3,BP (by lia),?_⟩;refine ⟨_,_,_,rfl,λb o e=>?_,Ab,?_⟩
  ·rw[Ae (Ad e hc)]
   exact s1 _ _ (sm b o e)
  ·have e:as.take (i+1)=as.take i++[[a,b]]:=by rw[Co,ht];rfl
   rw[e,Ct,LY];have ts:TSm H3 (upd H3 c (.lst (ys++[.ref t1]))):=TSm.lst hC3;exact Paired.app (Paired.imp (λa b=>Ao Av H3 _ a b ts) pc3) (Paired.one (Ao Av H3 _ _ _ ts rt))
 ·rintro σ H2 ⟨hv,tv,ys,rfl,sm,hC,pc⟩
  rw[<- lx,CU] at pc;refine ⟨_,rfl,c,_,rfl,.inl ⟨SqL.of hC,λj hj=>?_⟩⟩;refine q j _ (sm.trans (Same.new hj _)) ⟨j,ys,rfl,SqT.of Ab,?_⟩;exact Paired.imp (λa b=>Ao Av H2 _ a b (TSm.new hj)) pc
theorem UL:FnScope ["self","many","ties"] ["self","many","ties"] (Ac Ec):=⟨rfl,rfl,rfl,by decide +kernel,rfl,by decide +kernel,by decide +kernel⟩
theorem Hf{fA fC:Addr}{fdA fdC:BV}(F:Fun K "__init__" "Web.__init__" Ec f fd)(T:Txt K mg C)
  (GA:FnOk P w K mg base CX0 1 fA fdA ["points","ties"] ABX) (bA:Binds K fdA ["points","ties"] []) (kA:AK K (.ref fA)=true) (mA:mg "refuse_amounts" = some (.ref fA))
  (GC:FnOk P w K mg base CX0 2 fC fdC ["many","ties"] (ABc K)) (bC:Binds K fdC ["many","ties"] []) (kC:AK K (.ref fC)=true) (mC:mg "checked_ties" = some (.ref fC)) :
  FnOk P w K mg base CX0 3 f fd ["self","many","ties"] (Jt K C):=by
 refine F.ok UL (λvs H Q E h=>?_) (λcdv A outer s H vs Q E hr h=>?_)
 ·obtain ⟨p,dx,l,m,xs,as,rfl,_⟩:=h
  rfl
 obtain ⟨p,dx,l,m,xs,as,rfl,hP,hS,pa,ok,h12,h1,h10,q⟩:=h;have lx:as.length=xs.length:=AY pa;refine ⟨_,Ah (DY (BL GA (hr.mono (by decide)) rfl mA kA bA .nil pass0 (Aa (pv 1) (Aa (Bb Bf rfl T.len D7 (Aa (pv 2) Af)) Af))))
  (Ah (DG (pv 0) (pv 1) rfl)
  (Aj (DG (pv 0) (BL GC hr rfl mC kC bC .nil pass0 (Aa (pv 1) (Aa (pv 2) Af))) rfl))),?_⟩
 refine ⟨_,rfl,_,rfl,l,_,rfl,.inl hS,m,_,rfl,h1,h10,by lia,by lia,?_⟩;refine ⟨_,rfl,_,rfl,p,C,dx,[],rfl,hP,T.cl,T.nA,(by show 0<1000;decide),?_⟩;have ts:TSm H (upd H p (.ins C dx (putF "amount" (.int m) []))):=λb u hb t=>by
  rw[Ae ?_]
  ·exact hb
  ·rintro rfl
   rw[hP] at hb;cases hb;obtain ⟨ys,e | ⟨o,e⟩⟩:=t
   ·cases e
   ·cases e
 have sl:∀{a:Addr}{zs:List V},SqL K H a zs->SqL K (upd H p (.ins C dx (putF "amount" (.int m) []))) a zs:=λ{a zs} h=>by
  rcases h with (h | ⟨o,h⟩) | h
  ·exact .inl (.inl (by rw[Ae (Bu h hP (by intro z;cases z))];exact h))
  ·exact .inl (.inr ⟨o,by rw[Ae (Bu h hP (by intro z;cases z))];exact h⟩)
  ·exact .inr h
 have pa':BE (rSeq K (upd H p (.ins C dx (putF "amount" (.int m) [])))) as xs:=Paired.imp (λt x h=>by
  rcases h with⟨q,zs,rfl,hq,pz⟩ | h
  ·exact .inl ⟨q,zs,rfl,sl hq,pz⟩
  ·exact .inr (Ao Av _ _ _ _ ts h)) pa
 refine ⟨_,rfl,_,rfl,m,l,xs,as,rfl,sl hS,pa',ok,h12,λj H' sm rj=>?_⟩;have hP':H' p=some (.ins C dx (putF "amount" (.int m) [])):=sm _ _ Ab;refine ⟨_,rfl,p,C,dx,_,rfl,hP',T.cl,T.nJ,(by show 1<1000;decide),?_⟩;refine q _ (λb o e hb=>?_) ⟨dx,j,Ab,?_⟩
 ·rw[Ae hb]
  exact sm _ _ (by rw[Ae hb];exact e)
 ·refine Ao (Ao Av) _ _ _ _ (λb u hb t=>?_) rj
  rw[Ae ?_]
  ·exact hb
  ·rintro rfl
   rw[hP'] at hb;cases hb;obtain ⟨ys,e | ⟨o,e⟩⟩:=t
   ·cases e
   ·cases e
theorem scSize:FnScope ["self"] ["self"] (Ac LC):=⟨rfl,rfl,rfl,by decide +kernel,rfl,by decide +kernel,by decide +kernel⟩
theorem Zu(F:Fun K "size" "Web.size" LC f fd)(T:Txt K mg C):FnOk P w K mg base CX0 1 f fd ["self"] (Sy K C):=by
 refine F.ok scSize (λvs H Q E h=>?_) (λcdv A outer s H vs Q E hr h=>?_)
 ·obtain ⟨p,m,as,rfl,_⟩:=h
  rfl
 obtain ⟨p,m,as,rfl,⟨dx,j,hP,hj⟩,q⟩:=h;refine ⟨_,Aj (Ay (Bd (pv 0) rfl)),?_⟩;exact ⟨_,rfl,p,C,dx,_,_,rfl,hP,T.cl,T.nA,JH _ _,q⟩
theorem ABi:FnScope ["self"] ["self"] (Ac MN):=⟨rfl,rfl,rfl,by decide +kernel,rfl,by decide +kernel,by decide +kernel⟩
theorem AAT(F:Fun K "ties" "Web.ties" MN f fd)(T:Txt K mg C):FnOk P w K mg base CX0 1 f fd ["self"] (Tf K C):=by
 refine F.ok ABi (λvs H Q E h=>?_) (λcdv A outer s H vs Q E hr h=>?_)
 ·obtain ⟨p,m,as,rfl,_⟩:=h
  rfl
 obtain ⟨p,m,as,rfl,⟨dx,j,hP,j',xs,ej,hj,pj⟩,q⟩:=h;cases ej;refine ⟨_,Aj (Ay (Bt Hv rfl T.list Ic (Aa (Bd (pv 0) rfl) Af))),?_⟩;refine ⟨_,rfl,p,C,dx,_,_,rfl,hP,T.cl,T.nJ,JD _ _,j,xs,rfl,.inr hj,λl hl=>?_⟩;refine q l _ (Same.new hl _) hl ⟨l,xs,rfl,SqL.of Ab,?_⟩;exact Paired.imp (λa b=>Ao Av H _ a b (TSm.new hl)) pj
theorem ADl:FnScope ["self","point"] ["self","point"] (Ac sAt):=⟨rfl,rfl,rfl,by decide +kernel,rfl,by decide +kernel,by decide +kernel⟩
theorem ADL(F:Fun K "at" "Web.at" sAt f fd)(T:Txt K mg C):FnOk P w K mg base CX0 1 f fd ["self","point"] (ADQ K C):=by
 refine F.ok ADl (λvs H Q E h=>?_) (λcdv A outer s H vs Q E hr h=>?_)
 ·obtain ⟨p,m,x,as,rfl,_⟩:=h
  rfl
 obtain ⟨p,m,x,as,rfl,⟨dx,j,hP,j',xs,ej,hj,pj⟩,h12,q⟩:=h;cases ej;refine ⟨_,Aj (Ay (Ca (Ac sAt) ["number","tie"] ["point"] [1] rfl rfl (by decide +kernel) ⟨⟨rfl,by decide +kernel⟩,trivial⟩ (Jz rfl T.enum (Aa (Bd (pv 0) rfl) Af))
  (λ_ _ _=>HJ (K:=K) (n:=2) rfl rfl (Bo (Aq (i:=0) (show ((["number","tie"]:List Str)++(["point"]:List Str)).Nodup by decide +kernel) rfl (B3 rfl)) (Bo (Aq (i:=1) (show ((["number","tie"]:List Str)++(["point"]:List Str)).Nodup by decide +kernel) rfl (B3 rfl)) Eu)))
  (λ_ _ _=>Ce (Aw (Gm (K:=K) rfl) (pv 2) (pv 1) rfl))
  (λ_ _ _=>pv 0))),?_⟩
 refine ⟨_,rfl,p,C,dx,_,_,rfl,hP,T.cl,T.nJ,JD _ _,j,rfl,⟨_,hj⟩,λD hD=>?_⟩;have lx:as.length=xs.length:=AY pj;refine Gk (xs:=xs) (λi τ H2=>∃n t:Option V,τ=[n,t,some (.int x)]/\Same H H2/\H2 D=some (.lst ((hits x (as.take i)).map V.int))) ⟨none,none,rfl,Same.new hD _,Ab⟩
  (λi τ H2 _ ⟨_,_,_,sm,_⟩=>sm.ts.seq hj) ?_ ?_
 ·rintro i y τ H2 T1 hy hT1 ⟨n,t,rfl,sm,hD2⟩
  obtain ⟨tie,ht,rt⟩:=Paired.get pj hy;obtain ⟨q1,rfl,hq1⟩:=Bv rt;have s1:Same H2 (upd H2 T1 (.tup [.int i,.ref q1])):=Same.new hT1 _;refine ⟨T1,_,rfl,SqT.of Ab,rfl,_,_,rfl,_,_,rfl,rfl,?_⟩;refine ⟨_,rfl,_,rfl,q1,_,rfl,.inr (s1.ts.seq (sm.ts.seq hq1)),rfl,?_,_,rfl,?_⟩
  ·simp[flatV]
  ·rw[if_neg (by decide),Dj]
   have hD3:(upd H2 T1 (.tup [.int i,.ref q1])) D=some (.lst ((hits x (as.take i)).map V.int)):=s1 _ _ hD2;have hlt:i<as.length:=(AH.mp ht).1;refine ite2 (λc=>?_) (λc=>?_)
   ·have c':x∈tie:=of_decide_eq_true c
    refine ⟨_,rfl,_,hD3,?_,_,_,rfl,λb o e=>?_,?_⟩
    ·have:(hits x (as.take i)).length<=(as.take i).length:=Ju x 0 (as.take i)
     rw[AE];rw[BG] at this;exact BP (by lia)
    ·rw[Ae (Ad e hD)]
     exact s1 _ _ (sm b o e)
    ·rw[Ab,Nb ht,if_pos c',Ct]
     rfl
   ·have c':¬ x∈tie:=λz=>c (decide_eq_true z)
    refine ⟨_,_,rfl,sm.trans s1,?_⟩;rw[hD3,Nb ht,if_neg c',B9]
 ·rintro τ H2 ⟨n,t,rfl,sm,hD2⟩
  rw[<- lx,CU] at hD2;exact q D H2 sm hD hD2
end
def ABe(K:Au):Sp:=λvs H Q _=>∃(a:Addr) (ns:List Int) (at_:Int),vs=[.ref a,.int at_]/\SqL K H a (ns.map V.int)/\0<=at_ /\
 ∀(t l:Addr) (z:Int) (xs:List V) (as:List (List Int)) (H':Hp),Same H H'->H' t=some (.tup [.int z,.ref l])->H' l=some (.lst xs)->H l=none->BE (rPair K H') as xs->1<=z->z<=10->as.length<=12->OkTies z as->Q (.ref t) H'
section
variable{P:AL}{w:AQ}{K:Au}{mg:Str->Option Ap}{base:Heap}{f C:Addr}{fd:BV}
theorem JM:FnScope ["_law_script","_law_at","_law_points","_law_ties","_law_many_here","_law_number","_law_one","_law_other"] ["_law_script","_law_at"] (Ac Vy):=⟨rfl,rfl,rfl,by decide +kernel,rfl,by decide +kernel,by decide +kernel⟩
theorem drawn{z v:Int}(h1:1<=z)(h10:z<=10)(hz:1<z)(v0:0<=v)(vm:v<z*(z-1)):OkTie z [v / (z-1),v%(z-1)+(if decide (v / (z-1)<=v%(z-1))=true then 1 else 0)]:=by
 have a0:0<=v / (z-1):=Int.ediv_nonneg v0 (by lia);have a1:v / (z-1)<z:=Int.ediv_lt_of_lt_mul (by lia) vm;have b0:0<=v%(z-1):=Fk _ (by lia);have b1:v%(z-1)<z-1:=EA _ (by lia);refine ⟨_,_,rfl,a0,a1,?_⟩;by_cases h:v / (z-1)<=v%(z-1)
 ·rw[decide_eq_true h]
  simp only[if_true];lia
 ·rw[decide_eq_false h]
  simp only[AR,if_false];lia
theorem ACg{fC fD:Addr}{fdC fdD:BV}(F:Fun K "_law_web" "_law_web" Vy f fd)(T:Txt K mg C)
  (GC:FnOk P w K mg base CX0 1 fC fdC ["_law_script","_law_k"] (Tv K)) (bC:Binds K fdC ["_law_script","_law_k"] []) (kC:AK K (.ref fC)=true) (mC:mg "_law_cell" = some (.ref fC))
  (GD:FnOk P w K mg base CX0 2 fD fdD ["_law_cell_here","_law_many_here","_law_most"] Xz) (bD:Binds K fdD ["_law_cell_here","_law_many_here","_law_most"] []) (kD:AK K (.ref fD)=true) (mD:mg "_law_draws" = some (.ref fD)) :
  FnOk P w K mg base CX0 3 f fd ["_law_script","_law_at"] (ABe K):=by
 refine F.ok JM (λvs H Q E h=>?_) (λcdv A outer s H vs Q E hr h=>?_)
 ·obtain ⟨a,ns,at_,rfl,_⟩:=h
  rfl
 obtain ⟨a,ns,at_,rfl,hS,at0,q⟩:=h;have hr1:Room 1 _:=hr.mono (by decide);have hu:=hr.units;refine ⟨_,Ah (BJ (i:=2) JM.nd rfl (B3 rfl) (Ar Cg Ai (Ar DP (BL GC hr1 rfl mC kC bC .nil pass0 (Aa (pv 0) (Aa (pv 1) Af))) Ai)))
  (Ah (BJ (i:=3) JM.nd rfl (B3 rfl) (Dq Af))
  (Ah (BJ (i:=4) JM.nd rfl (B3 rfl) (Ar KY (Ar DP (Ar HD (BL GC hr1 rfl mC kC bC .nil pass0 (Aa (pv 0) (Aa (pv 1) Af))) Ai) Ai) (Bt Iz rfl T.int KS (Aa (Ds Yr (pv 2) Ai (nomark _)) Af))))
  (Ah (Dg D1 rfl (CG (BL GD hr rfl mD kD bD .nil pass0 (Aa (BL GC hr1 rfl mC kC bC .nil pass0 (Aa (pv 0) (Aa (Ar Cg (pv 1) Ai) Af))) (Aa (pv 4) (Aa (Bb (Wf rfl) rfl T.max Os (Aa Ai (Aa (Ar KY (pv 2) (Ar DK (pv 2) Ai)) Af))) Af)))))
    (Aq (i:=5) JM.nd rfl (B3 rfl))
   (Ah (BJ (i:=6) JM.nd rfl (B3 rfl) (Ar HD (pv 5) (Ar DK (pv 2) Ai)))
   (Ah (BJ (i:=7) JM.nd rfl (B3 rfl) (Ar DP (pv 5) (Ar DK (pv 2) Ai)))
   (Ah (BJ (i:=7) JM.nd rfl (B3 rfl) (Ar Cg (pv 7) (Bt Iz rfl T.int KS (Aa (Ds ABV (pv 7) (pv 6) (nomark _)) Af))))
   (Aj (CQ (PW.pt (Td (Aw (NZ (Ht Ho) (CW hr)) (Cd (Aa (pv 6) (Aa (pv 7) Af))) (pv 3) rfl) (Oh (Aw (NZ (Ht Ho) (CW hr)) (Cd (Aa (pv 7) (Aa (pv 6) Af))) (pv 3) rfl))))
    (Aj (DY (Ke D3 DT DU CZ (pv 3) (Aa (Cd (Aa (pv 6) (Aa (pv 7) Af))) Af)))) Bc))))))
  (Aj (Ay (Cd (Aa (pv 2) (Aa (pv 3) Af)))))))),?_⟩
 refine ⟨_,rfl,_,rfl,a,ns,at_,rfl,hS,at0,λc=>?_⟩;refine ⟨_,_,rfl,rfl,(by show (0:Int)<10;decide),_,_,rfl,rfl,?_⟩;have z1:(1:Int)<=1+c%10:=by lia
 have z10:(1:Int)+c%10<=10:=by lia
 dsimp only;generalize hz:(1:Int)+c%10=z at z1 z10 ⊢;refine ⟨BH _,λl hl=>?_⟩;have s1:Same H (upd H l (.lst [])):=Same.new hl _;refine ⟨_,rfl,_,rfl,a,ns,at_,rfl,s1.seq hS,at0,λc2=>?_⟩;refine ⟨_,_,rfl,rfl,⟨by decide,by decide⟩,_,_,rfl,rfl,(by show (0:Int)<13;decide),_,rfl,_,_,rfl,rfl,.inr ⟨_,rfl,?_⟩⟩;have y0:0<=c2 / 10%13:=Fk _ (by decide);have y1:c2 / 10%13<13:=EA _ (by decide);refine ⟨_,_,rfl,rfl,.inl ⟨by lia,by lia⟩,?_⟩;have many:∃k:Int,c2 / 10%13*(if decide (1<z)=true then (1:Int) else 0)=k/\0<=k/\k<=12/\(0<k->1<z):=by
  refine ⟨_,rfl,?_⟩;by_cases h:1<z
  ·rw[decide_eq_true h]
   simp only[if_true,VO];lia
  ·rw[decide_eq_false h]
   simp only[AR,if_false,Int.mul_zero];lia
 obtain ⟨k,ek,k0,k12,kz⟩:=many;dsimp only;rw[ek];refine ⟨_,rfl,_,rfl,_,_,rfl,rfl,a,ns,at_+1,rfl,s1.seq hS,by lia,λc3=>?_⟩;refine ⟨_,rfl,_,rfl,_,rfl,_,_,rfl,rfl,_,_,rfl,rfl,.inl ⟨by lia,by lia⟩,1,z*(z-1),rfl,?_⟩;have zz:0<=z*(z-1)/\z*(z-1)<=90:=by
  have:z=1\/z=2\/z=3\/z=4\/z=5\/z=6\/z=7\/z=8\/z=9\/z=10:=by lia
  rcases this with h | h | h | h | h | h | h | h | h | h<;>subst h<;>decide
 refine ⟨c3,k,_,rfl,k0,by lia,by split<;>lia,by split<;>lia,λl2 ms H2 s2 n2 e2 hms hb=>?_⟩;have hl2:H2 l=some (.lst []):=s2 _ _ Ab;have sH:Same H H2:=s1.trans s2;have lms:(ms.map V.int).length=ms.length:=AE _;refine ⟨l2,rfl,⟨_,SqL.of e2⟩,Cy (K:=K) (a:=l2) (xs:=ms.map V.int) (λi σ H3=>∃(v4 v5 v6:Option V) (xs:List V) (as:List (List Int)),σ=[some (.ref a),some (.int at_),some (.int z),some (.ref l),some (.int k),v4,v5,v6]/\Same H H3/\H3 l2=some (.lst (ms.map V.int))/\H3 l=some (.lst xs)/\BE (rPair K H3) as xs/\as.length<=i/\OkTies z as)
  ⟨none,none,none,[],[],rfl,sH,e2,hl2,.nil,AF _,⟨(λt ht=>by cases ht),LF⟩⟩ (λi σ H3 _ ⟨_,_,_,_,_,_,_,e3,_⟩=>SqL.of e3) ?_ ?_⟩
 ·rintro i y σ H3 hy ⟨v4,v5,v6,xs,as,rfl,s3,e3,hL,pl,hlen,ok⟩
  have hi:i<ms.length:=by rw[<- lms];exact (AH.mp hy).1
  rw[BI,AI hi] at hy;have ey:y=.int ms[i]:=(BY hy).symm;subst ey;obtain ⟨v0,vm⟩:=hb _ (FR hi);have hz1:1<z:=kz (by lia);have vm':ms[i]<z*(z-1):=by
   have hz2:(1:Int)<=z*(z-1):=by
    have:z=2\/z=3\/z=4\/z=5\/z=6\/z=7\/z=8\/z=9\/z=10:=by lia
    rcases this with h | h | h | h | h | h | h | h | h<;>subst h<;>decide
   split at vm<;>lia
  have okt:=drawn z1 z10 hz1 v0 vm';refine ⟨_,rfl,_,rfl,_,_,rfl,rfl,_,_,rfl,rfl,⟨by lia,by lia⟩,?_⟩;refine ⟨_,rfl,_,rfl,_,_,rfl,rfl,_,_,rfl,rfl,(by show 0<z-1;lia),?_⟩;refine ⟨_,rfl,_,rfl,_,rfl,_,_,rfl,rfl,.inr ⟨_,rfl,?_⟩⟩;refine ⟨_,_,rfl,rfl,?_⟩;dsimp only;generalize ho:ms[i] / (z-1)=one at okt ⊢;generalize hq:ms[i]%(z-1)+(if decide (one<=ms[i]%(z-1))=true then 1 else 0)=oth at okt ⊢;refine ⟨_,rfl,_,rfl,(by show 2<=sizeLine;decide),λt1 ht1=>?_⟩;have st1:Same H3 (upd H3 t1 (.tup [.int one,.int oth])):=Same.new ht1 _;have rt1:rPair K (upd H3 t1 (.tup [.int one,.int oth])) [one,oth] (.ref t1):=Fp Ab;have pl1:BE (rPair K (upd H3 t1 (.tup [.int one,.int oth]))) as xs:=Paired.imp (λa b=>Ao Av _ _ a b st1.ts) pl;refine ⟨_,rfl,_,_,rt1,.inl ⟨l,xs,rfl,SqL.of (st1 _ _ hL),pl1⟩,_,rfl,?_⟩;by_cases c1:[one,oth]∈as
  ·refine iteNP c1 (iteF ?_)
   exact ⟨_,_,_,xs,as,rfl,s3.trans st1,st1 _ _ e3,st1 _ _ hL,pl1,by lia,ok⟩
  ·refine iteNN c1 ?_
   refine ⟨_,rfl,_,rfl,(by show 2<=sizeLine;decide),λt2 ht2=>?_⟩;have st2:=Same.new ht2 (.tup [.int oth,.int one]);generalize hH4:upd (upd H3 t1 (.tup [.int one,.int oth])) t2 (.tup [.int oth,.int one])=H4 at st2 ⊢;have s34:Same H3 H4:=st1.trans st2;have rt2:rPair K H4 [oth,one] (.ref t2):=Fp (by rw[<- hH4];exact Ab);have pl2:BE (rPair K H4) as xs:=Paired.imp (λa b=>Ao Av _ _ a b st2.ts) pl1;refine ⟨_,rfl,_,_,rt2,.inl ⟨l,xs,rfl,SqL.of (s34 _ _ hL),pl2⟩,_,rfl,?_⟩;by_cases c2:[oth,one]∈as
   ·refine iteNP c2 ?_
    exact ⟨_,_,_,xs,as,rfl,s3.trans s34,s34 _ _ e3,s34 _ _ hL,pl2,by lia,ok⟩
   ·refine iteNN c2 ?_
    refine ⟨_,rfl,.inl ⟨rfl,_,SqL.of (s34 _ _ hL)⟩,_,rfl,_,rfl,(by show 2<=sizeLine;decide),λt3 ht3=>?_⟩;have st3:=Same.new ht3 (.tup [.int one,.int oth]);have hL5:=st3 _ _ (s34 _ _ hL);have lxs:xs.length=as.length:=(AY pl).symm;refine ⟨l,xs,_,rfl,rfl,hL5,BP (by lia),?_⟩;have nl:∀b o,H b=some o->b≠l:=λb o e=>Ad e hl;refine ⟨_,_,_,_,as++[[one,oth]],rfl,λb o e=>?_,?_,Ab,?_,?_,ok.snoc okt c1 c2⟩
    ·rw[Ae (nl b o e)]
     exact st3 _ _ (s34 _ _ (s3 b o e))
    ·have:l2≠l:=λe=>by
      rw[e] at n2;rw[Ab] at n2;cases n2
     rw[Ae this];exact st3 _ _ (s34 _ _ e3)
    ·have ts:=TSm.lst (o:=.lst (xs++[.ref t3])) hL5
     have r3:rPair K (upd H4 t3 (.tup [.int one,.int oth])) [one,oth] (.ref t3):=Fp Ab;exact Paired.app (Paired.imp (λa b=>Ao Av _ _ a b (st3.ts.trans ts)) pl2) (Paired.one (Ao Av _ _ _ _ ts r3))
    ·rw[BC,DA]
     lia
 ·rintro σ H3 ⟨v4,v5,v6,xs,as,rfl,s3,e3,hL,pl,hlen,ok⟩
  refine ⟨_,rfl,_,rfl,(by show 2<=sizeLine;decide),λt ht=>?_⟩;have st:=Same.new ht (.tup [.int z,.ref l]);refine q t l z xs as _ (s3.trans st) Ab (st _ _ hL) hl (Paired.imp (λa b=>Ao Av _ _ a b st.ts) pl) z1 z10 (by lia) ok
end
theorem int_at{ns:List Int}{i:Nat}{y:V}(h:(ns.map V.int)[i]?=some y):∃u,ns[i]?=some u/\y=.int u:=by
 rw[BI] at h;cases e:ns[i]? with
 | none=>rw[e] at h;cases h
 | some u=>rw[e] at h;exact ⟨u,rfl,(BY h).symm⟩
theorem take_snoc{α:Type}{l:List α}{i:Nat}{x:α}(h:l[i]?=some x):l.take (i+1)=l.take i++[x]:=by rw[Co,h];rfl
end K54
end
section
namespace RT
open PySem
theorem noMul:fillsNumberSlot (.type "tuple") "mul" = pure false:=fillsNumberSlot_seq (id:="tuple.__mul__") (r:=some (.builtin "tuple.__rmul__")) Iq.lookup (by decide +kernel) M8.lookup (by decide +kernel)
theorem reps:seqRepeat? (.type "tuple")=pure (some (.builtin "tuple.__mul__")):=by
 unfold seqRepeat?;rw[seqSlot_of (T:="tuple") (name:="__mul__") (id:="tuple.__mul__") Iq.lookup (by decide +kernel),seqSlot_of (T:="tuple") (name:="__rmul__") (id:="tuple.__rmul__") M8.lookup (by decide +kernel)];rfl
theorem declines(a:Int)(t:Tok)(l:Addr)(c:Nat)(its:Array Ap)(dc:Option Addr)(sl:Array (Option Ap)) :
  Meets (Builtin.«int.__rmul__» ⟨[.int a t,.ref l],[]⟩) (λ_ R s=>s.heap.get? l=some {cls:=.type "tuple",dict:=dc,data:=.seq its c,slots:=sl}/\R (.ok (.ret Value.notImplemented)) s) :=
 .of_wp λP w A R s h=>by
  obtain ⟨hp,g,d,tk,os⟩:=s;obtain ⟨hl,h⟩:=h
  wp_walk
  exact ⟨_,rfl,h⟩
theorem times(l:Addr)(c:Nat)(its:List Ap)(dc:Option Addr)(sl:Array (Option Ap))(k:Int)(t:Tok)(k1:1<k)(k2:k<100)(ne:its≠[])(small:its.length<100) :
  Meets (Builtin.«tuple.__mul__» ⟨[.ref l,.int k t],[]⟩) (λ_ R s=>s.heap.get? l=some {cls:=.type "tuple",dict:=dc,data:=.seq its.toArray c,slots:=sl} /\
   R (.ok (.ret (.ref s.heap.objs.size))) {s with heap:=s.heap.push {cls:=.type "tuple",data:=.seq (B4 k.toNat its).flatten.toArray}}) :=
 .of_wp λP w A R s h=>by
  obtain ⟨hp,g,d,tk,os⟩:=s;obtain ⟨hl,h⟩:=h;have ie:its.toArray.isEmpty=false:=by cases its with
   | nil=>exact absurd rfl ne
   | cons=>rfl
  have sz:its.toArray.size=its.length:=by simp
  have c1:¬ (decide (k < -2 ^ 63)||decide (k >= 2 ^ 63))=true:=by
   rw[decide_eq_false (by lia),decide_eq_false (by lia)];exact BA
  have c2:¬ (its.toArray.isEmpty||k==1)=true:=by
   rw[ie,To];intro z;have:=eq_of_beq z;lia
  have c3:¬ (decide (k<=0)||its.toArray.isEmpty)=true:=by
   rw[ie,Tu,decide_eq_false (by lia)];exact BA
  have le:(its.toArray.size:Int)*k<=100*100:=Int.mul_le_mul (by lia) (by lia) (by lia) (by decide);have c4:¬ (its.toArray.size:Int)*k>(2 ^ 63-1) / 8:=by lia
  have c5:¬ IX ((its.toArray.size:Int)*k)=true:=by
   unfold IX;intro z;have:=of_decide_eq_true z;have hs:(sizeLine:Nat)=16777216:=rfl;lia
  have fl:VZ (λx1 x2=>x1++x2) #[] (B4 k.toNat its.toArray)=(B4 k.toNat its).flatten.toArray:=by
   have:=L2.foldl_rep its k.toNat [];rw[NB] at this;exact this
  have ln:(B4 k.toNat its).flatten.length<=sizeLine:=by
   rw[L2.len_rep];have:k.toNat*its.length<=100*100:=SZ (by lia) (by lia);exact BM this (by decide)
  wp_walk
  rw[if_neg c1];refine As (JY hl rfl ?_);show wpAny _ _ (if (its.toArray.isEmpty||k==1)=true then _ else _) _ _ _;rw[if_neg c2];show wpAny _ _ (if (decide (k<=0)||its.toArray.isEmpty)=true then _ else _) _ _ _;rw[if_neg c3];show wpAny _ _ (if (its.toArray.size:Int)*k>(2 ^ 63-1) / 8 then _ else _) _ _ _;rw[if_neg c4];show wpAny _ _ (if IX ((its.toArray.size:Int)*k)=true then _ else _) _ _ _;rw[if_neg c5];show wpAny _ _ (M0 _ >>= _) _ _ _;unfold M0;rw[fl];refine As (DB (hd:=?_) (wpAny_pure ⟨_,rfl,h⟩));show (B4 k.toNat its).flatten.toArray.size<=sizeLine;rw[A7];exact ln
theorem once(l:Addr)(c:Nat)(its:List Ap)(dc:Option Addr)(sl:Array (Option Ap))(t:Tok) :
  Meets (Builtin.«tuple.__mul__» ⟨[.ref l,.int 1 t],[]⟩) (λ_ R s=>s.heap.get? l=some {cls:=.type "tuple",dict:=dc,data:=.seq its.toArray c,slots:=sl}/\R (.ok (.ret (.ref l))) s) :=
 .of_wp λP w A R s h=>by
  obtain ⟨hp,g,d,tk,os⟩:=s;obtain ⟨hl,h⟩:=h
  wp_walk
  exact ⟨_,rfl,h⟩
end RT
namespace L2
open PySem
section
variable{X:Cx}
def rRepT:R2:=λx y H Q=>∃l k xs,x=.ref l/\y=.int k/\H l=some (.tup xs)/\1<=k/\k<100/\xs≠[]/\xs.length<100 /\
 (k=1->Q (.ref l) H)/\(1<k->∀p,H p=none->Q (.ref p) (upd H p (.tup (B4 k.toNat xs).flatten)))
theorem Zm:OpR X (FI .Mult) rRepT:=by
 intro pins s σ H x y v u Q I rx ry h;obtain ⟨l,k,xs,rfl,rfl,hH,h1,h2,ne,sm,q1,q2⟩:=h;cases rx;obtain ⟨t,rfl⟩:=ry;obtain ⟨z,its,r,⟨⟨oc,od,odt,osl⟩,e,hc,c,hd⟩⟩:=(show ObjOk X.prog X.w H s.heap l (.tup xs) from I.hok l _ hH);dsimp only at hc hd;subst hc hd;have lr:=r.length;have ne':its≠[]:=λz=>by rw[z] at lr;exact ne (DC.mp (by simpa using lr))
 refine wpAny_binaryOp_repeat_ref (T:="tuple") (U:="int") (by decide) ⟨_,e,rfl⟩ (λs'=>Sa s' k t) RT.noMul PySem.F.fills_int_mul Oy RT.reps PySem.F.slot_int_index.lookup
  (OO Oy (Sa s k t) PySem.F.entry_int_rmul (PySem.F.args_int_rmul_2 _ _) (RT.declines k t l c its.toArray od osl) ⟨e,rfl,⟨_,e,rfl⟩,?_⟩)
 by_cases c1:k=1
 ·subst c1
  refine OO Iq ⟨_,e,rfl⟩ M9 (M1 _ _) (RT.once l c its od osl t) ⟨e,?_⟩;exact ⟨.ref l,H,I,rfl,q1 rfl⟩
 ·refine OO Iq ⟨_,e,rfl⟩ M9 (M1 _ _) (RT.times l c its od osl k t (by lia) h2 ne' (by lia)) ⟨e,?_⟩
  have hf:H s.heap.objs.size=none:=I.hok.fresh (AF _);refine ⟨.ref s.heap.objs.size,_,I.laid (t':=s.toks) (o:=.tup (B4 k.toNat xs).flatten) (λb u e=>AJ _ e) (AF _) ?_,rfl,q2 (by lia) _ hf⟩;refine ⟨?_,(B4 k.toNat its).flatten,r.rep k.toNat,⟨_,AW _ rfl,rfl,_,rfl⟩⟩;rw[len_rep];have:k.toNat*xs.length<=100*100:=SZ (by lia) (by lia);exact BM this (by decide)
end
end L2
end
section
namespace G
abbrev Row:=Nat×Nat×Nat
def Low(rows:List Row)(t k l:Nat):Prop:=l<k/\(l<=1\/∃r,rows[l-2]?=some r/\t<r.1)
def Ok(n:Nat)(rows:List Row):Prop:=∀(i:Nat) (r:Row),rows[i]?=some r->r.1<n/\Low rows r.1 (i+2) r.2.1/\Low rows r.1 (i+2) r.2.2
structure Least(n:Nat)(rows:List Row):Prop where
 ok:Ok n rows
 pos:∀(i:Nat) (r:Row),rows[i]?=some r->r.2.2≠0
 one:∀(i j:Nat) (r:Row),rows[i]?=some r->rows[j]?=some r->i=j
def rank(n:Nat)(rows:List Row)(k:Nat):Nat:=if k<2 then n+1-k else (rows.getD (k-2) (0,0,0)).1
def ledF(rows:List Row):Nat->Nat->List Nat->Bool
 | 0,_,_=>false
 | f+1,k,s=>if k<=1 then decide (k=1/\s=[]) else
  let r:=rows.getD (k-2) (0,0,0)
  match s with
  | []=>ledF rows f r.2.1 []
  | x::xs=>if x<r.1 then false else if x=r.1 then ledF rows f r.2.2 xs else ledF rows f r.2.1 (x::xs)
def led(rows:List Row)(k:Nat)(s:List Nat):Bool:=ledF rows (k+1) k s
def Knot(rows:List Row)(k:Nat):Prop:=k<rows.length+2
section
variable{n:Nat}{rows:List Row}
theorem Bj{k:Nat}(h:Knot rows k)(h2:2<=k):rows[k-2]?=some (rows.getD (k-2) (0,0,0)):=by
 have:k-2<rows.length:=by unfold Knot at h;lia
 rw[AI this,AB,AI this];rfl
theorem Ok.low(o:Ok n rows){i:Nat}{r:Row}(h:rows[i]?=some r):r.1<n/\r.2.1<i+2/\r.2.2<i+2/\r.1<rank n rows r.2.1/\r.1<rank n rows r.2.2/\Knot rows r.2.1/\Knot rows r.2.2:=by
 obtain ⟨h1,h2,h3⟩:=o i r h;have hi:i<rows.length:=(AH.mp h).1;have rk:∀l,Low rows r.1 (i+2) l->r.1<rank n rows l/\Knot rows l:=by
  intro l hl;obtain ⟨a,b⟩:=hl;refine ⟨?_,by unfold Knot;lia⟩;unfold rank;by_cases c:l<2
  ·rw[if_pos c];lia
  ·rw[if_neg c]
   rcases b with b | ⟨r',e,z⟩
   ·lia
   ·rw[AB,e];exact z
 exact ⟨h1,h2.1,h3.1,(rk _ h2).1,(rk _ h3).1,(rk _ h2).2,(rk _ h3).2⟩
theorem WD(o:Ok n rows):∀(f k:Nat) (s:List Nat),k<f->Knot rows k->ledF rows (f+1) k s=ledF rows f k s:=by
 intro f
 induction f with
 | zero=>intro k s h;lia
 | succ f ih =>
  intro k s hk kn;unfold ledF;by_cases c:k<=1
  ·rw[if_pos c,if_pos c]
  rw[if_neg c,if_neg c];obtain ⟨h1,h2,h3,_,_,k1,k2⟩:=o.low (Bj kn (by lia));have e1:∀s,ledF rows (f+1) (rows.getD (k-2) (0,0,0)).2.1 s=ledF rows f (rows.getD (k-2) (0,0,0)).2.1 s:=λs=>ih _ _ (by lia) k1;have e2:∀s,ledF rows (f+1) (rows.getD (k-2) (0,0,0)).2.2 s=ledF rows f (rows.getD (k-2) (0,0,0)).2.2 s:=λs=>ih _ _ (by lia) k2;cases s with
  | nil=>exact e1 _
  | cons x xs =>
   show (if _ then _ else if _ then ledF rows (f+1) _ _ else ledF rows (f+1) _ _)=_;rw[e1,e2]
theorem JR(o:Ok n rows){k:Nat}(s:List Nat)(kn:Knot rows k):∀d,ledF rows (k+1+d) k s=led rows k s
 | 0=>rfl
 | d+1=>by rw[show k+1+(d+1)=(k+1+d)+1 by lia,WD o _ k s (by lia) kn,JR o s kn d]
theorem Dy(s:List Nat):led rows 1 s=decide (s=[]):=by
 unfold led ledF;simp
theorem Ci(s:List Nat):led rows 0 s=false:=by
 unfold led ledF;simp
theorem Du(o:Ok n rows){k:Nat}(kn:Knot rows k)(h2:2<=k):led rows k []=led rows (rows.getD (k-2) (0,0,0)).2.1 []:=by
 obtain ⟨h1,h2',h3,_,_,k1,k2⟩:=o.low (Bj kn h2);unfold led
 conv=>lhs;unfold ledF
 rw[if_neg (by lia)];have:=JR o [] k1 (k-(rows.getD (k-2) (0,0,0)).2.1-1);rw[show (rows.getD (k-2) (0,0,0)).2.1+1+(k-(rows.getD (k-2) (0,0,0)).2.1-1)=k by lia] at this;exact this
theorem Br(o:Ok n rows){k x:Nat}{xs:List Nat}(kn:Knot rows k)(h2:2<=k):led rows k (x::xs) =
  if x<(rows.getD (k-2) (0,0,0)).1 then false else if x=(rows.getD (k-2) (0,0,0)).1 then led rows (rows.getD (k-2) (0,0,0)).2.2 xs else led rows (rows.getD (k-2) (0,0,0)).2.1 (x::xs):=by
 obtain ⟨h1,h2',h3,_,_,k1,k2⟩:=o.low (Bj kn h2);unfold led
 conv=>lhs;unfold ledF
 rw[if_neg (by lia)];have e1:=JR o (x::xs) k1 (k-(rows.getD (k-2) (0,0,0)).2.1-1);rw[show (rows.getD (k-2) (0,0,0)).2.1+1+(k-(rows.getD (k-2) (0,0,0)).2.1-1)=k by lia] at e1;have e2:=JR o xs k2 (k-(rows.getD (k-2) (0,0,0)).2.2-1);rw[show (rows.getD (k-2) (0,0,0)).2.2+1+(k-(rows.getD (k-2) (0,0,0)).2.2-1)=k by lia] at e2;show (if _ then _ else if _ then ledF rows k _ _ else ledF rows k _ _)=_;rw[e1,e2];rfl
def Way(n:Nat)(rows:List Row)(k:Nat)(s:List Nat):Prop:=led rows k s=true/\s.Pairwise (· < ·)/\∀x∈s,x<n/\rank n rows k<=x
theorem YM(L:Least n rows){k:Nat}{s:List Nat}(kn:Knot rows k)(h2:2<=k)(w:Way n rows (rows.getD (k-2) (0,0,0)).2.2 s):Way n rows k ((rows.getD (k-2) (0,0,0)).1::s):=by
 obtain ⟨w1,w2,w3⟩:=w;obtain ⟨h1,h2',h3,r1,r2,k1,k2⟩:=L.ok.low (Bj kn h2);have rk:rank n rows k=(rows.getD (k-2) (0,0,0)).1:=by unfold rank;rw[if_neg (by lia)]
 refine ⟨?_,?_,?_⟩
 ·rw[Br L.ok kn h2,if_neg (by lia),if_pos rfl];exact w1
 ·exact PD (λx hx=>by have:=(w3 x hx).2;lia) w2
 ·intro x hx
  rcases Bz.mp hx with rfl | hx
  ·exact ⟨h1,by lia⟩
  ·have:=w3 x hx
   exact ⟨this.1,by lia⟩
theorem Zk:Way n rows 1 []:=⟨by rw[Dy];rfl,.nil,λx hx=>nomatch hx⟩
theorem off(o:Ok n rows){b x:Nat}{xs:List Nat}(kb:Knot rows b)(h:x<rank n rows b):led rows b (x::xs)=false:=by
 unfold rank at h;by_cases c:b<2
 ·have hb:b=0\/b=1:=by lia
  rcases hb with rfl | rfl
  ·exact Ci _
  ·rw[Dy];rfl
 ·rw[if_neg c] at h
  rw[Br o kb (by lia),if_pos h]
end
section
variable{n t:Nat}{rows nums new:List Row}{rc:List Nat}{pl pl':Nat->Option Nat}
def tieOf(rows:List Row)(k:Nat):Nat:=(rows.getD (k-2) (0,0,0)).1
def outOf(rows:List Row)(k:Nat):Nat:=(rows.getD (k-2) (0,0,0)).2.1
def intoOf(rows:List Row)(k:Nat):Nat:=(rows.getD (k-2) (0,0,0)).2.2
structure Closed(rows:List Row)(rc:List Nat):Prop where
 two:∀k∈rc,2<=k
 knot:∀k∈rc,Knot rows k
 out:∀k∈rc,outOf rows k<=1\/outOf rows k∈rc
 into:∀k∈rc,intoOf rows k<=1\/intoOf rows k∈rc
structure Kept(n t:Nat)(rows:List Row)(rc:List Nat)(nums:List Row)(pl:Nat->Option Nat):Prop where
 least:Least n nums
 ge:∀r∈nums,t<=r.1
 z:pl 0=some 0
 o:pl 1=some 1
 has:∀k∈rc,t<=tieOf rows k->∃p,pl k=some p/\Knot nums p/\tieOf rows k<=rank n nums p
theorem XR(hn:∀k∈rc,tieOf rows k<n):Kept n n rows rc [] (λk=>if k=0 then some 0 else if k=1 then some 1 else none) :=
 ⟨⟨λi r h=>by simp at h,λi r h=>by simp at h,λi j r h=>by simp at h⟩,λr h=>(nomatch h),rfl,rfl,λk hk h=>absurd (hn k hk) (by lia)⟩
theorem Jx{p:Nat}(h:Knot nums p):rank n (nums++new) p=rank n nums p:=by
 unfold rank;by_cases c:p<2
 ·rw[if_pos c,if_pos c]
 ·rw[if_neg c,if_neg c,AB,AB,Bi (by unfold Knot at h;lia)]
theorem Fz{p:Nat}(h:Knot nums p):Knot (nums++new) p:=by unfold Knot at *;rw[BC];lia
theorem Kept.low(I:Kept n (t+1) rows rc nums pl)(o:Ok n rows)(hn:t<n){l:Nat}(h:l<=1\/l∈rc)(z:l<=1\/t<tieOf rows l):∃p,pl l=some p/\Knot nums p/\t<rank n nums p:=by
 rcases C4 l 2 with c | c
 ·have e:l=0\/l=1:=by lia
  rcases e with rfl | rfl
  ·exact ⟨0,I.z,by unfold Knot;lia,by unfold rank;rw[if_pos (by decide)];lia⟩
  ·exact ⟨1,I.o,by unfold Knot;lia,by unfold rank;rw[if_pos (by decide)];lia⟩
 ·have hr:l∈rc:=h.resolve_left (by lia)
  have hz:t<tieOf rows l:=z.resolve_left (by lia);obtain ⟨p,h1,h2,h3⟩:=I.has l hr hz;exact ⟨p,h1,h2,by lia⟩
def rowIn(rows:List Row)(pl:Nat->Option Nat)(k:Nat):Row:=(tieOf rows k,(pl (outOf rows k)).getD 0,(pl (intoOf rows k)).getD 0)
theorem Closed.low(c:Closed rows rc)(o:Ok n rows){k:Nat}(h:k∈rc):tieOf rows k<n/\(outOf rows k<=1\/tieOf rows k<tieOf rows (outOf rows k))/\(intoOf rows k<=1\/tieOf rows k<tieOf rows (intoOf rows k)):=by
 obtain ⟨h1,h2,h3⟩:=o _ _ (Bj (c.knot k h) (c.two k h));refine ⟨h1,h2.2.imp id λ⟨r,e,z⟩=>?_,h3.2.imp id λ⟨r,e,z⟩=>?_⟩
 ·show (rows.getD (k-2) (0,0,0)).1<(rows.getD ((rows.getD (k-2) (0,0,0)).2.1-2) (0,0,0)).1
  rw[AB (l:=rows) (i:=(rows.getD (k-2) (0,0,0)).2.1-2),e];exact z
 ·show (rows.getD (k-2) (0,0,0)).1<(rows.getD ((rows.getD (k-2) (0,0,0)).2.2-2) (0,0,0)).1
  rw[AB (l:=rows) (i:=(rows.getD (k-2) (0,0,0)).2.2-2),e];exact z
theorem Kept.row(I:Kept n (t+1) rows rc nums pl)(c:Closed rows rc)(o:Ok n rows)(hn:t<n){k:Nat}(h:k∈rc)(ht:tieOf rows k=t) :
  ∃a b,pl (outOf rows k)=some a/\pl (intoOf rows k)=some b/\rowIn rows pl k=(t,a,b)/\Knot nums a/\Knot nums b/\t<rank n nums a/\t<rank n nums b:=by
 obtain ⟨_,z1,z2⟩:=c.low o h;obtain ⟨a,a1,a2,a3⟩:=I.low o hn (c.out k h) (by rw[<- ht];exact z1);obtain ⟨b,b1,b2,b3⟩:=I.low o hn (c.into k h) (by rw[<- ht];exact z2);exact ⟨a,b,a1,b1,by unfold rowIn;rw[a1,b1,ht];rfl,a2,b2,a3,b3⟩
theorem YC{p k:Nat}(h:Knot nums p)(hk:nums.length+2<=k)(z:t<rank n nums p):Low (nums++new) t k p:=by
 refine ⟨by unfold Knot at h;lia,?_⟩;rcases C4 p 2 with c | c
 ·exact .inl (by lia)
 ·refine .inr ⟨nums.getD (p-2) (0,0,0),?_,?_⟩
  ·rw[Bi (by unfold Knot at h;lia)]
   exact Bj h c
  ·unfold rank at z
   rw[if_neg (by lia)] at z;exact z
theorem Kept.step(I:Kept n (t+1) rows rc nums pl)(c:Closed rows rc)(o:Ok n rows)(hn:t<n)(hw:∀r,r∈new->∃k,k∈rc/\tieOf rows k=t/\r=rowIn rows pl k/\r.2.2≠0)(nd:new.Nodup)
  (h1:∀k,k∉rc\/tieOf rows k≠t->pl' k=pl k)
  (h2:∀k∈rc,tieOf rows k=t->∃p,pl' k=some p/\((∃i,(nums++new)[i]?=some (rowIn rows pl k)/\p=i+2)\/(rowIn rows pl k∉nums++new/\p=(rowIn rows pl k).2.1))) :
  Kept n t rows rc (nums++new) pl':=by
 have at_new:∀(i:Nat) (r:Row),nums.length<=i->(nums++new)[i]?=some r->new[i-nums.length]?=some r:=λi r hi e=>by rw[Cn hi] at e;exact e
 have at_old:∀(i:Nat) (r:Row),i<nums.length->(nums++new)[i]?=some r->nums[i]?=some r:=λi r hi e=>by rw[Bi hi] at e;exact e
 have tn:∀r∈new,∃a b,r=(t,a,b)/\b≠0/\Knot nums a/\Knot nums b/\t<rank n nums a/\t<rank n nums b:=λr hr=>by
  obtain ⟨k,k1,k2,k3,k4⟩:=hw r hr;obtain ⟨a,b,_,_,e,x1,x2,x3,x4⟩:=I.row c o hn k1 k2;rw[e] at k3;refine ⟨a,b,k3,?_,x1,x2,x3,x4⟩;rw[k3] at k4;exact k4
 have two:∀k∈rc,k≠0/\k≠1:=λk hk=>by have:=c.two k hk;lia
 refine ⟨⟨?_,?_,?_⟩,?_,?_,?_,?_⟩
 ·intro i r e
  rcases C4 i nums.length with hi | hi
  ·obtain ⟨z1,z2,z3⟩:=I.least.ok i r (at_old i r hi e)
   refine ⟨z1,⟨z2.1,z2.2.imp id λ⟨q,e,z⟩=>⟨q,?_,z⟩⟩,⟨z3.1,z3.2.imp id λ⟨q,e,z⟩=>⟨q,?_,z⟩⟩⟩
   ·rw[Bi (by have:=(AH.mp e).1;lia)];exact e
   ·rw[Bi (by have:=(AH.mp e).1;lia)];exact e
  ·obtain ⟨a,b,rfl,_,x1,x2,x3,x4⟩:=tn r (A8 (at_new i r hi e))
   exact ⟨hn,YC x1 (by lia) x3,YC x2 (by lia) x4⟩
 ·intro i r e
  rcases C4 i nums.length with hi | hi
  ·exact I.least.pos i r (at_old i r hi e)
  ·obtain ⟨a,b,rfl,x,_⟩:=tn r (A8 (at_new i r hi e))
   exact x
 ·intro i j r e1 e2
  have cross:∀(i j:Nat),i<nums.length->nums.length<=j->(nums++new)[i]?=some r->(nums++new)[j]?=some r->False:=λi j hi hj e1 e2=>by
   have g:=I.ge r (A8 (at_old i r hi e1));obtain ⟨a,b,rfl,_⟩:=tn r (A8 (at_new j r hj e2));have g':t+1<=t:=g;lia
  rcases C4 i nums.length with hi | hi
  ·rcases C4 j nums.length with hj | hj
   ·exact I.least.one i j r (at_old i r hi e1) (at_old j r hj e2)
   ·exact (cross i j hi hj e1 e2).elim
  ·rcases C4 j nums.length with hj | hj
   ·exact (cross j i hj hi e2 e1).elim
   ·have a1:=at_new i r hi e1
    have a2:=at_new j r hj e2;have:=(IC (AH.mp a1).1 nd).mp (a1.trans a2.symm);lia
 ·intro r hr
  rcases CD.mp hr with hr | hr
  ·have:=I.ge r hr;lia
  ·obtain ⟨a,b,rfl,_⟩:=tn r hr
   exact AF t
 ·rw[h1 0 (.inl λh=>(two 0 h).1 rfl)];exact I.z
 ·rw[h1 1 (.inl λh=>(two 1 h).2 rfl)];exact I.o
 ·intro k hk hk2
  by_cases e:tieOf rows k=t
  ·obtain ⟨p,p1,p2⟩:=h2 k hk e
   refine ⟨p,p1,?_⟩;obtain ⟨a,b,_,_,re,x1,x2,x3,x4⟩:=I.row c o hn hk e;rcases p2 with⟨i,i1,rfl⟩ | ⟨i1,rfl⟩
   ·have il:=(AH.mp i1).1
    refine ⟨by unfold Knot;lia,?_⟩;unfold rank;rw[if_neg (by lia),EB,AB,i1,re];show tieOf rows k<=t;lia
   ·rw[re]
    refine ⟨Fz x1,?_⟩;rw[Jx x1,e];exact De x3
  ·obtain ⟨p,p1,p2,p3⟩:=I.has k hk (by lia)
   exact ⟨p,by rw[h1 k (.inr e)];exact p1,Fz p2,by rw[Jx p2];exact p3⟩
end
section
variable{n lo d t k1 k2 m1 m2 m:Nat}{ss:List (List Int)}{rows more more1 more2:List Row}
theorem Ja{l k:Nat}(h:Low rows t k l):Low (rows++more) t k l:=⟨h.1,h.2.imp id λ⟨q,e,z⟩=>⟨q,by rw[Bi (AH.mp e).1];exact e,z⟩⟩
theorem ABn(o:Ok n rows)(ht:t<n)(h1:Low rows t (rows.length+2) k1)(h2:Low rows t (rows.length+2) k2):Ok n (rows++[(t,k1,k2)]):=by
 intro j r e;rcases C4 j rows.length with c | c
 ·rw[Bi c] at e
  obtain ⟨z1,z2,z3⟩:=o j r e;exact ⟨z1,Ja z2,Ja z3⟩
 ·rw[Cn c] at e
  have j0:j=rows.length:=by
   have:=(AH.mp e).1;simp at this;lia
  subst j0;rw[IM] at e;cases e;exact ⟨ht,Ja h1,Ja h2⟩
theorem Qg{k:Nat}(kn:Knot rows k)(up:k<=1\/t+1<=tieOf rows k):Low rows t (rows.length+2) k:=by
 refine ⟨kn,?_⟩;rcases C4 k 2 with c | c
 ·exact .inl (by lia)
 ·exact .inr ⟨_,Bj kn c,by have:=up.resolve_left (by lia);unfold tieOf at this;lia⟩
theorem AAV{k:Nat}(kn:Knot rows k)(h2:2<=k):tieOf (rows++more) k=tieOf rows k:=by
 unfold tieOf;rw[AB,AB,Bi (by unfold Knot at kn;lia)]
end
section
variable{n t:Nat}{rows nums new more:List Row}{rc:List Nat}{pl pl':Nat->Option Nat}
theorem Xq(o:Ok n rows):∀(f k:Nat) (s:List Nat),Knot rows k->ledF (rows++more) f k s=ledF rows f k s:=by
 intro f
 induction f with
 | zero=>intro k s h;rfl
 | succ f ih =>
  intro k s kn;unfold ledF;by_cases c:k<=1
  ·rw[if_pos c,if_pos c]
  rw[if_neg c,if_neg c];have eg:(rows++more).getD (k-2) (0,0,0)=rows.getD (k-2) (0,0,0):=by
   rw[AB,AB,Bi (by unfold Knot at kn;lia)]
  obtain ⟨h1,h2,h3,_,_,k1,k2⟩:=o.low (Bj kn (by lia));rw[eg];cases s with
  | nil=>exact ih _ _ k1
  | cons x xs =>
   show (if _ then _ else if _ then ledF (rows++more) f _ _ else ledF (rows++more) f _ _)=_;rw[ih _ _ k1,ih _ _ k2]
theorem Cr(o:Ok n rows){k:Nat}(s:List Nat)(kn:Knot rows k):led (rows++more) k s=led rows k s:=Xq o _ _ _ kn
def RowLt(a b:Row):Prop:=b.1<a.1\/(a.1=b.1/\(a.2.1<b.2.1\/(a.2.1=b.2.1/\a.2.2<b.2.2)))
structure Kept2(n t:Nat)(rows:List Row)(rc:List Nat)(nums:List Row)(pl:Nat->Option Nat):Prop where
 base:Kept n t rows rc nums pl
 sem:∀k∈rc,t<=tieOf rows k->∀p,pl k=some p->∀s,led nums p s=led rows k s
 img:∀k∈rc,t<=tieOf rows k->∀p,pl k=some p->(2<=p/\nums[p-2]?=some (rowIn rows pl k))\/((rowIn rows pl k).2.2=0/\p=(rowIn rows pl k).2.1)
 sur:∀(i:Nat) (r:Row),nums[i]?=some r->∃k∈rc,t<=tieOf rows k/\pl k=some (i+2)
 srt:nums.Pairwise RowLt
theorem Rg(hn:∀k∈rc,tieOf rows k<n):Kept2 n n rows rc [] (λk=>if k=0 then some 0 else if k=1 then some 1 else none) :=
 ⟨XR hn,λk hk h=>absurd (hn k hk) (by lia),λk hk h=>absurd (hn k hk) (by lia),λi r h=>by simp at h,.nil⟩
theorem UW(c:Closed rows rc)(o:Ok n rows)(h1:∀k,k∉rc\/tieOf rows k≠t->pl' k=pl k){k:Nat}(hk:k∈rc)(ht:t<=tieOf rows k):rowIn rows pl' k=rowIn rows pl k:=by
 have two:∀k,k<=1->k∉rc:=λk h z=>by have:=c.two k z;lia
 obtain ⟨_,z1,z2⟩:=c.low o hk;have e1:pl' (outOf rows k)=pl (outOf rows k):=by
  rcases z1 with z | z
  ·exact h1 _ (.inl (two _ z))
  ·exact h1 _ (.inr (by lia))
 have e2:pl' (intoOf rows k)=pl (intoOf rows k):=by
  rcases z2 with z | z
  ·exact h1 _ (.inl (two _ z))
  ·exact h1 _ (.inr (by lia))
 unfold rowIn;rw[e1,e2]
theorem Kept2.low(I:Kept2 n (t+1) rows rc nums pl){l p:Nat}(h:l<=1\/l∈rc)(z:l<=1\/t<tieOf rows l)(hp:pl l=some p)(s:List Nat):led nums p s=led rows l s:=by
 rcases C4 l 2 with c | c
 ·have e:l=0\/l=1:=by lia
  rcases e with rfl | rfl
  ·rw[I.base.z] at hp
   cases hp;rw[Ci,Ci]
  ·rw[I.base.o] at hp
   cases hp;rw[Dy,Dy]
 ·exact I.sem l (h.resolve_left (by lia)) (z.resolve_left (by lia)) p hp s
theorem Kept2.step(I:Kept2 n (t+1) rows rc nums pl)(c:Closed rows rc)(o:Ok n rows)(hn:t<n)(hw:∀r,r∈new->∃k,k∈rc/\tieOf rows k=t/\r=rowIn rows pl k/\r.2.2≠0)(nd:new.Nodup)
  (hw2:∀k∈rc,tieOf rows k=t->(rowIn rows pl k).2.2≠0->rowIn rows pl k∈new) (so:new.Pairwise RowLt)
  (h1:∀k,k∉rc\/tieOf rows k≠t->pl' k=pl k)
  (h2:∀k∈rc,tieOf rows k=t->∃p,pl' k=some p/\((∃i,(nums++new)[i]?=some (rowIn rows pl k)/\p=i+2)\/(rowIn rows pl k∉nums++new/\p=(rowIn rows pl k).2.1))) :
  Kept2 n t rows rc (nums++new) pl':=by
 have B:=I.base.step c o hn hw nd h1 h2;have okN:=I.base.least.ok;have at_:∀k∈rc,tieOf rows k=t->∀p,pl' k=some p->(∃i,(nums++new)[i]?=some (rowIn rows pl k)/\p=i+2)\/((rowIn rows pl k).2.2=0/\p=(rowIn rows pl k).2.1):=λk hk ht p hp=>by
  obtain ⟨p',e,h⟩:=h2 k hk ht;rw[hp] at e;cases e;rcases h with h | ⟨nm,e⟩
  ·exact .inl h
  ·refine .inr ⟨?_,e⟩
   rcases PV (rowIn rows pl k).2.2 with z | z
   ·exact z
   ·exact absurd (B6 _ (hw2 k hk ht (by lia))) nm
 have old:∀k∈rc,t+1<=tieOf rows k->∀p,pl' k=some p->pl k=some p:=λk hk ht p hp=>by rw[h1 k (.inr (by lia))] at hp;exact hp
 refine ⟨B,λk hk ht p hp s=>?_,λk hk ht p hp=>?_,λi r e=>?_,?_⟩
 ·by_cases e:tieOf rows k=t
  ·obtain ⟨a,b,ea,eb,re,x1,x2,x3,x4⟩:=I.base.row c o hn hk e
   obtain ⟨_,z1,z2⟩:=c.low o hk;have la:∀s,led nums a s=led rows (outOf rows k) s:=I.low (c.out k hk) (by rw[<- e];exact z1) ea;have lb:∀s,led nums b s=led rows (intoOf rows k) s:=I.low (c.into k hk) (by rw[<- e];exact z2) eb;have kk:=c.knot k hk;have k2:=c.two k hk;have et:(rows.getD (k-2) (0,0,0)).1=t:=e;rcases at_ k hk e p hp with⟨i,hi,rfl⟩ | ⟨w0,rfl⟩
   ·have il:=(AH.mp hi).1
    have kp:Knot (nums++new) (i+2):=by unfold Knot;lia
    have eg:(nums++new).getD (i+2-2) (0,0,0)=(t,a,b):=by rw[EB,AB,hi,re];rfl
    cases s with
    | nil =>
     rw[Du B.least.ok kp (by lia),eg,Du o kk k2];show led (nums++new) a []=_;rw[Cr okN [] x1];exact la []
    | cons x xs =>
     rw[Br B.least.ok kp (by lia),eg,Br o kk k2,et];show (if x<t then false else if x=t then led (nums++new) b xs else led (nums++new) a (x::xs))=_;rw[Cr okN _ x1,Cr okN _ x2,la,lb];rfl
   ·rw[re] at w0
    have b0:b=0:=w0;rw[re];show led (nums++new) a s=_;rw[Cr okN _ x1,la];have into0:∀s,led rows (intoOf rows k) s=false:=λs=>by rw[<- lb,b0,Ci]
    have offA:∀x xs,x<=t->led rows (outOf rows k) (x::xs)=false:=λx xs h=>by rw[<- la];exact off okN x1 (by lia)
    cases s with
    | nil=>rw[Du o kk k2];rfl
    | cons x xs =>
     rw[Br o kk k2,et];by_cases c1:x<t
     ·rw[if_pos c1];exact offA x xs (by lia)
     ·rw[if_neg c1]
      by_cases c2:x=t
      ·rw[if_pos c2]
       show _=led rows (intoOf rows k) xs;rw[into0];exact offA x xs (by lia)
      ·rw[if_neg c2];rfl
  ·have hp':=old k hk (by lia) p hp
   obtain ⟨p',e1,e2,_⟩:=I.base.has k hk (by lia);rw[hp'] at e1;cases e1;rw[Cr okN s e2];exact I.sem k hk (by lia) p hp' s
 ·rw[UW c o h1 hk ht]
  by_cases e:tieOf rows k=t
  ·rcases at_ k hk e p hp with⟨i,hi,rfl⟩ | h
   ·exact .inl ⟨by lia,hi⟩
   ·exact .inr h
  ·rcases I.img k hk (by lia) p (old k hk (by lia) p hp) with⟨h2,h3⟩ | h
   ·refine .inl ⟨h2,?_⟩
    rw[Bi (AH.mp h3).1];exact h3
   ·exact .inr h
 ·rcases C4 i nums.length with hi | hi
  ·rw[Bi hi] at e
   obtain ⟨k,hk,ht,hp⟩:=I.sur i r e;exact ⟨k,hk,by lia,by rw[h1 k (.inr (by lia))];exact hp⟩
  ·have e':=e
   rw[Cn hi] at e';obtain ⟨k,hk,ht,rfl,w0⟩:=hw r (A8 e');obtain ⟨p,hp,h⟩:=h2 k hk ht;refine ⟨k,hk,by lia,?_⟩;rcases h with⟨j,hj,rfl⟩ | ⟨nm,_⟩
   ·rw[B.least.one i j _ e hj]
    exact hp
   ·exact absurd (A8 e) nm
 ·refine C1.mpr ⟨I.srt,so,λa ha b hb=>.inl ?_⟩
  have:=I.base.ge a ha;obtain ⟨k,_,hk,rfl,_⟩:=hw b hb;show tieOf rows k<a.1;lia
structure Canon(n:Nat)(nums:List Row)(top:Nat):Prop where
 least:Least n nums
 srt:nums.Pairwise RowLt
 knot:Knot nums top
 led:∀p,2<=p->Knot nums p->p=top\/∃r∈nums,r.2.1=p\/r.2.2=p
theorem Kept2.canon(I:Kept2 n 0 rows rc nums pl)(c:Closed rows rc)(o:Ok n rows){top hd:Nat}(ht:top<=1\/top∈rc)(hp:pl top=some hd)(par:∀k∈rc,k=top\/∃k'∈rc,k<k'/\(outOf rows k'=k\/intoOf rows k'=k)) :
  Canon n nums hd/\∀s,led nums hd s=led rows top s:=by
 have key:∀d k p,k∈rc->rows.length+2-k<=d->pl k=some p->2<=p->p=hd\/∃r∈nums,r.2.1=p\/r.2.2=p:=by
  intro d
  induction d with
  | zero =>
   intro k p hk hd' _ _;have:=c.knot k hk;unfold Knot at this;lia
  | succ d ih =>
   intro k p hk hd' hkp p2;rcases par k hk with rfl | ⟨k',hk',lt,ch⟩
   ·rw[hp] at hkp
    exact .inl (BY hkp).symm
   ·obtain ⟨p',hp',_⟩:=I.base.has k' hk' (BH _)
    have im:=I.img k' hk' (BH _) p' hp';rcases ch with e | e
    ·have ep:(rowIn rows pl k').2.1=p:=by
      show (pl (outOf rows k')).getD 0=p;rw[e,hkp];rfl
     rcases im with⟨_,h3⟩ | ⟨_,h4⟩
     ·exact .inr ⟨_,A8 h3,.inl ep⟩
     ·rw[ep] at h4
      subst h4;have:=c.knot k' hk';unfold Knot at this;exact ih k' p' hk' (by lia) hp' p2
    ·have ep:(rowIn rows pl k').2.2=p:=by
      show (pl (intoOf rows k')).getD 0=p;rw[e,hkp];rfl
     rcases im with⟨_,h3⟩ | ⟨h4,_⟩
     ·exact .inr ⟨_,A8 h3,.inr ep⟩
     ·lia
 refine ⟨⟨I.base.least,I.srt,?_,λp p2 kp=>?_⟩,λs=>?_⟩
 ·rcases ht with h | h
  ·have:top=0\/top=1:=by lia
   rcases this with rfl | rfl
   ·rw[I.base.z] at hp;cases hp;unfold Knot;lia
   ·rw[I.base.o] at hp;cases hp;unfold Knot;lia
  ·obtain ⟨p,e,kn,_⟩:=I.base.has top h (BH _)
   rw[hp] at e;cases e;exact kn
 ·obtain ⟨k,hk,_,hkp⟩:=I.sur (p-2) _ (Bj kp p2)
  rw[show p-2+2=p by lia] at hkp;exact key _ k p hk (AF _) hkp p2
 ·rcases ht with h | h
  ·have:top=0\/top=1:=by lia
   rcases this with rfl | rfl
   ·rw[I.base.z] at hp;cases hp;rw[Ci,Ci]
   ·rw[I.base.o] at hp;cases hp;rw[Dy,Dy]
  ·exact I.sem top h (BH _) hd hp s
end
section
variable{n:Nat}{A B:List Row}{a b k k':Nat}
theorem KC(L:Least n A):∀(f k:Nat),k<f->Knot A k->k≠0->∃s,Way n A k s/\(2<=k->∃xs,s=rank n A k::xs)/\(k=1->s=[])
 | 0,k,h,_,_=>by lia
 | f+1,k,h,kn,k0=>by
  rcases C4 k 2 with c | c
  ·have e:k=1:=by lia
   subst e;exact ⟨[],Zk,λz=>by lia,λ_=>rfl⟩
  ·obtain ⟨_,_,h3,_,_,_,k2⟩:=L.ok.low (Bj kn c)
   have w0:=L.pos _ _ (Bj kn c);obtain ⟨s,hs,_⟩:=KC L f _ (by lia) k2 w0;refine ⟨_,YM L kn c hs,λ_=>⟨s,?_⟩,λz=>by lia⟩;unfold rank;rw[if_neg (by lia)]
structure Sim(A B:List Row)(k k':Nat):Prop where
 ka:Knot A k
 kb:Knot B k'
 eq:∀s,led A k s=led B k' s
theorem Sim.symm(S:Sim A B k k'):Sim B A k' k:=⟨S.kb,S.ka,λs=>(S.eq s).symm⟩
theorem Sim.no(LA:Least n A)(LB:Least n B)(S:Sim A B k k'):¬ rank n A k<rank n B k':=λh=>by
 have k0:k≠0:=λe=>by
  subst e;have:rank n B k'<=n+1:=by
   unfold rank;by_cases c:k'<2
   ·rw[if_pos c];lia
   ·rw[if_neg c]
    have:=(LB.ok.low (Bj S.kb (by lia))).1;lia
  have e:rank n A 0=n+1:=by unfold rank;rw[if_pos (by decide)];rfl
  lia
 obtain ⟨s,⟨w1,_,_⟩,s2,s1⟩:=KC LA _ k (G6 _) S.ka k0;rcases C4 k 2 with c | c
 ·have e:k=1:=by lia
  subst e;rw[s1 rfl,S.eq] at w1;have e1:rank n A 1=n:=by unfold rank;rw[if_pos (by decide)];rfl
  have k1:k'=0:=by
   unfold rank at h e1;rw[e1] at h;by_cases c':k'<2
   ·rw[if_pos c'] at h;lia
   ·rw[if_neg c'] at h
    have:=(LB.ok.low (Bj S.kb (by lia))).1;lia
  rw[k1,Ci] at w1;cases w1
 ·obtain ⟨xs,rfl⟩:=s2 c
  rw[S.eq,off LB.ok S.kb h] at w1;cases w1
theorem Sim.rank_eq(LA:Least n A)(LB:Least n B)(S:Sim A B k k'):rank n A k=rank n B k':=by
 have h1:=S.no LA LB;have h2:=S.symm.no LB LA;lia
theorem Gu(L:Least n A)(kn:Knot A k):2<=k↔rank n A k<n:=by
 unfold rank;constructor
 ·intro h
  rw[if_neg (by lia)];exact (L.ok.low (Bj kn h)).1
 ·intro h
  rcases C4 k 2 with c | c
  ·rw[if_pos c] at h;lia
  ·exact c
theorem Sim.small(LA:Least n A)(LB:Least n B)(S:Sim A B k k')(h:k<=1):k=k':=by
 have e:=S.rank_eq LA LB;have z:=Gu LA S.ka;have z':=Gu LB S.kb;have:¬ 2<=k':=λc=>by have:=z'.mp c;rw[<- e] at this;have:=z.mpr this;lia
 unfold rank at e;rw[if_pos (by lia),if_pos (by lia)] at e;lia
theorem Sim.child(LA:Least n A)(LB:Least n B)(S:Sim A B k k')(h:2<=k):2<=k'/\tieOf A k=tieOf B k'/\Sim A B (outOf A k) (outOf B k')/\Sim A B (intoOf A k) (intoOf B k'):=by
 have e:=S.rank_eq LA LB;have k2:2<=k':=(Gu LB S.kb).mpr (by rw[<- e];exact (Gu LA S.ka).mp h);have et:tieOf A k=tieOf B k':=by
  unfold rank at e;rw[if_neg (by lia),if_neg (by lia)] at e;exact e
 obtain ⟨_,_,_,ra,_,ka1,ka2⟩:=LA.ok.low (Bj S.ka h);obtain ⟨_,_,_,rb,_,kb1,kb2⟩:=LB.ok.low (Bj S.kb k2);refine ⟨k2,et,⟨ka1,kb1,λs=>?_⟩,⟨ka2,kb2,λs=>?_⟩⟩
 ·cases s with
  | nil =>
   have:=S.eq [];rw[Du LA.ok S.ka h,Du LB.ok S.kb k2] at this;exact this
  | cons x xs =>
   by_cases c:x<=tieOf A k
   ·rw[show led A (outOf A k) (x::xs)=false from off LA.ok ka1 (by show x<rank n A (A.getD (k-2) (0,0,0)).2.1;unfold tieOf at c;lia),show led B (outOf B k') (x::xs)=false from off LB.ok kb1 (by show x<rank n B (B.getD (k'-2) (0,0,0)).2.1;unfold tieOf at c et;lia)]
   ·have:=S.eq (x::xs)
    rw[Br LA.ok S.ka h,Br LB.ok S.kb k2] at this;unfold tieOf at c et;rw[if_neg (by lia),if_neg (by lia),if_neg (by lia),if_neg (by lia)] at this;exact this
 ·have:=S.eq (tieOf A k::s)
  rw[Br LA.ok S.ka h,Br LB.ok S.kb k2] at this;unfold tieOf at this et;rw[if_neg (by lia),if_pos rfl,if_neg (by lia),if_pos et] at this;exact this
end
def up(s:List Nat):List Int:=s.map λ(x:Nat)=>(x:Int)
theorem YZ:∀{s u:List Nat},up s=up u->s=u
 | [],[],_=>rfl
 | [],_::_,h=>by cases h
 | _::_,[],h=>by cases h
 | x::s,y::u,h=>by
  have h':(x:Int)::up s=(y:Int)::up u:=h;injection h' with h1 h2
  rw[YZ h2,Tx h1]
theorem Vo{n:Nat}{rows nums:List Row}{rc:List Nat}{pl:Nat->Option Nat}(I:Kept2 n 0 rows rc nums pl)(c:Closed rows rc):nums.length<=rows.length:=by
 have ex:∀i,i<nums.length->∃k,k∈rc/\pl k=some (i+2):=λi hi=>by
  obtain ⟨k,hk,_,e⟩:=I.sur i _ (AI hi);exact ⟨k,hk,e⟩
 let g:Nat->Nat:=λi=>if h:i<nums.length then EC (ex i h) else 0
 have hg:∀i,i<nums.length->g i∈rc/\pl (g i)=some (i+2):=λi hi=>by
  have z:=EW (ex i hi);show (if h:i<nums.length then EC (ex i h) else 0)∈rc/\pl (if h:i<nums.length then EC (ex i h) else 0)=some (i+2);rw[dif_pos hi];exact z
 have nd:((AX nums.length).map g).Nodup:=by
  unfold J5;rw[CY];refine DV (λ{a b} ha hb h e=>?_) (FS (n:=nums.length));have h1:=(hg a (A2.mp ha)).2;have h2:=(hg b (A2.mp hb)).2;rw[e,h2] at h1;injection h1 with h1
  lia
 have z:=ST.Bg nd (l₂:=(AX rows.length).map (·+2)) λx hx=>by
  obtain ⟨i,hi,rfl⟩:=BQ.mp hx;have hk:=(hg i (A2.mp hi)).1;have a:=c.two _ hk;have b:g i<rows.length+2:=c.knot _ hk;exact BQ.mpr ⟨g i-2,A2.mpr (by lia),by lia⟩
 rw[AE,AE,CI,CI] at z;exact z
section
variable{n t:Nat}{A rows nums:List Row}{rc:List Nat}{pl:Nat->Option Nat}
theorem Sim.inj(L:Least n A):∀(f k k':Nat),k<f->Sim A A k k'->k=k':=by
 intro f
 induction f with
 | zero=>intro k k' h;lia
 | succ f ih =>
  intro k k' hk S;rcases C4 k 2 with c | c
  ·exact S.small L L (by lia)
  ·obtain ⟨c',et,so,si⟩:=S.child L L c
   have ra:=Bj S.ka c;have rb:=Bj S.kb c';obtain ⟨_,a1,a2,_⟩:=L.ok.low ra;have e1:outOf A k=outOf A k':=ih _ _ (by show (A.getD (k-2) (0,0,0)).2.1<f;lia) so;have e2:intoOf A k=intoOf A k':=ih _ _ (by show (A.getD (k-2) (0,0,0)).2.2<f;lia) si;have er:A.getD (k-2) (0,0,0)=A.getD (k'-2) (0,0,0):=OR et (OR e1 e2);rw[er] at ra;have:=L.one _ _ _ ra rb;lia
theorem Ut(L:Least n A){a b:Nat}(ka:Knot A a)(kb:Knot A b)(h:∀s,led A a s=led A b s):a=b:=Sim.inj L (a+1) a b (G6 _) ⟨ka,kb,h⟩
theorem Xa{P:Nat->Prop}{top:Nat}(pt:P top)(ps:∀k,P k->2<=k->Knot rows k->P (outOf rows k)/\P (intoOf rows k))(c:Closed rows rc)(par:∀k∈rc,k=top\/∃k'∈rc,k<k'/\(outOf rows k'=k\/intoOf rows k'=k)):∀(d k:Nat),rows.length+2-k<=d->k∈rc->P k:=by
 intro d
 induction d with
 | zero=>intro k h hk;have:k<rows.length+2:=c.knot k hk;lia
 | succ d ih =>
  intro k h hk;rcases par k hk with rfl | ⟨k',hk',lt,e⟩
  ·exact pt
  ·have:k<rows.length+2:=c.knot k hk
   have z:=ps k' (ih k' (by lia) hk') (c.two k' hk') (c.knot k' hk');rcases e with rfl | rfl
   ·exact z.1
   ·exact z.2
def lowH(t:Nat):List Nat->Bool
 | []=>false
 | x::_=>decide (x<=t)
end
section
variable{n:Nat}{A rows more:List Row}{m k:Nat}
theorem ABM(rows:List Row)(r:Row):(rows++[r]).getD (rows.length+2-2) (0,0,0)=r:=by
 rw[EB,AB,Cn (by lia),IM];rfl
theorem Yh(rows:List Row)(r:Row):Knot (rows++[r]) (rows.length+2):=by
 unfold Knot;rw[BC,DA];lia
theorem XF{t:Nat}(ks:List Nat)(hk:∀k∈ks,2<=k/\Knot A k/\tieOf A k=t)(nd:ks.Nodup):ks.length<=(A.filter λr=>decide (r.1=t)).length:=by
 have hsub:∀i∈(ks.map (· - 2)),i<A.length/\(A.getD i (0,0,0)).1=t:=λi hi=>by
  obtain ⟨k,hk',rfl⟩:=BQ.mp hi;obtain ⟨k2,kn,ht⟩:=hk k hk';exact ⟨by unfold Knot at kn;lia,ht⟩
 have nd2:(ks.map (· - 2)).Nodup:=by
  unfold J5;rw[CY];refine DV (λ{a b} ha hb h e=>h ?_) nd;have:=(hk a ha).1;have:=(hk b hb).1;lia
 have z:=ST.Bg nd2 (l₂:=(AX A.length).filter λi=>decide ((A.getD i (0,0,0)).1=t)) λi hi=>by
  obtain ⟨h1,h2⟩:=hsub i hi;exact B7.mpr ⟨A2.mpr h1,decide_eq_true h2⟩
 rw[AE] at z;refine BM z (KW ?_);have e:A=(AX A.length).map λi=>A.getD i (0,0,0):=by
  apply EI;intro i;rw[BI];by_cases c:i<A.length
  ·rw[Hm c,AI c]
   simp[AB,c]
  ·rw[C3 (by lia),C3 (by rw[CI];lia)]
   rfl
 conv=>rhs;rw[e,HQ,AE]
 rfl
def behind(rows:List Row)(t:Nat)(ks:List Nat):List Nat:=ks.filter λk=>decide (k<2)||decide (t<tieOf rows k)
end
def addRow(S:List (List (List Nat)))(r:Row):List (List (List Nat)):=S++[S.getD r.2.1 []++(S.getD r.2.2 []).map (r.1::·)]
def setsUp(rows:List Row):List (List (List Nat)):=rows.foldl addRow [[],[[]]]
def setsOf(rows:List Row)(k:Nat):List (List Nat):=(setsUp rows).getD k []
theorem Fl(rows:List Row)(r:Row):setsUp (rows++[r])=addRow (setsUp rows) r:=by unfold setsUp;rw[List.foldl_append];rfl
theorem Cm:∀(rows:List Row),(setsUp rows).length=rows.length+2:=by
 intro rows
 suffices h:∀(l:List Row) (S:List (List (List Nat))),(l.foldl addRow S).length=S.length+l.length by
  unfold setsUp;rw[h];show 2+_=_;lia
 intro l
 induction l with
 | nil=>intro S;simp
 | cons a l ih =>
  intro S;rw[K2,ih];unfold addRow;rw[BC];simp;lia
def num(n:Nat):List Nat->Nat
 | []=>0
 | x::xs=>2 ^ (n-1-x)+num n xs
theorem SM{n:Nat}:∀{s:List Nat}{t:Nat},s.Pairwise (· < ·)->(∀x∈s,t<=x/\x<n)->num n s<2 ^ (n-t)
 | [],t,_,_=>Nat.two_pow_pos _
 | x::xs,t,h,hr=>by
  obtain ⟨h1,h2⟩:=CO.mp h;obtain ⟨x1,x2⟩:=hr x AD;have ih:=SM (t:=x+1) h2 λy hy=>⟨h1 y hy,(hr y (AG _ hy)).2⟩;have e:2 ^ (n-x)=2 ^ (n-1-x)+2 ^ (n-1-x):=by
   rw[show n-x=(n-1-x)+1 by lia,J0];lia
  have le:2 ^ (n-x)<=2 ^ (n-t):=Fm (by decide) (by lia);have e2:n-(x+1)=n-1-x:=by lia
  rw[e2] at ih;show 2 ^ (n-1-x)+num n xs<_;lia
section
variable{n:Nat}{rows:List Row}
structure InOrder(n:Nat)(rows:List Row)(k:Nat)(L:List (List Nat)):Prop where
 mem:∀s,s∈L↔led rows k s=true
 ord:L.Pairwise λs u=>num n s<num n u
 way:∀s∈L,s.Pairwise (· < ·)/\∀x∈s,rank n rows k<=x/\x<n
theorem YF{α:Type}{l m:List α}{k:Nat}{d:α}(h:k<l.length):(l++m).getD k d=l.getD k d:=by
 rw[AB,AB,Bi h]
theorem Ry(o:Ok n rows)(r:Row){k:Nat}(kn:Knot rows k):setsOf (rows++[r]) k=setsOf rows k:=by
 unfold setsOf;rw[Fl];unfold addRow;exact YF (by rw[Cm];exact kn)
theorem Rj(rows:List Row)(r:Row):setsOf (rows++[r]) (rows.length+2)=setsOf rows r.2.1++(setsOf rows r.2.2).map (r.1::·):=by
 unfold setsOf;rw[Fl];unfold addRow;rw[AB,Cn (by rw[Cm];exact AF _),Cm,IM];rfl
theorem InOrder.app(o:Ok n rows){r:Row}{k:Nat}{L:List (List Nat)}(kn:Knot rows k)(I:InOrder n rows k L):InOrder n (rows++[r]) k L :=
 ⟨λs=>by rw[Cr o s kn];exact I.mem s,I.ord,λs hs=>by rw[Jx kn];exact I.way s hs⟩
theorem Hf{r:Row}(o:Ok n (rows++[r])):Ok n rows:=λi q e=>by
 have il:=(AH.mp e).1;obtain ⟨h1,h2,h3⟩:=o i q (by rw[Bi il];exact e);have low:∀l,Low (rows++[r]) q.1 (i+2) l->Low rows q.1 (i+2) l:=λl ⟨a,b⟩=>⟨a,b.imp id λ⟨u,e,z⟩=>⟨u,by rw[Bi (by lia)] at e;exact e,z⟩⟩;exact ⟨h1,low _ h2,low _ h3⟩
theorem Hw:∀(m:Nat) (rows:List Row),rows.length=m->Ok n rows->∀k,Knot rows k->InOrder n rows k (setsOf rows k):=by
 intro m
 induction m with
 | zero =>
  intro rows h o k kn;have e:rows=[]:=DC.mp h;subst e;have:k=0\/k=1:=by unfold Knot at kn;simp at kn;lia
  rcases this with rfl | rfl
  ·refine ⟨λs=>?_,.nil,λs hs=>by cases hs⟩
   rw[Ci];exact ⟨λh=>(by cases h),λh=>(by cases h)⟩
  ·refine ⟨λs=>?_,J7 _ _,λs hs=>?_⟩
   ·rw[Dy,decide_eq_true_iff]
    exact B5
   ·rw[B5.mp hs]
    exact ⟨.nil,λx hx=>by cases hx⟩
 | succ m ih =>
  intro rows h o k kn;have ne:rows≠[]:=λe=>by rw[e] at h;cases h
  obtain ⟨init,r,rfl⟩:∃init r,rows=init++[r]:=⟨rows.dropLast,rows.getLast ne,(List.dropLast_concat_getLast ne).symm⟩;have hl:init.length=m:=by simpa using h
  have oi:=Hf o;have I:=ih init hl oi;by_cases c:k<init.length+2
  ·rw[Ry oi r c]
   exact (I k c).app oi c
  ·have ek:k=init.length+2:=by unfold Knot at kn;simp at kn;lia
   subst ek;have hi:(init++[r])[init.length]?=some r:=by simp
   obtain ⟨t1,l1,l2,r1,r2,_,_⟩:=o.low hi;have kn1:Knot init r.2.1:=l1;have kn2:Knot init r.2.2:=l2;have I1:=(I _ kn1).app (r:=r) oi kn1;have I2:=(I _ kn2).app (r:=r) oi kn2;have eg:(init++[r]).getD (init.length+2-2) (0,0,0)=r:=by rw[EB,AB,hi];rfl
   have rk:rank n (init++[r]) (init.length+2)=r.1:=by unfold rank;rw[if_neg (by lia),eg]
   rw[Rj];refine ⟨λs=>?_,?_,λs hs=>?_⟩
   ·rw[CD,BQ]
    cases s with
    | nil =>
     rw[Du o kn (by lia),eg,I1.mem];exact ⟨λh=>h.elim id λ⟨u,_,e⟩=>(by cases e),.inl⟩
    | cons x xs =>
     rw[Br o kn (by lia),eg,I1.mem];by_cases c1:x<r.1
     ·rw[if_pos c1]
      refine ⟨λh=>?_,λh=>by cases h⟩;rcases h with h | ⟨u,_,e⟩
      ·rw[off o (Fz kn1) (by lia)] at h;exact h
      ·injection e with e _;lia
     ·rw[if_neg c1]
      by_cases c2:x=r.1
      ·rw[if_pos c2]
       subst c2;refine ⟨λh=>?_,λh=>.inr ⟨xs,(I2.mem xs).mpr h,rfl⟩⟩;rcases h with h | ⟨u,hu,e⟩
       ·rw[off o (Fz kn1) (by lia)] at h;cases h
       ·injection e with _ e
        rw[<- e];exact (I2.mem u).mp hu
      ·rw[if_neg c2]
       refine ⟨λh=>h.elim id λ⟨u,_,e⟩=>(by injection e with e _;lia),.inl⟩
   ·refine C1.mpr ⟨I1.ord,?_,λs hs u hu=>?_⟩
    ·rw[CY]
     exact I2.ord.imp λ{a b} h=>by show 2 ^ _+_<2 ^ _+_;lia
    ·obtain ⟨v,hv,rfl⟩:=BQ.mp hu
     obtain ⟨w1,w2⟩:=I1.way s hs;have:=SM (n:=n) (t:=r.1+1) w1 λx hx=>⟨by have:=(w2 x hx).1;lia,(w2 x hx).2⟩;rw[show n-(r.1+1)=n-1-r.1 by lia] at this;show _<2 ^ (n-1-r.1)+_;lia
   ·rw[rk]
    rcases CD.mp hs with hs | hs
    ·obtain ⟨w1,w2⟩:=I1.way s hs
     exact ⟨w1,λx hx=>⟨by have:=(w2 x hx).1;lia,(w2 x hx).2⟩⟩
    ·obtain ⟨v,hv,rfl⟩:=BQ.mp hs
     obtain ⟨w1,w2⟩:=I2.way v hv;refine ⟨.cons (λx hx=>by have:=(w2 x hx).1;lia) w1,λx hx=>?_⟩;rcases Bz.mp hx with rfl | hx
     ·exact ⟨AF _,t1⟩
     ·exact ⟨by have:=(w2 x hx).1;lia,(w2 x hx).2⟩
end
abbrev Sta:=List Int
section
variable (lef tak pas:Nat->Sta->Option Sta)(ful:Sta->Bool)
def stepS(t:Nat)(g:Option Sta->List Nat->Bool)(st:Sta):List Nat->Bool
 | []=>g (lef t st) []
 | x::xs=>if x<t then false else if x=t then g (tak t st) xs else g (lef t st) (x::xs)
def semG:Nat->Nat->Option Sta->List Nat->Bool
 | _,_,none,_=>false
 | 0,t,some r,s=>match pas t r with
  | none=>false
  | some st=>ful st&&decide (s=[])
 | d+1,t,some r,s=>match pas t r with
  | none=>false
  | some st=>stepS lef tak t (semG d (t+1)) st s
end
section
variable{n t k kl kr:Nat}{rows more:List Row}{f:List Nat->Bool}
structure Lead(rows:List Row)(t k:Nat)(f:List Nat->Bool):Prop where
 kn:Knot rows k
 up:k<=1\/t<=tieOf rows k
 eq:∀s,led rows k s=f s
theorem Lead.app(o:Ok n rows)(h:Lead rows t k f):Lead (rows++more) t k f:=by
 refine ⟨Fz h.kn,?_,λs=>by rw[Cr o s h.kn,h.eq]⟩;rcases C4 1 k with c | c
 ·rw[AAV h.kn c];exact h.up
 ·exact .inl c
theorem Wo(h:∀s,f s=false):Lead rows t 0 f:=⟨by unfold Knot;lia,.inl (by lia),λs=>by rw[Ci,h]⟩
theorem Yk(h:∀s,f s=decide (s=[])):Lead rows t 1 f:=⟨by unfold Knot;lia,.inl (by lia),λs=>by rw[Dy,h]⟩
theorem ZK{lef tak:Nat->Sta->Option Sta}{g:Option Sta->List Nat->Bool}{st:Sta}(o:Ok n rows)(tn:t<n)(hl:Lead rows (t+1) kl (g (lef t st)))(hr:Lead rows (t+1) kr (g (tak t st))) :
  Ok n (rows++[(t,kl,kr)])/\Lead (rows++[(t,kl,kr)]) t (rows.length+2) (stepS lef tak t g st):=by
 have o2:Ok n (rows++[(t,kl,kr)]):=ABn o tn (Qg hl.kn hl.up) (Qg hr.kn hr.up);have e:=ABM rows (t,kl,kr);have kn:=Yh rows (t,kl,kr);refine ⟨o2,kn,.inr ?_,λs=>?_⟩
 ·unfold tieOf
  rw[e];exact AF _
 ·cases s with
  | nil =>
   rw[Du o2 kn (by lia),e,Cr o _ hl.kn,hl.eq];rfl
  | cons x xs =>
   rw[Br o2 kn (by lia),e,Cr o _ hl.kn,Cr o _ hr.kn,hl.eq,hr.eq];rfl
def Cnt(t:Nat)(more:List Row):Prop:=∀j,(more.filter λr=>decide (r.1=j)).length<=if j<t then 0 else 2 ^ (j-t)
theorem cnt_nil:Cnt t []:=λj=>BH _
theorem Xx{m1 m2:List Row}(h1:Cnt (t+1) m1)(h2:Cnt (t+1) m2):Cnt t (m1++m2++[(t,kl,kr)]):=λj=>by
 have a:=h1 j;have b:=h2 j;rw[Cs,Cs,BC,BC];rcases Mn j t with c | c | c
 ·rw[if_pos (by lia)] at a b
  rw[if_pos c,J8 (by simp;lia)];show _+_+0<=0;lia
 ·subst c
  rw[if_pos (by lia)] at a b;rw[if_neg (by lia),IM,Na (by simp)];show _+_+1<=1;lia
 ·rw[if_neg (by lia)] at a b
  rw[if_neg (by lia),J8 (by simp;lia)];have e:2 ^ (j-t)=2 ^ (j-(t+1))+2 ^ (j-(t+1)):=by
   rw[show j-t=(j-(t+1))+1 by lia,J0];lia
  show _+_+0<=_;lia
end
section
variable (on:Nat->Nat->Bool)(L:Nat->Nat)(z n:Nat)
def tkC(t:Nat)(st:Sta):Sta:=(AX st.length).map λp=>if on p t=true then min (st.getD p 0+1) 2 else st.getD p 0
def lefC(_:Nat)(st:Sta):Option Sta:=some st
end
theorem HY(l:Sta)(p q:Nat)(h:q≠p):(l.set p 0).getD q 0=l.getD q 0:=by
 rw[AB,AB,IP (C6 h)]
section
variable{on:Nat->Nat->Bool}{L:Nat->Nat}{z n:Nat}
theorem Jb{t p:Nat}{st:Sta}(h:p<st.length):(tkC on t st).getD p 0=if on p t=true then min (st.getD p 0+1) 2 else st.getD p 0:=by
 unfold tkC;rw[AB,BI,Hm h];rfl
theorem Hx{t:Nat}{st:Sta}:(tkC on t st).length=st.length:=by unfold tkC;rw[AE,CI]
end
section
variable (al:Int->Bool)(on:Nat->Nat->Bool)(L:Nat->Nat)(z n:Nat)
def passT:Sta->List Nat->Option Sta
 | st,[]=>some st
 | st,p::ps=>if al (st.getD p 0)=true then passT (st.set p 0) ps else none
def pasT(t:Nat)(st:Sta):Option Sta:=passT al st ((AX z).filter λp=>decide (L p=t))
def takT(t:Nat)(st:Sta):Option Sta:=if (2:Int)∈tkC on t st/\al 2=false then none else some (tkC on t st)
def cntS(p:Nat)(s:List Nat):Nat:=(s.filter λx=>on p x).length
def Tied(t:Nat)(r:Sta)(s:List Nat):Prop:=s.Pairwise (· < ·)/\(∀x∈s,t<=x/\x<n)/\∀p,p<z->t<=L p->al (min (r.getD p 0+(cntS on p s:Nat)) 2)=true
end
section
variable{al:Int->Bool}
theorem Gg:∀(ps:List Nat) (st st':Sta),ps.Nodup->passT al st ps=some st'->(∀p∈ps,al (st.getD p 0)=true)/\st'.length=st.length/\(∀q,q∉ps->st'.getD q 0=st.getD q 0)/\∀q,(st'.getD q 0=st.getD q 0\/st'.getD q 0=0)
 | [],st,st',_,h=>by cases h;exact ⟨λp hp=>(nomatch hp),rfl,λq _=>rfl,λq=>.inl rfl⟩
 | p::ps,st,st',nd,h=>by
  unfold passT at h;by_cases c:al (st.getD p 0)=true
  ·rw[if_pos c] at h
   obtain ⟨np,nd'⟩:=C7.mp nd;obtain ⟨h1,h2,h3,h4⟩:=Gg ps _ _ nd' h;refine ⟨λq hq=>?_,by rw[h2,K7],λq hq=>?_,λq=>?_⟩
   ·rcases Bz.mp hq with rfl | hq
    ·exact c
    ·have:=h1 q hq
     rwa [HY _ _ _ (λe=>np (by rw[<- e];exact hq))] at this
   ·rw[h3 q (λe=>hq (AG _ e)),HY _ _ _ (λe=>hq (by rw[e];exact AD ..))]
   ·rcases h4 q with e | e
    ·by_cases cq:q=p
     ·subst cq
      by_cases l:q<st.length
      ·right
       rw[e,AB,HV l];rfl
      ·left
       rw[e,AB,AB,C3 (by rw[K7];lia),C3 (by lia)]
     ·left
      rw[e,HY _ _ _ cq]
    ·exact .inr e
  ·rw[if_neg c] at h
   cases h
theorem passT_none:∀(ps:List Nat) (st:Sta),ps.Nodup->passT al st ps=none->∃p∈ps,al (st.getD p 0)=false
 | [],st,_,h=>by cases h
 | p::ps,st,nd,h=>by
  unfold passT at h;by_cases c:al (st.getD p 0)=true
  ·rw[if_pos c] at h
   obtain ⟨np,nd'⟩:=C7.mp nd;obtain ⟨q,hq,hn⟩:=passT_none ps _ nd' h;rw[HY _ _ _ (λe=>np (by rw[<- e];exact hq))] at hn;exact ⟨q,AG _ hq,hn⟩
  ·exact ⟨p,AD ..,by cases e:al (st.getD p 0) with | true=>exact absurd e c | false=>rfl⟩
end
section
variable{al:Int->Bool}{on:Nat->Nat->Bool}{L:Nat->Nat}{z n:Nat}
theorem Oz{p:Nat}:∀{s:List Nat},(∀x∈s,on p x=false)->cntS on p s=0
 | s,h=>by
  unfold cntS;rw[DC,FV];intro x hx;rw[h x hx];decide
theorem cnt_cons(p x:Nat)(s:List Nat):cntS on p (x::s)=(if on p x=true then 1 else 0)+cntS on p s:=by
 unfold cntS;rw[B0];split
 ·rw[DI];lia
 ·lia
def Sml(al:Int->Bool)(r:Sta):Prop:=(∀p,0<=r.getD p 0/\r.getD p 0<=2)/\(al 2=false->∀p,r.getD p 0<=1)
theorem Uq{t p:Nat}{st:Sta}(h:¬ p<st.length):(tkC on t st).getD p 0=0:=by
 rw[AB,C3 (by rw[Hx];lia)];rfl
theorem Sml.take{t:Nat}{st:Sta}(h:Sml al st)(hn:¬ ((2:Int)∈tkC on t st/\al 2=false)):Sml al (tkC on t st):=by
 have b:∀p,0<=(tkC on t st).getD p 0/\(tkC on t st).getD p 0<=2:=λp=>by
  by_cases c:p<st.length
  ·rw[Jb c]
   have:=h.1 p;split<;>lia
  ·rw[Uq c];lia
 refine ⟨b,λa p=>?_⟩;have hb:=b p;by_cases c:p<st.length
 ·have ne:(tkC on t st).getD p 0≠2:=λe=>hn ⟨by
   have pl:p<(tkC on t st).length:=by rw[Hx];exact c
   rw[AB,AI pl] at e;have e':(tkC on t st)[p]=2:=e;rw[<- e'];exact FR pl,a⟩
  lia
 ·rw[Uq c];decide
theorem YL(hL:∀p x,p<z->x<n->on p x=true->x<L p)(hn:∀p,p<z->L p<=n):∀(d t:Nat) (r:Sta) (s:List Nat),t+d=n->r.length=z->Sml al r ->
  (semG lefC (takT al on) (pasT al L z) (λ_=>true) d t (some r) s=true↔Tied al on L z n t r s):=by
 have small:∀{c:Int},0<=c->c<=2->min (c+((0:Nat):Int)) 2=c:=λ{c} a b=>by lia
 intro d
 induction d with
 | zero =>
  intro t r s tn rl r0;obtain rfl:t=n:=by lia
  have nil:∀{s:List Nat},(∀x∈s,t<=x/\x<t)->s=[]:=λ{s} h=>by
   cases s with
   | nil=>rfl
   | cons x xs=>have:=h x (AD ..);lia
  have nd:((AX z).filter λp=>decide (L p=t)).Nodup:=FS.filter _;show (match pasT al L z t r with | none=>false | some st=>true&&decide (s=[]))=true↔_;cases e:pasT al L z t r with
  | none =>
   obtain ⟨p,hp,hb⟩:=passT_none _ _ nd e;obtain ⟨h1,h2⟩:=B7.mp hp;refine ⟨λh=>(by cases h),λ⟨_,h,c⟩=>?_⟩;have:=nil h;subst this;have c':=c p (A2.mp h1) (KW (of_decide_eq_true h2).symm);rw[Oz (s:=[]) (λx hx=>(by cases hx)),small (r0.1 p).1 (r0.1 p).2,hb] at c';cases c'
  | some st =>
   obtain ⟨h1,_⟩:=Gg _ _ _ nd e;dsimp only;rw[TB,decide_eq_true_iff];constructor
   ·rintro rfl
    refine ⟨.nil,λx hx=>(nomatch hx),λp hp hl=>?_⟩;rw[Oz (s:=[]) (λx hx=>(by cases hx)),small (r0.1 p).1 (r0.1 p).2];refine h1 p (B7.mpr ⟨A2.mpr hp,decide_eq_true ?_⟩);have:=hn p hp;lia
   ·exact λ⟨_,h,_⟩=>nil h
 | succ d ih =>
  intro t r s tn rl r0;have nd:((AX z).filter λp=>decide (L p=t)).Nodup:=FS.filter _;have off:∀{p:Nat}{s:List Nat},p<z->L p=t->(∀x∈s,t<=x/\x<n)->cntS on p s=0:=λ{p s} hp e h=>Oz λx hx=>by
   cases ho:on p x with
   | false=>rfl
   | true =>
    have:=hL p x hp (h x hx).2 ho;have:=(h x hx).1;lia
  show (match pasT al L z t r with | none=>false | some st=>stepS lefC (takT al on) t (semG lefC (takT al on) (pasT al L z) (λ_=>true) d (t+1)) st s)=true↔_;cases e:pasT al L z t r with
  | none =>
   obtain ⟨p,hp,hb⟩:=passT_none _ _ nd e;obtain ⟨h1,h2⟩:=B7.mp hp;refine ⟨λh=>(by cases h),λ⟨_,h,c⟩=>?_⟩;have e2:L p=t:=of_decide_eq_true h2;have c':=c p (A2.mp h1) (KW e2.symm);rw[off (A2.mp h1) e2 h,small (r0.1 p).1 (r0.1 p).2,hb] at c';cases c'
  | some st =>
   obtain ⟨h1,h2,h3,h4⟩:=Gg _ _ _ nd e;have sl:st.length=z:=by rw[h2,rl]
   have s0:Sml al st:=⟨λp=>by
    rcases h4 p with e | e
    ·rw[e];exact r0.1 p
    ·rw[e];decide,λa p=>by
    rcases h4 p with e | e
    ·rw[e];exact r0.2 a p
    ·rw[e];decide⟩
   dsimp only;have key:Tied al on L z n t r s↔(s.Pairwise (· < ·)/\(∀x∈s,t<=x/\x<n)/\∀p,p<z->t+1<=L p->al (min (st.getD p 0+(cntS on p s:Nat)) 2)=true):=by
    constructor
    ·rintro⟨a,b,c⟩
     refine ⟨a,b,λp hp hl=>?_⟩;rw[h3 p (λhm=>by have:=of_decide_eq_true (B7.mp hm).2;lia)];exact c p hp (by lia)
    ·rintro⟨a,b,c⟩
     refine ⟨a,b,λp hp hl=>?_⟩;by_cases lt:L p=t
     ·rw[off hp lt b,small (r0.1 p).1 (r0.1 p).2]
      exact h1 p (B7.mpr ⟨A2.mpr hp,decide_eq_true lt⟩)
     ·have:=c p hp (by lia)
      rwa [h3 p (λhm=>lt (of_decide_eq_true (B7.mp hm).2))] at this
   rw[key];cases s with
   | nil =>
    show semG lefC (takT al on) (pasT al L z) (λ_=>true) d (t+1) (some st) []=true↔_;rw[ih (t+1) st [] (by lia) sl s0];exact ⟨λ⟨a,b,c⟩=>⟨a,λx hx=>(nomatch hx),c⟩,λ⟨a,b,c⟩=>⟨a,λx hx=>(nomatch hx),c⟩⟩
   | cons x xs =>
    show (if x<t then false else if x=t then semG lefC (takT al on) (pasT al L z) (λ_=>true) d (t+1) (takT al on t st) xs else semG lefC (takT al on) (pasT al L z) (λ_=>true) d (t+1) (some st) (x::xs))=true↔_;by_cases c1:x<t
    ·rw[if_pos c1]
     exact ⟨λh=>(by cases h),λ⟨_,b,_⟩=>by have:=b x (AD ..);lia⟩
    rw[if_neg c1];by_cases c2:x=t
    ·subst c2
     rw[if_pos rfl];by_cases dead:(2:Int)∈tkC on x st/\al 2=false
     ·have e0:takT al on x st=none:=by unfold takT;rw[if_pos dead]
      rw[e0];refine ⟨λh=>(by cases d<;>cases h),λ⟨a,b,c⟩=>?_⟩;obtain ⟨p,hp,e⟩:=CA.mp dead.1;have pl:p<st.length:=by rw[Hx] at hp;exact hp
      have g:=Jb (on:=on) (t:=x) pl;rw[AB,AI hp] at g;have g':(tkC on x st)[p]=if on p x=true then min (st.getD p 0+1) 2 else st.getD p 0:=g
      rw[e] at g';have b1:=s0.2 dead.2 p;have ho:on p x=true:=by
       cases q:on p x with
       | true=>rfl
       | false=>rw[q,if_neg (by decide)] at g';lia
      rw[if_pos ho] at g';have pz:p<z:=by lia
      have lx:=hL p x pz (b x (AD ..)).2 ho;have c':=c p pz (by lia);rw[cnt_cons,if_pos ho] at c';have e2:min (st.getD p 0+((1+cntS on p xs:Nat):Int)) 2=2:=by lia
      rw[e2,dead.2] at c';cases c'
     ·have e0:takT al on x st=some (tkC on x st):=by unfold takT;rw[if_neg dead]
      rw[e0,ih (x+1) (tkC on x st) xs (by lia) (by rw[Hx,sl]) (s0.take dead)];have mm:∀p,p<z->min ((tkC on x st).getD p 0+((cntS on p xs:Nat):Int)) 2=min (st.getD p 0+((cntS on p (x::xs):Nat):Int)) 2:=λp hp=>by
       rw[Jb (by lia),cnt_cons];have:=s0.1 p;split<;>lia
      constructor
      ·rintro⟨a,b,c⟩
       refine ⟨CO.mpr ⟨λy hy=>by have:=(b y hy).1;lia,a⟩,λy hy=>?_,λp hp hl=>?_⟩
       ·rcases Bz.mp hy with rfl | hy
        ·lia
        ·have:=b y hy;lia
       ·rw[<- mm p hp]
        exact c p hp hl
      ·rintro⟨a,b,c⟩
       obtain ⟨a1,a2⟩:=CO.mp a;refine ⟨a2,λy hy=>⟨a1 y hy,(b y (AG _ hy)).2⟩,λp hp hl=>?_⟩;rw[mm p hp];exact c p hp hl
    ·rw[if_neg c2,ih (t+1) st (x::xs) (by lia) sl s0]
     constructor
     ·rintro⟨a,b,c⟩
      exact ⟨a,λy hy=>by have:=b y hy;lia,c⟩
     ·rintro⟨a,b,c⟩
      refine ⟨a,λy hy=>?_,c⟩;rcases Bz.mp hy with rfl | hy
      ·have:=b y (AD ..);lia
      ·have:=(CO.mp a).1 y hy
       have:=b y (AG _ hy);lia
end
end G
end
section
namespace K54
open PySem L2 G
structure Ru where
 rf:List (Str×V)
 al:Int->Bool
structure Rul(u:Ru)(K:Au)(mg:Str->Option Ap)(D:Addr):Prop where
 cl:Cls K D
 no:∀{m:Str},¬ m = "full"->u.rf.lookup m=none
 sev:∃t,mg "SEVERAL" = some (.int 2 t)
def pf(fu:Bool):List (Str×V):=putF "full" (.bl fu) []
def alP(fu:Bool)(c:Int):Bool:=decide (c=1)||(decide (c=0) && !fu)
def uP(fu:Bool):Ru:=⟨pf fu,alP fu⟩
theorem ADP{fu:Bool}{m:Str}(h:¬ m = "full"):(pf fu).lookup m=none:=by
 unfold pf;rw[Ag,if_neg h];rfl
theorem AAv{fu:Bool}:(pf fu).lookup ("full" : Str)=some (.bl fu):=by
 unfold pf;rw[Ag,if_pos rfl]
def Jy(u:Ru)(D:Addr):Sp:=λvs H Q _=>∃(p dx:Addr) (c:Int),vs=[.ref p,.int c]/\H p=some (.ins D dx u.rf)/\Q (.bl (u.al c)) H
section
variable{P:AL}{w:AQ}{K:Au}{mg:Str->Option Ap}{base:Heap}{f C D R:Addr}{fd:BV}
theorem Xv:FnScope ["self","count"] ["self","count"] (Ac GX):=⟨rfl,rfl,rfl,by decide +kernel,rfl,by decide +kernel,by decide +kernel⟩
theorem XJ{fu:Bool}(F:Fun K "allows" "Pairs.allows" GX f fd)(cl:Cls K D)(nF:NoAttr K D "full"):FnOk P w K mg base CX0 1 f fd ["self","count"] (Jy (uP fu) D):=by
 refine F.ok Xv (λvs H Q E h=>?_) (λcdv A outer s H vs Q E hr h=>?_)
 ·obtain ⟨p,dx,c,rfl,_⟩:=h
  rfl
 obtain ⟨p,dx,c,rfl,hp,q⟩:=h;refine ⟨_,Aj (Ay (ACs (Ds Fx (pv 1) Ai (nomark _)) (Rp (ZD (Ds Fx (pv 1) Ai (nomark _)) (Rp (ABm (Bd (pv 0) rfl))))))),?_⟩;refine ⟨_,rfl,rfl,_,rfl,?_⟩;by_cases c1:c=1
 ·refine iteP (by rw[c1]) ?_
  have e:(uP fu).al c=true:=by show (decide (c=1)||_)=true;rw[decide_eq_true c1];rfl
  rw[e] at q;exact q
 ·refine iteN (λz=>c1 (by injection z)) ?_
  refine ⟨_,rfl,rfl,_,rfl,?_⟩;by_cases c0:c=0
  ·refine iteP (by rw[c0]) ?_
   have e:(uP fu).al c=!fu:=by show (decide (c=1)||(decide (c=0) && !fu))=!fu;rw[decide_eq_false c1,decide_eq_true c0];rfl
   rw[e] at q;exact ⟨_,rfl,p,D,dx,_,_,rfl,hp,cl,nF,AAv,_,rfl,q⟩
  ·have e:(uP fu).al c=false:=by show (decide (c=1)||(decide (c=0) && !fu))=false;rw[decide_eq_false c1,decide_eq_false c0];rfl
   rw[e] at q;exact iteN (λz=>c0 (by injection z)) q
def Ue(D:Addr):Sp:=λvs H Q _=>∃(r dx:Addr) (fu:Bool),vs=[.ref r,.bl fu]/\H r=some (.ins D dx [])/\Q .non (upd H r (.ins D dx (pf fu)))
theorem Zn:FnScope ["self","full"] ["self","full"] (Ac Ib):=⟨rfl,rfl,rfl,by decide +kernel,rfl,by decide +kernel,by decide +kernel⟩
end
variable{u:Ru}
def onB(bs:List (List Int))(p x:Nat):Bool:=decide ((p:Int)∈bs.getD x [])
def StAt(H:Hp)(b:Addr)(st:Sta):Prop:=H b=some (.tup (st.map V.int))
def RS(z:Nat)(H:Hp)(v:V):Option Sta->Prop
 | none=>v=.non
 | some st=>∃b,v=.ref b/\StAt H b st/\st.length=z
def Ug(K:Au)(C D:Addr):Sp:=λvs H Q _=>∃(r p:Addr) (z:Nat) (bs:List (List Int)),vs=[.ref r,.ref p]/\WebAt K C H p z bs/\1<=z/\z<=10/\∀(b:Addr) (H':Hp),Same H H'->StAt H' b (B4 z 0)->Q (.ref b) H'
def UJ:Sp:=λvs H Q _=>∃(r p b x:V),vs=[r,p,b,x]/\Q b H
def Xu:Sp:=λvs H Q _=>∃(r p b:V),vs=[r,p,b]/\Q (.bl true) H
def Pq(u:Ru)(D:Addr):Sp:=λvs H Q _=>∃(r p:V) (b dx:Addr) (a:Addr) (q:Nat) (st:Sta),vs=[.ref a,p,.ref b,.int q]/\H a=some (.ins D dx u.rf)/\StAt H b st/\q<st.length/\st.length<=10 /\
 (u.al (st.getD q 0)=true->∀(b':Addr) (H':Hp),Same H H'->StAt H' b' (st.set q 0)->Q (.ref b') H')/\(¬ u.al (st.getD q 0)=true->∀H',Same H H'->Q .non H')
def PX(u:Ru)(K:Au)(C D:Addr):Sp:=λvs H Q _=>∃(a p b dx:Addr) (t z:Nat) (bs:List (List Int)) (st:Sta),vs=[.ref a,.ref p,.ref b,.int t]/\H a=some (.ins D dx u.rf)/\WebAt K C H p z bs/\StAt H b st/\t<bs.length/\st.length<=10 /\
 st.length=z/\∀(v':V) (H':Hp),Same H H'->RS z H' v' (takT u.al (onB bs) t st)->Q v' H'
section
variable{P:AL}{w:AQ}{K:Au}{mg:Str->Option Ap}{base:Heap}{f C D:Addr}{fd:BV}
theorem AAn:FnScope ["self","web"] ["self","web"] (Ac Ij):=⟨rfl,rfl,rfl,by decide +kernel,rfl,by decide +kernel,by decide +kernel⟩
theorem Yi{fS:Addr}{fdS:BV}(F:Fun K "begun" "TiedPoints.begun" Ij f fd)(T:Txt K mg C)(GS:FnOk P w K mg base CX0 1 fS fdS ["self"] (Sy K C))(bS:Binds K fdS ["self"] [])(mS:Meth K C "size" fS) :
  FnOk P w K mg base CX0 2 f fd ["self","web"] (Ug K C D):=by
 refine F.ok AAn (λvs H Q E h=>?_) (λcdv A outer s H vs Q E hr h=>?_)
 ·obtain ⟨r,p,z,bs,rfl,_⟩:=h
  rfl
 obtain ⟨r,p,z,bs,rfl,hW,z1,z10,q⟩:=h;obtain ⟨dx,j,hp,_⟩:=id hW;refine ⟨_,Aj (Ay (Ar Zm (Cd (Aa Ai Af)) (Ek (pv 1) T.cl mS GS hr bS .nil pass0))),?_⟩;refine ⟨(by show 1<=sizeLine;decide),λt ht=>?_⟩;have s1:=Same.new ht (.tup [.int 0]);refine ⟨_,rfl,p,dx,_,rfl,s1 _ _ hp,Dv _ _ (by decide +kernel) (by decide +kernel),p,z,bs,rfl,hW.same s1,t,z,[.int 0],rfl,rfl,Ab,by lia,by lia,by simp,by decide,λe=>?_,λe b hb=>?_⟩
 ·have:z=1:=by lia
  subst this;exact q t _ s1 Ab
 ·have eq:(B4 (z:Int).toNat [V.int 0]).flatten=(B4 z (0:Int)).map V.int:=by
   rw[DO,List.map_replicate];generalize z=m
   induction m with
   | zero=>rfl
   | succ m ih=>rw[EM,EM,IA,ih];rfl
  rw[eq];exact q b _ (s1.trans (Same.new hb _)) Ab
theorem ACG:FnScope ["self","web","state","number"] ["self","web","state","number"] (Ac NQ):=⟨rfl,rfl,rfl,by decide +kernel,rfl,by decide +kernel,by decide +kernel⟩
theorem AAe(F:Fun K "left" "Rule.left" NQ f fd):FnOk P w K mg base CX0 1 f fd ["self","web","state","number"] UJ:=by
 refine F.ok ACG (λvs H Q E h=>?_) (λcdv A outer s H vs Q E hr h=>?_)
 ·obtain ⟨r,p,b,x,rfl,_⟩:=h
  rfl
 obtain ⟨r,p,b,x,rfl,q⟩:=h;exact ⟨_,Aj (Ay (pv 2)),⟨_,rfl,q⟩⟩
theorem ACu:FnScope ["self","web","state"] ["self","web","state"] (Ac Vf):=⟨rfl,rfl,rfl,by decide +kernel,rfl,by decide +kernel,by decide +kernel⟩
theorem ACI(F:Fun K "fulfilled" "TiedPoints.fulfilled" Vf f fd):FnOk P w K mg base CX0 1 f fd ["self","web","state"] Xu:=by
 refine F.ok ACu (λvs H Q E h=>?_) (λcdv A outer s H vs Q E hr h=>?_)
 ·obtain ⟨r,p,b,rfl,_⟩:=h
  rfl
 obtain ⟨r,p,b,rfl,q⟩:=h;exact ⟨_,Aj (Ay Ez),q⟩
theorem YG:FnScope ["self","web","state","point"] ["self","web","state","point"] (Ac Et):=⟨rfl,rfl,rfl,by decide +kernel,rfl,by decide +kernel,by decide +kernel⟩
theorem Vh{fA:Addr}{fdA:BV}(F:Fun K "passed" "TiedPoints.passed" Et f fd)(T:Txt K mg C)(U:Rul u K mg D)(GA:FnOk P w K mg base CX0 1 fA fdA ["self","count"] (Jy u D))(bA:Binds K fdA ["self","count"] [])(mA:Meth K D "allows" fA) :
  FnOk P w K mg base CX0 2 f fd ["self","web","state","point"] (Pq u D):=by
 refine F.ok YG (λvs H Q E h=>?_) (λcdv A outer s H vs Q E hr h=>?_)
 ·obtain ⟨r,p,b,dx,a,q,st,rfl,_⟩:=h
  rfl
 obtain ⟨r,p,b,dx,a,q,st,rfl,ha,hb,ql,s10,q1,q2⟩:=h;refine ⟨_,Ah (CQ (Ka (CV (pv 0) U.cl mA GA hr bA .nil pass0 (Aa (Bl Eb (pv 2) (pv 3) (λ_ _=>rfl)) Af)))
   (Aj (Ay (Bt CP rfl T.tuple EG (Aa (Ca (Ac Et) ["other","count"] ["point"] [3] rfl rfl (by decide +kernel) ⟨⟨rfl,by decide +kernel⟩,trivial⟩ (Jz rfl T.enum (Aa (pv 2) Af))
    (λ_ _ _=>HJ (K:=K) (n:=2) rfl rfl (Bo (Aq (i:=0) (show ((["other","count"]:List Str)++(["point"]:List Str)).Nodup by decide +kernel) rfl (B3 rfl)) (Bo (Aq (i:=1) (show ((["other","count"]:List Str)++(["point"]:List Str)).Nodup by decide +kernel) rfl (B3 rfl)) Eu)))
    (λ_ _ _=>FW)
    (λ_ _ _=>HW (Aw Fx (pv 0) (pv 2) (nomark _)) Ai (pv 1))) Af)))) Bc)
  (Aj (Ay Xl)),?_⟩
 have hc:atI (st.map V.int) (q:Int)=some (.int (st.getD q 0)):=Dd (by rw[BI,AB,AI ql];rfl);refine ⟨_,rfl,a,dx,_,rfl,ha,U.no (by decide +kernel),_,rfl,_,rfl,b,_,_,_,rfl,rfl,SqT.of hb,hc,a,dx,_,rfl,ha,_,rfl,?_⟩;refine ite2 (λc=>?_) (λc=>?_)
 ·have c':u.al (st.getD q 0)=true:=c
  refine ⟨_,rfl,b,rfl,⟨_,SqT.of hb⟩,λZ hZ=>?_⟩;refine Gk (xs:=st.map V.int) (λi τ H2=>∃n t:Option V,τ=[n,t,some (.int q)]/\Same H H2/\H2 Z=some (.lst (((st.set q 0).take i).map V.int))) ⟨none,none,rfl,Same.new hZ _,Ab⟩ (λi τ H2 _ ⟨_,_,_,sm,_⟩=>sm.ts.seq (SqT.of hb)) ?_ ?_
  ·rintro i y τ H2 T1 hy hT1 ⟨n,t,rfl,sm,eZ⟩
   obtain ⟨v,hv,rfl⟩:∃v,st[i]?=some v/\y=.int v:=by
    rw[BI] at hy;cases g:st[i]? with
    | none=>rw[g] at hy;cases hy
    | some v=>rw[g] at hy;cases hy;exact ⟨v,rfl,rfl⟩
   have il:=(AH.mp hv).1;have s1:Same H2 (upd H2 T1 (.tup [.int i,.int v])):=Same.new hT1 _;refine ⟨T1,_,rfl,SqT.of Ab,rfl,_,_,rfl,_,_,rfl,rfl,yesD ?_⟩;have fin:∀u:Int,(st.set q 0)[i]?=some u->∃n t:Option V,[some (.int (i:Int)),some (.int v),some (.int (q:Int))]=[n,t,some (V.int q)]/\Same H (upd (upd H2 T1 (.tup [.int i,.int v])) Z (.lst (((st.set q 0).take i).map V.int++[.int u])))/\(upd (upd H2 T1 (.tup [.int i,.int v])) Z (.lst (((st.set q 0).take i).map V.int++[.int u]))) Z=some (.lst (((st.set q 0).take (i+1)).map V.int)):=λu hu=>by
    refine ⟨_,_,rfl,λb o e=>?_,?_⟩
    ·rw[Ae (Ad e hZ)]
     exact s1 _ _ (sm b o e)
    ·rw[Ab,Co,hu,Ct]
     rfl
   have sl:(((st.set q 0).take i).map V.int).length<sizeLine:=BP (by rw[AE,BG];lia);refine ⟨_,rfl,_,rfl,rfl,_,rfl,?_⟩;refine ite2 (λe=>?_) (λe=>?_)
   ·have e':i=q:=by have:=of_decide_eq_true e;injection this with this;lia
    subst e';exact ⟨_,s1 _ _ eZ,sl,fin 0 (HV il)⟩
   ·have e':i≠q:=λz=>e (decide_eq_true (by rw[z]))
    exact ⟨_,rfl,_,s1 _ _ eZ,sl,fin v (by rw[IP (C6 e')];exact hv)⟩
  ·rintro τ H2 ⟨n,t,rfl,sm,eZ⟩
   rw[AE,show st.length=(st.set q 0).length by rw[K7],CU] at eZ;refine ⟨Z,_,rfl,.inl ⟨SqL.of eZ,λt ht=>?_⟩⟩;exact q1 c' t _ (sm.trans (Same.new ht _)) Ab
 ·exact q2 c _ (Same.refl _)
end
variable{u:Ru}
section
variable{P:AL}{w:AQ}{K:Au}{mg:Str->Option Ap}{base:Heap}{f C D:Addr}{fd:BV}
theorem Ni:FnScope ["self","web","state","number","tie","counts"] ["self","web","state","number"] (Ac Gn):=⟨rfl,rfl,rfl,by decide +kernel,rfl,by decide +kernel,by decide +kernel⟩
theorem Xd{fA fT:Addr}{fdA fdT:BV}(F:Fun K "taken" "TiedPoints.taken" Gn f fd)(T:Txt K mg C)(U:Rul u K mg D)(GA:FnOk P w K mg base CX0 1 fA fdA ["self","count"] (Jy u D))(bA:Binds K fdA ["self","count"] [])(mA:Meth K D "allows" fA)
  (GT:FnOk P w K mg base CX0 1 fT fdT ["self"] (Tf K C)) (bT:Binds K fdT ["self"] []) (mT:Meth K C "ties" fT) :
  FnOk P w K mg base CX0 2 f fd ["self","web","state","number"] (PX u K C D):=by
 refine F.ok Ni (λvs H Q E h=>?_) (λcdv A outer s H vs Q E hr h=>?_)
 ·obtain ⟨a,p,b,dx,t,z,bs,st,rfl,_⟩:=h
  rfl
 obtain ⟨a,p,b,dx,t,z,bs,st,rfl,ha,hW,hb,tl,s10,sz,q⟩:=h;obtain ⟨t2,e2⟩:=U.sev;refine ⟨_,Ah (BJ (i:=4) Ni.nd rfl (IE rfl) (Bl Dz (Ek (pv 1) T.cl mT GT hr bT .nil pass0) (pv 3) (λ_ _=>rfl)))
  (Ah (Og (i:=5) (Ac Gn) ["point","count"] ["tie"] [4] Ni.nd rfl (B3 rfl) rfl rfl (by decide +kernel) ⟨⟨rfl,by decide +kernel⟩,trivial⟩ (Jz rfl T.enum (Aa (pv 2) Af))
    (λ_ _ _=>HJ (K:=K) (n:=2) rfl rfl (Bo (Aq (i:=0) (show ((["point","count"]:List Str)++(["tie"]:List Str)).Nodup by decide +kernel) rfl (B3 rfl)) (Bo (Aq (i:=1) (show ((["point","count"]:List Str)++(["tie"]:List Str)).Nodup by decide +kernel) rfl (B3 rfl)) Eu)))
    (λ_ _ _=>FW)
    (λ_ _ _=>HW (Aw (Gm (K:=K) rfl) (pv 0) (pv 2) rfl) (Bb (WY rfl) rfl T.min VX (Aa (Ar Cg (pv 1) Ai) (Aa (HB (v:=.int 2) rfl e2 ⟨t2,rfl⟩) Af))) (pv 1)))
  (Ah (CQ (PW.pt (Td (Aw NT (HB (v:=.int 2) rfl e2 ⟨t2,rfl⟩) (pv 5) rfl) (Oh (Tj (Ka (CV (pv 0) U.cl mA GA hr bA .nil pass0 (Aa (HB (v:=.int 2) rfl e2 ⟨t2,rfl⟩) Af)))))))
   (Aj (Ay Xl)) Bc)
  (Aj (Ay (Bt CP rfl T.tuple EG (Aa (pv 5) Af)))))),?_⟩
 obtain ⟨dw,jw,hp,_⟩:=id hW;refine ⟨_,rfl,p,dw,_,rfl,hp,Dv _ _ (by decide +kernel) (by decide +kernel),p,z,bs,rfl,hW,λl H1 s1 hl hL=>?_⟩;obtain ⟨l',xs,el,hX,px⟩:=hL;cases el;have lx:=AY px;have xl:t<xs.length:=by lia
 obtain ⟨tie,ht,rt⟩:=Paired.get px (AI xl);obtain ⟨tq,et,htq⟩:=Bv rt;have hat:atI xs (t:Int)=some (.ref tq):=by
  rw[<- et];exact Dd (AI xl)
 refine ⟨_,rfl,l,xs,_,_,rfl,rfl,hX,hat,?_⟩;have ont:∀i:Nat,onB bs i t=decide ((i:Int)∈tie):=λi=>by
  unfold onB;rw[AB,ht];rfl
 have hb1:StAt H1 b st:=s1 _ _ hb;refine ⟨_,rfl,b,rfl,⟨_,SqT.of hb1⟩,λZ hZ=>?_⟩;have kl:(tkC (onB bs) t st).length=st.length:=Hx;refine Gk (xs:=st.map V.int) (λi τ H2=>∃n c:Option V,τ=[n,c,some (.ref tq)]/\Same H1 H2/\H2 Z=some (.lst (((tkC (onB bs) t st).take i).map V.int))) ⟨none,none,rfl,Same.new hZ _,Ab⟩ (λi τ H2 _ ⟨_,_,_,sm,_⟩=>sm.ts.seq (SqT.of hb1)) ?_ ?_
 ·rintro i y τ H2 T1 hy hT1 ⟨n,c,rfl,sm,eZ⟩
  obtain ⟨v,hv,rfl⟩:∃v,st[i]?=some v/\y=.int v:=by
   rw[BI] at hy;cases g:st[i]? with
   | none=>rw[g] at hy;cases hy
   | some v=>rw[g] at hy;cases hy;exact ⟨v,rfl,rfl⟩
  have il:=(AH.mp hv).1;have gi:st.getD i 0=v:=by rw[AB,hv];rfl
  have s2:Same H2 (upd H2 T1 (.tup [.int i,.int v])):=Same.new hT1 _;refine ⟨T1,_,rfl,SqT.of Ab,rfl,_,_,rfl,_,_,rfl,rfl,yesD ?_⟩;have fin:∀u:Int,(tkC (onB bs) t st).getD i 0=u->∃n c:Option V,[some (.int (i:Int)),some (.int v),some (.ref tq)]=[n,c,some (V.ref tq)]/\Same H1 (upd (upd H2 T1 (.tup [.int i,.int v])) Z (.lst (((tkC (onB bs) t st).take i).map V.int++[.int u])))/\(upd (upd H2 T1 (.tup [.int i,.int v])) Z (.lst (((tkC (onB bs) t st).take i).map V.int++[.int u]))) Z=some (.lst (((tkC (onB bs) t st).take (i+1)).map V.int)):=λu hu=>by
   refine ⟨_,_,rfl,λb o e=>?_,?_⟩
   ·rw[Ae (Ad e hZ)]
    exact s2 _ _ (sm b o e)
   ·have hk:i<(tkC (onB bs) t st).length:=by lia
    rw[AB,AI hk] at hu;rw[Ab,Co,AI hk,Ct,<- hu];rfl
  have sl:(((tkC (onB bs) t st).take i).map V.int).length<sizeLine:=BP (by rw[AE,BG];lia);have tk:=Jb (on:=onB bs) (t:=t) (p:=i) il;rw[ont,gi] at tk;refine ⟨_,rfl,_,rfl,tq,_,rfl,.inr (s2.ts.seq (sm.ts.seq htq)),rfl,by simp[flatV],_,rfl,?_⟩;rw[if_neg (by decide),Dj];refine ite2 (λe=>?_) (λe=>?_)
  ·rw[if_pos e] at tk
   refine ⟨_,rfl,_,_,rfl,rfl,_,_,rfl,_,s2 _ _ eZ,sl,?_⟩;refine fin _ (tk.trans ?_);show min (v+1) 2=if (2:Int)<v+1 then 2 else v+1
   by_cases d:(2:Int)<v+1
   ·rw[if_pos d];lia
   ·rw[if_neg d];lia
  ·rw[if_neg e] at tk
   exact ⟨_,rfl,_,s2 _ _ eZ,sl,fin v tk⟩
 ·rintro τ H2 ⟨n,c,rfl,sm,eZ⟩
  rw[AE,<- kl,CU] at eZ;have s12:=s1.trans sm;have ln:(tkC (onB bs) t st).length=z:=by rw[kl];exact sz
  have go:¬ ((2:Int)∈tkC (onB bs) t st/\u.al 2=false)->∃v,[some (V.ref a),some (V.ref p),some (V.ref b),some (V.int t),some (V.ref tq),some (V.ref Z)][5]?=some (some v)/\∃pp ys,[v]=[V.ref pp]/\((SqL K H2 pp ys/\∀l,H2 l=none->Q (.ref l) (upd H2 l (.tup ys)))\/(SqT K H2 pp ys/\Q (.ref pp) H2)):=λnd =>
   ⟨_,rfl,Z,_,rfl,.inl ⟨SqL.of eZ,λl hl=>q _ _ (s12.trans (Same.new hl _)) (by unfold takT;rw[if_neg nd];exact ⟨l,rfl,Ab,ln⟩)⟩⟩
  refine ⟨_,rfl,Z,_,rfl,.inl (SqL.of eZ),rfl,by simp[flatV],_,rfl,?_⟩;rw[if_neg (by decide),Dj];refine ite2 (λc=>?_) (λc=>?_)
  ·have hm:(2:Int)∈tkC (onB bs) t st:=of_decide_eq_true c
   refine ⟨_,rfl,a,dx,_,rfl,s12 _ _ ha,U.no (by decide +kernel),a,dx,_,rfl,s12 _ _ ha,_,rfl,?_⟩;cases e:u.al 2 with
   | true=>exact iteF (go λz=>by rw[e] at z;cases z.2)
   | false=>exact iteT (q _ _ s12 (by unfold takT;rw[if_pos ⟨hm,e⟩];exact rfl))
  ·exact iteF (go λz=>c (decide_eq_true z.1))
end
theorem Wd{X:Cx}{K:Au}(hK:X.K=K)(hc:X.calm=true):CallR X (.builtin "max") (λxs H Q=>∃(p:Addr) (ns:List Int),xs=[.ref p]/\SqL K H p (ns.map V.int)/\0<ns.length/\∀m,m∈ns->(∀a∈ns,a<=m)->Q (.int m) H):=by subst hK;exact max_list hc
theorem Yu{X:Cx}{K:Au}(hK:X.K=K):OpR X (FI .Add) (rAddL K):=by subst hK;exact Uz
def Lp(bs:List (List Int))(p:Nat):Nat:=match (hits (p:Int) bs).getLast? with
 | none=>0
 | some x=>(x+1).toNat
theorem Uv{bs:List (List Int)}{p:Nat}{x:Int}(h:x∈hits (p:Int) bs):0<=x/\x<bs.length:=by
 obtain ⟨i,t,e,_,rfl⟩:=L2.Hy.mp h;have:=(AH.mp e).1;lia
theorem ABr{bs:List (List Int)}{p:Nat}{m:Int}(h1:m∈(-1:Int)::hits (p:Int) bs)(h2:∀a∈(-1:Int)::hits (p:Int) bs,a<=m):m=(Lp bs p:Int)-1:=by
 unfold Lp;cases e:(hits (p:Int) bs).getLast? with
 | none =>
  have e':=ME.mp e;rw[e'] at h1;have:m=-1:=by simpa using h1
  rw[this];rfl
 | some x =>
  obtain ⟨ne,ex⟩:=MG.mp e |> λ⟨ys,h⟩=>(⟨by rw[h];simp,by simp[h]⟩:∃ne:hits (p:Int) bs≠[],(hits (p:Int) bs).getLast ne=x)
  have xm:x∈hits (p:Int) bs:=by rw[<- ex];exact List.getLast_mem ne
  have x0:=(Uv xm).1;have:=h2 x (AG _ xm);have mx:m=x:=by
   rcases Bz.mp h1 with rfl | h1
   ·lia
   ·have:=Nu ne (Ia _ 0 bs) m h1
    lia
  dsimp only;lia
theorem ADS{bs:List (List Int)}{p x:Nat}(xl:x<bs.length)(h:onB bs p x=true):x<Lp bs p:=by
 have hm:(p:Int)∈bs.getD x []:=of_decide_eq_true h;rw[AB,AI xl] at hm;have xm:(x:Int)∈hits (p:Int) bs:=L2.Hy.mpr ⟨x,_,AI xl,hm,by lia⟩;unfold Lp;cases e:(hits (p:Int) bs).getLast? with
 | none=>rw[ME.mp e] at xm;cases xm
 | some y =>
  obtain ⟨ne,ey⟩:=MG.mp e |> λ⟨ys,h⟩=>(⟨by rw[h];simp,by simp[h]⟩:∃ne:hits (p:Int) bs≠[],(hits (p:Int) bs).getLast ne=y)
  have:=Nu ne (Ia _ 0 bs) x xm;dsimp only;lia
theorem ACy{bs:List (List Int)}{p:Nat}:Lp bs p<=bs.length:=by
 unfold Lp;cases e:(hits (p:Int) bs).getLast? with
 | none=>exact BH _
 | some y =>
  have:=Uv (List.mem_of_getLast? e);dsimp only;lia
def nI(ks:List Nat):List V:=ks.map λ(k:Nat)=>V.int (k:Int)
theorem Ye(ks:List Nat):(nI ks).length=ks.length:=by unfold nI;rw[AE]
theorem ACc{ks:List Nat}{j:Nat}{x:V}(h:(nI ks)[j]?=some x):∃k:Nat,ks[j]?=some k/\x=.int (k:Int):=by
 unfold nI at h;rw[BI] at h;cases g:ks[j]? with
 | none=>rw[g] at h;cases h
 | some k=>rw[g] at h;cases h;exact ⟨k,rfl,rfl⟩
def behP(bs:List (List Int))(z t:Nat):List Nat:=(AX z).filter λp=>decide (Lp bs p=t)
def YW(K:Au)(C:Addr):Sp:=λvs H Q _=>∃(p:Addr) (t z:Nat) (bs:List (List Int)),vs=[.ref p,.int t]/\WebAt K C H p z bs/\z<=10/\bs.length<=12/\∀(l:Addr) (H':Hp),Same H H'->H l=none->H' l=some (.lst (nI (behP bs z t)))->Q (.ref l) H'
section
variable{P:AL}{w:AQ}{K:Au}{mg:Str->Option Ap}{base:Heap}{f C D:Addr}{fd:BV}
theorem ACO:FnScope ["web","number"] ["web","number"] (Ac Ew):=⟨rfl,rfl,rfl,by decide +kernel,rfl,by decide +kernel,by decide +kernel⟩
theorem AAi{fS fA:Addr}{fdS fdA:BV}(F:Fun K "points_behind" "points_behind" Ew f fd)(T:Txt K mg C)(GS:FnOk P w K mg base CX0 1 fS fdS ["self"] (Sy K C))(bS:Binds K fdS ["self"] [])(mS:Meth K C "size" fS)
  (GA:FnOk P w K mg base CX0 1 fA fdA ["self","point"] (ADQ K C)) (bA:Binds K fdA ["self","point"] []) (mA:Meth K C "at" fA):FnOk P w K mg base CX0 2 f fd ["web","number"] (YW K C):=by
 refine F.ok ACO (λvs H Q E h=>?_) (λcdv A outer s H vs Q E hr h=>?_)
 ·obtain ⟨p,t,z,bs,rfl,_⟩:=h
  rfl
 obtain ⟨p,t,z,bs,rfl,hW,z10,b12,q⟩:=h;obtain ⟨dx,j,hp,_⟩:=id hW;refine ⟨_,Aj (Ay (Ca (Ac Ew) ["point"] ["number","web"] [1,0] rfl rfl (by decide +kernel) ⟨⟨rfl,by decide +kernel⟩,⟨rfl,by decide +kernel⟩,trivial⟩ (IV rfl T.range (Aa (Ek (pv 0) T.cl mS GS hr bS .nil pass0) Af))
   (λ_ _ _=>Aq (i:=0) (show ((["point"]:List Str)++(["number","web"]:List Str)).Nodup by decide +kernel) rfl (B3 rfl))
   (λ_ _ _=>Ce (Aw Fx (Bb (Wd (K:=K) rfl rfl) rfl T.max Os (Aa (Ar (Yu (K:=K) rfl) (Dq (Aa (MK Im Ai) Af)) (CV (pv 2) T.cl mA GA hr bA .nil pass0 (Aa (pv 0) Af))) Af)) (Ar DK (pv 1) Ai) (nomark _)))
   (λ_ _ _=>pv 0))),?_⟩
 refine ⟨_,rfl,p,dx,_,rfl,hp,Dv _ _ (by decide +kernel) (by decide +kernel),p,z,bs,rfl,hW,_,rfl,by lia,by lia,λZ hZ=>?_⟩;refine FN (lo:=0) (n:=(z:Int).toNat) (λj τ H2=>∃o:Option V,τ=[o,some (.int t),some (.ref p)]/\Same H H2/\H2 Z=some (.lst (nI ((AX j).filter λp=>decide (Lp bs p=t))))) ⟨none,rfl,Same.new hZ _,Ab⟩ ?_ ?_
 ·rintro j τ H2 hj ⟨o,rfl,s2,eZ⟩
  have ej:(0:Int)+j=(j:Int):=by lia
  rw[ej];refine ⟨1,rfl,(by show 1<=sizeLine;decide),λM hM=>?_⟩;have s3:=s2.trans (Same.new hM (.lst [.int (-1)]));refine ⟨_,rfl,p,dx,_,rfl,s3 _ _ hp,Dv _ _ (by decide +kernel) (by decide +kernel),_,rfl,p,z,j,bs,rfl,hW.same s3,b12,λl H4 s4 hl el=>?_⟩;have hlen:(hits (j:Int) bs).length<=bs.length:=Ju _ 0 bs;have eM4:=s4 _ _ (show (upd H2 M (.lst [.int (-1)])) M=some (.lst [.int (-1)]) from Ab);refine ⟨M,l,_,_,rfl,rfl,SqL.of eM4,SqL.of el,De (BP (by rw[AE];show 1+_<=1000;lia)),λN hN=>?_⟩;have s5:=Same.new hN (.lst (V.int (-1)::(hits (j:Int) bs).map V.int));refine ⟨N,(-1:Int)::hits (j:Int) bs,rfl,SqL.of Ab,by simp,λm hm hx=>?_⟩;have e:=ABr hm hx;have s6:=(s3.trans s4).trans s5;have eZ6:=s5 _ _ (s4 _ _ (Same.new hM _ _ _ eZ));refine ⟨_,rfl,_,_,rfl,rfl,rfl,_,rfl,?_⟩;have lz:((AX j).filter λp=>decide (Lp bs p=t)).length<=j:=BM (CB ..) (by rw[CI];exact AF _);refine ite2 (λc=>?_) (λc=>?_)
  ·have c':Lp bs j=t:=by
    have:=of_decide_eq_true c;injection this with this
    lia
   refine ⟨_,rfl,_,eZ6,BP (by rw[Ye];lia),_,rfl,λb o e=>?_,?_⟩
   ·rw[Ae (Ad e hZ)]
    exact s6 b o e
   ·rw[Ab,K8,Cs,Na (by simpa using c')]
    unfold nI;rw[Ct];rfl
  ·have c':¬ Lp bs j=t:=λz=>c (decide_eq_true (by rw[e,z]))
   refine ⟨_,rfl,s6,?_⟩;rw[K8,Cs,J8 (by simpa using c'),Sk,B9];exact eZ6
 ·rintro τ H2 ⟨o,rfl,s2,eZ⟩
  rw[DO] at eZ;exact q Z H2 s2 hZ eZ
end
end K54
end
section
namespace L2
open PySem PySem.Spec PyProof.Rows
section
variable{prog:AL}{w:AQ}{A:BS}{E:Ap->AA->Prop}{s:AA}{d:Addr}{o:Obj}{es:Array LW}{ep:Nat}
theorem Kw(d:Addr)(hd:(d==DF)=false) :
  MeetsIn prog w (Builtin.«dict.__len__» ⟨[.ref d],[]⟩) (λ_ R s=>∃o es ep,s.heap.get? d=some o/\o.data=.dict es ep/\R (.ok (.ret (.int es.size s.toks))) {s with toks:=s.toks+1}) :=
 .of_wp λA R s ⟨o,es,ep,ho,hdat,h⟩=>by
  show wpAny _ _ (dictSize d >>= _) _ _ s;unfold dictSize;refine As (As (Kk ho hdat (wpAny_pure ?_)));show wpAny _ _ (UA d >>= _) _ _ s;refine As (wpAny_pendingCount_other hd ?_);refine Si ?_;rw[PY];exact h
theorem ABH{Q:Ap->AA->Prop}(hd:(d==DF)=false)(hT:s.TypeIs (.ref d) "dict")(ho:s.heap.get? d=some o)(hdat:o.data=.dict es ep)(hfit:(es.size:Int)<2 ^ 63)
  (h:Q (.int es.size (s.toks+1)) {s with toks:=s.toks+1+1}):wpAny (AO prog w) A (call (.builtin "len") [.ref d]) Q E s:=by
 refine JE kind_len plain_len entry_len (args_len1 _) ?_;unfold Builtin.«len»;refine As (m:=oneArg "len" _) (wpAny_pure ?_);refine As (m:=callSpecial? (.ref d) (IF "__len__")) (wpAny_callSpecial?_slot (name:=IF "__len__") hT OA
  (PM OA hT PySem.F.entry_dict_len (PySem.F.args_dict_len_1 _) (Kw d hd) ⟨o,es,ep,ho,hdat,?_⟩))
 show wpAny _ _ _ _ _ {s with toks:=s.toks+1};refine As (EE (wpAny_pure ?_));refine As (wpAny_letGo ?_);show wpAny _ _ (if ((es.size:Nat):Int)<0 then _ else _) _ _ _;rw[if_neg (by lia)];show wpAny _ _ (if ((es.size:Nat):Int) >= 2 ^ 63 then _ else _) _ _ _;rw[if_neg (by lia)];exact As (wpAny_mkInt (wpAny_pure ⟨_,rfl,h⟩))
end
section
variable{X:Cx}
theorem JN:CallR X (.builtin "len") (λxs H Q=>∃p kvs,xs=[.ref p]/\H p=some (.dT kvs)/\Q (.int kvs.length) H):=by
 intro pins s σ H xs us Q I rr h;obtain ⟨p,kvs,rfl,hp,q⟩:=h;obtain ⟨u,rfl,ru⟩:=rr.one;cases ru;obtain ⟨z,lo,ts,kt,o,es,ep,h1,h2,h3,h4,h5⟩:=(show ObjOk X.prog X.w H s.heap p (.dT kvs) from I.hok p _ hp);have hl:es.size=kvs.length:=by
  rw[<- AV,h4,AE];exact (AY kt).symm
 refine ABH lo ⟨o,h1,h2.1⟩ h1 h3 (by rw[hl];rw[EZ] at z;lia) ?_;exact ⟨.int kvs.length,H,I.tok _,⟨_,by rw[hl]⟩,q⟩
end
def Itd(lo:Int)(n:Nat):It:=⟨λi _=>i<n,λi H x H'=>H'=H/\x=.int (lo-i),λi _=>n<=i⟩
theorem Wz{P:AL}{w:AQ}{K:Au}{tg:Expr}(it:Addr)(lo:Int)(n:Nat):Turn P w K tg (Itd lo n) [it] it (λi h=>NH h it (lo+(i:Nat)*(-1)) ((n:Int)-(i:Nat)) (-1)) where
 mem:=by simp
 obj:=λi h st b hb=>by
  have e:b=it:=by simpa using hb
  subst e;exact ⟨_,st,λv z=>by
   have z':QR _=S7 v:=z;cases z'⟩
 keep:=λi h h' st k=>k it (by simp) _ st
 item:=by
  intro X hP hw hK hc i pins s σ H E I hf st hg;subst hP hw hK;obtain ⟨f0,f1,f2,f3,f4,f5⟩:=hf it (by simp);have W:=VM (prog:=X.prog) (w:=X.w) (I.ok.hd hc) it lo (-1) n;refine W.item i s _ _ hg st λv h' tk hv st' kk=>?_;obtain ⟨t,rfl⟩:=hv;have I1:Inv X pins σ H {s with heap:=h',toks:=tk}:=I.turned (λb o hb e=>kk b o (by simpa using hb) e) f0 f1 f3 f4 f5;refine ⟨_,rfl,VP (s:={s with heap:=h',toks:=tk}) (n:="range_iterator") st' rfl rfl (by decide) ⟨.int (lo-i),H,I1,⟨t,?_⟩,⟨rfl,rfl⟩,st',λb hb=>(hf b hb).1⟩⟩
  congr 1
  lia
 done:=by
  intro X hP hw hK hc i pins s σ H E I hf st hg;subst hP hw hK;obtain ⟨f0,f1,f2,f3,f4,f5⟩:=hf it (by simp);exact NI (I.ok.hd hc) st (by have:n<=i:=hg;lia) λh' eb=>⟨rfl,I.turned (t':=s.toks) (λb o hb e=>eb b o hb e) f0 f1 f3 f4 f5⟩
 self:=λ_ _ _ _ _ st h=>NJ st h
theorem rangeSize_down(a b:Int):Hn a b (-1)=if b<a then a-b else 0:=by
 unfold Hn;simp only[show ¬ ((-1:Int)>0) by decide,if_false];split
 ·rw[show (- -1:Int)=1 from rfl,Int.ediv_one];lia
 ·rfl
theorem small_down{a b:Int}(ha:-(2 ^ 62)<=a)(ha':a<2 ^ 62)(hb:-(2 ^ 62)<=b)(hb':b<2 ^ 62):O3 a b (-1)=true:=by
 unfold O3;rw[rangeSize_down];simp only[S9,FL,Bool.or_eq_true,decide_eq_true_eq,beq_iff_eq,show ¬ ((-1:Int)>0) by decide,if_false];split<;>lia
section
variable{X:Cx}{tg:Expr}
theorem Vp{pins:List (Addr×Obj)}{σ:St}{H:Hp}{s:AA}{R:It->Hp->Prop}{E:Ap->AA->Prop}{lo hi:Int}{t u v:Tok}{tk:Nat}(I:Inv X pins σ H s)(h1:-(2 ^ 62)<=lo)(h2:lo<2 ^ 62)(h3:-(2 ^ 62)<=hi)(h4:hi<2 ^ 62)
  (q:R (Itd lo (lo-hi).toNat) H):wpAny (AO X.prog X.w) X.A (N5 (.ref s.heap.objs.size)) (PIE X pins σ tg R) E {s with heap:=s.heap.push {cls:=.type "range",data:=.fields #[.int lo t,.int hi u,.int (-1) v]},toks:=tk}:=by
 refine Pe (VQ ..) (small_down h1 h2 h3 h4) ?_;have I1:Inv X pins σ H {s with heap:=s.heap.push {cls:=.type "range",data:=.fields #[.int lo t,.int hi u,.int (-1) v]},toks:=tk}:=I.kept λb o e=>AJ _ e;refine ⟨(s.heap.push {cls:=.type "range",data:=.fields #[.int lo t,.int hi u,.int (-1) v]}).objs.size,[(s.heap.push {cls:=.type "range",data:=.fields #[.int lo t,.int hi u,.int (-1) v]}).objs.size],_,_,H,rfl,
  I1.kept (t':=tk) λb o e=>AJ _ e,Wz _ lo (lo-hi).toNat,?_,λb hb=>?_,q⟩
 ·have e1:lo+((0:Nat):Int)*(-1)=lo:=by simp
  have e2:(((lo-hi).toNat:Nat):Int)-((0:Nat):Int)=Hn lo hi (-1):=by rw[rangeSize_down];split<;>lia
  show NH _ _ (lo+((0:Nat):Int)*(-1)) ((((lo-hi).toNat:Nat):Int)-((0:Nat):Int)) (-1);rw[e1,e2];exact AW _ rfl
 ·have e:b=(s.heap.push {cls:=.type "range",data:=.fields #[.int lo t,.int hi u,.int (-1) v]}).objs.size:=by simpa using hb
  subst e;exact I1.fpOk (AF _) (I1.hok.fresh (AF _))
def ADK(ta:TA):TI:=λσ H R=>ta σ H λvs H1=>∃i j:Int,vs=[.int i,.int j,.int (-1)]/\(-(2 ^ 62)<=i/\i<2 ^ 62/\-(2 ^ 62)<=j/\j<2 ^ 62)/\R (Itd i (i-j).toNat) H1
theorem Lj{a b c:Expr}{ta:TA}{p pos:Pos}(hg:Gl X "range")(hm:X.mg "range" = none)(ha:PA X [a,b,c] ta)(hs:Cf [a,b,c] X.env=[(false,eval a X.env),(false,eval b X.env),(false,eval c X.env)]:=by rfl)(hs2:Cf [b,c] X.env=[(false,eval b X.env),(false,eval c X.env)]:=by rfl) :
  PI X tg (.Call (.Name "range" p) [a,b,c] [] pos) (ADK ta):=by
 intro pins s σ H R I h;refine Call_ (Ep I hg hm RY (D2 (thn (ha pos pins s σ H _ I h) λus s1 ⟨vs,H1,I1,r1,q1⟩=>?_) (by rw[hs,hs2]) (by rw[hs2];rfl)));obtain ⟨i,j,e,⟨q1,q2,q3,q4⟩,q⟩:=q1;subst e;cases r1 with
 | cons r rr =>
  cases rr with
  | cons r' rr =>
   cases rr with
   | cons r'' rr =>
    cases rr;obtain ⟨t,rfl⟩:=r;obtain ⟨t',rfl⟩:=r';obtain ⟨t'',rfl⟩:=r'';exact call_range_3 (by decide) (Vp I1 q1 q2 q3 q4 q) (.inl (NL (by decide)))
theorem Qn{lo:Int}{n:Nat}{g:TG}{tb:TS}{D:Ends}{σ:St}{H:Hp}(Pv:Nat->St->Hp->Prop)(h0:Pv 0 σ H)
  (hs:∀i σ H,i<n->Pv i σ H->g (.int (lo-i)) σ H λσ2 H2=>tb {D with nx:=Pv (i+1),ct:=Pv (i+1),bk:=D.nx} σ2 H2) (hd:∀σ H,Pv n σ H->D.nx σ H) :
  ∃W:Nat->Nat->St->Hp->Prop,(∃m,W 0 m σ H)/\∀i m σ H,W i m σ H ->
   ((Itd lo n).stop i H/\D.nx σ H)\/((Itd lo n).go i H/\∃N:St->Hp->Prop,(∀σ' H',N σ' H'->∃m',m'<m/\W (i+1) m' σ' H')/\∀x H',(Itd lo n).yld i H x H'->g x σ H' λσ2 H2=>tb {D with nx:=N,ct:=N,bk:=D.nx} σ2 H2):=by
 refine ⟨λi m σ H=>m=n-i/\i<=n/\Pv i σ H,⟨n,by simp,BH _,h0⟩,?_⟩;rintro i m σ H ⟨rfl,hi,p⟩;by_cases hlt:i<n
 ·refine .inr ⟨hlt,Pv (i+1),λσ' H' p'=>⟨n-(i+1),by lia,rfl,hlt,p'⟩,λx H' y=>?_⟩
  obtain ⟨e,y⟩:=y;subst e y;exact hs i σ _ hlt p
 ·have e:i=n:=by lia
  subst e;exact .inl ⟨AF _,hd σ H p⟩
end
end L2
end
section
namespace L2
open PySem
open Sem (wp)
end L2
end
section
namespace L2
open PySem
open Sem (wp)
open AutoSeq1 (wpAny_loadPart')
end L2
end
section
namespace L2
open PySem PySem.Spec PyProof.Rows
end L2
end
section
namespace L2
open PySem PySem.Spec PyProof.Rows
open AutoSeq1 (wpAny_loadPart')
end L2
end
section
theorem L2.smallN{n:Nat}(h:n<=100000):n<PySem.sizeLine:=Ev h (by decide)
namespace K54s
open PySem L2 G
def top(i:Nat):Stmt:=FU.main.body.getD i (.Pass ⟨0,0,0,0⟩)
abbrev Km:Stmt:=top 8
abbrev Fe:Stmt:=top 10
abbrev Gh:Stmt:=top 11
abbrev sIn:Stmt:=top 12
abbrev Ec:Stmt:=inClass (top 7) 0
abbrev IW:Stmt:=inClass (top 7) 2
abbrev WW:Stmt:=inClass (top 7) 3
theorem ra:¬ (("amount" : Str) = "rows"):=by decide +kernel
theorem ha:¬ (("amount" : Str) = "head"):=by decide +kernel
theorem hr':¬ (("rows" : Str) = "head"):=by decide +kernel
def flds(z:Int)(j:Addr)(h:Int):List (Str×V):=putF "head" (.int h) (putF "rows" (.ref j) (putF "amount" (.int z) []))
theorem JH(z:Int)(j:Addr)(h:Int):(flds z j h).lookup ("amount" : Str)=some (.int z):=by
 unfold flds;rw[Ag,if_neg ha,Ag,if_neg ra,Ag,if_pos rfl]
theorem Vz(z:Int)(j:Addr)(h:Int):(flds z j h).lookup ("rows" : Str)=some (.ref j):=by
 unfold flds;rw[Ag,if_neg hr',Ag,if_pos rfl]
structure Txt(K:Au)(mg:Str->Option Ap)(C:Addr):Prop where
 cl:Cls K C
 nA:NoAttr K C "amount"
 nR:NoAttr K C "rows"
 nH:NoAttr K C "head"
 mgC:mg "Sieve" = some (.ref C)
 mt:∃t,mg "MOST_TIES" = some (.int 12 t)
 len:mg "len" = none
 range:mg "range" = none
 int:mg "int" = none
 sorted:mg "sorted" = none
 set:mg "set" = none
 tuple:mg "tuple" = none
 list:mg "list" = none
 bool:mg "bool" = none
 enum:mg "enumerate" = none
 all:mg "all" = none
 isi:mg "isinstance" = none
 min:mg "min" = none
 rev:mg "reversed" = none
def rRow(K:Au):Rep Row:=λH r v=>∃p,v=.ref p/\SqT K H p [.int r.1,.int r.2.1,.int r.2.2]
theorem CK{K:Au}:TRep (rRow K):=λH H' r v t ⟨p,a,b⟩=>⟨p,a,t.seq b⟩
def SvAt(K:Au)(C:Addr)(H:Hp)(p:Addr)(z:Int)(rows:List Row)(h:Int):Prop:=∃dx j,H p=some (.ins C dx (flds z j h))/\rTup K (rRow K) H rows (.ref j)
theorem SvAt.same{K:Au}{C:Addr}{H H':Hp}{p:Addr}{z hd:Int}{rows:List Row}(h:SvAt K C H p z rows hd)(e:Same H H'):SvAt K C H' p z rows hd:=by
 obtain ⟨dx,j,h1,h2⟩:=h;exact ⟨dx,j,e _ _ h1,Ao CK _ _ _ _ e.ts h2⟩
def Jt(K:Au)(C:Addr):Sp:=λvs H Q _=>∃(p dx l:Addr) (z h:Int) (xs:List V) (rows:List Row),vs=[.ref p,.int z,.ref l,.int h]/\H p=some (.ins C dx [])/\SqL K H l xs/\BE (rRow K H) rows xs /\
 ∀(H':Hp),(∀b o,H b=some o->b≠p->H' b=some o)->SvAt K C H' p z rows h->Q .non H'
def ABS(K:Au)(C:Addr):Sp:=λvs H Q _=>∃(p:Addr) (z h:Int) (rows:List Row),vs=[.ref p]/\SvAt K C H p z rows h/\Q (.int h) H
def Uh(K:Au)(C:Addr):Sp:=λvs H Q _=>∃(p:Addr) (z h:Int) (rows:List Row),vs=[.ref p]/\SvAt K C H p z rows h/\∀(l:Addr) (ys:List V) (H':Hp),Same H H'->H l=none->H' l=some (.lst ys)->BE (rRow K H') rows ys->Q (.ref l) H'
section
variable{P:AL}{w:AQ}{K:Au}{mg:Str->Option Ap}{base:Heap}{f C:Addr}{fd:BV}
theorem Zj:FnScope ["self"] ["self"] (Ac IW):=⟨rfl,rfl,rfl,by decide +kernel,rfl,by decide +kernel,by decide +kernel⟩
theorem Zi(F:Fun K "knots" "Sieve.knots" IW f fd)(T:Txt K mg C):FnOk P w K mg base CX0 1 f fd ["self"] (Uh K C):=by
 refine F.ok Zj (λvs H Q E h=>?_) (λcdv A outer s H vs Q E hr h=>?_)
 ·obtain ⟨p,z,hd,rows,rfl,_⟩:=h
  rfl
 obtain ⟨p,z,hd,rows,rfl,⟨dx,j,hP,j',xs,ej,hj,pj⟩,q⟩:=h;cases ej;refine ⟨_,Aj (Ay (Bt Hv rfl T.list Ic (Aa (Bd (pv 0) rfl) Af))),?_⟩;refine ⟨_,rfl,p,C,dx,_,_,rfl,hP,T.cl,T.nR,Vz _ _ _,j,xs,rfl,.inr hj,λl hl=>?_⟩;refine q l xs _ (Same.new hl _) hl Ab ?_;exact Paired.imp (λa b=>CK H _ a b (TSm.new hl)) pj
theorem Vu(z:Int)(j:Addr)(h:Int):(flds z j h).lookup ("head" : Str)=some (.int h):=by
 unfold flds;rw[Ag,if_pos rfl]
theorem ACj:FnScope ["self"] ["self"] (Ac WW):=⟨rfl,rfl,rfl,by decide +kernel,rfl,by decide +kernel,by decide +kernel⟩
theorem ACP(F:Fun K "top" "Sieve.top" WW f fd)(T:Txt K mg C):FnOk P w K mg base CX0 1 f fd ["self"] (ABS K C):=by
 refine F.ok ACj (λvs H Q E h=>?_) (λcdv A outer s H vs Q E hr h=>?_)
 ·obtain ⟨p,z,hd,rows,rfl,_⟩:=h
  rfl
 obtain ⟨p,z,hd,rows,rfl,⟨dx,j,hP,hj⟩,q⟩:=h;refine ⟨_,Aj (Ay (Bd (pv 0) rfl)),?_⟩;exact ⟨_,rfl,p,C,dx,_,_,rfl,hP,T.cl,T.nH,Vu _ _ _,q⟩
theorem UL:FnScope ["self","n","rows","head"] ["self","n","rows","head"] (Ac Ec):=⟨rfl,rfl,rfl,by decide +kernel,rfl,by decide +kernel,by decide +kernel⟩
theorem Hf(F:Fun K "__init__" "Sieve.__init__" Ec f fd)(T:Txt K mg C):FnOk P w K mg base CX0 1 f fd ["self","n","rows","head"] (Jt K C):=by
 refine F.ok UL (λvs H Q E h=>?_) (λcdv A outer s H vs Q E hr h=>?_)
 ·obtain ⟨p,dx,l,z,h,xs,rows,rfl,_⟩:=h
  rfl
 obtain ⟨p,dx,l,z,h,xs,rows,rfl,hP,hS,pa,q⟩:=h;refine ⟨_,Ah (DG (pv 0) (pv 1) rfl)
  (Ah (DG (pv 0) (Bt CP rfl T.tuple EG (Aa (pv 2) Af)) rfl)
  (Aj (DG (pv 0) (pv 3) rfl))),?_⟩
 have sl:∀{H:Hp}{fs gs:List (Str×V)}{a:Addr}{zs:List V},H p=some (.ins C dx fs)->SqL K H a zs->SqL K (upd H p (.ins C dx gs)) a zs:=λ{H fs gs a zs} hP h=>by
  rcases h with (h | ⟨o,h⟩) | h
  ·exact .inl (.inl (by rw[Ae (Bu h hP (by intro z;cases z))];exact h))
  ·exact .inl (.inr ⟨o,by rw[Ae (Bu h hP (by intro z;cases z))];exact h⟩)
  ·exact .inr h
 have ts:∀{H:Hp}{fs gs:List (Str×V)},H p=some (.ins C dx fs)->TSm H (upd H p (.ins C dx gs)):=λ{H fs gs} hP b u hb t=>by
  rw[Ae ?_]
  ·exact hb
  ·rintro rfl
   rw[hP] at hb;cases hb;obtain ⟨ys,e | ⟨o,e⟩⟩:=t
   ·cases e
   ·cases e
 refine ⟨_,rfl,_,rfl,p,C,dx,[],rfl,hP,T.cl,T.nA,(by show 0<1000;decide),?_⟩;refine ⟨_,rfl,l,xs,rfl,.inl ⟨sl hP hS,λj hj=>?_⟩⟩;have jp:p≠j:=λe=>by rw[<- e,Ab] at hj;cases hj
 have hP2:(upd (upd H p (.ins C dx (putF "amount" (.int z) []))) j (.tup xs)) p=some (.ins C dx (putF "amount" (.int z) [])):=by rw[Ae jp,Ab]
 have t2:=ts (gs:=putF "rows" (.ref j) (putF "amount" (.int z) [])) hP2;refine ⟨_,rfl,p,C,dx,_,rfl,hP2,T.cl,T.nR,(by show 1<1000;decide),?_⟩;have t3:=ts (H:=upd (upd (upd H p (.ins C dx (putF "amount" (.int z) []))) j (.tup xs)) p (.ins C dx (putF "rows" (.ref j) (putF "amount" (.int z) [])))) (gs:=flds z j h) Ab;refine ⟨_,rfl,_,rfl,p,C,dx,_,rfl,Ab,T.cl,T.nH,(by show 2<1000;decide),?_⟩;refine q _ (λb o e hb=>?_) ⟨dx,j,Ab,j,xs,rfl,t3.seq (t2.seq (SqT.of Ab)),?_⟩
 ·rw[Ae hb,Ae hb,Ae ?_,Ae hb]
  ·exact e
  ·rintro rfl
   rw[Ae hb,e] at hj;cases hj
 ·exact Paired.imp (λa b r=>CK _ _ _ _ t3 (CK _ _ _ _ t2 (CK _ _ _ _ (TSm.new hj) (CK _ _ _ _ (ts hP) r)))) pa
end
abbrev Sq(K:Au)(H:Hp)(l:Addr)(xs:List V):Prop:=SqL K H l xs\/SqT K H l xs
theorem Sq.same{K:Au}{H H':Hp}{l:Addr}{xs:List V}(h:Sq K H l xs)(e:Same H H'):Sq K H' l xs:=h.elim (λz=>.inl (e.seq z)) λz=>.inr (e.ts.seq z)
def rIxA(K:Au):R2:=λx y H Q=>rIxL K x y H Q\/rIxT K x y H Q
theorem Fb{X:Cx}:IxR X (rIxA X.K):=by
 intro value slice pins s σ H x y v u Q I rx ry h hs;rcases h with h | h
 ·exact Dz value slice pins s σ H x y v u Q I rx ry h hs
 ·exact Eb value slice pins s σ H x y v u Q I rx ry h hs
theorem Pa{X:Cx}{K:Au}(hK:X.K=K):IxR X (rIxA K):=by subst hK;exact Fb
theorem ixA{K:Au}{H:Hp}{p:Addr}{xs:List V}{i:Int}{v:V}{Q:VK}(h:Sq K H p xs)(e:atI xs i=some v)(q:Q v H):rIxA K (.ref p) (.int i) H Q :=
 h.elim (λz=>.inl ⟨p,_,i,_,rfl,rfl,z,e,q⟩) λz=>.inr ⟨p,_,i,_,rfl,rfl,z,e,q⟩
def rRowA(K:Au)(H:Hp)(r:Row)(v:V):Prop:=∃p,v=.ref p/\Sq K H p [.int r.1,.int r.2.1,.int r.2.2]
theorem Wr{K:Au}{H H':Hp}{r:Row}{v:V}(e:Same H H')(h:rRowA K H r v):rRowA K H' r v:=let ⟨p,a,b⟩:=h;⟨p,a,b.same e⟩
def RowsAt(K:Au)(H:Hp)(l:Addr)(rows:List Row):Prop:=∃xs,Sq K H l xs/\BE (rRowA K H) rows xs
theorem RowsAt.same{K:Au}{H H':Hp}{l:Addr}{rows:List Row}(h:RowsAt K H l rows)(e:Same H H'):RowsAt K H' l rows:=let ⟨xs,a,b⟩:=h;⟨xs,a.same e,Paired.imp (λ_ _ r=>Wr e r) b⟩
theorem RowsAt.of{K:Au}{H:Hp}{l:Addr}{rows:List Row}(h:rLst K (rRow K) H rows (.ref l)):RowsAt K H l rows:=by
 obtain ⟨l',xs,e,hS,pa⟩:=h;cases e;exact ⟨xs,.inl hS,Paired.imp (λ_ _ ⟨p,a,b⟩=>⟨p,a,.inr b⟩) pa⟩
abbrev iN(s:List Nat):List V:=s.map λ(x:Nat)=>V.int (x:Int)
theorem Oi{K:Au}{H:Hp}{rows:List Row}{l:Addr}{k:Nat}(h:RowsAt K H l rows)(kn:Knot rows k)(h2:2<=k) :
  ∃xs p,Sq K H l xs/\atI xs ((k:Int)-2)=some (.ref p)/\Sq K H p [.int (rows.getD (k-2) (0,0,0)).1,.int (rows.getD (k-2) (0,0,0)).2.1,.int (rows.getD (k-2) (0,0,0)).2.2]:=by
 obtain ⟨xs,hS,pa⟩:=h;obtain ⟨v,hv,p,rfl,hp⟩:=Paired.getL pa (Bj kn h2);exact ⟨xs,p,hS,by rw[show (k:Int)-2=((k-2:Nat):Int) by lia];exact Dd hv,hp⟩
theorem at0{a b c:V}:atI [a,b,c] 0=some a:=rfl
theorem at1{a b c:V}:atI [a,b,c] 1=some b:=rfl
theorem at2{a b c:V}:atI [a,b,c] 2=some c:=rfl
def lay(rows:List Row)(t:Nat)(rc:List Nat)(j:Nat):List Nat:=(rc.take j).filter λk=>decide (tieOf rows k=t)
theorem Pj{rows:List Row}{t:Nat}{rc:List Nat}{j k:Nat}(h:rc[j]?=some k):lay rows t rc (j+1)=lay rows t rc j++if tieOf rows k=t then [k] else []:=by
 unfold lay;rw[Co,h,Cs];by_cases c:tieOf rows k=t
 ·simp[c]
 ·simp[c]
theorem HS{rows:List Row}{t:Nat}{rc:List Nat}{k:Nat}:k∈lay rows t rc rc.length↔k∈rc/\tieOf rows k=t:=by
 unfold lay;rw[CU,B7];simp
theorem JC{n:Nat}(h:n<=20000):n<sizeLine:=Ev h (by decide)
def has(kvs:List (Key×V))(k:Nat):Prop:=(valV kvs (.inl (k:Int))).isSome=true
theorem has_put{kvs:List (Key×V)}{a k:Nat}{v:V}:has (putK kvs (.inl (a:Int)) v) k↔k=a\/has kvs k:=by
 unfold has;rw[Cw];by_cases e:k=a
 ·subst e;simp
 ·rw[if_neg (λz=>e (by injection z with z;lia))]
  exact ⟨.inr,λh=>h.resolve_left e⟩
def rcOf(kvs:List (Key×V))(i:Nat):List Nat:=((AX i).map (·+2)).filter λk=>(valV kvs (.inl (k:Int))).isSome
theorem Nf(kvs:List (Key×V))(i:Nat):rcOf kvs (i+1)=rcOf kvs i++if (valV kvs (.inl ((i+2:Nat):Int))).isSome=true then [i+2] else []:=by
 unfold rcOf;rw[K8,Ct,Cs,LY,B0,Sk]
theorem KR{kvs:List (Key×V)}{i k:Nat}:k∈rcOf kvs i↔2<=k/\k<i+2/\has kvs k:=by
 unfold rcOf has;rw[B7,BQ];constructor
 ·rintro⟨⟨a,ha,rfl⟩,h⟩
  rw[A2] at ha;exact ⟨by lia,by lia,h⟩
 ·rintro⟨h1,h2,h3⟩
  exact ⟨⟨k-2,A2.mpr (by lia),by lia⟩,h3⟩
theorem Xg(kvs:List (Key×V))(i:Nat):(rcOf kvs i).length<=i:=by
 unfold rcOf;refine BM (CB _ _) ?_;rw[AE,CI];exact AF _
theorem getD_map:∀(rows:List Row),(AX rows.length).map (λi=>rows.getD i (0,0,0))=rows:=λrows=>by
 apply EI;intro i;by_cases c:i<rows.length
 ·simp[c]
 ·simp[c]
theorem Yc{rows:List Row}{rc:List Nat}{t j m:Nat}(h:rc.Sublist ((AX m).map (·+2)))(hm:m<=rows.length):(lay rows t rc j).length<=(rows.filter λr=>decide (r.1=t)).length:=by
 have h1:(lay rows t rc j).Sublist (((AX rows.length).map (·+2)).filter λk=>decide (tieOf rows k=t)):=by
  unfold lay;exact (((Go _ _).trans h).trans ((List.range_sublist.mpr hm).map _)).filter _
 refine BM h1.length_le ?_;have e:(rows.filter λr=>decide (r.1=t))=(((AX rows.length).filter λi=>decide ((rows.getD i (0,0,0)).1=t)).map λi=>rows.getD i (0,0,0)):=by
  conv=>lhs;rw[<- getD_map rows]
  rw[HQ];rfl
 rw[e,AE,HQ,AE];exact AF _
theorem ACU(kvs:List (Key×V))(i:Nat):(rcOf kvs i).Sublist ((AX i).map (·+2)):=Jn
def ACz(K:Au):Sp:=λvs H Q _=>∃(d p:Addr) (r:Row) (x y:Nat) (kvs:List (Key×V)),vs=[.ref d,.ref p]/\H d=some (.dK kvs)/\rRowA K H r (.ref p)/\valV kvs (.inl (r.2.1:Int))=some (.int x)/\valV kvs (.inl (r.2.2:Int))=some (.int y) /\
 ∀t,H t=none->Q (.ref t) (upd H t (.tup [.int r.1,.int x,.int y]))
def Ua(K:Au):Sp:=λvs H Q _=>∃(l:Addr) (n top:Nat) (rows:List Row),vs=[.ref l,.int top]/\RowsAt K H l rows/\Ok n rows/\rows.length<=4100/\Knot rows top /\
 ∀(D:Addr) (rc:List Nat) (H':Hp),Same H H'->H D=none->H' D=some (.lst (iN rc))->Closed rows rc->(top<=1\/top∈rc)->(∀t j,(lay rows t rc j).length<=(rows.filter λr=>decide (r.1=t)).length)->(∀k∈rc,k=top\/∃k'∈rc,k<k'/\(outOf rows k'=k\/intoOf rows k'=k))->Q (.ref D) H'
section
variable{P:AL}{w:AQ}{K:Au}{mg:Str->Option Ap}{base:Heap}{f C:Addr}{fd:BV}
theorem ADm:FnScope ["places","row"] ["places","row"] (Ac sIn):=⟨rfl,rfl,rfl,by decide +kernel,rfl,by decide +kernel,by decide +kernel⟩
theorem ADT(F:Fun K "row_in_places" "row_in_places" sIn f fd):FnOk P w K mg base CX0 1 f fd ["places","row"] (ACz K):=by
 refine F.ok ADm (λvs H Q E h=>?_) (λcdv A outer s H vs Q E hr h=>?_)
 ·obtain ⟨d,p,r,x,y,kvs,rfl,_⟩:=h
  rfl
 obtain ⟨d,p,r,x,y,kvs,rfl,hd,⟨p',e,hp⟩,hx,hy,q⟩:=h;cases e;refine ⟨_,Aj (Ay (Cd (Aa (Bl Fb (pv 1) Ai (λ_ _=>rfl)) (Aa (OD (CW hr) (pv 0) (Bl Fb (pv 1) Ai (λ_ _=>rfl)) (λ_ _=>rfl)) (Aa (OD (CW hr) (pv 0) (Bl Fb (pv 1) Ai (λ_ _=>rfl)) (λ_ _=>rfl)) Af))))),?_⟩;refine ⟨_,rfl,ixA hp at0 ⟨_,rfl,_,rfl,ixA hp at1 ⟨d,.int x,rfl,?_,_,rfl,_,rfl,ixA hp at2 ⟨d,.int y,rfl,?_,(by show 3<=sizeLine;decide),q⟩⟩⟩⟩
 ·have:=DGet.k (k:=.inl (r.2.1:Int)) hd
  rw[hx] at this;exact this
 ·have:=DGet.k (k:=.inl (r.2.2:Int)) hd
  rw[hy] at this;exact this
theorem Oj:FnScope ["rows","top","reached","knot"] ["rows","top"] (Ac Gh):=⟨rfl,rfl,rfl,by decide +kernel,rfl,by decide +kernel,by decide +kernel⟩
theorem Xj(F:Fun K "reached_knots" "reached_knots" Gh f fd)(T:Txt K mg C):FnOk P w K mg base CX0 1 f fd ["rows","top"] (Ua K):=by
 refine F.ok Oj (λvs H Q E h=>?_) (λcdv A outer s H vs Q E hr h=>?_)
 ·obtain ⟨l,n,top,rows,rfl,_⟩:=h
  rfl
 obtain ⟨l,n,top,rows,rfl,hL,ok,r60,kt,q⟩:=h;refine ⟨_,Ah (BJ (i:=2) Oj.nd rfl (IE rfl) (Ur (Kp (pv 1) Ez Va) rfl rfl (by intro z;cases z) (by decide)))
  (Ah (Dg D1 rfl (Lj rfl T.range (Aa (pv 1) (Aa Ai (Aa (MK Im Ai) Af)))) (Aq (i:=3) Oj.nd rfl (B3 rfl))
   (Aj (CQ (Jr (Zh (CW hr) (pv 3) (pv 2)))
    (Ah (HF (CW hr) (pv 2) (Bl Fb (Bl Fb (pv 0) (Ar DK (pv 3) Ai) (λ_ _=>rfl)) Ai (λ_ _=>rfl)) Ez rfl)
    (Aj (HF (CW hr) (pv 2) (Bl Fb (Bl Fb (pv 0) (Ar DK (pv 3) Ai) (λ_ _=>rfl)) Ai (λ_ _=>rfl)) Ez rfl))) Bc)))
  (Aj (Ay (Ca (Ac Gh) ["knot"] ["reached"] [2] rfl rfl (by decide +kernel) ⟨⟨rfl,by decide +kernel⟩,trivial⟩ (WK rfl T.range (Aa Ai (Aa (Ar Cg (pv 1) Ai) Af)))
   (λ_ _ _=>Aq (i:=0) (show ((["knot"]:List Str)++(["reached"]:List Str)).Nodup by decide +kernel) rfl (B3 rfl))
   (λ_ _ _=>Ce (Jr (Zh (CW hr) (pv 0) (pv 1)) rfl))
   (λ_ _ _=>pv 0))))),?_⟩
 refine λD hD=>⟨_,rfl,Ab,[(.inl (top:Int),.bl true)],rfl,(by show 1<=15;decide),?_⟩;have s0:Same H (upd (upd H D (.dK [])) D (.dK (mergeK [] [(.inl (top:Int),.bl true)]))):=λb o e=>by rw[Ae (Ad e hD),Ae (Ad e hD)];exact e
 refine ⟨_,rfl,_,rfl,(top:Int),1,rfl,⟨by lia,by have:top<rows.length+2:=kt;lia,by lia,by lia⟩,?_⟩;refine Qn (lo:=(top:Int)) (n:=((top:Int)-1).toNat) (λi σ H2=>∃(kvs:List (Key×V)) (kv:Option V),σ=[some (.ref l),some (.int top),some (.ref D),kv]/\Same H H2/\H2 D=some (.dK kvs)/\kvs.length<=1+2*i/\has kvs top /\
   (∀k:Nat,top<k+i->k<=top->has kvs k->has kvs (outOf rows k)/\has kvs (intoOf rows k))/\(∀k:Nat,has kvs k->k<=top)/\∀k:Nat,2<=k->has kvs k->k=top\/∃k',2<=k'/\has kvs k'/\k<k'/\(outOf rows k'=k\/intoOf rows k'=k))
  ⟨_,none,rfl,s0,Ab,by show 1<=1;decide,?_,λk h1 h2=>by lia,?_,?_⟩ ?_ ?_
 ·show has (putK [] (.inl (top:Int)) (.bl true)) top
  exact has_put.mpr (.inl rfl)
 ·intro k hk
  rcases has_put.mp (show has (putK [] (.inl (top:Int)) (.bl true)) k from hk) with e | e
  ·lia
  ·exact absurd e (by intro z;cases z)
 ·intro k _ hk
  rcases has_put.mp (show has (putK [] (.inl (top:Int)) (.bl true)) k from hk) with e | e
  ·exact .inl e
  ·exact absurd e (by intro z;cases z)
 ·rintro i σ H2 hi ⟨kvs,kv,rfl,sm,eD,hl,ht,hc,hb,hpar⟩
  obtain ⟨k,ek,k2⟩:∃k:Nat,(top:Int)-i=k/\2<=k:=⟨((top:Int)-i).toNat,by lia,by lia⟩;have kk:Knot rows k:=by unfold Knot at *;lia
  rw[ek];refine ⟨_,rfl,_,rfl,D,_,rfl,DGet.k (k:=.inl (k:Int)) eD,_,rfl,?_⟩;refine ite2 (λc=>?_) (λc=>?_)
  ·have hL2:=hL.same sm
   obtain ⟨xs,p,hS,ha,hp⟩:=Oi hL2 kk k2;obtain ⟨_,lo,li,_⟩:=ok.low (Bj kk k2);have z1:kvs.length<sizeLine:=JC (by unfold Knot at kt;lia);refine ⟨_,rfl,_,rfl,_,rfl,_,_,rfl,rfl,ixA hS ha (ixA hp at1 ⟨D,_,rfl,.inl ⟨kvs,.inl ((rows.getD (k-2) (0,0,0)).2.1:Int),eD,rfl,z1,rfl⟩,?_⟩)⟩;have l1:=Bx kvs (.inl ((rows.getD (k-2) (0,0,0)).2.1:Int)) (.bl true);have z2:(putK kvs (.inl ((rows.getD (k-2) (0,0,0)).2.1:Int)) (.bl true)).length<sizeLine:=JC (by unfold Knot at kt;lia);have sm2:Same H (upd H2 D (.dK (putK kvs (.inl ((rows.getD (k-2) (0,0,0)).2.1:Int)) (.bl true)))):=λb o e=>by rw[Ae (Ad e hD)];exact sm b o e
   obtain ⟨xs2,p2,hS2,ha2,hp2⟩:=Oi (hL.same sm2) kk k2;refine ⟨_,rfl,_,rfl,_,rfl,_,_,rfl,rfl,ixA hS2 ha2 (ixA hp2 at2 ⟨D,_,rfl,.inl ⟨_,.inl ((rows.getD (k-2) (0,0,0)).2.2:Int),Ab,rfl,z2,rfl⟩,?_⟩)⟩;have l2:=Bx (putK kvs (.inl ((rows.getD (k-2) (0,0,0)).2.1:Int)) (.bl true)) (.inl ((rows.getD (k-2) (0,0,0)).2.2:Int)) (.bl true);have hup:∀k',has (putK (putK kvs (.inl ((rows.getD (k-2) (0,0,0)).2.1:Int)) (.bl true)) (.inl ((rows.getD (k-2) (0,0,0)).2.2:Int)) (.bl true)) k'->k'=outOf rows k\/k'=intoOf rows k\/has kvs k':=λk' h=>by
    rcases has_put.mp h with e | h
    ·exact .inr (.inl e)
    rcases has_put.mp h with e | h
    ·exact .inl e
    exact .inr (.inr h)
   have hkk:has kvs k:=c;have kle:k<=top:=by lia
   have lo':outOf rows k<k:=by unfold outOf;lia
   have li':intoOf rows k<k:=by unfold intoOf;lia
   refine ⟨_,_,rfl,λb o e=>?_,Ab,by lia,has_put.mpr (.inr (has_put.mpr (.inr ht))),λk' h1 h2 h3=>?_,λk' h=>?_,λk' h2 h=>?_⟩
   ·rw[Ae (Ad e hD),Ae (Ad e hD)]
    exact sm b o e
   ·by_cases e:k'=k
    ·subst e
     exact ⟨has_put.mpr (.inr (has_put.mpr (.inl rfl))),has_put.mpr (.inl rfl)⟩
    ·have h4:has kvs k':=by
      rcases has_put.mp h3 with e' | h3
      ·lia
      rcases has_put.mp h3 with e' | h3
      ·lia
      exact h3
     obtain ⟨y1,y2⟩:=hc k' (by lia) h2 h4;exact ⟨has_put.mpr (.inr (has_put.mpr (.inr y1))),has_put.mpr (.inr (has_put.mpr (.inr y2)))⟩
   ·rcases hup k' h with e | e | e
    ·lia
    ·lia
    ·exact hb k' e
   ·have keep:has (putK (putK kvs (.inl ((rows.getD (k-2) (0,0,0)).2.1:Int)) (.bl true)) (.inl ((rows.getD (k-2) (0,0,0)).2.2:Int)) (.bl true)) k:=has_put.mpr (.inr (has_put.mpr (.inr hkk)))
    rcases hup k' h with e | e | e
    ·exact .inr ⟨k,k2,keep,by lia,.inl e.symm⟩
    ·exact .inr ⟨k,k2,keep,by lia,.inr e.symm⟩
    ·rcases hpar k' h2 e with z | ⟨u,z1,z2,z3⟩
     ·exact .inl z
     ·exact .inr ⟨u,z1,has_put.mpr (.inr (has_put.mpr (.inr z2))),z3⟩
  ·refine ⟨kvs,_,rfl,sm,eD,by lia,ht,λk' h1 h2 h3=>?_,hb,hpar⟩
   by_cases e:k'=k
   ·subst e
    exact absurd h3 c
   ·exact hc k' (by lia) h2 h3
 ·rintro σ H2 ⟨kvs,kv,rfl,sm,eD,hl,ht,hc,hb,hpar⟩
  refine ⟨_,rfl,_,_,rfl,rfl,2,(top:Int)+1,rfl,⟨by lia,by lia,by lia,by unfold Knot at kt;lia⟩,λL hL0=>?_⟩;have neL:D≠L:=λe=>by rw[<- e,eD] at hL0;cases hL0
  have nL:H L=none:=sm.free hL0;refine FN (lo:=2) (n:=((top:Int)+1-2).toNat) (λi τ H3=>∃kv:Option V,τ=[kv,some (.ref D)]/\Same H H3/\H3 D=some (.dK kvs)/\H3 L=some (.lst (iN (rcOf kvs i)))) ⟨none,rfl,sm.trans (Same.new hL0 _),by rw[Ae neL];exact eD,Ab⟩ ?_ ?_
  ·rintro i τ H3 hi ⟨kv,rfl,sm3,eD3,eL3⟩
   have ei:(2:Int)+i=((i+2:Nat):Int):=by lia
   rw[ei];refine ⟨_,rfl,_,rfl,D,_,rfl,DGet.k (k:=.inl ((i+2:Nat):Int)) eD3,_,rfl,?_⟩;have lr:=Xg kvs i;refine ite2 (λc=>?_) (λc=>?_)
   ·refine ⟨_,rfl,_,eL3,JC (by rw[AE];unfold Knot at kt;lia),_,rfl,λb o e=>?_,by rw[Ae neL];exact eD3,?_⟩
    ·rw[Ae (Ad e nL)]
     exact sm3 b o e
    ·rw[Ab,Nf,if_pos c]
     unfold iN;rw[Ct];rfl
   ·refine ⟨_,rfl,sm3,eD3,?_⟩
    rw[eL3,Nf,if_neg c,B9]
  ·rintro τ H3 ⟨kv,rfl,sm3,eD3,eL3⟩
   have all:∀k,k∈rcOf kvs ((top:Int)+1-2).toNat->2<=k/\k<=top/\has kvs k:=λk hk=>by
    obtain ⟨a,b,c⟩:=KR.mp hk;exact ⟨a,by lia,c⟩
   have back:∀k,k<=top->has kvs k->k<=1\/k∈rcOf kvs ((top:Int)+1-2).toNat:=λk h1 h2=>by
    rcases C4 k 2 with c | c
    ·exact .inl (by lia)
    ·exact .inr (KR.mpr ⟨c,by lia,h2⟩)
   have kn:∀k,k<=top->Knot rows k:=λk h=>by unfold Knot at *;lia
   refine q L _ H3 sm3 nL eL3 ⟨λk hk=>(all k hk).1,λk hk=>kn k (all k hk).2.1,λk hk=>?_,λk hk=>?_⟩ (back top (AF _) ht) (λt j=>Yc (ACU _ _) (by unfold Knot at kt;lia)) (λk hk=>by
     obtain ⟨a1,b1,c1⟩:=all k hk;rcases hpar k a1 c1 with z | ⟨u,u2,z1,z2⟩
     ·exact .inl z
     ·exact .inr ⟨u,KR.mpr ⟨u2,by have:=hb u z1;lia,z1⟩,z2⟩)
   ·obtain ⟨a,b,c⟩:=all k hk
    obtain ⟨_,lo,li,_⟩:=ok.low (Bj (kn k b) a);exact back _ (by unfold outOf;lia) (hc k (by lia) b c).1
   ·obtain ⟨a,b,c⟩:=all k hk
    obtain ⟨_,lo,li,_⟩:=ok.low (Bj (kn k b) a);exact back _ (by unfold intoOf;lia) (hc k (by lia) b c).2
end
def ik3(r:Row):List Key:=[.inl (r.1:Int),.inl (r.2.1:Int),.inl (r.2.2:Int)]
abbrev r3(r:Row):List V:=[.int r.1,.int r.2.1,.int r.2.2]
def r3i(r:Row):List Int:=[(r.1:Int),(r.2.1:Int),(r.2.2:Int)]
theorem AAt{a b:Row}(h:ik3 a=ik3 b):a=b:=by
 obtain ⟨a1,a2,a3⟩:=a;obtain ⟨b1,b2,b3⟩:=b;simp[ik3] at h;obtain ⟨h1,h2,h3⟩:=h;injection h1 with h1
 injection h2 with h2
 injection h3 with h3
 have e1:a1=b1:=by lia
 have e2:a2=b2:=by lia
 have e3:a3=b3:=by lia
 rw[e1,e2,e3]
theorem JT{a b:Row}(h:r3i a=r3i b):a=b:=by
 obtain ⟨a1,a2,a3⟩:=a;obtain ⟨b1,b2,b3⟩:=b;simp[r3i] at h;obtain ⟨h1,h2,h3⟩:=h;have e1:a1=b1:=by lia
 have e2:a2=b2:=by lia
 have e3:a3=b3:=by lia
 rw[e1,e2,e3]
def numKV:Nat->List Row->List (List Key×V)
 | _,[]=>[]
 | i,r::rs=>(ik3 r,.int (i:Int))::numKV (i+1) rs
def numOf:Nat->List Row->Row->Option Nat
 | _,[],_=>none
 | i,a::rs,r=>if a=r then some i else numOf (i+1) rs r
theorem Ip:∀(i:Nat) (nums:List Row),(numKV i nums).length=nums.length
 | _,[]=>rfl
 | i,_::rs=>by show (numKV (i+1) rs).length+1=rs.length+1;rw[Ip]
theorem Io(r:Row):∀(i:Nat) (nums:List Row),valV (numKV i nums) (ik3 r)=(numOf i nums r).map λ(m:Nat)=>V.int (m:Int)
 | _,[]=>rfl
 | i,a::rs=>by
  by_cases e:a=r
  ·rw[numKV,Bp (by show ik3 a=ik3 r;rw[e]),numOf,if_pos e];rfl
  ·rw[numKV,Bq (λz=>e (AAt z)),numOf,if_neg e];exact Io r (i+1) rs
theorem Kh(r:Row):∀(i:Nat) (nums:List Row) (m:Nat),numOf i nums r=some m->∃j,nums[j]?=some r/\m=i+j
 | _,[],_,h=>by cases h
 | i,a::rs,m,h=>by
  unfold numOf at h;by_cases e:a=r
  ·rw[if_pos e] at h
   cases h;exact ⟨0,by rw[e];rfl,rfl⟩
  ·rw[if_neg e] at h
   obtain ⟨j,h1,h2⟩:=Kh r (i+1) rs m h;exact ⟨j+1,by simpa using h1,by lia⟩
theorem Jm(r:Row):∀(i:Nat) (nums:List Row),numOf i nums r=none->r∉nums
 | _,[],_=>λh=>nomatch h
 | i,a::rs,h=>by
  unfold numOf at h;by_cases e:a=r
  ·rw[if_pos e] at h;cases h
  ·rw[if_neg e] at h
   intro hm;rcases Bz.mp hm with rfl | hm
   ·exact e rfl
   ·exact Jm r (i+1) rs h hm
theorem Mi(r:Row):∀(i:Nat) (nums:List Row),r∉nums->numOf i nums r=none
 | _,[],_=>rfl
 | i,a::rs,h=>by
  unfold numOf;rw[if_neg (λe=>h (by rw[e];exact AD ..))];exact Mi r (i+1) rs λz=>h (AG _ z)
theorem La:∀(i:Nat) (nums:List Row) (r:Row),numKV i (nums++[r])=numKV i nums++[(ik3 r,.int ((i+nums.length:Nat):Int))]
 | i,[],r=>rfl
 | i,a::rs,r=>by
  show (ik3 a,V.int (i:Int))::numKV (i+1) (rs++[r])=(ik3 a,V.int (i:Int))::(numKV (i+1) rs++[(ik3 r,V.int ((i+(rs.length+1):Nat):Int))]);rw[La (i+1) rs r];rw[show i+1+rs.length=i+(rs.length+1) by lia]
theorem Wi{nums:List Row}{r:Row}(h:r∉nums):putK (numKV 2 nums) (ik3 r) (.int (((numKV 2 nums).length:Int)+2))=numKV 2 (nums++[r]):=by
 rw[FP _ (by rw[Io,Mi r 2 nums h];rfl),La,Ip]
 congr 4
 lia
theorem Le{K:Au}{H:Hp}:∀{i:Nat}{nums:List Row}{ys:List V},KeyL H (numKV i nums) ys->BE (rRow K H) nums ys
 | _,[],_,.nil=>.nil
 | i,r::rs,_,.cons ⟨b,e,hb⟩ t=>.cons ⟨b,e,SqT.of hb⟩ (Le t)
theorem Hz:∀(ms:List (List Int)),(∀m∈ms,∃r,m=r3i r)->∃new:List Row,ms=new.map r3i
 | [],_=>⟨[],rfl⟩
 | m::ms,h=>by
  obtain ⟨r,rfl⟩:=h m (AD ..);obtain ⟨new,rfl⟩:=Hz ms λx hx=>h x (AG _ hx);exact ⟨r::new,rfl⟩
theorem Ww:∀{new:List Row},(new.map r3i).Pairwise (λa b=>HT.lexLt a b=true)->new.Nodup:=λ{new} h=>by
 have h2:new.Pairwise (λa b=>HT.lexLt (r3i a) (r3i b)=true):=CY.mp h;exact h2.imp λ{a b} z e=>by rw[e,KH] at z;cases z
def plOf(pl:Nat->Option Nat)(place:Nat->Nat)(ks:List Nat)(k:Nat):Option Nat:=if k∈ks then some (place k) else pl k
theorem Xh{pl:Nat->Option Nat}{place:Nat->Nat}{ks:List Nat}{a k:Nat}:plOf pl place (ks++[a]) k=if k=a then some (place a) else plOf pl place ks k:=by
 unfold plOf;by_cases e:k=a
 ·subst e;simp
 ·by_cases h:k∈ks
  ·simp[h,e]
  ·simp[h,e]
def PlD(kvs:List (Key×V))(pl:Nat->Option Nat):Prop:=∀k:Nat,valV kvs (.inl (k:Int))=(pl k).map λ(p:Nat)=>V.int (p:Int)
theorem PlD.put{kvs:List (Key×V)}{pl:Nat->Option Nat}{place:Nat->Nat}{ks:List Nat}{a:Nat}(h:PlD kvs (plOf pl place ks)):PlD (putK kvs (.inl (a:Int)) (.int (place a:Nat))) (plOf pl place (ks++[a])):=λk=>by
 rw[Cw,Xh];by_cases e:k=a
 ·subst e;rw[if_pos rfl,if_pos rfl];rfl
 ·rw[if_neg (λz=>e (by injection z with z;lia)),if_neg e]
  exact h k
end K54s
end
section
namespace G
section
variable{n t:Nat}{A rows nums:List Row}{rc:List Nat}{pl:Nat->Option Nat}
def FewB(rows:List Row)(top:Nat):Prop:=∃P:Nat->Prop,P top/\(∀k,P k->2<=k->Knot rows k->P (outOf rows k)/\P (intoOf rows k)) /\
 ∀(t:Nat) (ks:List Nat),(∀k∈ks,P k/\2<=k/\Knot rows k/\tieOf rows k=t/\∃s,led rows (intoOf rows k) s=true)->ks.Pairwise (λa b=>∃s,led rows a s≠led rows b s)->ks.length<=300
theorem FewB.sel{top:Nat}(F:FewB rows top)(I:Kept2 n (t+1) rows rc nums pl)(c:Closed rows rc)(o:Ok n rows)(hn:t<n)(par:∀k∈rc,k=top\/∃k'∈rc,k<k'/\(outOf rows k'=k\/intoOf rows k'=k)) :
  ∀new:List Row,new.Nodup->(∀r∈new,∃k,k∈rc/\tieOf rows k=t/\r=rowIn rows pl k/\r.2.2≠0)->new.length<=300:=by
 intro new nd hw;obtain ⟨P,pt,ps,few⟩:=F;have hP:∀k∈rc,P k:=λk hk=>Xa pt ps c par _ k (AF _) hk;obtain ⟨g,hg⟩:∃g:Row->Nat,∀r∈new,g r∈rc/\tieOf rows (g r)=t/\r=rowIn rows pl (g r)/\r.2.2≠0 :=
  ⟨λr=>if h:r∈new then EC (hw r h) else 0,λr h=>by
   dsimp only;rw[dif_pos h];exact EW (hw r h)⟩
 have okN:=I.base.least.ok;have key:∀r∈new,∃a b,r=(t,a,b)/\Knot nums a/\Knot nums b/\b≠0/\(∀s,led nums a s=led rows (outOf rows (g r)) s)/\(∀s,led nums b s=led rows (intoOf rows (g r)) s)/\(∀xs,led rows (g r) (t::xs)=led nums b xs)/\∀s,led nums a s=if lowH t s=true then false else led rows (g r) s:=λr hr=>by
  obtain ⟨hk,ht,e,w0⟩:=hg r hr;obtain ⟨a,b,ea,eb,re,x1,x2,x3,x4⟩:=I.base.row c o hn hk ht;obtain ⟨_,z1,z2⟩:=c.low o hk;have la:∀s,led nums a s=led rows (outOf rows (g r)) s:=I.low (c.out _ hk) (by rw[<- ht];exact z1) ea;have lb:∀s,led nums b s=led rows (intoOf rows (g r)) s:=I.low (c.into _ hk) (by rw[<- ht];exact z2) eb;have kk:=c.knot _ hk;have k2:=c.two _ hk;have et:(rows.getD (g r-2) (0,0,0)).1=t:=ht;refine ⟨a,b,e.trans re,x1,x2,?_,la,lb,λxs=>?_,λs=>?_⟩
  ·rw[e,re] at w0
   exact w0
  ·rw[Br o kk k2,et,if_neg (FE _),if_pos rfl,lb]
   rfl
  ·cases s with
   | nil=>rw[la,Du o kk k2,if_neg (by intro z;cases z)];rfl
   | cons x xs =>
    by_cases cs:x<=t
    ·rw[if_pos (show lowH t (x::xs)=true from decide_eq_true cs)]
     exact off okN x1 (by lia)
    ·rw[if_neg (show ¬ lowH t (x::xs)=true from λz=>cs (of_decide_eq_true z)),la,Br o kk k2,et,if_neg (by lia),if_neg (by lia)]
     rfl
 have:=few t (new.map g) (λk hk=>by
  obtain ⟨r,hr,rfl⟩:=BQ.mp hk;obtain ⟨h1,h2,h3,h4⟩:=hg r hr;obtain ⟨a,b,_,_,kb,b0,_,lb,_⟩:=key r hr;refine ⟨hP _ h1,c.two _ h1,c.knot _ h1,h2,?_⟩;obtain ⟨s,w,_⟩:=KC I.base.least (b+1) b (G6 _) kb b0;exact ⟨s,by rw[<- lb];exact w.1⟩) (by
  rw[CY];refine DV (λ{r r'} hr hr' ne=>?_) nd;refine Cb λh=>ne ?_;have same:∀s,led rows (g r) s=led rows (g r') s:=λs=>Cb λz=>h ⟨s,z⟩;obtain ⟨a,b,er,ka,kb,_,_,_,lb,la⟩:=key r hr;obtain ⟨a',b',er',ka',kb',_,_,_,lb',la'⟩:=key r' hr';have e1:a=a':=Ut I.base.least ka ka' λs=>by rw[la,la',same]
  have e2:b=b':=Ut I.base.least kb kb' λs=>by rw[<- lb,<- lb',same]
  rw[er,er',e1,e2])
 rwa [AE] at this
theorem Hj{α:Type}[DecidableEq α]:∀{l₁ l₂:List α},l₁.Nodup->(∀x∈l₁,x∈l₂)->l₁.length<=l₂.length
 | [],_,_,_=>BH _
 | a::t,l₂,nd,hs=>by
  obtain ⟨n1,n2⟩:=C7.mp nd;have ha:a∈l₂:=hs a AD;have hl:(l₂.erase a).length=l₂.length-1:=Ha ha;have ih:=Hj (l₂:=l₂.erase a) n2 λx hx=>(IR (λ(e:x=a)=>n1 (by rw[<- e];exact hx))).mpr (hs x (AG _ hx));have:0<l₂.length:=KB ha;simp;lia
def allB:Nat->List (List Bool)
 | 0=>[[]]
 | n+1=>(allB n).map (true::·)++(allB n).map (false::·)
theorem Pr:∀n,(allB n).length=2 ^ n
 | 0=>rfl
 | n+1=>by
  show ((allB n).map (true::·)++(allB n).map (false::·)).length=_;rw[BC,AE,AE,Pr n,J0];lia
theorem RQ:∀{n:Nat}{l:List Bool},l.length=n->l∈allB n
 | 0,[],_=>by simp[allB]
 | n+1,b::l,h=>by
  have:=RQ (n:=n) (l:=l) (by simpa using h);show b::l∈(allB n).map (true::·)++(allB n).map (false::·);cases b with
  | true=>exact E7 _ (EN this)
  | false=>exact B6 _ (EN this)
 | 0,_::_,h=>by cases h
 | _+1,[],h=>by cases h
def subs12:List (List Nat):=[[],[9],[10],[11],[9,10],[9,11],[10,11],[9,10,11]]
theorem AAw{s:List Nat}(w:s.Pairwise (· < ·))(bd:∀x∈s,9<=x/\x<12):s∈subs12:=by
 match s,w,bd with
 | [],_,_=>exact by decide
 | [x],_,bd =>
  have:=bd x (AD ..);have:x=9\/x=10\/x=11:=by lia
  rcases this with rfl | rfl | rfl<;>decide
 | [x,y],w,bd =>
  have h1:=bd x (AD ..);have h2:=bd y (AG _ (AD ..));have lt:x<y:=(CO.mp w).1 y (AD ..);have:(x=9/\y=10)\/(x=9/\y=11)\/(x=10/\y=11):=by lia
  rcases this with⟨rfl,rfl⟩ | ⟨rfl,rfl⟩ | ⟨rfl,rfl⟩<;>decide
 | x::y::z::r,w,bd =>
  have h1:=bd x (AD ..);have h2:=bd y (AG _ (AD ..));have h3:=bd z (AG _ (AG _ (AD ..)));have l1:x<y:=(CO.mp w).1 y (AD ..);have w2:=(CO.mp w).2;have l2:y<z:=(CO.mp w2).1 z (AD ..);obtain rfl:x=9:=by lia
  obtain rfl:y=10:=by lia
  obtain rfl:z=11:=by lia
  cases r with
  | nil=>decide
  | cons u r =>
   have hu:=bd u (by simp);have l3:11<u:=(CO.mp (CO.mp w2).2).1 u (AD ..);lia
theorem Ra{n:Nat}{rows:List Row}(o:Ok n rows)(n12:n<=12)(c:Cnt 0 rows)(top:Nat):FewB rows top:=by
 refine ⟨λ_=>True,trivial,λ_ _ _ _=>⟨trivial,trivial⟩,λt ks hk un=>?_⟩;have nd:ks.Nodup:=un.imp λ{a b} ⟨s,h⟩ e=>h (by rw[e]);rcases C4 t 9 with c9 | c9
 ·have z:=XF (A:=rows) (t:=t) ks (λk h=>⟨(hk k h).2.1,(hk k h).2.2.1,(hk k h).2.2.2.1⟩) nd
  have y:=c t;rw[if_neg (by lia),UY] at y;have:2 ^ t<=2 ^ 8:=Fm (by decide) (by lia);lia
 ·have lim:∀{k:Nat}{s:List Nat},Knot rows k->2<=k->tieOf rows k=t->led rows k s=true->s∈subs12:=λ{k s} kn k2 tk ld=>by
   have I0:=Hw _ _ rfl o _ kn;obtain ⟨w1,w2⟩:=I0.way s ((I0.mem s).mpr ld);refine AAw w1 λx hx=>?_;have z:=w2 x hx;unfold rank at z;rw[if_neg (by lia)] at z;have e:(rows.getD (k-2) (0,0,0)).1=t:=tk;lia
  have z:=Hj (l₁:=ks.map λk=>subs12.map (led rows k)) (l₂:=allB 8) (by
   unfold J5;rw[CY];refine DV (λ{a b} ha hb ⟨s,ne⟩ e=>ne ?_) un;obtain ⟨_,a2,ka,ta,_⟩:=hk a ha;obtain ⟨_,b2,kb,tb,_⟩:=hk b hb;have same:∀s∈subs12,led rows a s=led rows b s:=λs hs=>(List.map_inj_left.mp e) s hs;cases ea:led rows a s with
   | true=>rw[<- same s (lim ka a2 ta ea),ea]
   | false =>
    cases eb:led rows b s with
    | true=>rw[<- same s (lim kb b2 tb eb),ea] at eb;exact eb
    | false=>rfl) λx hx=>by
   obtain ⟨k,_,rfl⟩:=BQ.mp hx;exact RQ (by rw[AE];rfl)
  rw[AE,Pr] at z;lia
end
end G
end
section
namespace SB
open PySem PySem.SetTable
def iter{α:Type}(f:α->α):Nat->α->α
 | 0,x=>x
 | n+1,x=>iter f n (f x)
theorem Bs{α:Type}(f:α->α):∀(m n:Nat) (x:α),iter f (m+n) x=iter f n (iter f m x)
 | 0,n,x=>by rw[Hb];rfl
 | m+1,n,x=>by
  rw[Nat.succ_add];exact Bs f m n (f x)
theorem Wt{α:Type}(f:α->α)(n:Nat)(x:α):iter f (n+1) x=f (iter f n x):=Bs f n 1 x
def Mask(m:Nat):Prop:=m=7\/m=31\/m=127\/m=511
def step(M:Nat)(p:GY):GY :=
 if p.more>0 then {p with j:=p.j+1,more:=p.more-1} else
 {p with j:=(leap M p.i p.perturb).1,more:=EH M (leap M p.i p.perturb).1-(leap M p.i p.perturb).1,i:=(leap M p.i p.perturb).1,perturb:=(leap M p.i p.perturb).2}
theorem Gi(t:CS)(p:GY):t.advance p=step t.mask p:=by
 unfold advance step;split<;>rfl
theorem Om(M i:Nat):EH M i-i<=9:=by
 unfold EH;split<;>lia
structure Fine(M:Nat)(p:GY):Prop where
 more:p.more<=9
 i:p.i<=M
 j:p.j<=M
 jm:p.j+p.more<=M
 dummy:p.dummy=none
theorem Rv{M i:Nat}(h:i<=M):i+(EH M i-i)<=M:=by
 unfold EH;split<;>lia
theorem Hs(M i p:Nat):(leap M i p).1<=M:=by
 unfold leap;have:=K9 (i*5+1+p / 32) (show 0<M+1 by lia);show (i*5+1+p / 32)%(M+1)<=M;lia
theorem Fine.step{M:Nat}{p:GY}(h:Fine M p):Fine M (step M p):=by
 unfold SB.step;by_cases c:p.more>0
 ·rw[if_pos c]
  have:=h.jm;have:=h.more;exact ⟨by show p.more-1<=9;lia,h.i,by show p.j+1<=M;lia,by show p.j+1+(p.more-1)<=M;lia,h.dummy⟩
 ·rw[if_neg c]
  exact ⟨Om _ _,Hs _ _ _,Hs _ _ _,Rv (Hs _ _ _),h.dummy⟩
theorem Fine.iter{M:Nat}:∀(n:Nat) {p:GY},Fine M p->Fine M (iter (SB.step M) n p)
 | 0,_,h=>h
 | n+1,_,h=>Fine.iter n h.step
theorem Fine.start(t:CS)(h:Int):Fine t.mask (t.probeStart h):=by
 have:=K9 (bits h) (show 0<t.mask+1 by lia);have hi:bits h%(t.mask+1)<=t.mask:=by lia
 exact ⟨Om _ _,hi,hi,Rv hi,rfl⟩
theorem VN{M:Nat}:∀(k:Nat) {p:GY},p.more=k->∃q,SB.iter (step M) (k+1) p=q/\q.i=(leap M p.i p.perturb).1/\q.perturb=(leap M p.i p.perturb).2/\q.j=q.i/\q.more<=9
 | 0,p,e=>by
  refine ⟨_,rfl,?_⟩;show (step M p).i=_/\(step M p).perturb=_/\(step M p).j=(step M p).i/\(step M p).more<=9;unfold step;rw[if_neg (by lia)];exact ⟨rfl,rfl,rfl,Om _ _⟩
 | k+1,p,e=>by
  have hs:step M p={p with j:=p.j+1,more:=p.more-1}:=by unfold step;rw[if_pos (by lia)]
  obtain ⟨q,h1,h2⟩:=VN (M:=M) k (p:=step M p) (by rw[hs];show p.more-1=k;lia);rw[hs] at h2;exact ⟨q,h1,h2⟩
def leaps(M:Nat):Nat->Nat×Nat->Nat×Nat:=SB.iter (λx=>leap M x.1 x.2)
theorem KD{M:Nat}:∀(k:Nat) {p:GY},p.more<=9->∃m,m<=10*k/\((SB.iter (step M) m p).i,(SB.iter (step M) m p).perturb)=leaps M k (p.i,p.perturb)/\(SB.iter (step M) m p).more<=9/\(0<k->(SB.iter (step M) m p).j=(SB.iter (step M) m p).i)
 | 0,p,h=>⟨0,by lia,rfl,h,λz=>absurd z (by lia)⟩
 | k+1,p,h=>by
  obtain ⟨q,e,q1,q2,q3,q4⟩:=VN (M:=M) p.more (p:=p) rfl;obtain ⟨m,hm,h1,h2,h3⟩:=KD k q4;refine ⟨(p.more+1)+m,by lia,?_,?_,λ_=>?_⟩
  ·rw[Bs,e,h1]
   show leaps M k (q.i,q.perturb)=leaps M k (leap M p.i p.perturb);rw[q1,q2]
  ·rw[Bs,e];exact h2
  ·rw[Bs,e]
   by_cases c:0<k
   ·exact h3 c
   ·have:k=0:=by lia
    subst this;have:m=0:=by lia
    subst this;exact q3
theorem Ea{M:Nat}:∀(k:Nat) (x:Nat×Nat),(leaps M k x).2=x.2 / 32 ^ k
 | 0,x=>by simp[leaps,SB.iter]
 | k+1,x=>by
  show (leaps M k (leap M x.1 x.2)).2=_;rw[Ea k];show x.2 / 32 / 32 ^ k=_;rw[Nat.div_div_eq_div_mul,J0,Nat.mul_comm]
def lc(n i:Nat):Nat:=(i*5+1)%n
theorem Gj{M:Nat}:∀(k i:Nat),leaps M k (i,0)=(SB.iter (lc (M+1)) k i,0)
 | 0,i=>rfl
 | k+1,i=>by
  show leaps M k (leap M i 0)=_;have:leap M i 0=(lc (M+1) i,0):=by unfold leap lc;simp
  rw[this,Gj k];rfl
theorem cyc8:∀j,j<8->∃k,k<8/\SB.iter (lc 8) k 0=j:=by decide +kernel
theorem cyc32:∀j,j<32->∃k,k<32/\SB.iter (lc 32) k 0=j:=by decide +kernel
theorem cyc128:∀j,j<128->∃k,k<128/\SB.iter (lc 128) k 0=j:=by decide +kernel
def iters(f:Nat->Nat):Nat->Nat->List Nat
 | 0,_=>[]
 | n+1,x=>x::iters f n (f x)
theorem QM(f:Nat->Nat):∀(n x j:Nat),j∈iters f n x->∃k,k<n/\SB.iter f k x=j
 | 0,x,j,h=>by cases h
 | n+1,x,j,h=>by
  rcases Bz.mp h with rfl | h
  ·exact ⟨0,Nat.zero_lt_succ _,rfl⟩
  ·obtain ⟨k,hk,e⟩:=QM f n (f x) j h
   exact ⟨k+1,Nat.succ_lt_succ hk,e⟩
theorem all512:((AX 512).all λj=>(iters (lc 512) 512 0).contains j)=true:=by decide +kernel
theorem cyc512:∀j,j<512->∃k,k<512/\SB.iter (lc 512) k 0=j:=λj hj=>QM _ _ _ _ (List.contains_iff_mem.mp (FM.mp all512 j (A2.mpr hj)))
theorem cyc{M:Nat}(h:Mask M):(∀j,j<M+1->∃k,k<M+1/\SB.iter (lc (M+1)) k 0=j)/\SB.iter (lc (M+1)) (M+1) 0=0:=by
 rcases h with rfl | rfl | rfl | rfl
 ·exact ⟨cyc8,by decide +kernel⟩
 ·exact ⟨cyc32,by decide +kernel⟩
 ·exact ⟨cyc128,by decide +kernel⟩
 ·exact ⟨cyc512,by decide +kernel⟩
theorem Uo{M:Nat}(h:Mask M){i j:Nat}(hi:i<M+1)(hj:j<M+1):∃k,k<M+1/\SB.iter (lc (M+1)) k i=j:=by
 obtain ⟨c1,c2⟩:=cyc h;obtain ⟨a,ha,ea⟩:=c1 i hi;obtain ⟨b,hb,eb⟩:=c1 j hj;by_cases c:a<=b
 ·refine ⟨b-a,by lia,?_⟩
  rw[<- ea,<- Bs,show a+(b-a)=b by lia,eb]
 ·refine ⟨M+1+b-a,by lia,?_⟩
  rw[<- ea,<- Bs,show a+(M+1+b-a)=(M+1)+b by lia,Bs,c2,eb]
theorem Bg:∀{l₁ l₂:List Nat},l₁.Nodup->(∀x∈l₁,x∈l₂)->l₁.length<=l₂.length
 | [],_,_,_=>BH _
 | a::t,l₂,nd,hs=>by
  obtain ⟨n1,n2⟩:=C7.mp nd;have ha:a∈l₂:=hs a AD;have hl:(l₂.erase a).length=l₂.length-1:=Ha ha;have ih:=Bg (l₂:=l₂.erase a) n2 λx hx=>(IR (λ(e:x=a)=>n1 (by rw[<- e];exact hx))).mpr (hs x (AG _ hx));have:0<l₂.length:=KB ha;simp;lia
theorem ABP{M:Nat}{place:Array Nat}(h:place.size<=M):∃j,j<M+1/\j∉place.toList:=by
 refine Cb λc=>?_;have all:∀j∈AX (M+1),j∈place.toList:=λj hj=>Cb λz=>c ⟨j,A2.mp hj,z⟩;have:=Bg FS all;rw[CI,AV] at this;lia
theorem Ox(h:Int):bits h<2 ^ 64:=by
 unfold bits;have h1:=Fk h (show (2 ^ 64:Int)≠0 by decide);have h2:=EA h (show (0:Int)<2 ^ 64 by decide);lia
theorem KZ{M:Nat}:∀(n:Nat) (p:GY),(SB.iter (step M) n p).perturb<=p.perturb
 | 0,_=>AF _
 | n+1,p=>by
  refine BM (KZ n (step M p)) ?_;unfold step;split
  ·exact AF _
  ·exact Nat.div_le_self _ _
theorem LR{M:Nat}{place:Array Nat}(hM:Mask M)(hs:place.size<=M){p:GY}(hp:Fine M p)(hb:p.perturb<2 ^ 64):∃m,m<10*MH M/\(SB.iter (step M) m p).j∉place.toList:=by
 obtain ⟨j,hj,nj⟩:=ABP hs;obtain ⟨m1,hm1,e1,k1,_⟩:=KD (M:=M) 13 (p:=p) hp.more;generalize hq:SB.iter (step M) m1 p=q at *;have fq:Fine M q:=by rw[<- hq];exact hp.iter m1
 have pz:q.perturb=0:=by
  have h2:=congrArg Prod.snd e1;rw[Ea] at h2;have h3:q.perturb=p.perturb / 32 ^ 13:=h2;rw[h3];exact Rs (Cc hb (by decide))
 obtain ⟨k,hk,ek⟩:=Uo hM (i:=lc (M+1) q.i) (j:=j) (K9 _ (UZ _)) hj;obtain ⟨m2,hm2,e2,_,k2⟩:=KD (M:=M) (k+1) (p:=q) fq.more;refine ⟨m1+m2,?_,?_⟩
 ·unfold MH
  lia
 ·rw[Bs,hq,k2 (UZ _)]
  have h1:=congrArg U0 e2;rw[pz,Gj] at h1;have h2:(SB.iter (step M) m2 q).i=SB.iter (lc (M+1)) k (lc (M+1) q.i):=h1;rw[h2,ek];exact nj
theorem KQ{xs:Array Nat}{j:Nat}(so:xs.toList.Pairwise (· < ·)):∀(fuel lo hi:Nat),lo<=hi->hi<=xs.size->hi-lo<=fuel->(∀k,k<lo->xs.getD k j<j)->(∀k,hi<=k->k<xs.size->j<=xs.getD k j) ->
  (∀k,k<below.go xs j fuel lo hi->xs.getD k j<j)/\(∀k,below.go xs j fuel lo hi<=k->k<xs.size->j<=xs.getD k j)/\below.go xs j fuel lo hi<=xs.size
 | 0,lo,hi,h1,h2,h3,h4,h5=>by
  have:lo=hi:=by lia
  subst this;exact ⟨h4,h5,h2⟩
 | fuel+1,lo,hi,h1,h2,h3,h4,h5=>by
  unfold below.go;by_cases c:lo<hi
  ·rw[if_pos c]
   have hm:(lo+hi) / 2<xs.size:=by lia
   have so':=CF.mp so;have gd:∀k,k<xs.size->xs.getD k j=xs.toList.getD k j:=λk hk=>by simp[DH,hk]
   by_cases d:xs.getD ((lo+hi) / 2) j<j
   ·simp only[if_pos d]
    refine KQ so fuel _ hi (by lia) h2 (by lia) (λk hk=>?_) h5;by_cases e:k=(lo+hi) / 2
    ·rw[e];exact d
    ·have hk':k<(lo+hi) / 2:=by lia
     have z:=so' k ((lo+hi) / 2) (by simpa using (show k<xs.size by lia)) (by simpa using hm) hk';have g1:xs.getD k j=xs[k]'(by lia):=by simp[DH,show k<xs.size by lia]
     have g2:xs.getD ((lo+hi) / 2) j=xs[(lo+hi) / 2]'hm:=by simp[DH,hm]
     rw[g2] at d;rw[g1];simp at z;lia
   ·simp only[if_neg d]
    refine KQ so fuel lo _ (by lia) (by lia) (by lia) h4 (λk hk hk2=>?_);by_cases e:k=(lo+hi) / 2
    ·rw[e];lia
    ·have z:=so' ((lo+hi) / 2) k (by simpa using hm) (by simpa using hk2) (by lia)
     have g1:xs.getD k j=xs[k]'hk2:=by simp[DH,hk2]
     have g2:xs.getD ((lo+hi) / 2) j=xs[(lo+hi) / 2]'hm:=by simp[DH,hm]
     rw[g2] at d;rw[g1];simp at z;lia
  ·rw[if_neg c]
   have:lo=hi:=by lia
   subst this;exact ⟨h4,h5,h2⟩
theorem Ej{xs:Array Nat}{j:Nat}(so:xs.toList.Pairwise (· < ·)):(∀k,k<below xs j->xs.getD k j<j)/\(∀k,below xs j<=k->k<xs.size->j<=xs.getD k j)/\below xs j<=xs.size :=
 KQ so xs.size 0 xs.size (BH _) (AF _) (AF _) (λk hk=>absurd hk (by lia)) (λk h1 h2=>absurd h2 (by lia))
theorem below_at{xs:Array Nat}{j:Nat}(so:xs.toList.Pairwise (· < ·))(h:j∈xs.toList):xs[below xs j]?=some j:=by
 obtain ⟨b1,b2,b3⟩:=Ej (j:=j) so;obtain ⟨k,hk,e⟩:=CA.mp h;have hk':k<xs.size:=by simpa using hk
 have e':xs[k]=j:=by simpa using e
 have g1:xs.getD k j=j:=by simp[DH,hk',e']
 have h1:below xs j<=k:=by
  refine Cb λc=>?_;have:=b1 k (by lia);lia
 by_cases c:below xs j=k
 ·rw[c,A1 hk',e']
 ·have hb:below xs j<xs.size:=by lia
  have z:=CF.mp so (below xs j) k (by simpa using hb) hk (by lia);have b:=b2 (below xs j) (AF _) hb;have g2:xs.getD (below xs j) j=xs[below xs j]'hb:=by simp[DH,hb]
  rw[g2] at b;simp at z;lia
structure Tab(t:CS):Prop where
 mask:Mask t.mask
 none:t.dummies=#[]
 size:t.place.size<=t.mask
 le:∀j∈t.place.toList,j<=t.mask
 rise:t.place.toList.Pairwise (· < ·)
theorem slot_of{t:CS}(T:Tab t)(j:Nat):(t.slot j=.empty/\j∉t.place.toList)\/∃i,t.slot j=.live i/\t.place[i]?=some j:=by
 unfold slot;by_cases c:t.place[below t.place j]?=some j
 ·right
  exact ⟨below t.place j,by simp[c],c⟩
 ·left
  have hd:has t.dummies j=false:=by rw[T.none];unfold has;simp
  refine ⟨by simp[c,hd],λh=>c (below_at T.rise h)⟩
def way(t:CS)(p:GY)(m:Nat):Nat:=(SB.iter (step t.mask) m p).j
theorem QB(t:CS)(p:GY)(m:Nat):way t (step t.mask p) m=way t p (m+1):=rfl
theorem ABb{t:CS}(T:Tab t){hashAt:Nat->Int}{h:Int}:∀(fuel:Nat) (p:GY),p.dummy=none->(∃m,m<fuel/\way t p m∉t.place.toList) ->
  ∃m,(∀m',m'<m->∃i,t.place[i]?=some (way t p m')/\hashAt i≠h) /\
   (
    (way t p m∉t.place.toList/\LI t hashAt h fuel p=some (.empty (way t p m) none)) \/
    ∃i,t.place[i]?=some (way t p m)/\t.slot (way t p m)=.live i/\hashAt i=h/\LI t hashAt h fuel p=some (.candidate (way t p m) i (SB.iter (step t.mask) (m+1) p)))
 | 0,p,_,⟨m,hm,_⟩=>absurd hm (by lia)
 | fuel+1,p,hd,⟨m0,hm0,n0⟩=>by
  unfold LI;rcases slot_of T p.j with⟨e,ne⟩ | ⟨i,e,pi⟩
  ·refine ⟨0,λm' h=>absurd h (by lia),.inl ⟨ne,?_⟩⟩
   rw[e];show some (Met.empty p.j p.dummy)=_;rw[hd];rfl
  ·by_cases c:hashAt i=h
   ·refine ⟨0,λm' h=>absurd h (by lia),.inr ⟨i,pi,e,c,?_⟩⟩
    rw[e];simp only[c,beq_self_eq_true,if_true];rw[Gi];rfl
   ·have m1:m0≠0:=λz=>by
     subst z;exact n0 (by rw[EV];exact ⟨i,by rw[BU];exact pi⟩)
    have hd':(step t.mask p).dummy=none:=by unfold step;split<;>exact hd
    obtain ⟨m,h1,h2⟩:=ABb T (hashAt:=hashAt) (h:=h) fuel (step t.mask p) hd' ⟨m0-1,by lia,by rw[QB,show m0-1+1=m0 by lia];exact n0⟩;have ee:LI t hashAt h (fuel+1) p=LI t hashAt h fuel (step t.mask p):=by
     show (match t.slot p.j with | .empty=>some (Met.empty p.j p.dummy) | .dummy=>LI t hashAt h fuel (t.advance {p with dummy:=some p.j}) | .live i=>if hashAt i==h then some (.candidate p.j i (t.advance p)) else LI t hashAt h fuel (t.advance p))=_;rw[e];have cb:(hashAt i==h)=false:=by simpa using c
     simp only[cb,AR,if_false];rw[Gi]
    refine ⟨m+1,λm' hm'=>?_,?_⟩
    ·by_cases z:m'=0
     ·subst z;exact ⟨i,pi,c⟩
     ·have:=h1 (m'-1) (by lia)
      rw[QB,show m'-1+1=m' by lia] at this;exact this
    ·rw[e]
     have cb:(hashAt i==h)=false:=by simpa using c
     simp only[cb,AR,if_false,Gi];exact h2
def Loc(t:CS)(hs:List Int):Prop:=∀(idx j:Nat) (h:Int),t.place[idx]?=some j->hs[idx]?=some h->∃m,way t (t.probeStart h) m=j/\∀m',m'<m->way t (t.probeStart h) m'∈t.place.toList
theorem Xw{t:CS}(T:Tab t){hashAt:Nat->Int}{h:Int}{p:GY}(hp:Fine t.mask p)(hb:p.perturb<2 ^ 64) :
  ∃m,(∀m',m'<m->∃i,t.place[i]?=some (way t p m')/\hashAt i≠h) /\
   (
    (way t p m∉t.place.toList/\t.probe hashAt h p=some (.empty (way t p m) none)) \/
    ∃i,t.place[i]?=some (way t p m)/\t.slot (way t p m)=.live i/\hashAt i=h/\t.probe hashAt h p=some (.candidate (way t p m) i (SB.iter (step t.mask) (m+1) p))) :=
 ABb T _ p hp.dummy (LR T.mask T.size hp hb)
theorem Az{α:Type}(xs:Array α)(p:Nat)(x:α):(DD xs p x).toList=xs.toList.take p++[x]++xs.toList.drop p:=by
 unfold DD;simp;exact FX (by simp)
structure Put(t:CS)(j:Nat):Prop where
 le:j<=t.mask
 new:j∉t.place.toList
 room:t.place.size+1<=t.mask
theorem Ie{t:CS}(T:Tab t){j:Nat}:(t.put j).1={t with place:=DD t.place (below t.place j) j}/\(t.put j).2=below t.place j:=by
 unfold put;have hd:has t.dummies j=false:=by rw[T.none];unfold has;simp
 simp[hd]
theorem Zt{t:CS}(T:Tab t){j:Nat}(P:Put t j):Tab (t.put j).1:=by
 obtain ⟨e,_⟩:=Ie T (j:=j);obtain ⟨b1,b2,b3⟩:=Ej (j:=j) T.rise;rw[e];refine ⟨T.mask,T.none,?_,λk hk=>?_,?_⟩
 ·show (DD t.place (below t.place j) j).size<=t.mask
  have:=congrArg EQ (Az t.place (below t.place j) j);simp at this;have:=P.room;lia
 ·have hk':k∈(DD t.place (below t.place j) j).toList:=hk
  rw[Az] at hk';rcases CD.mp hk' with hk' | hk'
  ·rcases CD.mp hk' with hk' | hk'
   ·exact T.le k (IS hk')
   ·rw[B5.mp hk'];exact P.le
  ·exact T.le k (OS hk')
 ·show (DD t.place (below t.place j) j).toList.Pairwise (· < ·)
  rw[Az];have so:=T.rise;have get:∀k (hk:k<t.place.size),t.place.getD k j=t.place.toList[k]'(by simpa using hk):=λk hk=>by simp[DH,hk]
  refine C1.mpr ⟨C1.mpr ⟨so.sublist (Go _ _),J7 _ _,λa ha b hb=>?_⟩,so.sublist (FD _ _),λa ha b hb=>?_⟩
  ·rw[B5.mp hb]
   obtain ⟨k,hk,rfl⟩:=CA.mp ha;rw[BG] at hk;have hk2:k<t.place.size:=by simp at hk;lia
   have:=b1 k (by lia);rw[get k hk2] at this;rw[IB];exact this
  ·obtain ⟨k,hk,rfl⟩:=CA.mp hb
   rw[FK] at hk;have hk2:below t.place j+k<t.place.size:=by simp at hk;lia
   rw[Mo];have z:=b2 (below t.place j+k) (by lia) hk2;rw[get _ hk2] at z;have ne:t.place.toList[below t.place j+k]'(by simpa using hk2)≠j:=λe=>P.new (e ▸ FR _);rcases CD.mp ha with ha | ha
   ·obtain ⟨i,hi,rfl⟩:=CA.mp ha
    rw[BG] at hi;rw[IB];exact CF.mp so i (below t.place j+k) (by lia) (by simpa using hk2) (by lia)
   ·rw[B5.mp ha]
    lia
theorem Zr{t:CS}(T:Tab t){hs:List Int}(hl:hs.length=t.place.size)(L:Loc t hs){h:Int}{m:Nat}(hm:∀m',m'<m->way t (t.probeStart h) m'∈t.place.toList) :
  Loc (t.put (way t (t.probeStart h) m)).1 (hs.take (t.put (way t (t.probeStart h) m)).2++[h]++hs.drop (t.put (way t (t.probeStart h) m)).2):=by
 generalize hj:way t (t.probeStart h) m=j;obtain ⟨e,e2⟩:=Ie T (j:=j);obtain ⟨_,_,b3⟩:=Ej (j:=j) T.rise;rw[e,e2];generalize hp:below t.place j=p at *;have mem:∀k,k∈t.place.toList->k∈(DD t.place p j).toList:=λk hk=>by
  rw[Az];rw[<- DZ p t.place.toList] at hk;rcases CD.mp hk with hk | hk
  ·exact E7 _ (E7 _ hk)
  ·exact B6 _ hk
 have memj:j∈(DD t.place p j).toList:=by
  rw[Az];exact E7 _ (B6 _ (B5.mpr rfl))
 intro idx k h' hk hh;have hk':(DD t.place p j).toList[idx]?=some k:=by simpa using hk
 rw[Az] at hk';have wy:∀(q:GY) m,way {t with place:=DD t.place p j} q m=way t q m:=λ_ _=>rfl;have ps:∀h,({t with place:=DD t.place p j}:CS).probeStart h=t.probeStart h:=λ_=>rfl;have lt:(t.place.toList.take p).length=p:=by rw[BG,AV];lia
 have lh:(hs.take p).length=p:=by rw[BG];lia
 rw[CC] at hk' hh;have old:∀i,t.place.toList[i]?=some k->hs[i]?=some h'->∃m,way {t with place:=DD t.place p j} (({t with place:=DD t.place p j}:CS).probeStart h') m=k/\∀m',m'<m->way {t with place:=DD t.place p j} (({t with place:=DD t.place p j}:CS).probeStart h') m'∈({t with place:=DD t.place p j}:CS).place.toList:=λi a b=>by
  obtain ⟨m,x,y⟩:=L i k h' (by rw[<- BU];exact a) b;exact ⟨m,x,λm' hm'=>mem _ (y m' hm')⟩
 by_cases c:idx<p
 ·rw[Bi (by lia),Fc c] at hk' hh
  exact old idx hk' hh
 ·rw[Cn (by lia)] at hk' hh
  rw[lt] at hk';rw[lh] at hh;by_cases d:idx=p
  ·subst d
   simp at hk' hh;subst hk' hh;exact ⟨m,hj,λm' hm'=>mem _ (hm m' hm')⟩
  ·rw[Cn (by simp;lia)] at hk' hh
   simp only[DA,PZ] at hk' hh;rw[show p+(idx-p-1)=idx-1 by lia] at hk' hh;exact old (idx-1) hk' hh
def Bm(M i perturb:Nat):GY:={j:=i,more:=EH M i-i,i:=i,perturb:=perturb,dummy:=none}
theorem Jj{M:Nat}:∀(m:Nat) (p:GY),m<=p.more->SB.iter (step M) m p={p with j:=p.j+m,more:=p.more-m}
 | 0,p,_=>by cases p;rfl
 | m+1,p,h=>by
  have hs:step M p={p with j:=p.j+1,more:=p.more-1}:=by unfold step;rw[if_pos (by lia)]
  show SB.iter (step M) m (step M p)=_;rw[Jj m (step M p) (by rw[hs];show m<=p.more-1;lia),hs];show ({p with j:=p.j+1+m,more:=p.more-1-m}:GY)={p with j:=p.j+(m+1),more:=p.more-(m+1)};rw[show p.j+1+m=p.j+(m+1) by lia,show p.more-1-m=p.more-(m+1) by lia]
theorem Rz{M i pe:Nat}:SB.iter (step M) (EH M i-i+1) (Bm M i pe)=Bm M (leap M i pe).1 (leap M i pe).2:=by
 rw[Wt,Jj (EH M i-i) (Bm M i pe) (AF _)];unfold step;rw[if_neg (by show ¬ (EH M i-i-(EH M i-i)>0);lia)];rfl
theorem XM(M i:Nat):i<=EH M i:=by
 unfold EH;split<;>lia
def wayM(M:Nat)(p:GY)(m:Nat):Nat:=(SB.iter (step M) m p).j
theorem Uk{M:Nat}{owner:Array (Option Nat)}:∀(fuel i pe:Nat),i<=M->(∃k,k<fuel/\owner.getD (leaps M k (i,pe)).1 (some 0)=none) ->
  ∃m,IY M owner fuel i pe=some (wayM M (Bm M i pe) m)/\owner.getD (wayM M (Bm M i pe) m) (some 0)=none/\∀m',m'<m->(owner.getD (wayM M (Bm M i pe) m') (some 0)).isSome=true
 | 0,i,pe,_,⟨k,hk,_⟩=>absurd hk (by lia)
 | fuel+1,i,pe,hi,⟨k,hk,nk⟩=>by
  have ge:=XM M i;have wy:∀m,m<=EH M i-i->wayM M (Bm M i pe) m=i+m:=λm hm=>by
   unfold wayM;rw[Jj m (Bm M i pe) hm];rfl
  unfold IY;cases hf:(AX (EH M i+1-i)).find? λk=>(owner.getD (i+k) (some 0)).isNone with
  | some k' =>
   have h1:=List.find?_some hf;have h2:=A2.mp (List.mem_of_find?_eq_some hf);refine ⟨k',?_,?_,λm' hm'=>?_⟩
   ·rw[wy k' (by lia)]
   ·rw[wy k' (by lia)]
    simpa using h1
   ·rw[wy m' (by lia)]
    obtain ⟨_,as,bs,e,hb⟩:=List.find?_eq_some_iff_append.mp hf;have hl:as.length=k':=by
     have:(AX (EH M i+1-i))[as.length]?=some k':=by rw[e];simp
     rw[Hm (by have:=congrArg EQ e;simp at this;lia)] at this;exact BY this
    have hm:m'∈as:=by
     have:(AX (EH M i+1-i))[m']?=some m':=Hm (by lia);rw[e,Bi (by lia)] at this;exact A8 this
    have:=hb m' hm;simpa [ML] using this
  | none =>
   have hn:=List.find?_eq_none.mp hf;have all:∀m,m<=EH M i-i->(owner.getD (i+m) (some 0)).isSome=true:=λm hm=>by
    have:=hn m (A2.mpr (by lia));simpa [ML] using this
   have k0:k≠0:=λz=>by
    subst z;have:=all 0 (BH _);have nk':owner.getD i (some 0)=none:=nk;rw[PY,nk'] at this;cases this
   obtain ⟨m,h1,h2,h3⟩:=Uk fuel (leap M i pe).1 (leap M i pe).2 (Hs _ _ _) ⟨k-1,by lia,by
    have e:leaps M k (i,pe)=leaps M (k-1) (leap M i pe):=by
     obtain ⟨k',rfl⟩:∃k',k=k'+1:=⟨k-1,by lia⟩;rfl
    rw[e] at nk;exact nk⟩
   have sh:∀m,wayM M (Bm M (leap M i pe).1 (leap M i pe).2) m=wayM M (Bm M i pe) (EH M i-i+1+m):=λm=>by
    unfold wayM;rw[Bs,Rz]
   rw[sh] at h1 h2;refine ⟨EH M i-i+1+m,h1,h2,λm' hm'=>?_⟩;by_cases c:m'<=EH M i-i
   ·rw[wy m' c]
    exact all m' c
   ·have:=h3 (m'-(EH M i-i+1)) (by lia)
    rw[sh,show EH M i-i+1+(m'-(EH M i-i+1))=m' by lia] at this;exact this
structure Own(M:Nat)(owner:Array (Option Nat))(hs:List Int):Prop where
 size:owner.size=M+1
 has:∀idx,idx<hs.length->∃j:Nat,owner[j]?=some (some idx)
 at_:∀(j idx:Nat),owner[j]?=some (some idx)->idx<hs.length/\∃m,wayM M (Bm M (bits (hs.getD idx 0)%(M+1)) (bits (hs.getD idx 0))) m=j/\∀m',m'<m->(owner.getD (wayM M (Bm M (bits (hs.getD idx 0)%(M+1)) (bits (hs.getD idx 0))) m') (some 0)).isSome=true
 one:∀(j j' idx:Nat),owner[j]?=some (some idx)->owner[j']?=some (some idx)->j=j'
theorem Own.start(M:Nat):Own M (Sl (M+1) none) []:=by
 have no:∀(j idx:Nat),¬ (Sl (M+1) (none:Option Nat))[j]?=some (some idx):=λj idx e=>by
  rw[Array.getElem?_replicate] at e;split at e<;>cases e
 exact ⟨Array.size_replicate ..,λidx h=>absurd h (by simp),λj idx e=>absurd e (no j idx),λj _ idx e=>absurd e (no j idx)⟩
theorem Own.free{M:Nat}{owner:Array (Option Nat)}{hs:List Int}(O:Own M owner hs)(h:hs.length<=M):∃j,j<M+1/\owner.getD j (some 0)=none:=by
 refine Cb λc=>?_;have all:∀j,j<M+1->∃idx,owner[j]?=some (some idx):=λj hj=>by
  have hj':j<owner.size:=by rw[O.size];exact hj
  cases e:owner[j] with
  | none=>exact absurd ⟨j,hj,by simp[DH,hj',e]⟩ c
  | some idx=>exact ⟨idx,by rw[A1 hj',e]⟩
 have key:∀n,n<=M+1->∃l:List Nat,l.length=n/\l.Nodup/\∀x∈l,∃j,j<n/\owner[j]?=some (some x):=by
  intro n
  induction n with
  | zero=>exact λ_=>⟨[],rfl,LF,λx hx=>by cases hx⟩
  | succ n ih =>
   intro hn;obtain ⟨l,l1,l2,l3⟩:=ih (by lia);obtain ⟨idx,e⟩:=all n (by lia);refine ⟨idx::l,by simp[l1],C7.mpr ⟨λhm=>?_,l2⟩,λx hx=>?_⟩
   ·obtain ⟨j,hj,ej⟩:=l3 idx hm
    have:=O.one _ _ _ ej e;lia
   ·rcases Bz.mp hx with rfl | hx
    ·exact ⟨n,by lia,e⟩
    ·obtain ⟨j,hj,ej⟩:=l3 x hx
     exact ⟨j,by lia,ej⟩
 obtain ⟨l,l1,l2,l3⟩:=key (M+1) (AF _);have:=Bg (l₂:=AX hs.length) l2 λx hx=>by
  obtain ⟨j,_,ej⟩:=l3 x hx;exact A2.mpr (O.at_ j x ej).1
 rw[CI] at this;lia
theorem Qp{M:Nat}:∀(k:Nat) (x:Nat×Nat),x.1<=M->(leaps M k x).1<=M
 | 0,x,h=>h
 | k+1,x,h=>Qp k (leap M x.1 x.2) (Hs _ _ _)
theorem Vm{M:Nat}(a b:Nat)(x:Nat×Nat):leaps M (a+b) x=leaps M b (leaps M a x):=Bs _ a b x
theorem Own.next{M:Nat}{owner:Array (Option Nat)}{hs:List Int}(hM:Mask M)(O:Own M owner hs)(hl:hs.length<=M)(h:Int) :
  ∃j,IY M owner (MH M) (bits h%(M+1)) (bits h)=some j/\Own M (owner.setIfInBounds j (some hs.length)) (hs++[h]):=by
 obtain ⟨f,hf,nf⟩:=O.free hl;have hi:bits h%(M+1)<=M:=by
  have:=K9 (bits h) (show 0<M+1 by lia);lia
 have reach:∃k,k<MH M/\owner.getD (leaps M k (bits h%(M+1),bits h)).1 (some 0)=none:=by
  have p13:(leaps M 13 (bits h%(M+1),bits h)).2=0:=by
   rw[Ea];exact Rs (Cc (Ox h) (by decide))
  have i13:=Qp (M:=M) 13 (bits h%(M+1),bits h) hi;obtain ⟨k,hk,ek⟩:=Uo hM (i:=(leaps M 13 (bits h%(M+1),bits h)).1) (j:=f) (by lia) hf;refine ⟨13+k,by unfold MH;lia,?_⟩;have e:leaps M 13 (bits h%(M+1),bits h)=((leaps M 13 (bits h%(M+1),bits h)).1,0):=OR rfl p13;rw[Vm,e,Gj,ek];exact nf
 obtain ⟨m,h1,h2,h3⟩:=Uk (M:=M) (owner:=owner) (MH M) _ (bits h) hi reach;refine ⟨_,h1,?_⟩;generalize hj:wayM M (Bm M (bits h%(M+1)) (bits h)) m=j at h2;have hjs:j<owner.size:=by
  refine Cb λc=>?_;have:owner.getD j (some 0)=some 0:=by simp[DH,c]
  rw[this] at h2;cases h2
 have hjn:owner[j]?=some none:=by
  rw[A1 hjs];simp[DH,hjs] at h2;rw[h2]
 have get:∀k,(owner.setIfInBounds j (some hs.length))[k]?=if k=j then some (some hs.length) else owner[k]?:=λk=>by
  rw[Array.getElem?_setIfInBounds];by_cases c:j=k
  ·subst c
   simp[hjs]
  ·rw[if_neg c,if_neg (C6 c)]
 have some_of:∀k,(owner.getD k (some 0)).isSome=true->((owner.setIfInBounds j (some hs.length)).getD k (some 0)).isSome=true:=λk hk=>by
  rw[F0,get];split
  ·rfl
  ·rw[F0] at hk
   exact hk
 have gd:∀idx,idx<hs.length->(hs++[h]).getD idx 0=hs.getD idx 0:=λidx hi=>by
  rw[AB,AB,Bi hi]
 have gl:(hs++[h]).getD hs.length 0=h:=by rw[AB];simp
 refine ⟨by rw[Hc];exact O.size,λidx hi=>?_,λk idx e=>?_,λk k' idx e e'=>?_⟩
 ·by_cases c:idx<hs.length
  ·obtain ⟨k,ek⟩:=O.has idx c
   refine ⟨k,?_⟩;rw[get,if_neg (λz=>by rw[z,hjn] at ek;cases ek)];exact ek
  ·have:idx=hs.length:=by simp at hi;lia
   exact ⟨j,by rw[get,if_pos rfl,this]⟩
 ·rw[get] at e
  by_cases c:k=j
  ·rw[if_pos c] at e
   have:hs.length=idx:=by simpa using e
   subst this;refine ⟨by simp,m,?_,λm' hm'=>?_⟩
   ·rw[gl,hj,c]
   ·rw[gl]
    exact some_of _ (h3 m' hm')
  ·rw[if_neg c] at e
   obtain ⟨i1,m1,w1,w2⟩:=O.at_ k idx e;refine ⟨by simp;lia,m1,?_,λm' hm'=>?_⟩
   ·rw[gd idx i1];exact w1
   ·rw[gd idx i1];exact some_of _ (w2 m' hm')
 ·rw[get] at e e'
  by_cases c:k=j
  ·by_cases c':k'=j
   ·rw[c,c']
   ·rw[if_pos c] at e
    rw[if_neg c'] at e';have:hs.length=idx:=by simpa using e
    have:=(O.at_ k' idx e').1;lia
  ·by_cases c':k'=j
   ·rw[if_neg c] at e
    rw[if_pos c'] at e';have:hs.length=idx:=by simpa using e'
    have:=(O.at_ k idx e).1;lia
   ·rw[if_neg c] at e
    rw[if_neg c'] at e';exact O.one _ _ _ e e'
set_option tactic.hygienic true in
theorem YJ{M:Nat}(hM:Mask M){hashes:Array Int}(h:hashes.size<=M):∃owner,layClean M hashes=some owner/\Own M owner hashes.toList:=by
 unfold layClean;rw[<- Array.foldl_toList];have key:∀(l done:List Int) (owner:Array (Option Nat)),Own M owner done->done.length+l.length<=M ->
   ∃owner',(l.foldl (λacc h=>do
    let (owner,k) <- acc
    let j <- IY M owner (MH M) (bits h%(M+1)) (bits h)
    pure (owner.setIfInBounds j (some k),k+1)) (some (owner,done.length)))=some (owner',done.length+l.length)/\Own M owner' (done++l):=by
  intro l
  induction l with
  | nil=>exact λdone owner O _=>⟨owner,rfl,by rw[B9];exact O⟩
  | cons a t ih =>
   intro done owner O hl;simp at hl;obtain ⟨j,ej,O'⟩:=O.next hM (by lia) a
   obtain ⟨owner',e,O''⟩:=ih (done++[a]) _ O' (by simp;lia);refine ⟨owner',?_,by simpa using O''⟩;rw[K2];have:(do
    let (owner,k) <- some (owner,done.length)
    let j <- IY M owner (MH M) (bits a%(M+1)) (bits a)
    pure (owner.setIfInBounds j (some k),k+1))=some (owner.setIfInBounds j (some done.length),done.length+1):=by
    show (do
     let j <- IY M owner (MH M) (bits a%(M+1)) (bits a)
     pure (owner.setIfInBounds j (some done.length),done.length+1))=_
    rw[ej];rfl
   rw[this];rw[show (done++[a]).length=done.length+1 by simp] at e;rw[e];simp;lia
 obtain ⟨owner',e,O⟩:=key hashes.toList [] _ (Own.start M) (by simpa using h);refine ⟨owner',?_,by simpa using O⟩;have e':=congrArg (Option.map U0) e;exact e'
def pairs(owner:Array (Option Nat))(l:List Nat):List (Nat×Nat):=l.filterMap λj=>(owner.getD j none).map (j,·)
theorem Ik{owner:Array (Option Nat)}{l:List Nat}{j idx:Nat}:(j,idx)∈pairs owner l↔j∈l/\owner.getD j none=some idx:=by
 unfold pairs;rw[LU];constructor
 ·rintro⟨k,hk,e⟩
  cases o:owner.getD k none with
  | none=>rw[o] at e;cases e
  | some x =>
   rw[o] at e;have e':(k,x)=(j,idx):=BY e;cases e';exact ⟨hk,o⟩
 ·rintro⟨hj,e⟩
  exact ⟨j,hj,by rw[e];rfl⟩
theorem Jh{owner:Array (Option Nat)}:∀{l:List Nat},l.Pairwise (· < ·)->((pairs owner l).map (·.1)).Pairwise (· < ·)
 | [],_=>.nil
 | a::t,h=>by
  obtain ⟨h1,h2⟩:=CO.mp h;have ih:=Jh (owner:=owner) h2;unfold pairs;rw[Hk];cases o:owner.getD a none with
  | none=>exact ih
  | some x =>
   show ((a,x)::pairs owner t |>.map (·.1)).Pairwise (· < ·);rw[BO];refine CO.mpr ⟨λb hb=>?_,ih⟩;obtain ⟨⟨b',i⟩,hm,rfl⟩:=BQ.mp hb;exact h1 b' (Ik.mp hm).1
theorem FQ:∀{l₁ l₂:List Nat},l₁.Nodup->(∀x∈l₁,x∈l₂)->l₂.length<=l₁.length->l₁.Perm l₂
 | [],l₂,_,_,h=>by
  have:l₂=[]:=DC.mp (by simpa using h);rw[this]
 | a::t,l₂,nd,hs,h=>by
  obtain ⟨n1,n2⟩:=C7.mp nd;have ha:a∈l₂:=hs a AD;have hp:=List.perm_cons_erase ha;have hl:(l₂.erase a).length=l₂.length-1:=Ha ha;have ih:=FQ (l₂:=l₂.erase a) n2 (λx hx=>(IR (λ(e:x=a)=>n1 (by rw[<- e];exact hx))).mpr (hs x (AG _ hx))) (by simp at h;lia);exact (S3 a ih).trans hp.symm
theorem Zy{M:Nat}(hM:Mask M){hashes:Array Int}(h:hashes.size<=M)(finger moves:Nat)(led plain:Bool) :
  ∃(place order:Array Nat),laid M finger moves led plain hashes=some ({mask:=M,place:=place,dummies:=#[],finger:=finger,led:=led,moves:=moves,plain:=plain},order) /\
   Tab {mask:=M,place:=place,dummies:=#[],finger:=finger,led:=led,moves:=moves,plain:=plain}/\place.size=hashes.size/\order.toList.Perm (AX hashes.size) /\
   Loc {mask:=M,place:=place,dummies:=#[],finger:=finger,led:=led,moves:=moves,plain:=plain} (order.toList.map λi=>hashes.toList.getD i 0):=by
 obtain ⟨owner,e,O⟩:=YJ hM h;have gd:∀j idx,owner.getD j none=some idx↔owner[j]?=some (some idx):=λj idx=>by
  rw[F0];cases o:owner[j]? with
  | none=>simp
  | some x=>simp
 have rl:=List.pairwise_lt_range (n:=M+1);have rise:=Jh (owner:=owner) rl;have mem:∀j idx,(j,idx)∈pairs owner (AX (M+1))↔owner[j]?=some (some idx):=λj idx=>by
  rw[Ik,gd];refine ⟨λz=>z.2,λz=>⟨A2.mpr ?_,z⟩⟩;have:=(C9.mp z).1;rw[O.size] at this;exact this
 have nd:((pairs owner (AX (M+1))).map (·.2)).Nodup:=by
  have r:=CY.mp rise;refine CY.mpr (r.imp_of_mem λ{a b} ha hb lt z=>?_);obtain ⟨a1,a2⟩:=a;obtain ⟨b1,b2⟩:=b;have z':a2=b2:=z;subst z';have:=O.one _ _ _ ((mem a1 a2).mp ha) ((mem b1 a2).mp hb);simp at lt;lia
 have sub:∀x∈(pairs owner (AX (M+1))).map (·.2),x∈AX hashes.size:=λx hx=>by
  obtain ⟨⟨j,i⟩,hm,rfl⟩:=BQ.mp hx;have:=(O.at_ j i ((mem j i).mp hm)).1;exact A2.mpr (by simpa using this)
 have sup:∀x∈AX hashes.size,x∈(pairs owner (AX (M+1))).map (·.2):=λx hx=>by
  obtain ⟨j,ej⟩:=O.has x (by simpa using hx);exact BQ.mpr ⟨(j,x),(mem j x).mpr ej,rfl⟩
 have l1:=Bg FS sup;have l2:=Bg nd sub;rw[CI] at l1 l2;have perm:=FQ nd sub (by rw[CI];exact l1);have ll:(pairs owner (AX (M+1))).length=hashes.size:=by
  rw[AE] at l1 l2;lia
 refine ⟨((pairs owner (AX (M+1))).map (·.1)).toArray,((pairs owner (AX (M+1))).map (·.2)).toArray,?_,?_,?_,?_,?_⟩
 ·unfold laid
  rw[e];rfl
 ·refine ⟨hM,rfl,?_,λj hj=>?_,?_⟩
  ·show ((pairs owner (AX (M+1))).map (·.1)).toArray.size<=M
   rw[A7,AE,ll];exact h
  ·have hj':j∈(pairs owner (AX (M+1))).map (·.1):=hj
   obtain ⟨⟨k,i⟩,hm,rfl⟩:=BQ.mp hj';have:=A2.mp (Ik.mp hm).1;show k<=M;lia
  ·exact rise
 ·rw[A7,AE,ll]
 ·exact perm
 ·intro idx j hh hj hh'
  have hj':((pairs owner (AX (M+1))).map (·.1))[idx]?=some j:=by simpa using hj
  have hh2:(((pairs owner (AX (M+1))).map (·.2)).map λi=>hashes.toList.getD i 0)[idx]?=some hh:=hh';rw[BI] at hj';rw[BI,BI] at hh2;cases o:(pairs owner (AX (M+1)))[idx]? with
  | none=>rw[o] at hj';cases hj'
  | some x =>
   obtain ⟨k,i⟩:=x;rw[o] at hj' hh2;have ek:k=j:=BY hj';have ei:hashes.toList.getD i 0=hh:=BY hh2;subst ek;obtain ⟨_,m,w1,w2⟩:=O.at_ k i ((mem k i).mp (A8 o));rw[ei] at w1 w2;refine ⟨m,w1,λm' hm'=>?_⟩;have z:=w2 m' hm';have hb:bits hh%(M+1)<=M:=by
    have:=K9 (bits hh) (show 0<M+1 by lia);lia
   have fine:Fine M (Bm M (bits hh%(M+1)) (bits hh)):=⟨Om _ _,hb,hb,Rv hb,rfl⟩;have wl:wayM M (Bm M (bits hh%(M+1)) (bits hh)) m'<=M:=(fine.iter m').j;show wayM M (Bm M (bits hh%(M+1)) (bits hh)) m'∈(pairs owner (AX (M+1))).map (·.1);generalize wayM M (Bm M (bits hh%(M+1)) (bits hh)) m'=wv at z wl;have hw:wv<owner.size:=by rw[O.size];lia
   cases q:owner[wv] with
   | none =>
    have:owner.getD wv (some 0)=none:=by simp[DH,hw,q]
    rw[this] at z;cases z
   | some i'=>exact BQ.mpr ⟨(wv,i'),(mem wv i').mpr (by rw[A1 hw,q]),rfl⟩
section
variable{prog:AL}{w:AQ}{A:BS}{E:Ap->AA->Prop}{s:AA}
abbrev IK(prog:AL)(w:AQ)(h:Heap)(ks:List Int)(a:Addr):Prop:=Sf (KL prog w) h ks a
abbrev hsh(prog:AL)(w:AQ)(ks:List Int):Int:=K6 (KL prog w) ks
theorem Nh{ks:List Int}{vs:List Ap}(h:ItemsAre (KL prog w) ks vs):∀v∈vs,∃n t,v=.int n t:=by
 induction h with
 | nil=>intro v hv;cases hv
 | cons h1 _ ih =>
  intro v hv;rcases Bz.mp hv with rfl | hv
  ·obtain ⟨t,e⟩:=Iy h1
   exact ⟨_,t,e⟩
  ·exact ih v hv
theorem AAg{ks:List Int}{a:Addr}{Q:Bool->AA->Prop}(hk:IK prog w s.heap ks a)(h:Q true s):wpAny (AO prog w) A (hashByValue 8 (.ref a)) Q E s:=by
 have hT:=hk.typeIs;obtain ⟨o,items,n,ho,_,hd,hi⟩:=hk;have allI:=Nh hi;unfold hashByValue;refine As (F4 hT F.slot_tuple_hash.lookup ?_);show wpAny _ _ (Pp (.ref a) >>= _) _ _ s;refine As (IG ho hd ?_);refine As ?_;show wpAny _ _ (forIn items _ _) _ _ s;rw[<- HP];refine FO _ (λrest r s'=>r.1=none/\s'=s/\∀v∈rest,∃n t,v=KI n t) _ ?_ ?_ _ _ ⟨rfl,rfl,allI⟩
 ·rintro v rest r s' ⟨hr,rfl,hall⟩
  obtain ⟨n,t,rfl⟩:=hall v AD;refine As (wpAny_pure ?_);simp only[DE,AR,if_false];exact wpAny_pure ⟨rfl,rfl,λu hu'=>hall u (AG _ hu')⟩
 ·rintro⟨r1,r2⟩ s' ⟨hr,rfl,_⟩
  simp only at hr;subst hr;exact wpAny_pure h
theorem Qs{ks:List Int}{a:Addr}{Q:Bool->AA->Prop}(hk:IK prog w s.heap ks a)(h:Q false s):wpAny (AO prog w) A (QI 8 (.ref a)) Q E s:=by
 have hT:=hk.typeIs;obtain ⟨o,items,n,ho,_,hd,hi⟩:=hk;have allI:=Nh hi;unfold QI;refine As (MY hT ?_);show wpAny _ _ ((if ("tuple" == "tuple")=true then pure true else isSubtype (.type "tuple") (.type "tuple")) >>= _) _ _ s;rw[if_pos (by decide)];refine As (wpAny_pure ?_);simp only[DE,AR,if_false];refine As (IG ho hd ?_);show wpAny _ _ (forIn items _ _ >>= _) _ _ s;refine As ?_;rw[<- HP];refine FO _ (λrest r s'=>r.1=none/\s'=s/\∀v∈rest,∃n t,v=KI n t) _ ?_ ?_ _ _ ⟨rfl,rfl,allI⟩
 ·rintro v rest r s' ⟨hr,rfl,hall⟩
  obtain ⟨n,t,rfl⟩:=hall v AD;refine As (wpAny_pure ?_);simp only[AR,if_false];exact wpAny_pure ⟨rfl,rfl,λu hu'=>hall u (AG _ hu')⟩
 ·rintro⟨r1,r2⟩ s' ⟨hr,rfl,_⟩
  simp only at hr;subst hr;exact wpAny_pure h
theorem ZW{ks:List Int}{a:Addr}{Q:Bool->AA->Prop}(hk:IK prog w s.heap ks a)(stored:List Ap)(hst:∀v∈stored,∃k b,v=.ref b/\IK prog w s.heap k b)(h:Q false s):wpAny (AO prog w) A (QN (.ref a) stored) Q E s:=by
 unfold QN;refine As ?_;refine FO _ (λrest r s'=>r.1=none/\s'=s/\∀v∈rest,∃k b,v=AT b/\IK prog w s.heap k b) _ ?_ ?_ _ _ ⟨rfl,rfl,hst⟩
 ·rintro v rest r s' ⟨hr,rfl,hall⟩
  have tl:∀u∈rest,∃k b,u=AT b/\IK prog w s'.heap k b:=λu hu'=>hall u (AG _ hu');obtain ⟨k,b,rfl,hb⟩:=hall v AD;dsimp only;by_cases c:(a==b)=true
  ·rw[if_pos (by rw[c];rfl)]
   exact wpAny_pure ⟨rfl,rfl,tl⟩
  ·rw[if_neg (by simp[c,SY])]
   refine As (OB hk ?_);simp only[DE,AR,if_false];refine As (OB hb ?_);simp only[DE,AR,if_false];refine As (Qs hk ?_);simp only[AR,if_false];refine As (Qs hb ?_);simp only[AR,if_false];exact wpAny_pure ⟨rfl,rfl,tl⟩
 ·rintro⟨r1,r2⟩ s' ⟨hr,rfl,_⟩
  simp only at hr;subst hr;exact wpAny_pure h
end
theorem Te{P:Nat->Prop}:∀(m:Nat),P m->∃n,P n/\∀n',n'<n->¬ P n':=by
 intro m
 induction m using Nat.strongRecOn with
 | ind m ih =>
  intro h;by_cases c:∃n,n<m/\P n
  ·obtain ⟨n,hn,hp⟩:=c
   exact ih n hn hp
  ·exact ⟨m,h,λn' hn' hp=>c ⟨n',hn',hp⟩⟩
def ledOf(w:AQ):Bool:=!w.params.followText "set-order"
structure TS(prog:AL)(w:AQ)(h:Heap)(S:Addr)(es:Array (Int×Ap))(t:CS)(ks:List (List Int×Addr)):Prop where
 obj:∃o ep,h.get? S=some o/\o.ExactSet/\o.data=.set es ep t
 tab:Tab t
 len:es.size=t.place.size
 loc:Loc t (es.toList.map (·.1))
 els:es.toList=ks.map λx=>(hsh prog w x.1,AT x.2)
 nd:(ks.map (·.1)).Nodup
 few:t.place.size*5<t.mask*3
 pl:t.plain=true
 ld:t.led=ledOf w
theorem Um{t:CS}(T:Tab t):t.fill=t.place.size:=by unfold fill;rw[T.none];rfl
theorem GZ{t:CS}(T:Tab t){n:Nat}(e:n=t.place.size):t.fits n=true:=by
 unfold SetTable.fits;rw[Um T,e];have:=T.size;simp[this]
section
variable{prog:AL}{w:AQ}{A:BS}{E:Ap->AA->Prop}{s:AA}{S:Addr}{es:Array (Int×Ap)}{t:CS}{ks:List (List Int×Addr)}
theorem TS.at_{h:Heap}(X:TS prog w h S es t ks){i:Nat}{j:Nat}(hi:t.place[i]?=some j):∃x,ks[i]?=some x/\es[i]?=some (hsh prog w x.1,AT x.2):=by
 have hl:=(C9.mp hi).1;have hle:i<es.toList.length:=by rw[AV,X.len];exact hl
 cases o:ks[i]? with
 | none =>
  have l2:=congrArg EQ X.els;rw[AE] at l2;have:=List.getElem?_eq_none_iff.mp o;lia
 | some x =>
  refine ⟨x,rfl,?_⟩;rw[<- BU,X.els,BI,o];rfl
theorem Mq{t:CS}(T:Tab t){i i' j:Nat}(h:t.place[i]?=some j)(h':t.place[i']?=some j):i=i':=by
 obtain ⟨a,ea⟩:=C9.mp h;obtain ⟨b,eb⟩:=C9.mp h';have r:=CF.mp T.rise;rcases Mn i i' with c | c | c
 ·have:=r i i' (by simpa using a) (by simpa using b) c
  simp at this;lia
 ·exact c
 ·have:=r i' i (by simpa using b) (by simpa using a) c
  simp at this;lia
set_option tactic.hygienic true in
theorem Vg{k:List Int}{a:Addr}(X:TS prog w s.heap S es t ks)(hK:∀x∈ks,IK prog w s.heap x.1 x.2)(hk:IK prog w s.heap k a)(hu:A.units<C2){N:Nat}
  (hN:way t (t.probeStart (hsh prog w k)) N∉t.place.toList) (hB:∀m,m<N->way t (t.probeStart (hsh prog w k)) m∈t.place.toList) {Q:SetFound->AA->Prop}
  (h1:k∈ks.map (·.1)->Q (.there none) s) (h2:k∉ks.map (·.1)->Q (.free (way t (t.probeStart (hsh prog w k)) N) false) s) :
  ∀(fuel c:Nat) (stand:Option GY),c<=N->N-c<fuel->stand.getD (t.probeStart (hsh prog w k))=SB.iter (step t.mask) c (t.probeStart (hsh prog w k)) ->
   (∀m,m<c->∀(i:Nat) (x:List Int×Addr),t.place[i]?=some (way t (t.probeStart (hsh prog w k)) m)->ks[i]?=some x->x.1≠k) ->
   wpAny (AO prog w) A (L9 S (.ref a) (hsh prog w k) true fuel stand) Q E s:=by
 obtain ⟨o,ep,ho,hex,hd⟩:=X.obj;have hf:=GZ X.tab X.len;intro fuel
 induction fuel with
 | zero=>intro c stand _ h;lia
 | succ fuel ih =>
  intro c stand hc hfu hst hV;unfold L9;refine As (EJ ho hd hf ?_);dsimp only;have hg:t.gaveWay=false:=by
   unfold SetTable.gaveWay;rcases X.tab.mask with e | e | e | e<;>rw[e]<;>decide
  rw[hg];simp only[AR,if_false];have fine:Fine t.mask (SB.iter (step t.mask) c (t.probeStart (hsh prog w k))):=(Fine.start t _).iter c;have hb:(SB.iter (step t.mask) c (t.probeStart (hsh prog w k))).perturb<2 ^ 64:=Ev (KZ c _) (Ox _);obtain ⟨m,hm,hcase⟩:=Xw X.tab (hashAt:=λi=>(es[i]?.map (·.1)).getD 0) (h:=hsh prog w k) fine hb;have wy:∀m,way t (SB.iter (step t.mask) c (t.probeStart (hsh prog w k))) m=way t (t.probeStart (hsh prog w k)) (c+m):=λm=>by
   unfold way;rw[Bs]
  have inpl:∀{i j:Nat},t.place[i]?=some j->j∈t.place.toList:=λ{i j} e=>by
   rw[EV];exact ⟨i,by rw[BU];exact e⟩
  have hV':∀m',m'<c+m->∀(i:Nat) (x:List Int×Addr),t.place[i]?=some (way t (t.probeStart (hsh prog w k)) m')->ks[i]?=some x->x.1≠k:=λm' hm' i x hi hx ek=>by
   by_cases z:m'<c
   ·exact hV m' z i x hi hx ek
   ·obtain ⟨i',hi',hne⟩:=hm (m'-c) (by lia)
    rw[wy,show c+(m'-c)=m' by lia] at hi';have:=Mq X.tab hi hi';subst this;obtain ⟨y,hy,ey⟩:=X.at_ hi;rw[hx] at hy;cases hy;refine hne ?_;show ((es[i]?.map (·.1)).getD 0)=_;rw[ey,<- ek];rfl
  have ltN:way t (t.probeStart (hsh prog w k)) (c+m)∈t.place.toList->c+m<N:=λz=>by
   refine Cb λzz=>?_;by_cases q:c+m=N
   ·rw[q] at z;exact hN z
   ·obtain ⟨i',hi',_⟩:=hm (N-c) (by lia)
    rw[wy,show c+(N-c)=N by lia] at hi';exact hN (inpl hi')
  split
  ·rename_i met heq
   rw[hst] at heq;rcases hcase with⟨hne,e⟩ | ⟨i,hi,hsl,hhash,e⟩
   ·obtain rfl:=BY (heq.symm.trans e)
    dsimp only;have hcN:c+m=N:=by
     rw[wy] at hne;refine Cb λq=>?_;by_cases z:c+m<N
     ·exact hne (hB _ z)
     ·obtain ⟨i',hi',_⟩:=hm (N-c) (by lia)
      rw[wy,show c+(N-c)=N by lia] at hi';exact hN (inpl hi')
    rw[wy,hcN];refine wpAny_pure (h2 λhmem=>?_);obtain ⟨x,hx,ex⟩:=BQ.mp hmem;obtain ⟨i,hi⟩:=EV.mp hx;have hil:i<t.place.size:=by
     have l1:=(AH.mp hi).1;have l2:=congrArg EQ X.els;rw[AE,AV,X.len] at l2;lia
    obtain ⟨m1,w1,w2⟩:=X.loc i t.place[i] (hsh prog w x.1) (A1 hil) (by rw[X.els,Fn,BI,hi];rfl);rw[ex] at w1 w2;have hm1:m1<N:=by
     refine Cb λq=>?_;by_cases z:m1=N
     ·subst z
      rw[w1] at hN;exact hN (inpl (A1 hil))
     ·exact hN (w2 N (by lia))
    exact hV' m1 (by lia) i x (by rw[w1];exact A1 hil) hi ex
   ·obtain rfl:=BY (heq.symm.trans e)
    dsimp only;rw[wy] at hi hsl ⊢;have hlt:=ltN (inpl hi);obtain ⟨x,hx,hes⟩:=X.at_ hi;have hxb:=hK x (A8 hx);have tail:wpAny (AO prog w) A (do
      let some (_,y):=es[i]? | unsupported "internal:set-entry"
      let equal <- P7 [y] (eqBool y (.ref a))
      let (es',_,t') <- setState S
      if true&&equal then return .there none
      let some same:=t'.sameMemory t.moves t.mask | unsupported "set.changed-during-lookup:is-the-new-block-at-the-old-address"
      let still <- match (if same then t'.slot (way t (t.probeStart (hsh prog w k)) (c+m)) else .empty) with
       | .live i'=>match es'[i']? with
        | some (_,y')=>do pure (if <- isSame y' y then some i' else none)
        | none=>pure none
       | _=>pure none
      match still with
      | none=>rule "set.search.anew";L9 S (.ref a) (hsh prog w k) true fuel none
      | some i'=>if equal then return .there (some i') else L9 S (.ref a) (hsh prog w k) true fuel (some (SB.iter (step t.mask) (m+1) (SB.iter (step t.mask) c (t.probeStart (hsh prog w k)))))) Q E s:=by
     rw[hes];dsimp only;refine As (EE (PR hu hxb hk ?_));refine As (EJ ho hd hf ?_);dsimp only;by_cases ek:x.1=k
     ·rw[decide_eq_true ek]
      simp only[TC,if_true];exact wpAny_pure (h1 (BQ.mpr ⟨x,A8 hx,ek⟩))
     ·rw[decide_eq_false ek]
      simp only[S4,AR,if_false];have sm:t.sameMemory t.moves t.mask=some true:=by unfold sameMemory;simp
      rw[sm];dsimp only;simp only[if_true,hsl];rw[hes];dsimp only;refine As (wpAny_isSame_ref_self ?_);simp only[if_true];refine As (wpAny_pure ?_);dsimp only;refine ih (c+m+1) _ (by lia) (by lia) ?_ ?_
      ·show SB.iter (step t.mask) (m+1) (SB.iter (step t.mask) c (t.probeStart (hsh prog w k)))=_
       rw[<- Bs];rfl
      ·intro m' hm' i' x' hi' hx' ek'
       by_cases z:m'<c+m
       ·exact hV' m' z i' x' hi' hx' ek'
       ·have:m'=c+m:=by lia
        subst this;have:=Mq X.tab hi hi';subst this;rw[hx] at hx';cases hx';exact ek ek'
    cases hled:t.led with
    | true =>
     simp only[DE,AR,if_false];exact tail
    | false =>
     simp only[LH,if_true];refine As (ZW hk _ ?_ ?_)
     ·intro v hv
      obtain ⟨e',he',rfl⟩:=BQ.mp hv;have he2:e'∈es.toList:=by
       have:e'∈es/\e'.fst=hsh prog w k:=by simpa using he'
       simpa using this.1
      rw[X.els] at he2;obtain ⟨y,hy,rfl⟩:=BQ.mp he2;exact ⟨y.1,y.2,rfl,hK y hy⟩
     ·simp only[AR,if_false]
      exact tail
  ·rename_i hno
   rcases hcase with⟨_,e⟩ | ⟨i,_,_,_,e⟩
   ·exact (hno _ (by rw[hst];exact e)).elim
   ·exact (hno _ (by rw[hst];exact e)).elim
end
theorem Hq{α:Type}{l:List α}(d:α):∀{order:List Nat},(∀i∈order,i<l.length)->order.filterMap (λi=>l[i]?)=order.map λi=>l.getD i d
 | [],_=>rfl
 | i::r,h=>by
  have hi:=h i AD;rw[Hk,AI hi,BO,Hq d λj hj=>h j (AG _ hj)];simp[AB,hi]
theorem Rx{α:Type}(l:List α):(AX l.length).filterMap (λi=>l[i]?)=l:=by
 cases l with
 | nil=>rfl
 | cons d r =>
  rw[Hq d λi hi=>A2.mp hi];apply EI;intro i;by_cases hi:i<(d::r).length
  ·rw[BI,Hm hi,AI hi]
   show some ((d::r).getD i d)=_;rw[AB,AI hi];rfl
  ·rw[C3 (by simpa using hi),C3 (by lia)]
theorem Iu{α:Type}{l:List α}{order:List Nat}(h:order.Perm (AX l.length)):(order.filterMap λi=>l[i]?).Perm l:=by
 have:=h.filterMap λi=>l[i]?;rw[Rx] at this;exact this
section
variable{prog:AL}{w:AQ}{A:BS}{E:Ap->AA->Prop}{s:AA}{S:Addr}{es:Array (Int×Ap)}{t:CS}{ks:List (List Int×Addr)}
theorem stored{h:Heap}{o:Obj}{ep:Nat}(ho:h.get? S=some o)(hex:o.ExactSet)(hd:o.data=.set es ep t)(es':Array (Int×Ap))(t':CS) :
  ∃o' ep',(h.update S (Sm es' t')).get? S=some o'/\o'.ExactSet/\o'.data=.set es' ep' t':=by
 have hg:(h.update S (Sm es' t')).get? S=some {o with data:=.set es' (ep+1) t'}:=by
  have:=Eg (Sm es' t') ho (by rw[putSet_of es' t' hd];rfl);rw[putSet_of es' t' hd] at this;exact this
 exact ⟨_,_,hg,hex,rfl⟩
theorem ZL{h:Heap}(hs:s.heap=h){o:Obj}{ep:Nat}(ho:h.get? S=some o)(hex:o.ExactSet)(hd:o.data=.set es ep t)(T:Tab t)(hl:es.size=t.place.size)(hel:es.toList=ks.map λx=>(hsh prog w x.1,AT x.2))
  (nd:(ks.map (·.1)).Nodup) (hfull:t.mask*3<=t.place.size*5) (hfew:(t.place.size-1)*5<t.mask*3) (h61:ks.length<=301) (hpl:t.plain=true) (hld:t.led=ledOf w) {Q:Unit->AA->Prop}
  (q:∀h' es' t' ks',D6 S h h'->TS prog w h' S es' t' ks'->ks'.Perm ks->Q () {s with heap:=h'}) :
  wpAny (AO prog w) A (U1 S (So es.size)) Q E s:=by
 subst hs;have hks:ks.length=es.size:=by
  have:=congrArg EQ hel;rw[AE,AV] at this;exact this.symm
 have key:∃M,sizeAbove (So es.size)=M+1/\Mask M/\es.size<=M/\es.size*5<M*3:=by
  rcases T.mask with e | e | e | e
  ·have:es.size=5:=by rw[e] at hfull hfew;lia
   rw[this];exact ⟨31,by decide,.inr (.inl rfl),by decide,by decide⟩
  ·have:es.size=19:=by rw[e] at hfull hfew;lia
   rw[this];exact ⟨127,by decide,.inr (.inr (.inl rfl)),by decide,by decide⟩
  ·have:es.size=77:=by rw[e] at hfull hfew;lia
   rw[this];exact ⟨511,by decide,.inr (.inr (.inr rfl)),by decide,by decide⟩
  ·rw[e] at hfull
   lia
 obtain ⟨M,eM,hM,hle,hfew'⟩:=key;unfold U1;refine As (EJ ho hd (GZ T hl) ?_);dsimp only;have hz:¬ (sizeAbove (So es.size)>sizeLine):=by
  rw[eM,EZ];rcases hM with e | e | e | e<;>lia
 rw[if_neg hz];obtain ⟨place,order,el,T2,hps,hpo,L2⟩:=Zy hM (hashes:=es.map (·.1)) (by simpa using hle) t.finger (t.movedTo M) t.led t.plain;have erl:t.relaid (es.map (·.1)) (So es.size)=some ({mask:=M,place:=place,dummies:=#[],finger:=t.finger,led:=t.led,moves:=t.movedTo M,plain:=t.plain},order):=by
  unfold relaid;rw[eM];exact el
 refine As ?_;show wpAny _ _ (do
  let some (t,order):=t.relaid (es.map (·.1)) (So es.size) | unsupported "internal:set-table-without-room"
  let es':=order.filterMap (es[·]?)
  if es'.size != es.size then unsupported "internal:set-table-lost-an-element"
  pure (es',t)) _ _ _
 rw[erl];dsimp only;have hsz:(es.map (·.1)).size=es.toList.length:=by simp
 rw[hsz] at hpo;have ef:(order.filterMap (es[·]?)).toList=order.toList.filterMap λi=>es.toList[i]?:=by
  rw[Array.toList_filterMap]
  congr 1
  funext i
  rw[BU]
 have hp:=Iu hpo;have hes:(order.filterMap (es[·]?)).size=es.size:=by
  rw[<- AV,ef,hp.length_eq,AV]
 rw[if_neg (by rw[hes];simp)];refine wpAny_pure ?_;dsimp only;refine QO ho hd ?_ (by rw[hes,EZ];rcases hM with e | e | e | e<;>lia);obtain ⟨o',ep',ho',hex',hd'⟩:=stored ho hex hd (order.filterMap (es[·]?)) {mask:=M,place:=place,dummies:=#[],finger:=t.finger,led:=t.led,moves:=t.movedTo M,plain:=t.plain};have hpk:(order.toList.filterMap λi=>ks[i]?).Perm ks:=Iu (by rw[AV] at hpo;rw[hks];exact hpo);refine q _ _ _ (order.toList.filterMap λi=>ks[i]?) (Dx ..) ⟨⟨o',ep',ho',hex',hd'⟩,T2,?_,?_,?_,?_,?_,hpl,hld⟩ hpk
 ·rw[hes,hps];simp
 ·have e1:(order.filterMap (es[·]?)).toList.map (·.1)=order.toList.map λi=>(es.map (·.1)).toList.getD i 0:=by
   rw[ef,Hq (0,CL) (λi hi=>by have:=A2.mp (hpo.mem_iff.mp hi);exact this),Fn];refine EO λi hi=>?_;have hi':i<es.toList.length:=A2.mp (hpo.mem_iff.mp hi);have hi2:i<es.size:=by simpa using hi'
   show (es.toList.getD i (0,CL)).1=_;simp[AB,hi2]
  rw[e1];exact L2
 ·rw[ef,hel,List.map_filterMap]
  congr 1
  funext i
  rw[BI]
 ·exact (Lm (hpk.map (·.1))).mpr nd
 ·show place.size*5<M*3
  rw[hps];simpa using hfew'
def Added(ks:List (List Int×Addr))(k:List Int)(a:Addr)(ks':List (List Int×Addr)):Prop:=(k∈ks.map (·.1)/\ks'=ks)\/(k∉ks.map (·.1)/\ks'.Perm ((k,a)::ks))
theorem Rb{k:List Int}{a:Addr}(X:TS prog w s.heap S es t ks)(hK:∀x∈ks,IK prog w s.heap x.1 x.2)(hk:IK prog w s.heap k a)(hu:A.units<C2)(h60:ks.length<=300){Q:Bool->AA->Prop}
  (q:∀b h' es' t' ks',D6 S s.heap h'->TS prog w h' S es' t' ks'->Added ks k a ks'->Q b {s with heap:=h'}) :
  wpAny (AO prog w) A (setAddHashed S (.ref a) (hsh prog w k)) Q E s:=by
 obtain ⟨o,ep,ho,hex,hd⟩:=X.obj;have hf:=GZ X.tab X.len;have fine:Fine t.mask (t.probeStart (hsh prog w k)):=Fine.start t _;have hks:ks.length=t.place.size:=by
  have:=congrArg EQ X.els;rw[AE,AV,X.len] at this;exact this.symm
 obtain ⟨m0,hm0,nm0⟩:=LR X.tab.mask X.tab.size fine (Ox (hsh prog w k));obtain ⟨N,hN,hNmin⟩:=Te (P:=λm=>way t (t.probeStart (hsh prog w k)) m∉t.place.toList) m0 nm0;have hNle:N<=m0:=Cb λc=>hNmin m0 (by lia) nm0;have hB:∀m,m<N->way t (t.probeStart (hsh prog w k)) m∈t.place.toList:=λm hm=>Cb λc=>hNmin m hm c;have hM:t.mask<=511:=by rcases X.tab.mask with e | e | e | e<;>lia
 unfold setAddHashed setAddHashedIn;refine EE (As (EJ ho hd hf ?_));dsimp only;have hbs:byScan (.ref a) es=false:=rfl;rw[hbs];simp only[AR,if_false];unfold setSearch;refine As (Vg X hK hk hu hN hB ?_ ?_ 100000 0 none (BH _) (by unfold MH at hm0;lia) rfl (λm hm=>absurd hm (by lia)))
 ·intro hmem
  exact wpAny_pure (by
   have:=q false s.heap es t ks (V7 S s.heap) X (.inl ⟨hmem,rfl⟩);exact this)
 ·intro hnm
  dsimp only;refine As (EJ ho hd hf ?_);dsimp only;generalize hj:way t (t.probeStart (hsh prog w k)) N=j;have P:Put t j:=by
   refine ⟨?_,?_,?_⟩
   ·rw[<- hj];exact (fine.iter N).j
   ·rw[<- hj];exact hN
   ·have:=X.few
    rcases X.tab.mask with e | e | e | e<;>rw[e] at this ⊢<;>lia
  have T1:=Zt X.tab P;have L1:=Zr X.tab (by rw[AE,AV,X.len]) X.loc hB;rw[hj] at L1;obtain ⟨e1,e2⟩:=Ie X.tab (j:=j);have b3:=(Ej (j:=j) X.tab.rise).2.2;have pm:(t.put j).1.mask=t.mask:=by rw[e1]
  have pp:(t.put j).1.plain=true:=by rw[e1];exact X.pl
  have pd:(t.put j).1.led=ledOf w:=by rw[e1];exact X.ld
  have ps:(t.put j).1.place.size=t.place.size+1:=by
   rw[e1];have:=congrArg EQ (Az t.place (below t.place j) j);simp at this;show (DD t.place (below t.place j) j).size=_;lia
  rw[e2] at L1;generalize hp:below t.place j=p at *;generalize ht1:(t.put j).1=t1 at *;have hes1:(DD es p (hsh prog w k,AT a)).toList=(ks.take p++[(k,a)]++ks.drop p).map λx=>(hsh prog w x.1,AT x.2):=by
   rw[Az,X.els,Ct,Ct,TD,TH];rfl
  have hsz1:(DD es p (hsh prog w k,AT a)).size=es.size+1:=by
   have:=congrArg EQ (Az es p (hsh prog w k,AT a));simp at this;have:=X.len;lia
  have hperm:(ks.take p++[(k,a)]++ks.drop p).Perm ((k,a)::ks):=by
   have:=RA (a:=(k,a)) (l₁:=ks.take p) (l₂:=ks.drop p);rw[DZ] at this;rw[CC];exact this
  have nd1:((ks.take p++[(k,a)]++ks.drop p).map (·.1)).Nodup:=(Lm (hperm.map (·.1))).mpr (by rw[BO];exact C7.mpr ⟨hnm,X.nd⟩);have hl1:(DD es p (hsh prog w k,AT a)).toList.map (·.1)=(es.toList.map (·.1)).take p++[hsh prog w k]++(es.toList.map (·.1)).drop p:=by
   rw[Az,Ct,Ct,TD,TH];rfl
  have e3:(t.put j).2=p:=e2;have go:∀(t2:CS),Tab t2->t2.mask=t1.mask->t2.place=t1.place->t2.plain=true->t2.led=ledOf w->wpAny (AO prog w) A (do
    storeSet S (DD es p (hsh prog w k,AT a)) t2
    if (!false&&t2.tooFull)=true then do
     U1 S (So (es.size+1))
     pure true
    else pure true) Q E s:=by
   intro t2 T2 m2 p2 q2 r2;refine As (QO ho hd ?_ (by rw[hsz1,EZ];have:=X.len;lia));obtain ⟨o',ep',ho',hex',hd'⟩:=stored ho hex hd (DD es p (hsh prog w k,AT a)) t2;have L2:Loc t2 ((DD es p (hsh prog w k,AT a)).toList.map (·.1)):=by
    rw[hl1];intro idx jj h' a1 a2;rw[p2] at a1;obtain ⟨m,w1,w2⟩:=L1 idx jj h' a1 a2;refine ⟨m,?_,λm' hm'=>?_⟩
    ·unfold way probeStart at w1 ⊢
     rw[m2];exact w1
    ·have:=w2 m' hm'
     unfold way probeStart at this ⊢;rw[m2,p2];exact this
   have tf:t2.tooFull=decide (t.mask*3<=(t.place.size+1)*5):=by
    unfold tooFull;rw[Um T2,p2,m2,ps,pm]
   rw[tf];by_cases c:t.mask*3<=(t.place.size+1)*5
   ·rw[decide_eq_true c]
    simp only[LH,TC,if_true];rw[<- hsz1];refine As (ZL (ks:=ks.take p++[(k,a)]++ks.drop p) rfl ho' hex' hd' T2 (by rw[hsz1,p2,ps,X.len]) hes1 nd1 ?_ ?_ ?_ q2 r2 ?_)
    ·rw[p2,m2,ps,pm];exact c
    ·rw[p2,m2,ps,pm]
     have:=X.few;lia
    ·rw[hperm.length_eq]
     simp;lia
    ·intro h' es' t' ks' sb X' pk
     exact wpAny_pure (q true h' es' t' ks' ((Dx ..).trans sb) X' (.inr ⟨hnm,pk.trans hperm⟩))
   ·rw[decide_eq_false c]
    simp only[S4,AR,if_false];exact wpAny_pure (q true _ _ t2 _ (Dx ..) ⟨⟨o',ep',ho',hex',hd'⟩,T2,by rw[hsz1,p2,ps,X.len],L2,hes1,nd1,by rw[p2,m2,ps,pm];lia,q2,r2⟩ (.inr ⟨hnm,hperm⟩))
  rw[e3];simp only[pp,if_true];refine As (AAg hk ?_);simp only[if_true];exact go t1 T1 rfl rfl pp pd
theorem ABj{k:List Int}{a:Addr}(X:TS prog w s.heap S es t ks)(hK:∀x∈ks,IK prog w s.heap x.1 x.2)(hk:IK prog w s.heap k a)(hu:A.units<C2)(h60:ks.length<=300){Q:Bool->AA->Prop}
  (q:∀b h' es' t' ks',D6 S s.heap h'->TS prog w h' S es' t' ks'->Added ks k a ks'->Q b {s with heap:=h',toks:=s.toks+(k.length+1)}) :
  wpAny (AO prog w) A (setAdd S (.ref a)) Q E s:=by
 unfold setAdd;refine EE ?_;refine As (PQ hu hk ?_);exact Rb (s:={s with toks:=s.toks+(k.length+1)}) X hK hk hu h60 λb h' es' t' ks' sb X' ad=>q b h' es' t' ks' sb X' ad
end
structure Of(vals:Nat->List Int×Addr)(i:Nat)(ks:List (List Int×Addr)):Prop where
 sub:∀x∈ks,∃j,j<i/\x=vals j
 sup:∀j,j<i->(vals j).1∈ks.map (·.1)
 len:ks.length<=i
theorem Of.next{vals:Nat->List Int×Addr}{i:Nat}{ks ks':List (List Int×Addr)}(h:Of vals i ks)(a:Added ks (vals i).1 (vals i).2 ks'):Of vals (i+1) ks':=by
 rcases a with⟨hm,rfl⟩ | ⟨hm,p⟩
 ·refine ⟨λx hx=>?_,λj hj=>?_,by have:=h.len;lia⟩
  ·obtain ⟨j,hj,e⟩:=h.sub x hx
   exact ⟨j,by lia,e⟩
  ·by_cases c:j=i
   ·rw[c];exact hm
   ·exact h.sup j (by lia)
 ·refine ⟨λx hx=>?_,λj hj=>?_,by rw[p.length_eq];have:=h.len;simp;lia⟩
  ·rcases Bz.mp (p.mem_iff.mp hx) with e | hx
   ·exact ⟨i,by lia,e⟩
   ·obtain ⟨j,hj,e⟩:=h.sub x hx
    exact ⟨j,by lia,e⟩
  ·have pm:=(p.map (·.1)).mem_iff (a:=(vals j).1)
   by_cases c:j=i
   ·subst c
    exact pm.mpr (by rw[BO];exact AD)
   ·exact pm.mpr (by rw[BO];exact AG _ (h.sup j (by lia)))
section
variable{prog:AL}{w:AQ}{A:BS}{s:AA}
theorem GF{h h':Heap}{k:List Int}{a:Addr}(hk:IK prog w h k a)(e:∀o,h.get? a=some o->h'.get? a=some o):IK prog w h' k a:=by
 obtain ⟨o,items,n,ho,r⟩:=hk;exact ⟨o,items,n,e o ho,r⟩
theorem VH{h h':Heap}{S:Addr}{es:Array (Int×Ap)}{t:CS}{ks:List (List Int×Addr)}(X:TS prog w h S es t ks)(e:∀o,h.get? S=some o->h'.get? S=some o):TS prog w h' S es t ks:=by
 obtain ⟨o,ep,ho,r⟩:=X.obj;exact ⟨⟨o,ep,e o ho,r⟩,X.tab,X.len,X.loc,X.els,X.nd,X.few,X.pl,X.ld⟩
end
theorem Xi{prog:AL}{w:AQ}{h:Heap}{S:Addr}{led:Bool}(hw:led=ledOf w)(hg:h.get? S=some {cls:=.type "set",dict:=none,data:=.set #[] 0 (.fresh 0 0 led)}):TS prog w h S #[] (.fresh 0 0 led) []:=by
 refine ⟨⟨_,0,hg,⟨rfl,rfl,rfl⟩,rfl⟩,⟨.inl rfl,rfl,BH _,λj hj=>(by cases hj),.nil⟩,rfl,λidx j h' a=>?_,rfl,.nil,by show 0*5<7*3;decide,rfl,hw⟩;cases a
section
variable{prog:AL}{w:AQ}{A:BS}{E:Ap->AA->Prop}{s:AA}
theorem Zc(a:Ap){Q₁:Ap->AA->Prop}(h:Q₁ (.ref s.heap.objs.size) {s with heap:=s.heap.push {cls:=.type "set",dict:=none,data:=.set #[] 0 (.fresh 0 0 (ledOf w))}}) :
  codeAny (AO prog w) A (.call (.builtin "set.__new__") ⟨[.type "set",a],[]⟩) (wants Q₁ E) s:=by
 refine Sr ?_;show wpAny _ A.in1 (checkBuiltinCall "set.__new__" ⟨[.type "set",a],[]⟩ >>= λ_=>again (.builtin "set.__new__" ⟨[.type "set",a],[]⟩)) _ _ s;refine As (KA (F.newCall_set_1 a) (wpAny_pure ⟨Mb Su _,Ff F.entry_set_new ?_⟩));rw[G0 Su _];unfold Builtin.«set.__new__» TJ;have sself:=sub_set_self;obtain ⟨hp,g,d,tk,os⟩:=s;dsimp only
 wp_walk
 refine IT (wpAny_pure ?_);dsimp only;simp only[newObj];refine As (wpAny_alloc (wpAny_pure ?_));exact wpAny_pure h
end
theorem Xc{α:Type}{l:List α}:∀{k:Nat}{y:α},l[k]?=some y->(y::l.eraseIdx k).Perm l:=by
 induction l with
 | nil=>intro k y h;simp at h
 | cons a t ih =>
  intro k y h;cases k with
  | zero =>
   obtain rfl:a=y:=by simpa using h
   exact LJ _
  | succ k =>
   have h':t[k]?=some y:=by simpa using h
   exact (OC a y _).trans (S3 a (ih h'))
set_option tactic.hygienic true in
theorem Ul{α:Type}(next:Nat->Nat):∀(fuel k:Nat) (left:List α) (out:Array α),left.length<=fuel->(U2 next fuel k left out).toList.Perm (out.toList++left)
 | 0,k,left,out,h=>by
  have:left=[]:=DC.mp (by lia);subst this;rw[B9];exact LJ _
 | fuel+1,k,left,out,h=>by
  unfold U2;cases e:left[next k%left.length]? with
  | none =>
   have hl:left=[]:=by
    cases left with
    | nil=>rfl
    | cons a t =>
     have:=K9 (next k) (show 0<(a::t).length by simp);rw[AI this] at e;cases e
   subst hl;rw[B9]
  | some x =>
   have hi:=(AH.mp e).1;have hl:(left.eraseIdx (next k%left.length)).length=left.length-1:=List.length_eraseIdx_of_lt hi;have ih:=Ul next fuel (k+1) (left.eraseIdx (next k%left.length)) (out.push x) (by lia)
   refine ih.trans ?_;rw[ID,CC];exact EX _ (Xc e)
set_option tactic.hygienic true in
theorem Zz{α:Type}(next:Nat->Nat)(xs:Array α):(P0 next xs).toList.Perm xs.toList:=by
 have:=Ul next xs.size 0 xs.toList #[] (by simp)
 unfold P0;simpa using this
namespace F
theorem Kd:U3 table "set.__iter__" = some Builtin.«frozenset.__iter__» :=
 entryFor_alias (id':="frozenset.__iter__") (by kernel_rfl) (by first | rfl | decide +kernel) (by decide +kernel) (by kernel_rfl)
theorem Pg:Manifest.owners.lookup (String.ofList ['r','o','t','a','r','e','t','i','_','t','e','s'].reverse)=some Manifest.sig_set_iterator:=by kernel_rfl
theorem DW:Slot "set_iterator" "__next__" "set_iterator.__next__":=.of (owner:="set_iterator") (n:="__next__") (by rw[Sz,OE];kernel_rfl) (by decide +kernel) (by decide +kernel) (by decide +kernel) (by first | exact .inl (by decide +kernel) | exact .inr (by decide +kernel)) (by rw[OF];kernel_rfl)
theorem Ku:U3 table "set_iterator.__next__" = some Builtin.«set_iterator.__next__»:=entryFor_of_tree (by kernel_rfl)
theorem Ou(a:Ap):U4 "set_iterator.__next__" ⟨[a],[]⟩:=by
 unfold U4;rw[signature?_of (id:="set_iterator.__next__") (n:=['_','_','t','x','e','n','_','_']) (o:=['r','o','t','a','r','e','t','i','_','t','e','s']) (by kernel_rfl) Pg];kernel_rfl
theorem Hl:Slot "set_iterator" "__iter__" "set_iterator.__iter__":=.of (owner:="set_iterator") (n:="__iter__") (by rw[Sz,OE];kernel_rfl) (by decide +kernel) (by decide +kernel) (by decide +kernel) (by first | exact .inl (by decide +kernel) | exact .inr (by decide +kernel)) (by rw[OF];kernel_rfl)
theorem Ot(a:Ap):U4 "set_iterator.__iter__" ⟨[a],[]⟩:=by
 unfold U4;rw[signature?_of (id:="set_iterator.__iter__") (n:=['_','_','r','e','t','i','_','_']) (o:=['r','o','t','a','r','e','t','i','_','t','e','s']) (by kernel_rfl) Pg];kernel_rfl
theorem Kv:U3 table "set_iterator.__iter__" = some Builtin.«dict_keyiterator.__iter__» :=
 entryFor_alias (id':="dict_keyiterator.__iter__") (by kernel_rfl) (by first | rfl | decide +kernel | (unfold String.splitOn;simp +decide [String.splitOnAux])) (by decide +kernel) (by kernel_rfl)
end F
def SI(h:Heap)(I S:Addr)(slot i n ep:Nat):Prop:=∃o,h.get? I=some o/\o.cls=.type "set_iterator"/\o.data=.fields #[E8 slot,E8 i,.ref S,E8 n,E8 ep]
theorem SI.typeIs{s:AA}{I S:Addr}{slot i n ep:Nat}(x:SI s.heap I S slot i n ep):s.TypeIs (.ref I) "set_iterator":=let ⟨o,ho,hc,_⟩:=x;⟨o,ho,hc⟩
section
variable{prog:AL}{w:AQ}{A:BS}{E:Ap->AA->Prop}{s:AA}{S:Addr}{es:Array (Int×Ap)}{t:CS}{ep:Nat}{o:Obj}
def text(w:AQ):Bool:=w.params.followText "set-order"
def ord(w:AQ)(S:Addr)(ep:Nat)(es:Array (Int×Ap)):Array (Int×Ap):=if text w=true then P0 (w.params.setOrder S ep) es else es
theorem Qj(w:AQ)(S:Addr)(ep:Nat)(es:Array (Int×Ap)):(ord w S ep es).toList.Perm es.toList:=by
 unfold ord;split
 ·exact Zz _ _
 ·exact LJ _
def slotAt(w:AQ)(t:CS)(i:Nat):Nat:=if text w=true then 0 else if i=0 then 0 else t.place.getD (i-1) 0+1
theorem Ss(hx:text w=false)(T:Tab t){i:Nat}(hi:i<=t.place.size):below t.place (slotAt w t i)=i:=by
 obtain ⟨b1,b2,b3⟩:=Ej (j:=slotAt w t i) T.rise;have r:=CF.mp T.rise;have gd:∀k (hk:k<t.place.size) d,t.place.getD k d=t.place.toList[k]'(by simpa using hk):=λk hk d=>by simp[DH,hk]
 have sl:∀h0:i≠0,slotAt w t i=t.place.toList[i-1]'(by simp;lia)+1:=λh0=>by
  unfold slotAt;rw[hx,if_neg (by decide),if_neg h0,gd (i-1) (by lia)]
 rcases Mn (below t.place (slotAt w t i)) i with c | c | c
 ·have z:=b2 _ (AF _) (by lia)
  rw[gd _ (by lia)] at z;have slz:=sl (by lia);by_cases d:below t.place (slotAt w t i)=i-1
  ·have:t.place.toList[below t.place (slotAt w t i)]'(by simp;lia)=t.place.toList[i-1]'(by simp;lia):=by congr 1
   lia
  ·have:=r (below t.place (slotAt w t i)) (i-1) (by simp;lia) (by simp;lia) (by lia)
   lia
 ·exact c
 ·have z:=b1 i c
  rw[gd i (by lia)] at z;by_cases h0:i=0
  ·have:slotAt w t i=0:=by unfold slotAt;rw[hx,if_neg (by decide),if_pos h0]
   lia
  ·have slz:=sl h0
   have:=r (i-1) i (by simp;lia) (by simp;lia) (by lia);lia
theorem AAq(ho:s.heap.get? S=some o)(hd:o.data=.set es ep t)(T:Tab t)(hl:es.size=t.place.size)(hp:t.plain=true)(hled:t.led=ledOf w){i:Nat}{Q:Option (Ap×Nat)->AA->Prop}
  (q:Q (((ord w S ep es)[i]?).map λe=>(e.2,slotAt w t (i+1))) s) (hi:i<=es.size):wpAny (AO prog w) A (setNext S (slotAt w t i) i ep) Q E s:=by
 have hf:=GZ T hl;unfold setNext;refine As (EJ ho hd hf ?_);dsimp only;unfold SA;refine As (As (IT (wpAny_pure ?_)));cases hx:text w with
 | true =>
  have hx':(AO prog w).w.params.followText "set-order" = true:=hx;simp only[hx',if_true,bne_self_eq_false,AR,if_false];unfold setWalk SA;refine As (As (EJ ho hd hf ?_));dsimp only;refine As (As (IT (wpAny_pure ?_)));simp only[hx',if_true];refine As (IT (wpAny_pure ?_));refine wpAny_pure ?_;have e1:ord w S ep es=P0 (w.params.setOrder S ep) es:=by unfold ord;rw[hx];rfl
  have e2:∀i,slotAt w t i=0:=λi=>by unfold slotAt;rw[hx];rfl
  rw[e1,e2] at q;rw[e2];exact q
 | false =>
  have hx':(AO prog w).w.params.followText "set-order" = false:=hx;have hledT:t.led=true:=by rw[hled];unfold ledOf;rw[show w.params.followText "set-order" = false from hx];rfl
  have e1:ord w S ep es=es:=by unfold ord;rw[hx];rfl
  rw[e1] at q;simp only[hx',AR,if_false];refine JJ (λhab=>?_) (λ_=>?_)
  ·have hab':(!t.plain&&decide (es.size>1))=true:=hab
   rw[hp] at hab';cases hab'
  refine As ?_;show wpAny _ _ (if (!t.led && !es.isEmpty)=true then unsupported "set:maker-not-led" else pure ()) _ _ _;rw[hledT];simp only[DE,SH,AR,if_false];refine wpAny_pure (wpAny_pure ?_);rw[Ss hx T (by rw[<- hl];exact hi)];by_cases c:i<es.size
  ·have c2:i<t.place.size:=by rw[<- hl];exact c
   rw[A1 c] at q ⊢;rw[A1 c2];have e3:slotAt w t (i+1)=t.place[i]+1:=by
    unfold slotAt;rw[hx,if_neg (by decide),if_neg (by lia)];simp[DH,c2]
   rw[e3] at q;exact q
  ·rw[HZ (by lia)] at q ⊢
   exact q
def SSt(w:AQ)(I S:Addr)(o:Obj)(es:Array (Int×Ap))(t:CS)(ep i:Nat)(h:Heap):Prop:=h.get? S=some o/\SI h I S (slotAt w t i) i es.size ep
theorem Vc(hh:A.handled=none){I:Addr}(hne:S≠I)(hd:o.data=.set es ep t)(T:Tab t)(hl:es.size=t.place.size)(hp:t.plain=true)(hled:t.led=ledOf w){i:Nat}(st:SSt w I S o es t ep i s.heap)(hi:i<=es.size){Q:Option Ap->AA->Prop}
  (q1:∀e h',(ord w S ep es)[i]?=some e->SSt w I S o es t ep (i+1) h'->D6 I s.heap h'->Q (some e.2) {s with heap:=h'})
  (q2:(ord w S ep es)[i]?=none->∀h',QU I s.heap h'->Q none {s with heap:=h'}):wpAny (AO prog w) A (Kt (.ref I)) Q E s:=by
 obtain ⟨ho,x⟩:=st;obtain ⟨oi,hoi,hci,hdi⟩:=id x;unfold Kt;refine As (L7 (wpAny_callSpecial?_slot (name:=IF "__next__") x.typeIs F.DW (Do F.DW x.typeIs F.Ku ?_ (F.Ou _))));unfold Builtin.«set_iterator.__next__»;refine As (KA (a:=(AT I,[])) rfl ?_)
 try dsimp only
 refine As (On hoi hdi ?_);show wpAny _ _ (setEntries S >>= _) _ _ s;refine As (O4 ho hd (GZ T hl) ?_);simp only[bne_self_eq_false,AR,if_false];show wpAny _ _ (setNext S (((slotAt w t i:Nat):Int)).toNat (((i:Nat):Int)).toNat (((ep:Nat):Int)).toNat >>= _) _ _ s;rw[DO,DO,DO];refine As (AAq ho hd T hl hp hled ?_ hi);cases e:(ord w S ep es)[i]? with
 | some v =>
  show wpAny _ _ (OQ (.ref I) 0 (E8 ((slotAt w t (i+1):Nat):Int)) >>= λ_=>OQ (.ref I) 1 (E8 ((i:Int)+1)) >>= λ_=>ret v.2) _ _ s;refine As (G3 hoi hdi (by simp) ?_);have g1:=Eg (L8 (λfs=>fs.setIfInBounds 0 (E8 ((slotAt w t (i+1):Nat):Int)))) hoi (IH (Ex hdi _));have d1:=Ex hdi (λfs=>fs.setIfInBounds 0 (E8 ((slotAt w t (i+1):Nat):Int)));refine As (G3 g1 d1 (by simp) ?_);have g2:=Eg (L8 (λfs=>fs.setIfInBounds 1 (E8 ((i:Int)+1)))) g1 (IH (Ex d1 _));have d2:=Ex d1 (λfs=>fs.setIfInBounds 1 (E8 ((i:Int)+1)));refine wpAny_pure ⟨_,rfl,wpAny_pure (q1 v _ e ⟨?_,_,g2,?_,?_⟩ ((Dx ..).trans (Dx ..)))⟩
  ·exact (ER _ _ (C6 hne)).trans ((ER _ _ (C6 hne)).trans ho)
  ·exact (Ki ..).trans ((Ki ..).trans hci)
  ·rw[d2]
   simp
 | none =>
  show wpAny _ _ (OQ (.ref I) 2 CL >>= λ_=>Ps (D4 "StopIteration") [] >>= λx=>Q8 x) _ _ s;refine As (G3 hoi hdi (by simp) ?_);refine As ?_;simp only[Ps,UV];refine As (DB ?_ (by size_fits));refine As (m:=IJ _ _) (KA (a:=CL) (by first | rfl | (simp only[IJ];rfl)) ?_);refine DB ?_ (by size_fits);simp only[Q8];refine As (OX ?_);rw[show A.in1.handled=none from hh];refine As (wpAny_pure (QY ?_));refine As (G9 (T:="StopIteration") (b:=true) ⟨_,AW _ rfl,rfl⟩ SW ?_);exact wpAny_pure (q2 e _ (((Dx ..).extBut.push _).push _))
theorem Jo(w:AQ)(S:Addr)(ep:Nat)(es:Array (Int×Ap)):(ord w S ep es).size=es.size:=by
 rw[<- AV,(Qj w S ep es).length_eq,AV]
theorem Wb(hh:A.handled=none){I:Addr}(hne:S≠I)(hd:o.data=.set es ep t)(T:Tab t)(hl:es.size=t.place.size)(hp:t.plain=true)(hled:t.led=ledOf w) :
  Walks prog w A I [I,S] [I] es.size (λi v=>∃e,(ord w S ep es)[i]?=some e/\v=e.2) (λi h=>i<=es.size/\SSt w I S o es t ep i h) where
 sub:=λb hb=>by simp at hb;simp[hb]
 frame:=λi h h' ⟨hi,h1,oi,h2,r⟩ hk=>⟨hi,hk S (by simp) o h1,oi,hk I (by simp) oi h2,r⟩
 item:=λi s Q E hi ⟨hi',st⟩ hQ=>by
  refine Vc hh hne hd T hl hp hled st hi' (λe h' ge st' sb=>hQ _ h' s.toks ⟨e,ge,rfl⟩ ⟨hi,st'⟩ λb ob hb eo=>?_) (λz=>?_)
  ·rw[sb.2 b (λ(q:b=I)=>hb (by simp[q]))]
   exact eo
  ·have:=Jo w S ep es
   rw[Array.getElem?_eq_none_iff] at z;lia
 done:=λs Q E ⟨_,st⟩ hQ=>by
  refine Vc hh hne hd T hl hp hled st (AF _) (λe h' ge st' sb=>?_) (λz h' eb=>hQ h' s.toks λb ob hb eo=>eb b ob (λq=>hb (by simp[q])) eo);have:=(C9.mp ge).1;rw[Jo] at this;lia
 self:=λi s Q E ⟨_,_,x⟩ hQ=>by
  refine Mm x.typeIs F.Hl (Do F.Hl x.typeIs F.Kv ?_ (F.Ot _));show wpAny _ _ (ret (.ref I)) _ _ s;exact wpAny_pure ⟨_,rfl, "set_iterator",_,x.typeIs,F.DW.lookup,hQ⟩
theorem YS(ho:s.heap.get? S=some o)(hex:o.ExactSet)(hd:o.data=.set es ep t)(T:Tab t)(hl:es.size=t.place.size)(hp:t.plain=true){Q:Ap->AA->Prop}
  (q:∀x,(s.heap.push x).get? s.heap.objs.size=some x->SSt w s.heap.objs.size S o es t ep 0 (s.heap.push x)->Q (.ref s.heap.objs.size) {s with heap:=s.heap.push x}):wpAny (AO prog w) A (N5 (.ref S)) Q E s:=by
 have hf:=GZ T hl;have tS:s.TypeIs (.ref S) "set":=⟨o,ho,hex.1⟩;refine Mm tS OG (Do OG tS F.Kd ?_ (PySem.F.args_set_iter_1 _));unfold Builtin.«frozenset.__iter__»;refine As (KA (a:=S) rfl ?_);refine As (m:=U5 S) (As (O4 ho hd hf (wpAny_pure ?_)));refine As (m:=setDrawn S) ?_;unfold setDrawn SA;refine As (EJ ho hd hf ?_);dsimp only;refine As (As (IT (wpAny_pure ?_)));refine wpAny_pure ?_;refine JJ (λhab=>?_) (λ_=>?_)
 ·have hab':(!w.params.followText "set-order" && (!t.plain&&decide (es.size>1)))=true:=hab
  rw[hp] at hab';simp at hab'
 refine As (wpAny_pure ?_);refine As (wpAny_setEpoch_of ho hd hf ?_);unfold newFields;refine As (DB ?_);have z:slotAt w t 0=0:=by
  unfold slotAt;split
  ·rfl
  ·rfl
 refine wpAny_pure ⟨_,rfl, "set_iterator",_,⟨_,AW _ rfl,rfl⟩,F.DW.lookup,q _ (AW _ rfl) ⟨AJ _ ho,_,AW _ rfl,rfl,?_⟩⟩;rw[z];rfl
theorem YT(ho:s.heap.get? S=some o)(hex:o.ExactSet){Q:Bool->AA->Prop}(h:Q false s):wpAny (AO prog w) A (LZ (.ref S)) Q E s:=by
 have tS:s.TypeIs (.ref S) "set":=⟨o,ho,hex.1⟩;unfold LZ;refine As (F4 tS PySem.F.slot_set_len.lookup ?_);generalize hid:("set.__len__" : String)=id0
 wp_delta
 rw[show splitId id0=some ("set","__len__") from by subst hid;decide +kernel];subst hid;refine As (G9 (T:="set") (b:=true) tS (by rw[OF];kernel_rfl) ?_);refine JJ (λhab=>absurd hab (by decide)) (λ_=>?_);refine JJ (λ_=>?_) (λhab=>absurd (by decide +kernel) hab);refine As (MY tS ?_);exact wpAny_pure h
theorem Tt{R:R0->AA->Prop}(hh:A.handled=none)(ho:s.heap.get? S=some o)(hex:o.ExactSet)(hd:o.data=.set es ep t)(T:Tab t)(hl:es.size=t.place.size)(hp:t.plain=true)(hled:t.led=ledOf w)(h61:es.size<=301)
  (D:Addr) (res:Ap) (c₀:Nat) (hD:s.heap.get? D=some {cls:=.type "list",data:=.seq #[] c₀})
  (hR:∀h' tk acc' c',(∀b ob,b≠D->s.heap.get? b=some ob->h'.get? b=some ob)->h'.get? D=some {cls:=.type "list",dict:=none,data:=.seq acc' c',slots:=#[]} ->
   ItemsOf (λi v=>∃e,(ord w S ep es)[i]?=some e/\v=e.2) acc' es.size->R (.ok (.ret res)) {s with heap:=h',toks:=tk}) :
  wpAny (AO prog w) A.in1 (EL (.ref D) (.ref S) res)
   (λfin s'=>match fin with | .done f=>R (.ok f) s' | .again c'=>c'.quiet=true/\codeAny (AO prog w) A c' R s') (λe s'=>R (.error e) s') s:=by
 have tS:s.TypeIs (.ref S) "set":=⟨o,ho,hex.1⟩;have nDS:D≠S:=λe=>by
  rw[e,ho] at hD;cases hD;cases hd
 have nSI:S≠s.heap.objs.size:=B2 (By ho);have nDI:D≠s.heap.objs.size:=B2 (By hD);have nDf:D∉[s.heap.objs.size,S]:=λhm=>by
  rcases Bz.mp hm with e | hm
  ·exact nDI e
  ·exact nDS (B5.mp hm)
 have W:=(Wb (prog:=prog) (A:=A.in1) (o:=o) hh nSI hd T hl hp hled).toS;unfold EL;refine As (MY (T:="set") tS ?_);have c1:M3 (.ref D) (.ref S)=false:=by simp[M3,nDS]
 have c2:(D4 "set" == D4 "list")=false:=by decide
 have c3:(D4 "set" == D4 "tuple")=false:=by decide
 simp only[c1,c2,c3,Tu,AR,if_false];refine As (YS ho hex hd T hl hp λx gx st=>?_);refine As (EE (YT (s:={s with heap:=s.heap.push x}) (AJ _ ho) hex ?_));refine JJ (λ_=>?_) (λhab=>absurd (by decide +kernel) hab);have hD1:(s.heap.push x).get? D=some {cls:=.type "list",data:=.seq #[] c₀}:=AJ _ hD;refine As (GV ?_);refine As ?_;show wpAny _ _ (updateSeq D (·.push .none) >>= λ_=>updateSeq D (·.pop)) _ _ _;refine As (SC hD1 rfl ?_);have hD2:=Eg (DS (·.push CL)) hD1 rfl;refine SC (hz:=by seq_fits) hD2 rfl ?_;have hD3:=Eg (DS (·.pop)) hD2 rfl;have keep:∀b ob,b≠D->(s.heap.push x).get? b=some ob->(((s.heap.push x).update D (DS (·.push CL))).update D (DS (·.pop))).get? b=some ob:=λb ob hb e=>(ER _ _ (C6 hb)).trans ((ER _ _ (C6 hb)).trans e);obtain ⟨st1,oi,st2,st3⟩:=st;refine wpAny_pure ⟨Mb F.plain_extend_loop _,?_⟩;refine codeAny_extend_loopS W (by rw[EZ];lia) D nDf res es.size 0 _ _ _ rfl (BH _) ⟨BH _,keep S o nDS.symm st1,oi,keep _ oi (C6 nDI) st2,st3⟩ hD3 (ItemsOf.nil _) λs' acc' c' hm hS' hacc=>?_;rw[Moved.eq_with hm];refine hR s'.heap s'.toks acc' c' (λb ob hb e=>hm.heap b ob (λhmem=>?_) (keep b ob hb (AJ _ e))) hS' hacc;rcases Bz.mp hmem with e' | hmem
 ·exact hb e'
 ·exact absurd (By e) (by rw[B5.mp hmem];exact FE _)
end
end SB
end
section
namespace SB
open PySem PySem.W PyProof.Rows
def kw{α:Type}(lt:Nat->Nat->Bool)(n:Nat):KasT α->(α->Prop)->Prop
 | .ret a,Q=>Q a
 | .ask i j k,Q=>i<n/\j<n/\kw lt n (k (lt i j)) Q
abbrev g(p:Array Nat)(k:Nat):Nat:=p.getD k 0
structure PP(n:Nat)(p:Array Nat):Prop where
 size:p.size=n
 lt:∀k,k<n->g p k<n
 inj:∀k k',k<n->k'<n->g p k=g p k'->k=k'
structure Tot(n:Nat)(lt:Nat->Nat->Bool):Prop where
 or:∀i j,i<n->j<n->i≠j->lt i j=false->lt j i=true
 as:∀i j,i<n->j<n->lt i j=true->lt j i=false
 tr:∀i j k,i<n->j<n->k<n->lt i j=true->lt j k=true->lt i k=true
def Up(lt:Nat->Nat->Bool)(p:Array Nat)(m:Nat):Prop:=∀a b,a<b->b<m->lt (g p a) (g p b)=true
section
variable{n:Nat}{lt:Nat->Nat->Bool}{p:Array Nat}
theorem Ze(n:Nat):PP n (J1 (AX n)):=by
 have ge:∀k,k<n->g (J1 (AX n)) k=k:=λk hk=>by
  unfold g;rw[F0];simp[hk]
 refine ⟨by simp,λk hk=>by rw[ge k hk];exact hk,λk k' hk hk' e=>?_⟩;rw[ge k hk,ge k' hk'] at e;exact e
end
end SB
end
section
namespace TM
open PySem PyProof.Rows
def Iw:Nat->Nat->StateT A9 Sem (Option Nat):=sortPriv% PySem.Builtin.countRun
theorem Nt(lo nrem:Nat):Iw lo nrem=(do
 let mut n:=1
 for _ in [1:nrem] do
  let some smaller <- NC (lo+n) (lo+n-1) | return none
  if smaller then break
  n:=n+1
 if n==nrem then return some n
 if n>1 then
  let some rose <- NC lo (lo+n-1) | return none
  if rose then return some n
  Mc lo (lo+n)
 rule "list.sort.descending-run"
 n:=n+1
 let mut neq:=0
 for _ in [n:nrem] do
  let some smaller <- NC (lo+n) (lo+n-1) | return none
  if smaller then
   if neq>0 then Mc (lo+n-(neq+1)) (lo+n)
   neq:=0
  else
   let some larger <- NC (lo+n-1) (lo+n) | return none
   if larger then break
   neq:=neq+1
  n:=n+1
 if neq>0 then Mc (lo+n-(neq+1)) (lo+n)
 Mc lo (lo+n)
 for _ in [n:nrem] do
  let some smaller <- NC (lo+n) (lo+n-1) | return none
  if smaller then break
  n:=n+1
 return some n):=rfl
def N(rk:AC->Int)(xs:Array AC)(i:Nat):Int:=match xs[i]? with
 | some p=>rk p
 | none=>0
variable{rk:AC->Int}
theorem Dw{xs ys:Array AC}{i j:Nat}(h:xs[i]?=ys[j]?):N rk xs i=N rk ys j:=by unfold N;rw[h]
def Al(G:AC->Prop)(xs:Array AC):Prop:=∀(i:Nat) (x:AC),xs[i]?=some x->G x
theorem Al.perm{G:AC->Prop}{xs ys:Array AC}(h:Al G xs)(p:ys.Perm xs):Al G ys:=λi x e=>by
 have m:x∈ys.toList:=by
  obtain ⟨hl,rfl⟩:=C9.mp e;exact M4 hl
 have m2:=(F8.mp p).mem_iff.mp m;obtain ⟨k,hk,e⟩:=CA.mp m2;exact h k x (by rw[<- BU,AI hk,e])
def Di(rk:AC->Int)(xs:Array AC):Prop:=(xs.toList.map rk).Nodup
theorem Di.perm{xs ys:Array AC}(h:Di rk xs)(p:ys.Perm xs):Di rk ys:=((F8.mp p).map rk).nodup_iff.mpr h
theorem Di.ne{xs:Array AC}(h:Di rk xs){i j:Nat}(ij:i<j)(jl:j<xs.size):N rk xs i≠N rk xs j:=by
 have il:i<xs.size:=by lia
 have:=CF.mp h i j (by simpa using il) (by simpa using jl) ij;unfold N;rw[A1 il,A1 jl];simpa using this
def Up(rk:AC->Int)(xs:Array AC)(lo hi:Nat):Prop:=∀i j,lo<=i->i<=j->j<hi->N rk xs i<=N rk xs j
def Down(rk:AC->Int)(xs:Array AC)(lo hi:Nat):Prop:=∀i j,lo<=i->i<=j->j<hi->N rk xs j<=N rk xs i
structure Ba(G:AC->Prop)(rk:AC->Int)(κ:EK)(a₀:Array AC)(st:A9):Prop where
 perm:(AM st).Perm a₀
 kind:kindOf st=κ
 failed:ET st=none
 all:Al G a₀
 di:Di rk a₀
structure Nx(lo:Nat)(st st':A9):Prop where
 perm:(AM st').Perm (AM st)
 kind:kindOf st'=kindOf st
 failed:ET st'=ET st
 pend:Bn st'=Bn st
 low:∀i,i<lo->(AM st')[i]?=(AM st)[i]?
theorem Nx.refl(lo:Nat)(st:A9):Nx lo st st:=⟨SD _,rfl,rfl,rfl,λ_ _=>rfl⟩
theorem Nx.trans{lo:Nat}{a b c:A9}(h:Nx lo a b)(k:Nx lo b c):Nx lo a c:=⟨k.perm.trans h.perm,k.kind.trans h.kind,k.failed.trans h.failed,k.pend.trans h.pend,λi hi=>(k.low i hi).trans (h.low i hi)⟩
theorem Ba.nx{G:AC->Prop}{κ:EK}{a₀:Array AC}{st st':A9}{lo:Nat}(h:Ba G rk κ a₀ st)(n:Nx lo st st'):Ba G rk κ a₀ st':=⟨n.perm.trans h.perm,n.kind.trans h.kind,n.failed.trans h.failed,h.all,h.di⟩
theorem Ba.size{G:AC->Prop}{κ:EK}{a₀:Array AC}{st:A9}(h:Ba G rk κ a₀ st):(AM st).size=a₀.size:=h.perm.size_eq
theorem Ba.ne{G:AC->Prop}{κ:EK}{a₀:Array AC}{st:A9}(h:Ba G rk κ a₀ st){i j:Nat}(ij:i<j)(jl:j<a₀.size):N rk (AM st) i≠N rk (AM st) j:=(h.di.perm h.perm).ne ij (by rw[h.size];exact jl)
section
variable{prog:AL}{w:AQ}{A:BS}{E:Ap->AA->Prop}{s:AA}{G:AC->Prop}{κ:EK}{a₀:Array AC}
def Cmp(prog:AL)(w:AQ)(A:BS)(E:Ap->AA->Prop)(s:AA)(κ:EK)(G:AC->Prop)(rk:AC->Int):Prop :=
 ∀x y,G x->G y->∀(st:A9) (Q:Option Bool->A9->Prop),kindOf st=κ->Q (some (decide (rk x<rk y))) st->wpS (AO prog w) A E s (lt' x y) Q st
theorem BZ{xs:Array AC}{i:Nat}{st:A9}{Q:AC->A9->Prop}(hi:i<xs.size)(h:Q xs[i] st):wpS (AO prog w) A E s (C8 xs i) Q st:=by
 rw[elem'_eq,A1 hi];exact AS h
theorem Er{xs:Array AC}{i:Nat}(hi:i<xs.size):N rk xs i=rk xs[i]:=by unfold N;rw[A1 hi]
theorem Al.at{xs:Array AC}(h:Al G xs){i:Nat}(hi:i<xs.size):G xs[i]:=h i _ (A1 hi)
theorem Pu(C:Cmp prog w A E s κ G rk){st:A9}(B:Ba G rk κ a₀ st){i j:Nat}{Q:Option Bool->A9->Prop}(hi:i<a₀.size)(hj:j<a₀.size)(h:Q (some (decide (N rk (AM st) i<N rk (AM st) j))) st):wpS (AO prog w) A E s (NC i j) Q st:=by
 have hi':i<(AM st).size:=by rw[B.size];exact hi
 have hj':j<(AM st).size:=by rw[B.size];exact hj
 have al:=B.all.perm B.perm;rw[ltAt'_eq];refine AN (IN ?_);show wpS _ _ _ _ (do let x <- C8 (AM st) i;let y <- C8 (AM st) j;lt' x y) Q st;refine AN (BZ hi' (AN (BZ hj' ?_)));refine C _ _ (al.at hi') (al.at hj') st Q B.kind ?_;rw[<- Er (rk:=rk) hi',<- Er (rk:=rk) hj'];exact h
theorem Qx{xs:Array AC}{i j:Nat}(hj:j<=xs.size)(k:Nat):N rk (P3 xs i j ((j-i) / 2)) k=if i<=k/\k<j then N rk xs (i+j-1-k) else N rk xs k:=by
 have e:=getElem?_mirror_all (i:=i) hj k;by_cases h1:i<=k/\k<j
 ·rw[if_pos h1] at e ⊢;exact Dw e
 ·rw[if_neg h1] at e ⊢;exact Dw e
theorem QJ{xs:Array AC}{src d:Nat}(hs:src<xs.size)(hd:d<=src)(k:Nat):N rk (SE xs src d) k=if k=src-d then N rk xs src else if src-d<k/\k<=src then N rk xs (k-1) else N rk xs k:=by
 have e:=getElem?_bubble hs d hd k;by_cases h1:k=src-d
 ·rw[if_pos h1] at e ⊢;exact Dw e
 ·rw[if_neg h1] at e ⊢
  by_cases h2:src-d<k/\k<=src
  ·rw[if_pos h2] at e ⊢;exact Dw e
  ·rw[if_neg h2] at e ⊢;exact Dw e
theorem ACZ{st:A9}{lo hi:Nat}(hh:hi<=(AM st).size):Nx lo st (P4 st (P3 (AM st) lo hi ((hi-lo) / 2))):=⟨mirror_perm _ _ _ _,rfl,rfl,rfl,λi hi'=>by
 show (P3 (AM st) lo hi ((hi-lo) / 2))[i]?=_;rw[getElem?_mirror_all hh,if_neg (by lia)]⟩
theorem Yv(C:Cmp prog w A E s κ G rk){lo n nrem:Nat}{st:A9}(B:Ba G rk κ a₀ st)(h1:1<=n)(hn:n<nrem)(hs:lo+nrem<=a₀.size)(up:Up rk (AM st) lo (lo+n)){Q:Option Bool->A9->Prop}
  (hy:N rk (AM st) (lo+n)<N rk (AM st) (lo+n-1)->Q (some true) st) (hno:Up rk (AM st) lo (lo+(n+1))->Q (some false) st):wpS (AO prog w) A E s (NC (lo+n) (lo+n-1)) Q st:=by
 refine Pu C B (by lia) (by lia) ?_;by_cases c:N rk (AM st) (lo+n)<N rk (AM st) (lo+n-1)
 ·rw[decide_eq_true c]
  exact hy c
 ·rw[decide_eq_false c]
  refine hno λi j li ij jh=>?_;by_cases d:j<lo+n
  ·exact up i j li ij d
  ·by_cases e:i=j
   ·rw[e];exact G2 _
   ·have:=up i (lo+n-1) li (by lia) (by lia)
    have ej:j=lo+n:=by lia
    rw[ej];lia
theorem Uy(C:Cmp prog w A E s κ G rk){lo n0 nrem:Nat}{st:A9}(B:Ba G rk κ a₀ st)(h1:1<=n0)(hn:n0<=nrem)(hs:lo+nrem<=a₀.size)(up:Up rk (AM st) lo (lo+n0)){Q:(Option (Option Nat)×Nat)->A9->Prop}
  (h:∀n,n0<=n->n<=nrem->Up rk (AM st) lo (lo+n)->(n<nrem->N rk (AM st) (lo+n)<N rk (AM st) (lo+n-1))->Q (none,n) st) :
  wpS (AO prog w) A E s (forIn [n0:nrem] ((none,n0):Option (Option Nat)×Nat) λ_ r=>do
   let x <- NC (lo+r.snd) (lo+r.snd-1)
   match x with
   | some smaller=>if smaller=true then pure (BD (none,r.snd)) else pure (CM (none,r.snd+1))
   | _=>pure (BD (some none,r.snd))) Q st:=by
 refine Da (I:=λx c st'=>st'=st/\c=(none,x)/\n0<=x/\x<=nrem/\Up rk (AM st) lo (lo+x)) ?_ ?_ ⟨rfl,rfl,AF _,hn,up⟩
 ·rintro x c st' ax xb ⟨rfl,rfl,_,_,up'⟩
  refine AN (Yv C B (by lia) xb hs up' (λlt=>?_) (λup2=>?_))
  ·exact AS (h x ax (by lia) up' λ_=>lt)
  ·exact AS ⟨rfl,rfl,by lia,by lia,up2⟩
 ·rintro c st' ⟨rfl,rfl,a1,a2,up'⟩
  refine h _ a1 a2 up' λz=>?_;lia
end
variable{rk:AC->Int}{prog:AL}{w:AQ}{A:BS}{E:Ap->AA->Prop}{s:AA}{G:AC->Prop}{κ:EK}{a₀:Array AC}
theorem Ky(C:Cmp prog w A E s κ G rk){lo nrem:Nat}{st:A9}(B:Ba G rk κ a₀ st)(h1:1<=nrem)(hs:lo+nrem<=a₀.size){Q:Option Nat->A9->Prop}
  (h:∀n st',1<=n->n<=nrem->Nx lo st st'->Up rk (AM st') lo (lo+n)->Q (some n) st'):wpS (AO prog w) A E s (Iw lo nrem) Q st:=by
 rw[Nt];refine AN (Uy C B (AF 1) h1 hs (λi j li ij jh=>by
  have:i=j:=by lia
  rw[this];exact G2 _) λn n1 nn up lt=>?_)
 dsimp only;by_cases c:n=nrem
 ·rw[if_pos (by rw[c];exact beq_self_eq_true _)]
  exact AS (h n st n1 nn (Nx.refl _ _) up)
 rw[if_neg (by intro z;exact c (beq_iff_eq.mp z))];have sm:=lt (by lia);by_cases d:n>1
 ·rw[if_pos d]
  refine AN (Pu C B (by lia) (by lia) ?_);have a1:=up lo (lo+n-1) (AF _) (by lia) (by lia);have a2:=B.ne (i:=lo) (j:=lo+n-1) (by lia) (by lia);rw[decide_eq_true (show N rk (AM st) lo<N rk (AM st) (lo+n-1) by lia)];exact AS (h n st n1 nn (Nx.refl _ _) up)
 rw[if_neg d];have e1:n=1:=by lia
 subst e1;have wn:lo+1-1=lo:=by lia
 rw[wn] at sm;refine AN (LL (GV ⟨rfl,?_⟩));refine AN (DL (Da (I:=λx c st'=>st'=st/\c=(none,x,0)/\2<=x/\x<=nrem/\Down rk (AM st) lo (lo+x)) (Q:=λc st'=>st'=st/\∃m,c=(none,m,0)/\2<=m/\m<=nrem/\Down rk (AM st) lo (lo+m)) ?_ ?_ ⟨rfl,rfl,AF _,by lia,?_⟩) ?_)
 ·rintro x c st' ax xb ⟨rfl,rfl,x2,_,dn⟩
  dsimp only;refine AN (Pu C B (by lia) (by lia) ?_);by_cases c1:N rk (AM st') (lo+x)<N rk (AM st') (lo+x-1)
  ·rw[decide_eq_true c1]
   dsimp only;rw[if_pos rfl,if_neg (by lia)];refine AS ⟨rfl,rfl,by lia,by lia,λi j li ij jh=>?_⟩;by_cases d1:j<lo+x
   ·exact dn i j li ij d1
   ·have ej:j=lo+x:=by lia
    subst ej;by_cases e:i=lo+x
    ·rw[e];exact G2 _
    ·have:=dn i (lo+x-1) li (by lia) (by lia)
     lia
  ·rw[decide_eq_false c1]
   dsimp only;rw[if_neg (by decide)];refine AN (Pu C B (by lia) (by lia) ?_);have a2:=B.ne (i:=lo+x-1) (j:=lo+x) (by lia) (by lia);rw[decide_eq_true (show N rk (AM st') (lo+x-1)<N rk (AM st') (lo+x) by lia)];dsimp only;rw[if_pos rfl];exact AS ⟨rfl,x,rfl,x2,by lia,dn⟩
 ·rintro c st' ⟨rfl,rfl,a1,a2,dn⟩
  exact ⟨rfl,_,rfl,a1,a2,dn⟩
 ·intro i j li ij jh
  by_cases e:i=j
  ·rw[e];exact G2 _
  ·rw[show i=lo by lia,show j=lo+1 by lia]
   lia
 ·rintro c st' ⟨rfl,m,rfl,m2,mn,dn⟩
  dsimp only;rw[if_neg (by lia),reverseSlice'_eq];have sz:lo+m<=(AM st').size:=by rw[B.size];lia
  have nx:=ACZ (st:=st') (lo:=lo) sz;refine AN (G1 ?_);have up2:Up rk (AM (P4 st' (P3 (AM st') lo (lo+m) ((lo+m-lo) / 2)))) lo (lo+m):=λi j li ij jh=>by
   show N rk (P3 (AM st') lo (lo+m) ((lo+m-lo) / 2)) i<=N rk (P3 (AM st') lo (lo+m) ((lo+m-lo) / 2)) j;rw[Qx sz,Qx sz,if_pos (by lia),if_pos (by lia)];exact dn _ _ (by lia) (by lia) (by lia)
  refine AN (Uy C (B.nx nx) (by lia) mn hs up2 λn' n1' nn' up' _=>?_);exact AS (h n' _ (by lia) nn' nx up')
def Jw:Nat->Nat->Nat->StateT A9 Sem Bool:=sortPriv% PySem.Builtin.binarySort
theorem QF(lo n ok:Nat):Jw lo n ok=(do
 for k in [max ok 1:n] do
  let mut l:=0
  let mut r:=k
  for _ in [0:k] do
   if l >= r then break
   let m:=(l+r) / 2
   let some less <- NC (lo+k) (lo+m) | return false
   if less then r:=m else l:=m+1
  moveDown' (lo+k) (lo+l)
 return true):=rfl
theorem Nq(C:Cmp prog w A E s κ G rk){lo n ok:Nat}{st:A9}(B:Ba G rk κ a₀ st)(hn:lo+n<=a₀.size)(hok:ok<=n)(up:Up rk (AM st) lo (lo+ok)){Q:Bool->A9->Prop}
  (h:∀st',Nx lo st st'->Up rk (AM st') lo (lo+n)->Q true st'):wpS (AO prog w) A E s (Jw lo n ok) Q st:=by
 rw[QF];refine AN (DL (Da (I:=λk c st'=>c=(none,())/\Nx lo st st'/\Up rk (AM st') lo (lo+min k n))
  (Q:=λc st'=>c=(none,())/\Nx lo st st'/\Up rk (AM st') lo (lo+n)) ?step ?fin ?init) ?post)
 case post =>
  rintro c st' ⟨rfl,nx,up'⟩;exact AS (h st' nx up')
 case init =>
  refine ⟨rfl,Nx.refl _ _,λi j li ij jh=>?_⟩;by_cases e:i=j
  ·rw[e];exact G2 _
  ·exact up i j li ij (by lia)
 case fin =>
  rintro c st' ⟨hc,nx,up'⟩;refine ⟨hc,nx,?_⟩
  rwa [show min (max (max ok 1) n) n=n by lia] at up'
 case step =>
  rintro k c st' hak hkn ⟨rfl,nx,up'⟩;rw[show min k n=k by lia] at up';have B':=B.nx nx;have hk:lo+k<a₀.size:=by lia
  refine AN (DL (Da (I:=λx c st''=>st''=st'/\∃l r,c=(none,l,r)/\l<=r/\r<=k/\r-l<=k-x /\
    (∀i,lo<=i->i<lo+l->N rk (AM st') i<=N rk (AM st') (lo+k))/\(∀i,lo+r<=i->i<lo+k->N rk (AM st') (lo+k)<N rk (AM st') i))
   (Q:=λc st''=>st''=st'/\∃l r,c=(none,l,r)/\l<=k /\
    (∀i,lo<=i->i<lo+l->N rk (AM st') i<=N rk (AM st') (lo+k))/\(∀i,lo+l<=i->i<lo+k->N rk (AM st') (lo+k)<N rk (AM st') i)) ?istep ?ifin ?iinit) ?ipost)
  case iinit=>exact ⟨rfl,0,k,rfl,by lia,by lia,by lia,λi hi=>by lia,λi h1 h2=>by lia⟩
  case ifin =>
   rintro c st'' ⟨rfl,l,r,rfl,hlr,hrk,hm,hlo,hhi⟩;have:l=r:=by lia
   subst this;exact ⟨rfl,l,l,rfl,hrk,hlo,hhi⟩
  case istep =>
   rintro x c st'' _ hxk ⟨rfl,l,r,rfl,hlr,hrk,hm,hlo,hhi⟩;dsimp only;by_cases hge:l >= r
   ·rw[if_pos hge]
    have:l=r:=by lia
    subst this;exact AS ⟨rfl,l,l,rfl,hrk,hlo,hhi⟩
   ·rw[if_neg hge]
    refine AN (Pu C B' hk (by lia) ?_);by_cases hless:N rk (AM st'') (lo+k)<N rk (AM st'') (lo+(l+r) / 2)
    ·simp only[hless,decide_true,if_true]
     refine AS ⟨rfl,l,(l+r) / 2,rfl,by lia,by lia,by lia,hlo,λi h1 h2=>?_⟩;exact Int.lt_of_lt_of_le hless (up' _ _ (by lia) h1 h2)
    ·simp only[hless,decide_false,AR,if_false]
     refine AS ⟨rfl,(l+r) / 2+1,r,rfl,by lia,by lia,by lia,λi h0 h1=>?_,hhi⟩;exact D0 (up' i (lo+(l+r) / 2) h0 (by lia) (by lia)) (HR.mp hless)
  case ipost =>
   rintro c st'' ⟨rfl,l,r,rfl,hlk,hlo,hhi⟩;show wpS _ _ _ _ (do moveDown' (lo+k) (lo+l);pure (CM (none,()))) _ _;rw[moveDown'_eq];have hks:lo+k<(AM st'').size:=by rw[B'.size];exact hk
   have nx2:Nx lo st'' (P4 st'' (SE (AM st'') (lo+k) (lo+k-(lo+l)))):=⟨bubble_perm _ _ _,rfl,rfl,rfl,λi hi=>by
    show (SE (AM st'') (lo+k) (lo+k-(lo+l)))[i]?=_;rw[getElem?_bubble hks _ (by lia),if_neg (by lia),if_neg (by lia)]⟩
   refine AN (G1 (AS ⟨rfl,nx.trans nx2,?_⟩));rw[show min (k+1) n=k+1 by lia];intro i j li hij hj;show N rk (SE (AM st'') (lo+k) (lo+k-(lo+l))) i<=N rk (SE (AM st'') (lo+k) (lo+k-(lo+l))) j;rw[QJ hks (by lia),QJ hks (by lia),show lo+k-(lo+k-(lo+l))=lo+l by lia]
   repeat' split
   all_goals first
    | (exfalso;omega)
    | exact G2 _
    | exact hlo _ (by omega) (by omega)
    | exact Fs (hhi _ (by lia) (by lia))
    | exact up' _ _ (by lia) (by lia) (by lia)
variable{rk:AC->Int}{prog:AL}{w:AQ}{A:BS}{E:Ap->AA->Prop}{s:AA}{G:AC->Prop}{κ:EK}{a₀:Array AC}
def CT:Bool->AC->Array AC->Nat->Nat->Nat->StateT A9 Sem (Option Nat):=sortPriv% PySem.Builtin.gallop
def Dt(left:Bool)(key:AC)(arr:Array AC)(base i:Nat):StateT A9 Sem (Option Bool):=do
  let x <- C8 arr (base+i)
  if left then lt' x key else return (<- lt' key x).map (!·)
theorem Tr(left:Bool)(key:AC)(arr:Array AC)(base n hint:Nat):CT left key arr base n hint=(do
 let mut lastofs:=0
 let mut ofs:=1
 let mut lo:=0
 let mut hi:=0
 let some right <- Dt left key arr base hint | return none
 if right then
  let maxofs:=n-hint
  for _ in [0:n] do
   if ofs >= maxofs then break
   let some more <- Dt left key arr base (hint+ofs) | return none
   if !more then break
   lastofs:=ofs
   ofs:=2*ofs+1
  lo:=hint+lastofs+1
  hi:=hint+min ofs maxofs
 else
  let maxofs:=hint+1
  for _ in [0:n] do
   if ofs >= maxofs then break
   let some found <- Dt left key arr base (hint-ofs) | return none
   if found then break
   lastofs:=ofs
   ofs:=2*ofs+1
  lo:=hint+1-min ofs maxofs
  hi:=hint-lastofs
 for _ in [0:n] do
  if lo >= hi then break
  let m:=lo+(hi-lo) / 2
  let some more <- Dt left key arr base m | return none
  if more then lo:=m+1 else hi:=m
 return some hi):=rfl
def bey(rk:AC->Int)(left:Bool)(key:AC)(arr:Array AC)(base i:Nat):Bool:=if left then decide (N rk arr (base+i)<rk key) else !decide (rk key<N rk arr (base+i))
theorem Tg(C:Cmp prog w A E s κ G rk){left:Bool}{key:AC}{arr:Array AC}{base i:Nat}{st:A9}{Q:Option Bool->A9->Prop}(hk:G key)(al:Al G arr)(kd:kindOf st=κ)(hi:base+i<arr.size)(h:Q (some (bey rk left key arr base i)) st) :
  wpS (AO prog w) A E s (Dt left key arr base i) Q st:=by
 unfold Dt;refine AN (BZ hi ?_);unfold bey at h;rw[Er hi] at h;cases left with
 | true =>
  rw[if_pos rfl] at h ⊢;exact C _ _ (al.at hi) hk st _ kd h
 | false =>
  rw[if_neg (by decide)] at h ⊢;refine AN (C _ _ hk (al.at hi) st _ kd (AS ?_));exact h
def Mono(p:Nat->Bool)(n:Nat):Prop:=∀i j,i<=j->j<n->p j=true->p i=true
theorem Eh{left:Bool}{key:AC}{arr:Array AC}{base n:Nat}(up:Up rk arr base (base+n)):Mono (bey rk left key arr base) n:=λi j ij jn h=>by
 have:=up (base+i) (base+j) (by lia) (by lia) (by lia);unfold bey at h ⊢;cases left with
 | true =>
  rw[if_pos rfl] at h ⊢;have:=of_decide_eq_true h;exact decide_eq_true (by lia)
 | false =>
  rw[if_neg (by decide)] at h ⊢;have h':¬ rk key<N rk arr (base+j):=λz=>by rw[decide_eq_true z] at h;cases h
  rw[decide_eq_false (by lia)];rfl
theorem Ck(C:Cmp prog w A E s κ G rk){left:Bool}{key:AC}{arr:Array AC}{base n hint:Nat}{st:A9}{Q:Option Nat->A9->Prop}(hk:G key)(al:Al G arr)(kd:kindOf st=κ)(hn:base+n<=arr.size)(hh:hint<n)(mo:Mono (bey rk left key arr base) n)
  (h:∀k,k<=n->(∀i,i<k->bey rk left key arr base i=true)->(∀i,k<=i->i<n->bey rk left key arr base i=false)->Q (some k) st):wpS (AO prog w) A E s (CT left key arr base n hint) Q st:=by
 rw[Tr];generalize hp:bey rk left key arr base=p at mo h;have ask:∀{i:Nat}{Q:Option Bool->A9->Prop},i<n->Q (some (p i)) st->wpS (AO prog w) A E s (Dt left key arr base i) Q st:=λ{i Q} hi q=>Tg C hk al kd (by lia) (by rw[hp];exact q);have down:∀{k:Nat},(k<n->p k=false)->∀i,k<=i->i<n->p i=false:=λ{k} hk i ki il=>by
  cases e:p i with
  | false=>rfl
  | true =>
   have:=mo k i ki il e;rw[hk (by lia)] at this;cases this
 have fin:∀{lo hi:Nat},lo<=hi->hi<=n->(∀i,i<lo->p i=true)->(∀i,hi<=i->i<n->p i=false) ->
   ∀{Q':(Option (Option Nat)×Nat×Nat)->A9->Prop},(∀l,l<=n->(∀i,i<l->p i=true)->(∀i,l<=i->i<n->p i=false)->Q' (none,l,l) st) ->
   wpS (AO prog w) A E s (forIn [0:n] ((none,lo,hi):Option (Option Nat)×Nat×Nat) λ_ r =>
     if r.snd.fst >= r.snd.snd then pure (BD (none,r.snd.fst,r.snd.snd))
     else do
      let x <- Dt left key arr base (r.snd.fst+(r.snd.snd-r.snd.fst) / 2)
      match x with
      | some more =>
       if more=true then pure (CM (none,r.snd.fst+(r.snd.snd-r.snd.fst) / 2+1,r.snd.snd))
       else pure (CM (none,r.snd.fst,r.snd.fst+(r.snd.snd-r.snd.fst) / 2))
      | _=>pure (BD (some none,r.snd.fst,r.snd.snd))) Q' st:=λ{lo hi} lh hn' ht hf {Q'} h'=>by
  refine DL (Da (I:=λx c st'=>st'=st/\∃l r,c=(none,l,r)/\l<=r/\r<=n/\r-l<=n-x/\(∀i,i<l->p i=true)/\(∀i,r<=i->i<n->p i=false))
   (Q:=λc st'=>st'=st/\∃l,c=(none,l,l)/\l<=n/\(∀i,i<l->p i=true)/\(∀i,l<=i->i<n->p i=false)) ?_ ?_ ⟨rfl,lo,hi,rfl,lh,hn',by lia,ht,hf⟩) ?_
  ·rintro x c st' _ xn ⟨rfl,l,r,rfl,lr,rn,sz,tr,fa⟩
   dsimp only;by_cases c1:l >= r
   ·rw[if_pos c1]
    have:l=r:=by lia
    subst this;exact AS ⟨rfl,l,rfl,rn,tr,fa⟩
   ·rw[if_neg c1]
    refine AN (ask (by lia) ?_);cases e:p (l+(r-l) / 2) with
    | true =>
     dsimp only;rw[if_pos rfl];exact AS ⟨rfl,_,r,rfl,by lia,rn,by lia,λi hi=>mo i _ (by lia) (by lia) e,fa⟩
    | false =>
     dsimp only;rw[if_neg (by decide)];exact AS ⟨rfl,l,_,rfl,by lia,by lia,by lia,tr,down λ_=>e⟩
  ·rintro c st' ⟨rfl,l,r,rfl,lr,rn,sz,tr,fa⟩
   have:l=r:=by lia
   subst this;exact ⟨rfl,l,rfl,rn,tr,fa⟩
  ·rintro c st' ⟨rfl,l,rfl,ln,tr,fa⟩
   exact h' l ln tr fa
 refine AN (ask hh ?_);cases ph:p hint with
 | true =>
  dsimp only;rw[if_pos rfl];refine AN (DL (Da (I:=λx c st'=>st'=st/\∃l o,c=(none,l,o)/\l<o/\x+1<=o/\hint+l<n/\p (hint+l)=true)
   (Q:=λc st'=>st'=st/\∃l o,c=(none,l,o)/\l<o/\hint+l<n/\p (hint+l)=true/\(o<n-hint->p (hint+o)=false)) ?_ ?_ ⟨rfl,0,1,rfl,by lia,by lia,by lia,ph⟩) ?_)
  ·rintro x c st' _ xn ⟨rfl,l,o,rfl,lo,xo,ln,pl⟩
   dsimp only;by_cases c1:o >= n-hint
   ·rw[if_pos c1]
    exact AS ⟨rfl,l,o,rfl,lo,ln,pl,λz=>absurd z (by lia)⟩
   ·rw[if_neg c1]
    refine AN (ask (by lia) ?_);cases e:p (hint+o) with
    | true =>
     dsimp only;rw[if_neg (by decide)];exact AS ⟨rfl,o,_,rfl,by lia,by lia,by lia,e⟩
    | false =>
     dsimp only;rw[if_pos (by decide)];exact AS ⟨rfl,l,o,rfl,lo,ln,pl,λ_=>e⟩
  ·rintro c st' ⟨rfl,l,o,rfl,lo,xo,ln,pl⟩
   exact ⟨rfl,l,o,rfl,lo,ln,pl,λz=>absurd z (by lia)⟩
  ·rintro c st' ⟨rfl,l,o,rfl,lo,ln,pl,pf⟩
   dsimp only;refine AN (fin (lo:=hint+l+1) (hi:=hint+min o (n-hint)) (by lia) (by lia) (λi hi=>mo i (hint+l) (by lia) ln pl) ?_ λk kn kt kf=>AS (h k kn kt kf));by_cases c1:o<n-hint
   ·rw[show hint+min o (n-hint)=hint+o by lia]
    exact down λ_=>pf c1
   ·rw[show hint+min o (n-hint)=n by lia]
    exact λi a b=>absurd a (by lia)
 | false =>
  dsimp only;rw[if_neg (by decide)];refine AN (DL (Da (I:=λx c st'=>st'=st/\∃l o,c=(none,l,o)/\l<o/\x+1<=o/\l<=hint/\p (hint-l)=false)
   (Q:=λc st'=>st'=st/\∃l o,c=(none,l,o)/\l<o/\l<=hint/\p (hint-l)=false/\(o<hint+1->p (hint-o)=true)) ?_ ?_ ⟨rfl,0,1,rfl,by lia,by lia,by lia,ph⟩) ?_)
  ·rintro x c st' _ xn ⟨rfl,l,o,rfl,lo,xo,ln,pl⟩
   dsimp only;by_cases c1:o >= hint+1
   ·rw[if_pos c1]
    exact AS ⟨rfl,l,o,rfl,lo,ln,pl,λz=>absurd z (by lia)⟩
   ·rw[if_neg c1]
    refine AN (ask (by lia) ?_);cases e:p (hint-o) with
    | true =>
     dsimp only;rw[if_pos rfl];exact AS ⟨rfl,l,o,rfl,lo,ln,pl,λ_=>e⟩
    | false =>
     dsimp only;rw[if_neg (by decide)];exact AS ⟨rfl,o,_,rfl,by lia,by lia,by lia,e⟩
  ·rintro c st' ⟨rfl,l,o,rfl,lo,xo,ln,pl⟩
   exact ⟨rfl,l,o,rfl,lo,ln,pl,λz=>absurd z (by lia)⟩
  ·rintro c st' ⟨rfl,l,o,rfl,lo,ln,pl,pt⟩
   dsimp only;refine AN (fin (lo:=hint+1-min o (hint+1)) (hi:=hint-l) (by lia) (by lia) ?_ (down λ_=>pl) λk kn kt kf=>AS (h k kn kt kf));by_cases c1:o<hint+1
   ·rw[show hint+1-min o (hint+1)=hint+1-o by lia]
    exact λi hi=>mo i (hint-o) (by lia) (by lia) (pt c1)
   ·rw[show hint+1-min o (hint+1)=0 by lia]
    exact λi hi=>absurd hi (by lia)
variable{rk:AC->Int}{prog:AL}{w:AQ}{A:BS}{E:Ap->AA->Prop}{s:AA}{G:AC->Prop}{κ:EK}{a₀:Array AC}
def Srt(rk:AC->Int)(l:List AC):Prop:=l.Pairwise λx y=>rk x<=rk y
structure MI(rk:AC->Int)(a b out:List AC)(ia ib:Nat):Prop where
 perm:(out++(a.drop ia++b.drop ib)).Perm (a++b)
 srt:Srt rk out
 oa:∀x∈out,∀y∈a.drop ia,rk x<=rk y
 ob:∀x∈out,∀y∈b.drop ib,rk x<=rk y
theorem QG{α:Type}(l:List α)(i k:Nat):l.drop i=(l.drop i).take k++l.drop (i+k):=by rw[<- LM];exact (DZ k (l.drop i)).symm
theorem MI.takeA{a b out:List AC}{ia ib:Nat}(m:MI rk a b out ia ib)(sa:Srt rk a)(k:Nat)(h:∀y∈(a.drop ia).take k,∀z∈b.drop ib,rk y<=rk z):MI rk a b (out++(a.drop ia).take k) (ia+k) ib:=by
 have e:=QG a ia k;have sd:Srt rk (a.drop ia):=sa.sublist (FD ..);refine ⟨?_,?_,?_,?_⟩
 ·refine NE ?_ m.perm
  rw[CC];refine EX _ ?_;rw[<- CC,<- e]
 ·refine C1.mpr ⟨m.srt,sd.sublist (Go ..),λx hx y hy=>m.oa x hx y (IS hy)⟩
 ·intro x hx y hy
  rcases CD.mp hx with hx | hx
  ·exact m.oa x hx y (by rw[e];exact B6 _ hy)
  ·unfold Srt at sd
   rw[e] at sd;exact (C1.mp sd).2.2 x hx y hy
 ·intro x hx y hy
  rcases CD.mp hx with hx | hx
  ·exact m.ob x hx y hy
  ·exact h x hx y hy
theorem MI.takeB{a b out:List AC}{ia ib:Nat}(m:MI rk a b out ia ib)(sb:Srt rk b)(k:Nat)(h:∀y∈(b.drop ib).take k,∀z∈a.drop ia,rk y<=rk z):MI rk a b (out++(b.drop ib).take k) ia (ib+k):=by
 have e:=QG b ib k;have sd:Srt rk (b.drop ib):=sb.sublist (FD ..);refine ⟨?_,?_,?_,?_⟩
 ·refine NE ?_ m.perm
  rw[CC];refine EX _ ?_;rw[<- CC];refine (KF _ (F5)).trans ?_;rw[CC,<- e]
 ·refine C1.mpr ⟨m.srt,sd.sublist (Go ..),λx hx y hy=>m.ob x hx y (IS hy)⟩
 ·intro x hx y hy
  rcases CD.mp hx with hx | hx
  ·exact m.oa x hx y hy
  ·exact h x hx y hy
 ·intro x hx y hy
  rcases CD.mp hx with hx | hx
  ·exact m.ob x hx y (by rw[e];exact B6 _ hy)
  ·unfold Srt at sd
   rw[e] at sd;exact (C1.mp sd).2.2 x hx y hy
def Mg(rk:AC->Int)(a b r:List AC):Prop:=r.Perm (a++b)/\Srt rk r
theorem MI.doneB{a b out:List AC}{ia ib:Nat}(m:MI rk a b out ia ib)(sa:Srt rk a)(h:b.length<=ib):Mg rk a b (out++a.drop ia++b.drop ib):=by
 rw[Ix h,B9];have p:=m.perm;rw[Ix h,B9] at p;exact ⟨p,C1.mpr ⟨m.srt,sa.sublist (FD ..),m.oa⟩⟩
theorem MI.doneA{a b out:List AC}{ia ib:Nat}(m:MI rk a b out ia ib)(sb:Srt rk b)(h:a.length<=ia):Mg rk a b (out++a.drop ia++b.drop ib):=by
 rw[Ix h,B9];have p:=m.perm;rw[Ix h,NB] at p;exact ⟨p,C1.mpr ⟨m.srt,sb.sublist (FD ..),m.ob⟩⟩
theorem MI.last{a b out:List AC}{ia ib:Nat}(m:MI rk a b out ia ib)(sb:Srt rk b)(h:ia+1=a.length)(hl:∀y∈b,∀z∈a.drop ia,rk y<=rk z):Mg rk a b (out++b.drop ib++a.drop ia):=by
 refine ⟨?_,?_⟩
 ·refine NE ?_ m.perm
  rw[CC];exact EX _ F5
 ·have one:Srt rk (a.drop ia):=by
   have l1:(a.drop ia).length=1:=by rw[FK];lia
   obtain ⟨x,ex⟩:=List.length_eq_one_iff.mp l1;rw[ex];exact J7 ..
  refine C1.mpr ⟨C1.mpr ⟨m.srt,sb.sublist (FD ..),m.ob⟩,one,λx hx y hy=>?_⟩;rcases CD.mp hx with hx | hx
  ·exact m.oa x hx y hy
  ·exact hl x (OS hx) y hy
variable{rk:AC->Int}{prog:AL}{w:AQ}{A:BS}{E:Ap->AA->Prop}{s:AA}{G:AC->Prop}{κ:EK}{a₀:Array AC}
theorem ifc{c:Prop}{α:Type}{i j:Decidable c}{x y u v:α}(h1:x=u)(h2:y=v):(@ite α c i x y)=(@ite α c j u v):=by rw[h1,h2];congr
def Cq:Nat->StateT A9 Sem Unit:=sortPriv% PySem.Builtin.setMinGallop
theorem RZ(g:Nat):Cq g=modify λs=>HU (kindOf s) (AM s) (Bn s) g (ET s):=rfl
abbrev loDone(a b out:Array AC)(ia ib:Nat):Array AC:=out++a.extract ia a.size++b.extract ib b.size
abbrev loLast(a b out:Array AC)(ia ib:Nat):Array AC:=out++b.extract ib b.size++a.extract ia a.size
abbrev S1:=Option (Array AC)×Array AC×Nat×Nat×Nat×Nat
abbrev S2:=Option (Array AC)×Array AC×Nat×Nat×Nat×Nat×Nat
abbrev S0:=Option (Array AC)×Array AC×Nat×Nat×Nat
def loOne(a b:Array AC)(mg:Nat)(r:S1):StateT A9 Sem (ForInStep S1):=do
 let y <- C8 b r.snd.snd.snd.fst
 let x <- C8 a r.snd.snd.fst
 let c <- lt' y x
 match c with
 | some bWins =>
  if bWins=true then do
   let y <- C8 b r.snd.snd.snd.fst
   if (r.snd.snd.snd.fst+1==b.size)=true then
    pure (BD (some (loDone a b (r.snd.fst.push y) r.snd.snd.fst (r.snd.snd.snd.fst+1)),r.snd.fst.push y,r.snd.snd.fst,r.snd.snd.snd.fst+1,0,r.snd.snd.snd.snd.snd+1))
   else if r.snd.snd.snd.snd.snd+1 >= mg then
    pure (BD (none,r.snd.fst.push y,r.snd.snd.fst,r.snd.snd.snd.fst+1,0,r.snd.snd.snd.snd.snd+1))
   else pure (CM (none,r.snd.fst.push y,r.snd.snd.fst,r.snd.snd.snd.fst+1,0,r.snd.snd.snd.snd.snd+1))
  else do
   let x <- C8 a r.snd.snd.fst
   if (r.snd.snd.fst+1+1==a.size)=true then
    pure (BD (some (loLast a b (r.snd.fst.push x) (r.snd.snd.fst+1) r.snd.snd.snd.fst),r.snd.fst.push x,r.snd.snd.fst+1,r.snd.snd.snd.fst,r.snd.snd.snd.snd.fst+1,0))
   else if r.snd.snd.snd.snd.fst+1 >= mg then
    pure (BD (none,r.snd.fst.push x,r.snd.snd.fst+1,r.snd.snd.snd.fst,r.snd.snd.snd.snd.fst+1,0))
   else pure (CM (none,r.snd.fst.push x,r.snd.snd.fst+1,r.snd.snd.snd.fst,r.snd.snd.snd.snd.fst+1,0))
 | _=>pure (BD (some (loDone a b r.snd.fst r.snd.snd.fst r.snd.snd.snd.fst),r.snd.fst,r.snd.snd.fst,r.snd.snd.snd.fst,r.snd.snd.snd.snd.fst,r.snd.snd.snd.snd.snd))
def loEnd(a b:Array AC)(mg ac bc:Nat)(out:Array AC)(ia ib:Nat):StateT A9 Sem (ForInStep S2):=do
 let x <- C8 a ia
 if (ia+1+1==a.size)=true then pure (BD (some (loLast a b (out.push x) (ia+1) ib),out.push x,ia+1,ib,mg,ac,bc))
 else if (decide (ac<7)&&decide (bc<7))=true then pure (BD (none,out.push x,ia+1,ib,mg,ac,bc))
 else pure (CM (none,out.push x,ia+1,ib,mg,ac,bc))
def loMid(a b:Array AC)(mg k bc:Nat)(out:Array AC)(ia ib:Nat):StateT A9 Sem (ForInStep S2):=do
 let y <- C8 b ib
 if (ib+1==b.size)=true then pure (BD (some (loDone a b (out.push y) ia (ib+1)),out.push y,ia,ib+1,mg,k,bc))
 else do
  let x <- C8 a ia
  let r <- CT true x b (ib+1) (b.size-(ib+1)) 0
  match r with
  | some k' =>
   if k'>0 then
    if (ib+1+k'==b.size)=true then pure (BD (some (loDone a b (out.push y++b.extract (ib+1) (ib+1+k')) ia (ib+1+k')),out.push y++b.extract (ib+1) (ib+1+k'),ia,ib+1+k',mg,k,k'))
    else loEnd a b mg k k' (out.push y++b.extract (ib+1) (ib+1+k')) ia (ib+1+k')
   else loEnd a b mg k k' (out.push y) ia (ib+1)
  | _=>pure (BD (some (loDone a b (out.push y) ia (ib+1)),out.push y,ia,ib+1,mg,k,bc))
def loGal(a b:Array AC)(mg ac bc:Nat)(out:Array AC)(ia ib:Nat):StateT A9 Sem (ForInStep S2):=do
 Cq mg
 let y <- C8 b ib
 let r <- CT false y a ia (a.size-ia) 0
 match r with
 | some k =>
  if k>0 then
   if (ia+k+1==a.size)=true then pure (BD (some (loLast a b (out++a.extract ia (ia+k)) (ia+k) ib),out++a.extract ia (ia+k),ia+k,ib,mg,k,bc))
   else if (ia+k==a.size)=true then pure (BD (some (loDone a b (out++a.extract ia (ia+k)) (ia+k) ib),out++a.extract ia (ia+k),ia+k,ib,mg,k,bc))
   else loMid a b mg k bc (out++a.extract ia (ia+k)) (ia+k) ib
  else loMid a b mg k bc out ia ib
 | _=>pure (BD (some (loDone a b out ia ib),out,ia,ib,mg,ac,bc))
def Hg:Array AC->Array AC->StateT A9 Sem (Array AC):=sortPriv% PySem.Builtin.mergeLo
theorem TQ(a b:Array AC):Hg a b=(do
 rule "list.sort.merge-lo"
 let total:=a.size+b.size
 let done (out:Array AC) (ia ib:Nat):=out++a.extract ia a.size++b.extract ib b.size
 let lastOfA (out:Array AC) (ia ib:Nat):=out++b.extract ib b.size++a.extract ia a.size
 let mut out:Array AC:=#[<- C8 b 0]
 let mut ia:=0
 let mut ib:=1
 if ib==b.size then return done out ia ib
 if ia+1==a.size then return lastOfA out ia ib
 let mut minGallop:=OT (<- get)
 for _ in [0:total] do
  let mut acount:=0
  let mut bcount:=0
  for _ in [0:total] do
   let some bWins <- lt' (<- C8 b ib) (<- C8 a ia) | return done out ia ib
   if bWins then
    out:=out.push (<- C8 b ib);ib:=ib+1;bcount:=bcount+1;acount:=0
    if ib==b.size then return done out ia ib
    if bcount >= minGallop then break
   else
    out:=out.push (<- C8 a ia);ia:=ia+1;acount:=acount+1;bcount:=0
    if ia+1==a.size then return lastOfA out ia ib
    if acount >= minGallop then break
  rule "list.sort.gallop"
  minGallop:=minGallop+1
  for _ in [0:total] do
   if minGallop>1 then minGallop:=minGallop-1
   Cq minGallop
   let some k <- CT false (<- C8 b ib) a ia (a.size-ia) 0 | return done out ia ib
   acount:=k
   if k>0 then
    out:=out++a.extract ia (ia+k);ia:=ia+k
    if ia+1==a.size then return lastOfA out ia ib
    if ia==a.size then return done out ia ib
   out:=out.push (<- C8 b ib);ib:=ib+1
   if ib==b.size then return done out ia ib
   let some k <- CT true (<- C8 a ia) b ib (b.size-ib) 0 | return done out ia ib
   bcount:=k
   if k>0 then
    out:=out++b.extract ib (ib+k);ib:=ib+k
    if ib==b.size then return done out ia ib
   out:=out.push (<- C8 a ia);ia:=ia+1
   if ia+1==a.size then return lastOfA out ia ib
   if acount<7&&bcount<7 then break
  minGallop:=minGallop+1
  Cq minGallop
 unsupported "internal:list.sort.merge-bound"):=rfl
set_option pp.proofs true in
theorem Qh(a b:Array AC):Hg a b=(do
 liftM (rule "list.sort.merge-lo")
 let y <- C8 b 0
 if (1==b.size)=true then pure (loDone a b #[y] 0 1)
 else if (0+1==a.size)=true then pure (loLast a b #[y] 0 1)
 else do
  let g <- get
  let r <- forIn [0:a.size+b.size] ((none,#[y],0,1,OT g):S0) λ_ r0=>do
   let r1 <- forIn [0:a.size+b.size] ((none,r0.snd.fst,r0.snd.snd.fst,r0.snd.snd.snd.fst,0,0):S1) λ_ r=>loOne a b r0.snd.snd.snd.snd r
   match r1.fst with
   | some x=>pure (BD ((some x,r1.snd.fst,r1.snd.snd.fst,r1.snd.snd.snd.fst,r0.snd.snd.snd.snd):S0))
   | none=>do
    liftM (rule "list.sort.gallop")
    let r2 <- forIn [0:a.size+b.size] ((none,r1.snd.fst,r1.snd.snd.fst,r1.snd.snd.snd.fst,r0.snd.snd.snd.snd+1,r1.snd.snd.snd.snd.fst,r1.snd.snd.snd.snd.snd):S2) λ_ r =>
     if r.snd.snd.snd.snd.fst>1 then loGal a b (r.snd.snd.snd.snd.fst-1) r.snd.snd.snd.snd.snd.fst r.snd.snd.snd.snd.snd.snd r.snd.fst r.snd.snd.fst r.snd.snd.snd.fst
     else loGal a b r.snd.snd.snd.snd.fst r.snd.snd.snd.snd.snd.fst r.snd.snd.snd.snd.snd.snd r.snd.fst r.snd.snd.fst r.snd.snd.snd.fst
    match r2.fst with
    | some x=>pure (BD ((some x,r2.snd.fst,r2.snd.snd.fst,r2.snd.snd.snd.fst,r2.snd.snd.snd.snd.fst):S0))
    | none=>do
     Cq (r2.snd.snd.snd.snd.fst+1)
     pure (CM ((none,r2.snd.fst,r2.snd.snd.fst,r2.snd.snd.snd.fst,r2.snd.snd.snd.snd.fst+1):S0))
  match r.fst with
  | some x=>pure x
  | none=>unsupported "internal:list.sort.merge-bound"):=by
 rw[TQ];dsimp only
 congr 1
 funext _
 congr 1
 funext y
 refine ifc rfl (ifc rfl ?_)
 congr 1
 funext g
 congr 1
 ·congr 1
  funext x r0
  congr 1
  funext r1
  obtain ⟨o1,r1⟩:=r1;cases o1 with
  | some x=>rfl
  | none =>
   dsimp only
   congr 1
   funext u
   congr 1
   funext r2
   obtain ⟨o2,r2⟩:=r2;cases o2<;>rfl
 ·funext r
  obtain ⟨o,r⟩:=r;cases o<;>rfl
variable{rk:AC->Int}{prog:AL}{w:AQ}{A:BS}{E:Ap->AA->Prop}{s:AA}{G:AC->Prop}{κ:EK}{a₀:Array AC}
structure Gx(st st':A9):Prop where
 arr:AM st'=AM st
 kind:kindOf st'=kindOf st
 failed:ET st'=ET st
 pend:Bn st'=Bn st
theorem Gx.refl(st:A9):Gx st st:=⟨rfl,rfl,rfl,rfl⟩
theorem QL{out b:Array AC}{ib:Nat}(h:ib<b.size):(out.push b[ib]).toList=out.toList++(b.toList.drop ib).take 1:=by
 rw[ID]
 congr 1
 have hl:ib<b.toList.length:=by simpa using h
 rw[JO hl,Lu,OH];simp
theorem VD{out a:Array AC}(i k:Nat):(out++a.extract i (i+k)).toList=out.toList++(a.toList.drop i).take k:=by
 rw[C5,Fu]
 congr 1
 simp[P5]
theorem Hr(a:Array AC)(i:Nat):(a.extract i a.size).toList=a.toList.drop i:=by
 rw[Fu];simp[P5];rw[FX (by simp)]
theorem Py(a b out:Array AC)(ia ib:Nat):(loDone a b out ia ib).toList=out.toList++a.toList.drop ia++b.toList.drop ib:=by
 unfold loDone;rw[C5,C5,Hr,Hr]
theorem Yb(a b out:Array AC)(ia ib:Nat):(loLast a b out ia ib).toList=out.toList++b.toList.drop ib++a.toList.drop ia:=by
 unfold loLast;rw[C5,C5,Hr,Hr]
theorem Cu{a:Array AC}{i:Nat}{z:AC}(h:z∈a.toList.drop i):∃j,i<=j/\∃hj:j<a.size,z=a[j]:=by
 obtain ⟨k,hk,e⟩:=CA.mp h;rw[FK] at hk;refine ⟨i+k,by lia,by
               have:a.toList.length=a.size:=by simp
               lia,?_⟩
 rw[<- e,Mo];simp
theorem Bw{a:Array AC}{i k:Nat}{z:AC}(h:z∈(a.toList.drop i).take k):∃j,i<=j/\j<i+k/\∃hj:j<a.size,z=a[j]:=by
 obtain ⟨n,hk,e⟩:=CA.mp h;rw[BG,FK] at hk;have:a.toList.length=a.size:=by simp
 refine ⟨i+n,by lia,by lia,by lia,?_⟩;rw[<- e,IB,Mo];simp
theorem EY{a:Array AC}(sa:Srt rk a.toList){i j:Nat}(ij:i<=j)(hj:j<a.size):rk (a[i]'(by lia))<=rk a[j]:=by
 by_cases e:i=j
 ·subst e;exact G2 _
 ·have:=CF.mp sa i j (by simp;lia) (by simpa using hj) (by lia)
  simpa using this
theorem OJ{a:Array AC}(sa:Srt rk a.toList){lo hi:Nat}(h:hi<=a.size):Up rk a lo hi:=λi j li ij jh=>by
 rw[Er (show i<a.size by lia),Er (show j<a.size by lia)];exact EY sa ij (by lia)
section
variable{a b:Array AC}{st:A9}
def At(rk:AC->Int)(a b out:Array AC)(ia ib:Nat):Prop:=MI rk a.toList b.toList out.toList ia ib/\ia+1<a.size/\ib<b.size
structure Lo(G:AC->Prop)(rk:AC->Int)(a b:Array AC):Prop where
 ga:Al G a
 gb:Al G b
 sa:Srt rk a.toList
 sb:Srt rk b.toList
 hl:∀y∈b.toList,∀z∈a.toList.drop (a.size-1),rk y<=rk z
theorem Lo.done(L:Lo G rk a b){out:Array AC}{ia ib:Nat}(m:MI rk a.toList b.toList out.toList ia ib)(h:b.size<=ib):Mg rk a.toList b.toList (loDone a b out ia ib).toList:=by
 rw[Py];exact m.doneB L.sa (by simpa using h)
theorem Lo.doneA(L:Lo G rk a b){out:Array AC}{ia ib:Nat}(m:MI rk a.toList b.toList out.toList ia ib)(h:a.size<=ia):Mg rk a.toList b.toList (loDone a b out ia ib).toList:=by
 rw[Py];exact m.doneA L.sb (by simpa using h)
theorem Lo.last(L:Lo G rk a b){out:Array AC}{ia ib:Nat}(m:MI rk a.toList b.toList out.toList ia ib)(h:ia+1=a.size):Mg rk a.toList b.toList (loLast a b out ia ib).toList:=by
 rw[Yb];refine m.last L.sb (by simpa using h) λy hy z hz=>L.hl y hy z ?_;rw[show a.size-1=ia by lia];exact hz
theorem Lo.stepB(L:Lo G rk a b){out:Array AC}{ia ib:Nat}(m:MI rk a.toList b.toList out.toList ia ib)(hb:ib<b.size)(h:∀j,ia<=j->∀hj:j<a.size,rk b[ib]<=rk a[j]):MI rk a.toList b.toList (out.push b[ib]).toList ia (ib+1):=by
 rw[QL hb];refine m.takeB L.sb 1 λy hy z hz=>?_;obtain ⟨j,j1,j2,hj,rfl⟩:=Bw hy;have:j=ib:=by lia
 subst this;obtain ⟨i,i1,hi,rfl⟩:=Cu hz;exact h i i1 hi
theorem Lo.stepA(L:Lo G rk a b){out:Array AC}{ia ib:Nat}(m:MI rk a.toList b.toList out.toList ia ib)(ha:ia<a.size)(h:∀j,ib<=j->∀hj:j<b.size,rk a[ia]<=rk b[j]):MI rk a.toList b.toList (out.push a[ia]).toList (ia+1) ib:=by
 rw[QL ha];refine m.takeA L.sa 1 λy hy z hz=>?_;obtain ⟨j,j1,j2,hj,rfl⟩:=Bw hy;have:j=ia:=by lia
 subst this;obtain ⟨i,i1,hi,rfl⟩:=Cu hz;exact h i i1 hi
theorem Lo.manyA(L:Lo G rk a b){out:Array AC}{ia ib k:Nat}(m:MI rk a.toList b.toList out.toList ia ib)(h:∀i,ia<=i->i<ia+k->∀hi:i<a.size,∀j,ib<=j->∀hj:j<b.size,rk a[i]<=rk b[j]):MI rk a.toList b.toList (out++a.extract ia (ia+k)).toList (ia+k) ib:=by
 rw[VD];refine m.takeA L.sa k λy hy z hz=>?_;obtain ⟨i,i1,i2,hi,rfl⟩:=Bw hy;obtain ⟨j,j1,hj,rfl⟩:=Cu hz;exact h i i1 i2 hi j j1 hj
theorem Lo.manyB(L:Lo G rk a b){out:Array AC}{ia ib k:Nat}(m:MI rk a.toList b.toList out.toList ia ib)(h:∀i,ib<=i->i<ib+k->∀hi:i<b.size,∀j,ia<=j->∀hj:j<a.size,rk b[i]<=rk a[j]):MI rk a.toList b.toList (out++b.extract ib (ib+k)).toList ia (ib+k):=by
 rw[VD];refine m.takeB L.sb k λy hy z hz=>?_;obtain ⟨i,i1,i2,hi,rfl⟩:=Bw hy;obtain ⟨j,j1,hj,rfl⟩:=Cu hz;exact h i i1 i2 hi j j1 hj
theorem Np{st st':A9}(g:Gx st st')(m:Nat):Gx st (HU (kindOf st') (AM st') (Bn st') m (ET st')):=⟨g.arr,g.kind,g.failed,g.pend⟩
theorem setMin{st:A9}{g:Nat}{Q:Unit->A9->Prop}(h:Q () (HU (kindOf st) (AM st) (Bn st) g (ET st))):wpS (AO prog w) A E s (Cq g) Q st:=by
 rw[RZ];exact G1 h
def E1(rk:AC->Int)(a b:Array AC)(st:A9)(m:Nat)(r:S1)(st':A9):Prop:=Gx st st'/\((∃x y,r=(some x,y)/\Mg rk a.toList b.toList x.toList)\/∃out ia ib ac bc,r=(none,out,ia,ib,ac,bc)/\At rk a b out ia ib/\m<=ia+ib)
def E2(rk:AC->Int)(a b:Array AC)(st:A9)(m:Nat)(r:S2)(st':A9):Prop:=Gx st st'/\((∃x y,r=(some x,y)/\Mg rk a.toList b.toList x.toList)\/∃out ia ib mg ac bc,r=(none,out,ia,ib,mg,ac,bc)/\At rk a b out ia ib/\m<=ia+ib)
def Y1(rk:AC->Int)(a b:Array AC)(st:A9)(m:Nat)(r:S1)(st':A9):Prop:=Gx st st'/\∃out ia ib ac bc,r=(none,out,ia,ib,ac,bc)/\At rk a b out ia ib/\m<=ia+ib
def Y2(rk:AC->Int)(a b:Array AC)(st:A9)(m:Nat)(r:S2)(st':A9):Prop:=Gx st st'/\∃out ia ib mg ac bc,r=(none,out,ia,ib,mg,ac,bc)/\At rk a b out ia ib/\m<=ia+ib
theorem XS(C:Cmp prog w A E s κ G rk)(L:Lo G rk a b){mg m ia ib ac bc:Nat}{out:Array AC}{st0:A9}(kd:kindOf st0=κ)(g:Gx st0 st)(at_:At rk a b out ia ib)(hm:m<=ia+ib) :
  wpS (AO prog w) A E s (loOne a b mg (none,out,ia,ib,ac,bc)) (λr st'=>match r with | .done c'=>E1 rk a b st0 (m+1) c' st' | .yield c'=>Y1 rk a b st0 (m+1) c' st') st:=by
 obtain ⟨mi,la,lb⟩:=at_;have la':ia<a.size:=by lia
 unfold loOne;dsimp only;refine AN (BZ lb (AN (BZ la' (AN (C _ _ (L.gb.at lb) (L.ga.at la') st _ (g.kind.trans kd) ?_)))));by_cases c:rk b[ib]<rk a[ia]
 ·rw[decide_eq_true c]
  dsimp only;rw[if_pos rfl];refine AN (BZ lb ?_);have mi':=L.stepB mi lb λj j1 hj=>D0 (Fs c) (EY L.sa j1 hj);by_cases c1:ib+1=b.size
  ·rw[if_pos (by rw[c1];exact beq_self_eq_true _)]
   exact AS ⟨g,.inl ⟨_,_,rfl,L.done mi' (by lia)⟩⟩
  ·rw[if_neg (by intro z;exact c1 (beq_iff_eq.mp z))]
   by_cases c2:bc+1 >= mg
   ·rw[if_pos c2]
    exact AS ⟨g,.inr ⟨_,_,_,_,_,rfl,⟨mi',la,by lia⟩,by lia⟩⟩
   ·rw[if_neg c2]
    exact AS ⟨g,_,_,_,_,_,rfl,⟨mi',la,by lia⟩,by lia⟩
 ·rw[decide_eq_false c]
  dsimp only;rw[if_neg (by decide)];refine AN (BZ la' ?_);have mi':=L.stepA mi la' λj j1 hj=>D0 (HR.mp c) (EY L.sb j1 hj);by_cases c1:ia+1+1=a.size
  ·rw[if_pos (by rw[c1];exact beq_self_eq_true _)]
   exact AS ⟨g,.inl ⟨_,_,rfl,L.last mi' (by lia)⟩⟩
  ·rw[if_neg (by intro z;exact c1 (beq_iff_eq.mp z))]
   by_cases c2:ac+1 >= mg
   ·rw[if_pos c2]
    exact AS ⟨g,.inr ⟨_,_,_,_,_,rfl,⟨mi',by lia,lb⟩,by lia⟩⟩
   ·rw[if_neg c2]
    exact AS ⟨g,_,_,_,_,_,rfl,⟨mi',by lia,lb⟩,by lia⟩
theorem MJ(L:Lo G rk a b){mg m ia ib ac bc:Nat}{out:Array AC}{st0:A9}(g:Gx st0 st)(mi:MI rk a.toList b.toList out.toList ia ib)(la:ia+1<a.size)(lb:ib<b.size)(h:∀j,ib<=j->∀hj:j<b.size,rk (a[ia]'(by lia))<=rk b[j])(hm:m<=ia+ib) :
  wpS (AO prog w) A E s (loEnd a b mg ac bc out ia ib) (λr st'=>match r with | .done c'=>E2 rk a b st0 m c' st' | .yield c'=>Y2 rk a b st0 m c' st') st:=by
 have la':ia<a.size:=by lia
 unfold loEnd;refine AN (BZ la' ?_);have mi':=L.stepA mi la' h;by_cases c1:ia+1+1=a.size
 ·rw[if_pos (by rw[c1];exact beq_self_eq_true _)]
  exact AS ⟨g,.inl ⟨_,_,rfl,L.last mi' (by lia)⟩⟩
 ·rw[if_neg (by intro z;exact c1 (beq_iff_eq.mp z))]
  by_cases c2:(decide (ac<7)&&decide (bc<7))=true
  ·rw[if_pos c2]
   exact AS ⟨g,.inr ⟨_,_,_,_,_,_,rfl,⟨mi',by lia,lb⟩,by lia⟩⟩
  ·rw[if_neg c2]
   exact AS ⟨g,_,_,_,_,_,_,rfl,⟨mi',by lia,lb⟩,by lia⟩
theorem Df{key:AC}{arr:Array AC}{base i:Nat}(h:base+i<arr.size):bey rk false key arr base i=!decide (rk key<rk arr[base+i]):=by
 unfold bey;rw[if_neg (by decide),Er h]
theorem El{key:AC}{arr:Array AC}{base i:Nat}(h:base+i<arr.size):bey rk true key arr base i=decide (rk arr[base+i]<rk key):=by
 unfold bey;rw[if_pos rfl,Er h]
theorem Mv(C:Cmp prog w A E s κ G rk)(L:Lo G rk a b){mg m k bc ia ib:Nat}{out:Array AC}{st0:A9}(kd:kindOf st0=κ)(g:Gx st0 st)(mi:MI rk a.toList b.toList out.toList ia ib)(la:ia+1<a.size)(lb:ib<b.size)(h:∀j,ia<=j->∀hj:j<a.size,rk b[ib]<=rk a[j])(hm:m<=ia+ib) :
  wpS (AO prog w) A E s (loMid a b mg k bc out ia ib) (λr st'=>match r with | .done c'=>E2 rk a b st0 m c' st' | .yield c'=>Y2 rk a b st0 m c' st') st:=by
 have la':ia<a.size:=by lia
 unfold loMid;refine AN (BZ lb ?_);have mi':=L.stepB mi lb h;by_cases c1:ib+1=b.size
 ·rw[if_pos (by rw[c1];exact beq_self_eq_true _)]
  exact AS ⟨g,.inl ⟨_,_,rfl,L.done mi' (by lia)⟩⟩
 ·rw[if_neg (by intro z;exact c1 (beq_iff_eq.mp z))]
  refine AN (BZ la' ?_);refine AN (Ck C (L.ga.at la') L.gb (g.kind.trans kd) (by lia) (by lia) (Eh (OJ L.sb (by lia))) λk' kn kt kf=>?_);dsimp only;have t1:∀i,ib+1<=i->i<ib+1+k'->∀hi:i<b.size,rk b[i]<rk a[ia]:=λi i1 i2 hi=>by
   have z:=kt (i-(ib+1)) (by lia);rw[El (by lia)] at z;have e:ib+1+(i-(ib+1))=i:=by lia
   simp only[e] at z;exact of_decide_eq_true z
  have t2:∀j,ib+1+k'<=j->∀hj:j<b.size,rk a[ia]<=rk b[j]:=λi i1 hi=>by
   have z:=kf (i-(ib+1)) (by lia) (by lia);rw[El (by lia)] at z;have e:ib+1+(i-(ib+1))=i:=by lia
   simp only[e] at z;exact HR.mp (of_decide_eq_false z)
  by_cases c2:k'>0
  ·rw[if_pos c2]
   have mi2:=L.manyB (k:=k') mi' λi i1 i2 hi j j1 hj=>D0 (Fs (t1 i i1 i2 hi)) (EY L.sa j1 hj);by_cases c3:ib+1+k'=b.size
   ·rw[if_pos (by rw[c3];exact beq_self_eq_true _)]
    exact AS ⟨g,.inl ⟨_,_,rfl,L.done mi2 (by lia)⟩⟩
   ·rw[if_neg (by intro z;exact c3 (beq_iff_eq.mp z))]
    exact MJ L g mi2 la (by lia) t2 (by lia)
  ·rw[if_neg c2]
   have:k'=0:=by lia
   subst this;exact MJ L g mi' la (by lia) t2 (by lia)
theorem Lz(C:Cmp prog w A E s κ G rk)(L:Lo G rk a b){mg m ac bc ia ib:Nat}{out:Array AC}{st0:A9}(kd:kindOf st0=κ)(g:Gx st0 st)(at_:At rk a b out ia ib)(hm:m<=ia+ib) :
  wpS (AO prog w) A E s (loGal a b mg ac bc out ia ib) (λr st'=>match r with | .done c'=>E2 rk a b st0 m c' st' | .yield c'=>Y2 rk a b st0 m c' st') st:=by
 obtain ⟨mi,la,lb⟩:=at_;have la':ia<a.size:=by lia
 unfold loGal;refine AN (setMin ?_);have g':=Np g mg;generalize HU (kindOf st) (AM st) (Bn st) mg (ET st)=st1 at g';refine AN (BZ lb ?_);refine AN (Ck C (L.gb.at lb) L.ga (g'.kind.trans kd) (by lia) (by lia) (Eh (OJ L.sa (by lia))) λk kn kt kf=>?_);dsimp only;have t1:∀i,ia<=i->i<ia+k->∀hi:i<a.size,rk a[i]<=rk b[ib]:=λi i1 i2 hi=>by
  have z:=kt (i-ia) (by lia);rw[Df (by lia)] at z;have e:ia+(i-ia)=i:=by lia
  simp only[e] at z;refine HR.mp λy=>?_;rw[decide_eq_true y] at z;cases z
 have t2:∀j,ia+k<=j->∀hj:j<a.size,rk b[ib]<=rk a[j]:=λi i1 hi=>by
  have z:=kf (i-ia) (by lia) (by lia);rw[Df (by lia)] at z;have e:ia+(i-ia)=i:=by lia
  simp only[e] at z;have z':decide (rk b[ib]<rk a[i])=true:=by
   cases q:decide (rk b[ib]<rk a[i]) with
   | true=>rfl
   | false=>rw[q] at z;cases z
  exact Fs (of_decide_eq_true z')
 by_cases c2:k>0
 ·rw[if_pos c2]
  have mi2:=L.manyA (k:=k) mi λi i1 i2 hi j j1 hj=>D0 (t1 i i1 i2 hi) (EY L.sb j1 hj);by_cases c3:ia+k+1=a.size
  ·rw[if_pos (by rw[c3];exact beq_self_eq_true _)]
   exact AS ⟨g',.inl ⟨_,_,rfl,L.last mi2 (by lia)⟩⟩
  ·rw[if_neg (by intro z;exact c3 (beq_iff_eq.mp z))]
   by_cases c4:ia+k=a.size
   ·rw[if_pos (by rw[c4];exact beq_self_eq_true _)]
    exact AS ⟨g',.inl ⟨_,_,rfl,L.doneA mi2 (by lia)⟩⟩
   ·rw[if_neg (by intro z;exact c4 (beq_iff_eq.mp z))]
    exact Mv C L kd g' mi2 (by lia) lb t2 (by lia)
 ·rw[if_neg c2]
  have:k=0:=by lia
  subst this;exact Mv C L kd g' mi la lb t2 hm
theorem RP(C:Cmp prog w A E s κ G rk)(L:Lo G rk a b)(kd:kindOf st=κ)(a1:1<=a.size)(b1:1<=b.size)(hf:∀j,∀hj:j<a.size,rk b[0]<=rk a[j]){Q:Array AC->A9->Prop}(h:∀r st',Gx st st'->Mg rk a.toList b.toList r.toList->Q r st'):wpS (AO prog w) A E s (Hg a b) Q st:=by
 rw[Qh];refine AN (LL (GV ⟨rfl,?_⟩));refine AN (BZ b1 ?_);have mi0:MI rk a.toList b.toList (#[]:Array AC).toList 0 0:=⟨LJ _,Kb,λx hx=>(by cases hx),λx hx=>(by cases hx)⟩;have mi:MI rk a.toList b.toList (#[b[0]]:Array AC).toList 0 1:=L.stepB mi0 b1 λj _ hj=>hf j hj;by_cases c1:1=b.size
 ·rw[if_pos (by rw[<- c1];rfl)]
  exact AS (h _ _ (Gx.refl _) (L.done mi (by lia)))
 rw[if_neg (by intro z;exact c1 (beq_iff_eq.mp z))];by_cases c2:0+1=a.size
 ·rw[if_pos (by rw[<- c2];rfl)]
  exact AS (h _ _ (Gx.refl _) (L.last mi (by lia)))
 rw[if_neg (by intro z;exact c2 (beq_iff_eq.mp z))];refine AN (IN ?_);refine AN (DL (Da (I:=λx c st'=>Gx st st'/\∃out ia ib mg,c=(none,out,ia,ib,mg)/\At rk a b out ia ib/\x+1<=ia+ib)
  (Q:=λc st'=>Gx st st'/\∃x y,c=(some x,y)/\Mg rk a.toList b.toList x.toList) ?_ ?_ ⟨Gx.refl _,_,_,_,_,rfl,⟨mi,by lia,by lia⟩,by lia⟩) ?_)
 ·rintro x c st' _ xn ⟨g,out,ia,ib,mg,rfl,at_,xm⟩
  dsimp only;refine AN (DL (Da (I:=λy c st'=>Y1 rk a b st (x+1+y) c st') (Q:=E1 rk a b st (x+2)) ?_ ?_ ⟨g,_,_,_,_,_,rfl,at_,by lia⟩) ?_)
  ·rintro y c st2 _ yn ⟨g2,out2,ia2,ib2,ac,bc,rfl,at2,hm⟩
   refine DL (XS C L kd g2 at2 hm) λr st3 hr=>?_;cases r with
   | done c' =>
    obtain ⟨g3,q⟩:=hr;refine ⟨g3,q.imp id λ⟨o,i,j,k,l,e,a',b'⟩=>⟨o,i,j,k,l,e,a',by lia⟩⟩
   | yield c'=>exact hr
  ·rintro c st2 ⟨g2,out2,ia2,ib2,ac,bc,rfl,at2,hm⟩
   exact ⟨g2,.inr ⟨_,_,_,_,_,rfl,at2,by lia⟩⟩
  ·rintro c st2 ⟨g2,⟨r,y,rfl,m⟩ | ⟨out2,ia2,ib2,ac,bc,rfl,at2,hm⟩⟩
   ·exact AS ⟨g2,_,_,rfl,m⟩
   ·dsimp only
    refine AN (LL (GV ⟨rfl,?_⟩));refine AN (DL (Da (I:=λy c st'=>Y2 rk a b st (x+2) c st') (Q:=E2 rk a b st (x+2)) ?_ ?_ ⟨g2,_,_,_,_,_,_,rfl,at2,hm⟩) ?_)
    ·rintro y c st3 _ yn ⟨g3,out3,ia3,ib3,mg3,ac3,bc3,rfl,at3,hm3⟩
     dsimp only;split
     ·exact DL (Lz C L kd g3 at3 hm3) λr st4 hr=>by cases r<;>exact hr
     ·exact DL (Lz C L kd g3 at3 hm3) λr st4 hr=>by cases r<;>exact hr
    ·rintro c st3 ⟨g3,out3,ia3,ib3,mg3,ac3,bc3,rfl,at3,hm3⟩
     exact ⟨g3,.inr ⟨_,_,_,_,_,_,rfl,at3,hm3⟩⟩
    ·rintro c st3 ⟨g3,⟨r,y,rfl,m⟩ | ⟨out3,ia3,ib3,mg3,ac3,bc3,rfl,at3,hm3⟩⟩
     ·exact AS ⟨g3,_,_,rfl,m⟩
     ·refine AN (setMin (AS ⟨Np g3 _,_,_,_,_,rfl,at3,by lia⟩))
 ·rintro c st' ⟨g,out,ia,ib,mg,rfl,⟨_,la,lb⟩,xm⟩
  lia
 ·rintro c st' ⟨g,x,y,rfl,m⟩
  exact AS (h _ _ g m)
end
variable{rk:AC->Int}{prog:AL}{w:AQ}{A:BS}{E:Ap->AA->Prop}{s:AA}{G:AC->Prop}{κ:EK}{a₀:Array AC}
abbrev hiDone(a b out:Array AC)(na nb:Nat):Array AC:=a.extract 0 na++b.extract 0 nb++out.reverse
abbrev Ga(a b out:Array AC)(na nb:Nat):Array AC:=b.extract 0 nb++a.extract 0 na++out.reverse
abbrev T1:=Option (Array AC)×Nat×Nat×Array AC×Nat×Nat
abbrev T2:=Option (Array AC)×Nat×Nat×Array AC×Nat×Nat×Nat
abbrev T0:=Option (Array AC)×Nat×Nat×Array AC×Nat
def hiOne(a b:Array AC)(mg:Nat)(r:T1):StateT A9 Sem (ForInStep T1):=do
 let y <- C8 b (r.snd.snd.fst-1)
 let x <- C8 a (r.snd.fst-1)
 let c <- lt' y x
 match c with
 | some aWins =>
  if aWins=true then do
   let x <- C8 a (r.snd.fst-1)
   if (r.snd.fst-1==0)=true then
    pure (BD (some (hiDone a b (r.snd.snd.snd.fst.push x) (r.snd.fst-1) r.snd.snd.fst),r.snd.fst-1,r.snd.snd.fst,r.snd.snd.snd.fst.push x,r.snd.snd.snd.snd.fst+1,0))
   else if r.snd.snd.snd.snd.fst+1 >= mg then
    pure (BD (none,r.snd.fst-1,r.snd.snd.fst,r.snd.snd.snd.fst.push x,r.snd.snd.snd.snd.fst+1,0))
   else pure (CM (none,r.snd.fst-1,r.snd.snd.fst,r.snd.snd.snd.fst.push x,r.snd.snd.snd.snd.fst+1,0))
  else do
   let y <- C8 b (r.snd.snd.fst-1)
   if (r.snd.snd.fst-1==1)=true then
    pure (BD (some (Ga a b (r.snd.snd.snd.fst.push y) r.snd.fst (r.snd.snd.fst-1)),r.snd.fst,r.snd.snd.fst-1,r.snd.snd.snd.fst.push y,0,r.snd.snd.snd.snd.snd+1))
   else if r.snd.snd.snd.snd.snd+1 >= mg then
    pure (BD (none,r.snd.fst,r.snd.snd.fst-1,r.snd.snd.snd.fst.push y,0,r.snd.snd.snd.snd.snd+1))
   else pure (CM (none,r.snd.fst,r.snd.snd.fst-1,r.snd.snd.snd.fst.push y,0,r.snd.snd.snd.snd.snd+1))
 | _=>pure (BD (some (hiDone a b r.snd.snd.snd.fst r.snd.fst r.snd.snd.fst),r.snd.fst,r.snd.snd.fst,r.snd.snd.snd.fst,r.snd.snd.snd.snd.fst,r.snd.snd.snd.snd.snd))
def hiEnd(a b:Array AC)(mg ac bc:Nat)(out:Array AC)(na nb:Nat):StateT A9 Sem (ForInStep T2):=do
 let x <- C8 a (na-1)
 if (na-1==0)=true then pure (BD (some (hiDone a b (out.push x) (na-1) nb),na-1,nb,out.push x,mg,ac,bc))
 else if (decide (ac<7)&&decide (bc<7))=true then pure (BD (none,na-1,nb,out.push x,mg,ac,bc))
 else pure (CM (none,na-1,nb,out.push x,mg,ac,bc))
def hiMid(a b:Array AC)(mg k bc:Nat)(out:Array AC)(na nb:Nat):StateT A9 Sem (ForInStep T2):=do
 let y <- C8 b (nb-1)
 if (nb-1==1)=true then pure (BD (some (Ga a b (out.push y) na (nb-1)),na,nb-1,out.push y,mg,k,bc))
 else do
  let x <- C8 a (na-1)
  let r <- CT true x b 0 (nb-1) (nb-1-1)
  match r with
  | some t =>
   if nb-1-t>0 then
    if (t==1)=true then pure (BD (some (Ga a b (out.push y++(b.extract t (nb-1)).reverse) na t),na,t,out.push y++(b.extract t (nb-1)).reverse,mg,k,nb-1-t))
    else if (t==0)=true then pure (BD (some (hiDone a b (out.push y++(b.extract t (nb-1)).reverse) na t),na,t,out.push y++(b.extract t (nb-1)).reverse,mg,k,nb-1-t))
    else hiEnd a b mg k (nb-1-t) (out.push y++(b.extract t (nb-1)).reverse) na t
   else hiEnd a b mg k (nb-1-t) (out.push y) na (nb-1)
  | _=>pure (BD (some (hiDone a b (out.push y) na (nb-1)),na,nb-1,out.push y,mg,k,bc))
def hiGal(a b:Array AC)(mg ac bc:Nat)(out:Array AC)(na nb:Nat):StateT A9 Sem (ForInStep T2):=do
 Cq mg
 let y <- C8 b (nb-1)
 let r <- CT false y a 0 na (na-1)
 match r with
 | some t =>
  if na-t>0 then
   if (t==0)=true then pure (BD (some (hiDone a b (out++(a.extract t na).reverse) t nb),t,nb,out++(a.extract t na).reverse,mg,na-t,bc))
   else hiMid a b mg (na-t) bc (out++(a.extract t na).reverse) t nb
  else hiMid a b mg (na-t) bc out na nb
 | _=>pure (BD (some (hiDone a b out na nb),na,nb,out,mg,ac,bc))
def Gs:Array AC->Array AC->StateT A9 Sem (Array AC):=sortPriv% PySem.Builtin.mergeHi
theorem Rq(a b:Array AC):Gs a b=(do
 rule "list.sort.merge-hi"
 let total:=a.size+b.size
 let done (out:Array AC) (na nb:Nat):=a.extract 0 na++b.extract 0 nb++out.reverse
 let firstOfB (out:Array AC) (na nb:Nat):=b.extract 0 nb++a.extract 0 na++out.reverse
 let mut na:=a.size-1
 let mut nb:=b.size
 let mut out:Array AC:=#[<- C8 a na]
 if na==0 then return done out na nb
 if nb==1 then return firstOfB out na nb
 let mut minGallop:=OT (<- get)
 for _ in [0:total] do
  let mut acount:=0
  let mut bcount:=0
  for _ in [0:total] do
   let some aWins <- lt' (<- C8 b (nb-1)) (<- C8 a (na-1)) | return done out na nb
   if aWins then
    na:=na-1;out:=out.push (<- C8 a na);acount:=acount+1;bcount:=0
    if na==0 then return done out na nb
    if acount >= minGallop then break
   else
    nb:=nb-1;out:=out.push (<- C8 b nb);bcount:=bcount+1;acount:=0
    if nb==1 then return firstOfB out na nb
    if bcount >= minGallop then break
  rule "list.sort.gallop"
  minGallop:=minGallop+1
  for _ in [0:total] do
   if minGallop>1 then minGallop:=minGallop-1
   Cq minGallop
   let some at_ <- CT false (<- C8 b (nb-1)) a 0 na (na-1) | return done out na nb
   let k:=na-at_
   acount:=k
   if k>0 then
    out:=out++(a.extract at_ na).reverse;na:=at_
    if na==0 then return done out na nb
   nb:=nb-1;out:=out.push (<- C8 b nb)
   if nb==1 then return firstOfB out na nb
   let some at_ <- CT true (<- C8 a (na-1)) b 0 nb (nb-1) | return done out na nb
   let k:=nb-at_
   bcount:=k
   if k>0 then
    out:=out++(b.extract at_ nb).reverse;nb:=at_
    if nb==1 then return firstOfB out na nb
    if nb==0 then return done out na nb
   na:=na-1;out:=out.push (<- C8 a na)
   if na==0 then return done out na nb
   if acount<7&&bcount<7 then break
  minGallop:=minGallop+1
  Cq minGallop
 unsupported "internal:list.sort.merge-bound"):=rfl
theorem Qf(a b:Array AC):Gs a b=(do
 liftM (rule "list.sort.merge-hi")
 let x <- C8 a (a.size-1)
 if (a.size-1==0)=true then pure (hiDone a b #[x] (a.size-1) b.size)
 else if (b.size==1)=true then pure (Ga a b #[x] (a.size-1) b.size)
 else do
  let g <- get
  let r <- forIn [0:a.size+b.size] ((none,a.size-1,b.size,#[x],OT g):T0) λ_ r0=>do
   let r1 <- forIn [0:a.size+b.size] ((none,r0.snd.fst,r0.snd.snd.fst,r0.snd.snd.snd.fst,0,0):T1) λ_ r=>hiOne a b r0.snd.snd.snd.snd r
   match r1.fst with
   | some x=>pure (BD ((some x,r1.snd.fst,r1.snd.snd.fst,r1.snd.snd.snd.fst,r0.snd.snd.snd.snd):T0))
   | none=>do
    liftM (rule "list.sort.gallop")
    let r2 <- forIn [0:a.size+b.size] ((none,r1.snd.fst,r1.snd.snd.fst,r1.snd.snd.snd.fst,r0.snd.snd.snd.snd+1,r1.snd.snd.snd.snd.fst,r1.snd.snd.snd.snd.snd):T2) λ_ r =>
     if r.snd.snd.snd.snd.fst>1 then hiGal a b (r.snd.snd.snd.snd.fst-1) r.snd.snd.snd.snd.snd.fst r.snd.snd.snd.snd.snd.snd r.snd.snd.snd.fst r.snd.fst r.snd.snd.fst
     else hiGal a b r.snd.snd.snd.snd.fst r.snd.snd.snd.snd.snd.fst r.snd.snd.snd.snd.snd.snd r.snd.snd.snd.fst r.snd.fst r.snd.snd.fst
    match r2.fst with
    | some x=>pure (BD ((some x,r2.snd.fst,r2.snd.snd.fst,r2.snd.snd.snd.fst,r2.snd.snd.snd.snd.fst):T0))
    | none=>do
     Cq (r2.snd.snd.snd.snd.fst+1)
     pure (CM ((none,r2.snd.fst,r2.snd.snd.fst,r2.snd.snd.snd.fst,r2.snd.snd.snd.snd.fst+1):T0))
  match r.fst with
  | some x=>pure x
  | none=>unsupported "internal:list.sort.merge-bound"):=by
 rw[Rq];dsimp only
 congr 1
 funext _
 congr 1
 funext y
 refine ifc rfl (ifc rfl ?_)
 congr 1
 funext g
 congr 1
 ·congr 1
  funext x r0
  congr 1
  funext r1
  obtain ⟨o1,r1⟩:=r1;cases o1 with
  | some x=>rfl
  | none =>
   dsimp only
   congr 1
   funext u
   congr 1
   funext r2
   obtain ⟨o2,r2⟩:=r2;cases o2<;>rfl
 ·funext r
  obtain ⟨o,r⟩:=r;cases o<;>rfl
variable{rk:AC->Int}{prog:AL}{w:AQ}{A:BS}{E:Ap->AA->Prop}{s:AA}{G:AC->Prop}{κ:EK}{a₀:Array AC}
abbrev nk(rk:AC->Int):AC->Int:=λx=>- rk x
theorem Tw{a b l q:List AC}(m:Mg (nk rk) b.reverse a.reverse l)(e:q=l.reverse):Mg rk a b q:=by
 obtain ⟨p,sr⟩:=m;subst e;refine ⟨(My l).trans (p.trans ?_),?_⟩
 ·exact (((My b).append (My a))).trans F5
 ·exact OI.mpr (sr.imp λ{x y} h=>by
   have:- rk x<=- rk y:=h;lia)
theorem Cv{a:Array AC}{n:Nat}(h:n<=a.size):a.toList.reverse.drop (a.size-n)=(a.toList.take n).reverse:=by
 rw[List.drop_reverse]
 congr 2
 simp;lia
section
variable{a b:Array AC}{st:A9}
def HAt(rk:AC->Int)(a b out:Array AC)(na nb:Nat):Prop:=MI (nk rk) b.toList.reverse a.toList.reverse out.toList (b.size-nb) (a.size-na)/\na<=a.size/\nb<=b.size
structure Hi(G:AC->Prop)(rk:AC->Int)(a b:Array AC):Prop where
 ga:Al G a
 gb:Al G b
 sa:Srt rk a.toList
 sb:Srt rk b.toList
 hf:∀j,∀hj:j<a.size,∀h0:0<b.size,rk b[0]<=rk a[j]
theorem Em{l:List AC}(h:Srt rk l):Srt (nk rk) l.reverse:=OI.mpr (h.imp λ{x y} h=>by show-rk y<=- rk x;lia)
theorem Ei{a:Array AC}{n:Nat}{z:AC}(hn:n<=a.size)(h:z∈a.toList.reverse.drop (a.size-n)):∃j,j<n/\∃hj:j<a.size,z=a[j]:=by
 rw[Cv hn] at h;have h':=Hd.mp h;obtain ⟨k,hk,e⟩:=CA.mp h';rw[BG] at hk;have:a.toList.length=a.size:=by simp
 refine ⟨k,by lia,by lia,?_⟩;rw[<- e,IB];simp
theorem rtake{a:Array AC}{n t:Nat}(hn:n<=a.size)(ht:t<=n):(a.toList.reverse.drop (a.size-n)).take (n-t)=((a.toList.drop t).take (n-t)).reverse:=by
 rw[Cv hn,List.take_reverse]
 congr 1
 have:a.toList.length=a.size:=by simp
 rw[BG,show min n a.toList.length-(n-t)=t by lia,List.drop_take]
theorem Qd{out a:Array AC}{n t:Nat}(hn:n<=a.size)(ht:t<=n):(out++(a.extract t n).reverse).toList=out.toList++(a.toList.reverse.drop (a.size-n)).take (n-t):=by
 rw[rtake hn ht,C5,IU,Fu]
theorem Lk{out a:Array AC}{n:Nat}(h1:1<=n)(hn:n<=a.size):(out.push (a[n-1]'(by lia))).toList=out.toList++(a.toList.reverse.drop (a.size-n)).take 1:=by
 have:=rtake (a:=a) (n:=n) (t:=n-1) hn (by lia);rw[show n-(n-1)=1 by lia] at this;rw[this,ID]
 congr 1
 have hl:n-1<a.toList.length:=by simp;lia
 rw[JO hl,Lu,OH];simp
theorem Hi.stepA(L:Hi G rk a b){out:Array AC}{na nb:Nat}(m:HAt rk a b out na nb)(h1:1<=na)(h:∀j,j<nb->∀hj:j<b.size,rk b[j]<=rk (a[na-1]'(by have:=m.2.1;lia))):HAt rk a b (out.push (a[na-1]'(by have:=m.2.1;lia))) (na-1) nb:=by
 obtain ⟨mi,ha,hb⟩:=m;refine ⟨?_,by lia,hb⟩;rw[Lk h1 ha,show a.size-(na-1)=a.size-na+1 by lia];refine mi.takeB (Em L.sa) 1 λy hy z hz=>?_;rw[show (1:Nat)=na-(na-1) by lia,rtake ha (by lia)] at hy;obtain ⟨j,j1,j2,hj,rfl⟩:=Bw (Hd.mp hy);have:j=na-1:=by lia
 subst this;obtain ⟨i,i1,hi,rfl⟩:=Ei hb hz;have:=h i i1 hi;show-_<=- _;lia
theorem Hi.stepB(L:Hi G rk a b){out:Array AC}{na nb:Nat}(m:HAt rk a b out na nb)(h1:1<=nb)(h:∀j,j<na->∀hj:j<a.size,rk a[j]<=rk (b[nb-1]'(by have:=m.2.2;lia))):HAt rk a b (out.push (b[nb-1]'(by have:=m.2.2;lia))) na (nb-1):=by
 obtain ⟨mi,ha,hb⟩:=m;refine ⟨?_,ha,by lia⟩;rw[Lk h1 hb,show b.size-(nb-1)=b.size-nb+1 by lia];refine mi.takeA (Em L.sb) 1 λy hy z hz=>?_;rw[show (1:Nat)=nb-(nb-1) by lia,rtake hb (by lia)] at hy;obtain ⟨j,j1,j2,hj,rfl⟩:=Bw (Hd.mp hy);have:j=nb-1:=by lia
 subst this;obtain ⟨i,i1,hi,rfl⟩:=Ei ha hz;have:=h i i1 hi;show-_<=- _;lia
theorem Hi.manyA(L:Hi G rk a b){out:Array AC}{na nb t:Nat}(m:HAt rk a b out na nb)(ht:t<=na)(h:∀i,t<=i->i<na->∀hi:i<a.size,∀j,j<nb->∀hj:j<b.size,rk b[j]<=rk a[i]):HAt rk a b (out++(a.extract t na).reverse) t nb:=by
 obtain ⟨mi,ha,hb⟩:=m;refine ⟨?_,by lia,hb⟩;rw[Qd ha ht,show a.size-t=a.size-na+(na-t) by lia];refine mi.takeB (Em L.sa) _ λy hy z hz=>?_;rw[rtake ha ht] at hy;obtain ⟨i,i1,i2,hi,rfl⟩:=Bw (Hd.mp hy);obtain ⟨j,j1,hj,rfl⟩:=Ei hb hz;have:=h i i1 (by lia) hi j j1 hj;show-_<=- _;lia
theorem Hi.manyB(L:Hi G rk a b){out:Array AC}{na nb t:Nat}(m:HAt rk a b out na nb)(ht:t<=nb)(h:∀i,t<=i->i<nb->∀hi:i<b.size,∀j,j<na->∀hj:j<a.size,rk a[j]<=rk b[i]):HAt rk a b (out++(b.extract t nb).reverse) na t:=by
 obtain ⟨mi,ha,hb⟩:=m;refine ⟨?_,ha,by lia⟩;rw[Qd hb ht,show b.size-t=b.size-nb+(nb-t) by lia];refine mi.takeA (Em L.sb) _ λy hy z hz=>?_;rw[rtake hb ht] at hy;obtain ⟨i,i1,i2,hi,rfl⟩:=Bw (Hd.mp hy);obtain ⟨j,j1,hj,rfl⟩:=Ei ha hz;have:=h i i1 (by lia) hi j j1 hj;show-_<=- _;lia
theorem GQ(a:Array AC)(n:Nat):(a.extract 0 n).toList=a.toList.take n:=by
 rw[Fu];simp[P5]
theorem Hi.doneA(L:Hi G rk a b){out:Array AC}{na nb:Nat}(m:HAt rk a b out na nb)(z:na=0):Mg rk a.toList b.toList (hiDone a b out na nb).toList:=by
 subst z;obtain ⟨mi,ha,hb⟩:=m;refine Tw (mi.doneB (Em L.sb) (by simp)) ?_;rw[Cv hb,Cv ha];unfold hiDone;rw[C5,C5,IU,GQ,GQ,FH,FH,FA,FA,CC]
theorem Hi.doneB(L:Hi G rk a b){out:Array AC}{na nb:Nat}(m:HAt rk a b out na nb)(z:nb=0):Mg rk a.toList b.toList (hiDone a b out na nb).toList:=by
 subst z;obtain ⟨mi,ha,hb⟩:=m;refine Tw (mi.doneA (Em L.sa) (by simp)) ?_;rw[Cv hb,Cv ha];unfold hiDone;rw[C5,C5,IU,GQ,GQ,FH,FH,FA,FA,CC]
theorem Hi.first(L:Hi G rk a b){out:Array AC}{na nb:Nat}(m:HAt rk a b out na nb)(z:nb=1):Mg rk a.toList b.toList (Ga a b out na nb).toList:=by
 subst z;obtain ⟨mi,ha,hb⟩:=m;refine Tw (mi.last (Em L.sa) (by simp;lia) λy hy z hz=>?_) ?_
 ·obtain ⟨j,j1,hj,rfl⟩:=Ei hb hz
  have:j=0:=by lia
  subst this;obtain ⟨i,hi,rfl⟩:=CA.mp (Hd.mp hy);have hi':i<a.size:=by simpa using hi
  have:=L.hf i hi' hj;show-rk _<=- rk _;simp;lia
 ·rw[Cv hb,Cv ha]
  unfold Ga;rw[C5,C5,IU,GQ,GQ,FH,FH,FA,FA,CC]
def F1(rk:AC->Int)(a b:Array AC)(st:A9)(m:Nat)(r:T1)(st':A9):Prop:=Gx st st'/\((∃x y,r=(some x,y)/\Mg rk a.toList b.toList x.toList)\/∃out na nb ac bc,r=(none,na,nb,out,ac,bc)/\HAt rk a b out na nb/\1<=na/\2<=nb/\na+nb+m<=a.size+b.size)
def F2(rk:AC->Int)(a b:Array AC)(st:A9)(m:Nat)(r:T2)(st':A9):Prop:=Gx st st'/\((∃x y,r=(some x,y)/\Mg rk a.toList b.toList x.toList)\/∃out na nb mg ac bc,r=(none,na,nb,out,mg,ac,bc)/\HAt rk a b out na nb/\1<=na/\2<=nb/\na+nb+m<=a.size+b.size)
def Z1(rk:AC->Int)(a b:Array AC)(st:A9)(m:Nat)(r:T1)(st':A9):Prop:=Gx st st'/\∃out na nb ac bc,r=(none,na,nb,out,ac,bc)/\HAt rk a b out na nb/\1<=na/\2<=nb/\na+nb+m<=a.size+b.size
def Z2(rk:AC->Int)(a b:Array AC)(st:A9)(m:Nat)(r:T2)(st':A9):Prop:=Gx st st'/\∃out na nb mg ac bc,r=(none,na,nb,out,mg,ac,bc)/\HAt rk a b out na nb/\1<=na/\2<=nb/\na+nb+m<=a.size+b.size
theorem Wx(C:Cmp prog w A E s κ G rk)(L:Hi G rk a b){mg m na nb ac bc:Nat}{out:Array AC}{st0:A9}(kd:kindOf st0=κ)(g:Gx st0 st)(at_:HAt rk a b out na nb)(n1:1<=na)(n2:2<=nb)(hm:na+nb+m<=a.size+b.size) :
  wpS (AO prog w) A E s (hiOne a b mg (none,na,nb,out,ac,bc)) (λr st'=>match r with | .done c'=>F1 rk a b st0 (m+1) c' st' | .yield c'=>Z1 rk a b st0 (m+1) c' st') st:=by
 obtain ⟨_,ha,hb⟩:=id at_;have la:na-1<a.size:=by lia
 have lb:nb-1<b.size:=by lia
 unfold hiOne;dsimp only;refine AN (BZ lb (AN (BZ la (AN (C _ _ (L.gb.at lb) (L.ga.at la) st _ (g.kind.trans kd) ?_)))));by_cases c:rk b[nb-1]<rk a[na-1]
 ·rw[decide_eq_true c]
  dsimp only;rw[if_pos rfl];refine AN (BZ la ?_);have mi':=L.stepA at_ n1 λj j1 hj=>D0 (EY L.sb (show j<=nb-1 by lia) lb) (Fs c);by_cases c1:na-1=0
  ·rw[if_pos (by rw[c1];rfl)]
   exact AS ⟨g,.inl ⟨_,_,rfl,L.doneA mi' c1⟩⟩
  ·rw[if_neg (by intro z;exact c1 (beq_iff_eq.mp z))]
   by_cases c2:ac+1 >= mg
   ·rw[if_pos c2]
    exact AS ⟨g,.inr ⟨_,_,_,_,_,rfl,mi',by lia,n2,by lia⟩⟩
   ·rw[if_neg c2]
    exact AS ⟨g,_,_,_,_,_,rfl,mi',by lia,n2,by lia⟩
 ·rw[decide_eq_false c]
  dsimp only;rw[if_neg (by decide)];refine AN (BZ lb ?_);have mi':=L.stepB at_ (by lia) λj j1 hj=>D0 (EY L.sa (show j<=na-1 by lia) la) (HR.mp c);by_cases c1:nb-1=1
  ·rw[if_pos (by rw[c1];rfl)]
   exact AS ⟨g,.inl ⟨_,_,rfl,L.first mi' c1⟩⟩
  ·rw[if_neg (by intro z;exact c1 (beq_iff_eq.mp z))]
   by_cases c2:bc+1 >= mg
   ·rw[if_pos c2]
    exact AS ⟨g,.inr ⟨_,_,_,_,_,rfl,mi',n1,by lia,by lia⟩⟩
   ·rw[if_neg c2]
    exact AS ⟨g,_,_,_,_,_,rfl,mi',n1,by lia,by lia⟩
theorem MF(L:Hi G rk a b){mg m na nb ac bc:Nat}{out:Array AC}{st0:A9}(g:Gx st0 st)(at_:HAt rk a b out na nb)(n1:1<=na)(n2:2<=nb)(h:∀j,j<nb->∀hj:j<b.size,rk b[j]<=rk (a[na-1]'(by have:=at_.2.1;lia)))(hm:na+nb+m<=a.size+b.size) :
  wpS (AO prog w) A E s (hiEnd a b mg ac bc out na nb) (λr st'=>match r with | .done c'=>F2 rk a b st0 m c' st' | .yield c'=>Z2 rk a b st0 m c' st') st:=by
 obtain ⟨_,ha,hb⟩:=id at_;have la:na-1<a.size:=by lia
 unfold hiEnd;refine AN (BZ la ?_);have mi':=L.stepA at_ n1 h;by_cases c1:na-1=0
 ·rw[if_pos (by rw[c1];rfl)]
  exact AS ⟨g,.inl ⟨_,_,rfl,L.doneA mi' c1⟩⟩
 ·rw[if_neg (by intro z;exact c1 (beq_iff_eq.mp z))]
  by_cases c2:(decide (ac<7)&&decide (bc<7))=true
  ·rw[if_pos c2]
   exact AS ⟨g,.inr ⟨_,_,_,_,_,_,rfl,mi',by lia,n2,by lia⟩⟩
  ·rw[if_neg c2]
   exact AS ⟨g,_,_,_,_,_,_,rfl,mi',by lia,n2,by lia⟩
theorem Mr(C:Cmp prog w A E s κ G rk)(L:Hi G rk a b){mg m k bc na nb:Nat}{out:Array AC}{st0:A9}(kd:kindOf st0=κ)(g:Gx st0 st)(at_:HAt rk a b out na nb)(n1:1<=na)(n2:2<=nb)(h:∀j,j<na->∀hj:j<a.size,rk a[j]<=rk (b[nb-1]'(by have:=at_.2.2;lia)))(hm:na+nb+m<=a.size+b.size) :
  wpS (AO prog w) A E s (hiMid a b mg k bc out na nb) (λr st'=>match r with | .done c'=>F2 rk a b st0 m c' st' | .yield c'=>Z2 rk a b st0 m c' st') st:=by
 obtain ⟨_,ha,hb⟩:=id at_;have la:na-1<a.size:=by lia
 have lb:nb-1<b.size:=by lia
 unfold hiMid;refine AN (BZ lb ?_);have mi':=L.stepB at_ (by lia) h;by_cases c1:nb-1=1
 ·rw[if_pos (by rw[c1];rfl)]
  exact AS ⟨g,.inl ⟨_,_,rfl,L.first mi' c1⟩⟩
 ·rw[if_neg (by intro z;exact c1 (beq_iff_eq.mp z))]
  refine AN (BZ la ?_);refine AN (Ck C (L.ga.at la) L.gb (g.kind.trans kd) (by lia) (by lia) (Eh (OJ L.sb (by lia))) λt kn kt kf=>?_);dsimp only;have t1:∀i,i<t->∀hi:i<b.size,rk b[i]<rk a[na-1]:=λi i1 hi=>by
   have z:=kt i i1;rw[El (by lia)] at z;simp only[Hb] at z;exact of_decide_eq_true z
  have t2:∀j,t<=j->j<nb-1->∀hj:j<b.size,rk a[na-1]<=rk b[j]:=λi i1 i2 hi=>by
   have z:=kf i i1 i2;rw[El (by lia)] at z;simp only[Hb] at z;exact HR.mp (of_decide_eq_false z)
  by_cases c2:nb-1-t>0
  ·rw[if_pos c2]
   have mi2:=L.manyB (t:=t) mi' (by lia) λi i1 i2 hi j j1 hj=>D0 (EY L.sa (show j<=na-1 by lia) la) (t2 i i1 i2 hi);by_cases c3:t=1
   ·rw[if_pos (by rw[c3];rfl)]
    exact AS ⟨g,.inl ⟨_,_,rfl,L.first mi2 c3⟩⟩
   ·rw[if_neg (by intro z;exact c3 (beq_iff_eq.mp z))]
    by_cases c4:t=0
    ·rw[if_pos (by rw[c4];rfl)]
     exact AS ⟨g,.inl ⟨_,_,rfl,L.doneB mi2 c4⟩⟩
    ·rw[if_neg (by intro z;exact c4 (beq_iff_eq.mp z))]
     exact MF L g mi2 n1 (by lia) (λj j1 hj=>Fs (t1 j j1 hj)) (by lia)
  ·rw[if_neg c2]
   exact MF L g mi' n1 (by lia) (λj j1 hj=>Fs (t1 j (by lia) hj)) (by lia)
theorem Lq(C:Cmp prog w A E s κ G rk)(L:Hi G rk a b){mg m ac bc na nb:Nat}{out:Array AC}{st0:A9}(kd:kindOf st0=κ)(g:Gx st0 st)(at_:HAt rk a b out na nb)(n1:1<=na)(n2:2<=nb)(hm:na+nb+m<=a.size+b.size) :
  wpS (AO prog w) A E s (hiGal a b mg ac bc out na nb) (λr st'=>match r with | .done c'=>F2 rk a b st0 m c' st' | .yield c'=>Z2 rk a b st0 m c' st') st:=by
 obtain ⟨_,ha,hb⟩:=id at_;have lb:nb-1<b.size:=by lia
 unfold hiGal;refine AN (setMin ?_);have g':=Np g mg;generalize HU (kindOf st) (AM st) (Bn st) mg (ET st)=st1 at g';refine AN (BZ lb ?_);refine AN (Ck C (L.gb.at lb) L.ga (g'.kind.trans kd) (by lia) (by lia) (Eh (OJ L.sa (by lia))) λt kn kt kf=>?_);dsimp only;have t1:∀i,i<t->∀hi:i<a.size,rk a[i]<=rk b[nb-1]:=λi i1 hi=>by
  have z:=kt i i1;rw[Df (by lia)] at z;simp only[Hb] at z;refine HR.mp λy=>?_;rw[decide_eq_true y] at z;cases z
 have t2:∀j,t<=j->j<na->∀hj:j<a.size,rk b[nb-1]<=rk a[j]:=λi i1 i2 hi=>by
  have z:=kf i i1 i2;rw[Df (by lia)] at z;simp only[Hb] at z;have z':decide (rk b[nb-1]<rk a[i])=true:=by
   cases q:decide (rk b[nb-1]<rk a[i]) with
   | true=>rfl
   | false=>rw[q] at z;cases z
  exact Fs (of_decide_eq_true z')
 by_cases c2:na-t>0
 ·rw[if_pos c2]
  have mi2:=L.manyA (t:=t) at_ kn λi i1 i2 hi j j1 hj=>D0 (EY L.sb (show j<=nb-1 by lia) lb) (t2 i i1 i2 hi);by_cases c3:t=0
  ·rw[if_pos (by rw[c3];rfl)]
   exact AS ⟨g',.inl ⟨_,_,rfl,L.doneA mi2 c3⟩⟩
  ·rw[if_neg (by intro z;exact c3 (beq_iff_eq.mp z))]
   exact Mr C L kd g' mi2 (by lia) n2 (λj j1 hj=>t1 j j1 hj) (by lia)
 ·rw[if_neg c2]
  exact Mr C L kd g' at_ n1 n2 (λj j1 hj=>t1 j (by lia) hj) hm
theorem Qq(C:Cmp prog w A E s κ G rk)(L:Hi G rk a b)(kd:kindOf st=κ)(a1:1<=a.size)(b1:1<=b.size)(hl:∀j,∀hj:j<b.size,rk b[j]<=rk (a[a.size-1]'(by lia))){Q:Array AC->A9->Prop}(h:∀r st',Gx st st'->Mg rk a.toList b.toList r.toList->Q r st'):wpS (AO prog w) A E s (Gs a b) Q st:=by
 rw[Qf];refine AN (LL (GV ⟨rfl,?_⟩));refine AN (BZ (by lia) ?_);have mi0:HAt rk a b #[] a.size b.size:=⟨by
  rw[IM,IM];exact ⟨F5.trans F5,Kb,λx hx=>(by cases hx),λx hx=>(by cases hx)⟩,AF _,AF _⟩
 have mi:HAt rk a b #[a[a.size-1]] (a.size-1) b.size:=L.stepA mi0 a1 λj _ hj=>hl j hj;by_cases c1:a.size-1=0
 ·rw[if_pos (by rw[c1];rfl)]
  exact AS (h _ _ (Gx.refl _) (L.doneA mi c1))
 rw[if_neg (by intro z;exact c1 (beq_iff_eq.mp z))];by_cases c2:b.size=1
 ·rw[if_pos (by rw[c2];rfl)]
  exact AS (h _ _ (Gx.refl _) (L.first mi c2))
 rw[if_neg (by intro z;exact c2 (beq_iff_eq.mp z))];refine AN (IN ?_);refine AN (DL (Da (I:=λx c st'=>Gx st st'/\∃out na nb mg,c=(none,na,nb,out,mg)/\HAt rk a b out na nb/\1<=na/\2<=nb/\na+nb+(x+1)<=a.size+b.size)
  (Q:=λc st'=>Gx st st'/\∃x y,c=(some x,y)/\Mg rk a.toList b.toList x.toList) ?_ ?_ ⟨Gx.refl _,_,_,_,_,rfl,mi,by lia,by lia,by lia⟩) ?_)
 ·rintro x c st' _ xn ⟨g,out,na,nb,mg,rfl,at_,n1,n2,xm⟩
  dsimp only;refine AN (DL (Da (I:=λy c st'=>Z1 rk a b st (x+1+y) c st') (Q:=F1 rk a b st (x+2)) ?_ ?_ ⟨g,_,_,_,_,_,rfl,at_,n1,n2,by lia⟩) ?_)
  ·rintro y c st2 _ yn ⟨g2,out2,na2,nb2,ac,bc,rfl,at2,m1,m2,hm⟩
   refine DL (Wx C L kd g2 at2 m1 m2 hm) λr st3 hr=>?_;cases r with
   | done c' =>
    obtain ⟨g3,q⟩:=hr;refine ⟨g3,q.imp id λ⟨o,i,j,k,l,e,a',b',c',d'⟩=>⟨o,i,j,k,l,e,a',b',c',by lia⟩⟩
   | yield c'=>exact hr
  ·rintro c st2 ⟨g2,out2,na2,nb2,ac,bc,rfl,at2,m1,m2,hm⟩
   exact ⟨g2,.inr ⟨_,_,_,_,_,rfl,at2,m1,m2,by lia⟩⟩
  ·rintro c st2 ⟨g2,⟨r,y,rfl,m⟩ | ⟨out2,na2,nb2,ac,bc,rfl,at2,m1,m2,hm⟩⟩
   ·exact AS ⟨g2,_,_,rfl,m⟩
   ·dsimp only
    refine AN (LL (GV ⟨rfl,?_⟩));refine AN (DL (Da (I:=λy c st'=>Z2 rk a b st (x+2) c st') (Q:=F2 rk a b st (x+2)) ?_ ?_ ⟨g2,_,_,_,_,_,_,rfl,at2,m1,m2,hm⟩) ?_)
    ·rintro y c st3 _ yn ⟨g3,out3,na3,nb3,mg3,ac3,bc3,rfl,at3,k1,k2,hm3⟩
     dsimp only;split
     ·exact DL (Lq C L kd g3 at3 k1 k2 hm3) λr st4 hr=>by cases r<;>exact hr
     ·exact DL (Lq C L kd g3 at3 k1 k2 hm3) λr st4 hr=>by cases r<;>exact hr
    ·rintro c st3 ⟨g3,out3,na3,nb3,mg3,ac3,bc3,rfl,at3,k1,k2,hm3⟩
     exact ⟨g3,.inr ⟨_,_,_,_,_,_,rfl,at3,k1,k2,hm3⟩⟩
    ·rintro c st3 ⟨g3,⟨r,y,rfl,m⟩ | ⟨out3,na3,nb3,mg3,ac3,bc3,rfl,at3,k1,k2,hm3⟩⟩
     ·exact AS ⟨g3,_,_,rfl,m⟩
     ·refine AN (setMin (AS ⟨Np g3 _,_,_,_,_,rfl,at3,k1,k2,by lia⟩))
 ·rintro c st' ⟨g,out,na,nb,mg,rfl,at_,n1,n2,xm⟩
  lia
 ·rintro c st' ⟨g,x,y,rfl,m⟩
  exact AS (h _ _ g m)
end
variable{rk:AC->Int}{prog:AL}{w:AQ}{A:BS}{E:Ap->AA->Prop}{s:AA}{G:AC->Prop}{κ:EK}{a₀:Array AC}
def lay(arr:Array AC)(sa:Nat)(r:Array AC):Array AC:=r.toList.zipIdx.foldl (λa (p,j)=>a.setIfInBounds (sa+j) p) arr
theorem QX(sa:Nat):∀(l:List AC) (k:Nat) (arr:Array AC),sa+k+l.length<=arr.size->∀q:Nat,
  ((l.zipIdx k).foldl (λa (x:AC×Nat)=>a.setIfInBounds (sa+x.2) x.1) arr).size=arr.size/\((l.zipIdx k).foldl (λa (x:AC×Nat)=>a.setIfInBounds (sa+x.2) x.1) arr)[q]?=if sa+k<=q/\q<sa+k+l.length then l[q-(sa+k)]? else arr[q]?
 | [],k,arr,h,q=>by
  refine ⟨rfl,?_⟩;rw[if_neg (by simp)];rfl
 | x::l,k,arr,h,q=>by
  rw[DI] at h;rw[List.zipIdx_cons,K2];have ih:=QX sa l (k+1) (arr.setIfInBounds (sa+k) x) (by rw[Hc];lia) q;refine ⟨ih.1.trans Hc,ih.2.trans ?_⟩;rw[DI];by_cases c:sa+k<=q/\q<sa+k+(l.length+1)
  ·rw[if_pos c]
   by_cases d:q=sa+k
   ·subst d
    rw[if_neg (by lia),Array.getElem?_setIfInBounds_self_of_lt (by lia)];simp
   ·rw[if_pos (by lia),show q-(sa+k)=(q-(sa+(k+1)))+1 by lia,List.getElem?_cons_succ]
  ·rw[if_neg c,if_neg (by lia),Array.getElem?_setIfInBounds_ne (by lia)]
theorem Nj{arr r:Array AC}{sa:Nat}(h:sa+r.size<=arr.size)(q:Nat):(lay arr sa r)[q]?=if sa<=q/\q<sa+r.size then r[q-sa]? else arr[q]?:=by
 have:=(QX sa r.toList 0 arr (by simpa using h) q).2;unfold lay;simpa using this
theorem ZG{arr r:Array AC}{lo mid hi:Nat}(lm:lo<=mid)(mh:mid<=hi)(ha:hi<=arr.size)(p:r.toList.Perm ((arr.extract lo mid).toList++(arr.extract mid hi).toList)):(lay arr lo r).Perm arr:=by
 have rl:r.size=hi-lo:=by
  have:=p.length_eq;simp at this;lia
 have e:(lay arr lo r).toList=arr.toList.take lo++(r.toList++arr.toList.drop hi):=by
  apply EI;intro q;rw[BU,Nj (by lia)];by_cases c:q<lo
  ·rw[if_neg (by lia),Bi (by simp;lia),Fc c,BU]
  ·rw[Cn (by simp;lia)]
   have e1:(arr.toList.take lo).length=lo:=by simp;lia
   rw[e1];by_cases d:q<hi
   ·rw[if_pos (by lia),Bi (by simp;lia),BU]
   ·rw[if_neg (by lia),Cn (by simp;lia),PZ,AV,rl,BU]
    congr 1
    lia
 have e2:arr.toList=arr.toList.take lo++(((arr.extract lo mid).toList++(arr.extract mid hi).toList)++arr.toList.drop hi):=by
  have x1:(arr.extract lo mid).toList=(arr.toList.drop lo).take (mid-lo):=by rw[Fu]
  have x2:(arr.extract mid hi).toList=(arr.toList.drop mid).take (hi-mid):=by rw[Fu]
  rw[x1,x2,CC];have y2:(arr.toList.drop mid).take (hi-mid)++arr.toList.drop hi=arr.toList.drop mid:=by
   rw[show arr.toList.drop hi=(arr.toList.drop mid).drop (hi-mid) by rw[LM];congr 1;lia];exact DZ ..
  rw[y2];have y1:(arr.toList.drop lo).take (mid-lo)++arr.toList.drop mid=arr.toList.drop lo:=by
   rw[show arr.toList.drop mid=(arr.toList.drop lo).drop (mid-lo) by rw[LM];congr 1;lia];exact DZ ..
  rw[y1];exact (DZ ..).symm
 refine F8.mpr ?_;rw[e,e2];have e3:(Ta lo arr.toList++(((arr.extract lo mid).toList++(arr.extract mid hi).toList)++arr.toList.drop hi)).take lo=Ta lo arr.toList:=by rw[<- e2]
 have e4:(Ta lo arr.toList++(((arr.extract lo mid).toList++(arr.extract mid hi).toList)++arr.toList.drop hi)).drop hi=arr.toList.drop hi:=by rw[<- e2]
 first
  | exact EX _ (KF _ p)
  | (rw[e3,e4];exact EX _ (KF _ p))
theorem Eo{arr:Array AC}(h:Al G arr)(i j:Nat):Al G (arr.extract i j):=λk x e=>by
 rw[Array.getElem?_extract] at e;split at e
 ·exact h _ x e
 ·cases e
theorem srt_extract{arr:Array AC}{i j:Nat}(h:Up rk arr i j)(hj:j<=arr.size):Srt rk (arr.extract i j).toList:=by
 unfold Srt;rw[CF];intro p q hp hq pq;simp at hp hq;have:=h (i+p) (i+q) (by lia) (by lia) (by lia);rw[Er (by lia),Er (by lia)] at this;simpa using this
theorem Zd{arr:Array AC}{i j k:Nat}(h:k<(arr.extract i j).size):(arr.extract i j)[k]=arr[i+k]'(by simp at h;lia):=by simp
def Ch(rk:AC->Int)(arr:Array AC):List (Nat×Nat×Nat)->Nat->Nat->Prop
 | [],lo,hi=>lo=hi
 | (s,n,_)::rest,lo,hi=>s=lo/\1<=n/\Up rk arr lo (lo+n)/\Ch rk arr rest (lo+n) hi
theorem Ch.le{arr:Array AC}:∀{l:List (Nat×Nat×Nat)}{lo hi:Nat},Ch rk arr l lo hi->lo+l.length<=hi
 | [],lo,hi,h=>by have h':lo=hi:=h;simp;lia
 | (s,n,_)::rest,lo,hi,⟨_,h1,_,h⟩=>by have:=Ch.le h;simp;lia
theorem Up.congr{arr arr':Array AC}{lo hi:Nat}(h:Up rk arr lo hi)(e:∀i,lo<=i->i<hi->arr'[i]?=arr[i]?):Up rk arr' lo hi:=λi j li ij jh=>by
 rw[Dw (e i li (by lia)),Dw (e j (by lia) jh)];exact h i j li ij jh
theorem Ch.congr{arr arr':Array AC}:∀{l:List (Nat×Nat×Nat)}{lo hi:Nat},Ch rk arr l lo hi->(∀i,lo<=i->i<hi->arr'[i]?=arr[i]?)->Ch rk arr' l lo hi
 | [],lo,hi,h,_=>h
 | (s,n,_)::rest,lo,hi,⟨e1,h1,u,h⟩,e=>by
  have le:=Ch.le h;exact ⟨e1,h1,u.congr λi li il=>e i li (by lia),Ch.congr h λi li il=>e i (by lia) il⟩
theorem Ch.cut{arr:Array AC}:∀{l m:List (Nat×Nat×Nat)}{lo hi:Nat},Ch rk arr (l++m) lo hi↔∃mid,Ch rk arr l lo mid/\Ch rk arr m mid hi
 | [],m,lo,hi=>⟨λh=>⟨lo,rfl,h⟩,λ⟨mid,e,h⟩=>by have e':lo=mid:=e;rw[e'];exact h⟩
 | (s,n,x)::l,m,lo,hi=>⟨λ⟨e1,h1,u,h⟩=>by
   obtain ⟨mid,a,b⟩:=Ch.cut.mp h;exact ⟨mid,⟨e1,h1,u,a⟩,b⟩,λ⟨mid,⟨e1,h1,u,a⟩,b⟩=>⟨e1,h1,u,Ch.cut.mpr ⟨mid,a,b⟩⟩⟩
variable{rk:AC->Int}{prog:AL}{w:AQ}{A:BS}{E:Ap->AA->Prop}{s:AA}{G:AC->Prop}{κ:EK}{a₀:Array AC}
def Fj:Nat->StateT A9 Sem Bool:=sortPriv% PySem.Builtin.mergeAt
abbrev DR(st:A9)(p:Array (Nat×Nat×Nat)):A9:=HU (kindOf st) (AM st) p (OT st) (ET st)
theorem RB(i:Nat):Fj i=(do
 let s <- get
 let (some (sa,na,power),some (sb,nb,_)):=((Bn s)[i]?,(Bn s)[i+1]?) | unsupported "internal:list.sort.pending"
 set (DR s (((Bn s).setIfInBounds i (sa,na+nb,power)).eraseIdxIfInBounds (i+1)))
 let some k <- CT false (<- C8 (AM s) sb) (AM s) sa na 0 | return false
 let (sa,na):=(sa+k,na-k)
 if na==0 then return true
 let some nb <- CT true (<- C8 (AM s) (sa+na-1)) (AM s) sb nb (nb-1) | return false
 if nb==0 then return true
 let x:=(AM s).extract sa sb
 let y:=(AM s).extract sb (sb+nb)
 let merged <- if na<=nb then Hg x y else Gs x y
 modify λs=>P4 s (lay (AM s) sa merged)
 return (ET (<- get)).isNone):=rfl
theorem AAR{σ:Type}{M:TN}{x:σ}{Q:PUnit->σ->Prop}{st:σ}(h:Q ⟨⟩ x):wpS M A E s (set x:StateT σ Sem PUnit) Q st:=by
 unfold wpS;rw[StateT.run_set];exact wpAny_pure ⟨rfl,h⟩
theorem Qy(C:Cmp prog w A E s κ G rk){st:A9}(B:Ba G rk κ a₀ st){i sa na pa sb nb pb:Nat}(hp1:(Bn st)[i]?=some (sa,na,pa))(hp2:(Bn st)[i+1]?=some (sb,nb,pb))(esb:sb=sa+na)(n1:1<=na)(n2:1<=nb)(hz:sb+nb<=a₀.size)(ua:Up rk (AM st) sa (sa+na))(ub:Up rk (AM st) sb (sb+nb)){Q:Bool->A9->Prop}
  (h:∀st',Ba G rk κ a₀ st'->Bn st'=((Bn st).setIfInBounds i (sa,na+nb,pa)).eraseIdxIfInBounds (i+1)->(∀q,q<sa\/sb+nb<=q->(AM st')[q]?=(AM st)[q]?)->Up rk (AM st') sa (sb+nb)->Q true st'):wpS (AO prog w) A E s (Fj i) Q st:=by
 have sz:=B.size;have al:=B.all.perm B.perm;rw[RB];refine AN (IN ?_);rw[hp1,hp2];dsimp only;refine AN (AAR ?_);have B1:Ba G rk κ a₀ (DR st (((Bn st).setIfInBounds i (sa,na+nb,pa)).eraseIdxIfInBounds (i+1))):=⟨B.perm,B.kind,B.failed,B.all,B.di⟩;have hb:sb<(AM st).size:=by lia
 refine AN (BZ hb ?_);refine AN (Ck C (al.at hb) al B1.kind (by lia) (by lia) (Eh ua) λk kn kt kf=>?_);dsimp only;have t1:∀q,sa<=q->q<sa+k->N rk (AM st) q<=N rk (AM st) sb:=λq q1 q2=>by
  have z:=kt (q-sa) (by lia);rw[Df (by lia)] at z;have e:sa+(q-sa)=q:=by lia
  simp only[e] at z;rw[Er (show q<(AM st).size by lia),Er hb];refine HR.mp λy=>?_;rw[decide_eq_true y] at z;cases z
 have t2:∀q,sa+k<=q->q<sa+na->N rk (AM st) sb<N rk (AM st) q:=λq q1 q2=>by
  have z:=kf (q-sa) (by lia) (by lia);rw[Df (by lia)] at z;have e:sa+(q-sa)=q:=by lia
  simp only[e] at z;rw[Er (show q<(AM st).size by lia),Er hb];cases c:decide (rk (AM st)[sb]<rk ((AM st)[q]'(by lia))) with
  | true=>exact of_decide_eq_true c
  | false=>rw[c] at z;cases z
 by_cases c1:na-k=0
 ·rw[if_pos (by rw[c1];rfl)]
  refine AS (h _ B1 rfl (λ_ _=>rfl) λp q sp pq qh=>?_);by_cases d:q<sa+na
  ·exact ua p q sp pq d
  ·by_cases d':p<sa+na
   ·exact D0 (t1 p sp (by lia)) (ub sb q (AF _) (by lia) qh)
   ·exact ub p q (by lia) pq qh
 rw[if_neg (by intro z;exact c1 (beq_iff_eq.mp z))];have hl:sa+k+(na-k)-1<(AM st).size:=by lia
 refine AN (BZ hl ?_);refine AN (Ck C (al.at hl) al B1.kind (by lia) (by lia) (Eh ub) λm mn mt mf=>?_);dsimp only;have el:sa+k+(na-k)-1=sb-1:=by lia
 have u1:∀q,sb<=q->q<sb+m->N rk (AM st) q<N rk (AM st) (sb-1):=λq q1 q2=>by
  have z:=mt (q-sb) (by lia);rw[El (by lia)] at z;have e:sb+(q-sb)=q:=by lia
  simp only[e,el] at z;rw[Er (show q<(AM st).size by lia),Er (show sb-1<(AM st).size by lia)];exact of_decide_eq_true z
 have u2:∀q,sb+m<=q->q<sb+nb->N rk (AM st) (sb-1)<=N rk (AM st) q:=λq q1 q2=>by
  have z:=mf (q-sb) (by lia) (by lia);rw[El (by lia)] at z;have e:sb+(q-sb)=q:=by lia
  simp only[e,el] at z;rw[Er (show q<(AM st).size by lia),Er (show sb-1<(AM st).size by lia)];exact HR.mp (of_decide_eq_false z)
 by_cases c2:m=0
 ·rw[if_pos (by rw[c2];rfl)]
  refine AS (h _ B1 rfl (λ_ _=>rfl) λp q sp pq qh=>?_);by_cases d:q<sa+na
  ·exact ua p q sp pq d
  ·by_cases d':p<sa+na
   ·exact D0 (ua p (sb-1) sp (by lia) (by lia)) (u2 q (by lia) qh)
   ·exact ub p q (by lia) pq qh
 rw[if_neg (by intro z;exact c2 (beq_iff_eq.mp z))];have exs:((AM st).extract (sa+k) sb).size=sb-(sa+k):=by simp;lia
 have eys:((AM st).extract sb (sb+m)).size=m:=by simp;lia
 have sx:Srt rk ((AM st).extract (sa+k) sb).toList:=srt_extract (λp q a b c=>ua p q (by lia) b (by lia)) (by lia);have sy:Srt rk ((AM st).extract sb (sb+m)).toList:=srt_extract (λp q a b c=>ub p q a b (by lia)) (by lia);have atx:∀j,∀hj:j<((AM st).extract (sa+k) sb).size,rk ((AM st).extract (sa+k) sb)[j]=N rk (AM st) (sa+k+j):=λj hj=>by
  rw[Zd hj,Er (by lia)]
 have aty:∀j,∀hj:j<((AM st).extract sb (sb+m)).size,rk ((AM st).extract sb (sb+m))[j]=N rk (AM st) (sb+j):=λj hj=>by
  rw[Zd hj,Er (by lia)]
 have first:∀j,∀hj:j<((AM st).extract (sa+k) sb).size,∀h0:0<((AM st).extract sb (sb+m)).size,rk (((AM st).extract sb (sb+m))[0]'h0)<=rk ((AM st).extract (sa+k) sb)[j]:=λj hj h0=>by
  rw[atx j hj,aty 0 h0,PY];exact Fs (t2 _ (by lia) (by lia))
 have lastx:∀j,∀hj:j<((AM st).extract sb (sb+m)).size,rk ((AM st).extract sb (sb+m))[j]<=N rk (AM st) (sb-1):=λj hj=>by
  rw[aty j hj];exact Fs (u1 _ (by lia) (by lia))
 have fin:∀(r:Array AC) (st2:A9),Gx (DR st (((Bn st).setIfInBounds i (sa,na+nb,pa)).eraseIdxIfInBounds (i+1))) st2->Mg rk ((AM st).extract (sa+k) sb).toList ((AM st).extract sb (sb+m)).toList r.toList ->
   wpS (AO prog w) A E s (do modify λs=>P4 s (lay (AM s) (sa+k) r);let g <- get;pure (ET g).isNone) Q st2:=λr st2 g ⟨pm,sr⟩=>by
  have rs:r.size=sb+m-(sa+k):=by
   have:=pm.length_eq;simp at this;lia
  have ea:AM st2=AM st:=g.arr;have hs:sa+k+r.size<=(AM st).size:=by lia
  refine AN (G1 ?_);refine AN (IN ?_);have ef:ET (P4 st2 (lay (AM st2) (sa+k) r))=none:=g.failed.trans B.failed;rw[ef];have lp:=ZG (arr:=AM st) (r:=r) (lo:=sa+k) (mid:=sb) (hi:=sb+m) (by lia) (by lia) (by lia) pm;have mem:∀j,∀hj:j<r.size,∃q,sa+k<=q/\q<sb+m/\rk r[j]=N rk (AM st) q:=λj hj=>by
   have:r[j]∈r.toList:=M4 hj;rcases CD.mp (pm.mem_iff.mp this) with z | z
   ·obtain ⟨q,hq,e⟩:=CA.mp z
    have hq':q<((AM st).extract (sa+k) sb).size:=by rw[<- AV];exact hq
    exact ⟨sa+k+q,by lia,by lia,by rw[<- e,<- atx q hq'];simp⟩
   ·obtain ⟨q,hq,e⟩:=CA.mp z
    have hq':q<((AM st).extract sb (sb+m)).size:=by rw[<- AV];exact hq
    exact ⟨sb+q,by lia,by lia,by rw[<- e,<- aty q hq'];simp⟩
  have laid:∀q,N rk (lay (AM st) (sa+k) r) q=if c:sa+k<=q/\q<sa+k+r.size then rk (r[q-(sa+k)]'(by lia)) else N rk (AM st) q:=λq=>by
   have e:=Nj (arr:=AM st) (r:=r) (sa:=sa+k) hs q;by_cases c:sa+k<=q/\q<sa+k+r.size
   ·rw[dif_pos c]
    rw[if_pos c] at e;unfold N;rw[e,A1 (by lia)]
   ·rw[dif_neg c]
    rw[if_neg c] at e;exact Dw e
  refine AS (h _ ⟨?_,g.kind.trans B.kind,ef,B.all,B.di⟩ g.pend (λq hq=>?_) ?_)
  ·show (lay (AM st2) (sa+k) r).Perm a₀
   rw[ea];exact lp.trans B.perm
  ·show (lay (AM st2) (sa+k) r)[q]?=_
   rw[ea,Nj hs,if_neg (by lia)]
  ·show Up rk (lay (AM st2) (sa+k) r) sa (sb+nb)
   rw[ea];intro p q sp pq qh;rw[laid p,laid q];by_cases cp:sa+k<=p/\p<sa+k+r.size
   ·rw[dif_pos cp]
    by_cases cq:sa+k<=q/\q<sa+k+r.size
    ·rw[dif_pos cq]
     exact EY sr (by lia) (by lia)
    ·rw[dif_neg cq]
     obtain ⟨v,v1,v2,ev⟩:=mem (p-(sa+k)) (by lia);rw[ev];by_cases d:v<sb
     ·exact D0 (ua v (sb-1) (by lia) (by lia) (by lia)) (u2 q (by lia) qh)
     ·exact ub v q (by lia) (by lia) qh
   ·rw[dif_neg cp]
    by_cases cq:sa+k<=q/\q<sa+k+r.size
    ·rw[dif_pos cq]
     obtain ⟨v,v1,v2,ev⟩:=mem (q-(sa+k)) (by lia);rw[ev];by_cases d:v<sb
     ·exact ua p v sp (by lia) (by lia)
     ·exact D0 (t1 p sp (by lia)) (ub sb v (AF _) (by lia) (by lia))
    ·rw[dif_neg cq]
     by_cases d:q<sa+k
     ·exact ua p q sp pq (by lia)
     ·by_cases d2:p<sa+k
      ·exact D0 (t1 p sp d2) (ub sb q (AF _) (by lia) qh)
      ·exact ub p q (by lia) pq qh
 by_cases c3:na-k<=m
 ·rw[if_pos c3]
  refine AN (RP C ⟨Eo al _ _,Eo al _ _,sx,sy,λy hy z hz=>?_⟩ B1.kind (by lia) (by lia) (λj hj=>first j hj (by lia)) λr st2 g mg=>fin r st2 g mg);obtain ⟨j,j1,hj,rfl⟩:=Cu hz;obtain ⟨q,hq,e⟩:=CA.mp hy;have hq':q<((AM st).extract sb (sb+m)).size:=by rw[<- AV];exact hq
  have e':y=((AM st).extract sb (sb+m))[q]:=by rw[<- e];simp
  rw[e',atx j hj,show sa+k+j=sb-1 by lia];exact lastx q hq'
 ·rw[if_neg c3]
  refine AN (Qq C ⟨Eo al _ _,Eo al _ _,sx,sy,λj hj h0=>first j hj h0⟩ B1.kind (by lia) (by lia) (λj hj=>?_) λr st2 g mg=>fin r st2 g mg);rw[atx _ (by lia),show sa+k+(((AM st).extract (sa+k) sb).size-1)=sb-1 by lia];exact lastx j hj
variable{rk:AC->Int}{prog:AL}{w:AQ}{A:BS}{E:Ap->AA->Prop}{s:AA}{G:AC->Prop}{κ:EK}{a₀:Array AC}
def Ng:Nat->Nat->Nat->Nat:=sortPriv% PySem.Builtin.minRun
def powerT:Nat->Nat->Nat->Nat->Nat:=sortPriv% PySem.Builtin.power
def Ms:StateT A9 Sem Unit:=sortPriv% PySem.Builtin.sortRuns
theorem Nm:Ms=(do
 let size:=(AM (<- get)).size
 let minrun:=Ng size size 0
 let mut lo:=0
 for _ in [0:size] do
  if lo >= size then break
  let some found <- Iw lo (size-lo) | return
  let mut n:=found
  if n<minrun then
   rule "list.sort.binary-insertion"
   let force:=min (size-lo) minrun
   if !(<- Jw lo force n) then return
   n:=force
  if let some (s1,n1,_):=(Bn (<- get)).back? then
   let pw:=powerT size (2*s1+n1) (2*s1+n1+n1+n) size
   for _ in [0:size] do
    let p:=Bn (<- get)
    let some (_,_,older):=(if p.size>1 then p[p.size-2]? else none) | break
    if older<=pw then break
    if !(<- Fj (p.size-2)) then return
   modify λs=>DR s ((Bn s).modify ((Bn s).size-1) λ(st,len,_)=>(st,len,pw))
  modify λs=>DR s ((Bn s).push (lo,n,0))
  lo:=lo+n
 for _ in [0:size] do
  let p:=Bn (<- get)
  if p.size<=1 then break
  let i:=p.size-2
  let before:=if i>0 then p[i-1]?.map (·.2.1) else none
  let i:=if before.any (· < (p[i+1]?.elim 0 (·.2.1))) then i-1 else i
  if !(<- Fj i) then return):=rfl
structure Rn(G:AC->Prop)(rk:AC->Int)(κ:EK)(a₀:Array AC)(lo:Nat)(st:A9):Prop where
 ba:Ba G rk κ a₀ st
 ch:Ch rk (AM st) (Bn st).toList 0 lo
theorem Jq{α:Type}:∀{l:List α}{i:Nat}{x y:α},l[i]?=some x->l[i+1]?=some y->l=l.take i++x::y::l.drop (i+2)
 | a::b::l,0,x,y,h1,h2=>by
  simp at h1 h2;subst h1 h2;rfl
 | a::l,i+1,x,y,h1,h2=>by
  have:=Jq (l:=l) (i:=i) (x:=x) (y:=y) (by simpa using h1) (by simpa using h2);rw[Lu,Re]
  congr 1
theorem Wq{p:Array (Nat×Nat×Nat)}{i:Nat}{x y v:Nat×Nat×Nat}(h1:p[i]?=some x)(h2:p[i+1]?=some y):((p.setIfInBounds i v).eraseIdxIfInBounds (i+1)).toList=p.toList.take i++v::p.toList.drop (i+2):=by
 have hi:i+1<p.size:=(C9.mp h2).1;have e:=Jq (l:=p.toList) (i:=i) (x:=x) (y:=y) (by rw[BU];exact h1) (by rw[BU];exact h2);have tl:(p.toList.take i).length=i:=by simp;lia
 have es:(p.setIfInBounds i v).toList=p.toList.take i++v::y::p.toList.drop (i+2):=by
  rw[Array.toList_setIfInBounds]
  conv=>lhs;rw[e]
  rw[List.set_append_right _ _ (by lia),tl,IM];rfl
 have hz:i+1<(p.setIfInBounds i v).size:=by rw[Hc];exact hi
 rw[Array.eraseIdxIfInBounds,dif_pos hz,Array.toList_eraseIdx,es,List.eraseIdx_append_of_length_le (by lia),tl]
 congr 1
 rw[show i+1-i=1 by lia];rfl
theorem PN(C:Cmp prog w A E s κ G rk){st:A9}{lo i:Nat}(R:Rn G rk κ a₀ lo st)(hl:lo<=a₀.size)(hi:i+1<(Bn st).size){Q:Bool->A9->Prop}
  (h:∀st',Rn G rk κ a₀ lo st'->(Bn st').size+1=(Bn st).size->(∀q,lo<=q->(AM st')[q]?=(AM st)[q]?)->Q true st'):wpS (AO prog w) A E s (Fj i) Q st:=by
 obtain ⟨sa,na,pa,e1⟩:∃sa na pa,(Bn st)[i]?=some (sa,na,pa):=⟨_,_,_,A1 (by lia)⟩;obtain ⟨sb,nb,pb,e2⟩:∃sb nb pb,(Bn st)[i+1]?=some (sb,nb,pb):=⟨_,_,_,A1 hi⟩;have e:=Jq (l:=(Bn st).toList) (i:=i) (by rw[BU];exact e1) (by rw[BU];exact e2);have ch:=R.ch;rw[e] at ch;obtain ⟨mid,c1,rfl,n1,ua,rfl,n2,ub,c2⟩:=Ch.cut.mp ch;have le:=c2.le;have le1:=c1.le;have z2:sa+na+nb<=lo:=by lia
 refine Qy C R.ba e1 e2 rfl n1 n2 (by lia) ua ub λst' B' pe low up=>?_;have pl:=Wq (v:=(sa,na+nb,pa)) e1 e2;refine h st' ⟨B',?_⟩ ?_ λq hq=>low q (.inr (by lia))
 ·rw[pe,pl]
  refine Ch.cut.mpr ⟨sa,c1.congr λq _ hq=>low q (.inl hq),rfl,by lia,?_,?_⟩
  ·rw[show sa+(na+nb)=sa+na+nb by lia]
   exact up
  ·rw[show sa+(na+nb)=sa+na+nb by lia]
   exact c2.congr λq hq _=>low q (.inr hq)
 ·have:=congrArg EQ pl
  rw[<- pe] at this;simp at this;lia
theorem Ch.mod{arr:Array AC}{f:Nat×Nat×Nat->Nat×Nat×Nat}(hf:∀x,(f x).1=x.1/\(f x).2.1=x.2.1):∀{l:List (Nat×Nat×Nat)}{lo hi:Nat} (i:Nat),Ch rk arr l lo hi->Ch rk arr (l.modify i f) lo hi
 | [],lo,hi,i,h=>by rw[List.modify_nil];exact h
 | (a,n,p)::l,lo,hi,0,⟨e1,h1,u,h⟩=>by
  rw[List.modify_zero_cons];have:=hf (a,n,p);generalize f (a,n,p)=y at this;obtain ⟨y1,y2,y3⟩:=y;obtain ⟨z1,z2⟩:=this;dsimp only at z1 z2;subst z1 z2;exact ⟨e1,h1,u,h⟩
 | (a,n,p)::l,lo,hi,i+1,⟨e1,h1,u,h⟩=>by
  rw[List.modify_succ_cons];exact ⟨e1,h1,u,Ch.mod hf i h⟩
theorem AAS{c:Prop}{i:Decidable c}{a b m:Nat}(h1:a<=m)(h2:b<=m):(@ite Nat c i a b)<=m:=by
 split
 ·exact h1
 ·exact h2
theorem Kr(C:Cmp prog w A E s κ G rk){st:A9}(B:Ba G rk κ a₀ st)(hp:Bn st=#[]){Q:Unit->A9->Prop}
  (h:∀st',Ba G rk κ a₀ st'->Up rk (AM st') 0 a₀.size->Q () st'):wpS (AO prog w) A E s Ms Q st:=by
 rw[Nm];refine AN (IN ?_);dsimp only;rw[B.size];refine AN (DL (Da (I:=λx c st'=>∃lo,c=(none,lo)/\x<=lo/\lo<=a₀.size/\Rn G rk κ a₀ lo st') (Q:=λc st'=>c=(none,a₀.size)/\Rn G rk κ a₀ a₀.size st') ?_ ?_ ⟨0,rfl,AF _,BH _,B,by rw[hp];rfl⟩) ?_)
 ·rintro x c st1 _ xn ⟨lo,rfl,xl,ll,R⟩
  dsimp only;by_cases c1:lo >= a₀.size
  ·rw[if_pos c1]
   have:lo=a₀.size:=by lia
   subst this;exact AS ⟨rfl,R⟩
  rw[if_neg c1];refine AN (Ky C R.ba (by lia) (by lia) λn st2 n1 nn nx up=>?_);dsimp only;have R2:Rn G rk κ a₀ lo st2:=⟨R.ba.nx nx,by rw[nx.pend];exact R.ch.congr λi _ hi=>nx.low i hi⟩;by_cases c2:n<Ng a₀.size a₀.size 0
  ·rw[if_pos c2]
   refine AN (LL (GV ⟨rfl,?_⟩));obtain ⟨f,ef⟩:∃f,f=min (a₀.size-lo) (Ng a₀.size a₀.size 0):=⟨_,rfl⟩;rw[<- ef];refine AN (Nq C R2.ba (n:=f) (by lia) (by lia) up λst3 nx3 up3=>?_);have R3:Rn G rk κ a₀ lo st3:=⟨R2.ba.nx nx3,by rw[nx3.pend];exact R2.ch.congr λi _ hi=>nx3.low i hi⟩;rw[if_neg (by decide)];refine AN (IN ?_);have put:∀{st4:A9},Rn G rk κ a₀ lo st4->(∀q,lo<=q->(AM st4)[q]?=(AM st3)[q]?)->Rn G rk κ a₀ (lo+f) (DR st4 ((Bn st4).push (lo,f,0))):=λ{st4} R4 e4=>⟨⟨R4.ba.perm,R4.ba.kind,R4.ba.failed,R4.ba.all,R4.ba.di⟩,by
    show Ch rk (AM st4) ((Bn st4).push (lo,f,0)).toList 0 (lo+f);rw[ID];exact Ch.cut.mpr ⟨lo,R4.ch,rfl,by lia,up3.congr λq hq _=>e4 q hq,rfl⟩⟩
   cases hb:(Bn st3).back? with
   | none =>
    dsimp only;exact AN (G1 (AS ⟨lo+f,rfl,by lia,by lia,put R3 λ_ _=>rfl⟩))
   | some v =>
    obtain ⟨s1,m1,q1⟩:=v;dsimp only;refine AN (DL (Da (I:=λ_ c st4=>c=(none,())/\Rn G rk κ a₀ lo st4/\∀q,lo<=q->(AM st4)[q]?=(AM st3)[q]?) (Q:=λc st4=>c=(none,())/\Rn G rk κ a₀ lo st4/\∀q,lo<=q->(AM st4)[q]?=(AM st3)[q]?) ?_ (λ_ _ h=>h) ⟨rfl,R3,λ_ _=>rfl⟩) ?_)
    ·rintro y c st4 _ _ ⟨rfl,R4,e4⟩
     refine AN (IN ?_);by_cases d1:(Bn st4).size>1
     ·rw[if_pos d1,A1 (show (Bn st4).size-2<(Bn st4).size by lia)]
      dsimp only;split
      ·exact AS ⟨rfl,R4,e4⟩
      ·refine AN (PN C R4 (by lia) (by lia) λst5 R5 _ e5=>?_)
       rw[if_neg (by decide)];exact AS ⟨rfl,R5,λq hq=>(e5 q hq).trans (e4 q hq)⟩
     ·rw[if_neg d1]
      exact AS ⟨rfl,R4,e4⟩
    ·rintro c st4 ⟨rfl,R4,e4⟩
     dsimp only;refine AN (G1 (AN (G1 (AS ⟨lo+f,rfl,by lia,by lia,?_⟩))));refine put (st4:=DR st4 ((Bn st4).modify ((Bn st4).size-1) _)) ⟨⟨R4.ba.perm,R4.ba.kind,R4.ba.failed,R4.ba.all,R4.ba.di⟩,?_⟩ e4;show Ch rk (AM st4) ((Bn st4).modify ((Bn st4).size-1) _).toList 0 lo;rw[O5];refine Ch.mod (f:=_) ?_ _ R4.ch;exact λ_=>⟨rfl,rfl⟩
  ·rw[if_neg c2]
   refine AN (IN ?_);have put:∀{st4:A9},Rn G rk κ a₀ lo st4->(∀q,lo<=q->(AM st4)[q]?=(AM st2)[q]?)->Rn G rk κ a₀ (lo+n) (DR st4 ((Bn st4).push (lo,n,0))):=λ{st4} R4 e4=>⟨⟨R4.ba.perm,R4.ba.kind,R4.ba.failed,R4.ba.all,R4.ba.di⟩,by
    show Ch rk (AM st4) ((Bn st4).push (lo,n,0)).toList 0 (lo+n);rw[ID];exact Ch.cut.mpr ⟨lo,R4.ch,rfl,by lia,up.congr λq hq _=>e4 q hq,rfl⟩⟩
   cases hb:(Bn st2).back? with
   | none =>
    dsimp only;exact AN (G1 (AS ⟨lo+n,rfl,by lia,by lia,put R2 λ_ _=>rfl⟩))
   | some v =>
    obtain ⟨s1,m1,q1⟩:=v;dsimp only;refine AN (DL (Da (I:=λ_ c st4=>c=(none,())/\Rn G rk κ a₀ lo st4/\∀q,lo<=q->(AM st4)[q]?=(AM st2)[q]?) (Q:=λc st4=>c=(none,())/\Rn G rk κ a₀ lo st4/\∀q,lo<=q->(AM st4)[q]?=(AM st2)[q]?) ?_ (λ_ _ h=>h) ⟨rfl,R2,λ_ _=>rfl⟩) ?_)
    ·rintro y c st4 _ _ ⟨rfl,R4,e4⟩
     refine AN (IN ?_);by_cases d1:(Bn st4).size>1
     ·rw[if_pos d1,A1 (show (Bn st4).size-2<(Bn st4).size by lia)]
      dsimp only;split
      ·exact AS ⟨rfl,R4,e4⟩
      ·refine AN (PN C R4 (by lia) (by lia) λst5 R5 _ e5=>?_)
       rw[if_neg (by decide)];exact AS ⟨rfl,R5,λq hq=>(e5 q hq).trans (e4 q hq)⟩
     ·rw[if_neg d1]
      exact AS ⟨rfl,R4,e4⟩
    ·rintro c st4 ⟨rfl,R4,e4⟩
     dsimp only;refine AN (G1 (AN (G1 (AS ⟨lo+n,rfl,by lia,by lia,?_⟩))));refine put (st4:=DR st4 ((Bn st4).modify ((Bn st4).size-1) _)) ⟨⟨R4.ba.perm,R4.ba.kind,R4.ba.failed,R4.ba.all,R4.ba.di⟩,?_⟩ e4;show Ch rk (AM st4) ((Bn st4).modify ((Bn st4).size-1) _).toList 0 lo;rw[O5];refine Ch.mod (f:=_) ?_ _ R4.ch;exact λ_=>⟨rfl,rfl⟩
 ·rintro c st' ⟨lo,rfl,xl,ll,R⟩
  have:lo=a₀.size:=by lia
  subst this;exact ⟨rfl,R⟩
 ·rintro c st' ⟨rfl,R⟩
  dsimp only;refine AN (DL (Da (I:=λx c st2=>c=(none,())/\Rn G rk κ a₀ a₀.size st2/\((Bn st2).size<=1\/(Bn st2).size+x<=a₀.size)) (Q:=λc st2=>c=(none,())/\Rn G rk κ a₀ a₀.size st2/\(Bn st2).size<=1) ?_ ?_ ⟨rfl,R,.inr ?_⟩) ?_)
  ·rintro x c st2 _ xn ⟨rfl,R2,sz⟩
   refine AN (IN ?_);by_cases d1:(Bn st2).size<=1
   ·rw[if_pos d1]
    exact AS ⟨rfl,R2,d1⟩
   ·rw[if_neg d1]
    refine AN (PN C R2 (AF _) ?_ λst3 R3 z3 _=>?_)
    ·exact Ev (Nat.add_le_add_right (AAS (m:=(Bn st2).size-2) (by lia) (by lia)) 1) (by lia)
    ·rw[if_neg (by decide)]
     exact AS ⟨rfl,R3,by lia⟩
  ·rintro c st2 ⟨rfl,R2,sz⟩
   exact ⟨rfl,R2,by lia⟩
  ·have:=R.ch.le
   simp at this;lia
  ·rintro c st2 ⟨rfl,R2,sz⟩
   refine AS (h st2 R2.ba ?_);have ch:=R2.ch;cases e:(Bn st2).toList with
   | nil =>
    rw[e] at ch;have z:0=a₀.size:=ch;intro i j _ _ hj;lia
   | cons v l =>
    rw[e] at ch;obtain ⟨v1,v2,v3⟩:=v;have ln:l=[]:=by
     have:=congrArg EQ e;simp at this;exact DC.mp (by lia)
    subst ln;obtain ⟨_,_,u,z⟩:=ch;have z':0+v2=a₀.size:=z;rw[<- z'];exact u
end TM
end
section
namespace SB
open PySem PySem.W PyProof.Rows
theorem SQ:∀{x y:List Int},HT.lexLt x y=true->HT.lexLt y x=false
 | [],[],h=>by cases h
 | [],_::_,_=>rfl
 | _::_,[],h=>by cases h
 | a::x,b::y,h=>by
  rw[HT.CN] at h ⊢;by_cases c:a=b
  ·rw[if_pos c] at h
   rw[if_pos c.symm];exact SQ h
  ·rw[if_neg c] at h
   rw[if_neg (C6 c)];have:=of_decide_eq_true h;exact decide_eq_false (by lia)
theorem Tn:∀{x y:List Int},x≠y->HT.lexLt x y=false->HT.lexLt y x=true
 | [],[],n,_=>absurd rfl n
 | [],_::_,_,h=>by cases h
 | _::_,[],_,_=>rfl
 | a::x,b::y,n,h=>by
  rw[HT.CN] at h ⊢;by_cases c:a=b
  ·rw[if_pos c] at h
   rw[if_pos c.symm];exact Tn (λe=>n (by rw[c,e])) h
  ·rw[if_neg c] at h
   rw[if_neg (C6 c)];have:=of_decide_eq_false h;exact decide_eq_true (by lia)
theorem Rf:∀{x y z:List Int},HT.lexLt x y=true->HT.lexLt y z=true->HT.lexLt x z=true
 | [],[],_,h,_=>by cases h
 | [],_::_,[],_,h=>by cases h
 | [],_::_,_::_,_,_=>rfl
 | _::_,[],_,h,_=>by cases h
 | _::_,_::_,[],_,h=>by cases h
 | a::x,b::y,c::z,h,k=>by
  rw[HT.CN] at h k ⊢;by_cases ab:a=b
  ·rw[if_pos ab] at h
   by_cases bc:b=c
   ·rw[if_pos bc] at k
    rw[if_pos (ab.trans bc)];exact Rf h k
   ·rw[if_neg bc] at k
    rw[if_neg (λe=>bc (by lia))];have:=of_decide_eq_true k;exact decide_eq_true (by lia)
  ·rw[if_neg ab] at h
   have h':=of_decide_eq_true h;by_cases bc:b=c
   ·rw[if_pos bc] at k
    rw[if_neg (by lia)];exact decide_eq_true (by lia)
   ·rw[if_neg bc] at k
    have k':=of_decide_eq_true k;rw[if_neg (by lia)];exact decide_eq_true (by lia)
section
variable{prog:AL}{w:AQ}{A:BS}{E:Ap->AA->Prop}{s:AA}
theorem ZP{b fin:Bool}{Q:Bool->AA->Prop}{x y:List Int}{vs us:List Ap}(hx:ItemsAre (KL prog w) x vs):∀{y:List Int}{us:List Ap} (i:Nat),ItemsAre (KL prog w) y us->fin=decide (x.length<y.length)->Q (HT.lexLt x y) s->KatLex prog w A b fin Q (vs.zip us) i s:=by
 induction hx with
 | nil =>
  intro y us i hy hf q;cases hy with
  | nil=>rw[hf];exact q
  | cons h1 t=>rw[hf];exact q
 | @cons k v ks vs' hk ht ih =>
  intro y us i hy hf q;cases hy with
  | nil=>rw[hf];exact q
  | @cons k' v' ks' us' hk' ht' =>
   rw[HT.CN] at q;refine kat_cons ((KL prog w).eqBool hk hk' ?_);by_cases c:k=k'
   ·rw[if_pos c] at q
    rw[decide_eq_true c];refine kat_yes (ih (i+1) ht' ?_ q);rw[hf];simp
   ·rw[if_neg c] at q
    rw[decide_eq_false c];refine kat_no ?_;obtain ⟨t1,rfl⟩:=Iy hk;obtain ⟨t2,rfl⟩:=Iy hk';cases (b&&i==0) with
    | true =>
     rw[<- keyLt'_oneType];exact kat_lt_int q
    | false=>exact kat_one _ _ (lt_int q)
theorem ACY{b:Bool}{x y:List Int}{a c:Addr}{Q:Bool->AA->Prop}(hx:IK prog w s.heap x a)(hy:IK prog w s.heap y c)(q:Q (HT.lexLt x y) s):wpAny (AO prog w) A (keyLt' (S5 b) (.ref a) (.ref c)) Q E s:=by
 obtain ⟨ox,xs,n,gx,cx,dx,ix⟩:=hx;obtain ⟨oy,ys,k,gy,cy,dy,iy⟩:=hy;refine kat_lt gx dx gy dy (ZP (x:=x) (y:=y) (us:=ys.toList) ix 0 iy ?_ q);have l1:=ix.length;have l2:=iy.length;rw[l1,l2,AV,AV]
end
structure Row(prog:AL)(w:AQ)(h:Heap)(vs:List Ap)(ks:List (List Int×Addr)):Prop where
 vals:vs=ks.map λx=>AT x.2
 keys:∀x∈ks,IK prog w h x.1 x.2
 full:∀x∈ks,x.1≠[]
 nd:(ks.map (·.1)).Nodup
def ltK(ks:List (List Int×Addr))(i j:Nat):Bool:=HT.lexLt (ks.getD i ([],0)).1 (ks.getD j ([],0)).1
theorem Row.tot{prog:AL}{w:AQ}{h:Heap}{vs:List Ap}{ks:List (List Int×Addr)}(R:Row prog w h vs ks):Tot ks.length (ltK ks):=by
 have ne:∀i j,i<ks.length->j<ks.length->i≠j->(ks.getD i ([],0)).1≠(ks.getD j ([],0)).1:=λi j hi hj hij e=>by
  have r:=CF.mp R.nd;have g1:(ks.getD i ([],0)).1=(ks.map (·.1))[i]'(by simpa using hi):=by simp[AB,hi]
  have g2:(ks.getD j ([],0)).1=(ks.map (·.1))[j]'(by simpa using hj):=by simp[AB,hj]
  rw[g1,g2] at e;rcases Nat.lt_or_gt_of_ne hij with c | c
  ·exact r i j _ _ c e
  ·exact r j i _ _ c e.symm
 exact ⟨λi j hi hj hij e=>Tn (ne i j hi hj hij) e,λi j _ _ e=>SQ e,λi j k _ _ _ e1 e2=>Rf e1 e2⟩
section
variable{prog:AL}{w:AQ}{A:BS}{E:Ap->AA->Prop}{s:AA}{vs:List Ap}{ks:List (List Int×Addr)}
theorem Row.tups{h:Heap}(R:Row prog w h vs ks):∃fs,KatTups h vs fs/\fs.length=vs.length/\∀v∈fs,∃n t,v=KI n t:=by
 obtain ⟨e,hk,hf,hn⟩:=R;clear hn;subst e
 induction ks with
 | nil=>exact ⟨[],trivial,rfl,λv hv=>by cases hv⟩
 | cons x r ih =>
  obtain ⟨fs,t,l,q⟩:=ih (λy hy=>hk y (AG _ hy)) (λy hy=>hf y (AG _ hy));obtain ⟨o,xs,n,gx,cx,dx,ix⟩:=hk x AD;have hx:=hf x AD;obtain ⟨xk,xa⟩:=x;cases hxs:xs.toList with
  | nil =>
   rw[hxs] at ix;cases ix;exact absurd rfl hx
  | cons f rest =>
   have hf0:xs[0]?=some f:=by rw[<- BU,hxs];rfl
   have hi:=Nh ix f (by rw[hxs];exact AD);refine ⟨f::fs,KatTups.cons gx cx dx hf0 t,by simp[l],λv hv=>?_⟩;rcases Bz.mp hv with rfl | hv
   ·exact hi
   ·exact q v hv
theorem row_kept{h h':Heap}(R:Row prog w h vs ks)(e:∀x∈ks,∀o,h.get? x.2=some o->h'.get? x.2=some o):Row prog w h' vs ks:=⟨R.vals,λx hx=>GF (R.keys x hx) λo=>e x hx o,R.full,R.nd⟩
theorem perm_back{α β:Type}{f:α->β}{l m:List β}(p:l.Perm m):∀ks:List α,m=ks.map f->∃ks':List α,ks'.Perm ks/\l=ks'.map f:=by
 induction p with
 | nil =>
  intro ks e;cases ks with
  | nil=>exact ⟨[],.refl _,rfl⟩
  | cons _ _=>cases e
 | @cons x l1 l2 _ ih =>
  intro ks e;cases ks with
  | nil=>cases e
  | cons k r =>
   rw[BO] at e;obtain ⟨e1,e2⟩:=OY e;obtain ⟨r',p',e'⟩:=ih r e2;exact ⟨k::r',p'.cons k,by rw[BO,e1,e']⟩
 | swap x y l1 =>
  intro ks e
  match ks,e with
  | [],e=>cases e
  | [_],e=>simp at e
  | a::b::r,e =>
   rw[BO,BO] at e;obtain ⟨e1,e2⟩:=OY e;obtain ⟨e3,e4⟩:=OY e2;exact ⟨b::a::r,OC ..,by rw[BO,BO,e1,e3,e4]⟩
 | trans _ _ ih1 ih2 =>
  intro ks e;obtain ⟨k2,p2,e2⟩:=ih2 ks e;obtain ⟨k1,p1,e1⟩:=ih1 k2 e2;exact ⟨k1,p1.trans p2,e1⟩
theorem Ma{ks:List Int}{us:List Ap}(h:ItemsAre (KL prog w) ks us):ks=us.map numOf:=by
 induction h with
 | nil=>rfl
 | cons h1 _ ih =>
  obtain ⟨t,e⟩:=Iy h1;rw[BO,<- ih,e];rfl
theorem ADN{h:Heap}{k k':List Int}{a:Addr}(x:IK prog w h k a)(y:IK prog w h k' a):k=k':=by
 obtain ⟨o,items,n,ho,_,hd,hi⟩:=x;obtain ⟨o',items',n',ho',_,hd',hi'⟩:=y;rw[ho] at ho';cases ho';rw[hd] at hd';cases hd';rw[Ma hi,Ma hi']
set_option tactic.hygienic true in
theorem JF{α:Type}{p q:α->Bool}:∀{l:List α}{x:α},(∀y∈l,p y=true->q y=true)->x∈l->p x=false->q x=true->(l.filter p).length<(l.filter q).length
 | [],x,_,h,_,_=>by cases h
 | a::l,x,hs,hx,px,qx=>by
  have le:∀{m:List α},(∀y∈m,p y=true->q y=true)->(m.filter p).length<=(m.filter q).length:=λ{m}=>by
   induction m with
   | nil=>exact λ_=>AF _
   | cons b m ih =>
    intro hm;have:=ih λy hy=>hm y (AG _ hy);rw[B0,B0];have hb:=hm b (AD ..);split
    ·rename_i pb
     rw[if_pos (hb pb)];simp;exact this
    ·split
     ·simp;lia
     ·exact this
  have hl:=le λy hy=>hs y (AG _ hy);rw[B0,B0];rcases Bz.mp hx with rfl | hx
  ·rw[if_neg (by rw[px];decide),if_pos qx]
   simp;lia
  ·have ih:=JF (λy hy=>hs y (AG _ hy)) hx px qx
   have ha:=hs a (AD ..);split
   ·rename_i pa
    rw[if_pos (ha pa)];simp;exact ih
   ·split
    ·simp;lia
    ·exact ih
def cntK(ks:List (List Int×Addr))(k:List Int):Int:=((ks.filter λy=>HT.lexLt y.1 k).length:Int)
open Classical in
noncomputable def rkK(ks:List (List Int×Addr))(x:AC):Int:=if h:∃i,i<ks.length/\x.1=AT (ks.getD i ([],0)).2 then cntK ks (ks.getD (EC h) ([],0)).1 else 0
def itK(ks:List (List Int×Addr))(i:Nat):AC:=(AT (ks.getD i ([],0)).2,AT (ks.getD i ([],0)).2)
theorem Row.key{h:Heap}(R:Row prog w h vs ks){i:Nat}(hi:i<ks.length):IK prog w h (ks.getD i ([],0)).1 (ks.getD i ([],0)).2:=by
 have e:ks.getD i ([],0)=ks[i]:=by simp[AB,hi]
 rw[e];exact R.keys _ (FR hi)
theorem Row.rk{h:Heap}(R:Row prog w h vs ks){i:Nat}(hi:i<ks.length):rkK ks (itK ks i)=cntK ks (ks.getD i ([],0)).1:=by
 have ex:∃j,j<ks.length/\(itK ks i).1=AT (ks.getD j ([],0)).2:=⟨i,hi,rfl⟩;unfold rkK;rw[dif_pos ex];obtain ⟨hj,ej⟩:=EW ex;have ea:(ks.getD i ([],0)).2=(ks.getD (EC ex) ([],0)).2:=by
  have:AT (ks.getD i ([],0)).2=AT (ks.getD (EC ex) ([],0)).2:=ej;injection this
 have k1:=R.key hi;have k2:=R.key hj;rw[<- ea] at k2;rw[ADN k1 k2]
theorem Qt{a b:List Int}(ha:a∈ks.map (·.1))(h:HT.lexLt a b=true):cntK ks a<cntK ks b:=by
 obtain ⟨x,hx,rfl⟩:=BQ.mp ha;unfold cntK;have:=JF (p:=λy:List Int×Addr=>HT.lexLt y.1 x.1) (q:=λy=>HT.lexLt y.1 b) (l:=ks) (x:=x) (λy _ e=>Rf e h) hx (by
  cases c:HT.lexLt x.1 x.1 with
  | false=>rfl
  | true=>have:=SQ c;rw[c] at this;cases this) h
 lia
theorem Row.rk_lt{h:Heap}(R:Row prog w h vs ks){i j:Nat}(hi:i<ks.length)(hj:j<ks.length):decide (rkK ks (itK ks i)<rkK ks (itK ks j))=ltK ks i j:=by
 rw[R.rk hi,R.rk hj];have mk:∀{i:Nat},i<ks.length->(ks.getD i ([],0)).1∈ks.map (·.1):=λ{i} hi=>EN (by
  have e:ks.getD i ([],0)=ks[i]:=by simp[AB,hi]
  rw[e];exact FR hi)
 unfold ltK;cases c:HT.lexLt (ks.getD i ([],0)).1 (ks.getD j ([],0)).1 with
 | true=>exact decide_eq_true (Qt (mk hi) c)
 | false =>
  refine decide_eq_false ?_;by_cases e:(ks.getD i ([],0)).1=(ks.getD j ([],0)).1
  ·rw[e];exact OZ _
  ·have:=Qt (ks:=ks) (mk hj) (Tn e c)
   lia
theorem Yd{b:Bool}(R:Row prog w s.heap vs ks) :
  wpAny (AO prog w) A (sortRuns'.run (HU (S5 b) (vs.toArray.zip vs.toArray) #[] 7 none)) (λr s'=>s'=s/\∃p:Array Nat,PP ks.length p/\Up (ltK ks) p ks.length/\AM r.2=p.map (U6 (vs.toArray.zip vs.toArray))/\ET r.2=none) E s:=by
 have lk:ks.length=vs.length:=by rw[R.vals,AE]
 have T:=R.tot;have gi:∀i,i<ks.length->U6 (vs.toArray.zip vs.toArray) i=itK ks i:=λi hi=>by
  rw[kat_item rfl];unfold itK;rw[R.vals];simp[AB,hi]
 have e0:(vs.toArray.zip vs.toArray).toList=(AX ks.length).map (itK ks):=by
  have:=congrArg Pd (kas_range (vs.toArray.zip vs.toArray));rw[<- this,M5,show (vs.toArray.zip vs.toArray).size=ks.length by rw[lk];simp];exact EO λi hi=>gi i (A2.mp hi)
 have C:TM.Cmp prog w A E s (S5 b) (λx=>∃i,i<ks.length/\x=itK ks i) (rkK ks):=λx y ⟨i,hi,ex⟩ ⟨j,hj,ey⟩ st Q kd q=>by
  subst ex ey;rw[lt'_eq];refine AN (IN ?_);rw[kd];refine AN (LL (L7 (ACY (R.key hi) (R.key hj) ⟨rfl,?_⟩)));rw[R.rk_lt hi hj] at q;exact AS q
 have al:TM.Al (λx=>∃i,i<ks.length/\x=itK ks i) (vs.toArray.zip vs.toArray):=λi x e=>by
  rw[<- BU,e0,BI] at e;cases g:(AX ks.length)[i]? with
  | none=>rw[g] at e;cases e
  | some k =>
   rw[g] at e;have hk:=A2.mp (A8 g);exact ⟨k,hk,(BY e).symm⟩
 have di:TM.Di (rkK ks) (vs.toArray.zip vs.toArray):=by
  unfold TM.Di;rw[e0,Fn];unfold J5;rw[CY];refine DV (λ{i j} hi hj ij e=>?_) FS;have hi':=A2.mp hi;have hj':=A2.mp hj;have e':rkK ks (itK ks i)=rkK ks (itK ks j):=e;have z1:=R.rk_lt hi' hj';have z2:=R.rk_lt hj' hi';rw[e',decide_eq_false (OZ _)] at z1;rw[e',decide_eq_false (OZ _)] at z2;have:=T.or i j hi' hj' ij z1.symm;rw[<- z2] at this;cases this
 have W:=TM.Kr C (st:=HU (S5 b) (vs.toArray.zip vs.toArray) #[] 7 none) (a₀:=vs.toArray.zip vs.toArray) ⟨SD _,rfl,rfl,al,di⟩ rfl
  (Q:=λ_ st'=>∃p:Array Nat,PP ks.length p/\Up (ltK ks) p ks.length/\AM st'=p.map (U6 (vs.toArray.zip vs.toArray))/\ET st'=none) λst' B up=>by
  have pm:=F8.mp B.perm;rw[e0] at pm;obtain ⟨l,pl,el⟩:=perm_back pm (AX ks.length) rfl;have ll:l.length=ks.length:=by rw[pl.length_eq,CI]
  have lt:∀{k:Nat},k<ks.length->g l.toArray k<ks.length/\l[k]?=some (g l.toArray k):=λ{k} hk=>by
   have hk':k<l.length:=by lia
   have e:g l.toArray k=l[k]:=by unfold g;simp[DH,hk']
   rw[e];exact ⟨A2.mp (pl.mem_iff.mp (FR hk')),AI hk'⟩
  have nd:l.Nodup:=pl.nodup_iff.mpr FS;have at_:∀{k:Nat},k<ks.length->TM.N (rkK ks) (AM st') k=rkK ks (itK ks (g l.toArray k)):=λ{k} hk=>by
   unfold TM.N;rw[<- BU,el,BI,(lt hk).2];rfl
  have sz:(vs.toArray.zip vs.toArray).size=ks.length:=by rw[lk];simp
  refine ⟨l.toArray,⟨by simpa using ll,λk hk=>(lt hk).1,λk k' hk hk' e=>?_⟩,λx y xy hy=>?_,?_,B.failed⟩
  ·have a1:=(lt hk).2
   have a2:=(lt hk').2;rw[<- e] at a2;exact (IC (by lia) nd).mp (a1.trans a2.symm)
  ·have hx:x<ks.length:=by lia
   have u:=up x y (BH _) (by lia) (by rw[sz];exact hy);rw[at_ hx,at_ hy] at u;cases c:ltK ks (g l.toArray x) (g l.toArray y) with
   | true=>rfl
   | false =>
    have ne:g l.toArray x≠g l.toArray y:=λe=>by
     have a1:=(lt hx).2;have a2:=(lt hy).2;rw[<- e] at a2;have:=(IC (by lia) nd).mp (a1.trans a2.symm);lia
    have z:=T.or _ _ (lt hx).1 (lt hy).1 ne c;rw[<- R.rk_lt (lt hy).1 (lt hx).1] at z;have:=of_decide_eq_true z;lia
  ·apply RC.mp
   rw[el,M5];refine EO λi hi=>(gi i ?_).symm;exact A2.mp (pl.mem_iff.mp (by simpa using hi))
 exact D5 W (λr s' h=>h) λ_ _ e=>e
theorem Vt{a:Addr}{n:Nat}{P:PySem.Fin->AA->Prop}(ho:s.heap.get? a=some (DM "list" vs.toArray n))(R:Row prog w s.heap vs ks)(hz:vs.length<=1000)
  (h:∀p:Array Nat,PP ks.length p->Up (ltK ks) p ks.length->P (.done (.ret .none)) {s with heap:=sortedHeap s.heap a vs (J1 (p.toList.map λi=>vs.getD i CL))}) :
  wpAny (AO prog w) A (Builtin.«list.sort» ⟨[.ref a],[]⟩) P E s:=by
 have la:a<s.heap.objs.size:=By ho;have lk:ks.length=vs.length:=by rw[R.vals,AE]
 rw[list_sort_plain];refine As (Pw ho rfl ?_);refine As (L6 ho rfl ?_);obtain ⟨e1,ho1⟩:∃e1,(s.heap.update a (DS λ_=>#[])).get? a=some (DM "list" #[] e1):=⟨_,get?_update_seq ho (λ_=>#[])⟩;refine As (Q1 ho1 rfl ?_);refine As (wpAny_newTuple ?_);refine As (L5 ?_);refine EE ?_;have hoa:(((s.heap.update a (DS λ_=>#[])).push (DM "tuple" vs.toArray 0)).push (DM "list" #[] 0)).get? a=some (DM "list" #[] e1):=AJ _ (AJ _ ho1);show wpAny (AO prog w) A _ P E {s with heap:=((s.heap.update a (DS λ_=>#[])).push (DM "tuple" vs.toArray 0)).push (DM "list" #[] 0)};dsimp only;have vz:vs.toArray.size=vs.length:=by simp
 by_cases h2:vs.toArray.size<2
 ·rw[if_pos h2,if_pos h2]
  refine As (wpAny_pure ?_);rw[StateT.run_pure];refine As (wpAny_pure ?_);dsimp only;have out:((vs.toArray.zip vs.toArray).map (·.2))=J1 ((J1 (AX ks.length)).toList.map λi=>vs.getD i CL):=by
   apply RC.mp;rw[M5,Array.toList_zip,List.map_snd_zip (by simp),lk];apply EI;intro i;by_cases c:i<vs.length
   ·simp[c]
   ·simp[c]
  refine As (Q1 hoa rfl ?_);refine As (L6 hoa rfl ?_ (hsz2:=by rw[Array.size_map,Array.size_zip,vz,EZ];lia));simp only[bne_self_eq_false,AR,if_false];refine wpAny_pure ?_;rw[show (AM (HU general' (vs.toArray.zip vs.toArray) #[] 7 none)).map (·.2)=_ from out];exact h _ (Ze _) λx y hxy hy=>absurd hxy (by lia)
 ·rw[if_neg h2,if_neg h2]
  have R1:Row prog w (((s.heap.update a (DS λ_=>#[])).push (DM "tuple" vs.toArray 0)).push (DM "list" #[] 0)) vs ks:=row_kept R λx hx o gx=>by
   have ne:x.2≠a:=λe=>by
    obtain ⟨o',_,_,go',co',_⟩:=R.keys x hx;rw[e,ho] at go';cases go';have z:D4 "list" = D4 "tuple":=co';exact absurd z (by decide)
   exact AJ _ (AJ _ ((ER _ _ (C6 ne)).trans gx))
  obtain ⟨fs,kt,lf,hfs⟩:=R1.tups;refine As (kat_kind (s:={s with heap:=((s.heap.update a (DS λ_=>#[])).push (DM "tuple" vs.toArray 0)).push (DM "list" #[] 0)}) (T:=.type "int") kt (by lia) (λv hv=>by obtain ⟨n,t,rfl⟩:=hfs v hv;exact Looks.of_pure rfl) (by decide) ?_);refine As (D5 (Yd (s:={s with heap:=((s.heap.update a (DS λ_=>#[])).push (DM "tuple" vs.toArray 0)).push (DM "list" #[] 0)}) R1) ?_ λ_ _ e=>e)
  ·rintro⟨⟨⟩,st'⟩ s' ⟨rfl,p,P1,P2,har,hf⟩
   dsimp only;have hout:=kat_snds (ks:=vs) (vs:=vs) rfl har;rw[hout];refine As (Q1 hoa rfl ?_);refine As (L6 hoa rfl ?_ (hsz2:=by rw[A7,AE,AV,P1.size,EZ];lia));rw[hf];simp only[bne_self_eq_false,AR,if_false];exact wpAny_pure (h p P1 P2)
end
theorem Nv{n:Nat}{p:Array Nat}(P:PP n p):p.toList.Perm (AX n):=by
 refine SB.FQ ?_ (λx hx=>?_) (by rw[CI,AV,P.size];exact AF _)
 ·refine CF.mpr λi j hi hj hij e=>?_
  have hi':i<n:=by rw[<- P.size];simpa using hi
  have hj':j<n:=by rw[<- P.size];simpa using hj
  have hi2:i<p.size:=by simpa using hi
  have hj2:j<p.size:=by simpa using hj
  have:=P.inj i j hi' hj' (by simpa [g,DH,hi2,hj2] using e);lia
 ·obtain ⟨i,hi,rfl⟩:=CA.mp hx
  have hi2:i<p.size:=by simpa using hi
  have:=P.lt i (by rw[<- P.size];exact hi2);refine A2.mpr ?_;simpa [g,DH,hi2] using this
section
variable{prog:AL}{w:AQ}{A:BS}{E:Ap->AA->Prop}{s:AA}{S:Addr}{es:Array (Int×Ap)}{t:CS}{ks:List (List Int×Addr)}
theorem RG{Q:List Ap->AA->Prop}{o:Obj}{ep:Nat}(hh:A.handled=none)(ho:s.heap.get? S=some o)(hex:o.ExactSet)(hd:o.data=.set es ep t)(T:Tab t)(hl:es.size=t.place.size)(hp:t.plain=true)(hled:t.led=ledOf w)(h61:es.size<=301)
  (q:∀(h':Heap) (tk:Nat) (acc:Array Ap),(∀b ob,s.heap.get? b=some ob->h'.get? b=some ob)->s.heap.objs.size<=h'.objs.size->acc.toList.map (λv=>v)=(ord w S ep es).toList.map (·.2)->Q acc.toList {s with heap:=h',toks:=tk}) :
  wpAny (AO prog w) A (SR (.ref S)) Q E s:=by
 unfold SR;refine As (N8 (Ff PySem.F.entry_proto_collect ?_));rw[G0 PySem.F.plain_proto_collect _];show wpAny _ A.in1 (SO [] >>= λl=>again (.builtin "list.__iadd__" ⟨[l,.ref S],[]⟩)) _ _ s;refine As (DB ?_);refine wpAny_pure ⟨Mb Nc _,Ff PySem.F.entry_list_iadd ?_⟩;rw[G0 Nc _];have gD:(s.heap.push {cls:=.type "list",data:=.seq ([]:List Ap).toArray}).get? s.heap.objs.size=some {cls:=.type "list",data:=.seq #[] 0}:=AW _ rfl;show wpAny _ A.in1 (EL (.ref s.heap.objs.size) (.ref S) (.ref s.heap.objs.size)) _ _ _;have fin':∀(h':Heap) (tk:Nat) (acc':Array Ap) (c':Nat),(∀b ob,b≠s.heap.objs.size->(s.heap.push {cls:=.type "list",data:=.seq ([]:List Ap).toArray}).get? b=some ob->h'.get? b=some ob)->h'.get? s.heap.objs.size=some {cls:=.type "list",dict:=none,data:=.seq acc' c',slots:=#[]} ->
   ItemsOf (λi v=>∃e,(ord w S ep es)[i]?=some e/\v=e.2) acc' es.size->wpAny (AO prog w) A (match AT s.heap.objs.size with
   | AT a=>do
    match (<- load a).data with
     | Data.seq xs _=>pure xs.toList
     | _=>unsupported "internal:collect"
   | _=>unsupported "internal:collect") Q E {s with heap:=h',toks:=tk}:=λh' tk acc' c' hk hS' hacc=>by
  show wpAny _ A (load s.heap.objs.size >>= _) _ _ _;refine As (RU hS' ?_);refine wpAny_pure ?_;refine q h' tk acc' (λb ob e=>hk b ob (B2 (By e)) (AJ _ e)) (De (By hS')) ?_;rw[U7];apply EI;intro i;rw[BI,BU,BU];by_cases c:i<es.size
  ·have c1:i<acc'.size:=by rw[hacc.1];exact c
   obtain ⟨e,ge,ev⟩:=hacc.2 i _ (A1 c1);rw[A1 c1,ge,ev];rfl
  ·rw[HZ (by rw[hacc.1];lia),HZ (by rw[Jo];lia)]
   rfl
 refine D5 (Tt (A:=A) (R:=λr s'=>∃h' tk acc' c',r=.ok (.ret (.ref s.heap.objs.size))/\s'={s with heap:=h',toks:=tk}/\(∀b ob,b≠s.heap.objs.size->(s.heap.push {cls:=.type "list",data:=.seq ([]:List Ap).toArray}).get? b=some ob->h'.get? b=some ob)/\h'.get? s.heap.objs.size=some {cls:=.type "list",dict:=none,data:=.seq acc' c',slots:=#[]}/\ItemsOf (λi v=>∃e,(ord w S ep es)[i]?=some e/\v=e.2) acc' es.size)
  (s:={s with heap:=s.heap.push {cls:=.type "list",data:=.seq ([]:List Ap).toArray}}) hh (AJ _ ho) hex hd T hl hp hled h61 s.heap.objs.size (.ref s.heap.objs.size) 0 gD λh' tk acc' c' hk hS' hacc=>⟨h',tk,acc',c',rfl,rfl,hk,hS',hacc⟩) (λfin s' h=>?_) (λe s' h=>?_)
 ·cases fin with
  | done f =>
   obtain ⟨h',tk,acc',c',e,rfl,hk,hS',hacc⟩:=h;cases e;exact fin' h' tk acc' c' hk hS' hacc
  | again c'=>exact ⟨h.1,E9 h.2 λr s'' hr=>by obtain ⟨h',tk,acc',c',rfl,rfl,hk,hS',hacc⟩:=hr;exact fin' h' tk acc' c' hk hS' hacc⟩
 ·obtain ⟨_,_,_,_,e,_⟩:=h
  cases e
theorem sorted_set(hh:A.handled=none)(X:TS prog w s.heap S es t ks)(hK:∀x∈ks,IK prog w s.heap x.1 x.2)(hf:∀x∈ks,x.1≠[])(h61:ks.length<=301){Q:Ap->AA->Prop}
  (q:∀(h':Heap) (tk:Nat) (D:Addr) (ko:List (List Int×Addr)) (e:Nat),(∀b ob,s.heap.get? b=some ob->h'.get? b=some ob)->s.heap.objs.size<=D->h'.get? D=some (DM "list" (ko.map λx=>AT x.2).toArray e)->ko.Perm ks->(ko.map (·.1)).Pairwise (λa b=>HT.lexLt a b=true)->Q (.ref D) {s with heap:=h',toks:=tk}) :
  wpAny (AO prog w) A (call (.builtin "sorted") [.ref S]) Q E s:=by
 obtain ⟨o,ep,ho,hex,hd⟩:=X.obj;have lks:ks.length=es.size:=by
  have:=congrArg EQ X.els;rw[AE,AV] at this;exact this.symm
 refine JE kind_sorted plain_sorted entry_sorted (args_sorted1 _) ?_;unfold Q9;refine As (m:=checkCount "sorted" 1 1 _) (wpAny_pure ?_);refine As (RG (A:=A.in1) (by simp[hh]) ho hex hd X.tab X.len X.pl X.ld (by lia) λh1 tk1 acc kp hsz hacc=>?_);have op:=Qj w S ep es;rw[X.els] at op;obtain ⟨k1,p1,e1⟩:=perm_back op ks rfl;rw[e1,U7,Fn] at hacc;have hvs:acc.toList=k1.map λx=>AT x.2:=hacc;generalize hv:acc.toList=vs at hvs;have lvs:vs.length=ks.length:=by rw[hvs,AE,p1.length_eq]
 refine As (L5 ?_ (by rw[EZ];lia));have hoL:(h1.push (DM "list" vs.toArray 0)).get? h1.objs.size=some (DM "list" vs.toArray 0):=AW _ rfl;have kp2:∀b ob,s.heap.get? b=some ob->(h1.push (DM "list" vs.toArray 0)).get? b=some ob:=λb ob e=>AJ _ (kp b ob e);have R:Row prog w (h1.push (DM "list" vs.toArray 0)) vs k1:=⟨hvs,λx hx=>GF (hK x (p1.mem_iff.mp hx)) λob e=>kp2 _ ob e,λx hx=>hf x (p1.mem_iff.mp hx),(Lm (p1.map (·.1))).mpr X.nd⟩;refine As (EE (Do SS ⟨_,hoL,rfl⟩ Se (Vt (s:={s with heap:=h1.push (DM "list" vs.toArray 0),toks:=tk1}) hoL R (by lia) λp P1 P2=>⟨_,rfl,?_⟩) (SU _)));refine wpAny_pure ⟨_,rfl,?_⟩;obtain ⟨e,he⟩:=sortedHeap_at (out:=J1 (p.toList.map λi=>vs.getD i CL)) hoL;have lk1:k1.length=ks.length:=p1.length_eq;have eo:(p.toList.map λi=>vs.getD i CL)=(p.toList.map λi=>k1.getD i ([],0)).map λx=>AT x.2:=by
  rw[Fn];refine EO λi hi=>?_;have hi':i<k1.length:=A2.mp ((Nv P1).mem_iff.mp hi);rw[hvs];simp[AB,hi']
 rw[eo] at he ⊢;have pk:(p.toList.map λi=>k1.getD i ([],0)).Perm k1:=by
  have z:=SB.Iu (l:=k1) (Nv P1);rw[SB.Hq ([],0) λi hi=>A2.mp ((Nv P1).mem_iff.mp hi)] at z;exact z
 refine q _ tk1 h1.objs.size _ e (λb ob eb=>?_) hsz he (pk.trans p1) ?_
 ·have hb:=By (kp b ob eb)
  rw[sortedHeap_old (B2 hb) (by rw[EU];exact Kn hb)];exact kp2 b ob eb
 ·rw[Fn]
  refine CF.mpr λi j hi hj hij=>?_;have hi':i<p.size:=by simpa using hi
  have hj':j<p.size:=by simpa using hj
  have z:=P2 i j hij (by rw[<- P1.size];exact hj');unfold ltK g at z;simpa [DH,hi',hj'] using z
end
end SB
end
section
namespace SB
open PySem PySem.SetTable
section
variable{prog:AL}{w:AQ}{A:BS}{s:AA}
set_option tactic.hygienic true in
theorem Vk{R:R0->AA->Prop}{I:Addr}{fp wr:List Addr}{G:Array Q2->Array Q2->Prop}{n:Nat}{P:Nat->Ap->Prop}{St:Nat->AA->Prop}
  (W:WalksS prog w A.in1 I fp wr G n P St) (S:Addr) (hSf:S∉fp) (vals:Nat->List Int×Addr) (hP:∀i v,P i v->v=.ref (vals i).2) (hn:∀ks:List (List Int×Addr),(∀x∈ks,∃j,j<n/\x=vals j)->(ks.map (·.1)).Nodup->ks.length<=300) (hoff:∀i,i<n->(vals i).2∉S::wr) (hu:A.in1.units<C2)
  (hR:∀s' es' t' ks',TS prog w s'.heap S es' t' ks'->Of vals n ks'->Moved (S::wr) G s s'->R (.ok (.ret .none)) s') :
  ∀(k i:Nat) (s₁:AA) (es:Array (Int×Ap)) (t:CS) (ks:List (List Int×Addr)),n-i=k->i<=n->St i s₁->TS prog w s₁.heap S es t ks->(∀j,j<n->IK prog w s₁.heap (vals j).1 (vals j).2)->Of vals i ks->Moved (S::wr) G s s₁ ->
   codeAny (AO prog w) A (.builtin "set.update.loop" ⟨[.ref S,.ref I],[]⟩) R s₁:=by
 have nSw:S∉wr:=λh=>hSf (W.sub _ h);have inS:∀b∈wr,b∈S::wr:=λb hb=>AG _ hb;intro k
 induction k with
 | zero =>
  intro i s₁ es t ks hk hi hst X hK O mv;obtain rfl:i=n:=by lia
  refine Ff J2 ?_;rw[G0 F3 _];show wpAny _ A.in1 (Kt (.ref I) >>= _) _ _ s₁;refine As (W.done s₁ _ _ hst λs₂ m2=>?_);show wpAny _ A.in1 (ret CL) _ _ s₂;exact wpAny_pure (hR s₂ es t ks (VH X λo e=>m2.heap S o nSw e) O (VU W.gtrans mv (m2.mono inS)))
 | succ k ih =>
  intro i s₁ es t ks hk hi hst X hK O mv;have lt:i<n:=by lia
  refine Ff J2 ?_;rw[G0 F3 _];show wpAny _ A.in1 (Kt (.ref I) >>= _) _ _ s₁;refine As (W.item i s₁ _ _ lt hst λv s₂ pv st2 m2=>?_);obtain rfl:=hP i v pv;have X2:TS prog w s₂.heap S es t ks:=VH X λo e=>m2.heap S o nSw e;have hK2:∀j,j<n->IK prog w s₂.heap (vals j).1 (vals j).2:=λj hj=>GF (hK j hj) λo e=>m2.heap _ o (λz=>hoff j hj (inS _ z)) e;show wpAny _ A.in1 (P7 [AT (vals i).2] (setAdd S (.ref (vals i).2)) >>= _) _ _ s₂;refine As (EE (ABj X2 (λx hx=>?_) (hK2 i lt) hu (hn ks (λx hx=>let ⟨j,hj,e⟩:=O.sub x hx;⟨j,by lia,e⟩) X2.nd) λb h' es' t' ks' sb X' ad=>?_))
  ·obtain ⟨j,hj,rfl⟩:=O.sub x hx
   exact hK2 j (by lia)
  ·refine wpAny_pure ⟨Mb F3 _,ih (i+1) _ es' t' ks' (by lia) lt (W.frame _ s₂ _ _ st2 (RE _ _) λb hb o e=>?_) X' (λj hj=>GF (hK2 j hj) λo e=>?_) (O.next ad) ?_⟩
   ·rw[sb.2 b (λ(z:b=S)=>hSf (by rw[<- z];exact hb))]
    exact e
   ·rw[sb.2 _ (λ(z:(vals j).2=S)=>hoff j hj (by rw[z];exact AD))]
    exact e
   ·refine VU W.gtrans mv ((m2.mono inS).then_heap (RE _ _) λb o hb e=>?_)
    rw[sb.2 b (λ(z:b=S)=>hb (by rw[z];exact AD))];exact e
end
section
variable{prog:AL}{w:AQ}{A:BS}{E:Ap->AA->Prop}{s:AA}
theorem Zo{l:Addr}{items:Array Ap}{vals:Nat->List Int×Addr}{Q:Ap->AA->Prop}(hh:A.handled=none)(hu:A.units+6<C2)(hl:s.heap.IsList l items)(hv:∀(i:Nat) (v:Ap),items[i]?=some v->v=AT (vals i).2)
  (hK:∀j,j<items.size->IK prog w s.heap (vals j).1 (vals j).2) (h61:∀ks:List (List Int×Addr),(∀x∈ks,∃j,j<items.size/\x=vals j)->(ks.map (·.1)).Nodup->ks.length<=300)
  (q:∀h' tk es t ks,TS prog w h' s.heap.objs.size es t ks->Of vals items.size ks->(∀b o,s.heap.get? b=some o->h'.get? b=some o)->Q (.ref s.heap.objs.size) {s with heap:=h',toks:=tk}) :
  wpAny (AO prog w) A (call (.type "set") [.ref l]) Q E s:=by
 obtain ⟨c,tl,hmro⟩:=He.mro;have made:=He.made;have ssub:=He.sub;have nt:=He.notType;have cc:=He.canCreate;have tc:=F.typeCall_set_1 (.ref l);refine R6 (Sr ?_);show wpAny _ _ (callAny (.type "set") _) _ _ _;refine wpAny_pure ⟨Pt _ (by decide +kernel),Ff F.entry_type_call ?_⟩;rw[Around.under_plain (weight_type_call_type "set" [.ref l] []) rfl]
 repeat (any_goals (first | assumption | wp_step))
 refine E9 (Zc (.ref l) (E:=E) (Q₁:=λobj s₁=>∃led:Bool,led=ledOf w/\obj=.ref s.heap.objs.size/\s₁={s with heap:=s.heap.push {cls:=.type "set",dict:=none,data:=.set #[] 0 (.fresh 0 0 led)}}) ⟨_,rfl,rfl,rfl⟩) λr s₁ hr=>?_;cases r with
 | error e=>exact hr
 | ok fl =>
  cases fl with
  | ret obj =>
   obtain ⟨led,hled,rfl,rfl⟩:=hr;have gS:(s.heap.push {cls:=.type "set",dict:=none,data:=.set #[] 0 (.fresh 0 0 led)}).get? s.heap.objs.size=some {cls:=.type "set",dict:=none,data:=.set #[] 0 (.fresh 0 0 led)}:=AW _ rfl;have tS:Shared.TypeIs {s with heap:=s.heap.push {cls:=.type "set",dict:=none,data:=.set #[] 0 (.fresh 0 0 led)}} (.ref s.heap.objs.size) "set":=⟨_,gS,rfl⟩;have il:=He.init.lookup;have ib:=He.init.bind (.ref s.heap.objs.size)
   repeat (any_goals (first | assumption | wp_step))
   refine E9 (codeAny_call_builtin (R:=wants (λr s₂=>r=.none/\∃h' tk es t ks,s₂={s with heap:=h',toks:=tk}/\TS prog w h' s.heap.objs.size es t ks/\Of vals items.size ks/\(∀b o,s.heap.get? b=some o->h'.get? b=some o)) E) He.init.plain F.entry_set_init (check_set_init_1 tS ?_)) λr₂ s₂ hr₂=>?_
   ·obtain ⟨⟨ocls,odict,odata,oslots⟩,hol,hcl,nl,hdl⟩:=id hl
    simp only at hcl hdl;subst hcl hdl;have hol2:(s.heap.push {cls:=.type "set",dict:=none,data:=.set #[] 0 (.fresh 0 0 led)}).get? l=some {cls:=.type "list",dict:=odict,data:=.seq items nl,slots:=oslots}:=AJ _ hol;have s1:=F.sub_list_set;have s2:=F.sub_list_frozenset;have s3:(D4 "list" == D4 "dict")=false:=by decide
    have hl1:(s.heap.push {cls:=.type "set",dict:=none,data:=.set #[] 0 (.fresh 0 0 led)}).IsList l items:=⟨_,hol2,rfl,nl,rfl⟩;unfold Builtin.«set.__init__» noKeywords S6;generalize hPI:N5=PI
    wp_walk
    subst hPI;refine P9 hl1 ?_;refine As (N8 ?_);have ll:l<s.heap.objs.size:=By hol;have h3:A.in1.in1.in1.handled=none:=by simp[hh]
    have nI:l≠(s.heap.push {cls:=.type "set",dict:=none,data:=.set #[] 0 (.fresh 0 0 led)}).objs.size:=by
     rw[EU];exact B2 (Kn ll)
    have nS:s.heap.objs.size∉[(s.heap.push {cls:=.type "set",dict:=none,data:=.set #[] 0 (.fresh 0 0 led)}).objs.size,l]:=by
     rw[EU];simp only[Bz,B5,KG,or_false,not_or];exact ⟨B2 (G6 _),UB ll⟩
    have lows:∀j,j<items.size->(vals j).2<s.heap.objs.size:=λj hj=>by
     obtain ⟨o,_,_,ho,_⟩:=hK j hj;exact By ho
    have old2:∀(x:Obj) b o,s.heap.get? b=some o->((s.heap.push {cls:=.type "set",dict:=none,data:=.set #[] 0 (.fresh 0 0 led)}).push x).get? b=some o:=λx b o e=>AJ _ (AJ _ e);refine Vk (s:=_) ((Walks.list h3 _ l nI items).toS) s.heap.objs.size nS vals hv h61 (λj hj z=>?_) ?_ (λs' es' t' ks' X' O' mv=>?_) (items.size-0) 0 _ #[] (.fresh 0 0 led) [] (by lia) (BH _)
     ⟨⟨_,AW _ rfl,rfl,rfl⟩,(hl1.push _)⟩ (Xi hled (AJ _ gS)) (λj hj=>GF (hK j hj) λo e=>old2 _ _ _ e) ⟨λx hx=>(by cases hx),λj hj=>absurd hj (by lia),AF _⟩ (Moved.refl λ_=>rfl)
    ·have:=lows j hj
     rw[EU] at z;simp only[Bz,B5,KG,or_false] at z;rcases z with z | z
     ·exact absurd z (B2 this)
     ·exact absurd z (B2 (Kn this))
    ·show A.units+1+1+1<C2
     lia
    ·obtain ⟨h',g',d',tk',os'⟩:=s'
     have eg:g'=s.gens:=mv.gens;have ed:d'=s.drawn:=mv.drawn;have eo:os'=s.os:=mv.os;subst eg ed eo;show wpAny _ _ _ _ _ _;refine wpAny_pure ?_;show wpAny _ _ (ret CL) _ _ _;refine wpAny_pure ⟨rfl,h',tk',es',t',ks',rfl,X',O',λb o e=>?_⟩;have hb:=By e;refine mv.heap b o ?_ (old2 _ b o e);rw[EU];simp only[Bz,B5,KG,or_false,not_or];exact ⟨B2 hb,B2 (Kn hb)⟩
   ·cases r₂ with
    | error e=>exact hr₂
    | ok fl₂ =>
     cases fl₂ with
     | ret r =>
      obtain ⟨rfl,h',tk,es,t,ks,rfl,X',O',kp⟩:=hr₂
      repeat (any_goals (first | assumption | wp_step))
      exact q _ _ _ _ _ X' O' kp
     | _=>exact hr₂.elim
  | _=>exact hr.elim
end
end SB
namespace L2
open PySem PySem.Spec PyProof.Rows
section
variable{X:Cx}{e:Expr}{te:TE}{p1 p2 pos pos2:Pos}
theorem ik_ofB{pins:List (Addr×Obj)}{σ:St}{H:Hp}{s:AA}(I:Inv X pins σ H s){b:Addr}{ns:List Int}(h:SqT X.K H b (ns.map V.int)):SB.IK X.prog X.w s.heap ns b:=by
 obtain ⟨its,r,⟨o,ho,hc,n,hd⟩,_⟩:=I.tuple h;exact ⟨o,its.toArray,n,ho,hc,hd,by simpa using Ph r⟩
def Vl(K:Au)(te:TE):TE:=λσ H Q=>te σ H λv H1=>∃a xs rs,v=.ref a/\SqL K H1 a xs/\BE (rPair K H1) rs xs/\(∀ms:List (List Int),ms.Nodup->(∀m∈ms,m∈rs)->ms.length<=300)/\(∀r∈rs,r≠[]) /\
 ∀l ys ms,H1 l=none->ms.Pairwise (λa b=>HT.lexLt a b=true)->(∀r,r∈ms↔r∈rs)->BE (rPair K H1) ms ys->BE (λm y=>∃i:Nat,rs[i]?=some m/\xs[i]?=some y) ms ys->Q (.ref l) (upd H1 l (.lst ys))
theorem Qi(hc:X.calm=true)(hu:X.A.units+7<C2)(hg:Gl X "sorted")(hm:X.mg "sorted" = none)(hg2:Gl X "set")(hm2:X.mg "set" = none)(he:PE X e te)
  (hv:G4 "sorted" = some (.builtin "sorted"):=by exact MZ) (hv2:G4 "set" = some (.type "set"):=by decide +kernel)
  (s1:Cf [e] X.env=(false,eval e X.env)::Cf [] X.env:=by rfl)
  (s2:Cf [.Call (.Name "set" p2) [e] [] pos2] X.env=(false,eval (.Call (.Name "set" p2) [e] [] pos2) X.env)::Cf [] X.env:=by rfl) :
  PE X (.Call (.Name "sorted" p1) [.Call (.Name "set" p2) [e] [] pos2] [] pos) (Vl X.K te):=by
 intro pins s σ H Q I h;refine FY (Ep I hg hm hv ?_ (by decide) (by decide));refine K1 ?_ s2 rfl;rw[s2];show wpAny _ _ (SG ((false,eval (.Call (.Name "set" p2) [e] [] pos2) X.env)::G5 pos (Cf [] X.env))) _ _ s;refine HL ?_;refine FY (Ep I hg2 hm2 hv2 ?_ (by decide) (by decide));refine D2 ?_ s1 rfl;rw[s1];show wpAny _ _ (SG ((false,eval e X.env)::G5 pos2 (Cf [] X.env))) _ _ s;refine HL (thn (he pins s σ H _ I h) λu s1 ⟨x,H1,I1,r1,q1⟩=>?_);refine J9 ?_;obtain ⟨a,xs,rs,rfl,ha,pr,h61,hne,q⟩:=q1;cases r1;obtain ⟨its,r,pl,_⟩:=I1.list ha;have lx:=r.length;have lr:=AY pr;have hl:=pl.isList;have at_:∀i:Nat,i<its.length->∃b ns,its[i]?=some (.ref b)/\xs[i]?=some (.ref b)/\rs[i]?=some ns/\rPair X.K H1 ns (.ref b):=λi hi=>by
  have hx:i<xs.length:=by lia
  obtain ⟨ns,hns,rp⟩:=Paired.get pr (AI hx);obtain ⟨b,eb,hb⟩:=Bv rp;obtain ⟨u,hu',ru⟩:=r.get (AI hx);rw[eb] at ru rp;cases ru;exact ⟨b,ns,hu',by rw[AI hx,eb],hns,rp⟩
 have pick:∃vals:Nat->List Int×Addr,∀i:Nat,i<its.length->its[i]?=some (.ref (vals i).2)/\rs[i]?=some (vals i).1/\rPair X.K H1 (vals i).1 (.ref (vals i).2)/\xs[i]?=some (.ref (vals i).2):=by
  refine ⟨λi=>if h:i<its.length then (EC (EW (at_ i h)),EC (at_ i h)) else ([],0),λi hi=>?_⟩;have z:=EW (EW (at_ i hi));dsimp only;rw[dif_pos hi];exact ⟨z.1,z.2.2.1,z.2.2.2,z.2.1⟩
 obtain ⟨vals,hvals⟩:=pick;have hsz:its.toArray.size=its.length:=by simp
 have few:∀ks:List (List Int×Addr),(∀x∈ks,∃j,j<its.length/\x=vals j)->(ks.map (·.1)).Nodup->ks.length<=300:=λks hs hn=>by
  have:=h61 (ks.map (·.1)) hn λm hm=>by
   obtain ⟨x,hx,rfl⟩:=BQ.mp hm;obtain ⟨j,hj,rfl⟩:=hs x hx;exact A8 (hvals j hj).2.1
  rwa [AE] at this
 refine SB.Zo (items:=its.toArray) (vals:=vals) (I1.ok.hd hc) (by lia) hl (λi v hv=>?_) (λj hj=>?_) (by rw[hsz];exact few) λh' tk es t ks T O kp=>?_
 ·have hi:i<its.length:=by
   have:=(C9.mp hv).1;rw[hsz] at this;exact this
  have z:=(hvals i hi).1;have hv':its[i]?=some v:=by simpa using hv
  rw[hv'] at z;exact BY z
 ·rw[hsz] at hj
  obtain ⟨b,eb,hb⟩:=Bv (hvals j hj).2.2.1;cases eb;exact ik_ofB I1 hb
 refine J9 ?_;rw[hsz] at O;have hK:∀x∈ks,SB.IK X.prog X.w h' x.1 x.2:=λx hx=>by
  obtain ⟨j,hj,rfl⟩:=O.sub x hx;obtain ⟨b,eb,hb⟩:=Bv (hvals j hj).2.2.1;cases eb;exact SB.GF (ik_ofB I1 hb) λo e=>kp _ o e
 have inrs:∀j,j<its.length->(vals j).1∈rs:=λj hj=>A8 (hvals j hj).2.1;have hSz:s1.heap.objs.size<=h'.objs.size:=by
  obtain ⟨o,_,ho,_⟩:=T.obj;exact De (By ho)
 refine SB.sorted_set (s:={s1 with heap:=h',toks:=tk}) (I1.ok.hd hc) T hK (λx hx=>?_) (QP (few ks O.sub T.nd)) λh2 tk2 D ko e kp2 hD he pk so=>?_
 ·obtain ⟨j,hj,rfl⟩:=O.sub x hx
  exact hne _ (inrs j hj)
 have hD':s1.heap.objs.size<=D:=BM hSz hD;have hn:H1 D=none:=I1.hok.fresh hD';have lko:ko.length<=301:=by rw[pk.length_eq];exact QP (few ks O.sub T.nd)
 have kov:∀x∈ko,∃j,j<its.length/\x=vals j:=λx hx=>O.sub x (pk.mem_iff.mp hx);have vl:∀l:List (List Int×Addr),Vals (l.map λx=>V.ref x.2) (l.map λx=>AT x.2):=λl=>by
  induction l with
  | nil=>exact .nil
  | cons x r ih=>exact .cons rfl ih
 have pv:∀l:List (List Int×Addr),(∀x∈l,∃j,j<its.length/\x=vals j)->BE (rPair X.K H1) (l.map (·.1)) (l.map λx=>V.ref x.2):=λl=>by
  induction l with
  | nil=>exact λ_=>.nil
  | cons x r ih =>
   intro hh;obtain ⟨j,hj,rfl⟩:=hh x AD;exact .cons (hvals j hj).2.2.1 (ih λy hy=>hh y (AG _ hy))
 have pw:∀l:List (List Int×Addr),(∀x∈l,∃j,j<its.length/\x=vals j)->BE (λm y=>∃i:Nat,rs[i]?=some m/\xs[i]?=some y) (l.map (·.1)) (l.map λx=>V.ref x.2):=λl=>by
  induction l with
  | nil=>exact λ_=>.nil
  | cons x r ih =>
   intro hh;obtain ⟨j,hj,rfl⟩:=hh x AD;exact .cons ⟨j,(hvals j hj).2.1,(hvals j hj).2.2.2⟩ (ih λy hy=>hh y (AG _ hy))
 refine ⟨.ref D,_,I1.laid (o:=.lst (ko.map λx=>V.ref x.2)) (a:=D) (t':=tk2) (λb o eb=>kp2 b o (kp b o eb)) hD' ⟨?_,ko.map (λx=>AT x.2),e,vl ko,he⟩,rfl,q D _ (ko.map (·.1)) hn so (λrr=>?_) (pv ko kov) (pw ko kov)⟩
 ·rw[AE]
  exact small (by lia)
 ·constructor
  ·intro hr
   obtain ⟨x,hx,rfl⟩:=BQ.mp hr;obtain ⟨j,hj,rfl⟩:=kov x hx;exact inrs j hj
  ·intro hr
   obtain ⟨j,hj⟩:=EV.mp hr;have hjl:j<its.length:=by
    have:=(AH.mp hj).1;lia
   have z:=(hvals j hjl).2.1;rw[hj] at z;cases z;exact (pk.map (·.1)).mem_iff.mpr (O.sup j hjl)
end
end L2
end
section
namespace K54s
open PySem L2 G
def Ux(K:Au)(C:Addr):Sp:=λvs H Q _=>∃(l:Addr) (n top:Nat) (rows:List Row),vs=[.int n,.ref l,.int top]/\RowsAt K H l rows/\Ok n rows/\n<=12/\rows.length<=4100/\FewB rows top/\Knot rows top /\
 ∀(p:Addr) (nums:List Row) (hd:Nat) (H':Hp),Same H H'->SvAt K C H' p n nums hd->Canon n nums hd->(∀s,led nums hd s=led rows top s)->(nums.length<=4000/\nums.length<=rows.length/\∀t,(nums.filter λr=>decide (r.1=t)).length<=300)->Q (.ref p) H'
def pl01:List (Key×V):=mergeK [] [(Db (0:Int),V.int 0),(Db (1:Int),V.int 1)]
theorem Yq:PlD pl01 λk=>if k=0 then some 0 else if k=1 then some 1 else none:=by
 intro k;show valV (putK (putK ([]:List (Key×V)) (Db (0:Int)) (V.int 0)) (Db (1:Int)) (V.int 1)) (Db (k:Int))=_;rw[Cw,Cw];by_cases k1:k=1
 ·subst k1;rfl
 by_cases k0:k=0
 ·subst k0;rfl
 rw[if_neg (λz=>k1 (by injection z with z;lia)),if_neg (λz=>k0 (by injection z with z;lia))];dsimp only;rw[if_neg k0,if_neg k1];rfl
theorem ABw:pl01.length<=2+4100*0:=by
 show (putK (putK ([]:List (Key×V)) (Db (0:Int)) (V.int 0)) (Db (1:Int)) (V.int 1)).length<=2+4100*0;exact BM (Bx _ _ _) (Nat.succ_le_succ (Bx _ _ _))
def LayR(rows:List Row)(pl:Nat->Option Nat)(H:Hp)(k:Nat)(v:V):Prop:=∃q b,v=.ref q/\H q=some (.tup [.int k,.ref b])/\H b=some (.tup (r3 (rowIn rows pl k)))
theorem LayR.keeps{rows:List Row}{pl:Nat->Option Nat}{H H':Hp}{k:Nat}{v:V}(e:∀a xs,H a=some (.tup xs)->H' a=some (.tup xs))(h:LayR rows pl H k v):LayR rows pl H' k v :=
 let ⟨q,b,h1,h2,h3⟩:=h;⟨q,b,h1,e _ _ h2,e _ _ h3⟩
def RowR(H:Hp)(r:Row)(v:V):Prop:=∃b,v=.ref b/\H b=some (.tup (r3 r))
theorem RowR.keeps{H H':Hp}{r:Row}{v:V}(e:∀a xs,H a=some (.tup xs)->H' a=some (.tup xs))(h:RowR H r v):RowR H' r v :=
 let ⟨b,h1,h2⟩:=h;⟨b,h1,e _ _ h2⟩
def sel(rows:List Row)(pl:Nat->Option Nat)(ly:List Nat)(j:Nat):List Row:=((ly.take j).map (rowIn rows pl)).filter λr=>decide (r.2.2≠0)
theorem RJ{rows:List Row}{pl:Nat->Option Nat}{ly:List Nat}{j k:Nat}(h:ly[j]?=some k):sel rows pl ly (j+1)=sel rows pl ly j++if (rowIn rows pl k).2.2≠0 then [rowIn rows pl k] else []:=by
 unfold sel;rw[Co,h,Ct,Cs];by_cases c:(rowIn rows pl k).2.2≠0
 ·simp[c]
 ·simp[c]
theorem Uc(rows:List Row)(pl:Nat->Option Nat)(ly:List Nat)(j:Nat):(sel rows pl ly j).length<=ly.length:=by
 unfold sel;refine BM (CB _ _) ?_;rw[AE,BG];lia
theorem Pb{rows:List Row}{pl:Nat->Option Nat}{ly:List Nat}{r:Row}:r∈sel rows pl ly ly.length↔∃k∈ly,r=rowIn rows pl k/\r.2.2≠0:=by
 unfold sel;rw[CU,B7,BQ];constructor
 ·rintro⟨⟨k,hk,rfl⟩,h⟩
  exact ⟨k,hk,rfl,of_decide_eq_true h⟩
 ·rintro⟨k,hk,rfl,h⟩
  exact ⟨⟨k,hk,rfl⟩,decide_eq_true h⟩
def placeOf(rows:List Row)(pl:Nat->Option Nat)(nums:List Row)(k:Nat):Nat:=(numOf 2 nums (rowIn rows pl k)).getD (rowIn rows pl k).2.1
theorem Kl{α β γ:Type}{F:β->γ->Prop}{f:α->β}:∀{l:List α}{m:List γ},BE (λa b=>F (f a) b) l m->BE F (l.map f) m
 | _,_,.nil=>.nil
 | _,_,.cons h t=>.cons h (Kl t)
theorem Zq{rows new:List Row}{rc:List Nat}{pl:Nat->Option Nat}{t:Nat}(h:(new.map r3i).Pairwise (λa b=>HT.lexLt a b=true))(hw:∀r,r∈new->∃k,k∈rc/\tieOf rows k=t/\r=rowIn rows pl k/\r.2.2≠0):new.Pairwise RowLt:=by
 have h2:new.Pairwise (λa b=>HT.lexLt (r3i a) (r3i b)=true):=CY.mp h;have tie:∀r∈new,r.1=t:=λr hr=>by
  obtain ⟨k,_,h,e,_⟩:=hw r hr;rw[e];exact h
 refine DV (λ{a b} ha hb z=>?_) h2;have ea:=tie a ha;have eb:=tie b hb;obtain ⟨a1,a2,a3⟩:=a;obtain ⟨b1,b2,b3⟩:=b;dsimp only at ea eb;subst ea;subst eb;unfold r3i at z;dsimp only at z;rw[HT.CN,if_pos rfl,HT.CN] at z;refine .inr ⟨rfl,?_⟩;dsimp only;by_cases c:(a2:Int)=b2
 ·rw[if_pos c,HT.CN] at z
  by_cases d:(a3:Int)=b3
  ·rw[if_pos d] at z
   cases z
  ·rw[if_neg d] at z
   have:=of_decide_eq_true z;exact .inr ⟨by lia,by lia⟩
 ·rw[if_neg c] at z
  have:=of_decide_eq_true z;exact .inl (by lia)
section
variable{P:AL}{w:AQ}{K:Au}{mg:Str->Option Ap}{base:Heap}{f C:Addr}{fd:BV}
theorem DX:FnScope ["n","rows","top","reached","numbers","places","tie","layer","row","knot"] ["n","rows","top"] (Ac Fe):=⟨rfl,rfl,rfl,by decide +kernel,rfl,by decide +kernel,by decide +kernel⟩
theorem Yo{fR fI fS:Addr}{fdR fdI fdS:BV}(F:Fun K "least_graph" "least_graph" Fe f fd)(T:Txt K mg C)(M:Mk K C fS)
  (GR:FnOk P w K mg base CX0 1 fR fdR ["rows","top"] (Ua K)) (bR:Binds K fdR ["rows","top"] []) (kR:AK K (.ref fR)=true) (mR:mg "reached_knots" = some (.ref fR))
  (GI:FnOk P w K mg base CX0 1 fI fdI ["places","row"] (ACz K)) (bI:Binds K fdI ["places","row"] []) (kI:AK K (.ref fI)=true) (mI:mg "row_in_places" = some (.ref fI))
  (GS:FnOk P w K mg base CX0 1 fS fdS ["self","n","rows","head"] (Jt K C)) (bS:Binds K fdS ["self","n","rows","head"] []) :
  FnOk P w K mg base CX0 3 f fd ["n","rows","top"] (Ux K C):=by
 refine F.ok DX (λvs H Q E h=>?_) (λcdv A outer s H vs Q E hr h=>?_)
 ·obtain ⟨l,n,top,rows,rfl,_⟩:=h
  rfl
 obtain ⟨l,n,top,rows,rfl,hL,ok,n12,r72,fw,kt,q⟩:=h;have hr1:Room 1 _:=hr.mono (by decide);refine ⟨_,Ah (BJ (i:=3) DX.nd rfl (B3 rfl) (BL GR hr1 rfl mR kR bR .nil pass0 (Aa (pv 1) (Aa (pv 2) Af))))
  (Ah (BJ (i:=4) DX.nd rfl (B3 rfl) Qc)
  (Ah (BJ (i:=5) DX.nd rfl (IE rfl) (Ur (Kp Ai Ai (Kp Ai Ai Va)) rfl rfl (by intro z;cases z) (by decide)))
  (Ah (Dg D1 rfl (Lj rfl T.range (Aa (Ar DK (pv 0) Ai) (Aa (MK Im Ai) (Aa (MK Im Ai) Af)))) (Aq (i:=6) DX.nd rfl (IE rfl))
   (Ah (Og (i:=7) (Ac Fe) ["knot"] ["places","rows","tie"] [5,1,6] DX.nd rfl (B3 rfl) rfl rfl (by decide +kernel) ⟨⟨rfl,by decide +kernel⟩,⟨rfl,by decide +kernel⟩,⟨rfl,by decide +kernel⟩,trivial⟩ (CG (pv 3))
    (λ_ _ _=>Aq (i:=0) (show ((["knot"]:List Str)++(["places","rows","tie"]:List Str)).Nodup by decide +kernel) rfl (B3 rfl))
    (λ_ _ _=>Ce (Aw Fx (Bl (Pa (K:=K) rfl) (Bl (Pa (K:=K) rfl) (pv 2) (Ar DK (pv 0) Ai) (λ_ _=>rfl)) Ai (λ_ _=>rfl)) (pv 3) (nomark _)))
    (λ_ _ _=>Cd (Aa (pv 0) (Aa (BL GI hr1 rfl mI kI bI .nil pass0 (Aa (pv 1) (Aa (Bl (Pa (K:=K) rfl) (pv 2) (Ar DK (pv 0) Ai) (λ_ _=>rfl)) Af))) Af))))
   (Ah (Dg D1 rfl (CG (Qi rfl (CW hr) rfl T.sorted rfl T.set
     (Ca (Ac Fe) ["knot","row"] [] [] rfl rfl (by decide +kernel) trivial (CG (pv 7))
      (λ_ _ _=>HJ (K:=K) (n:=2) rfl rfl (Bo (Aq (i:=0) (show ((["knot","row"]:List Str)++([]:List Str)).Nodup by decide +kernel) rfl (B3 rfl)) (Bo (Aq (i:=1) (show ((["knot","row"]:List Str)++([]:List Str)).Nodup by decide +kernel) rfl (B3 rfl)) Eu)))
      (λ_ _ _=>Ce (Aw Uu (Bl (Jf (K:=K) rfl) (pv 1) Ai (λ_ _=>rfl)) Ai (nomark _)))
      (λ_ _ _=>pv 1)))) (Aq (i:=8) DX.nd rfl (B3 rfl))
    (Aj (HF (CW hr) (pv 4) (pv 8) (Ar Cg (Bb JN rfl T.len D7 (Aa (pv 4) Af)) Ai) rfl)))
   (Aj (Dg D1 rfl (CG (pv 7)) (HJ (K:=K) (n:=2) rfl rfl (Bo (Aq (i:=9) DX.nd rfl (B3 rfl)) (Bo (Aq (i:=8) DX.nd rfl (B3 rfl)) Eu)))
    (Aj (HF (CW hr) (pv 5) (pv 9) (Zf (CW hr) (pv 4) (pv 8) (Bl Eb (pv 8) Ai (λ_ _=>rfl)) ⟨rfl,rfl,rfl,rfl⟩) rfl)))))))
  (Aj (Ay (Jd M GS hr rfl T.mgC bS .nil pass0 (Aa (pv 0) (Aa (Bt (Oe rfl) rfl T.list Ic (Aa (pv 4) Af)) (Aa (OD (CW hr) (pv 5) (pv 2) (λ_ _=>rfl)) Af))))))))),?_⟩
 refine ⟨_,rfl,_,rfl,l,n,top,rows,rfl,hL,ok,r72,kt,λR rc H1 s1 nR eR cl tr rl0 par=>?_⟩;have rl:∀t j,(lay rows t rc j).length<=4100:=λt j=>BM (rl0 t j) (BM (CB ..) r72);refine λN hN=>?_;have nN:H N=none:=s1.free hN;have s2:=s1.trans (Same.new hN (.dT []));refine λD hD=>⟨Ab,[(.inl (0:Int),.int 0),(.inl (1:Int),.int 1)],rfl,(by show 2<=15;decide),?_⟩;have nD:H D=none:=s2.free hD;have RN:R≠N:=Ad eR hN;have RD:R≠D:=Ad (show (upd H1 N (.dT [])) R=some (.lst (iN rc)) by rw[Ae RN];exact eR) hD;have ND:N≠D:=Ad (show (upd H1 N (.dT [])) N=some (.dT []) from Ab) hD;refine ⟨_,rfl,_,_,rfl,rfl,1,rfl,1,rfl,(n:Int)-1,-1,rfl,⟨by lia,by lia,by lia,by lia⟩,?_⟩;refine Qn (lo:=(n:Int)-1) (n:=((n:Int)-1 - -1).toNat) (λi σ H2=>∃(nums:List Row) (kvs:List (Key×V)) (pl:Nat->Option Nat) (o6 o7 o8 o9:Option V),σ=[some (.int n),some (.ref l),some (.int top),some (.ref R),some (.ref N),some (.ref D),o6,o7,o8,o9]/\Same H H2 /\
   H2 R=some (.lst (iN rc))/\H2 N=some (.dT (numKV 2 nums))/\H2 D=some (.dK kvs)/\PlD kvs pl/\Kept2 n (n-i) rows rc nums pl/\nums.length<=300*i/\kvs.length<=2+4100*i/\∀t,(nums.filter λr=>decide (r.1=t)).length<=300)
  ⟨[],_,λk=>if k=0 then some 0 else if k=1 then some 1 else none,none,none,none,none,rfl,λb o e=>?_,?_,?_,Ab,?_,?_,by simp,?_,λt=>BH _⟩ ?_ ?_
 ·rw[Ae (Ad e nD),Ae (Ad e nD)]
  exact s2 b o e
 ·rw[Ae RD,Ae RD,Ae RN]
  exact eR
 ·rw[Ae ND,Ae ND,Ab]
  rfl
 ·exact Yq
 ·exact Rg λk hk=>(cl.low ok hk).1
 ·exact ABw
 ·rintro i σ H2 hi ⟨nums,kvs,pl,o6,o7,o8,o9,rfl,sm,eR2,eN2,eD2,pd,kp,nl,kl,cn⟩
  obtain ⟨t,et,tn,tn',tlt⟩:∃t:Nat,(n:Int)-1-i=t/\n-i=t+1/\n-(i+1)=t/\t<n:=⟨n-1-i,by lia,by lia,by lia,by lia⟩;rw[et];rw[tn] at kp;have hL2:=hL.same sm;refine ⟨_,rfl,R,rfl,⟨_,SqL.of eR2⟩,λY hY=>?_⟩;have nY:H Y=none:=sm.free hY;refine Cj (K:=K) (a:=R) (xs:=iN rc) (λj τ H3=>∃(kv:Option V) (ys:List V),τ=[kv,some (.ref D),some (.ref l),some (.int t)]/\Same H2 H3/\H3 Y=some (.lst ys)/\BE (LayR rows pl H3) (lay rows t rc j) ys)
   ⟨none,[],rfl,Same.new hY _,Ab,.nil⟩ (λj τ H3 _ ⟨_,_,_,s3,_⟩=>s3.seq (SqL.of eR2)) ?_ ?_
  ·rintro j x τ H3 hx ⟨kv,ys,rfl,s3,eY,py⟩
   obtain ⟨k,hk,rfl⟩:∃k:Nat,rc[j]?=some k/\x=.int (k:Int):=by
    unfold iN at hx;rw[BI] at hx;cases g:rc[j]? with
    | none=>rw[g] at hx;cases hx
    | some k=>rw[g] at hx;cases hx;exact ⟨k,rfl,rfl⟩
   have km:=A8 hk;obtain ⟨xs,p,hS,ha,hp⟩:=Oi (hL2.same s3) (cl.knot k km) (cl.two k km);refine ⟨_,rfl,_,rfl,_,_,rfl,rfl,ixA hS ha (ixA hp at0 ⟨_,rfl,rfl,_,rfl,?_⟩)⟩;refine ite2 (λc=>?_) (λc=>?_)
   ·have c':tieOf rows k=t:=by
     have:=of_decide_eq_true c;injection this with this
     exact Tx this
    obtain ⟨a,b,pa,pb,re,_⟩:=kp.base.row cl ok tlt km c';have hx':valV kvs (Db (((rows.getD (k-2) (0,0,0)).2.1:Nat):Int))=some (.int (a:Int)):=by
     have:=pd (outOf rows k);rw[pa] at this;exact this
    have hy':valV kvs (Db (((rows.getD (k-2) (0,0,0)).2.2:Nat):Int))=some (.int (b:Int)):=by
     have:=pd (intoOf rows k);rw[pb] at this;exact this
    refine ⟨_,rfl,_,rfl,_,rfl,_,rfl,_,_,rfl,rfl,ixA hS ha ⟨D,p,rows.getD (k-2) (0,0,0),a,b,kvs,rfl,s3 _ _ eD2,⟨p,rfl,hp⟩,hx',hy',λu hu=>?_⟩⟩;refine ⟨(by show 2<=sizeLine;decide),λv hv=>?_⟩;have er:[V.int ((rows.getD (k-2) (0,0,0)).1:Nat),V.int (a:Int),V.int (b:Int)]=r3 (rowIn rows pl k):=by
     rw[re,<- c'];rfl
    rw[er];rw[er] at hv;have su:=Same.new hu (.tup (r3 (rowIn rows pl k)));have sv:=Same.new hv (.tup [.int (k:Int),.ref u]);have eY2:=sv _ _ (su _ _ eY);have ll:=rl t j;have ly:ys.length<=4100:=by rw[<- AY py];lia
    have kt:∀a xs,(upd (upd H3 u (.tup (r3 (rowIn rows pl k)))) v (.tup [.int (k:Int),.ref u])) a=some (.tup xs)->(upd (upd (upd H3 u (.tup (r3 (rowIn rows pl k)))) v (.tup [.int (k:Int),.ref u])) Y (.lst (ys++[.ref v]))) a=some (.tup xs):=λa xs e=>by
     rw[Ae (Bu e eY2 (by intro z;cases z))];exact e
    refine ⟨_,eY2,smallN (by lia),_,_,rfl,λb o e=>?_,Ab,?_⟩
    ·rw[Ae (Ad e hY)]
     exact sv _ _ (su _ _ (s3 b o e))
    ·rw[Pj hk,if_pos c']
     refine Paired.app (Paired.imp (λa b r=>(r.keeps λa xs e=>sv _ _ (su _ _ e)).keeps kt) py) (Paired.one ⟨v,u,rfl,kt _ _ Ab,kt _ _ (sv _ _ Ab)⟩)
   ·have c':¬ tieOf rows k=t:=λe=>c (decide_eq_true (by show V.int ((tieOf rows k:Nat):Int)=V.int (t:Int);rw[e]))
    refine ⟨_,_,rfl,s3,eY,?_⟩;rw[Pj hk,if_neg c',B9];exact py
  ·rintro τ H3 ⟨kv,ys,rfl,s3,eY,py⟩
   have rcl:(iN rc).length=rc.length:=AE ..;rw[rcl] at py;have ll:=rl t rc.length;have ly:ys.length<=4100:=by rw[<- AY py];lia
   refine ⟨_,rfl,Y,rfl,⟨_,SqL.of eY⟩,λZ hZ=>?_⟩;refine Cj (K:=K) (a:=Y) (xs:=ys) (λj τ H4=>∃(o1 o2:Option V) (zs:List V),τ=[o1,o2]/\Same H3 H4/\H4 Z=some (.lst zs)/\BE (RowR H4) (sel rows pl (lay rows t rc rc.length) j) zs)
    ⟨none,none,[],rfl,Same.new hZ _,Ab,.nil⟩ (λj τ H4 _ ⟨_,_,_,_,s4,_⟩=>s4.seq (SqL.of eY)) ?_ ?_
   ·rintro j x τ H4 hx ⟨o1,o2,zs,rfl,s4,eZ,pz⟩
    obtain ⟨k,hk,u,b,rfl,hu,hb⟩:=Paired.get py hx;have hu4:=s4 _ _ hu;have hb4:=s4 _ _ hb;refine ⟨u,_,rfl,SqT.of hu4,rfl,_,_,rfl,_,_,rfl,rfl,?_⟩;refine ⟨_,rfl,b,_,_,_,rfl,rfl,SqT.of hb4,at2,rfl,_,rfl,?_⟩;have zl:zs.length<=4100:=by rw[<- AY pz];exact BM (Uc _ _ _ _) (by lia)
    refine ite2 (λc=>?_) (λc=>?_)
    ·have c':(rowIn rows pl k).2.2≠0:=λe=>by
      rw[e] at c;exact absurd c (by decide)
     refine ⟨_,rfl,_,eZ,smallN (by lia),_,_,_,rfl,λb o e=>?_,Ab,?_⟩
     ·rw[Ae (Ad e hZ)]
      exact s4 b o e
     ·rw[RJ hk,if_pos c']
      have kz:∀a xs,H4 a=some (.tup xs)->(upd H4 Z (.lst (zs++[.ref b]))) a=some (.tup xs):=λa xs e=>by rw[Ae (Bu e eZ (by intro z;cases z))];exact e
      exact Paired.app (Paired.imp (λa b r=>r.keeps kz) pz) (Paired.one ⟨b,rfl,kz _ _ hb4⟩)
    ·have c':(rowIn rows pl k).2.2=0:=by
      rcases PV (rowIn rows pl k).2.2 with e | e
      ·exact e
      ·exact absurd (by rw[decide_eq_false (λz=>by injection z with z;lia)];rfl) c
     refine ⟨_,_,_,rfl,s4,eZ,?_⟩;rw[RJ hk,if_neg (λz=>z c'),B9];exact pz
   ·rintro τ H4 ⟨o1,o2,zs,rfl,s4,eZ,pz⟩
    rw[<- AY py] at pz;have zl:(sel rows pl (lay rows t rc rc.length) (lay rows t rc rc.length).length).length<=4100:=BM (Uc _ _ _ _) (by lia);refine ⟨Z,zs,(sel rows pl (lay rows t rc rc.length) (lay rows t rc rc.length).length).map r3i,rfl,SqL.of eZ,Kl (Paired.imp (λr v ⟨b,e,hb⟩=>by rw[e];exact Fp (ns:=r3i r) hb) pz),λms nd hm=>?_,λr hr=>?_,λS ys' ms hS so mem pr pw=>?_⟩
    ·obtain ⟨new,rfl⟩:=Hz ms λm hm'=>by
      obtain ⟨r',_,e⟩:=BQ.mp (hm m hm');exact ⟨r',e.symm⟩
     rw[AE];refine fw.sel kp cl ok tlt par new ((CY.mp nd).imp λh e=>h (by rw[e])) λr hr=>?_;obtain ⟨r',h1,h2⟩:=BQ.mp (hm _ (EN hr));rw[JT h2] at h1;obtain ⟨k,h1,h2,h3⟩:=Pb.mp h1;obtain ⟨h4,h5⟩:=HS.mp h1;exact ⟨k,h4,h5,h2,h3⟩
    ·obtain ⟨r',_,rfl⟩:=BQ.mp hr
     exact λz=>by cases z
    obtain ⟨new,rfl⟩:=Hz ms λm hm=>by
     obtain ⟨r',_,e⟩:=BQ.mp ((mem m).mp hm);exact ⟨r',e.symm⟩
    have nd:=Ww so;have inNew:∀r∈new,r∈sel rows pl (lay rows t rc rc.length) (lay rows t rc rc.length).length:=λr hr=>by
     obtain ⟨r',h1,h2⟩:=BQ.mp ((mem (r3i r)).mp (EN hr));rw[<- JT h2];exact h1
    have hw:∀r,r∈new->∃k,k∈rc/\tieOf rows k=t/\r=rowIn rows pl k/\r.2.2≠0:=λr hr=>by
     obtain ⟨k,h1,h2,h3⟩:=Pb.mp (inNew r hr);obtain ⟨h4,h5⟩:=HS.mp h1;exact ⟨k,h4,h5,h2,h3⟩
    have hw2:∀k∈rc,tieOf rows k=t->(rowIn rows pl k).2.2≠0->rowIn rows pl k∈new:=λk hk hkt w0=>by
     have h0:r3i (rowIn rows pl k)∈new.map r3i:=(mem _).mpr (EN (Pb.mpr ⟨k,HS.mpr ⟨hk,hkt⟩,rfl,w0⟩));obtain ⟨r',h1,h2⟩:=BQ.mp h0;rw[<- JT h2];exact h1
    have newl:new.length<=300:=fw.sel kp cl ok tlt par new nd hw;have ly':ys'.length=new.length:=by rw[<- AY pr,AE]
    have sS:=Same.new hS (.lst ys');have eN4:=sS _ _ (s4 _ _ (s3 _ _ eN2));have eD4:=sS _ _ (s4 _ _ (s3 _ _ eD2));have eR4:=sS _ _ (s4 _ _ (s3 _ _ eR2));have eY4:=sS _ _ (s4 _ _ eY);have SN:S≠N:=Bu (show (upd H4 S (.lst ys')) S=some (.lst ys') from Ab) eN4 (by intro z;cases z);refine ⟨S,rfl,⟨_,SqL.of Ab⟩,?_⟩;refine Cy (K:=K) (a:=S) (xs:=ys') (λj σ H5=>∃o8:Option V,σ=[some (.int n),some (.ref l),some (.int top),some (.ref R),some (.ref N),some (.ref D),some (.int t),some (.ref Y),o8,o9]/\(∀b o,b≠N->(upd H4 S (.lst ys')) b=some o->H5 b=some o) /\
      H5 N=some (.dT (numKV 2 (nums++new.take j)))) ⟨o8,rfl,λb o _ e=>e,by rw[OH,B9];exact eN4⟩ (λj σ H5 _ ⟨_,_,k5,_⟩=>SqL.of (k5 _ _ SN Ab)) ?_ ?_
    ·rintro j x σ H5 hx ⟨o8,rfl,k5,eN5⟩
     obtain ⟨m,hm,i',hi1,hi2⟩:=Paired.get pw hx;obtain ⟨r,hr,rfl⟩:∃r,new[j]?=some r/\m=r3i r:=by
      rw[BI] at hm;cases g:new[j]? with
      | none=>rw[g] at hm;cases hm
      | some r=>rw[g] at hm;cases hm;exact ⟨r,rfl,rfl⟩
     obtain ⟨r',hr',b,rfl,hb⟩:=Paired.get pz hi2;have er:r'=r:=by
      rw[BI,hr'] at hi1;exact JT (BY hi1)
     subst er;have bN:b≠N:=Bu (sS _ _ hb) eN4 (by intro z;cases z);have hb5:=k5 _ _ bN (sS _ _ hb);have rn:r'∉nums++new.take j:=λhm=>by
      rcases CD.mp hm with hm | hm
      ·have:=kp.base.ge r' hm
       obtain ⟨k,_,h5,h2,_⟩:=hw r' (A8 hr);rw[h2] at this;have e:(rowIn rows pl k).1=tieOf rows k:=rfl;lia
      ·obtain ⟨j',hj'⟩:=EV.mp hm
       rw[List.getElem?_take] at hj';split at hj'
       ·have:=(IC (AH.mp hj').1 nd).mp (hj'.trans hr.symm)
        lia
       ·cases hj'
     have nl2:(nums++new.take j).length<=300*13:=by
      rw[BC,BG];lia
     refine ⟨_,rfl,N,_,rfl,eN5,_,_,rfl,rfl,_,rfl,_,rfl,N,_,rfl,.inr ⟨_,ik3 r',b,eN5,rfl,hb5,by rw[Ip];exact smallN (by lia),rfl⟩,?_⟩;refine ⟨_,rfl,λb o hb e=>by rw[Ae hb];exact k5 b o hb e,?_⟩;rw[Ab,Wi rn,Co,hr];rw[CC];rfl
    ·rintro σ H5 ⟨o8,rfl,k5,eN5⟩
     rw[ly',CU] at eN5;have DN:D≠N:=Bu eD4 eN4 (by intro z;cases z);have RN4:R≠N:=Bu eR4 eN4 (by intro z;cases z);have YN:Y≠N:=Bu eY4 eN4 (by intro z;cases z);have eD5:=k5 _ _ DN eD4;have eR5:=k5 _ _ RN4 eR4;have eY5:=k5 _ _ YN eY4;have YD:Y≠D:=Bu eY5 eD5 (by intro z;cases z);refine ⟨_,rfl,Y,rfl,⟨_,SqL.of eY5⟩,?_⟩;refine Cy (K:=K) (a:=Y) (xs:=ys) (λj σ H6=>∃(o8 o9:Option V) (kvs':List (Key×V)),σ=[some (.int n),some (.ref l),some (.int top),some (.ref R),some (.ref N),some (.ref D),some (.int t),some (.ref Y),o8,o9]/\(∀b o,b≠D->H5 b=some o->H6 b=some o) /\
       H6 D=some (.dK kvs')/\PlD kvs' (plOf pl (placeOf rows pl (nums++new)) ((lay rows t rc rc.length).take j))/\kvs'.length<=kvs.length+j) ⟨o8,o9,kvs,rfl,λb o _ e=>e,eD5,?_,by lia⟩ (λj σ H6 _ ⟨_,_,_,_,k6,_⟩=>SqL.of (k6 _ _ YD eY5)) ?_ ?_
     ·intro k
      rw[pd k];unfold plOf;rw[if_neg (by simp)]
     ·rintro j x σ H6 hx ⟨o8,o9,kvs',rfl,k6,eD6,pd6,kl6⟩
      obtain ⟨k,hk,u,b,rfl,hu,hb⟩:=Paired.get py hx;have up:∀a xs,H3 a=some (.tup xs)->H6 a=some (.tup xs):=λa xs e=>by
       have e4:=sS _ _ (s4 _ _ e);have e5:=k5 _ _ (Bu e4 eN4 (by intro z;cases z)) e4;exact k6 _ _ (Bu e5 eD5 (by intro z;cases z)) e5
      have eN6:=k6 _ _ (C6 DN) eN5;have jl:j<ys.length:=(AH.mp hx).1;refine ⟨u,_,rfl,SqT.of (up _ _ hu),rfl,_,_,rfl,_,_,rfl,rfl,?_⟩;refine ⟨_,rfl,N,rfl,.inr ⟨_,.inl eN6⟩,_,rfl,_,rfl,b,_,_,_,rfl,rfl,SqT.of (up _ _ hb),at1,_,DGet.t (k:=ik3 (rowIn rows pl k)) eN6 (up _ _ hb),?_⟩;refine ⟨_,rfl,_,rfl,D,_,rfl,.inl ⟨kvs',Db (k:Int),eD6,rfl,smallN (by lia),rfl⟩,?_⟩;have ev:(valV (numKV 2 (nums++new)) (ik3 (rowIn rows pl k))).getD (V.int ((rowIn rows pl k).2.1:Nat))=V.int ((placeOf rows pl (nums++new) k:Nat):Int):=by
       rw[Io];unfold placeOf;cases numOf 2 (nums++new) (rowIn rows pl k)<;>rfl
      rw[ev];refine ⟨_,_,_,rfl,λb o hb e=>by rw[Ae hb];exact k6 b o hb e,Ab,?_,by have:=Bx kvs' (Db (k:Int)) (V.int ((placeOf rows pl (nums++new) k:Nat):Int));lia⟩;rw[Co,hk];exact PlD.put pd6
     ·rintro σ H6 ⟨o8,o9,kvs',rfl,k6,eD6,pd6,kl6⟩
      rw[<- AY py,CU] at pd6;refine ⟨nums++new,kvs',_,_,_,_,_,rfl,λb o e=>?_,k6 _ _ (Bu eR5 eD5 (by intro z;cases z)) eR5,k6 _ _ (C6 DN) eN5,eD6,pd6,?_,by rw[BC];lia,by lia,λt1=>?_⟩
      ·have e4:=sS _ _ (s4 _ _ (s3 _ _ (sm b o e)))
       exact k6 _ _ (Ad e nD) (k5 _ _ (Ad e nN) e4)
      ·rw[tn']
       refine kp.step cl ok tlt hw nd hw2 (Zq so hw) (λk hk=>?_) (λk hk ht=>?_)
       ·unfold plOf
        rw[if_neg (λz=>by
         obtain ⟨z1,z2⟩:=HS.mp z;rcases hk with hk | hk
         ·exact hk z1
         ·exact hk z2)]
       ·refine ⟨placeOf rows pl (nums++new) k,by unfold plOf;rw[if_pos (HS.mpr ⟨hk,ht⟩)],?_⟩
        unfold placeOf;cases g:numOf 2 (nums++new) (rowIn rows pl k) with
        | some m =>
         obtain ⟨j,h1,h2⟩:=Kh _ _ _ _ g;exact .inl ⟨j,h1,by show m=j+2;lia⟩
        | none=>exact .inr ⟨Jm _ _ _ g,rfl⟩
      ·rw[Cs,BC]
       by_cases c:t1=t
       ·rw[FV.mpr λr hr z=>by
         have:=kp.base.ge r hr;have:=of_decide_eq_true z;lia]
        have:=CB (λr:Row=>decide (r.1=t1)) new;simp only[K3];lia
       ·rw[FV (l:=new) |>.mpr λr hr z=>by
         obtain ⟨k,_,h5,h2,_⟩:=hw r hr;have:=of_decide_eq_true z;rw[h2] at this;have e:(rowIn rows pl k).1=tieOf rows k:=rfl;lia]
        exact cn t1
 ·rintro σ H2 ⟨nums,kvs,pl,o6,o7,o8,o9,rfl,sm,eR2,eN2,eD2,pd,kp,nl,kl,cn⟩
  have e0:n-((n:Int)-1 - -1).toNat=0:=by lia
  rw[e0] at kp;have ht:∃p:Nat,pl top=some p:=by
   rcases tr with h | h
   ·have:top=0\/top=1:=by lia
    rcases this with rfl | rfl
    ·exact ⟨0,kp.base.z⟩
    ·exact ⟨1,kp.base.o⟩
   ·obtain ⟨p,hp,_⟩:=kp.base.has top h (BH _)
    exact ⟨p,hp⟩
  obtain ⟨hd,ehd⟩:=ht;refine ⟨_,rfl,_,rfl,N,_,rfl,eN2,λA0 ys hA kL=>?_⟩;have sA:=Same.new hA (.lst ys);refine ⟨_,rfl,_,rfl,D,.int hd,rfl,?_,?_⟩
  ·have:=DGet.k (k:=.inl (top:Int)) (sA _ _ eD2)
   rw[pd top,ehd] at this;exact this
  ·intro x dx hx hdx ne
   have hx2:(upd (upd H2 A0 (.lst ys)) dx (.own x)) x=none:=by rw[Ae (C6 ne)];exact hx
   have s4:=(Same.new hdx (.own x)).trans (Same.new hx2 (.ins C dx []));refine ⟨x,dx,A0,n,hd,ys,nums,rfl,Ab,s4.seq (SqL.of Ab),Paired.imp (λa b r=>CK _ _ _ _ s4.ts (CK _ _ _ _ sA.ts r)) (Le kL),λH' hs sv=>⟨rfl,q x nums hd H' (λb o e=>?_) sv (kp.canon cl ok tr ehd par).1 (kp.canon cl ok tr ehd par).2 ⟨by lia,Vo kp cl,cn⟩⟩⟩;have e1:=s4 _ _ (sA _ _ (sm b o e));refine hs b o e1 λz=>?_;rw[z] at e;have:=sA _ _ (sm _ o e);rw[hx] at this;cases this
end
theorem tsX{H H':Hp}{R:Addr}{xs:List V}(e:∀b o,b≠R->H b=some o->H' b=some o)(hR:H R=some (.lst xs)):TSm H H':=λb u hb t=>e b u (λz=>by
 subst z;rw[hR] at hb;cases hb;obtain ⟨ys,e | ⟨o,e⟩⟩:=t
 ·cases e
 ·cases e) hb
theorem take_snoc{α:Type}{l:List α}{i:Nat}{x:α}(h:l[i]?=some x):l.take (i+1)=l.take i++[x]:=by rw[Co,h];rfl
theorem Dv(z:Int)(j:Addr)(h:Int){m:Str}(h1:¬ m = "head")(h2:¬ m = "rows")(h3:¬ m = "amount"):(flds z j h).lookup m=none:=by
 unfold flds;rw[Ag,if_neg h1,Ag,if_neg h2,Ag,if_neg h3]
 all_goals rfl
theorem YB{X:Cx}{K:Au}(hK:X.K=K):OpR X (FI .Add) (rAddT K):=by subst hK;exact AAk
theorem AAu{n:Nat}{rows:List Row}(o:Ok n rows)(j:Nat):Ok n (rows.take j):=λi q e=>by
 have il:=(AH.mp e).1;have ij:i<j:=by rw[BG] at il;lia
 obtain ⟨h1,h2,h3⟩:=o i q (by rw[Fc ij] at e;exact e);have low:∀l,Low rows q.1 (i+2) l->Low (rows.take j) q.1 (i+2) l:=λl ⟨a,b⟩=>⟨a,b.imp id λ⟨u,e,z⟩=>⟨u,by rw[Fc (by lia)];exact e,z⟩⟩;exact ⟨h1,low _ h2,low _ h3⟩
theorem Ov{n:Nat}{rows:List Row}{k:Nat}{L:List (List Nat)}(I:InOrder n rows k L):L.length<=2 ^ n:=by
 have h:(L.map (num n)).Pairwise (· < ·):=by rw[CY];exact I.ord
 have z:=ST.Bg (l₁:=L.map (num n)) (l₂:=AX (2 ^ n)) (h.imp λ{a b} h=>B2 h) λx hx=>by
  obtain ⟨s,hs,rfl⟩:=BQ.mp hx;obtain ⟨w1,w2⟩:=I.way s hs;have:=SM (n:=n) (t:=0) w1 λx hx=>⟨BH _,(w2 x hx).2⟩;exact A2.mpr this
 rw[AE,CI] at z;exact z
theorem AAh{n:Nat}{s:List Nat}(h:s.Pairwise (· < ·))(hs:∀x∈s,x<n):s.length<=n:=by
 have z:=ST.Bg (l₁:=s) (l₂:=AX n) (h.imp λ{a b} h=>B2 h) λx hx=>A2.mpr (hs x hx);rw[CI] at z;exact z
theorem pow12{n:Nat}(h:n<=12):2 ^ n<=4096:=Fm (by decide) h
def rTies(K:Au)(H:Hp)(s:List Nat)(v:V):Prop:=∃p,v=.ref p/\H p=some (.tup ((up s).map V.int))
theorem Ey{K:Au}{H H':Hp}{ss:List (List Nat)}{ys:List V}(t:TSm H H')(h:BE (rTies K H) ss ys):BE (rTies K H') ss ys:=Paired.imp (λ_ _ ⟨p,e,hp⟩=>⟨p,e,t p _ hp ⟨_,.inl rfl⟩⟩) h
def rSets(K:Au)(H0:Hp)(S:Addr)(H:Hp)(ss:List (List Nat))(v:V):Prop:=∃p ys,v=.ref p/\H0 p=none/\p≠S/\H p=some (.lst ys)/\BE (rTies K H) ss ys
theorem Mu{K:Au}{H0:Hp}{S:Addr}{H H':Hp}{xs:List V}{ss:List (List Nat)}{v:V}(e:∀b o,b≠S->H b=some o->H' b=some o)(hS:H S=some (.lst xs))(h:rSets K H0 S H ss v):rSets K H0 S H' ss v:=by
 obtain ⟨p,ys,rfl,h0,ne,hp,pr⟩:=h;exact ⟨p,ys,rfl,h0,ne,e _ _ ne hp,Ey (tsX e hS) pr⟩
def Yt(K:Au)(C:Addr):Sp:=λvs H Q _=>∃(p:Addr) (n hd:Nat) (rows:List Row),vs=[.ref p]/\SvAt K C H p n rows hd/\Ok n rows/\Knot rows hd/\n<=12/\rows.length<=4000 /\
 ∀(L:Addr) (ys:List V) (H':Hp),Same H H'->H L=none->H' L=some (.lst ys)->BE (rTies K H') (setsOf rows hd) ys->Q (.ref L) H'
section
variable{P:AL}{w:AQ}{K:Au}{mg:Str->Option Ap}{base:Heap}{f C:Addr}{fd:BV}
theorem Ti:FnScope ["sieve","sets","row"] ["sieve"] (Ac Km):=⟨rfl,rfl,rfl,by decide +kernel,rfl,by decide +kernel,by decide +kernel⟩
theorem AAQ{fK fT:Addr}{fdK fdT:BV}(F:Fun K "sets_of" "sets_of" Km f fd)(T:Txt K mg C)
  (GK:FnOk P w K mg base CX0 1 fK fdK ["self"] (Uh K C)) (bK:Binds K fdK ["self"] []) (mK:Meth K C "knots" fK)
  (GT:FnOk P w K mg base CX0 1 fT fdT ["self"] (ABS K C)) (bT:Binds K fdT ["self"] []) (mT:Meth K C "top" fT) :
  FnOk P w K mg base CX0 2 f fd ["sieve"] (Yt K C):=by
 refine F.ok Ti (λvs H Q E h=>?_) (λcdv A outer s H vs Q E hr h=>?_)
 ·obtain ⟨p,n,hd,rows,rfl,_⟩:=h
  rfl
 obtain ⟨p,n,hd,rows,rfl,hV,ok,kn,n12,r9,q⟩:=h;have hr1:Room 1 _:=hr.mono (by decide);refine ⟨_,Ah (BJ (i:=1) Ti.nd rfl (B3 rfl) (Dq (Aa (Dq Af) (Aa (Dq (Aa (Cd Af) Af)) Af))))
  (Ah (Dg D1 rfl (CG (Ek (pv 0) T.cl mK GK hr1 bK .nil pass0)) (Aq (i:=2) Ti.nd rfl (IE rfl))
   (Aj (DY (Ke D3 DT DU CZ (pv 1) (Aa (Ar Uz (Bl Dz (pv 1) (Bl Eb (pv 2) Ai (λ_ _=>rfl)) (λ_ _=>rfl))
    (Ca (Ac Km) ["some"] ["row"] [2] rfl rfl (by decide +kernel) ⟨⟨rfl,by decide +kernel⟩,trivial⟩ (CG (Bl Dz (pv 1) (Bl Eb (pv 2) Ai (λ_ _=>rfl)) (λ_ _=>rfl)))
     (λ_ _ _=>Aq (i:=0) (show ((["some"]:List Str)++(["row"]:List Str)).Nodup by decide +kernel) rfl (B3 rfl)) (λ_ _ _=>FW)
     (λ_ _ _=>Ar (YB (K:=K) rfl) (Cd (Aa (Bl (Jf (K:=K) rfl) (pv 1) Ai (λ_ _=>rfl)) Af)) (pv 0)))) Af)))))
  (Aj (Ay (Bl Dz (pv 1) (Ek (pv 0) T.cl mT GT hr1 bT .nil pass0) (λ_ _=>rfl))))),?_⟩
 obtain ⟨dx,jj,hp,_⟩:=id hV;refine ⟨BH _,λL0 hL0=>⟨BH _,λT0 hT0=>⟨(by show 1<=sizeLine;decide),λL1 hL1=>⟨(by show 2<=sizeLine;decide),λS hS=>?_⟩⟩⟩⟩;have sA:=Same.new hL0 (.lst []);have sB:=Same.new hT0 (.tup []);have sC:=Same.new hL1 (.lst [.ref T0]);have sD:=Same.new hS (.lst [.ref L0,.ref L1]);have s0:=sA.trans (sB.trans (sC.trans sD));have hSn:H S=none:=by
  rcases h:H S with _ | o
  ·rfl
  ·rw[(sA.trans (sB.trans sC)) _ _ h] at hS
   cases hS
 have n1:H L1=none:=by
  rcases h:H L1 with _ | o
  ·rfl
  ·rw[(sA.trans sB) _ _ h] at hL1
   cases hL1
 have e0:=(sB.trans (sC.trans sD)) _ _ (Ab (H:=H) (a:=L0) (o:=.lst []));have eT:=(sC.trans sD) _ _ (Ab (H:=upd H L0 (.lst [])) (a:=T0) (o:=.tup []));have e1:=sD _ _ (Ab (H:=upd (upd H L0 (.lst [])) T0 (.tup [])) (a:=L1) (o:=.lst [.ref T0]));have eS:(upd (upd (upd (upd H L0 (.lst [])) T0 (.tup [])) L1 (.lst [.ref T0])) S (.lst [.ref L0,.ref L1])) S=some (.lst [.ref L0,.ref L1]):=Ab;have neS0:L0≠S:=Ad ((sB.trans sC) _ _ (Ab (H:=H) (a:=L0) (o:=.lst []))) hS;have neS1:L1≠S:=Ad (Ab (H:=upd (upd H L0 (.lst [])) T0 (.tup [])) (a:=L1) (o:=.lst [.ref T0])) hS;generalize upd (upd (upd (upd H L0 (.lst [])) T0 (.tup [])) L1 (.lst [.ref T0])) S (.lst [.ref L0,.ref L1])=H1 at s0 e0 eT e1 eS;refine ⟨_,rfl,p,dx,_,rfl,s0 _ _ hp,Dv _ _ _ (by decide +kernel) (by decide +kernel) (by decide +kernel),p,n,hd,rows,rfl,hV.same s0,λl ys H2 s2 hl el px=>?_⟩;have lS:l≠S:=λe=>by
  rw[e,eS] at hl;cases hl
 have lx:=AY px;refine ⟨l,rfl,⟨_,SqL.of el⟩,?_⟩;refine Cy (K:=K) (a:=l) (xs:=ys) (λi σ H3=>∃(o:Option V) (xs:List V),σ=[some (.ref p),some (.ref S),o]/\(∀b u,b≠S->H2 b=some u->H3 b=some u)/\H3 S=some (.lst xs)/\BE (rSets K H S H3) (setsUp (rows.take i)) xs)
  ⟨none,_,rfl,λb u _ e=>e,s2 _ _ eS,?_⟩ (λi σ H3 _ ⟨_,_,_,sm,_,_⟩=>SqL.of (sm _ _ lS el)) ?_ ?_
 ·exact .cons ⟨L0,[],rfl,hL0,neS0,s2 _ _ e0,.nil⟩ (.cons ⟨L1,[.ref T0],rfl,n1,neS1,s2 _ _ e1,Paired.one ⟨T0,rfl,s2 _ _ eT⟩⟩ .nil)
 ·rintro i x σ H3 hx ⟨o,xs,rfl,sm,eS3,pS⟩
  have il:i<rows.length:=by rw[lx];exact (AH.mp hx).1
  obtain ⟨r,hr',b,rfl,hb⟩:=Paired.get px hx;have hb3:=(tsX sm (s2 _ _ eS)).seq hb;have okt:=AAu ok i;have lt:(rows.take i).length=i:=by rw[BG];lia
  obtain ⟨t1,lo1,lo2⟩:=ok i r hr';have kno:Knot (rows.take i) r.2.1:=by
   have:=lo1.1;show r.2.1<_;rw[lt];lia
  have kni:Knot (rows.take i) r.2.2:=by
   have:=lo2.1;show r.2.2<_;rw[lt];lia
  have IO:=Hw _ _ rfl okt _ kno;have II:=Hw _ _ rfl okt _ kni;have lO:=Ov IO;have lI:=Ov II;have p12:=pow12 n12;have lxs:=AY pS;rw[Cm,lt] at lxs;have at_:∀k,Knot (rows.take i) k->∃v,xs[k]?=some v/\rSets K H S H3 (setsOf (rows.take i) k) v:=λk hk=>by
   have kl:k<(setsUp (rows.take i)).length:=by rw[Cm];exact hk
   obtain ⟨v,h1,h2⟩:=Paired.getL pS (AI kl);refine ⟨v,h1,?_⟩;unfold setsOf;rw[AB,AI kl];exact h2
  obtain ⟨_,hvo,Lo,yo,rfl,o0,oS,eo,po⟩:=at_ _ kno;obtain ⟨_,hvi,Li,yi,rfl,i0,iS,ei,pi_⟩:=at_ _ kni;have lyo:=AY po;have lyi:=AY pi_;refine ⟨_,rfl,.inl ⟨rfl,_,SqL.of eS3⟩,_,rfl,_,rfl,b,_,_,_,rfl,rfl,hb3,at1,S,_,_,_,rfl,rfl,SqL.of eS3,Dd hvo,?_⟩;refine ⟨_,rfl,_,rfl,b,_,_,_,rfl,rfl,hb3,at2,S,_,_,_,rfl,rfl,SqL.of eS3,Dd hvi,Li,rfl,⟨_,SqL.of ei⟩,λD hD=>?_⟩;refine Cj (K:=K) (a:=Li) (xs:=yi) (λj τ H4=>∃(o:Option V) (zs:List V),τ=[o,some (.ref b)]/\Same H3 H4/\H4 D=some (.lst zs)/\BE (rTies K H4) (((setsOf (rows.take i) r.2.2).take j).map (r.1::·)) zs) ⟨none,[],rfl,Same.new hD _,Ab,.nil⟩ (λj τ H4 _ ⟨_,_,_,s3,_⟩=>s3.seq (SqL.of ei)) ?_ ?_
  ·rintro j y τ H4 hy ⟨o,zs,rfl,s4,eD,pz⟩
   obtain ⟨u,hu,ru⟩:=Paired.get pi_ hy;have jl:j<(setsOf (rows.take i) r.2.2).length:=(AH.mp hu).1;obtain ⟨w1,w2⟩:=II.way u (A8 hu);have ul:=AAh w1 λx hx=>(w2 x hx).2;obtain ⟨c,rfl,hc0⟩:=ru;have hc:SqT K H4 c ((up u).map V.int):=SqT.of (s4 _ _ hc0);have hb4:=s4.ts.seq hb3;have lz:=AY pz;rw[AE,BG] at lz;refine ⟨_,rfl,b,_,_,_,rfl,rfl,hb4,at0,(by show 1<=sizeLine;decide),λT1 hT1=>?_⟩;have s5:=Same.new hT1 (.tup [.int (r.1:Int)]);have hc5:=s5.ts.seq hc;have eT1:(upd H4 T1 (.tup [.int (r.1:Int)])) T1=some (.tup [.int (r.1:Int)]):=Ab;have fin:∀(c2:Addr) (H6:Hp),Same H4 H6->H6 c2=some (.tup ((up (r.1::u)).map V.int))->∃ys,H6 D=some (.lst ys)/\ys.length<sizeLine/\∃(o:Option V) (zs:List V),[some (V.ref c),some (V.ref b)]=[o,some (V.ref b)]/\Same H3 (upd H6 D (.lst (ys++[.ref c2])))/\(upd H6 D (.lst (ys++[.ref c2]))) D=some (.lst zs)/\BE (rTies K (upd H6 D (.lst (ys++[.ref c2])))) (((setsOf (rows.take i) r.2.2).take (j+1)).map (r.1::·)) zs:=λc2 H6 s6 h6=>by
    have eD6:=s6 _ _ eD;have tl:=TSm.lst (o:=.lst (zs++[.ref c2])) eD6;refine ⟨zs,eD6,Ev (show zs.length<=4096 by lia) (by decide),_,_,rfl,λb' o' e'=>?_,Ab,?_⟩
    ·rw[Ae (Ad e' hD)]
     exact s6 _ _ (s4 b' o' e')
    ·rw[take_snoc hu,Ct]
     exact Paired.app (Ey tl (Ey s6.ts pz)) (Paired.one (show rTies K _ (r.1::u) (.ref c2) from⟨c2,rfl,tl _ _ h6 ⟨_,.inl rfl⟩⟩))
   refine ⟨_,rfl,T1,c,_,_,rfl,rfl,SqT.of eT1,hc5,BM (show _<=100000 by rw[AE];unfold up;rw[AE];show 1+_<=100000;lia) (by decide),λz=>(by cases z),λ_ z=>?_,λ_ z T2 hT2=>?_⟩
   ·have u0:u=[]:=by
     cases u with
     | nil=>rfl
     | cons a t=>cases z
    subst u0;exact fin T1 _ s5 eT1
   ·exact fin T2 _ (s5.trans (Same.new hT2 _)) Ab
  ·rintro τ H4 ⟨o,zs,rfl,s4,eD,pz⟩
   have lz:=AY pz;rw[<- lyi,CU] at pz lz;rw[AE] at lz;refine ⟨Lo,D,_,_,rfl,rfl,SqL.of (s4 _ _ eo),SqL.of eD,BM (show _<=8192 by lia) (by decide),λN hN=>?_⟩;have s5:=Same.new hN (.lst (yo++zs));have s6:=s4.trans s5;have eS6:=s6 _ _ eS3;have neN:N≠S:=λe=>by
    rw[e,s4 _ _ eS3] at hN;cases hN
   have hN0:H N=none:=by
    rcases h:H N with _ | u
    ·rfl
    ·have h2:H2 N=some u:=s2 _ _ (s0 _ _ h)
     rw[s4 _ _ (sm _ _ neN h2)] at hN;cases hN
   refine ⟨S,xs,_,rfl,rfl,eS6,Ev (show xs.length<=100000 by lia) (by decide),?_⟩;have k7:∀b u,b≠S->upd H4 N (.lst (yo++zs)) b=some u->upd (upd H4 N (.lst (yo++zs))) S (.lst (xs++[.ref N])) b=some u:=λb u ne e=>by rw[Ae ne];exact e
   refine ⟨_,_,rfl,λb u ne e=>k7 _ _ ne (s6 _ _ (sm b u ne e)),Ab,?_⟩;rw[take_snoc hr',Fl];unfold addRow;refine Paired.app (Paired.imp (λa v h=>Mu k7 eS6 (Mu (λb u _ e=>s6 b u e) eS3 h)) pS) (Paired.one ⟨N,_,rfl,hN0,neN,k7 _ _ neN Ab,?_⟩);have t7:=tsX k7 eS6;exact Ey t7 (Ey s5.ts (Paired.app (Ey s4.ts po) pz))
 ·rintro σ H3 ⟨o,xs,rfl,sm,eS3,pS⟩
  have tr:rows.take ys.length=rows:=by rw[<- lx,CU]
  rw[tr] at pS;have hV3:SvAt K C H3 p n rows hd:=by
   refine SvAt.same hV λb u e=>sm b u (Ad e hSn) (s2 _ _ (s0 b u e))
  have sH:Same H H3:=λb u e=>sm b u (Ad e hSn) (s2 _ _ (s0 b u e));refine ⟨_,rfl,_,rfl,p,dx,_,rfl,sH _ _ hp,Dv _ _ _ (by decide +kernel) (by decide +kernel) (by decide +kernel),p,n,hd,rows,rfl,hV3,?_⟩;have kl:hd<(setsUp rows).length:=by rw[Cm];exact kn
  obtain ⟨v,h1,L,zs,rfl,L0',LS,eL,pL⟩:=Paired.getL pS (AI kl);refine ⟨S,_,_,_,rfl,rfl,SqL.of eS3,Dd h1,q L zs H3 sH L0' eL ?_⟩;unfold setsOf;rw[AB,AI kl];exact pL
end
end K54s
end
section
namespace K54
open PySem L2 G
variable{u:Ru}
structure Gro(K:Au)(mg:Str->Option Ap)(Gc:Addr):Prop where
 cl:Cls K Gc
 mgG:mg "Growth" = some (.ref Gc)
 nW:NoAttr K Gc "web"
 nU:NoAttr K Gc "rule"
 nA:NoAttr K Gc "amount"
 nB:NoAttr K Gc "behind"
 nR:NoAttr K Gc "rows"
 nK:NoAttr K Gc "known"
def gf(W r:Addr)(n:Int)(Bh R D:Addr):List (Str×V):=putF "known" (.ref D) (putF "rows" (.ref R) (putF "behind" (.ref Bh) (putF "amount" (.int n) (putF "rule" (.ref r) (putF "web" (.ref W) [])))))
section
variable (W r Bh R D:Addr)(n:Int)
theorem Jp:(gf W r n Bh R D).lookup ("known" : Str)=some (.ref D):=by unfold gf;rw[Ag,if_pos rfl]
theorem Nr:(gf W r n Bh R D).lookup ("rows" : Str)=some (.ref R):=by unfold gf;rw[Ag,if_neg (by decide +kernel),Ag,if_pos rfl]
theorem Wv:(gf W r n Bh R D).lookup ("behind" : Str)=some (.ref Bh):=by unfold gf;rw[Ag,if_neg (by decide +kernel),Ag,if_neg (by decide +kernel),Ag,if_pos rfl]
theorem Mf:(gf W r n Bh R D).lookup ("amount" : Str)=some (.int n):=by unfold gf;rw[Ag,if_neg (by decide +kernel),Ag,if_neg (by decide +kernel),Ag,if_neg (by decide +kernel),Ag,if_pos rfl]
theorem Je:(gf W r n Bh R D).lookup ("rule" : Str)=some (.ref r):=by unfold gf;rw[Ag,if_neg (by decide +kernel),Ag,if_neg (by decide +kernel),Ag,if_neg (by decide +kernel),Ag,if_neg (by decide +kernel),Ag,if_pos rfl]
theorem PB:(gf W r n Bh R D).lookup ("web" : Str)=some (.ref W):=by unfold gf;rw[Ag,if_neg (by decide +kernel),Ag,if_neg (by decide +kernel),Ag,if_neg (by decide +kernel),Ag,if_neg (by decide +kernel),Ag,if_neg (by decide +kernel),Ag,if_pos rfl]
theorem Us{m:Str}(h1:¬ m = "known")(h2:¬ m = "rows")(h3:¬ m = "behind")(h4:¬ m = "amount")(h5:¬ m = "rule")(h6:¬ m = "web"):(gf W r n Bh R D).lookup m=none:=by
 unfold gf;rw[Ag,if_neg h1,Ag,if_neg h2,Ag,if_neg h3,Ag,if_neg h4,Ag,if_neg h5,Ag,if_neg h6]
 all_goals rfl
end
structure Gr(u:Ru)(K:Au)(C Dc Gc:Addr)(g W r Bh R D:Addr)(z:Nat)(bs:List (List Int))(H:Hp):Prop where
 ins:∃dx,H g=some (.ins Gc dx (gf W r bs.length Bh R D))
 web:WebAt K C H W z bs
 rul:∃dx,H r=some (.ins Dc dx u.rf)
 beh:∃ys,H Bh=some (.lst ys)/\Bh≠R/\BE (λt v=>∃l,v=.ref l/\l≠R/\H l=some (.lst (nI (behP bs z t)))) (AX (bs.length+1)) ys
section
variable{K:Au}{C Dc Gc g W r Bh R D:Addr}{z:Nat}{bs:List (List Int)}{H H':Hp}{xs:List V}{φ:Heap->Prop}
theorem tsRD(e:∀b o,b≠R->b≠D->H b=some o->H' b=some o)(hR:H R=some (.lst xs))(hD:H D=some (.ext φ)):TSm H H':=λb u hb t=>by
 have ne:∀{x:Addr}{o:HO},H x=some o->(∀ys,o≠.tup ys)->(∀q ys,o≠.frz q (.tup ys))->b≠x:=λ{x o} hx h1 h2 zz=>by
  rw[zz,hx] at hb;cases hb;obtain ⟨ys,e | ⟨q,e⟩⟩:=t
  ·exact h1 ys e
  ·exact h2 q ys e
 exact e b u (ne hR (by intro _ z;cases z) (by intro _ _ z;cases z)) (ne hD (by intro _ z;cases z) (by intro _ _ z;cases z)) hb
theorem Gr.keep(h:Gr u K C Dc Gc g W r Bh R D z bs H)(e:∀b o,b≠R->b≠D->H b=some o->H' b=some o)(hR:H R=some (.lst xs))(hD:H D=some (.ext φ)):Gr u K C Dc Gc g W r Bh R D z bs H':=by
 have ts:=tsRD e hR hD;have ni:∀{x c dx:Addr}{fs:List (Str×V)},H x=some (.ins c dx fs)->H' x=some (.ins c dx fs):=λ{x c dx fs} hx=>e _ _ (Bu hx hR (by intro z;cases z)) (Bu hx hD (by intro z;cases z)) hx;have nl:∀{x:Addr}{l:List V},x≠R->H x=some (.lst l)->H' x=some (.lst l):=λ{x l} hn hx=>e _ _ hn (Bu hx hD (by intro z;cases z)) hx;obtain ⟨d1,i1⟩:=h.ins;obtain ⟨d2,j,i2,i3⟩:=h.web;obtain ⟨d3,i4⟩:=h.rul;obtain ⟨ys,b1,b2,b3⟩:=h.beh;exact ⟨⟨d1,ni i1⟩,⟨d2,j,ni i2,Ao (Ao Av) _ _ _ _ ts i3⟩,⟨d3,ni i4⟩,⟨ys,nl b2 b1,b2,Paired.imp (λt v ⟨l,c1,c2,c3⟩=>⟨l,c1,c2,nl c2 c3⟩) b3⟩⟩
theorem Gr.same(h:Gr u K C Dc Gc g W r Bh R D z bs H)(e:Same H H'):Gr u K C Dc Gc g W r Bh R D z bs H':=by
 obtain ⟨d1,i1⟩:=h.ins;obtain ⟨d3,i4⟩:=h.rul;obtain ⟨ys,b1,b2,b3⟩:=h.beh;exact ⟨⟨d1,e _ _ i1⟩,h.web.same e,⟨d3,e _ _ i4⟩,⟨ys,e _ _ b1,b2,Paired.imp (λt v ⟨l,c1,c2,c3⟩=>⟨l,c1,c2,e _ _ c3⟩) b3⟩⟩
end
theorem Mp:∀(l:List Nat) (st:Sta) (p:Nat),passT u.al st (l++[p])=(passT u.al st l).bind λs=>if u.al (s.getD p 0)=true then some (s.set p 0) else none
 | [],st,p=>by
  show passT u.al st [p]=(some st).bind _;unfold passT;show (if _ then passT u.al _ [] else none)=_;rfl
 | q::l,st,p=>by
  show passT u.al st (q::(l++[p]))=_;unfold passT;by_cases c:u.al (st.getD q 0)=true
  ·rw[if_pos c,if_pos c,Mp l]
  ·rw[if_neg c,if_neg c]
   rfl
def Sh(u:Ru)(K:Au)(C Dc Gc:Addr):Sp:=λvs H Q _=>∃(g W r Bh R D:Addr) (z t:Nat) (bs:List (List Int)) (v:V) (o:Option Sta),vs=[.ref g,.int t,v]/\Gr u K C Dc Gc g W r Bh R D z bs H/\z<=10/\t<=bs.length/\RS z H v o /\
 ∀(v':V) (H':Hp),Same H H'->RS z H' v' (o.bind λr=>pasT u.al (Lp bs) z t r)->Q v' H'
section
variable{P:AL}{w:AQ}{K:Au}{mg:Str->Option Ap}{base:Heap}{f C D Gc:Addr}{fd:BV}
theorem PJ:FnScope ["self","number","reached","state","point"] ["self","number","reached"] (Ac Mw):=⟨rfl,rfl,rfl,by decide +kernel,rfl,by decide +kernel,by decide +kernel⟩
theorem AAP{fP:Addr}{fdP:BV}(F:Fun K "past_points" "Growth.past_points" Mw f fd)(U:Rul u K mg D)(O:Gro K mg Gc)(GP:FnOk P w K mg base CX0 2 fP fdP ["self","web","state","point"] (Pq u D))(bP:Binds K fdP ["self","web","state","point"] [])(mP:Meth K D "passed" fP) :
  FnOk P w K mg base CX0 3 f fd ["self","number","reached"] (Sh u K C D Gc):=by
 refine F.ok PJ (λvs H Q E h=>?_) (λcdv A outer s H vs Q E hr h=>?_)
 ·obtain ⟨g,W,r,Bh,R,Dk,z,t,bs,v,o,rfl,_⟩:=h
  rfl
 obtain ⟨g,W,r,Bh,R,Dk,z,t,bs,v,o,rfl,gr,z10,tb,rs,q⟩:=h;refine ⟨_,Ah (BJ (i:=3) PJ.nd rfl (B3 rfl) (pv 2))
  (Ah (Dg D1 rfl (CG (Bl Dz (Bd (pv 0) rfl) (pv 1) (λ_ _=>rfl))) (Aq (i:=4) PJ.nd rfl (B3 rfl))
   (Aj (CQ (Jr (AAf (pv 3))) (Aj (BJ (i:=3) PJ.nd rfl (B3 rfl) (CV (Bd (pv 0) rfl) U.cl mP GP hr bP .nil pass0 (Aa (Bd (pv 0) rfl) (Aa (pv 3) (Aa (pv 4) Af)))))) Bc)))
  (Aj (Ay (pv 3)))),?_⟩
 obtain ⟨dg,hg⟩:=gr.ins;obtain ⟨dr,hr0⟩:=gr.rul;obtain ⟨ys,hB,_,pB⟩:=gr.beh;have lB:=AY pB;rw[CI] at lB;have tl:t<ys.length:=by lia
 obtain ⟨t',ht',l,el,_,hl⟩:=Paired.get pB (AI tl);have et:t'=t:=by
  have:=(AH.mp ht').2;rw[List.getElem_range] at this;exact this.symm
 subst et;have hat:atI ys (t':Int)=some (.ref l):=by
  rw[<- el];exact Dd (AI tl)
 refine ⟨_,rfl,?_⟩;refine ⟨_,rfl,g,Gc,dg,_,_,rfl,hg,O.cl,O.nB,Wv _ _ _ _ _ _,_,rfl,Bh,ys,_,_,rfl,rfl,SqL.of hB,hat,l,rfl,⟨_,SqL.of hl⟩,?_⟩;refine Cy (K:=K) (a:=l) (xs:=nI (behP bs z t')) (λi σ H2=>∃(v':V) (o4:Option V),σ=[some (.ref g),some (.int t'),some v,some v',o4]/\Same H H2/\RS z H2 v' (o.bind λr=>passT u.al r ((behP bs z t').take i)))
  ⟨v,none,rfl,Same.refl _,by
   have e:(o.bind λr=>passT u.al r ((behP bs z t').take 0))=o:=by cases o<;>rfl
   rw[e];exact rs⟩ (λi σ H2 _ ⟨_,_,_,s2,_⟩=>s2.seq (SqL.of hl)) ?_ ?_
 ·rintro i x σ H2 hx ⟨v',o4,rfl,s2,rs2⟩
  obtain ⟨pt,hp,rfl⟩:=ACc hx;have pz:pt<z:=A2.mp (B7.mp (A8 hp)).1;have step:(o.bind λr=>passT u.al r ((behP bs z t').take (i+1)))=(o.bind λr=>passT u.al r ((behP bs z t').take i)).bind λs=>if u.al (s.getD pt 0)=true then some (s.set pt 0) else none:=by
   cases o with
   | none=>rfl
   | some r =>
    show passT u.al r _=(passT u.al r _).bind _;rw[Co,hp];exact Mp _ _ _
  cases e:(o.bind λr=>passT u.al r ((behP bs z t').take i)) with
  | none =>
   rw[e] at rs2 step;cases rs2;refine ⟨_,rfl,_,rfl,iteF ⟨.non,_,rfl,s2,?_⟩⟩;rw[step];exact rfl
  | some st =>
   rw[e] at rs2 step;obtain ⟨b,rfl,hb,sl⟩:=rs2;refine ⟨_,rfl,_,rfl,iteT ?_⟩;refine ⟨_,rfl,g,Gc,dg,_,_,rfl,s2 _ _ hg,O.cl,O.nU,Je _ _ _ _ _ _,r,dr,_,rfl,s2 _ _ hr0,U.no (by decide +kernel),_,rfl,g,Gc,dg,_,_,rfl,s2 _ _ hg,O.cl,O.nW,PB _ _ _ _ _ _,_,rfl,_,rfl,.non,.ref W,b,dr,r,pt,st,rfl,s2 _ _ hr0,hb,by lia,by lia,λc b' H3 s3 hb'=>?_,λc H3 s3=>?_⟩
   ·refine ⟨_,_,rfl,s2.trans s3,?_⟩
    rw[step];show RS z H3 _ (if _ then _ else _);rw[if_pos c];exact ⟨b',rfl,hb',by rw[K7];exact sl⟩
   ·refine ⟨_,_,rfl,s2.trans s3,?_⟩
    rw[step];show RS z H3 _ (if _ then _ else _);rw[if_neg c];exact rfl
 ·rintro σ H2 ⟨v',o4,rfl,s2,rs2⟩
  rw[Ye,CU] at rs2;exact ⟨_,rfl,q v' H2 s2 rs2⟩
end
variable{u:Ru}
abbrev semC(u:Ru)(bs:List (List Int))(z d t:Nat):Option Sta->List Nat->Bool:=semG lefC (takT u.al (onB bs)) (pasT u.al (Lp bs) z) (λ_=>true) d t
abbrev keyC(t:Nat)(st:Sta):PKey:=(.inl (t:Int),st.map Db)
theorem QS{t t':Nat}{st st':Sta}(h:keyC t st=keyC t' st'):t=t'/\st=st':=by
 have h1:=congrArg U0 h;have h2:=congrArg Prod.snd h;refine ⟨?_,?_⟩
 ·have:(Db (t:Int):Key)=Db (t':Int):=h1
  injection this with this
  lia
 ·have h2':st.map (Db:Int->Key)=st'.map Db:=h2
  clear h h1 h2
  induction st generalizing st' with
  | nil=>cases st' with
   | nil=>rfl
   | cons=>cases h2'
  | cons a st ih =>
   cases st' with
   | nil=>cases h2'
   | cons b st' =>
    rw[BO,BO] at h2';injection h2' with e1 e2
    injection e1 with e1
    rw[e1,ih e2]
def Known(u:Ru)(bs:List (List Int))(z:Nat)(rows:List Row)(kvs:List (PKey×V)):Prop:=∀(t:Nat) (st:Sta) (v:V),valV kvs (keyC t st)=some v->∃k:Nat,v=.int k/\t<bs.length/\Lead rows t k (stepS lefC (takT u.al (onB bs)) t (semC u bs z (bs.length-1-t) (t+1)) st)
theorem Known.app{bs:List (List Int)}{z:Nat}{rows more:List Row}{kvs:List (PKey×V)}(o:Ok bs.length rows)(h:Known u bs z rows kvs):Known u bs z (rows++more) kvs:=λt st v hv=>let ⟨k,e,tl,ld⟩:=h t st v hv;⟨k,e,tl,ld.app o⟩
theorem Sx{H:Hp}{x b:Addr}{t:Nat}{st:Sta}(hx:H x=some (.tup [.int (t:Int),.ref b]))(hb:StAt H b st):NKey H (keyC t st) x:=by
 refine ⟨b,hx,?_⟩;have e:(st.map (Db:Int->Key)).map kV=st.map V.int:=by rw[Fn];rfl
 show H b=some (.tup ((st.map Db).map kV));rw[e];exact hb
structure Rw(u:Ru)(P:AL)(w:AQ)(K:Au)(R D:Addr)(bs:List (List Int))(z:Nat)(H:Hp)(rows:List Row)(kvs:List (PKey×V)):Prop where
 at_:∃xs,H R=some (.lst xs)/\BE (K54s.rRow K H) rows xs
 dn:DN P w H D kvs
 ok:Ok bs.length rows
 kn:Known u bs z rows kvs
 len:kvs.length<=rows.length
def Old(t:Nat)(kvs kvs':List (PKey×V)):Prop:=∀(t':Nat) (st:Sta),t'<t->valV kvs' (keyC t' st)=valV kvs (keyC t' st)
theorem ZR{bs:List (List Int)}{z d t:Nat}{o:Option Sta}(h:(o.bind λr=>pasT u.al (Lp bs) z t r)=none)(s:List Nat):semC u bs z d t o s=false:=by
 cases o with
 | none=>cases d<;>rfl
 | some r =>
  have h':pasT u.al (Lp bs) z t r=none:=h;cases d with
  | zero=>show (match pasT u.al (Lp bs) z t r with | none=>false | some st=>_)=false;rw[h']
  | succ d=>show (match pasT u.al (Lp bs) z t r with | none=>false | some st=>_)=false;rw[h']
theorem AAH{bs:List (List Int)}{z t:Nat}{o:Option Sta}{st:Sta}(h:(o.bind λr=>pasT u.al (Lp bs) z t r)=some st)(s:List Nat):semC u bs z 0 t o s=decide (s=[]):=by
 cases o with
 | none=>cases h
 | some r =>
  have h':pasT u.al (Lp bs) z t r=some st:=h;show (match pasT u.al (Lp bs) z t r with | none=>false | some st=>true&&decide (s=[]))=_;rw[h'];exact TB _
theorem Yy{bs:List (List Int)}{z d t:Nat}{o:Option Sta}{st:Sta}(h:(o.bind λr=>pasT u.al (Lp bs) z t r)=some st):semC u bs z (d+1) t o=stepS lefC (takT u.al (onB bs)) t (semC u bs z d (t+1)) st:=by
 funext s
 cases o with
 | none=>cases h
 | some r =>
  have h':pasT u.al (Lp bs) z t r=some st:=h;show (match pasT u.al (Lp bs) z t r with | none=>false | some st=>stepS lefC (takT u.al (onB bs)) t (semC u bs z d (t+1)) st s)=_;rw[h']
def Jl(u:Ru)(P:AL)(w:AQ)(K:Au)(C Dc Gc:Addr)(d:Nat):Sp:=λvs H Q _=>∃(g W r Bh R D:Addr) (z t:Nat) (bs:List (List Int)) (v:V) (o:Option Sta) (rows:List Row) (kvs:List (PKey×V)),vs=[.ref g,.int t,v]/\t+d=bs.length/\Gr u K C Dc Gc g W r Bh R D z bs H/\1<=z/\z<=10/\bs.length<=12/\RS z H v o/\Rw u P w K R D bs z H rows kvs/\rows.length+2 ^ d<=4100 /\
 ∀(k:Nat) (more:List Row) (kvs':List (PKey×V)) (H':Hp),(∀b o,b≠R->b≠D->H b=some o->H' b=some o)->Rw u P w K R D bs z H' (rows++more) kvs'->Lead (rows++more) t k (semC u bs z d t o)->Old t kvs kvs'->Cnt t more->more.length+1<=2 ^ d->Q (.int k) H'
section
variable{P:AL}{w:AQ}{K:Au}{R D:Addr}{bs:List (List Int)}{z:Nat}{H H':Hp}{rows:List Row}{kvs:List (PKey×V)}
theorem Rw.same(h:Rw u P w K R D bs z H rows kvs)(e:Same H H'):Rw u P w K R D bs z H' rows kvs:=by
 obtain ⟨xs,h1,h2⟩:=h.at_;exact ⟨⟨xs,e _ _ h1,Paired.imp (λ_ _ r=>K54s.CK _ _ _ _ e.ts r) h2⟩,h.dn.keep (λo=>e _ o) (λb ys=>e b _),h.ok,h.kn,h.len⟩
end
section
variable{P:AL}{w:AQ}{K:Au}{mg:Str->Option Ap}{base:Heap}{f C D Gc:Addr}{fd:BV}
theorem Fg:FnScope ["self","number","reached","state","without","having"] ["self","number","reached"] (Ac En):=⟨rfl,rfl,rfl,by decide +kernel,rfl,by decide +kernel,by decide +kernel⟩
theorem Kc(d:Nat){fP fL fT fU:Addr}{fdP fdL fdT fdU:BV}(F:Fun K "knot_at" "Growth.knot_at" En f fd)(T:Txt K mg C)(U:Rul u K mg D)(O:Gro K mg Gc)
  (GP:FnOk P w K mg base CX0 3 fP fdP ["self","number","reached"] (Sh u K C D Gc)) (bP:Binds K fdP ["self","number","reached"] []) (mP:Meth K Gc "past_points" fP)
  (GL:FnOk P w K mg base CX0 1 fL fdL ["self","web","state","number"] UJ) (bL:Binds K fdL ["self","web","state","number"] []) (mL:Meth K D "left" fL)
  (GT:FnOk P w K mg base CX0 2 fT fdT ["self","web","state","number"] (PX u K C D)) (bT:Binds K fdT ["self","web","state","number"] []) (mT:Meth K D "taken" fT)
  (GU:FnOk P w K mg base CX0 1 fU fdU ["self","web","state"] Xu) (bU:Binds K fdU ["self","web","state"] []) (mU:Meth K D "fulfilled" fU)
  {sp:Sp} (hsp:∀vs H Q E,d≠0->Jl u P w K C D Gc (d-1) vs H Q E->sp vs H Q E) (GK:FnOk P w K mg base CX0 (d+3) f fd ["self","number","reached"] sp) (bK:Binds K fd ["self","number","reached"] []) (mK:Meth K Gc "knot_at" f) :
  FnOk P w K mg base CX0 (d+4) f fd ["self","number","reached"] (Jl u P w K C D Gc d):=by
 refine F.ok Fg (λvs H Q E h=>?_) (λcdv A outer s H vs Q E hr h=>?_)
 ·obtain ⟨g,W,r,Bh,R,Dk,z,t,bs,v,o,rows,kvs,rfl,_⟩:=h
  rfl
 obtain ⟨g,W,r,Bh,R,Dk,z,t,bs,v,o,rows,kvs,rfl,td,gr,z1,z10,b8,rs,rw0,r6,q⟩:=h;have hr1:Room 1 _:=hr.mono (by lia);have hr2:Room 2 _:=hr.mono (by lia);have hr3:Room 3 _:=hr.mono (by lia);refine ⟨_,Ah (BJ (i:=3) Fg.nd rfl (B3 rfl) (CV (pv 0) O.cl mP GP hr3 bP .nil pass0 (Aa (pv 1) (Aa (pv 2) Af))))
  (Ah (CQ (Jr (ACT (pv 3))) (Aj (Ay Ai)) Bc)
  (Ah (CQ (Aw Fx (pv 1) (Bd (pv 0) rfl) (nomark _)) (Aj (Ay (HW (Ka (CV (Bd (pv 0) rfl) U.cl mU GU hr1 bU .nil pass0 (Aa (Bd (pv 0) rfl) (Aa (pv 3) Af)))) Ai Ai))) Bc)
  (Ow (CQ (Jr (WL (CW hr) (Cd (Aa (pv 1) (Aa (pv 3) Af))) (Bd (pv 0) rfl)) rfl)
   (Ah (BJ (i:=4) Fg.nd rfl (B3 rfl) (CV (pv 0) O.cl mK GK hr bK .nil pass0 (Aa (Ar Cg (pv 1) Ai) (Aa (CV (Bd (pv 0) rfl) U.cl mL GL hr1 bL .nil pass0 (Aa (Bd (pv 0) rfl) (Aa (pv 3) (Aa (pv 1) Af)))) Af))))
   (Ah (BJ (i:=5) Fg.nd rfl (B3 rfl) (CV (pv 0) O.cl mK GK hr bK .nil pass0 (Aa (Ar Cg (pv 1) Ai) (Aa (CV (Bd (pv 0) rfl) U.cl mT GT hr2 bT .nil pass0 (Aa (Bd (pv 0) rfl) (Aa (pv 3) (Aa (pv 1) Af)))) Af))))
   (Ah (DY (Ke D3 DT DU CZ (Bd (pv 0) rfl) (Aa (Cd (Aa (pv 1) (Aa (pv 4) (Aa (pv 5) Af)))) Af)))
   (Aj (AAx (CW hr) (Bd (pv 0) rfl) (Cd (Aa (pv 1) (Aa (pv 3) Af))) (Ar Cg (Bb Bf rfl T.len D7 (Aa (Bd (pv 0) rfl) Af)) Ai) rfl))))) Bc)
  (Aj (Ay (AAp (CW hr) (Bd (pv 0) rfl) (Cd (Aa (pv 1) (Aa (pv 3) Af))) (λ_ _=>rfl))))))),?_⟩
 obtain ⟨dg,hg⟩:=gr.ins;obtain ⟨dr,hr0⟩:=gr.rul;have p2:1<=2 ^ d:=P6;refine ⟨_,rfl,g,dg,_,rfl,hg,Us _ _ _ _ _ _ (by decide +kernel) (by decide +kernel) (by decide +kernel) (by decide +kernel) (by decide +kernel) (by decide +kernel),_,rfl,_,rfl,g,W,r,Bh,R,Dk,z,t,bs,v,o,rfl,gr,z10,by lia,rs,λv' H1 s1 rs1=>?_⟩;have gr1:=gr.same s1;have rw1:=rw0.same s1;have hg1:=s1 _ _ hg;have hr1':=s1 _ _ hr0;cases e:(o.bind λr=>pasT u.al (Lp bs) z t r) with
 | none =>
  rw[e] at rs1;cases rs1;refine ⟨_,rfl,_,rfl,iteT ?_⟩;exact q 0 [] kvs H1 (λb o _ _ e=>s1 _ _ e) (by rw[B9];exact rw1) (Wo (ZR e)) (λ_ _ _=>rfl) cnt_nil (by simpa using p2)
 | some st =>
  rw[e] at rs1;obtain ⟨b,rfl,hb,sl⟩:=rs1;refine ⟨_,rfl,_,rfl,iteF ?_⟩;refine ⟨_,rfl,_,rfl,g,Gc,dg,_,_,rfl,hg1,O.cl,O.nA,Mf _ _ _ _ _ _,rfl,_,rfl,?_⟩;by_cases d0:d=0
  ·subst d0
   refine iteP (by rw[show t=bs.length by lia]) ?_;refine ⟨_,rfl,g,Gc,dg,_,_,rfl,hg1,O.cl,O.nU,Je _ _ _ _ _ _,r,dr,_,rfl,hr1',U.no (by decide +kernel),_,rfl,g,Gc,dg,_,_,rfl,hg1,O.cl,O.nW,PB _ _ _ _ _ _,_,rfl,_,_,_,rfl,_,rfl,iteT ?_⟩;exact q 1 [] kvs H1 (λb o _ _ e=>s1 _ _ e) (by rw[B9];exact rw1) (Yk (AAH e)) (λ_ _ _=>rfl) cnt_nil (by simpa using p2)
  ·obtain ⟨d',rfl⟩:∃d',d=d'+1:=⟨d-1,by lia⟩
   have tn:t<bs.length:=by lia
   refine iteN (λz=>by injection z with z;lia) ?_;have pd:2 ^ (d'+1)=2 ^ d'+2 ^ d':=by rw[J0];lia
   have pd1:1<=2 ^ d':=P6;refine ⟨λσ' H'=>∃(o4 o5:Option V) (k:Nat) (more:List Row) (kvs':List (PKey×V)),σ'=[some (.ref g),some (.int t),some v,some (.ref b),o4,o5]/\(∀b o,b≠R->b≠Dk->H b=some o->H' b=some o)/\Gr u K C D Gc g W r Bh R Dk z bs H'/\Rw u P w K R Dk bs z H' (rows++more) kvs'/\valV kvs' (keyC t st)=some (.int k)/\Lead (rows++more) t k (semC u bs z (d'+1) t o)/\Old t kvs kvs'/\Cnt t more/\more.length+1<=2 ^ (d'+1)/\StAt H' b st,?_,?_⟩
   ·refine ⟨_,rfl,_,rfl,(by show 2<=sizeLine;decide),λx hx=>?_⟩
    have sx:=Same.new hx (.tup [.int (t:Int),.ref b]);have hg2:=sx _ _ hg1;have rw2:=rw1.same sx;have gr2:=gr1.same sx;have hb2:StAt (upd H1 x (.tup [.int (t:Int),.ref b])) b st:=sx _ _ hb;refine ⟨_,rfl,g,Gc,dg,_,_,rfl,hg2,O.cl,O.nK,Jp _ _ _ _ _ _,Dk,valV kvs (keyC t st),rfl,⟨kvs,keyC t st,x,rw2.dn,rfl,Sx Ab hb2,rfl⟩,_,rfl,?_⟩;have s2:=s1.trans sx;cases ev:valV kvs (keyC t st) with
    | some v0 =>
     obtain ⟨k,rfl,_,ld⟩:=rw0.kn t st v0 ev;refine iteF ⟨_,_,k,[],kvs,rfl,λb o _ _ e=>s2 _ _ e,gr2,by rw[B9];exact rw2,ev,?_,λ_ _ _=>rfl,cnt_nil,by simp;lia,hb2⟩;rw[B9,Yy e,show d'=bs.length-1-t by lia];exact ld
    | none =>
     refine iteT ?_;have hr2':=sx _ _ hr1';have e1:((t:Int)+1)=((t+1:Nat):Int):=by lia
     refine ⟨_,rfl,g,dg,_,rfl,hg2,Us _ _ _ _ _ _ (by decide +kernel) (by decide +kernel) (by decide +kernel) (by decide +kernel) (by decide +kernel) (by decide +kernel),_,rfl,_,_,rfl,rfl,_,rfl,g,Gc,dg,_,_,rfl,hg2,O.cl,O.nU,Je _ _ _ _ _ _,r,dr,_,rfl,hr2',U.no (by decide +kernel),_,rfl,g,Gc,dg,_,_,rfl,hg2,O.cl,O.nW,PB _ _ _ _ _ _,_,rfl,_,rfl,_,_,_,_,rfl,?_⟩;refine hsp _ _ _ _ (by lia) ⟨g,W,r,Bh,R,Dk,z,t+1,bs,.ref b,some st,rows,kvs,congrArg (λi=>[V.ref g,V.int i,V.ref b]) e1,by lia,gr2,z1,z10,b8,⟨b,rfl,hb2,sl⟩,rw2,by rw[EB];lia,λk1 more1 kvs1 H3 kp3 rw3 ld1 old1 cnt1 ml1=>?_⟩;rw[EB] at ld1 ml1;obtain ⟨xs2,eR2,_⟩:=id rw2.at_;obtain ⟨_,_,ax2,eD2,_⟩:=id rw2.dn;have gr3:=gr2.keep kp3 eR2 eD2;have ts3:=tsRD kp3 eR2 eD2;obtain ⟨dg3,hg3⟩:=gr3.ins;obtain ⟨dr3,hr3'⟩:=gr3.rul;have hb3:StAt H3 b st:=ts3 _ _ hb2 ⟨_,.inl rfl⟩;refine ⟨_,rfl,g,dg3,_,rfl,hg3,Us _ _ _ _ _ _ (by decide +kernel) (by decide +kernel) (by decide +kernel) (by decide +kernel) (by decide +kernel) (by decide +kernel),_,rfl,_,_,rfl,rfl,_,rfl,g,Gc,dg3,_,_,rfl,hg3,O.cl,O.nU,Je _ _ _ _ _ _,r,dr3,_,rfl,hr3',U.no (by decide +kernel),_,rfl,g,Gc,dg3,_,_,rfl,hg3,O.cl,O.nW,PB _ _ _ _ _ _,_,rfl,_,rfl,r,W,b,dr3,t,z,bs,st,rfl,hr3',gr3.web,hb3,tn,by lia,sl,λv' H4 s4 rs'=>?_⟩;have rw4:=rw3.same s4;have gr4:=gr3.same s4;refine hsp _ _ _ _ (by lia) ⟨g,W,r,Bh,R,Dk,z,t+1,bs,v',takT u.al (onB bs) t st,rows++more1,kvs1,congrArg (λi=>[V.ref g,V.int i,v']) e1,by lia,gr4,z1,z10,b8,rs',rw4,by rw[EB,BC];lia,λk2 more2 kvs2 H5 kp5 rw5 ld2 old2 cnt2 ml2=>?_⟩;rw[EB] at ld2 ml2;obtain ⟨xs4,eR4,_⟩:=id rw4.at_;obtain ⟨_,_,ax4,eD4,_⟩:=id rw4.dn;have gr5:=gr4.keep kp5 eR4 eD4;have ts5:=tsRD kp5 eR4 eD4;obtain ⟨dg5,hg5⟩:=gr5.ins;have hb5:StAt H5 b st:=ts5 _ _ (s4 _ _ hb3) ⟨_,.inl rfl⟩;obtain ⟨xs5,eR5,px5⟩:=id rw5.at_;obtain ⟨_,_,ax5,eD5,_⟩:=id rw5.dn;have lx5:=AY px5;refine ⟨_,rfl,g,Gc,dg5,_,_,rfl,hg5,O.cl,O.nR,Nr _ _ _ _ _ _,.inl ⟨rfl,_,SqL.of eR5⟩,_,rfl,_,rfl,_,rfl,(by show 3<=sizeLine;decide),λy hy=>?_⟩;have sy:=Same.new hy (.tup [.int (t:Int),.int (k1:Int),.int (k2:Int)]);have l5:xs5.length<=4100:=by
      rw[<- lx5];simp only[BC];lia
     refine ⟨R,_,_,rfl,rfl,sy _ _ eR5,smallN (by lia),?_⟩;obtain ⟨ok6,ld6⟩:=ZK (lef:=lefC) (tak:=takT u.al (onB bs)) (g:=semC u bs z d' (t+1)) (st:=st) rw5.ok tn (ld1.app rw3.ok) ld2;have RD:R≠Dk:=Bu eR5 eD5 (by intro z;cases z);have gR:g≠R:=Bu hg5 eR5 (by intro z;cases z);have eR6y:=sy _ _ eR5;have tl6:=TSm.lst (o:=.lst (xs5++[.ref y])) eR6y;have k6:∀c o,c≠R->H5 c=some o->(upd (upd H5 y (.tup [.int (t:Int),.int (k1:Int),.int (k2:Int)])) R (.lst (xs5++[.ref y]))) c=some o:=λc o h e=>by rw[Ae h];exact sy _ _ e
     have gr6:=gr5.keep (H':=upd (upd H5 y (.tup [.int (t:Int),.int (k1:Int),.int (k2:Int)])) R (.lst (xs5++[.ref y]))) (λc o h _ e=>k6 c o h e) eR5 eD5;have dn6:=rw5.dn.keep (H':=upd (upd H5 y (.tup [.int (t:Int),.int (k1:Int),.int (k2:Int)])) R (.lst (xs5++[.ref y]))) (λo=>k6 _ o (C6 RD)) (λc zs ec=>k6 c _ (Bu ec eR5 (by intro z;cases z)) ec);have hb6:StAt (upd (upd H5 y (.tup [.int (t:Int),.int (k1:Int),.int (k2:Int)])) R (.lst (xs5++[.ref y]))) b st:=k6 _ _ (Bu hb5 eR5 (by intro z;cases z)) hb5;have eR6:(upd (upd H5 y (.tup [.int (t:Int),.int (k1:Int),.int (k2:Int)])) R (.lst (xs5++[.ref y]))) R=some (.lst (xs5++[.ref y])):=Ab;have px6:BE (K54s.rRow K (upd (upd H5 y (.tup [.int (t:Int),.int (k1:Int),.int (k2:Int)])) R (.lst (xs5++[.ref y])))) (rows++more1++more2++[(t,k1,k2)]) (xs5++[.ref y]):=by
      refine Paired.app (Paired.imp (λ_ _ c=>K54s.CK _ _ _ _ (sy.ts.trans tl6) c) px5) (Paired.one ⟨y,rfl,SqT.of ?_⟩);rw[Ae (Bu (show (upd H5 y (.tup [.int (t:Int),.int (k1:Int),.int (k2:Int)])) y=some _ from Ab) eR6y (by intro z;cases z))];exact Ab
     generalize upd (upd H5 y (.tup [.int (t:Int),.int (k1:Int),.int (k2:Int)])) R (.lst (xs5++[.ref y]))=H6 at k6 gr6 dn6 hb6 eR6 px6;obtain ⟨dg6,hg6⟩:=gr6.ins;obtain ⟨_,_,ax6,eD6,_⟩:=id dn6;have new:valV kvs2 (keyC t st)=none:=by rw[old2 t st (by lia),old1 t st (by lia),ev]
     have kl2:=rw5.len;refine ⟨_,rfl,g,Gc,dg6,_,_,rfl,hg6,O.cl,O.nR,Nr _ _ _ _ _ _,R,_,rfl,.inl (SqL.of eR6),_,_,rfl,rfl,_,rfl,g,Gc,dg6,_,_,rfl,hg6,O.cl,O.nK,Jp _ _ _ _ _ _,_,rfl,_,rfl,(by show 2<=sizeLine;decide),λu hu=>?_⟩;have su:=Same.new hu (.tup [.int (t:Int),.ref b]);refine ⟨Dk,kvs2,keyC t st,u,rfl,rfl,dn6.keep (λo=>su _ o) (λc zs=>su c _),Sx Ab (su _ _ hb6),new,smallN (by rw[lx5] at kl2;lia),λH9 oth dn9=>?_⟩;have kl:(((xs5++[V.ref y]).length:Nat):Int)+1=(((rows++more1++more2).length+2:Nat):Int):=by
      rw[BC,DA,<- lx5];lia
     rw[show (λ(i j:Int)=>V.int (i+j)) (((xs5++[V.ref y]).length:Nat):Int) 1=V.int (((rows++more1++more2).length+2:Nat):Int) from congrArg V.int kl] at dn9;have k9:∀c o,c≠Dk->H6 c=some o->H9 c=some o:=λc o h e=>by rw[oth c h];exact su _ _ e
     have eas:rows++(more1++more2++[(t,k1,k2)])=rows++more1++more2++[(t,k1,k2)]:=by simp only[CC]
     have ts9:TSm H6 H9:=tsRD (R:=R) (D:=Dk) (λc o _ h e=>k9 c o h e) eR6 eD6;refine ⟨_,_,(rows++more1++more2).length+2,more1++more2++[(t,k1,k2)],putK kvs2 (keyC t st) (.int (((rows++more1++more2).length+2:Nat):Int)),rfl,λc o h1 h2 e=>?_,?_,?_,?_,?_,?_,Xx cnt1 cnt2,?_,ts9 _ _ hb6 ⟨_,.inl rfl⟩⟩
     ·exact k9 _ _ h2 (k6 _ _ h1 (kp5 _ _ h1 h2 (s4 _ _ (kp3 _ _ h1 h2 (s2 _ _ e)))))
     ·exact gr6.keep (λc o _ h e=>k9 c o h e) eR6 eD6
     ·rw[eas]
      refine ⟨⟨_,k9 _ _ RD eR6,Paired.imp (λ_ _ c=>K54s.CK _ _ _ _ ts9 c) px6⟩,dn9,ok6,λt' st' v' hv'=>?_,?_⟩
      ·rw[Cw] at hv'
       by_cases c:keyC t' st'=keyC t st
       ·rw[if_pos c] at hv'
        cases hv';obtain ⟨rfl,rfl⟩:=QS c;refine ⟨_,rfl,tn,?_⟩;rw[show bs.length-1-t'=d' by lia];exact ld6
       ·rw[if_neg c] at hv'
        exact (rw5.kn.app rw5.ok) t' st' v' hv'
      ·rw[FP _ new,BC,DA,BC,DA]
       lia
     ·rw[Cw,if_pos rfl]
     ·rw[eas,Yy e]
      exact ld6
     ·intro t' st' lt
      rw[Cw,if_neg (λc=>by have:=(QS c).1;lia),old2 t' st' (by lia),old1 t' st' (by lia)]
     ·simp only[BC,DA]
      lia
   ·rintro σ H6 ⟨o4,o5,k,more,kvs',rfl,kp,gr6,rw6,val,ld,old,cnt,ml,hb6⟩
    obtain ⟨dg6,hg6⟩:=gr6.ins;refine ⟨_,rfl,g,Gc,dg6,_,_,rfl,hg6,O.cl,O.nK,Jp _ _ _ _ _ _,_,rfl,_,rfl,(by show 2<=sizeLine;decide),λy hy=>?_⟩;have sy:=Same.new hy (.tup [.int (t:Int),.ref b]);exact ⟨Dk,.int k,rfl,⟨kvs',keyC t st,y,rw6.dn.keep (λo=>sy _ o) (λc zs=>sy c _),rfl,Sx Ab (sy _ _ hb6),val⟩,q k more kvs' _ (λc o h1 h2 e=>sy _ _ (kp c o h1 h2 e)) (rw6.same sy) ld old cnt ml⟩
end
variable{u:Ru}
def Vb(u:Ru)(P:AL)(w:AQ)(K:Au)(C Dc Gc:Addr):Sp:=λvs H Q _=>∃(g dx W r dr:Addr) (z:Nat) (bs:List (List Int)),vs=[.ref g,.ref W,.ref r]/\H g=some (.ins Gc dx [])/\W≠g/\r≠g/\WebAt K C H W z bs/\H r=some (.ins Dc dr u.rf)/\z<=10/\bs.length<=12 /\
 ∀(Bh R D:Addr) (H':Hp),(∀b o,H b=some o->b≠g->H' b=some o)->Gr u K C Dc Gc g W r Bh R D z bs H'->Rw u P w K R D bs z H' [] []->H R=none->H D=none->Q .non H'
section
variable{P:AL}{w:AQ}{K:Au}{mg:Str->Option Ap}{base:Heap}{f C D Gc:Addr}{fd:BV}
theorem ABL:FnScope ["self","web","rule"] ["self","web","rule"] (Ac Gp):=⟨rfl,rfl,rfl,by decide +kernel,rfl,by decide +kernel,by decide +kernel⟩
theorem YH{fB fT:Addr}{fdB fdT:BV}(F:Fun K "__init__" "Growth.__init__" Gp f fd)(T:Txt K mg C)(O:Gro K mg Gc)
  (GT:FnOk P w K mg base CX0 1 fT fdT ["self"] (Tf K C)) (bT:Binds K fdT ["self"] []) (mT:Meth K C "ties" fT)
  (GB:FnOk P w K mg base CX0 2 fB fdB ["web","number"] (YW K C)) (bB:Binds K fdB ["web","number"] []) (kB:AK K (.ref fB)=true) (mB:mg "points_behind" = some (.ref fB)) :
  FnOk P w K mg base CX0 3 f fd ["self","web","rule"] (Vb u P w K C D Gc):=by
 refine F.ok ABL (λvs H Q E h=>?_) (λcdv A outer s H vs Q E hr h=>?_)
 ·obtain ⟨g,dx,W,r,dr,z,bs,rfl,_⟩:=h
  rfl
 obtain ⟨g,dx,W,r,dr,z,bs,rfl,hg,Wg,rg,hW,hr0,z10,b8,q⟩:=h;have hr1:Room 1 _:=hr.mono (by decide);refine ⟨_,Ah (DG (pv 0) (pv 1) rfl)
  (Ah (DG (pv 0) (pv 2) rfl)
  (Ah (DG (pv 0) (Bb Bf rfl T.len D7 (Aa (Ek (pv 1) T.cl mT GT hr1 bT .nil pass0) Af)) rfl)
  (Ah (DG (pv 0) (Ca (Ac Gp) ["number"] ["web"] [1] rfl rfl (by decide +kernel) ⟨⟨rfl,by decide +kernel⟩,trivial⟩ (IV rfl T.range (Aa (Ar Cg (Bd (pv 0) rfl) Ai) Af))
   (λ_ _ _=>Aq (i:=0) (show ((["number"]:List Str)++(["web"]:List Str)).Nodup by decide +kernel) rfl (B3 rfl)) (λ_ _ _=>FW)
   (λ_ _ _=>BL GB hr rfl mB kB bB .nil pass0 (Aa (pv 1) (Aa (pv 0) Af)))) rfl)
  (Ah (DG (pv 0) (Dq Af) rfl)
  (Aj (DG (pv 0) Ys rfl)))))),?_⟩
 have tsI:∀{H0:Hp}{fs gs:List (Str×V)},H0 g=some (.ins Gc dx fs)->TSm H0 (upd H0 g (.ins Gc dx gs)):=λ{H0 fs gs} hP b u hb t=>by
  rw[Ae ?_]
  ·exact hb
  ·rintro rfl
   rw[hP] at hb;cases hb;obtain ⟨ys,e | ⟨o,e⟩⟩:=t
   ·cases e
   ·cases e
 refine ⟨_,rfl,_,rfl,g,Gc,dx,[],rfl,hg,O.cl,O.nW,(by show 0<1000;decide),?_⟩;refine ⟨_,rfl,_,rfl,g,Gc,dx,_,rfl,Ab,O.cl,O.nU,(by show 1<1000;decide),?_⟩;rw[AAo];have k1:∀b o,b≠g->H b=some o->(upd H g (.ins Gc dx (putF "rule" (.ref r) (putF "web" (.ref W) [])))) b=some o:=λb o h e=>by rw[Ae h];exact e
 have ts1:=tsI (gs:=putF "rule" (.ref r) (putF "web" (.ref W) [])) hg;have g1:(upd H g (.ins Gc dx (putF "rule" (.ref r) (putF "web" (.ref W) [])))) g=some (.ins Gc dx (putF "rule" (.ref r) (putF "web" (.ref W) []))):=Ab;generalize upd H g (.ins Gc dx (putF "rule" (.ref r) (putF "web" (.ref W) [])))=H1 at k1 ts1 g1;have hW1:WebAt K C H1 W z bs:=by
  obtain ⟨d,j,a1,a2⟩:=hW;exact ⟨d,j,k1 _ _ Wg a1,Ao (Ao Av) _ _ _ _ ts1 a2⟩
 obtain ⟨dw,jw,hw1,_⟩:=id hW1;refine ⟨_,rfl,W,dw,_,rfl,hw1,Dv _ _ (by decide +kernel) (by decide +kernel),W,z,bs,rfl,hW1,λl H2 s2 hl hL=>?_⟩;obtain ⟨l',ts,el,hX,px⟩:=hL;cases el;have lt:ts.length=bs.length:=(AY px).symm;refine ⟨l,_,rfl,.inl hX,_,rfl,g,Gc,dx,_,rfl,s2 _ _ g1,O.cl,O.nA,(by show 2<1000;decide),?_⟩;have g2:=s2 _ _ g1;rw[lt];have k3:∀b o,b≠g->H b=some o->(upd H2 g (.ins Gc dx (putF "amount" (.int (bs.length:Nat)) (putF "rule" (.ref r) (putF "web" (.ref W) []))))) b=some o:=λb o h e=>by rw[Ae h];exact s2 _ _ (k1 b o h e)
 have ts3:=ts1.trans (s2.ts.trans (tsI (gs:=putF "amount" (.int (bs.length:Nat)) (putF "rule" (.ref r) (putF "web" (.ref W) []))) g2));have g3:(upd H2 g (.ins Gc dx (putF "amount" (.int (bs.length:Nat)) (putF "rule" (.ref r) (putF "web" (.ref W) []))))) g=some (.ins Gc dx (putF "amount" (.int (bs.length:Nat)) (putF "rule" (.ref r) (putF "web" (.ref W) [])))):=Ab;generalize upd H2 g (.ins Gc dx (putF "amount" (.int (bs.length:Nat)) (putF "rule" (.ref r) (putF "web" (.ref W) []))))=H3 at k3 ts3 g3;have hW3:WebAt K C H3 W z bs:=by
  obtain ⟨d,j,a1,a2⟩:=hW;exact ⟨d,j,k3 _ _ Wg a1,Ao (Ao Av) _ _ _ _ ts3 a2⟩
 refine ⟨_,rfl,g,Gc,dx,_,_,rfl,g3,O.cl,O.nA,(by rw[Ag,if_pos rfl]),_,_,rfl,rfl,_,rfl,by lia,by lia,λBh hBh=>?_⟩;refine FN (lo:=0) (n:=(((bs.length:Nat):Int)+1).toNat) (λj τ H4=>∃(o:Option V) (ys:List V),τ=[o,some (.ref W)]/\Same H3 H4/\H4 Bh=some (.lst ys)/\BE (λt v=>∃l,v=.ref l/\l≠Bh/\H4 l=some (.lst (nI (behP bs z t)))) (AX j) ys) ⟨none,[],rfl,Same.new hBh _,Ab,.nil⟩ ?_ ?_
 ·rintro j τ H4 hj ⟨o,ys,rfl,s4,eB,pB⟩
  have ej:(0:Int)+j=(j:Int):=by lia
  rw[ej];have ly:=AY pB;rw[CI] at ly;refine yesN ⟨_,rfl,_,rfl,W,j,z,bs,rfl,hW3.same s4,z10,by lia,λm H5 s5 hm em=>?_⟩;have mB:m≠Bh:=λz=>by rw[z,eB] at hm;cases hm
  refine ⟨_,s5 _ _ eB,BP (by lia),_,_,rfl,λb o e=>?_,Ab,?_⟩
  ·rw[Ae (Ad e hBh)]
   exact s5 _ _ (s4 b o e)
  ·rw[K8]
   refine Paired.app (Paired.imp (λt v ⟨l,e1,e2,e3⟩=>⟨l,e1,e2,by rw[Ae e2];exact s5 _ _ e3⟩) pB) (Paired.one ⟨m,rfl,mB,by rw[Ae mB];exact em⟩)
 rintro τ H4 ⟨o,ys,rfl,s4,eB,pB⟩;rw[show (((bs.length:Nat):Int)+1).toNat=bs.length+1 by lia] at pB;have g4:=s4 _ _ g3;have gB:Bh≠g:=λz=>by rw[z,g4] at eB;cases eB
 refine ⟨_,rfl,g,Gc,dx,_,rfl,g4,O.cl,O.nB,(by show 3<1000;decide),?_⟩;have nBH:H Bh=none:=by
  cases e:H Bh with
  | none=>rfl
  | some o=>have:=k3 _ _ gB e;rw[hBh] at this;cases this
 refine ⟨BH _,λR hR=>?_⟩;have gR:R≠g:=λz=>by rw[z,Ab] at hR;cases hR
 have hR4:H4 R=none:=by rw[Ae gR] at hR;exact hR
 have BR:Bh≠R:=Ad eB hR4;refine ⟨_,rfl,g,Gc,dx,_,rfl,by rw[Ae (C6 gR)];exact Ab,O.cl,O.nR,(by show 4<1000;decide),?_⟩;refine λDk hD dn0=>?_;have gD:Dk≠g:=λz=>by rw[z,Ab] at hD;cases hD
 have RD:Dk≠R:=λz=>by rw[z,Ae gR,Ab] at hD;cases hD
 have hD4:H4 Dk=none:=by rw[Ae gD,Ae RD,Ae gD] at hD;exact hD
 refine ⟨_,rfl,g,Gc,dx,_,rfl,by rw[Ae (C6 gD)];exact Ab,O.cl,O.nK,(by show 5<1000;decide),?_⟩;have fin:∀b o,b≠g->H4 b=some o->(upd (upd (upd (upd (upd H4 g (.ins Gc dx (putF "behind" (.ref Bh) (putF "amount" (.int (bs.length:Nat)) (putF "rule" (.ref r) (putF "web" (.ref W) [])))))) R (.lst [])) g (.ins Gc dx (putF "rows" (.ref R) (putF "behind" (.ref Bh) (putF "amount" (.int (bs.length:Nat)) (putF "rule" (.ref r) (putF "web" (.ref W) []))))))) Dk (dN P w Dk [])) g (.ins Gc dx (gf W r (bs.length:Nat) Bh R Dk))) b=some o:=λb o h e=>by
  rw[Ae h,Ae (Ad e hD4),Ae h,Ae (Ad e hR4),Ae h];exact e
 have fT:TSm H4 (upd (upd (upd (upd (upd H4 g (.ins Gc dx (putF "behind" (.ref Bh) (putF "amount" (.int (bs.length:Nat)) (putF "rule" (.ref r) (putF "web" (.ref W) [])))))) R (.lst [])) g (.ins Gc dx (putF "rows" (.ref R) (putF "behind" (.ref Bh) (putF "amount" (.int (bs.length:Nat)) (putF "rule" (.ref r) (putF "web" (.ref W) []))))))) Dk (dN P w Dk [])) g (.ins Gc dx (gf W r (bs.length:Nat) Bh R Dk))):=λb u hb t=>fin b u (λz=>by
  rw[z,g4] at hb;cases hb;obtain ⟨ys,e | ⟨o,e⟩⟩:=t
  ·cases e
  ·cases e) hb
 have old:∀x,x≠g->H4 x=none->H x=none:=λx h n=>by
  cases e:H x with
  | none=>rfl
  | some o=>have:=s4 _ _ (k3 _ _ h e);rw[n] at this;cases this
 refine q Bh R Dk _ (λb o e h=>fin b o h (s4 _ _ (k3 b o h e))) ⟨⟨dx,Ab⟩,?_,⟨dr,fin _ _ rg (s4 _ _ (k3 _ _ rg hr0))⟩,⟨ys,fin _ _ gB eB,BR,Paired.imp (λt v ⟨l,e1,e2,e3⟩=>⟨l,e1,Ad e3 hR4,fin _ _ (λz=>by rw[z,g4] at e3;cases e3) e3⟩) pB⟩⟩ ?_ (old R gR hR4) (old Dk gD hD4)
 ·obtain ⟨d,j,a1,a2⟩:=hW3.same s4
  exact ⟨d,j,fin _ _ Wg a1,Ao (Ao Av) _ _ _ _ fT a2⟩
 ·refine ⟨⟨[],by rw[Ae gR,Ae (C6 RD),Ae gR,Ab],.nil⟩,dn0.keep (λo e=>by rw[Ae gD];exact e) (λb zs e=>?_),λi r h=>(by simp at h),λt st v hv=>(by cases hv),AF _⟩
  by_cases c:b=g
  ·subst c
   rw[Ae (C6 gD),Ab] at e;cases e
  ·rw[Ae c]
   exact e
end
variable{u:Ru}
section
variable{P:AL}{w:AQ}{K:Au}{mg:Str->Option Ap}{base:Heap}{f C D Gc S:Addr}{fd:BV}
theorem Mj{fP fL fT fU:Addr}{fdP fdL fdT fdU:BV}(F:Fun K "knot_at" "Growth.knot_at" En f fd)(T:Txt K mg C)(U:Rul u K mg D)(O:Gro K mg Gc)
  (GP:FnOk P w K mg base CX0 3 fP fdP ["self","number","reached"] (Sh u K C D Gc)) (bP:Binds K fdP ["self","number","reached"] []) (mP:Meth K Gc "past_points" fP)
  (GL:FnOk P w K mg base CX0 1 fL fdL ["self","web","state","number"] UJ) (bL:Binds K fdL ["self","web","state","number"] []) (mL:Meth K D "left" fL)
  (GT:FnOk P w K mg base CX0 2 fT fdT ["self","web","state","number"] (PX u K C D)) (bT:Binds K fdT ["self","web","state","number"] []) (mT:Meth K D "taken" fT)
  (GU:FnOk P w K mg base CX0 1 fU fdU ["self","web","state"] Xu) (bU:Binds K fdU ["self","web","state"] []) (mU:Meth K D "fulfilled" fU)
  (bK:Binds K fd ["self","number","reached"] []) (mK:Meth K Gc "knot_at" f):∀d,FnOk P w K mg base CX0 (d+4) f fd ["self","number","reached"] (Jl u P w K C D Gc d)
 | 0=>Kc 0 F T U O GP bP mP GL bL mL GT bT mT GU bU mU (sp:=λ_ _ _ _=>False) (λ_ _ _ _ h=>absurd rfl h) (F.ok Fg (λvs H Q E h=>Ee h) (λcdv A outer s H vs Q E hr h=>Ee h)) bK mK
 | d+1=>Kc (d+1) F T U O GP bP mP GL bL mL GT bT mT GU bU mU (sp:=Jl u P w K C D Gc d) (λ_ _ _ _ _ h=>h) (Mj F T U O GP bP mP GL bL mL GT bT mT GU bU mU bK mK d) bK mK
def VL(u:Ru)(K:Au)(C Dc S:Addr):Sp:=λvs H Q _=>∃(W r dr:Addr) (z:Nat) (bs:List (List Int)),vs=[.ref W,.ref r]/\WebAt K C H W z bs/\H r=some (.ins Dc dr u.rf)/\1<=z/\z<=10/\bs.length<=12 /\
 ∀(p:Addr) (nums:List Row) (hd:Nat) (H':Hp),Same H H'->K54s.SvAt K S H' p bs.length nums hd->Canon bs.length nums hd->(∀s,led nums hd s=semC u bs z bs.length 0 (some (B4 z 0)) s)->nums.length<=4000->Q (.ref p) H'
theorem Oq:FnScope ["web","rule","growth","top"] ["web","rule"] (Ac Iv):=⟨rfl,rfl,rfl,by decide +kernel,rfl,by decide +kernel,by decide +kernel⟩
theorem Xp{fI fK fB fG:Addr}{fdI fdK fdB fdG:BV}(F:Fun K "grown" "grown" Iv f fd)(U:Rul u K mg D)(O:Gro K mg Gc)(M:Mk K Gc fI)
  (GI:FnOk P w K mg base CX0 3 fI fdI ["self","web","rule"] (Vb u P w K C D Gc)) (bI:Binds K fdI ["self","web","rule"] [])
  (GK:∀d,FnOk P w K mg base CX0 (d+4) fK fdK ["self","number","reached"] (Jl u P w K C D Gc d)) (bK:Binds K fdK ["self","number","reached"] []) (mK:Meth K Gc "knot_at" fK)
  (GB:FnOk P w K mg base CX0 2 fB fdB ["self","web"] (Ug K C D)) (bB:Binds K fdB ["self","web"] []) (mB:Meth K D "begun" fB)
  (GG:FnOk P w K mg base CX0 3 fG fdG ["n","rows","top"] (K54s.Ux K S)) (bG:Binds K fdG ["n","rows","top"] []) (kG:AK K (.ref fG)=true) (mG:mg "least_graph" = some (.ref fG)) :
  FnOk P w K mg base CX0 17 f fd ["web","rule"] (VL u K C D S):=by
 refine F.ok Oq (λvs H Q E h=>?_) (λcdv A outer s H vs Q E hr h=>?_)
 ·obtain ⟨W,r,dr,z,bs,rfl,_⟩:=h
  rfl
 obtain ⟨W,r,dr,z,bs,rfl,hW,hr0,z1,z10,b8,q⟩:=h;have hr2:Room 2 _:=hr.mono (by decide);have hr3:Room 3 _:=hr.mono (by decide);have hrM:Room (3+1) _:=hr.mono (by decide);have hrK:Room (bs.length+4) _:=hr.mono (by lia);refine ⟨_,Ah (BJ (i:=2) Oq.nd rfl (B3 rfl) (Jd M GI hrM rfl O.mgG bI .nil pass0 (Aa (pv 0) (Aa (pv 1) Af))))
  (Ah (BJ (i:=3) Oq.nd rfl (B3 rfl) (CV (pv 2) O.cl mK (GK bs.length) hrK bK .nil pass0 (Aa Ai (Aa (CV (pv 1) U.cl mB GB hr2 bB .nil pass0 (Aa (pv 0) Af)) Af))))
  (Aj (Ay (BL GG hr3 rfl mG kG bG .nil pass0 (Aa (Bd (pv 2) rfl) (Aa (Bd (pv 2) rfl) (Aa (pv 3) Af))))))),?_⟩
 refine ⟨_,rfl,_,rfl,λg dx hg hdx ne=>?_⟩;have hg2:(upd H dx (.own g)) g=none:=by rw[Ae (C6 ne)];exact hg
 have s1:=(Same.new hdx (.own g)).trans (Same.new hg2 (.ins Gc dx []));obtain ⟨dw,jw,hw,_⟩:=id hW;refine ⟨g,dx,W,r,dr,z,bs,rfl,Ab,Ad hw hg,Ad hr0 hg,hW.same s1,s1 _ _ hr0,z10,b8,λBh R Dk H2 k2 gr rw0 nR0 nD0=>⟨rfl,?_⟩⟩;have s2:Same H H2:=λb o e=>k2 _ _ (s1 _ _ e) (Ad e hg);obtain ⟨dg,hg2'⟩:=gr.ins;refine ⟨_,rfl,g,dg,_,rfl,hg2',Us _ _ _ _ _ _ (by decide +kernel) (by decide +kernel) (by decide +kernel) (by decide +kernel) (by decide +kernel) (by decide +kernel),_,rfl,r,dr,_,rfl,s2 _ _ hr0,U.no (by decide +kernel),_,rfl,r,W,z,bs,rfl,gr.web,z1,z10,λb H3 s3 hb=>?_⟩;have rw3:=rw0.same s3;have gr3:=gr.same s3;have p2:2 ^ bs.length<=2 ^ 12:=Fm (by decide) b8;refine ⟨g,W,r,Bh,R,Dk,z,0,bs,.ref b,some (B4 z 0),[],[],rfl,by lia,gr3,z1,z10,b8,⟨b,rfl,hb,KM⟩,rw3,by show 0+_<=_;lia,λk more kvs' H4 kp rw4 ld _ cnt ml=>?_⟩;rw[NB] at rw4 ld;obtain ⟨xs3,eR3,_⟩:=id rw3.at_;obtain ⟨_,_,ax3,eD3,_⟩:=id rw3.dn;have gr4:=gr3.keep kp eR3 eD3;obtain ⟨dg4,hg4⟩:=gr4.ins;obtain ⟨xs4,eR4,px4⟩:=id rw4.at_;refine ⟨_,rfl,g,Gc,dg4,_,_,rfl,hg4,O.cl,O.nA,Mf _ _ _ _ _ _,_,rfl,g,Gc,dg4,_,_,rfl,hg4,O.cl,O.nR,Nr _ _ _ _ _ _,_,rfl,R,bs.length,k,more,rfl,K54s.RowsAt.of ⟨R,xs4,rfl,SqL.of eR4,px4⟩,rw4.ok,by lia,by lia,Ra rw4.ok b8 cnt k,ld.kn,λp nums hd H' s' h1 h2 h3 h4=>?_⟩;have none_back:∀{x:Addr},(upd (upd H dx (.own g)) g (.ins Gc dx [])) x=none->H x=none:=λ{x} n=>by
  cases e:H x with
  | none=>rfl
  | some o=>have:=s1 _ _ e;rw[n] at this;cases this
 refine q p nums hd H' (λb o e=>s' _ _ (kp _ _ (Ad e (none_back nR0)) (Ad e (none_back nD0)) (s3 _ _ (s2 _ _ e)))) h1 h2 (λs=>?_) h4.1;rw[h3 s,ld.eq s]
end
end K54
end
section
namespace G
section
variable{T:Type}
def cT:List T->(List T->Bool)->Nat
 | [],P=>if P []=true then 1 else 0
 | t::ts,P=>cT ts P+cT ts (λr=>P (t::r))
theorem Ef:∀{L:List T}{P Q:List T->Bool},(∀r,r.Sublist L->P r=Q r)->cT L P=cT L Q
 | [],P,Q,h=>by
  unfold cT;rw[h [] (QQ _)]
 | t::ts,P,Q,h=>by
  unfold cT;rw[Ef (L:=ts) (P:=P) (Q:=Q) λr hr=>h r (hr.cons t),Ef (L:=ts) (P:=λr=>P (t::r)) (Q:=λr=>Q (t::r)) λr hr=>h (t::r) (hr.cons₂ t)]
theorem Jc:∀{L:List T}{P:List T->Bool},(∀r,r.Sublist L->P r=false)->cT L P=0
 | [],P,h=>by
  unfold cT;rw[h [] (QQ _)];rfl
 | t::ts,P,h=>by
  unfold cT;rw[Jc (L:=ts) (P:=P) λr hr=>h r (hr.cons t),Jc (L:=ts) (P:=λr=>P (t::r)) λr hr=>h (t::r) (hr.cons₂ t)]
theorem Yz:∀{L:List T}{P:List T->Bool},P []=true->1<=cT L P
 | [],P,h=>by
  unfold cT;rw[if_pos h];exact AF _
 | t::ts,P,h=>by
  unfold cT;have:=Yz (L:=ts) (P:=P) h;lia
theorem Rh{U:Type}(g:T->U):∀(L:List T) (P:List U->Bool),cT (L.map g) P=cT L (λr=>P (r.map g))
 | [],P=>rfl
 | t::ts,P=>by
  show cT (ts.map g) P+cT (ts.map g) (λr=>P (g t::r))=cT ts (λr=>P (r.map g))+cT ts (λr=>P ((t::r).map g));rw[Rh g ts,Rh g ts];rfl
theorem SX(t:T)(l2:List T):∀(l1:List T) (P:List T->Bool),(∀a b,a.Perm b->P a=P b)->cT (l1++t::l2) P=cT (l1++l2) P+cT (l1++l2) (λr=>P (t::r))
 | [],P,_=>rfl
 | x::l1,P,h=>by
  show cT (l1++t::l2) P+cT (l1++t::l2) (λr=>P (x::r))=(cT (l1++l2) P+cT (l1++l2) (λr=>P (x::r)))+(cT (l1++l2) (λr=>P (t::r))+cT (l1++l2) (λr=>P (t::x::r)));rw[SX t l2 l1 P h,SX t l2 l1 (λr=>P (x::r)) λa b p=>h _ _ (p.cons x)];have:cT (l1++l2) (λr=>P (x::t::r))=cT (l1++l2) (λr=>P (t::x::r)):=Ef λr _=>h _ _ (OC t x r);lia
end
section
variable{z:Nat}
def cpt(p:Nat)(r:List (List Int)):Nat:=(r.filter λt=>decide ((p:Int)∈t)).length
theorem FZ(p:Nat)(t:List Int)(r:List (List Int)):cpt p (t::r)=(if (p:Int)∈t then 1 else 0)+cpt p r:=by
 unfold cpt;rw[B0];by_cases c:(p:Int)∈t
 ·rw[if_pos (decide_eq_true c),if_pos c,DI];lia
 ·rw[if_neg (λh=>c (of_decide_eq_true h)),if_neg c];lia
theorem Yg{p:Nat}{a b:List (List Int)}(h:a.Perm b):cpt p a=cpt p b:=(h.filter _).length_eq
theorem Zw(p:Nat)(a b:List (List Int)):cpt p (a++b)=cpt p a+cpt p b:=by
 unfold cpt;rw[Cs,BC]
def okT(al:Int->Bool)(z:Nat)(r:List (List Int)):Bool:=(AX z).all λp=>al (min ((cpt p r:Nat):Int) 2)
theorem Cp{al:Int->Bool}{r:List (List Int)}:okT al z r=true↔∀p,p<z->al (min ((cpt p r:Nat):Int) 2)=true:=by
 unfold okT;rw[FM];exact ⟨λh p hp=>h p (A2.mpr hp),λh p hp=>h p (A2.mp hp)⟩
theorem Qa{al:Int->Bool}(a b:List (List Int))(h:a.Perm b):okT al z a=okT al z b:=by
 unfold okT
 congr 1
 funext p
 rw[Yg h]
def disj(t x:List Int):Bool:=x.all λp=>decide (p∉t)
theorem Dp{t x:List Int}:disj t x=true↔∀p∈x,p∉t:=by
 unfold disj;rw[FM];exact ⟨λh p hp=>of_decide_eq_true (h p hp),λh p hp=>decide_eq_true (h p hp)⟩
def Tie2(z:Nat)(t:List Int):Prop:=∃a b:Nat,t=[(a:Int),(b:Int)]/\a<z/\b<z/\a≠b
def NoTwo(al:Int->Bool):Prop:=al 2=false
theorem shared{al:Int->Bool}(h2:NoTwo al){t x:List Int}(ht:Tie2 z t)(hx:disj t x=false){r:List (List Int)}(h1:t∈r)(hp:2<=(r.filter λy=>decide (y=t)).length\/(x∈r/\x≠t)):okT al z r=false:=by
 cases e:okT al z r with
 | false=>rfl
 | true =>
  obtain ⟨a,b,rfl,az,bz,ab⟩:=ht;have ex:∃p∈x,p∈[(a:Int),(b:Int)]:=Cb λc=>by
   have:disj [(a:Int),(b:Int)] x=true:=Dp.mpr λp hp hq=>c ⟨p,hp,hq⟩;rw[this] at hx;cases hx
  obtain ⟨p,px,pt⟩:=ex;have two:∀q:Nat,(q:Int)=p->q<z->2<=cpt q r->False:=λq _ hq h=>by
   have:=Cp.mp e q hq;rw[show min ((cpt q r:Nat):Int) 2=2 by lia] at this;rw[show al 2=false from h2] at this;cases this
  have pq:∃q:Nat,(q:Int)=p/\q<z:=by
   rcases Bz.mp pt with e | e
   ·exact ⟨a,e.symm,az⟩
   ·exact ⟨b,(B5.mp e).symm,bz⟩
  obtain ⟨q,rfl,qz⟩:=pq;refine (two q rfl qz ?_).elim;unfold cpt;rcases hp with hp | ⟨hx1,ne⟩
  ·refine BM hp (VW ?_)
   have:(r.filter λy=>decide (y=[(a:Int),(b:Int)]))=((r.filter λt=>decide ((q:Int)∈t)).filter λy=>decide (y=[(a:Int),(b:Int)])):=by
    rw[List.filter_filter];refine MA λy _=>?_;by_cases c:y=[(a:Int),(b:Int)]
    ·subst c
     rw[decide_eq_true rfl,decide_eq_true pt];rfl
    ·rw[decide_eq_false c]
     rfl
   rw[this];exact Jn
  ·have m1:[(a:Int),(b:Int)]∈r.filter λt=>decide ((q:Int)∈t):=B7.mpr ⟨h1,decide_eq_true pt⟩
   have m2:x∈r.filter λt=>decide ((q:Int)∈t):=B7.mpr ⟨hx1,decide_eq_true px⟩;generalize r.filter (λt=>decide ((q:Int)∈t))=l at m1 m2
   match l,m1,m2 with
   | [y],m1,m2=>exact absurd ((B5.mp m2).trans (B5.mp m1).symm) ne
   | y::y'::l,_,_=>simp
end
section
variable{z:Nat}{al:Int->Bool}
theorem Xm{t:List Int}(ht:Tie2 z t):disj t t=false:=by
 obtain ⟨a,b,rfl,_⟩:=ht;cases e:disj [(a:Int),(b:Int)] [(a:Int),(b:Int)] with
 | false=>rfl
 | true=>exact absurd (AD ..) (Dp.mp e (a:Int) (AD ..))
theorem clash(h2:NoTwo al){t x:List Int}(ht:Tie2 z t)(hx:disj t x=false)(c r:List (List Int)):okT al z (t::(c++x::r))=false:=by
 by_cases e:x=t
 ·subst e
  refine shared h2 ht hx (AD ..) (.inl ?_);rw[B0,if_pos (decide_eq_true rfl),Cs,B0,if_pos (decide_eq_true rfl)];simp;lia
 ·exact shared h2 ht hx (AD ..) (.inr ⟨AG _ (B6 _ (AD ..)),e⟩)
theorem HX(c:List (List Int))(x:List Int)(r:List (List Int)):c++x::r=(c++[x])++r:=by rw[CC];rfl
theorem JW(h2:NoTwo al){t:List Int}(ht:Tie2 z t):∀(L c:List (List Int)),cT L (λr=>okT al z (t::(c++r)))=cT (L.filter (disj t)) (λr=>okT al z (t::(c++r)))
 | [],c=>rfl
 | x::L,c=>by
  have i1:=JW h2 ht L c;have i2:=JW h2 ht L (c++[x]);show cT L _+cT L (λr=>okT al z (t::(c++x::r)))=_;cases e:disj t x with
  | true =>
   rw[B0,if_pos e];show _=cT (L.filter (disj t)) _+cT (L.filter (disj t)) (λr=>okT al z (t::(c++x::r)));rw[i1]
   congr 1
   rw[show (λr=>okT al z (t::(c++x::r)))=(λr=>okT al z (t::((c++[x])++r))) by funext r;rw[HX]];exact i2
  | false =>
   rw[B0,if_neg (by rw[e];decide),i1,Jc (L:=L) (P:=λr=>okT al z (t::(c++x::r))) λr _=>clash h2 ht e c r];rfl
theorem AAL(h0:al 0=true)(h1:al 1=true){t:List Int}(ht:Tie2 z t){r:List (List Int)}(hr:∀x∈r,disj t x=true):okT al z (t::r)=okT al z r:=by
 have off:∀p:Nat,(p:Int)∈t->cpt p r=0:=λp hp=>by
  unfold cpt;rw[DC,FV];intro x hx;rw[decide_eq_true_iff];exact λhq=>Dp.mp (hr x hx) _ hq hp
 rw[HI,Cp,Cp];have key:∀p,p<z->(al (min ((cpt p (t::r):Nat):Int) 2)=true↔al (min ((cpt p r:Nat):Int) 2)=true):=λp _=>by
  rw[FZ];by_cases c:(p:Int)∈t
  ·rw[if_pos c,off p c]
   exact ⟨λ_=>h0,λ_=>h1⟩
  ·rw[if_neg c,Hb]
 exact ⟨λh p hp=>(key p hp).mp (h p hp),λh p hp=>(key p hp).mpr (h p hp)⟩
theorem QZ{t:List Int}{L r:List (List Int)}(h:r.Sublist (L.filter (disj t))):∀x∈r,disj t x=true:=λx hx=>(B7.mp (h.subset hx)).2
theorem WQ(h2:NoTwo al)(h0:al 0=true)(h1:al 1=true){t:List Int}(ht:Tie2 z t)(l1 l2:List (List Int)):cT (l1++t::l2) (okT al z)=cT (l1++l2) (okT al z)+cT ((l1++l2).filter (disj t)) (okT al z):=by
 rw[SX t l2 l1 (okT al z) Qa]
 congr 1
 have:=JW h2 ht (l1++l2) [];refine this.trans (Ef λr hr=>?_);exact AAL h0 h1 ht (QZ hr)
theorem Jg(h2:NoTwo al)(h0:al 0=false){p:Nat}(hp:p<z):∀(L c:List (List Int)),(∀x∈L,Tie2 z x)->cpt p c=0 ->
  cT L (λr=>okT al z (c++r))=((L.filter λt=>decide ((p:Int)∈t)).map λt=>cT (L.filter (disj t)) (λr=>okT al z (t::(c++r)))).sum
 | [],c,_,hc=>by
  show (if okT al z (c++[])=true then 1 else 0)=0;rw[if_neg];intro h;have:=Cp.mp h p hp;rw[B9,hc] at this;have e:al 0=true:=this;rw[h0] at e;cases e
 | x::L,c,hL,hc=>by
  have hx:=hL x (AD ..);have hL':∀y∈L,Tie2 z y:=λy hy=>hL y (AG _ hy);have i1:=Jg h2 h0 hp L c hL' hc;show cT L (λr=>okT al z (c++r))+cT L (λr=>okT al z (c++x::r))=_;have meet:∀{t:List Int},(p:Int)∈t->(p:Int)∈x->disj t x=false:=λ{t} h h'=>by
   cases e:disj t x with
   | false=>rfl
   | true=>exact absurd h (Dp.mp e _ h')
  by_cases px:(p:Int)∈x
  ·rw[B0,if_pos (decide_eq_true px),BO,O0,US]
   congr 1
   ·rw[B0,if_neg (by rw[meet px px];decide)]
    have e1:cT L (λr=>okT al z (c++x::r))=cT L (λr=>okT al z (x::(c++r))):=Ef λr _=>Qa _ _ RA;rw[e1];exact JW h2 hx L c
   ·rw[i1]
    congr 1
    refine EO λt ht=>?_;have pt:=of_decide_eq_true (B7.mp ht).2;rw[B0,if_neg (by rw[meet pt px];decide)]
  ·rw[B0,if_neg (λh=>px (of_decide_eq_true h))]
   have hc':cpt p (c++[x])=0:=by
    rw[Zw,hc,FZ,if_neg px];rfl
   have i2:=Jg h2 h0 hp L (c++[x]) hL' hc';have e2:cT L (λr=>okT al z (c++x::r))=cT L (λr=>okT al z ((c++[x])++r)):=congrArg (cT L) (by funext r;rw[HX]);rw[i1,e2,i2];have sums:∀(l:List (List Int)) (f g:List Int->Nat),(l.map f).sum+(l.map g).sum=(l.map λt=>f t+g t).sum:=λl f g=>by
    induction l with
    | nil=>rfl
    | cons a l ih =>
     simp only[BO,O0];lia
   rw[sums]
   congr 1
   refine EO λt ht=>?_;have tL:=hL' t (B7.mp ht).1;cases e:disj t x with
   | true =>
    rw[B0,if_pos e];show _=cT (L.filter (disj t)) (λr=>okT al z (t::(c++r)))+cT (L.filter (disj t)) (λr=>okT al z (t::(c++x::r)));rw[show (λr=>okT al z (t::(c++x::r)))=(λr=>okT al z (t::((c++[x])++r))) by funext r;rw[HX]]
   | false =>
    rw[B0,if_neg (by rw[e];decide),Jc (L:=L.filter (disj t)) (P:=λr=>okT al z (t::((c++[x])++r))) λr _=>by
     have:=clash h2 tL e c r;rw[HX] at this;exact this]
    rfl
def less(t:List Int)(q:Int):Nat:=(t.filter λg=>decide (g<q)).length
def lowP(t:List Int)(q:Int):Int:=q-(less t q:Nat)
def low(t x:List Int):List Int:=x.map (lowP t)
theorem Ym(a b:Nat)(q:Int):less [(a:Int),(b:Int)] q=(if (a:Int)<q then 1 else 0)+(if (b:Int)<q then 1 else 0):=by
 unfold less;by_cases c:(a:Int)<q<;>by_cases d:(b:Int)<q<;>simp[B0,c,d]
theorem Dm(a b:Nat)(q:Int):lowP [(a:Int),(b:Int)] q=q-((if (a:Int)<q then 1 else 0)+(if (b:Int)<q then 1 else 0):Int):=by
 unfold lowP;rw[Ym];by_cases c:(a:Int)<q<;>by_cases d:(b:Int)<q<;>simp[c,d]
theorem GJ{a b:Nat}(ab:a≠b){q q':Int}(h1:q≠a)(h2:q≠b)(h3:q'≠a)(h4:q'≠b)(e:lowP [(a:Int),(b:Int)] q=lowP [(a:Int),(b:Int)] q'):q=q':=by
 rw[Dm,Dm] at e;split at e<;>split at e<;>split at e<;>split at e<;>lia
theorem AAj(h1:al 1=true){t:List Int}(ht:Tie2 z t){r:List (List Int)}(hr:∀x∈r,disj t x=true):okT al z (t::r)=okT al (z-2) (r.map (low t)):=by
 obtain ⟨a,b,rfl,az,bz,ab⟩:=ht;have ne:∀x∈r,∀q∈x,q≠(a:Int)/\q≠(b:Int):=λx hx q hq=>by
  have:=Dp.mp (hr x hx) q hq;exact ⟨λe=>this (by rw[e];exact AD ..),λe=>this (by rw[e];exact AG _ (AD ..))⟩
 have cnt:∀(q q':Nat),(q:Int)≠a->(q:Int)≠b->(q':Int)=lowP [(a:Int),(b:Int)] q->cpt q' (r.map (low [(a:Int),(b:Int)]))=cpt q r:=λq q' qa qb e=>by
  unfold cpt;rw[HQ,AE]
  congr 1
  refine MA λx hx=>?_;show decide ((q':Int)∈low [(a:Int),(b:Int)] x)=decide ((q:Int)∈x);refine decide_eq_decide.mpr ⟨λh=>?_,λh=>?_⟩
  ·obtain ⟨y,hy,ey⟩:=BQ.mp h
   have:=ne x hx y hy;rw[e] at ey;rw[<- GJ ab this.1 this.2 qa qb ey];exact hy
  ·rw[e]
   exact EN h
 have off:∀p:Nat,(p:Int)=a\/(p:Int)=b->cpt p r=0:=λp hp=>by
  unfold cpt;rw[DC,FV];intro x hx;rw[decide_eq_true_iff];exact λhq=>by
   have:=ne x hx _ hq;rcases hp with hp | hp
   ·exact this.1 hp
   ·exact this.2 hp
 rw[HI,Cp,Cp];constructor
 ·intro h q' hq'
  obtain ⟨q,qz,qa,qb,e⟩:∃q:Nat,q<z/\(q:Int)≠a/\(q:Int)≠b/\(q':Int)=lowP [(a:Int),(b:Int)] q:=by
   by_cases c1:q'<a/\q'<b
   ·exact ⟨q',by lia,by lia,by lia,by rw[Dm,if_neg (by lia),if_neg (by lia)];lia⟩
   ·by_cases c2:q'+1<max a b
    ·refine ⟨q'+1,by lia,by lia,by lia,?_⟩
     rw[Dm];split<;>split<;>lia
    ·exact ⟨q'+2,by lia,by lia,by lia,by rw[Dm,if_pos (by lia),if_pos (by lia)];lia⟩
  have z1:=h q qz;have nt:¬ (q:Int)∈[(a:Int),(b:Int)]:=λm=>by
   rcases Bz.mp m with m | m
   ·exact qa m
   ·exact qb (B5.mp m)
  rw[FZ,if_neg nt,Hb] at z1;rw[cnt q q' qa qb e];exact z1
 ·intro h q qz
  rw[FZ];by_cases c:(q:Int)∈[(a:Int),(b:Int)]
  ·rw[if_pos c,off q (by
    rcases Bz.mp c with m | m
    ·exact .inl m
    ·exact .inr (B5.mp m))]
   exact h1
  ·have qa:(q:Int)≠a:=λe=>c (by rw[e];exact AD ..)
   have qb:(q:Int)≠b:=λe=>c (by rw[e];exact AG _ (AD ..));rw[if_neg c,Hb];have lo:0<=lowP [(a:Int),(b:Int)] q/\lowP [(a:Int),(b:Int)] q<((z-2:Nat):Int):=by
    rw[Dm];split<;>split<;>lia
   obtain ⟨q',e⟩:=Int.eq_ofNat_of_zero_le lo.1;rw[<- cnt q q' qa qb e.symm];exact h q' (by lia)
theorem YK(h2:NoTwo al)(h0:al 0=false)(h1:al 1=true){p:Nat}(hp:p<z){L:List (List Int)}(hL:∀x∈L,Tie2 z x) :
  cT L (okT al z)=((L.filter λt=>decide ((p:Int)∈t)).map λt=>cT ((L.filter (disj t)).map (low t)) (okT al (z-2))).sum:=by
 have:=Jg h2 h0 hp L [] hL rfl;refine this.trans ?_
 congr 1
 refine EO λt ht=>?_;rw[Rh];exact Ef λr hr=>AAj h1 (hL t (B7.mp ht).1) (QZ hr)
end
def subF:Nat->Nat->List (List Nat)
 | _,0=>[[]]
 | t,d+1=>subF (t+1) d++(subF (t+1) d).map (t::·)
theorem Dh:∀{d t:Nat}{s:List Nat},s∈subF t d↔s.Pairwise (· < ·)/\∀x∈s,t<=x/\x<t+d
 | 0,t,s=>by
  show s∈[[]]↔_;rw[B5];constructor
  ·rintro rfl
   exact ⟨.nil,λx hx=>by cases hx⟩
  ·rintro⟨_,h⟩
   cases s with
   | nil=>rfl
   | cons x xs=>have:=h x (AD ..);lia
 | d+1,t,s=>by
  show s∈subF (t+1) d++(subF (t+1) d).map (t::·)↔_;rw[CD,BQ];constructor
  ·rintro (h | ⟨s',h,rfl⟩)
   ·obtain ⟨a,b⟩:=Dh.mp h
    exact ⟨a,λx hx=>by have:=b x hx;lia⟩
   ·obtain ⟨a,b⟩:=Dh.mp h
    refine ⟨CO.mpr ⟨λx hx=>by have:=b x hx;lia,a⟩,λx hx=>?_⟩;rcases Bz.mp hx with rfl | hx
    ·lia
    ·have:=b x hx;lia
  ·rintro⟨a,b⟩
   cases s with
   | nil=>exact .inl (Dh.mpr ⟨.nil,λx hx=>by cases hx⟩)
   | cons x xs =>
    obtain ⟨a1,a2⟩:=CO.mp a;have hx:=b x (AD ..);have hxs:∀y∈xs,t+1<=y/\y<t+1+d:=λy hy=>by
     have:=a1 y hy;have:=b y (AG _ hy);lia
    by_cases c:x=t
    ·subst c
     exact .inr ⟨xs,Dh.mpr ⟨a2,hxs⟩,rfl⟩
    ·refine .inl (Dh.mpr ⟨a,λy hy=>?_⟩)
     rcases Bz.mp hy with rfl | hy
     ·lia
     ·exact hxs y hy
theorem Oo:∀(d t:Nat),(subF t d).Nodup
 | 0,t=>C7.mpr ⟨λh=>(by cases h),LF⟩
 | d+1,t=>by
  show (subF (t+1) d++(subF (t+1) d).map (t::·)).Nodup;rw[QE];refine ⟨Oo d (t+1),?_,?_⟩
  ·unfold J5
   rw[CY];exact (Oo d (t+1)).imp λ{a b} h e=>h (by injection e)
  ·intro a ha b hb e
   subst e;obtain ⟨s,_,rfl⟩:=BQ.mp hb;have:=(Dh.mp ha).2 t (AD ..);lia
theorem Gq{T:Type}(f:Nat->T):∀(d t:Nat) (P:List T->Bool),((subF t d).filter λs=>P (s.map f)).length=cT ((N1 t d).map f) P
 | 0,t,P=>by
  show (([[]]:List (List Nat)).filter λs=>P (s.map f)).length=if P []=true then 1 else 0
  rw[B0];by_cases c:P []=true
  ·rw[if_pos (show P (List.map f [])=true from c),if_pos c]
   rfl
  ·rw[if_neg (show ¬ P (List.map f [])=true from c),if_neg c]
   rfl
 | d+1,t,P=>by
  show ((subF (t+1) d++(subF (t+1) d).map (t::·)).filter λs=>P (s.map f)).length=_;rw[Cs,BC,HQ,AE,List.range'_succ];show _=cT ((N1 (t+1) d).map f) P+cT ((N1 (t+1) d).map f) (λr=>P (f t::r));rw[Gq f d (t+1) P,<- Gq f d (t+1) (λr=>P (f t::r))];rfl
theorem Tc{al:Int->Bool}{on:Nat->Nat->Bool}{L:Nat->Nat}{z n:Nat}{as:List (List Int)}(hn:as.length=n)(hon:∀p x,x<n->on p x=decide ((p:Int)∈as.getD x [])){ss:List (List Nat)}(nd:ss.Nodup)
  (hm:∀s,s∈ss↔Tied al on L z n 0 (B4 z 0) s):ss.length=cT as (okT al z):=by
 have e0:(N1 0 n).map (λx=>as.getD x [])=as:=by
  apply EI;intro i;rw[BI];by_cases c:i<n
  ·rw[List.getElem?_range' c,AI (by lia)]
   show some (as.getD (0+1*i) [])=_;rw[show 0+1*i=i by lia,AB,AI (by lia)];rfl
  ·rw[C3 (by rw[List.length_range'];lia),C3 (by lia)]
   rfl
 have same:∀s,s∈ss↔s∈(subF 0 n).filter λs=>okT al z (s.map λx=>as.getD x []):=λs=>by
  rw[hm,B7,Dh,Cp];have cp:(∀x∈s,x<n)->∀p,cpt p (s.map λx=>as.getD x [])=cntS on p s:=λh p=>by
   unfold cpt cntS;rw[HQ,AE]
   congr 1
   refine MA λx hx=>?_;rw[hon p x (h x hx)];rfl
  have z0:∀p,(B4 z (0:Int)).getD p 0=0:=λp=>by
   rw[AB,HC];split<;>rfl
  constructor
  ·rintro⟨a,b,c⟩
   refine ⟨⟨a,λx hx=>by have:=b x hx;lia⟩,λp hp=>?_⟩;rw[cp (λx hx=>(b x hx).2) p];have:=c p hp (BH _)
   rwa [z0,U8] at this
  ·rintro⟨⟨a,b⟩,c⟩
   have b':∀x∈s,x<n:=λx hx=>by have:=b x hx;lia
   refine ⟨a,λx hx=>⟨BH _,b' x hx⟩,λp hp _=>?_⟩;rw[z0,U8,<- cp b' p];exact c p hp
 have l1:=Hj nd λs hs=>(same s).mp hs;have l2:=Hj ((Oo n 0).filter _) λs hs=>(same s).mpr hs;rw[<- e0,<- Gq];lia
end G
end
section
namespace K54
open PySem L2 G
abbrev kT(s:List Nat):List Key:=(up s).map Db
theorem ABf{s u:List Nat}(h:kT s=kT u):s=u:=YZ ((List.map_inj_right (λa b (e:(Db a:Key)=Db b)=>by injection e)).mp h)
theorem ADH(s:List Nat):(kT s).map kV=(up s).map V.int:=by unfold kT;rw[Fn];rfl
theorem ABz(as:List (List Int))(p x:Nat):onB (as.map srt) p x=decide ((p:Int)∈as.getD x []):=by
 unfold onB;refine decide_eq_decide.mpr ?_;rw[AB,AB,BI];cases as[x]? with
 | none=>exact Iff.rfl
 | some t=>exact AAs
theorem sml0(al:Int->Bool)(z:Nat):Sml al (B4 z 0):=by
 have e:∀p,(B4 z (0:Int)).getD p 0=0:=λp=>by
  rw[AB,HC];split<;>rfl
 exact ⟨λp=>by rw[e];decide,λ_ p=>by rw[e];decide⟩
def cntP(fu:Bool)(z:Nat)(as:List (List Int)):Nat:=cT as (okT (alP fu) z)
def Ve(K:Au):Sp:=λvs H Q _=>∃(z:Nat) (l:Addr) (fu:Bool) (xs:List V) (as:List (List Int)),vs=[.int z,.ref l,.bl fu]/\SqL K H l xs/\BE (rPair K H) as xs/\OkTies z as/\as.length<=12/\1<=z/\z<=10 /\
 ∀H',Same H H'->Q (.int (cntP fu z as:Nat)) H'
section
variable{P:AL}{w:AQ}{K:Au}{mg:Str->Option Ap}{base:Heap}{f C D S:Addr}{fd:BV}
theorem JX:FnScope ["_law_points","_law_ties","_law_full","_law_found","_law_seen","_law_some"] ["_law_points","_law_ties","_law_full"] (Ac Ig):=⟨rfl,rfl,rfl,by decide +kernel,rfl,by decide +kernel,by decide +kernel⟩
theorem Xy{fI fP fG fE:Addr}{fdI fdP fdG fdE:BV}(F:Fun K "_law_many" "_law_many" Ig f fd)(T:Txt K mg C)(M:Mk K C fI)(MP:Mk K D fP)(mgP:mg "Pairs" = some (.ref D))
  (GI:FnOk P w K mg base CX0 3 fI fdI ["self","many","ties"] (Jt K C)) (bI:Binds K fdI ["self","many","ties"] [])
  (GP:FnOk P w K mg base CX0 1 fP fdP ["self","full"] (Ue D)) (bP:Binds K fdP ["self","full"] [])
  (GG:∀fu,FnOk P w K mg base CX0 17 fG fdG ["web","rule"] (VL (uP fu) K C D S)) (bG:Binds K fdG ["web","rule"] []) (kG:AK K (.ref fG)=true) (mG:mg "grown" = some (.ref fG))
  (GE:FnOk P w K mg base CX0 2 fE fdE ["sieve"] (K54s.Yt K S)) (bE:Binds K fdE ["sieve"] []) (kE:AK K (.ref fE)=true) (mE:mg "sets_of" = some (.ref fE)) :
  FnOk P w K mg base CX0 18 f fd ["_law_points","_law_ties","_law_full"] (Ve K):=by
 refine F.ok JX (λvs H Q E h=>?_) (λcdv A outer s H vs Q E hr h=>?_)
 ·obtain ⟨z,l,fu,xs,as,rfl,_⟩:=h
  rfl
 obtain ⟨z,l,fu,xs,as,rfl,hl,px,ok,a12,z1,z10,q⟩:=h;have hr2:Room 2 _:=hr.mono (by decide);have hr11:Room (1+1) _:=hr.mono (by decide);have hr4:Room (3+1) _:=hr.mono (by decide);refine ⟨_,Ah (BJ (i:=3) JX.nd rfl (B3 rfl) (BL GE hr2 rfl mE kE bE .nil pass0 (Aa (BL (GG fu) hr rfl mG kG bG .nil pass0 (Aa (Jd M GI hr4 rfl T.mgC bI .nil pass0 (Aa (pv 0) (Aa (pv 1) Af))) (Aa (Jd MP GP hr11 rfl mgP bP .nil pass0 (Aa (pv 2) Af)) Af))) Af)))
  (Ah (BJ (i:=4) JX.nd rfl (B3 rfl) Qc)
  (Ah (Dg D1 rfl (CG (pv 3)) (Aq (i:=5) JX.nd rfl (B3 rfl))
   (Ah (CQ (Tj (Ka (Bb Ws rfl T.isi LN (Aa (pv 5) (Aa (Ui (v:=.ty "tuple") rfl T.tuple EG rfl) Af))))) (Aj (Ay (MK Im Ai))) Bc)
   (Aj (HF (CW hr) (pv 4) (pv 5) Ez rfl))))
  (Ah (CQ (PW.pt (VF (Tj (Ka (Bb Xk rfl T.isi LN (Aa (pv 3) (Aa (Ui (v:=.ty "list") rfl T.list Ic rfl) Af)))))
    (Ob (Aw Uu (Bb JN rfl T.len D7 (Aa (pv 4) Af)) (Bb Bf rfl T.len D7 (Aa (pv 3) Af)) (nomark _))))) (Aj (Ay (MK Im Ai))) Bc)
  (Aj (Ay (Bb Bf rfl T.len D7 (Aa (pv 3) Af))))))),?_⟩
 refine ⟨_,rfl,_,rfl,λp dx np ndx npd=>?_⟩;have sp:Same H (upd (upd H dx (.own p)) p (.ins C dx [])):=λb o e=>by
  rw[Ae (Ad e np),Ae (Ad e ndx)];exact e
 refine ⟨p,dx,l,(z:Int),xs,as,rfl,Ab,sp.seq hl,Paired.imp (λt x h=>.inr (Ao Av _ _ _ _ sp.ts h)) px,ok,a12,by lia,by lia,λH3 k3 hW=>⟨rfl,?_⟩⟩;have s3:Same H H3:=λb o e=>k3 b o (sp b o e) (Ad e np);have bl:(as.map srt).length=as.length:=AE ..;refine ⟨_,rfl,λr dr hr' hdr ner=>?_⟩;have s4:Same H3 (upd (upd H3 dr (.own r)) r (.ins D dr [])):=λb o e=>by
  rw[Ae (Ad e hr'),Ae (Ad e hdr)];exact e
 refine ⟨r,dr,fu,rfl,Ab,rfl,?_⟩;have s4':Same H3 (upd (upd (upd H3 dr (.own r)) r (.ins D dr [])) r (.ins D dr (pf fu))):=λb o e=>by
  rw[Ae (Ad e hr')];exact s4 _ _ e
 have er:(upd (upd (upd H3 dr (.own r)) r (.ins D dr [])) r (.ins D dr (pf fu))) r=some (.ins D dr (uP fu).rf):=Ab;generalize upd (upd (upd H3 dr (.own r)) r (.ins D dr [])) r (.ins D dr (pf fu))=H4 at s4' er;refine ⟨p,r,dr,z,as.map srt,rfl,hW.same s4',er,z1,z10,by rw[bl];exact a12,λsv nums hd H5 s5 hV cA lA rA=>?_⟩;rw[bl] at hV cA lA;have okA:=cA.least.ok;have I:=Hw _ _ rfl okA _ cA.knot;have nd:(setsOf nums hd).Nodup:=I.ord.imp λ{a b} h e=>by rw[e] at h;exact FE _ h
 have cnt:(setsOf nums hd).length=cntP fu z as:=by
  refine Tc (on:=onB (as.map srt)) (L:=Lp (as.map srt)) (n:=as.length) rfl (λp x _=>ABz as p x) nd λs=>?_;rw[I.mem,lA s];exact YL (on:=onB (as.map srt)) (L:=Lp (as.map srt)) (λp x _ xl h=>ADS (by rw[bl];exact xl) h) (λp _=>by have:=ACy (bs:=as.map srt) (p:=p);rw[bl] at this;exact this) as.length 0 _ s (by lia) KM (sml0 _ z)
 have olen:=K54s.Ov I;have p12:2 ^ as.length<=2 ^ 12:=Fm (by decide) a12;refine ⟨sv,as.length,hd,nums,rfl,hV,okA,cA.knot,by lia,rA,λL ys H6 s6 hL eL pL=>?_⟩;have ly:ys.length=(setsOf nums hd).length:=(AY pL).symm;have s46:=s4'.trans (s5.trans s6);refine λSn hSn=>?_;have s8:=Same.new hSn (.dT []);have eL8:=s8 _ _ eL;refine ⟨_,rfl,L,rfl,⟨_,SqL.of eL8⟩,?_⟩;have pL8:BE (K54s.rTies K (upd H6 Sn (.dT []))) (setsOf nums hd) ys:=K54s.Ey s8.ts pL;have eS8:(upd H6 Sn (.dT [])) Sn=some (.dT []):=Ab;generalize upd H6 Sn (.dT [])=H8 at s8 eL8 pL8 eS8;have LS:L≠Sn:=Bu eL8 eS8 (by intro z;cases z);refine Cy (K:=K) (a:=L) (xs:=ys) (λi σ H9=>∃(o5:Option V) (kvs:List (List Key×V)),σ=[some (.int z),some (.ref l),some (.bl fu),some (.ref L),some (.ref Sn),o5]/\(∀b o,b≠Sn->H8 b=some o->H9 b=some o)/\H9 Sn=some (.dT kvs)/\kvs.length=i/\∀k,(valV kvs k).isSome=true->∃j s,j<i/\(setsOf nums hd)[j]?=some s/\k=kT s)
  ⟨none,[],rfl,λb o _ e=>e,eS8,rfl,λk h=>(by cases h)⟩ (λi σ H9 _ ⟨_,_,_,k9,_⟩=>SqL.of (k9 _ _ LS eL8)) ?_ ?_
 ·rintro i x σ H9 hx ⟨o5,kvs,rfl,k9,e9,kl,inv⟩
  obtain ⟨s,hs,b,rfl,hb⟩:=Paired.get pL8 hx;have il:=(AH.mp hs).1;have bS:b≠Sn:=Bu hb eS8 (by intro z;cases z);have hb9:=k9 _ _ bS hb;have hkey:H9 b=some (.tup ((kT s).map kV)):=by rw[ADH];exact hb9
  have none_:valV kvs (kT s)=none:=by
   cases e:valV kvs (kT s) with
   | none=>rfl
   | some v =>
    obtain ⟨j,s',ji,hs',ek⟩:=inv (kT s) (by rw[e];rfl);have:=ABf ek;subst this;have:=(IC il nd).mp (hs.trans hs'.symm);lia
  refine ⟨_,rfl,b,_,rfl,SqT.of hb9,_,rfl,iteF ?_⟩;refine ⟨_,rfl,_,rfl,Sn,_,rfl,.inr ⟨kvs,kT s,b,e9,rfl,hkey,smallN (by lia),rfl⟩,?_⟩;refine ⟨_,_,rfl,λc o h e=>by rw[Ae h];exact k9 c o h e,Ab,?_,λk hk=>?_⟩
  ·rw[FP _ none_,BC,kl]
   rfl
  ·rw[Cw] at hk
   by_cases c:k=kT s
   ·exact ⟨i,s,by lia,hs,c⟩
   ·rw[if_neg c] at hk
    obtain ⟨j,s',ji,hs',ek⟩:=inv k hk;exact ⟨j,s',by lia,hs',ek⟩
 ·rintro σ H9 ⟨o5,kvs,rfl,k9,e9,kl,inv⟩
  have s9:Same H H9:=λb o e=>by
   have e3:=s3 _ _ e;have e6:=s46 _ _ e3;have ne:b≠Sn:=Ad e6 hSn;exact k9 _ _ ne (s8 _ _ e6)
  have eL9:=k9 _ _ LS eL8;refine ⟨_,rfl,L,ys,rfl,SqL.of eL9,_,rfl,iteF ?_⟩;refine ⟨_,rfl,Sn,kvs,rfl,e9,_,rfl,L,ys,rfl,.inl (SqL.of eL9),rfl,_,rfl,iteNP (by rw[kl]) ?_⟩;refine ⟨_,rfl,L,ys,rfl,.inl (SqL.of eL9),?_⟩;rw[ly,cnt];exact q _ s9
end
def Two(t:List Int):Prop:=∃a b:Int,t=[a,b]
def Ih(K:Au):Sp:=λvs H Q _=>∃(l g:Addr) (a b:Int) (xs:List V) (as:List (List Int)),vs=[.ref l,.ref g]/\SqL K H l xs/\BE (rPair K H) as xs/\(∀t∈as,Two t)/\as.length<=12/\SqT K H g [.int a,.int b] /\
 ∀(l':Addr) (ys:List V) (H':Hp),Same H H'->H l'=none->H' l'=some (.lst ys)->BE (rPair K H') (as.filter (disj [a,b])) ys->Q (.ref l') H'
theorem Jk(a b x y:Int):disj [a,b] [x,y]=(!decide (x∈[a,b]) && !decide (y∈[a,b])):=by
 unfold disj;simp
theorem flat2(a b:Int):([V.int a,V.int b]:List V).all flatV=true:=rfl
section
variable{P:AL}{w:AQ}{K:Au}{mg:Str->Option Ap}{base:Heap}{f C D S:Addr}{fd:BV}
theorem Wy:FnScope ["_law_ties","_law_gone"] ["_law_ties","_law_gone"] (Ac Dn):=⟨rfl,rfl,rfl,by decide +kernel,rfl,by decide +kernel,by decide +kernel⟩
theorem Sw(F:Fun K "_law_without" "_law_without" Dn f fd):FnOk P w K mg base CX0 1 f fd ["_law_ties","_law_gone"] (Ih K):=by
 refine F.ok Wy (λvs H Q E h=>?_) (λcdv A outer s H vs Q E hr h=>?_)
 ·obtain ⟨l,g,a,b,xs,as,rfl,_⟩:=h
  rfl
 obtain ⟨l,g,a,b,xs,as,rfl,hl,px,two,a12,hg,q⟩:=h;have lx:=AY px;refine ⟨_,Aj (Ay (Ca (Ac Dn) ["_law_tie"] ["_law_gone"] [1] rfl rfl (by decide +kernel) ⟨⟨rfl,by decide +kernel⟩,trivial⟩ (CG (pv 0))
   (λ_ _ _=>Aq (i:=0) (show ((["_law_tie"]:List Str)++(["_law_gone"]:List Str)).Nodup by decide +kernel) rfl (B3 rfl))
   (λ_ _ _=>Ce (PW.pt (Td (Aw (Gd (K:=K) rfl) (Bl (Jf (K:=K) rfl) (pv 0) Ai (λ_ _=>rfl)) (pv 1) rfl) (Oh (Aw (Gd (K:=K) rfl) (Bl (Jf (K:=K) rfl) (pv 0) Ai (λ_ _=>rfl)) (pv 1) rfl)))))
   (λ_ _ _=>pv 0))),?_⟩
 refine ⟨_,rfl,l,rfl,⟨_,hl⟩,λZ hZ=>?_⟩;refine Cj (xs:=xs) (λi τ H2=>∃(n:Option V) (ys:List V),τ=[n,some (.ref g)]/\Same H H2/\H2 Z=some (.lst ys)/\BE (rPair K H2) ((as.take i).filter (disj [a,b])) ys) ⟨none,[],rfl,Same.new hZ _,Ab,.nil⟩ (λi τ H2 _ ⟨_,_,_,sm,_⟩=>sm.seq hl) ?_ ?_
 ·rintro i v τ H2 hv ⟨n,ys,rfl,sm,eZ,py⟩
  obtain ⟨t,ht,rt⟩:=Paired.get px hv;obtain ⟨x,y,rfl⟩:=two t (A8 ht);obtain ⟨tq,rfl,htq⟩:=Bv rt;have il:=(AH.mp ht).1;have htq2:SqT K H2 tq [.int x,.int y]:=sm.ts.seq htq;have hg2:=sm.ts.seq hg;have ly:ys.length<=12:=by
   rw[<- AY py];exact BM (CB ..) (by rw[BG];lia)
  have tk:(as.take (i+1)).filter (disj [a,b])=(as.take i).filter (disj [a,b])++if disj [a,b] [x,y]=true then [[x,y]] else []:=by
   rw[Co,ht,Cs]
   congr 1
   show N2 _ [[x,y]]=_;rw[B0];rfl
  have no:disj [a,b] [x,y]=false->∃(n:Option V) (ys':List V),[some (V.ref tq),some (.ref g)]=[n,some (V.ref g)]/\Same H H2/\H2 Z=some (.lst ys')/\BE (rPair K H2) ((as.take (i+1)).filter (disj [a,b])) ys':=λe=>by
   refine ⟨_,ys,rfl,sm,eZ,?_⟩;rw[tk,if_neg (by rw[e];decide),B9];exact py
  refine ⟨_,rfl,tq,_,_,_,rfl,rfl,htq2,at0,_,rfl,g,_,rfl,.inr hg2,rfl,flat2 a b,_,rfl,?_⟩;rw[show inV (V.int _) [V.int a,V.int b]=decide (_∈[a,b]) from Dj _ [a,b]];by_cases c1:x∈[a,b]
  ·rw[decide_eq_true c1]
   exact iteF (iteF (no (by rw[Jk,decide_eq_true c1];rfl)))
  rw[decide_eq_false c1];refine iteT ?_;refine ⟨_,rfl,tq,_,_,_,rfl,rfl,htq2,at1,_,rfl,g,_,rfl,.inr hg2,rfl,flat2 a b,_,rfl,?_⟩;rw[show inV (V.int _) [V.int a,V.int b]=decide (_∈[a,b]) from Dj _ [a,b]];by_cases c2:y∈[a,b]
  ·rw[decide_eq_true c2]
   exact iteF (no (by rw[Jk,decide_eq_true c2,decide_eq_false c1];rfl))
  rw[decide_eq_false c2];refine iteT ?_;refine ⟨_,rfl,ys,eZ,BP (by lia),_,_,rfl,λb' o e=>?_,Ab,?_⟩
  ·rw[Ae (Ad e hZ)]
   exact sm _ _ e
  ·rw[tk,if_pos (by rw[Jk,decide_eq_false c1,decide_eq_false c2];rfl)]
   have ts:TSm H2 (upd H2 Z (.lst (ys++[.ref tq]))):=TSm.lst eZ;exact Paired.app (Paired.imp (λ_ _ h=>Ao Av _ _ _ _ ts h) py) (Paired.one (Ao Av _ _ _ _ (sm.ts.trans ts) rt))
 ·rintro τ H2 ⟨n,ys,rfl,sm,eZ,py⟩
  rw[<- lx,CU] at py;exact q Z ys H2 sm hZ eZ py
end
def lessL(t:List Int)(q:Int):List Int:=t.filter λg=>decide (g<q)
theorem ZJ(a b x:Int):x-((((lessL ([a,b].take [V.int a,V.int b].length) x).map V.int).length:Nat):Int)=lowP [a,b] x:=by
 unfold lowP less lessL;rw[AE];rfl
def Ls(K:Au):Sp:=λvs H Q _=>∃(l g:Addr) (a b:Int) (xs:List V) (as:List (List Int)),vs=[.ref l,.ref g]/\SqL K H l xs/\BE (rPair K H) as xs/\(∀t∈as,Two t)/\as.length<=12/\SqT K H g [.int a,.int b] /\
 ∀(l':Addr) (ys:List V) (H':Hp),Same H H'->H l'=none->H' l'=some (.lst ys)->BE (rPair K H') ((as.filter (disj [a,b])).map (low [a,b])) ys->Q (.ref l') H'
section
variable{P:AL}{w:AQ}{K:Au}{mg:Str->Option Ap}{base:Heap}{f C D S:Addr}{fd:BV}
theorem Gb:FnScope ["_law_ties","_law_gone","_law_found","_law_one","_law_other"] ["_law_ties","_law_gone"] (Ac Cz):=⟨rfl,rfl,rfl,by decide +kernel,rfl,by decide +kernel,by decide +kernel⟩
theorem Tp{fW:Addr}{fdW:BV}(F:Fun K "_law_lowered" "_law_lowered" Cz f fd)(T:Txt K mg C)(GW:FnOk P w K mg base CX0 1 fW fdW ["_law_ties","_law_gone"] (Ih K))(bW:Binds K fdW ["_law_ties","_law_gone"] [])(kW:AK K (.ref fW)=true)(mW:mg "_law_without" = some (.ref fW)) :
  FnOk P w K mg base CX0 2 f fd ["_law_ties","_law_gone"] (Ls K):=by
 refine F.ok Gb (λvs H Q E h=>?_) (λcdv A outer s H vs Q E hr h=>?_)
 ·obtain ⟨l,g,a,b,xs,as,rfl,_⟩:=h
  rfl
 obtain ⟨l,g,a,b,xs,as,rfl,hl,px,two,a12,hg,q⟩:=h;refine ⟨_,Ah (BJ (i:=2) Gb.nd rfl (B3 rfl) (Dq Af))
  (Ah (Dg D1 rfl (CG (BL GW hr rfl mW kW bW .nil pass0 (Aa (pv 0) (Aa (pv 1) Af)))) (Tz rfl (Bo (Aq (i:=3) Gb.nd rfl (IE rfl)) (Bo (Aq (i:=4) Gb.nd rfl (IE rfl)) Eu)))
   (Aj (DY (Ke D3 DT DU CZ (pv 2) (Aa (Cd (Aa (Ar DK (pv 3) (Bb Bf rfl T.len D7 (Aa (Ca (Ac Cz) ["_law_p"] ["_law_one"] [3] rfl rfl (by decide +kernel) ⟨⟨rfl,by decide +kernel⟩,trivial⟩ (ZC (pv 1)) (λ_ _ _=>Aq (i:=0) (show ((["_law_p"]:List Str)++(["_law_one"]:List Str)).Nodup by decide +kernel) rfl (B3 rfl)) (λ_ _ _=>Ce (Aw JK (pv 0) (pv 1) (nomark _))) (λ_ _ _=>pv 0)) Af))) (Aa (Ar DK (pv 4) (Bb Bf rfl T.len D7 (Aa (Ca (Ac Cz) ["_law_p"] ["_law_other"] [4] rfl rfl (by decide +kernel) ⟨⟨rfl,by decide +kernel⟩,trivial⟩ (ZC (pv 1)) (λ_ _ _=>Aq (i:=0) (show ((["_law_p"]:List Str)++(["_law_other"]:List Str)).Nodup by decide +kernel) rfl (B3 rfl)) (λ_ _ _=>Ce (Aw JK (pv 0) (pv 1) (nomark _))) (λ_ _ _=>pv 0)) Af))) Af))) Af)))))
  (Aj (Ay (pv 2)))),?_⟩
 refine ⟨BH _,λFd hFd=>?_⟩;have s0:=Same.new hFd (.lst []);have eF0:(upd H Fd (.lst [])) Fd=some (.lst []):=Ab;generalize upd H Fd (.lst [])=H0 at s0 eF0;refine ⟨_,rfl,_,rfl,l,g,a,b,xs,as,rfl,s0.seq hl,Paired.imp (λ_ _ h=>Ao Av _ _ _ _ s0.ts h) px,two,a12,s0.ts.seq hg,λW zs H1 s1 hW eW pW=>⟨W,rfl,⟨_,SqL.of eW⟩,?_⟩⟩;have s01:=s0.trans s1;have eF1:=s1 _ _ eF0;have hg1:=s01.ts.seq hg;have WF:W≠Fd:=C6 (Ad eF0 hW);have two':∀t∈as.filter (disj [a,b]),Two t:=λt ht=>two t (B7.mp ht).1;have l12:(as.filter (disj [a,b])).length<=12:=BM (CB ..) a12;generalize as.filter (disj [a,b])=cs at pW two' l12 q;have lz:=AY pW;refine Cy (K:=K) (a:=W) (xs:=zs) (λi σ H2=>∃(o3 o4:Option V) (ys:List V),σ=[some (.ref l),some (.ref g),some (.ref Fd),o3,o4]/\(∀b o,b≠Fd->H1 b=some o->H2 b=some o)/\H2 Fd=some (.lst ys)/\BE (rPair K H2) ((cs.take i).map (low [a,b])) ys)
  ⟨none,none,[],rfl,λb o _ e=>e,eF1,.nil⟩ (λi σ H2 _ ⟨_,_,_,_,k2,_⟩=>SqL.of (k2 _ _ WF eW)) ?_ ?_
 ·rintro i v σ H2 hv ⟨o3,o4,ys,rfl,k2,eF,py⟩
  obtain ⟨t,ht,rt⟩:=Paired.get pW hv;obtain ⟨x,y,rfl⟩:=two' t (A8 ht);obtain ⟨tq,rfl,htq⟩:=Bv rt;have il:=(AH.mp ht).1;have ts2:TSm H1 H2:=λc u hb tt=>k2 c u (λz=>by
   rw[z,eF1] at hb;cases hb;obtain ⟨ys,e | ⟨o,e⟩⟩:=tt
   ·cases e
   ·cases e) hb
  have htq2:SqT K H2 tq [.int x,.int y]:=ts2.seq htq;have hg2:=ts2.seq hg1;refine ⟨tq,_,rfl,htq2,rfl,_,_,rfl,_,_,rfl,rfl,?_⟩;refine ⟨_,rfl,.inl ⟨rfl,_,SqL.of eF⟩,_,rfl,_,rfl,g,rfl,⟨_,hg2⟩,λZ1 hZ1=>?_⟩;refine Lw (xs:=[V.int a,V.int b]) (λi τ H5=>∃(n:Option V),τ=[n,some (.int x)]/\Same H2 H5/\H5 Z1=some (.lst ((lessL ([a,b].take i) x).map V.int))) ⟨none,rfl,Same.new hZ1 _,Ab⟩ (λi τ H5 _ ⟨_,_,sm,_⟩=>sm.ts.seq hg2) ?_ ?_
  ·rintro i y τ H5 hy ⟨n,rfl,sm,eZ⟩
   obtain ⟨u,hu,rfl⟩:=int_at (ns:=[a,b]) hy;have il:i<2:=(AH.mp hy).1;refine ⟨_,rfl,_,rfl,_,_,rfl,rfl,_,rfl,?_⟩;have tk:lessL ([a,b].take (i+1)) x=lessL ([a,b].take i) x++if u<x then [u] else []:=by
    unfold lessL;rw[Co,hu,Cs]
    congr 1
    show N2 _ [u]=_;rw[B0];by_cases c:u<x
    ·rw[if_pos (decide_eq_true c),if_pos c]
     rfl
    ·rw[if_neg (λh=>c (of_decide_eq_true h)),if_neg c]
     rfl
   have ll:(lessL ([a,b].take i) x).length<=2:=BM (CB ..) (by rw[BG];simp;lia);by_cases c:u<x
   ·refine iteP c ⟨_,rfl,_,eZ,BP (by rw[AE];lia),_,rfl,λb' o e=>?_,?_⟩
    ·rw[Ae (Ad e hZ1)]
     exact sm _ _ e
    ·rw[Ab,tk,if_pos c,Ct]
     rfl
   ·refine iteN c ⟨_,rfl,sm,?_⟩
    rw[tk,if_neg c,B9];exact eZ
  rintro τ H3 ⟨n1,rfl,sm1,eZ1⟩;refine ⟨Z1,_,rfl,.inl (SqL.of eZ1),_,_,rfl,rfl,?_⟩;rw[show (λ(i j:Int)=>V.int (i-j)) x _=V.int (lowP [a,b] x) from congrArg V.int (ZJ a b x)];have hg3:=sm1.ts.seq hg2;refine ⟨_,rfl,_,rfl,g,rfl,⟨_,hg3⟩,λZ2 hZ2=>?_⟩;refine Lw (xs:=[V.int a,V.int b]) (λi τ H5=>∃(n:Option V),τ=[n,some (.int y)]/\Same H3 H5/\H5 Z2=some (.lst ((lessL ([a,b].take i) y).map V.int))) ⟨none,rfl,Same.new hZ2 _,Ab⟩ (λi τ H5 _ ⟨_,_,sm,_⟩=>sm.ts.seq hg3) ?_ ?_
  ·rintro i y τ H5 hy ⟨n,rfl,sm,eZ⟩
   obtain ⟨u,hu,rfl⟩:=int_at (ns:=[a,b]) hy;have il:i<2:=(AH.mp hy).1;refine ⟨_,rfl,_,rfl,_,_,rfl,rfl,_,rfl,?_⟩;have tk:lessL ([a,b].take (i+1)) y=lessL ([a,b].take i) y++if u<y then [u] else []:=by
    unfold lessL;rw[Co,hu,Cs]
    congr 1
    show N2 _ [u]=_;rw[B0];by_cases c:u<y
    ·rw[if_pos (decide_eq_true c),if_pos c]
     rfl
    ·rw[if_neg (λh=>c (of_decide_eq_true h)),if_neg c]
     rfl
   have ll:(lessL ([a,b].take i) y).length<=2:=BM (CB ..) (by rw[BG];simp;lia);by_cases c:u<y
   ·refine iteP c ⟨_,rfl,_,eZ,BP (by rw[AE];lia),_,rfl,λb' o e=>?_,?_⟩
    ·rw[Ae (Ad e hZ2)]
     exact sm _ _ e
    ·rw[Ab,tk,if_pos c,Ct]
     rfl
   ·refine iteN c ⟨_,rfl,sm,?_⟩
    rw[tk,if_neg c,B9];exact eZ
  rintro τ H4 ⟨n2,rfl,sm2,eZ2⟩;refine ⟨Z2,_,rfl,.inl (SqL.of eZ2),_,_,rfl,rfl,?_⟩;rw[show (λ(i j:Int)=>V.int (i-j)) y _=V.int (lowP [a,b] y) from congrArg V.int (ZJ a b y)];refine ⟨(by show 2<=sizeLine;decide),λTq hTq=>?_⟩;have s34:=sm1.trans sm2;have sT:=Same.new hTq (.tup [.int (lowP [a,b] x),.int (lowP [a,b] y)]);have eF4:=sT _ _ (s34 _ _ eF);have FT:Fd≠Tq:=Ad (s34 _ _ eF) hTq;have ly:ys.length<=12:=by
   rw[<- AY py,AE,BG];lia
  refine ⟨Fd,ys,_,rfl,rfl,eF4,BP (by lia),?_⟩;refine ⟨_,_,ys++[.ref Tq],rfl,λc o h e=>?_,Ab,?_⟩
  ·rw[Ae h]
   exact sT _ _ (s34 _ _ (k2 c o h e))
  ·have ts:TSm H2 _:=(s34.trans sT).ts.trans (TSm.lst (o:=.lst (ys++[.ref Tq])) eF4)
   rw[Co,ht,Ct];refine Paired.app (Paired.imp (λ_ _ h=>Ao Av _ _ _ _ ts h) py) (Paired.one ⟨Tq,_,rfl,SqT.of (by rw[Ae (C6 FT)];exact Ab),paired_ints _⟩)
 ·rintro σ H2 ⟨o3,o4,ys,rfl,k2,eF,py⟩
  rw[<- lz,CU] at py;refine ⟨_,rfl,q Fd ys H2 (λc o e=>?_) hFd eF py⟩;exact k2 c o (Ad e hFd) (s01 _ _ e)
end
end K54
end
section
namespace G
open L2
theorem ZS{T:Type}:∀(L:List T) (P:List T->Bool),cT L P<=2 ^ L.length
 | [],P=>by
  show (if P []=true then 1 else 0)<=1;split<;>lia
 | t::ts,P=>by
  show cT ts P+cT ts (λr=>P (t::r))<=2 ^ (ts.length+1);have a:=ZS ts P;have b:=ZS ts (λr=>P (t::r));rw[J0];lia
theorem Od{z:Nat}{t:List Int}(h:OkTie (z:Int) t):Tie2 z t:=by
 obtain ⟨a,b,rfl,a0,a1,b0,b1,ab⟩:=h;exact ⟨a.toNat,b.toNat,by rw[O6 a0,O6 b0],by lia,by lia,by lia⟩
theorem UG{m:Int}{as bs:List (List Int)}(h:OkTies m as)(s:bs.Sublist as):OkTies m bs:=⟨λt ht=>h.ok t (s.subset ht),h.nd.sublist (s.map srt)⟩
theorem ACV{z:Nat}{as:List (List Int)}{t:List Int}(h:OkTies (z:Int) as)(ht:OkTie (z:Int) t):OkTies ((z-2:Nat):Int) ((as.filter (disj t)).map (low t)):=by
 obtain ⟨a,b,rfl,az,bz,ab⟩:=Od ht;have pts:∀x∈as.filter (disj [(a:Int),(b:Int)]),∃u v:Int,x=[u,v]/\0<=u/\u<z/\0<=v/\v<z/\u≠v/\u≠a/\u≠b/\v≠a/\v≠b:=λx hx=>by
  obtain ⟨h1,h2⟩:=B7.mp hx;obtain ⟨u,v,rfl,u0,u1,v0,v1,uv⟩:=h.ok x h1;have d1:=Dp.mp h2 u (AD ..);have d2:=Dp.mp h2 v (AG _ (AD ..));exact ⟨u,v,rfl,u0,u1,v0,v1,uv,λe=>d1 (by rw[e];exact AD ..),λe=>d1 (by rw[e];exact AG _ (AD ..)),λe=>d2 (by rw[e];exact AD ..),λe=>d2 (by rw[e];exact AG _ (AD ..))⟩
 have rng:∀q:Int,0<=q->q<z->q≠a->q≠b->0<=lowP [(a:Int),(b:Int)] q/\lowP [(a:Int),(b:Int)] q<((z-2:Nat):Int):=λq q0 q1 qa qb=>by
  rw[Dm];split<;>split<;>lia
 refine ⟨λy hy=>?_,?_⟩
 ·obtain ⟨x,hx,rfl⟩:=BQ.mp hy
  obtain ⟨u,v,rfl,u0,u1,v0,v1,uv,ua,ub,va,vb⟩:=pts x hx;have r1:=rng u u0 u1 ua ub;have r2:=rng v v0 v1 va vb;exact ⟨_,_,rfl,r1.1,r1.2,r2.1,r2.2,λe=>uv (GJ ab ua ub va vb e)⟩
 ·rw[Fn]
  unfold J5;rw[CY];have nd:=h.nd.sublist (Jn (l:=as) (p:=disj [(a:Int),(b:Int)]).map srt);unfold J5 at nd;rw[CY] at nd;refine DV (λ{x y} hx hy ne e=>ne ?_) nd;obtain ⟨u,v,rfl,u0,u1,v0,v1,uv,ua,ub,va,vb⟩:=pts x hx;obtain ⟨u',v',rfl,u0',u1',v0',v1',uv',ua',ub',va',vb'⟩:=pts y hy;have e':srt [lowP [(a:Int),(b:Int)] u,lowP [(a:Int),(b:Int)] v]=srt [lowP [(a:Int),(b:Int)] u',lowP [(a:Int),(b:Int)] v']:=e;have i1:=@GJ a b ab u u' ua ub ua' ub';have i2:=@GJ a b ab v v' va vb va' vb';have i3:=@GJ a b ab u v' ua ub va' vb';have i4:=@GJ a b ab v u' va vb ua' ub';rw[CJ,CJ] at e';have both:(u=u'/\v=v')\/(u=v'/\v=u'):=by
   split at e'<;>split at e'
   ·injection e' with h1 h2
    injection h2 with h2 _
    exact .inl ⟨i1 h2,i2 h1⟩
   ·injection e' with h1 h2
    injection h2 with h2 _
    exact .inr ⟨i3 h2,i4 h1⟩
   ·injection e' with h1 h2
    injection h2 with h2 _
    exact .inr ⟨i3 h1,i4 h2⟩
   ·injection e' with h1 h2
    injection h2 with h2 _
    exact .inl ⟨i1 h1,i2 h2⟩
  rcases both with⟨rfl,rfl⟩ | ⟨rfl,rfl⟩
  ·rfl
  ·rw[CJ,CJ]
   split<;>split<;>first | rfl | (exfalso;lia)
theorem TY{al:Int->Bool}(h0:al 0=false)(h1:al 1=true){z:Nat}(z1:1<=z)(z3:z<3){as:List (List Int)}(h:OkTies (z:Int) as):cT as (okT al z)=if z=2/\as≠[] then 1 else 0:=by
 have emp:okT al z []=false:=by
  cases e:okT al z [] with
  | false=>rfl
  | true =>
   have:=Cp.mp e 0 (by lia);have e':al 0=true:=this;rw[h0] at e';cases e'
 cases as with
 | nil =>
  rw[if_neg (λz=>z.2 rfl)];show (if okT al z []=true then 1 else 0)=0;rw[emp];rfl
 | cons t ts =>
  obtain ⟨a,b,rfl,a0,a1,b0,b1,ab⟩:=h.ok t (AD ..);have z2:z=2:=by lia
  subst z2;have nil:ts=[]:=by
   cases ts with
   | nil=>rfl
   | cons u us =>
    obtain ⟨c,d,rfl,c0,c1,d0,d1,cd⟩:=h.ok u (AG _ (AD ..));have nd:=h.nd;rw[BO,BO] at nd;refine absurd ?_ (C7.mp nd).1;refine Bz.mpr (.inl ?_);rw[CJ,CJ];have:(a=c/\b=d)\/(a=d/\b=c):=by lia
    rcases this with⟨rfl,rfl⟩ | ⟨rfl,rfl⟩
    ·rfl
    ·split<;>split<;>first | rfl | (exfalso;lia)
  subst nil;rw[if_pos ⟨rfl,by intro z;cases z⟩];show (if okT al 2 []=true then 1 else 0)+(if okT al 2 [[a,b]]=true then 1 else 0)=1;rw[emp,if_neg (by decide),if_pos];refine Cp.mpr λp hp=>?_;rw[FZ,if_pos]
  ·exact h1
  ·have:(p:Int)=a\/(p:Int)=b:=by lia
   simpa using this
end G
end
section
namespace L2
open PySem PySem.Spec PyProof.Rows
end L2
end
section
namespace L2
open PySem PySem.Spec PyProof.Rows
def sumI:List Int->Int
 | []=>0
 | x::xs=>x+sumI xs
theorem QW:∀(a b:List Int),sumI (a++b)=sumI a+sumI b
 | [],b=>by show sumI b=0+sumI b;lia
 | x::a,b=>by
  show x+sumI (a++b)=x+sumI a+sumI b;rw[QW a b];lia
theorem Fi(ns:List Int):∀j,j<=ns.length->preSum (λi=>ns.getD i 0) j=sumI (ns.take j)
 | 0,_=>rfl
 | j+1,h=>by
  have jl:j<ns.length:=h;show preSum (λi=>ns.getD i 0) j+ns.getD j 0=_;rw[Fi ns j (by lia),Co,AI jl,AB,AI jl];show _=sumI (ns.take j++[ns[j]]);rw[QW];show _=_+(ns[j]+0);rw[Int.add_zero];rfl
theorem KJ{b:Int}(h0:0<=b):∀{ns:List Int},(∀x∈ns,0<=x/\x<=b)->0<=sumI ns/\sumI ns<=b*ns.length
 | [],_=>⟨G2 _,by show (0:Int)<=b*((0:Nat):Int);simp⟩
 | x::ns,h=>by
  obtain ⟨i1,i2⟩:=KJ h0 (ns:=ns) λy hy=>h y (AG _ hy);obtain ⟨x1,x2⟩:=h x AD;refine ⟨by show 0<=x+sumI ns;lia,?_⟩;show x+sumI ns<=b*((ns.length+1:Nat):Int);rw[NF,Int.mul_add];show _<=b*(ns.length:Int)+b*1;lia
section
variable{X:Cx}{K:Au}
theorem sum_list(hc:X.calm=true):CallR X (.builtin "sum") (λxs H Q=>∃(p:Addr) (ns:List Int),xs=[.ref p]/\SqL X.K H p (ns.map V.int)/\ns.length<=100/\(∀x∈ns,0<=x/\x<=4096)/\Q (.int (sumI ns)) H):=by
 intro pins s σ H xs us Q I r h;obtain ⟨p,ns,rfl,hq,hl1,hb,q⟩:=h;obtain ⟨u0,rfl,ru⟩:=r.one;cases ru;obtain ⟨its,rv,pl,hz⟩:=I.list hq;have hi:=intsAre_of rv;have hl:=pl.isList;obtain ⟨ys,e⟩:=hi.allInts.items;have hns:ns=ys.toList.map (·.1):=by rw[<- hi.numsOf,<- nums_intItems,<- e]
 have hsz:ys.size=ns.length:=by
  rw[hns,AE,AV]
 have hnum:T9 ys=λi=>ns.getD i 0:=by
  funext i
  rw[hns,UX]
 rw[e] at hl;refine sum_intList (I.ok.hd hc) hl (λj hj=>?_) λh' tk t' hk=>?_
 ·rw[hnum,Fi ns (j+1) (by lia)]
  have jl:j<ns.length:=by lia
  have m:ns.getD j 0∈ns:=by rw[AB,AI jl];exact FR jl
  have b1:=hb _ m;obtain ⟨c1,c2⟩:=KJ (b:=4096) (by decide) (ns:=ns.take (j+1)) λx hx=>hb x (IS hx);rw[BG] at c2;refine ⟨⟨?_,?_⟩,?_,?_⟩
  ·show -(2 ^ 63)<=ns.getD j 0;lia
  ·show ns.getD j 0<2 ^ 63;lia
  ·lia
  ·lia
 ·refine ⟨.int (sumI ns),H,I.kept hk,⟨t',?_⟩,q⟩
  rw[hnum,hsz,Fi ns ns.length (AF _),CU]
end
end L2
end
section
namespace K54
open PySem L2 G
theorem Ir{α β:Type}{F:α->β->Prop}:∀{l:List α}{m:List β},BE F l m->∀k,BE F (l.take k) (m.take k)
 | _,_,.nil,k=>by rw[TK,TK];exact .nil
 | _,_,.cons h t,0=>.nil
 | _,_,.cons h t,k+1=>.cons h (Ir t k)
theorem Lg{α β:Type}{F:α->β->Prop}:∀{l:List α}{m:List β},BE F l m->∀k,BE F (l.drop k) (m.drop k)
 | _,_,.nil,k=>by rw[TL,TL];exact .nil
 | _,_,.cons h t,0=>.cons h t
 | _,_,.cons h t,k+1=>Lg t k
theorem Xe(xs:List V)(k:Nat):cutV xs none (some (k:Int))=xs.take k:=by
 unfold cutV;rw[HT.Pk,HT.Uw,List.drop_zero,UY];rcases C4 k xs.length with c | c
 ·rw[show min k xs.length=k by lia]
 ·rw[show min k xs.length=xs.length by lia,FX (AF _),FX c]
theorem ABq(xs:List V){k:Nat}(h:k<=xs.length):cutV xs (some (k:Int)) none=xs.drop k:=by
 unfold cutV;rw[HT.Pk,HT.Uw,show min k xs.length=k by lia];exact FX (by rw[FK];lia)
theorem alP0:alP false 0=true:=rfl
theorem alP1(fu:Bool):alP fu 1=true:=by cases fu<;>rfl
theorem alP2(fu:Bool):NoTwo (alP fu):=by cases fu<;>rfl
theorem alPf:alP true 0=false:=rfl
theorem ABO(z:Nat)(as:List (List Int)):1<=cntP false z as:=Yz (Cp.mpr λp _=>rfl)
theorem ABG{z:Nat}{as:List (List Int)}(h:OkTies (z:Int) as){k:Nat}{t:List Int}(hk:as[k]?=some t):cntP false z as=cntP false z (as.take k++as.drop (k+1))+cntP false z (as.filter (disj t)):=by
 have ht:=Od (h.ok t (A8 hk));obtain ⟨kl,ek⟩:=AH.mp hk;have e:as=as.take k++t::as.drop (k+1):=by
  rw[<- ek,<- JO kl];exact (DZ ..).symm
 have f:as.filter (disj t)=(as.take k++as.drop (k+1)).filter (disj t):=by
  conv=>lhs;rw[e]
  rw[Cs,Cs,B0,if_neg (by rw[Xm ht];decide)]
 have c:=WQ (z:=z) (alP2 false) alP0 (alP1 false) ht (as.take k) (as.drop (k+1));rw[<- e] at c;rw[f];exact c
theorem RM:∀ns:List Nat,sumI (ns.map λn:Nat=>(n:Int))=((ns.sum:Nat):Int)
 | []=>rfl
 | n::ns=>by
  rw[BO,O0];have:=RM ns;show _=((n+ns.sum:Nat):Int);rw[NF,<- this];rfl
section
variable{P:AL}{w:AQ}{K:Au}{mg:Str->Option Ap}{base:Heap}{f C D S:Addr}{fd:BV}
theorem Ge:FnScope ["_law_script","_law_points","_law_ties","_law_many_here","_law_full","_law_k","_law_others","_law_point","_law_here"] ["_law_script"] (Ac Qm):=⟨rfl,rfl,rfl,by decide +kernel,rfl,by decide +kernel,by decide +kernel⟩
theorem ACR{fC fW fM fO fL:Addr}{fdC fdW fdM fdO fdL:BV}(F:Fun K "law" "law" Qm f fd)(T:Txt K mg C)(hsum:mg "sum" = none)
  (GC:FnOk P w K mg base CX0 1 fC fdC ["_law_script","_law_k"] (Tv K)) (bC:Binds K fdC ["_law_script","_law_k"] []) (kC:AK K (.ref fC)=true) (mC:mg "_law_cell" = some (.ref fC))
  (GW:FnOk P w K mg base CX0 3 fW fdW ["_law_script","_law_at"] (ABe K)) (bW:Binds K fdW ["_law_script","_law_at"] []) (kW:AK K (.ref fW)=true) (mW:mg "_law_web" = some (.ref fW))
  (GM:FnOk P w K mg base CX0 18 fM fdM ["_law_points","_law_ties","_law_full"] (Ve K)) (bM:Binds K fdM ["_law_points","_law_ties","_law_full"] []) (kM:AK K (.ref fM)=true) (mM:mg "_law_many" = some (.ref fM))
  (GO:FnOk P w K mg base CX0 1 fO fdO ["_law_ties","_law_gone"] (Ih K)) (bO:Binds K fdO ["_law_ties","_law_gone"] []) (kO:AK K (.ref fO)=true) (mO:mg "_law_without" = some (.ref fO))
  (GL:FnOk P w K mg base CX0 2 fL fdL ["_law_ties","_law_gone"] (Ls K)) (bL:Binds K fdL ["_law_ties","_law_gone"] []) (kL:AK K (.ref fL)=true) (mL:mg "_law_lowered" = some (.ref fL)) :
  FnOk P w K mg base CX0 19 f fd ["_law_script"] (RL K):=by
 refine F.ok Ge (λvs H Q E h=>?_) (λcdv A outer s H vs Q E hr h=>?_)
 ·obtain ⟨a,ns,rfl,_⟩:=h
  rfl
 obtain ⟨a,ns,rfl,hS,n63,q⟩:=h;have hr1:Room 1 _:=hr.mono (by decide);have hr2:Room 2 _:=hr.mono (by decide);have hr3:Room 3 _:=hr.mono (by decide);refine ⟨_,Ah (ABt (BL GW hr3 rfl mW kW bW .nil pass0 (Aa (pv 0) (Aa Ai Af))) (Tz rfl (Bo (Aq (i:=1) Ge.nd rfl (IE rfl)) (Bo (Aq (i:=2) Ge.nd rfl (IE rfl)) Eu))))
  (Ow (CQ (Aw Uu (Ar DP (Ar HD (BL GC hr1 rfl mC kC bC .nil pass0 (Aa (pv 0) (Aa Ai Af))) Ai) Ai) Ai (nomark _)) (Aj (BJ (i:=2) Ge.nd rfl (IE rfl) (Kq Ol (pv 2) Oc (Nk Ai)))) Bc)
  (Ah (BJ (i:=3) Ge.nd rfl (B3 rfl) (BL GM hr rfl mM kM bM .nil pass0 (Aa (pv 1) (Aa (pv 2) (Aa Ez Af)))))
  (Ah (BJ (i:=4) Ge.nd rfl (B3 rfl) (BL GM hr rfl mM kM bM .nil pass0 (Aa (pv 1) (Aa (pv 2) (Aa Ez Af)))))
  (Ah (CQ (PW.pt (VF (Aw JK (pv 3) Ai (nomark _)) (Ob (Aw JK (pv 4) Ai (nomark _))))) (Aj (Ay Ez)) Bc)
  (Ow (CQ (Aw (Xn (Ht Ho) (CW hr)) (pv 2) (Dq Af) (nomark _))
   (Ah (BJ (i:=5) Ge.nd rfl (B3 rfl) (Ar DP (BL GC hr1 rfl mC kC bC .nil pass0 (Aa (pv 0) (Aa Ai Af))) (Bb Bf rfl T.len D7 (Aa (pv 2) Af))))
   (Ah (BJ (i:=6) Ge.nd rfl (B3 rfl) (Ar ACd (Kq Ol (pv 2) Oc (Nk (pv 5))) (Kq Ol (pv 2) (Nk (Ar Cg (pv 5) Ai)) Oc)))
   (Aj (CQ (Aw Uu (pv 3) (Ar Cg (BL GM hr rfl mM kM bM .nil pass0 (Aa (pv 1) (Aa (pv 6) (Aa Ez Af)))) (BL GM hr rfl mM kM bM .nil pass0 (Aa (pv 1) (Aa (BL GO hr1 rfl mO kO bO .nil pass0 (Aa (pv 2) (Aa (Bl Dz (pv 2) (pv 5) (λ_ _=>rfl)) Af))) (Aa Ez Af))))) (nomark _)) (Aj (Ay Ez)) Bc)))) Bc)
  (Ah (CQ (Aw JK (pv 1) Ai (nomark _)) (Aj (Ay (Ds Fx (pv 4) (Bt Iz rfl T.int KS (Aa (ZD (Ds Fx (pv 1) Ai (nomark _)) (Rp (Ds (Xn (Ht Ho) (CW hr)) (pv 2) (Dq Af) (nomark _)))) Af)) (nomark _)))) Bc)
  (Ah (BJ (i:=7) Ge.nd rfl (IE rfl) (Ar DP (BL GC hr1 rfl mC kC bC .nil pass0 (Aa (pv 0) (Aa Ai Af))) (pv 1)))
  (Ah (Og (i:=8) (Ac Qm) ["_law_tie"] ["_law_point"] [7] Ge.nd rfl (B3 rfl) rfl rfl (by decide +kernel) ⟨⟨rfl,by decide +kernel⟩,trivial⟩ (CG (pv 2))
   (λ_ _ _=>Aq (i:=0) (show ((["_law_tie"]:List Str)++(["_law_point"]:List Str)).Nodup by decide +kernel) rfl (B3 rfl))
   (λ_ _ _=>Ce (Aw (Gm (K:=K) rfl) (pv 1) (pv 0) rfl)) (λ_ _ _=>pv 0))
  (Aj (Ay (Ds Fx (pv 4) (Bb (sum_list rfl) rfl hsum VY (Aa (Ca (Ac Qm) ["_law_tie"] ["_law_points","_law_ties"] [1,2] rfl rfl (by decide +kernel) ⟨⟨rfl,by decide +kernel⟩,⟨rfl,by decide +kernel⟩,trivial⟩ (CG (pv 8))
   (λ_ _ _=>Aq (i:=0) (show ((["_law_tie"]:List Str)++(["_law_points","_law_ties"]:List Str)).Nodup by decide +kernel) rfl (B3 rfl))
   (λ_ _ _=>FW)
   (λ_ _ _=>BL GM hr rfl mM kM bM .nil pass0 (Aa (Ar DK (pv 1) Ai) (Aa (BL GL hr2 rfl mL kL bL .nil pass0 (Aa (pv 2) (Aa (pv 0) Af))) (Aa Ez Af))))) Af)) (nomark _)))))))))))),?_⟩
 refine ⟨_,rfl,a,ns,0,rfl,hS,by lia,λt l m xl as0 H1 s1 et el nl pl m1 m10 h12 ok0=>?_⟩;refine ⟨t,_,rfl,SqT.of et,rfl,_,_,rfl,_,_,rfl,rfl,?_⟩;obtain ⟨z,rfl⟩:∃z:Nat,m=(z:Int):=⟨m.toNat,by lia⟩;have hS1:=s1.seq hS;refine ⟨λσ HA=>∃(l2:Addr) (ts:List V) (as:List (List Int)),σ=[some (.ref a),some (.int z),some (.ref l2),none,none,none,none,none,none]/\SqL K HA a (ns.map V.int)/\HA l2=some (.lst ts)/\BE (rPair K HA) as ts/\OkTies (z:Int) as/\as.length<=12,?_,?_⟩
 ·refine ⟨_,rfl,a,ns,0,rfl,hS1,by lia,λc0=>⟨_,_,rfl,rfl,⟨by decide,by decide⟩,_,_,rfl,rfl,(by show (0:Int)<8;decide),rfl,_,rfl,?_⟩⟩
  refine ite2 (λ_=>?_) (λ_=>⟨l,xl,as0,rfl,hS1,el,pl,ok0,h12⟩);refine ⟨_,rfl,_,rfl,l,xl,rfl,SqL.of el,λl2 hl2=>?_⟩;rw[show cutV xl none (some 5)=xl.take 5 from Xe xl 5];have s2:=Same.new hl2 (.lst (xl.take 5));exact ⟨l2,xl.take 5,as0.take 5,rfl,s2.seq hS1,Ab,Paired.imp (λ_ _ r=>Ao Av _ _ _ _ s2.ts r) (Ir pl 5),UG ok0 (Go ..),by rw[BG];lia⟩
 rintro σ H2 ⟨l2,ts,as,rfl,hS2,el2,pl2,ok,a12⟩;have lx:=AY pl2;have z1:1<=z:=by lia
 have z10:z<=10:=by lia
 have two:∀t∈as,Two t:=λt ht=>(let ⟨x,y,e,_⟩:=ok.ok t ht;⟨x,y,e⟩);have lift:∀{H':Hp},Same H2 H'->BE (rPair K H') as ts:=λs=>Paired.imp (λ_ _ r=>Ao Av _ _ _ _ s.ts r) pl2;refine ⟨_,rfl,_,rfl,z,l2,false,ts,as,rfl,SqL.of el2,pl2,ok,a12,z1,z10,λH3 s3=>?_⟩;refine ⟨_,rfl,_,rfl,z,l2,true,ts,as,rfl,SqL.of (s3 _ _ el2),lift s3,ok,a12,z1,z10,λH4 s34=>?_⟩;have s4:=s3.trans s34;refine ⟨_,rfl,_,_,rfl,rfl,_,rfl,?_⟩;rw[decide_eq_false (show ¬ ((cntP false z as:Nat):Int)<1 by have:=ABO z as;lia)];refine iteF ⟨_,rfl,_,_,rfl,rfl,_,rfl,?_⟩;rw[decide_eq_false (show ¬ ((cntP true z as:Nat):Int)<0 by lia)];refine iteF ?_;refine ⟨λσ HA=>∃(o5 o6:Option V),σ=[some (.ref a),some (.int z),some (.ref l2),some (.int (cntP false z as:Nat)),some (.int (cntP true z as:Nat)),o5,o6,none,none]/\Same H2 HA,?_,?_⟩
 ·refine ⟨_,rfl,BH _,λe he=>⟨as,[],⟨l2,ts,rfl,SqL.of (Same.new he _ _ _ (s4 _ _ el2)),lift (s4.trans (Same.new he _))⟩,⟨e,[],rfl,SqL.of Ab,.nil⟩,_,rfl,?_⟩⟩
  have s5:=s4.trans (Same.new he (.lst []));generalize upd H4 e (.lst [])=H5 at s5;by_cases c:as=[]
  ·rw[decide_eq_true c]
   exact iteF ⟨_,_,rfl,s5⟩
  rw[decide_eq_false c];refine iteT ?_;have tpos:0<ts.length:=by rw[<- lx];exact List.length_pos_iff.mpr c
  refine ⟨_,rfl,a,ns,2,rfl,s5.seq hS2,by lia,λc2=>⟨_,rfl,l2,_,rfl,.inl (SqL.of (s5 _ _ el2)),_,_,rfl,rfl,(by lia),?_⟩⟩;obtain ⟨k,ek,kt⟩:∃k:Nat,c2%(ts.length:Int)=(k:Int)/\k<ts.length:=by
   have h1:=Fk c2 (show (ts.length:Int)≠0 by lia);have h2:=EA c2 (show (0:Int)<ts.length by lia);exact ⟨(c2%(ts.length:Int)).toNat,by lia,by lia⟩
  show gName 5 (V.int (c2%(ts.length:Int))) _ _ _;rw[ek];have ka:k<as.length:=by lia
  refine ⟨_,rfl,_,rfl,_,rfl,l2,ts,rfl,SqL.of (s5 _ _ el2),λe1 he1=>?_⟩;rw[Xe];have s6:=Same.new he1 (.lst (ts.take k));have e1o:(upd H5 e1 (.lst (ts.take k))) e1=some (.lst (ts.take k)):=Ab;generalize upd H5 e1 (.lst (ts.take k))=H6 at s6 e1o;refine ⟨_,rfl,_,rfl,_,_,rfl,rfl,_,rfl,l2,ts,rfl,SqL.of (s6 _ _ (s5 _ _ el2)),λe2 he2=>?_⟩;rw[show cutV ts (some ((k:Int)+1)) none=ts.drop (k+1) from ABq ts (k:=k+1) (by lia)];refine ⟨e1,e2,_,_,rfl,rfl,Same.new he2 _ _ _ e1o,Ab,?_,λp hp=>?_⟩
  ·rw[BG,FK]
   exact De (BP (by lia))
  have s8:=(s5.trans s6).trans ((Same.new he2 (.lst (ts.drop (k+1)))).trans (Same.new hp (.lst (ts.take k++ts.drop (k+1)))));have ep:(upd (upd H6 e2 (.lst (ts.drop (k+1)))) p (.lst (ts.take k++ts.drop (k+1)))) p=some (.lst (ts.take k++ts.drop (k+1))):=Ab;generalize upd (upd H6 e2 (.lst (ts.drop (k+1)))) p (.lst (ts.take k++ts.drop (k+1)))=H8 at s8 ep;have sub:(as.take k++as.drop (k+1)).Sublist as:=by
   conv=>rhs;rw[<- DZ k as]
   refine U9 ?_ _;rw[<- LM];exact FD ..
  refine ⟨_,rfl,_,rfl,_,rfl,z,p,false,_,as.take k++as.drop (k+1),rfl,SqL.of ep,Paired.app (Ir (lift s8) k) (Lg (lift s8) (k+1)),UG ok sub,BM sub.length_le a12,z1,z10,λH9 s89=>?_⟩;have s9:=s8.trans s89;obtain ⟨t',ht',rt'⟩:=Paired.get (lift s9) (show ts[k]?=some ts[k] from AI kt);obtain ⟨u,v,rfl⟩:=two t' (A8 ht');obtain ⟨tq,etq,htq⟩:=Bv rt';refine ⟨_,rfl,_,rfl,_,rfl,_,rfl,l2,ts,(k:Int),ts[k],rfl,rfl,SqL.of (s9 _ _ el2),?_,?_⟩
  ·exact Dd (AI kt)
  rw[etq];refine ⟨l2,tq,u,v,ts,as,rfl,SqL.of (s9 _ _ el2),lift s9,two,a12,htq,λl' ys H10 s910 _ el' pl'=>?_⟩;refine ⟨z,l',false,ys,_,rfl,SqL.of el',pl',UG ok (Jn ..),BM (CB ..) a12,z1,z10,λH11 s11=>?_⟩;refine ⟨_,_,rfl,rfl,rfl,_,rfl,?_⟩;rw[decide_eq_true (show V.int ((cntP false z as:Nat):Int)=V.int (((cntP false z (as.take k++as.drop (k+1)):Nat):Int)+((cntP false z (as.filter (disj [u,v])):Nat):Int)) by rw[ABG ok ht',NF])];exact iteF ⟨_,_,rfl,s9.trans (s910.trans s11)⟩
 rintro σ H5 ⟨o5,o6,rfl,s5⟩;refine ⟨_,rfl,_,_,rfl,rfl,_,rfl,?_⟩;refine ite2 (λc=>?_) (λc=>?_)
 ·-- one point,or two
  have c':(z:Int)<3:=of_decide_eq_true c;have fp:=TY alPf (alP1 true) z1 (by lia) ok;refine ⟨_,rfl,_,rfl,rfl,_,rfl,?_⟩;by_cases c2:z=2
  ·rw[decide_eq_true (show V.int (z:Int)=V.int 2 by rw[c2];rfl)]
   refine iteT ⟨_,rfl,BH _,λe he=>⟨as,[],⟨l2,ts,rfl,SqL.of (Same.new he _ _ _ (s5 _ _ el2)),lift (s5.trans (Same.new he _))⟩,⟨e,[],rfl,SqL.of Ab,.nil⟩,.inr ⟨_,rfl,rfl,?_⟩⟩⟩;rw[decide_eq_true]
   ·exact q _
   ·show V.int ((cT as (okT (alP true) z):Nat):Int)=_
    rw[fp];by_cases c3:as=[]
    ·rw[if_neg (λh=>h.2 c3),decide_eq_true c3]
     rfl
    ·rw[if_pos ⟨c2,c3⟩,decide_eq_false c3]
     rfl
  ·rw[decide_eq_false (λh=>c2 (by injection h with h;lia))]
   refine iteF (.inr ⟨_,rfl,rfl,?_⟩);rw[decide_eq_true]
   ·exact q _
   ·show V.int ((cT as (okT (alP true) z):Nat):Int)=_
    rw[fp,if_neg (λh=>c2 h.1)];rfl
 have z3:3<=z:=by
  have:¬ (z:Int)<3:=λh=>c (decide_eq_true h);lia
 refine ⟨_,rfl,a,ns,3,rfl,s5.seq hS2,by lia,λc3=>⟨_,rfl,_,_,rfl,rfl,(by lia),?_⟩⟩;obtain ⟨p,ep,pz⟩:∃p:Nat,c3%(z:Int)=(p:Int)/\p<z:=by
  have h1:=Fk c3 (show (z:Int)≠0 by lia);have h2:=EA c3 (show (0:Int)<z by lia);exact ⟨(c3%(z:Int)).toNat,by lia,by lia⟩
 show gName 7 (V.int (c3%(z:Int))) _ _ _;rw[ep];refine ⟨_,rfl,l2,rfl,⟨_,SqL.of (s5 _ _ el2)⟩,λZ hZ=>?_⟩;refine Cj (xs:=ts) (λi τ H6=>∃(n:Option V) (ys:List V),τ=[n,some (.int (p:Int))]/\Same H5 H6/\H6 Z=some (.lst ys)/\BE (rPair K H6) ((as.take i).filter λt=>decide ((p:Int)∈t)) ys) ⟨none,[],rfl,Same.new hZ _,Ab,.nil⟩ (λi τ H6 _ ⟨_,_,_,sm,_⟩=>SqL.of (sm _ _ (s5 _ _ el2))) ?_ ?_
 ·rintro i v τ H6 hv ⟨n,ys,rfl,sm,eZ,py⟩
  obtain ⟨t',ht',rt'⟩:=Paired.get (lift (s5.trans sm)) hv;obtain ⟨x,y,rfl⟩:=two t' (A8 ht');obtain ⟨tq,rfl,htq⟩:=Bv rt';have il:=(AH.mp ht').1;have ly:ys.length<=12:=by
   rw[<- AY py];exact BM (CB ..) (by rw[BG];lia)
  have tk:((as.take (i+1)).filter λt=>decide ((p:Int)∈t))=((as.take i).filter λt=>decide ((p:Int)∈t))++if decide ((p:Int)∈[x,y])=true then [[x,y]] else []:=by
   rw[Co,ht',Cs]
   congr 1
   show N2 _ [[x,y]]=_;rw[B0];rfl
  refine ⟨_,rfl,_,rfl,tq,_,rfl,.inr htq,rfl,flat2 x y,_,rfl,?_⟩;show putD Z _ _ _ (inV (V.int (p:Int)) ([x,y].map V.int)) H6;rw[Dj];by_cases c1:(p:Int)∈[x,y]
  ·rw[decide_eq_true c1]
   refine iteT ⟨_,rfl,ys,eZ,BP (by lia),_,_,rfl,λb' o e=>?_,Ab,?_⟩
   ·rw[Ae (Ad e hZ)]
    exact sm _ _ e
   ·rw[tk,if_pos (decide_eq_true c1)]
    have ts':TSm H6 (upd H6 Z (.lst (ys++[.ref tq]))):=TSm.lst eZ;exact Paired.app (Paired.imp (λ_ _ h=>Ao Av _ _ _ _ ts' h) py) (Paired.one (Ao Av _ _ _ _ ts' rt'))
  ·rw[decide_eq_false c1]
   refine iteF ⟨_,ys,rfl,sm,eZ,?_⟩;rw[tk,if_neg (λh=>c1 (of_decide_eq_true h)),B9];exact py
 rintro τ H6 ⟨n,zs,rfl,s56,eZ,pz'⟩;rw[<- lx,CU] at pz';have s6:=s5.trans s56;have hh12:(as.filter λt=>decide ((p:Int)∈t)).length<=12:=BM (CB ..) a12;have hsub:∀t∈as.filter (λt=>decide ((p:Int)∈t)),OkTie (z:Int) t:=λt ht=>ok.ok t (B7.mp ht).1;have fc:cntP true z as=((as.filter λt=>decide ((p:Int)∈t)).map λt=>cntP true (z-2) ((as.filter (disj t)).map (low t))).sum:=YK (alP2 true) alPf (alP1 true) pz (λx hx=>Od (ok.ok x hx));generalize (as.filter λt=>decide ((p:Int)∈t))=hs at pz' hh12 hsub fc;have lz:=AY pz';refine ⟨_,rfl,_,rfl,Z,rfl,⟨_,SqL.of eZ⟩,λY hY=>?_⟩;have ZY:Z≠Y:=Ad eZ hY;refine Cj (xs:=zs) (λi τ H7=>∃(n:Option V),τ=[n,some (.int (z:Int)),some (.ref l2)]/\Same H6 H7/\H7 Y=some (.lst (((hs.take i).map λt=>((cntP true (z-2) ((as.filter (disj t)).map (low t)):Nat):Int)).map V.int))) ⟨none,rfl,Same.new hY _,Ab⟩ (λi τ H7 _ ⟨_,_,sm,_⟩=>SqL.of (sm _ _ eZ)) ?_ ?_
 ·rintro i v τ H7 hv ⟨n,rfl,sm,eY⟩
  obtain ⟨t',ht',rt'⟩:=Paired.get pz' hv;have okt:=hsub t' (A8 ht');obtain ⟨x,y,rfl,_⟩:=id okt;obtain ⟨tq,rfl,htq⟩:=Bv rt';have il:=(AH.mp ht').1;have s7:=s6.trans sm;refine yesN ⟨_,rfl,_,_,rfl,rfl,_,rfl,_,rfl,l2,tq,x,y,ts,as,rfl,SqL.of (s7 _ _ el2),lift s7,two,a12,sm.ts.seq htq,λl' ys H8 s78 _ el' pl'=>?_⟩;refine ⟨z-2,l',true,ys,_,by rw[show ((z-2:Nat):Int)=(z:Int)-2 by lia];rfl,SqL.of el',pl',ACV ok okt,?_,by lia,by lia,λH9 s89=>?_⟩
  ·rw[AE]
   exact BM (CB ..) a12
  have s79:=s78.trans s89;refine ⟨_,s79 _ _ eY,BP (by rw[AE,AE,BG];lia),_,rfl,λb' o e=>?_,?_⟩
  ·rw[Ae (Ad e hY)]
   exact s79 _ _ (sm _ _ e)
  ·rw[Ab,Co,ht',Ct,Ct]
   rfl
 rintro τ H7 ⟨n,rfl,sm,eY⟩;rw[<- lz,CU] at eY;refine ⟨Y,_,rfl,SqL.of eY,?_,?_,?_⟩
 ·rw[AE]
  lia
 ·intro x hx
  obtain ⟨t',_,rfl⟩:=BQ.mp hx;have h:=ZS ((as.filter (disj t')).map (low t')) (okT (alP true) (z-2));rw[AE] at h;have h2:2 ^ (as.filter (disj t')).length<=2 ^ 12:=Fm (by decide) (BM (CB ..) a12);have h3:cntP true (z-2) ((as.filter (disj t')).map (low t'))<=4096:=BM h h2;lia
 refine ⟨rfl,?_⟩;rw[decide_eq_true]
 ·exact q _
 ·show V.int ((cntP true z as:Nat):Int)=V.int _
  rw[fc,<- RM,Fn];rfl
end
end K54
end
section
namespace L2
open PySem PySem.Spec PyProof.Rows
structure FunD(K:Au)(x qual:Str)(st:Stmt)(f:Addr)(fd:BV)(dt:Addr)(items:Array Ap):Prop where
 ex:∃(oc:Ap) (od:Option Addr) (kV doc pm:Ap) (an:Option Addr) (cdv ct:Ap) (osl:Array (Option Ap)),
  fd=BB x qual (Am st) (Ak st) (Ac st) (.ref dt) kV doc pm an cdv ct/\K.lookup f=some ⟨oc,od,.func fd,osl⟩/\Be K cdv qual=true
 tup:∃(oc:Ap) (od:Option Addr) (n:Nat) (osl:Array (Option Ap)),K.lookup dt=some ⟨oc,od,.seq items n,osl⟩
section
variable{P:AL}{w:AQ}{K:Au}{mg:Str->Option Ap}{base:Heap}
theorem FunD.ok{x qual:Str}{st:Stmt}{f dt:Addr}{items:Array Ap}{fd:BV}{N ps:List Str}{k:Nat}{sp:Sp}(F:FunD K x qual st f fd dt items)(S:FnScope N ps (Ac st))(len:∀vs H Q E,sp vs H Q E->vs.length=ps.length)
  (hbody:∀(cdv:Ap) (A:BS) (outer:List Env) (s:AA) (H:Hp) (vs:List V) (Q:VK) (E:XK),Room k (A.deeper (K0 qual (Ac st) s.heap.objs.size f cdv))->sp vs H Q E ->
   ∃t,PSs (cxOf CX0 P w K mg base N qual (Ac st) f cdv A outer s H E).nox (Ak st) t/\t {nx:=λ_ H'=>Q .non H',rt:=Q} (start N vs) H):FnOk P w K mg base CX0 (k+1) f fd ps sp:=by
 obtain ⟨oc,od,kV,doc,pm,an,cdv,ct,osl,rfl,lk,hcd⟩:=F.ex;refine ABT lk hcd S len λA outer s H vs Q E hr hsp=>?_;obtain ⟨t,h,q⟩:=hbody cdv A outer s H vs Q E hr hsp;exact ⟨t,h.nox,q⟩
theorem FunD.binds{x qual:Str}{st:Stmt}{f dt:Addr}{items:Array Ap}{fd:BV}{ps:List Str}{ds:List Ap}(F:FunD K x qual st f fd dt items)
  (h:∀(kV doc pm:Ap) (an:Option Addr) (cdv ct:Ap) (us:List Ap),(us++ds).length=ps.length->∃k:Option (Array Ap)->Sem (List (Str×Ap)),UR (BB x qual (Am st) (Ak st) (Ac st) (.ref dt) kV doc pm an cdv ct) ⟨us,[]⟩=Pp (.ref dt) >>= k/\k (some items)=pure (ps.zip (us++ds))):Binds K fd ps ds:=by
 obtain ⟨oc,od,kV,doc,pm,an,cdv,ct,osl,rfl,lk,hcd⟩:=F.ex;obtain ⟨oc',od',n,osl',lt⟩:=F.tup;intro s us hK hl;obtain ⟨k,h1,h2⟩:=h kV doc pm an cdv ct us hl;exact BindsTo.of_defaults (T:=dt) rfl (hK _ _ lt) rfl h1 h2
end
end L2
end
section
namespace K54
open PySem L2 G
theorem Vv{P:AL}{w:AQ}{K:Au}{mg:Str->Option Ap}{base:Heap}{f D dt:Addr}{fd:BV}{items:Array Ap}(F:FunD K "__init__" "Pairs.__init__" Ib f fd dt items)(cl:Cls K D)(nF:NoAttr K D "full"):FnOk P w K mg base CX0 1 f fd ["self","full"] (Ue D):=by
 refine F.ok Zn (λvs H Q E h=>?_) (λcdv A outer s H vs Q E hr h=>?_)
 ·obtain ⟨r,dx,fu,rfl,_⟩:=h
  rfl
 obtain ⟨r,dx,fu,rfl,h0,q⟩:=h;refine ⟨_,Aj (DG (pv 0) (pv 1) rfl),?_⟩;exact ⟨_,rfl,_,rfl,r,D,dx,[],rfl,h0,cl,nF,(by show 0<1000;decide),q⟩
end K54
end
namespace PySem.W.Fast
def tw10002516464992120307:=()
def tw10175705185473906459:=()
def tw10251464090787622565:=()
def tw10377367766699476913:=()
def tw10391405904250381728:=()
def tw10399186327784557213:=()
def tw10408566086568134864:=()
def tw10574688974828323953:=()
def tw10619944135892571246:=()
def tw10621305023610736337:=()
def tw10644099190877424541:=()
def tw10644744428826310682:=()
def tw10647423877121702360:=()
def tw10742356207156455981:=()
def tw10744081658146941792:=()
def tw10778535206992377867:=()
def tw10789862888880060709:=()
def tw10820729859311328332:=()
def tw10927202813310070193:=()
def tw11084139374232836177:=()
def tw11113869054629896074:=()
def tw11135524322916373629:=()
def tw11178887307317917837:=()
def tw1120176445216372564:=()
def tw11223704696787808902:=()
def tw11236324669007688311:=()
def tw11266998439901222225:=()
def tw11277643515852258168:=()
def tw11286793640245462554:=()
def tw11374106265497146190:=()
def tw1146154039510024602:=()
def tw11493376565204609583:=()
def tw11514904709408065218:=()
def tw11553677325733521447:=()
def tw11556445477093851986:=()
def tw11575884651690666713:=()
def tw11579792435004869160:=()
def tw11600113337174110617:=()
def tw11612458874898570547:=()
def tw11658853199960614582:=()
def tw11710889810286074765:=()
def tw11735600430328549791:=()
def tw1175867381627004613:=()
def tw11819275172963549967:=()
def tw11821024624824406089:=()
def tw11848878886830596898:=()
def tw11859249826776418168:=()
def tw11861249326253378430:=()
def tw11890365371175936122:=()
def tw1192507886337870358:=()
def tw11961764818022284902:=()
def tw11968442180909998907:=()
def tw1198657380864626236:=()
def tw11995044216195127231:=()
def tw12026106919096632636:=()
def tw12029646870625357215:=()
def tw12056717381276051874:=()
def tw1207800355493485094:=()
def tw12080165678493861968:=()
def tw12169422674377231177:=()
def tw12201691349455755736:=()
def tw12220718798861014221:=()
def tw12248600512400163993:=()
def tw12282415295274872833:=()
def tw12412554416431034695:=()
def tw12419516005542848438:=()
def tw1244574159234842357:=()
def tw12696991925178513097:=()
def tw12781137607755542668:=()
def tw12913682420120668127:=()
def tw13001731238751747584:=()
def tw13008234585144952006:=()
def tw13065418842766043493:=()
def tw13086707307814071004:=()
def tw13096582656497388365:=()
def tw13117387133974275049:=()
def tw13149935110696123977:=()
def tw13156170035402770117:=()
def tw13170673089086882267:=()
def tw13212309152007500959:=()
def tw1322852339467634698:=()
def tw13251137572200019678:=()
def tw13429730014401115616:=()
def tw13469572470908469865:=()
def tw13470900848472530035:=()
def tw13473677123134747993:=()
def tw13491595313823749964:=()
def tw13499360618121407741:=()
def tw13534192134084329176:=()
def tw13545872952047882288:=()
def tw13600591197676421158:=()
def tw13626955762846748758:=()
def tw13650148253684036929:=()
def tw13728659614303553176:=()
def tw13754046358394799032:=()
def tw13816541111138667523:=()
def tw13828173919982925813:=()
def tw13920952717258687936:=()
def tw13959806194317957177:=()
def tw13964239882570705242:=()
def tw14058942963032234973:=()
def tw14139175907995803897:=()
def tw14176424347817043873:=()
def tw14195329572238119517:=()
def tw14205096769125575991:=()
def tw14211354893549465528:=()
def tw14236362416312653296:=()
def tw1425899511693800743:=()
def tw14313143442616780158:=()
def tw1432304289411929450:=()
def tw14366398285771703965:=()
def tw1445137363625371063:=()
def tw14633449906529890581:=()
def tw14695958292990247098:=()
def tw14725883117575910451:=()
def tw14758282360279527087:=()
def tw14760107076125879266:=()
def tw14822231229954336963:=()
def tw14829817029110630372:=()
def tw14829959899087220103:=()
def tw14845147198007747534:=()
def tw14909281295597705415:=()
def tw14935201217633002636:=()
def tw14947672946378022206:=()
def tw15014145416669828921:=()
def tw15069890172609540496:=()
def tw15076226882836561726:=()
def tw15107699246747721536:=()
def tw15167234267173682142:=()
def tw15224117497770256551:=()
def tw15254800360469763267:=()
def tw15269720804071568716:=()
def tw1531424323845065280:=()
def tw15328891258992367676:=()
def tw15340898114917339544:=()
def tw15343001952797473980:=()
def tw15353094112430017126:=()
def tw15401250187301286822:=()
def tw1540998630548914339:=()
def tw15479686462451505894:=()
def tw15550645376168894639:=()
def tw15587042736103222319:=()
def tw156494945175304883:=()
def tw15688975214268899723:=()
def tw15719701930268398108:=()
def tw15801990832392951896:=()
def tw1586007971927143343:=()
def tw15872138385157341800:=()
def tw15883310354455992890:=()
def tw15983183695582192750:=()
def tw16060913610117169082:=()
def tw16068938544931309933:=()
def tw16083169397149039271:=()
def tw16084622911395650205:=()
def tw16104853256791063548:=()
def tw1612159749412025939:=()
def tw1616781834230932884:=()
def tw16170126611678015548:=()
def tw16215892635673088724:=()
def tw16234766963523591282:=()
def tw1632999635028157098:=()
def tw163418116173072440:=()
def tw16397355322282263215:=()
def tw16417799957274102422:=()
def tw16490345696607790161:=()
def tw1653996757668091721:=()
def tw16549412979229775876:=()
def tw16582164631809099705:=()
def tw16648191727595092499:=()
def tw16716785626453043030:=()
def tw1672679447916288502:=()
def tw16813128111869811594:=()
def tw16823314129700288753:=()
def tw16829706336789916761:=()
def tw1683494480062798577:=()
def tw16866036814196317385:=()
def tw16896779609061707206:=()
def tw16916333576886037577:=()
def tw17020026350317170142:=()
def tw17046399561564229741:=()
def tw170464915467659566:=()
def tw17100940104297957027:=()
def tw17297515891371313192:=()
def tw17322548688260409536:=()
def tw17475352096154171677:=()
def tw17487030812831246192:=()
def tw17602108552089701851:=()
def tw1761364567819830097:=()
def tw1764379921158964909:=()
def tw17659486426947370278:=()
def tw17680594637001709888:=()
def tw17702068819697642379:=()
def tw17746233188429003506:=()
def tw17782830393257241200:=()
def tw17926748073191871237:=()
def tw17937786114749555683:=()
def tw18013787400574362071:=()
def tw18014408147471565752:=()
def tw1803212072576155980:=()
def tw18072557681615077451:=()
def tw18078361349669648524:=()
def tw18155772303462750155:=()
def tw1821486818400473447:=()
def tw18267904217620189165:=()
def tw18309434628033089455:=()
def tw18364216356759896077:=()
def tw18388177463512832717:=()
def tw18426812770370115149:=()
def tw1853518244162883427:=()
def tw1866136619783805260:=()
def tw2116917534325157551:=()
def tw213228379158145307:=()
def tw2209941488655506296:=()
def tw222559125663538134:=()
def tw224060527310231033:=()
def tw2255506197078966186:=()
def tw2303320200749868332:=()
def tw2314074422573131352:=()
def tw2342333044026140169:=()
def tw2346734113261934768:=()
def tw2368571734915568913:=()
def tw2412041407640775358:=()
def tw2546548754088963551:=()
def tw257081434658109384:=()
def tw2601359848635057125:=()
def tw2620155678223723048:=()
def tw2625050653810809040:=()
def tw2645412696200535365:=()
def tw2681236762499099448:=()
def tw268186564948408676:=()
def tw2838029936126605531:=()
def tw283912512510243343:=()
def tw2953953228545166758:=()
def tw2969593985554273684:=()
def tw3003420740767406653:=()
def tw3138409681235789610:=()
def tw3167229241266719852:=()
def tw3169453351432160341:=()
def tw3261064044878139556:=()
def tw3280728500928599281:=()
def tw3409847479144462156:=()
def tw3454450113725622443:=()
def tw3484180600710303874:=()
def tw3552179852246877471:=()
def tw3570441338995140904:=()
def tw3654714526260970420:=()
def tw3663458264872438407:=()
def tw370293635663128775:=()
def tw3734502330031053593:=()
def tw3760312862578351458:=()
def tw3760656233524174898:=()
def tw3767060578576001134:=()
def tw3767827810097511908:=()
def tw3781643115702831120:=()
def tw3800542972506950726:=()
def tw3920130890740762067:=()
def tw3930184698687146284:=()
def tw3947196127851097941:=()
def tw396519997324784458:=()
def tw39706124325025035:=()
def tw399927046585653400:=()
def tw4009562842765255871:=()
def tw4095591445105976456:=()
def tw4111942392095128120:=()
def tw4178569459333654504:=()
def tw4195805009838868751:=()
def tw4230984405171721975:=()
def tw4237158513664464492:=()
def tw4276530789974322333:=()
def tw4340079669884872360:=()
def tw4545624818250828775:=()
def tw4550050041457370453:=()
def tw4593759090119413007:=()
def tw4618471128277891103:=()
def tw4635439655329100849:=()
def tw469587711160347082:=()
def tw4715237438449832633:=()
def tw4735984114262089217:=()
def tw4788601680761002785:=()
def tw4816865700368573528:=()
def tw4825954168550466757:=()
def tw484108680711165063:=()
def tw4904758050975533246:=()
def tw4907687907695768093:=()
def tw497299949664163199:=()
def tw4977047078199451183:=()
def tw5051863227504023449:=()
def tw5083046760828518331:=()
def tw5101936466243949209:=()
def tw5136018862702283862:=()
def tw5185192792143454572:=()
def tw5300940454595361921:=()
def tw5342334595343692029:=()
def tw5402868504090566468:=()
def tw5431216668120178969:=()
def tw5444246390360759839:=()
def tw5447822398491986501:=()
def tw5455216710847338493:=()
def tw5532892608589627784:=()
def tw5543799626650763309:=()
def tw5567747155800299265:=()
def tw5581929201859779702:=()
def tw5641631913878411238:=()
def tw5715941263036973771:=()
def tw5775426845783323216:=()
def tw577617159526617031:=()
def tw5778235632910983180:=()
def tw58090097380603084:=()
def tw5824231687680502886:=()
def tw5854551175714870408:=()
def tw5884771281598528542:=()
def tw5899756529752777887:=()
def tw5906262719016232122:=()
def tw5991840049007774132:=()
def tw6017070054998540738:=()
def tw6024678085853198536:=()
def tw6152753256111512521:=()
def tw6157653969993799339:=()
def tw6216136379937031847:=()
def tw6231932944771469888:=()
def tw6255551552753756565:=()
def tw6323440590998129461:=()
def tw6359185479500012397:=()
def tw6392951971431775521:=()
def tw6547438375077079856:=()
def tw6661514286952836128:=()
def tw6682176686101578962:=()
def tw6711823902472238617:=()
def tw6774838598131549717:=()
def tw6784303646229116746:=()
def tw6789800540089015027:=()
def tw6845079464991072843:=()
def tw6892192253162420778:=()
def tw6917032500160215230:=()
def tw695296938974582912:=()
def tw6958536555760165102:=()
def tw696138646183113045:=()
def tw6975620138819414570:=()
def tw6999571847009908502:=()
def tw7011207161880339657:=()
def tw7021216142502541072:=()
def tw705184478902532932:=()
def tw7088840803057799485:=()
def tw7144444461352053381:=()
def tw7152674039939690263:=()
def tw7171273165695084414:=()
def tw7183099455332076070:=()
def tw7202690919735075624:=()
def tw7315044320396699171:=()
def tw7337279476511242027:=()
def tw7384561393827015628:=()
def tw7402398270107825729:=()
def tw7455267678062307933:=()
def tw7460458761180421426:=()
def tw7467389112753406188:=()
def tw7494925786283339899:=()
def tw7524855232359107039:=()
def tw7537292519600247117:=()
def tw7575801970995323455:=()
def tw7605231892589364224:=()
def tw7625360929013236228:=()
def tw7670279097360019861:=()
def tw7695050436996271554:=()
def tw7699377881076868488:=()
def tw7800464780392472376:=()
def tw7822881200468051950:=()
def tw7908685537191322507:=()
def tw792128574398528765:=()
def tw7927749984623478555:=()
def tw7943932758987569475:=()
def tw7954960805486464094:=()
def tw7981934252755742164:=()
def tw8070752891127777301:=()
def tw8172239560522905910:=()
def tw8181464306598495498:=()
def tw8212609585874632805:=()
def tw8265493661746020117:=()
def tw8275291004209264181:=()
def tw8302640311972464948:=()
def tw8332490078058879233:=()
def tw8371358505183227755:=()
def tw8426510318752839482:=()
def tw8437214089433487941:=()
def tw8449368633612438843:=()
def tw8472616789517717773:=()
def tw8517227431541823654:=()
def tw8553586124064335505:=()
def tw8579653996033535609:=()
def tw8603920405457347051:=()
def tw8657275653639554067:=()
def tw8685417179320276433:=()
def tw8747556729955046973:=()
def tw8801167891297921572:=()
def tw8818013526081713537:=()
def tw888175345213837599:=()
def tw8931632135989764640:=()
def tw8949185322176868504:=()
def tw8955766686457188395:=()
def tw9018982044998472166:=()
def tw9027554826550017723:=()
def tw9056552600698416128:=()
def tw9151060388841174574:=()
def tw9168805487399145078:=()
def tw9188153981674218948:=()
def tw918883191482599160:=()
def tw9197326482306330010:=()
def tw9223978757832997902:=()
def tw9408536871952591904:=()
def tw9476277565437498729:=()
def tw9488006712626528121:=()
def tw9500727417302976624:=()
def tw9525305574113979041:=()
def tw9559893900319574986:=()
def tw9566548093797414321:=()
def tw9613864189157005499:=()
def tw9622938580566484558:=()
def tw9760926543585479811:=()
def tw9792024157081232139:=()
def tw98058295513130425:=()
def tw9829194123515687736:=()
def tw9864323586136034402:=()
def tw9900611129092602296:=()
def tw9911953976852275246:=()
def tw9923161660169984681:=()
end PySem.W.Fast
namespace K54
open PySem L2 G
theorem all_mk{l:Nw}{w:AQ}{K:Au}{h:Heap}{mg:Str->Option Ap}{fa C:Addr}(X:K.In h)(G:h.Ns AZ mg)(hfa:mg "law" = some (.ref fa))
  {f1:Addr}{zp zq:Option Addr}{zu:Array (Option Ap)}{zx zy zA zB u9 zE:Ap}
  {f2:Addr}{zF zG:Option Addr}{sl2:Array (Option Ap)}{zH zJ zK zL vd zM:Ap}
  {f3:Addr}{zN zO:Option Addr}{zP:Array (Option Ap)}{zQ zR zT zU vf zV:Ap}
  {f4:Addr}{zW zX:Option Addr}{zY:Array (Option Ap)}{zZ aac aad aae vg aaf:Ap}
  {f5:Addr}{aag aah:Option Addr}{aai:Array (Option Ap)}{aaj aak aal aam vh aan:Ap}
  {f6:Addr}{aao aap:Option Addr}{aaq:Array (Option Ap)}{aar aas aat aau vo aav:Ap}
  {f7:Addr}{aaw aax:Option Addr}{aay:Array (Option Ap)}{aaz aaA aaB aaC vp aaD:Ap}
  {f8:Addr}{aaE aaF:Option Addr}{aaG:Array (Option Ap)}{aaH aaI aaJ aaK vq aaL:Ap}
  {f9:Addr}{aaM aaN:Option Addr}{aaO:Array (Option Ap)}{aaP aaQ aaR aaS vA aaT:Ap}
  {f10:Addr}{vC vD:Option Addr}{vG:Array (Option Ap)}{vH vI vJ vK qH vL:Ap}
  {f11:Addr}{vM vN:Option Addr}{vO:Array (Option Ap)}{vP vQ vR vU qI vV:Ap}
  {f12:Addr}{vW vX:Option Addr}{vY:Array (Option Ap)}{vZ v7 v8 v9 qJ wg:Ap}
  {f13:Addr}{wj wk:Option Addr}{wu:Array (Option Ap)}{wz wA wB wC qK wD:Ap}
  {f14:Addr}{wF wG:Option Addr}{wH:Array (Option Ap)}{wI wJ wK wL qL wM:Ap}
  {f15:Addr}{wN wO:Option Addr}{wQ:Array (Option Ap)}{wR wU wV wW qM wX:Ap}
  {f16:Addr}{wY wZ:Option Addr}{w6:Array (Option Ap)}{xg xq xr xu qN xG:Ap}
  {f17:Addr}{xH xJ:Option Addr}{xK:Array (Option Ap)}{xM xO xP xQ qO xR:Ap}
  {f18:Addr}{xT xU:Option Addr}{xV:Array (Option Ap)}{xW xX xY xZ qP yc:Ap}
  {f19:Addr}{yd yg:Option Addr}{yh:Array (Option Ap)}{yj yp yq yr qQ yt:Ap}
  {f20:Addr}{yu yw:Option Addr}{yx:Array (Option Ap)}{yC yD yE yF qR yG:Ap}
  {f21:Addr}{yH yI:Option Addr}{yJ:Array (Option Ap)}{yK yL yM yN qT yO:Ap}
  (aC:BF K AZ "Web" = some (some (.ref C)))
  (a1:AU K (.ref C) "__init__" = some (some (.ref f1))) (i1:C0 K (.ref f1)=true) (l1:K.lookup f1=some ⟨zx,zp,.func (BB "__init__" "Web.__init__" (Am Ec) (Ak Ec) (Ac Ec) .none zy zA zB zq u9 zE),zu⟩) (c1:Be K u9 "Web.__init__" = true) (k1:AK K (.ref f1)=true)
  (a2:AU K (.ref C) "size" = some (some (.ref f2))) (i2:C0 K (.ref f2)=true) (l2:K.lookup f2=some ⟨zH,zF,.func (BB "size" "Web.size" (Am LC) (Ak LC) (Ac LC) .none zJ zK zL zG vd zM),sl2⟩) (c2:Be K vd "Web.size" = true) (k2:AK K (.ref f2)=true)
  (a3:AU K (.ref C) "ties" = some (some (.ref f3))) (i3:C0 K (.ref f3)=true) (l3:K.lookup f3=some ⟨zQ,zN,.func (BB "ties" "Web.ties" (Am MN) (Ak MN) (Ac MN) .none zR zT zU zO vf zV),zP⟩) (c3:Be K vf "Web.ties" = true) (k3:AK K (.ref f3)=true)
  (a4:AU K (.ref C) "at" = some (some (.ref f4))) (i4:C0 K (.ref f4)=true) (l4:K.lookup f4=some ⟨zZ,zW,.func (BB "at" "Web.at" (Am sAt) (Ak sAt) (Ac sAt) .none aac aad aae zX vg aaf),zY⟩) (c4:Be K vg "Web.at" = true) (k4:AK K (.ref f4)=true)
  (a5:BF K AZ "refuse_amounts" = some (some (.ref f5))) (l5:K.lookup f5=some ⟨aaj,aag,.func (BB "refuse_amounts" "refuse_amounts" (Am XD) (Ak XD) (Ac XD) .none aak aal aam aah vh aan),aai⟩) (c5:Be K vh "refuse_amounts" = true) (k5:AK K (.ref f5)=true)
  (a6:BF K AZ "checked_ties" = some (some (.ref f6))) (l6:K.lookup f6=some ⟨aar,aao,.func (BB "checked_ties" "checked_ties" (Am XC) (Ak XC) (Ac XC) .none aas aat aau aap vo aav),aaq⟩) (c6:Be K vo "checked_ties" = true) (k6:AK K (.ref f6)=true)
  (a7:BF K AZ "refuse_points" = some (some (.ref f7))) (l7:K.lookup f7=some ⟨aaz,aaw,.func (BB "refuse_points" "refuse_points" (Am XH) (Ak XH) (Ac XH) .none aaA aaB aaC aax vp aaD),aay⟩) (c7:Be K vp "refuse_points" = true) (k7:AK K (.ref f7)=true)
  (a8:BF K AZ "_law_cell" = some (some (.ref f8))) (l8:K.lookup f8=some ⟨aaH,aaE,.func (BB "_law_cell" "_law_cell" (Am NP) (Ak NP) (Ac NP) .none aaI aaJ aaK aaF vq aaL),aaG⟩) (c8:Be K vq "_law_cell" = true) (k8:AK K (.ref f8)=true)
  (a9:BF K AZ "_law_mixed" = some (some (.ref f9))) (l9:K.lookup f9=some ⟨aaP,aaM,.func (BB "_law_mixed" "_law_mixed" (Am Wj) (Ak Wj) (Ac Wj) .none aaQ aaR aaS aaN vA aaT),aaO⟩) (c9:Be K vA "_law_mixed" = true) (k9:AK K (.ref f9)=true)
  (a10:BF K AZ "_law_web" = some (some (.ref f10))) (l10:K.lookup f10=some ⟨vH,vC,.func (BB "_law_web" "_law_web" (Am Vy) (Ak Vy) (Ac Vy) .none vI vJ vK vD qH vL),vG⟩) (c10:Be K qH "_law_web" = true) (k10:AK K (.ref f10)=true)
  (a11:BF K AZ "_law_draws" = some (some (.ref f11))) (l11:K.lookup f11=some ⟨vP,vM,.func (BB "_law_draws" "_law_draws" (Am Lr) (Ak Lr) (Ac Lr) .none vQ vR vU vN qI vV),vO⟩) (c11:Be K qI "_law_draws" = true) (k11:AK K (.ref f11)=true)
  (a12:BF K AZ "sets_of" = some (some (.ref f12))) (l12:K.lookup f12=some ⟨vZ,vW,.func (BB "sets_of" "sets_of" (Am K54s.Km) (Ak K54s.Km) (Ac K54s.Km) .none v7 v8 v9 vX qJ wg),vY⟩) (c12:Be K qJ "sets_of" = true) (k12:AK K (.ref f12)=true)
  (a13:BF K AZ "least_graph" = some (some (.ref f13))) (l13:K.lookup f13=some ⟨wz,wj,.func (BB "least_graph" "least_graph" (Am K54s.Fe) (Ak K54s.Fe) (Ac K54s.Fe) .none wA wB wC wk qK wD),wu⟩) (c13:Be K qK "least_graph" = true) (k13:AK K (.ref f13)=true)
  (a14:BF K AZ "reached_knots" = some (some (.ref f14))) (l14:K.lookup f14=some ⟨wI,wF,.func (BB "reached_knots" "reached_knots" (Am K54s.Gh) (Ak K54s.Gh) (Ac K54s.Gh) .none wJ wK wL wG qL wM),wH⟩) (c14:Be K qL "reached_knots" = true) (k14:AK K (.ref f14)=true)
  (a15:BF K AZ "row_in_places" = some (some (.ref f15))) (l15:K.lookup f15=some ⟨wR,wN,.func (BB "row_in_places" "row_in_places" (Am K54s.sIn) (Ak K54s.sIn) (Ac K54s.sIn) .none wU wV wW wO qM wX),wQ⟩) (c15:Be K qM "row_in_places" = true) (k15:AK K (.ref f15)=true)
  (a16:BF K AZ "grown" = some (some (.ref f16))) (l16:K.lookup f16=some ⟨xg,wY,.func (BB "grown" "grown" (Am Iv) (Ak Iv) (Ac Iv) .none xq xr xu wZ qN xG),w6⟩) (c16:Be K qN "grown" = true) (k16:AK K (.ref f16)=true)
  (a17:BF K AZ "points_behind" = some (some (.ref f17))) (l17:K.lookup f17=some ⟨xM,xH,.func (BB "points_behind" "points_behind" (Am Ew) (Ak Ew) (Ac Ew) .none xO xP xQ xJ qO xR),xK⟩) (c17:Be K qO "points_behind" = true) (k17:AK K (.ref f17)=true)
  (a18:BF K AZ "_law_many" = some (some (.ref f18))) (l18:K.lookup f18=some ⟨xW,xT,.func (BB "_law_many" "_law_many" (Am Ig) (Ak Ig) (Ac Ig) .none xX xY xZ xU qP yc),xV⟩) (c18:Be K qP "_law_many" = true) (k18:AK K (.ref f18)=true)
  (a19:BF K AZ "_law_without" = some (some (.ref f19))) (l19:K.lookup f19=some ⟨yj,yd,.func (BB "_law_without" "_law_without" (Am Dn) (Ak Dn) (Ac Dn) .none yp yq yr yg qQ yt),yh⟩) (c19:Be K qQ "_law_without" = true) (k19:AK K (.ref f19)=true)
  (a20:BF K AZ "_law_lowered" = some (some (.ref f20))) (l20:K.lookup f20=some ⟨yC,yu,.func (BB "_law_lowered" "_law_lowered" (Am Cz) (Ak Cz) (Ac Cz) .none yD yE yF yw qR yG),yx⟩) (c20:Be K qR "_law_lowered" = true) (k20:AK K (.ref f20)=true)
  (a21:BF K AZ "law" = some (some (.ref f21))) (l21:K.lookup f21=some ⟨yK,yH,.func (BB "law" "law" (Am Qm) (Ak Qm) (Ac Qm) .none yL yM yN yI qT yO),yJ⟩) (c21:Be K qT "law" = true) (k21:AK K (.ref f21)=true)
  (pg:ES K C Nn=true) (hd:FC K C=true) (po:F9 K C=true) (sa:AU K (.ref C) "__setattr__" = some (some (.builtin "object.__setattr__"))) (mk:HK K C=true) (kc:AK K (.ref C)=true)
  (n0:AU K (.ref C) "amount" = some none)
  (n1:AU K (.ref C) "joints" = some none)
  {t0:Tok} (v0:BF K AZ "MOST_POINTS" = some (some (.int 10 t0)))
  {t1:Tok} (v1:BF K AZ "MOST_TIES" = some (some (.int 12 t1)))
  {t2:Tok} (v2:BF K AZ "SEVERAL" = some (some (.int 2 t2)))
  (z0:BF K AZ "len" = some none)
  (z1:BF K AZ "range" = some none)
  (z2:BF K AZ "int" = some none)
  (z3:BF K AZ "max" = some none)
  (z4:BF K AZ "min" = some none)
  (z5:BF K AZ "sorted" = some none)
  (z6:BF K AZ "tuple" = some none)
  (z7:BF K AZ "list" = some none)
  (z8:BF K AZ "bool" = some none)
  (z9:BF K AZ "enumerate" = some none)
  (z10:BF K AZ "isinstance" = some none)
  {D:Addr} (qU:BF K AZ "Pairs" = some (some (.ref D)))
  (dD:ES K D Nn=true)
  (dF:FC K D=true)
  (dG:F9 K D=true)
  (dH:AU K (.ref D) "__setattr__" = some (some (.builtin "object.__setattr__")))
  (jW:HK K D=true)
  (jX:AK K (.ref D)=true)
  (qW:AU K (.ref D) "__class__" = some (some (.builtin "object.__class__")))
  (qX:MB K (.builtin "object.__class__") "__get__" = some (some (.builtin "getset_descriptor.__get__")))
  (qY:NG K (.builtin "object.__class__")=some true)
  (qZ:O1 K D (.type "object")=some true)
  (rm:OK K (.ref D) (.ref D)=some true)
  {Sv:Addr} (jY:BF K AZ "Sieve" = some (some (.ref Sv)))
  (gM:ES K Sv Nn=true)
  (gO:FC K Sv=true)
  (gP:F9 K Sv=true)
  (gQ:AU K (.ref Sv) "__setattr__" = some (some (.builtin "object.__setattr__")))
  (gU:HK K Sv=true)
  (gW:AK K (.ref Sv)=true)
  (m9:AU K (.ref Sv) "__class__" = some (some (.builtin "object.__class__")))
  (nq:MB K (.builtin "object.__class__") "__get__" = some (some (.builtin "getset_descriptor.__get__")))
  (nu:NG K (.builtin "object.__class__")=some true)
  (nC:O1 K Sv (.type "object")=some true)
  (nG:OK K (.ref Sv) (.ref Sv)=some true)
  {Gw:Addr} (jZ:BF K AZ "Growth" = some (some (.ref Gw)))
  (gY:ES K Gw Nn=true)
  (gZ:FC K Gw=true)
  (g8:F9 K Gw=true)
  (iu:AU K (.ref Gw) "__setattr__" = some (some (.builtin "object.__setattr__")))
  (iw:HK K Gw=true)
  (iz:AK K (.ref Gw)=true)
  (nM:AU K (.ref Gw) "__class__" = some (some (.builtin "object.__class__")))
  (nO:MB K (.builtin "object.__class__") "__get__" = some (some (.builtin "getset_descriptor.__get__")))
  (nP:NG K (.builtin "object.__class__")=some true)
  (nQ:O1 K Gw (.type "object")=some true)
  (nT:OK K (.ref Gw) (.ref Gw)=some true)
  (nF_D:AU K (.ref D) "full" = some none)
  (iB:BF K AZ "all" = some none)
  (iC:BF K AZ "set" = some none)
  (aF:BF K AZ "reversed" = some none)
  (iD:BF K AZ "sum" = some none)
  (aY:AU K (.ref Sv) "amount" = some none)
  (dI:AU K (.ref Sv) "rows" = some none)
  (dJ:AU K (.ref Sv) "head" = some none)
  (iG:AU K (.ref Gw) "web" = some none)
  (dM:AU K (.ref Gw) "rule" = some none)
  (aZ:AU K (.ref Gw) "amount" = some none)
  (bf:AU K (.ref Gw) "behind" = some none)
  (dO:AU K (.ref Gw) "rows" = some none)
  (cG:AU K (.ref Gw) "known" = some none)
  {iH dt:Addr}{tW tX tY:Option Addr}{tZ uc:Array (Option Ap)}{ud uf ug uh nZ uo uq:Ap}{n_dt:Nat} (j4:AU K (.ref D) "__init__" = some (some (.ref iH)))
  (j5:C0 K (.ref iH)=true)
  (j6:K.lookup iH=some ⟨ud,tW,.func (BB "__init__" "Pairs.__init__" (Am Ib) (Ak Ib) (Ac Ib) (.ref dt) uf ug uh tX nZ uo),tZ⟩)
  (j7:Be K nZ "Pairs.__init__" = true)
  (d_ip:K.lookup dt=some ⟨uq,tY,.seq #[.bool false] n_dt,uc⟩)
  {aj:Addr}{iQ iR:Option Addr}{iT:Array (Option Ap)}{iU iV iW iY dh iZ:Ap} (bw:AU K (.ref D) "allows" = some (some (.ref aj)))
  (bx:C0 K (.ref aj)=true)
  (bF:K.lookup aj=some ⟨iU,iQ,.func (BB "allows" "Pairs.allows" (Am GX) (Ak GX) (Ac GX) .none iV iW iY iR dh iZ),iT⟩)
  (bH:Be K dh "Pairs.allows" = true)
  (aG:AK K (.ref aj)=true)
  {aq:Addr}{j8 j9:Option Addr}{kh:Array (Option Ap)}{kj kJ kY kZ dR lg:Ap} (cH:AU K (.ref D) "begun" = some (some (.ref aq)))
  (cI:C0 K (.ref aq)=true)
  (cJ:K.lookup aq=some ⟨kj,j8,.func (BB "begun" "TiedPoints.begun" (Am Ij) (Ak Ij) (Ac Ij) .none kJ kY kZ j9 dR lg),kh⟩)
  (cL:Be K dR "TiedPoints.begun" = true)
  (aN:AK K (.ref aq)=true)
  {au:Addr}{lq lu:Option Addr}{lC:Array (Option Ap)}{lD lE lF lG dU lH:Ap} (cM:AU K (.ref D) "taken" = some (some (.ref au)))
  (cN:C0 K (.ref au)=true)
  (cO:K.lookup au=some ⟨lD,lq,.func (BB "taken" "TiedPoints.taken" (Am Gn) (Ak Gn) (Ac Gn) .none lE lF lG lu dU lH),lC⟩)
  (cP:Be K dU "TiedPoints.taken" = true)
  (aO:AK K (.ref au)=true)
  {ak:Addr}{jc jd:Option Addr}{je:Array (Option Ap)}{jf jg jk jo dj jq:Ap} (bJ:AU K (.ref D) "passed" = some (some (.ref ak)))
  (bQ:C0 K (.ref ak)=true)
  (bV:K.lookup ak=some ⟨jf,jc,.func (BB "passed" "TiedPoints.passed" (Am Et) (Ak Et) (Ac Et) .none jg jk jo jd dj jq),je⟩)
  (bY:Be K dj "TiedPoints.passed" = true)
  (aH:AK K (.ref ak)=true)
  {cB:Addr}{rB rC:Option Addr}{rD:Array (Option Ap)}{rE rF rG rH jr rJ:Ap} (iI:AU K (.ref D) "fulfilled" = some (some (.ref cB)))
  (iJ:C0 K (.ref cB)=true)
  (iK:K.lookup cB=some ⟨rE,rB,.func (BB "fulfilled" "TiedPoints.fulfilled" (Am Vf) (Ak Vf) (Ac Vf) .none rF rG rH rC jr rJ),rD⟩)
  (iM:Be K jr "TiedPoints.fulfilled" = true)
  (dB:AK K (.ref cB)=true)
  {aK:Addr}{oN oO:Option Addr}{oR:Array (Option Ap)}{oU oV oW oX gj oY:Ap} (dW:AU K (.ref D) "left" = some (some (.ref aK)))
  (dX:C0 K (.ref aK)=true)
  (dY:K.lookup aK=some ⟨oU,oN,.func (BB "left" "Rule.left" (Am NQ) (Ak NQ) (Ac NQ) .none oV oW oX oO gj oY),oR⟩)
  (dZ:Be K gj "Rule.left" = true)
  (cC:AK K (.ref aK)=true)
  {aA:Addr}{lJ lK:Option Addr}{lM:Array (Option Ap)}{lN lQ lR lU d7 lV:Ap} (aP:AU K (.ref Sv) "__init__" = some (some (.ref aA)))
  (aQ:C0 K (.ref aA)=true)
  (cQ:K.lookup aA=some ⟨lN,lJ,.func (BB "__init__" "Sieve.__init__" (Am K54s.Ec) (Ak K54s.Ec) (Ac K54s.Ec) .none lQ lR lU lK d7 lV),lM⟩)
  (cR:Be K d7 "Sieve.__init__" = true)
  (aR:AK K (.ref aA)=true)
  {aB:Addr}{lW lX:Option Addr}{lY:Array (Option Ap)}{lZ mj mq mz d8 mF:Ap} (cU:AU K (.ref Sv) "knots" = some (some (.ref aB)))
  (cV:C0 K (.ref aB)=true)
  (cW:K.lookup aB=some ⟨lZ,lW,.func (BB "knots" "Sieve.knots" (Am K54s.IW) (Ak K54s.IW) (Ac K54s.IW) .none mj mq mz lX d8 mF),lY⟩)
  (cX:Be K d8 "Sieve.knots" = true)
  (aU:AK K (.ref aB)=true)
  {aL:Addr}{oZ pA:Option Addr}{pC:Array (Option Ap)}{pD pF pG pH gk pI:Ap} (d9:AU K (.ref Sv) "top" = some (some (.ref aL)))
  (eE:C0 K (.ref aL)=true)
  (eG:K.lookup aL=some ⟨pD,oZ,.func (BB "top" "Sieve.top" (Am K54s.WW) (Ak K54s.WW) (Ac K54s.WW) .none pF pG pH pA gk pI),pC⟩)
  (eN:Be K gk "Sieve.top" = true)
  (cD:AK K (.ref aL)=true)
  {aD:Addr}{mH mJ:Option Addr}{mQ:Array (Option Ap)}{mV mX mY mZ eO m5:Ap} (aV:AU K (.ref Gw) "__init__" = some (some (.ref aD)))
  (aW:C0 K (.ref aD)=true)
  (cY:K.lookup aD=some ⟨mV,mH,.func (BB "__init__" "Growth.__init__" (Am Gp) (Ak Gp) (Ac Gp) .none mX mY mZ mJ eO m5),mQ⟩)
  (cZ:Be K eO "Growth.__init__" = true)
  (aX:AK K (.ref aD)=true)
  {ao:Addr}{jt ju:Option Addr}{jx:Array (Option Ap)}{jy jz jA jB dz jC:Ap} (bZ:AU K (.ref Gw) "knot_at" = some (some (.ref ao)))
  (cg:C0 K (.ref ao)=true)
  (cj:K.lookup ao=some ⟨jy,jt,.func (BB "knot_at" "Growth.knot_at" (Am En) (Ak En) (Ac En) .none jz jA jB ju dz jC),jx⟩)
  (cu:Be K dz "Growth.knot_at" = true)
  (aJ:AK K (.ref ao)=true)
  {aM:Addr}{pJ pK:Option Addr}{pN:Array (Option Ap)}{pO pP pQ pR gn pU:Ap} (eU:AU K (.ref Gw) "past_points" = some (some (.ref aM)))
  (eV:C0 K (.ref aM)=true)
  (eX:K.lookup aM=some ⟨pO,pJ,.func (BB "past_points" "Growth.past_points" (Am Mw) (Ak Mw) (Ac Mw) .none pP pQ pR pK gn pU),pN⟩)
  (fj:Be K gn "Growth.past_points" = true)
  (cF:AK K (.ref aM)=true) :
  ∃fd:BV,(∀(s:AA) (v:Ap),N6 s fd ⟨[v],[]⟩ [("_law_script",v)])/\∀base:Heap,K.In base->base.Ns AZ mg->FnOk l.prog w K mg base CX0 19 fa fd ["_law_script"] (RL K):=by
 have e:=hfa.symm.trans (B8 X G a21);cases e;have jD:=BK (st:=Ec) l1 c1 k1;have rK:=jD.binds (ps:=["self","many","ties"]) λ_ _ _ _ _ _ us hl=>match us,hl with | [_,_,_],_=>rfl
 have aaU:Meth K C "__init__" f1:=⟨a1,i1,k1⟩;have aaV:=k1;have jE:=BK (st:=LC) l2 c2 k2;have jF:=jE.binds (ps:=["self"]) λ_ _ _ _ _ _ us hl=>match us,hl with | [_],_=>rfl
 have m_size:Meth K C "size" f2:=⟨a2,i2,k2⟩;have k_size:=k2;have jG:=BK (st:=MN) l3 c3 k3;have jH:=jG.binds (ps:=["self"]) λ_ _ _ _ _ _ us hl=>match us,hl with | [_],_=>rfl
 have jJ:Meth K C "ties" f3:=⟨a3,i3,k3⟩;have aaW:=k3;have rM:=BK (st:=sAt) l4 c4 k4;have yP:=rM.binds (ps:=["self","point"]) λ_ _ _ _ _ _ us hl=>match us,hl with | [_,_],_=>rfl
 have yQ:Meth K C "at" f4:=⟨a4,i4,k4⟩;have aa3:=k4;have n6:=BK (st:=XD) l5 c5 k5;have ur:=n6.binds (ps:=["points","ties"]) λ_ _ _ _ _ _ us hl=>match us,hl with | [_,_],_=>rfl
 have uw:=B8 X G a5;have ux:=k5;have oh:=BK (st:=XC) l6 c6 k6;have uy:=oh.binds (ps:=["many","ties"]) λ_ _ _ _ _ _ us hl=>match us,hl with | [_,_],_=>rfl
 have uz:=B8 X G a6;have uD:=k6;have ou:=BK (st:=XH) l7 c7 k7;have uE:=ou.binds (ps:=["many","tie"]) λ_ _ _ _ _ _ us hl=>match us,hl with | [_,_],_=>rfl
 have uF:=B8 X G a7;have uG:=k7;have jK:=BK (st:=NP) l8 c8 k8;have jL:=jK.binds (ps:=["_law_script","_law_k"]) λ_ _ _ _ _ _ us hl=>match us,hl with | [_,_],_=>rfl
 have jM:=B8 X G a8;have jN:=k8;have oA:=BK (st:=Wj) l9 c9 k9;have uH:=oA.binds (ps:=["_law_cell_here","_law_k"]) λ_ _ _ _ _ _ us hl=>match us,hl with | [_,_],_=>rfl
 have uI:=B8 X G a9;have uJ:=k9;have oE:=BK (st:=Vy) l10 c10 k10;have uK:=oE.binds (ps:=["_law_script","_law_at"]) λ_ _ _ _ _ _ us hl=>match us,hl with | [_,_],_=>rfl
 have uL:=B8 X G a10;have uM:=k10;have jO:=BK (st:=Lr) l11 c11 k11;have rN:=jO.binds (ps:=["_law_cell_here","_law_many_here","_law_most"]) λ_ _ _ _ _ _ us hl=>match us,hl with | [_,_,_],_=>rfl
 have rO:=B8 X G a11;have rP:=k11;have jP:=BK (st:=K54s.Km) l12 c12 k12;have rQ:=jP.binds (ps:=["sieve"]) λ_ _ _ _ _ _ us hl=>match us,hl with | [_],_=>rfl
 have rR:=B8 X G a12;have rT:=k12;have gq:=BK (st:=K54s.Fe) l13 c13 k13;have pX:=gq.binds (ps:=["n","rows","top"]) λ_ _ _ _ _ _ us hl=>match us,hl with | [_,_,_],_=>rfl
 have pY:=B8 X G a13;have pZ:=k13;have gw:=BK (st:=K54s.Gh) l14 c14 k14;have p7:=gw.binds (ps:=["rows","top"]) λ_ _ _ _ _ _ us hl=>match us,hl with | [_,_],_=>rfl
 have p8:=B8 X G a14;have qd:=k14;have rW:=BK (st:=K54s.sIn) l15 c15 k15;have yR:=rW.binds (ps:=["places","row"]) λ_ _ _ _ _ _ us hl=>match us,hl with | [_,_],_=>rfl
 have yS:=B8 X G a15;have k_in:=k15;have gA:=BK (st:=Iv) l16 c16 k16;have qe:=gA.binds (ps:=["web","rule"]) λ_ _ _ _ _ _ us hl=>match us,hl with | [_,_],_=>rfl
 have qg:=B8 X G a16;have qj:=k16;have jQ:=BK (st:=Ew) l17 c17 k17;have rY:=jQ.binds (ps:=["web","number"]) λ_ _ _ _ _ _ us hl=>match us,hl with | [_,_],_=>rfl
 have rZ:=B8 X G a17;have sE:=k17;have jR:=BK (st:=Ig) l18 c18 k18;have sG:=jR.binds (ps:=["_law_points","_law_ties","_law_full"]) λ_ _ _ _ _ _ us hl=>match us,hl with | [_,_,_],_=>rfl
 have sI:=B8 X G a18;have sJ:=k18;have sO:=BK (st:=Dn) l19 c19 k19;have sU:=sO.binds (ps:=["_law_ties","_law_gone"]) λ_ _ _ _ _ _ us hl=>match us,hl with | [_,_],_=>rfl
 have sV:=B8 X G a19;have sW:=k19;have oF:=BK (st:=Cz) l20 c20 k20;have uN:=oF.binds (ps:=["_law_ties","_law_gone"]) λ_ _ _ _ _ _ us hl=>match us,hl with | [_,_],_=>rfl
 have uO:=B8 X G a20;have uQ:=k20;have oG:=BK (st:=Qm) l21 c21 k21;have aa0:=oG.binds (ps:=["_law_script"]) λ_ _ _ _ _ _ us hl=>match us,hl with | [_],_=>rfl
 have aa1:=B8 X G a21;have aa2:=k21;have law_all:∀base:Heap,FnOk l.prog w K mg base CX0 19 _ _ ["_law_script"] (RL K):=λbase=>by
  have T:Txt K mg C:=⟨⟨pg,hd,po,sa⟩,n0,n1,B8 X G aC,⟨_,B8 X G v0⟩,⟨_,B8 X G v1⟩,BN X G z0,BN X G z1,BN X G z2,BN X G z3,BN X G z4,BN X G z5,BN X G z6,BN X G z7,BN X G z8,BN X G z9,BN X G z10⟩;have oH:=AAc (P:=l.prog) (w:=w) (base:=base) jK T;have yU:=ACb (P:=l.prog) (w:=w) (mg:=mg) (base:=base) oA;have uR:=AAa jO T yU uH uJ uI;have yV:=ACg oE T oH jL jN jM uR rN rP rO;have yW:=ACH (P:=l.prog) (w:=w) (base:=base) n6 T;have yX:=ABp (P:=l.prog) (w:=w) (mg:=mg) (base:=base) ou;have yZ:=ACN oh T yX uE uG uF;have uT:=Hf jD T yW ur ux uw yZ uy uD uz;have oJ:=Zu (P:=l.prog) (w:=w) (base:=base) jE T;have oK:=AAT (P:=l.prog) (w:=w) (base:=base) jG T;have aaX:=ADL (P:=l.prog) (w:=w) (base:=base) rM T;have sX:FunD K "__init__" "Pairs.__init__" Ib iH _ dt #[.bool false]:=⟨⟨_,_,_,_,_,_,_,_,_,rfl,j6,j7⟩,⟨_,_,_,_,d_ip⟩⟩;have za:Binds K _ ["self","full"] []:=sX.binds λ_ _ _ _ _ _ us hl=>match us,hl with | [_,_],_=>⟨_,rfl,rfl⟩
  have fH:=BK (st:=GX) bF bH aG;have fJ:=fH.binds (ps:=["self","count"]) λ_ _ _ _ _ _ us hl=>match us,hl with | [_,_],_=>rfl
  have fQ:Meth K D "allows" aj:=⟨bw,bx,aG⟩;have gC:=BK (st:=Ij) cJ cL aN;have qm:=gC.binds (ps:=["self","web"]) λ_ _ _ _ _ _ us hl=>match us,hl with | [_,_],_=>rfl
  have qp:Meth K D "begun" aq:=⟨cH,cI,aN⟩;have gF:=BK (st:=Gn) cO cP aO;have qt:=gF.binds (ps:=["self","web","state","number"]) λ_ _ _ _ _ _ us hl=>match us,hl with | [_,_,_,_],_=>rfl
  have qu:Meth K D "taken" au:=⟨cM,cN,aO⟩;have fV:=BK (st:=Et) bV bY aH;have m7:=fV.binds (ps:=["self","web","state","point"]) λ_ _ _ _ _ _ us hl=>match us,hl with | [_,_,_,_],_=>rfl
  have m8:Meth K D "passed" ak:=⟨bJ,bQ,aH⟩;have oM:=BK (st:=Vf) iK iM dB;have uU:=oM.binds (ps:=["self","web","state"]) λ_ _ _ _ _ _ us hl=>match us,hl with | [_,_,_],_=>rfl
  have uV:Meth K D "fulfilled" cB:=⟨iI,iJ,dB⟩;have jT:=BK (st:=NQ) dY dZ cC;have sY:=jT.binds (ps:=["self","web","state","number"]) λ_ _ _ _ _ _ us hl=>match us,hl with | [_,_,_,_],_=>rfl
  have sZ:Meth K D "left" aK:=⟨dW,dX,cC⟩;have gG:=BK (st:=K54s.Ec) cQ cR aR;have qw:=gG.binds (ps:=["self","n","rows","head"]) λ_ _ _ _ _ _ us hl=>match us,hl with | [_,_,_,_],_=>rfl
  have zj:Meth K Sv "__init__" aA:=⟨aP,aQ,aR⟩;have gH:=BK (st:=K54s.IW) cW cX aU;have qy:=gH.binds (ps:=["self"]) λ_ _ _ _ _ _ us hl=>match us,hl with | [_],_=>rfl
  have qC:Meth K Sv "knots" aB:=⟨cU,cV,aU⟩;have jU:=BK (st:=K54s.WW) eG eN cD;have tu:=jU.binds (ps:=["self"]) λ_ _ _ _ _ _ us hl=>match us,hl with | [_],_=>rfl
  have tD:Meth K Sv "top" aL:=⟨d9,eE,cD⟩;have gJ:=BK (st:=Gp) cY cZ aX;have qD:=gJ.binds (ps:=["self","web","rule"]) λ_ _ _ _ _ _ us hl=>match us,hl with | [_,_,_],_=>rfl
  have zm:Meth K Gw "__init__" aD:=⟨aV,aW,aX⟩;have fX:=BK (st:=En) cj cu aJ;have fY:=fX.binds (ps:=["self","number","reached"]) λ_ _ _ _ _ _ us hl=>match us,hl with | [_,_,_],_=>rfl
  have fZ:Meth K Gw "knot_at" ao:=⟨bZ,cg,aJ⟩;have jV:=BK (st:=Mw) eX fj cF;have tE:=jV.binds (ps:=["self","number","reached"]) λ_ _ _ _ _ _ us hl=>match us,hl with | [_,_,_],_=>rfl
  have tG:Meth K Gw "past_points" aM:=⟨eU,eV,cF⟩;have TS:K54s.Txt K mg Sv:=⟨⟨gM,gO,gP,gQ⟩,aY,dI,dJ,B8 X G jY,⟨_,B8 X G v1⟩,BN X G z0,BN X G z1,BN X G z2,BN X G z5,BN X G iC,BN X G z6,BN X G z7,BN X G z8,BN X G z9,BN X G iB,BN X G z10,BN X G z4,BN X G aF⟩;have U:∀fu,Rul (uP fu) K mg D:=λfu=>⟨⟨dD,dF,dG,dH⟩,ADP,⟨_,B8 X G v2⟩⟩;have O:Gro K mg Gw:=⟨⟨gY,gZ,g8,iu⟩,B8 X G jZ,iG,dM,aZ,bf,dO,cG⟩;have aaY:=Vv (P:=l.prog) (w:=w) (mg:=mg) (base:=base) sX ⟨dD,dF,dG,dH⟩ nF_D;have gK:=λfu=>XJ (fu:=fu) (P:=l.prog) (w:=w) (mg:=mg) (base:=base) (D:=D) fH ⟨dD,dF,dG,dH⟩ nF_D;have tH:=Yi (D:=D) gC T oJ jF m_size;have tK:=λfu=>Xd gF T (U fu) (gK fu) fJ fQ oK jH jJ;have qF:=λfu=>Vh fV T (U fu) (gK fu) fJ fQ;have zc:=ACI (P:=l.prog) (w:=w) (mg:=mg) (base:=base) oM;have uW:=AAe (P:=l.prog) (w:=w) (mg:=mg) (base:=base) jT;have tM:=K54s.Hf (P:=l.prog) (w:=w) (base:=base) gG TS;have tO:=K54s.Zi (P:=l.prog) (w:=w) (base:=base) gH TS;have uX:=K54s.ACP (P:=l.prog) (w:=w) (base:=base) jU TS;have uY:=K54s.AAQ jP TS tO qy qC uX tu tD;have aaZ:=K54s.ADT (P:=l.prog) (w:=w) (mg:=mg) (base:=base) rW;have tQ:=K54s.Xj (P:=l.prog) (w:=w) (base:=base) gw TS;have tR:=K54s.Yo gq TS ⟨gU,aP,aQ,gW⟩ tQ p7 qd p8 aaZ yR k_in yS tM qw;have uZ:=AAi jQ T oJ jF m_size aaX yP yQ;have tU:=λfu=>YH (u:=uP fu) (D:=D) gJ T O oK jH jJ uZ rY sE rZ;have u5:=λfu=>AAP (C:=C) jV (U fu) O (qF fu) m7 m8;have qG:=λfu=>Mj fX T (U fu) O (u5 fu) tE tG uW sY sZ (tK fu) qt qu zc uU uV fY fZ;have tV:=λfu=>Xp gA (U fu) O ⟨iw,aV,aW,iz⟩ (tU fu) qD (qG fu) fY fZ tH qm qp tR pX pZ pY;have u6:=Xy jR T ⟨mk,a1,i1,kc⟩ ⟨jW,j4,j5,jX⟩ (B8 X G qU) uT rK aaY za tV qe qj qg uY rQ rT rR;have vB:=Sw (P:=l.prog) (w:=w) (mg:=mg) (base:=base) sO;have zf:=Tp oF T vB sU sW sV;exact ACR oG T (BN X G iD) oH jL jN jM yV uK uM uL u6 sG sJ sI vB sU sW sV zf uN uQ uO
 exact ⟨_,λs v=>.of_eq rfl,λbase _ _=>law_all base⟩
theorem walk{l:Nw}{q:AL}{loose:List Str}{XP:(Str->Option Ap)->Heap->Prop}{YP:AQ->Heap->Prop}{d:DefRec}{K:UT->Au}(hn:l.most=some 63)(hdf:d.params.defaults=[])
  (hY:∀(w:AQ) (h:Heap),YP w h->(K w.params).In h)
  (F:∀(w:AQ) (mg:Str->Option Ap) (fa:Addr) (h:Heap),(K w.params).In h->h.Ns AZ mg->mg d.name=some (.ref fa) ->
   ∃fd:BV,(∀(s:AA) (u:Ap),N6 s fd ⟨[u],[]⟩ [("_law_script",u)])/\∀base:Heap,(K w.params).In base->base.Ns AZ mg->FnOk l.prog w (K w.params) mg base CX0 19 fa fd ["_law_script"] (RL (K w.params))) :
  Tk q loose XP YP l.row.toRowW d [] (λf vs=>Sb f vs) :=
 L2.AAz (n:=63) (k:=19) (x:="_law_script") (CX:=λ_=>CX0) (sp:=λw=>RL (K w.params)) hn (by decide) hdf ⟨rfl,by decide,by decide,rfl⟩ hY F (λ_ _ a ns hl _ hS=>⟨a,ns,rfl,hS,hl,λ_=>rfl⟩) λ_ _ _ _ _ z=>z
end K54
open PySem PySem.W PyProof.Rows
set_option maxRecDepth 100000 in
set_option maxHeartbeats 0 in
theorem PySem.Challenge.cw_frontways_k54_whole_pairs_by_one_tie_holds : PySem.Challenge.rw_frontways_k54_whole_pairs_by_one_tie.Holds := by
 w_on;o_law;k_head;(case hw=>w_witness2)
 k_fill
 refine K54.walk (l:=PySem.Challenge.rw_frontways_k54_whole_pairs_by_one_tie) rfl rfl (λw h Y=>PySem.W.kIn_of Y) ?F
 case F =>
  intro w mg fa h KX G hmg
  refine' K54.all_mk KX G hmg ?aC ?a1 ?i1 ?l1 ?c1 ?k1 ?a2 ?i2 ?l2 ?c2 ?k2 ?a3 ?i3 ?l3 ?c3 ?k3 ?a4 ?i4 ?l4 ?c4 ?k4 ?a5 ?l5 ?c5 ?k5 ?a6 ?l6 ?c6 ?k6 ?a7 ?l7 ?c7 ?k7 ?a8 ?l8 ?c8 ?k8 ?a9 ?l9 ?c9 ?k9 ?a10 ?l10 ?c10 ?k10 ?a11 ?l11 ?c11 ?k11 ?a12 ?l12 ?c12 ?k12 ?a13 ?l13 ?c13 ?k13 ?a14 ?l14 ?c14 ?k14 ?a15 ?l15 ?c15 ?k15 ?a16 ?l16 ?c16 ?k16 ?a17 ?l17 ?c17 ?k17 ?a18 ?l18 ?c18 ?k18 ?a19 ?l19 ?c19 ?k19 ?a20 ?l20 ?c20 ?k20 ?a21 ?l21 ?c21 ?k21 ?pg ?hd ?po ?sa ?mk ?kc ?n0 ?n1 ?v0 ?v1 ?v2 ?z0 ?z1 ?z2 ?z3 ?z4 ?z5 ?z6 ?z7 ?z8 ?z9 ?z10 ?qU ?dD ?dF ?dG ?dH ?jW ?jX ?qW ?qX ?qY ?qZ ?rm ?jY ?gM ?gO ?gP ?gQ ?gU ?gW ?m9 ?nq ?nu ?nC ?nG ?jZ ?gY ?gZ ?g8 ?iu ?iw ?iz ?nM ?nO ?nP ?nQ ?nT ?nF_D ?iB ?iC ?aF ?iD ?aY ?dI ?dJ ?iG ?dM ?aZ ?bf ?dO ?cG ?j4 ?j5 ?j6 ?j7 ?d_ip ?bw ?bx ?bF ?bH ?aG ?cH ?cI ?cJ ?cL ?aN ?cM ?cN ?cO ?cP ?aO ?bJ ?bQ ?bV ?bY ?aH ?iI ?iJ ?iK ?iM ?dB ?dW ?dX ?dY ?dZ ?cC ?aP ?aQ ?cQ ?cR ?aR ?cU ?cV ?cW ?cX ?aU ?d9 ?eE ?eG ?eN ?cD ?aV ?aW ?cY ?cZ ?aX ?bZ ?cg ?cj ?cu ?aJ ?eU ?eV ?eX ?fj ?cF
  (case aC=>k_is)
  (case a1=>k_is)
  (case i1=>k_is)
  (case l1=>k_is)
  (case c1=>k_is)
  (case k1=>k_is)
  (case a2=>k_is)
  (case i2=>k_is)
  (case l2=>k_is)
  (case c2=>k_is)
  (case k2=>k_is)
  (case a3=>k_is)
  (case i3=>k_is)
  (case l3=>k_is)
  (case c3=>k_is)
  (case k3=>k_is)
  (case a4=>k_is)
  (case i4=>k_is)
  (case l4=>k_is)
  (case c4=>k_is)
  (case k4=>k_is)
  (case a5=>k_is)
  (case l5=>k_is)
  (case c5=>k_is)
  (case k5=>k_is)
  (case a6=>k_is)
  (case l6=>k_is)
  (case c6=>k_is)
  (case k6=>k_is)
  (case a7=>k_is)
  (case l7=>k_is)
  (case c7=>k_is)
  (case k7=>k_is)
  (case a8=>k_is)
  (case l8=>k_is)
  (case c8=>k_is)
  (case k8=>k_is)
  (case a9=>k_is)
  (case l9=>k_is)
  (case c9=>k_is)
  (case k9=>k_is)
  (case a10=>k_is)
  (case l10=>k_is)
  (case c10=>k_is)
  (case k10=>k_is)
  (case a11=>k_is)
  (case l11=>k_is)
  (case c11=>k_is)
  (case k11=>k_is)
  (case a12=>k_is)
  (case l12=>k_is)
  (case c12=>k_is)
  (case k12=>k_is)
  (case a13=>k_is)
  (case l13=>k_is)
  (case c13=>k_is)
  (case k13=>k_is)
  (case a14=>k_is)
  (case l14=>k_is)
  (case c14=>k_is)
  (case k14=>k_is)
  (case a15=>k_is)
  (case l15=>k_is)
  (case c15=>k_is)
  (case k15=>k_is)
  (case a16=>k_is)
  (case l16=>k_is)
  (case c16=>k_is)
  (case k16=>k_is)
  (case a17=>k_is)
  (case l17=>k_is)
  (case c17=>k_is)
  (case k17=>k_is)
  (case a18=>k_is)
  (case l18=>k_is)
  (case c18=>k_is)
  (case k18=>k_is)
  (case a19=>k_is)
  (case l19=>k_is)
  (case c19=>k_is)
  (case k19=>k_is)
  (case a20=>k_is)
  (case l20=>k_is)
  (case c20=>k_is)
  (case k20=>k_is)
  (case a21=>k_is)
  (case l21=>k_is)
  (case c21=>k_is)
  (case k21=>k_is)
  (case pg=>k_is)
  (case hd=>k_is)
  (case po=>k_is)
  (case sa=>k_is)
  (case mk=>k_is)
  (case kc=>k_is)
  (case n0=>k_is)
  (case n1=>k_is)
  (case v0=>k_is)
  (case v1=>k_is)
  (case v2=>k_is)
  (case z0=>k_is)
  (case z1=>k_is)
  (case z2=>k_is)
  (case z3=>k_is)
  (case z4=>k_is)
  (case z5=>k_is)
  (case z6=>k_is)
  (case z7=>k_is)
  (case z8=>k_is)
  (case z9=>k_is)
  (case z10=>k_is)
  (case qU=>k_is)
  (case dD=>k_is)
  (case dF=>k_is)
  (case dG=>k_is)
  (case dH=>k_is)
  (case jW=>k_is)
  (case jX=>k_is)
  (case qW=>k_is)
  (case qX=>k_is)
  (case qY=>k_is)
  (case qZ=>k_is)
  (case rm=>kit_is)
  (case jY=>k_is)
  (case gM=>k_is)
  (case gO=>k_is)
  (case gP=>k_is)
  (case gQ=>k_is)
  (case gU=>k_is)
  (case gW=>k_is)
  (case m9=>k_is)
  (case nq=>k_is)
  (case nu=>k_is)
  (case nC=>k_is)
  (case nG=>kit_is)
  (case jZ=>k_is)
  (case gY=>k_is)
  (case gZ=>k_is)
  (case g8=>k_is)
  (case iu=>k_is)
  (case iw=>k_is)
  (case iz=>k_is)
  (case nM=>k_is)
  (case nO=>k_is)
  (case nP=>k_is)
  (case nQ=>k_is)
  (case nT=>kit_is)
  (case nF_D=>k_is)
  (case iB=>k_is)
  (case iC=>k_is)
  (case aF=>k_is)
  (case iD=>k_is)
  (case aY=>k_is)
  (case dI=>k_is)
  (case dJ=>k_is)
  (case iG=>k_is)
  (case dM=>k_is)
  (case aZ=>k_is)
  (case bf=>k_is)
  (case dO=>k_is)
  (case cG=>k_is)
  (case j4=>k_is)
  (case j5=>k_is)
  (case j6=>k_is)
  (case j7=>k_is)
  (case d_ip=>k_is)
  (case bw=>k_is)
  (case bx=>k_is)
  (case bF=>k_is)
  (case bH=>k_is)
  (case aG=>k_is)
  (case cH=>k_is)
  (case cI=>k_is)
  (case cJ=>k_is)
  (case cL=>k_is)
  (case aN=>k_is)
  (case cM=>k_is)
  (case cN=>k_is)
  (case cO=>k_is)
  (case cP=>k_is)
  (case aO=>k_is)
  (case bJ=>k_is)
  (case bQ=>k_is)
  (case bV=>k_is)
  (case bY=>k_is)
  (case aH=>k_is)
  (case iI=>k_is)
  (case iJ=>k_is)
  (case iK=>k_is)
  (case iM=>k_is)
  (case dB=>k_is)
  (case dW=>k_is)
  (case dX=>k_is)
  (case dY=>k_is)
  (case dZ=>k_is)
  (case cC=>k_is)
  (case aP=>k_is)
  (case aQ=>k_is)
  (case cQ=>k_is)
  (case cR=>k_is)
  (case aR=>k_is)
  (case cU=>k_is)
  (case cV=>k_is)
  (case cW=>k_is)
  (case cX=>k_is)
  (case aU=>k_is)
  (case d9=>k_is)
  (case eE=>k_is)
  (case eG=>k_is)
  (case eN=>k_is)
  (case cD=>k_is)
  (case aV=>k_is)
  (case aW=>k_is)
  (case cY=>k_is)
  (case cZ=>k_is)
  (case aX=>k_is)
  (case bZ=>k_is)
  (case cg=>k_is)
  (case cj=>k_is)
  (case cu=>k_is)
  (case aJ=>k_is)
  (case eU=>k_is)
  (case eV=>k_is)
  (case eX=>k_is)
  (case fj=>k_is)
  (case cF=>k_is)
